/-
  switchback's FuseAll: a fuse that isn't armed bears any calls, and counts them. For every input the call returns true, and each argument reads afterwards as it read before. No condition.
-/
import Derived.Test.YtebeeeillflflaaLift
import Derived.Deep.LoopGhost
namespace Go.Proofs.Ytebeeeillflflaa.fuseAll
open Go.ChangeShapes Go.WideShapes Go.ChangeAt Go.RowKit

set_option maxHeartbeats 1000000 in
theorem walk_out (n : Int) (w : World) (h : n < 0 ∨ 1000 < n) : Calls Try.prog 6 #[.int .i64 n] w (Holds w) := by
  go_enter Try.func6, Try.ntmps6
  go_wp2_with fail
  refine (new_any _).mono ?_
  rintro e w1 ⟨b, rfl, hg, hz, hb⟩
  have HB := Lib.hid hb
  clear hz hb hg
  go_wp2_with fail
  refine (awake_yes _).mono ?_
  rintro e w2 ⟨rfl, hb2⟩
  have HB2 := Lib.hid (HB.out.trans (hb2.mono HB.out.size))
  clear hb2 HB
  rcases h with h | h
  · have e1 : decide (n < 0) = true := by simp; omega
    go_wp2_with fail
    refine (awake_yes _).mono ?_
    rintro e w3 ⟨rfl, hb3⟩
    go_wp2
    go_ret
    exact ⟨rfl, HB2.out.trans (hb3.mono HB2.out.size)⟩
  · have e1 : decide (n < 0) = false := by simp; omega
    have e2 : decide (1000 < n) = true := by simp; omega
    go_wp2_with fail
    refine (awake_yes _).mono ?_
    rintro e w3 ⟨rfl, hb3⟩
    go_wp2
    go_ret
    exact ⟨rfl, HB2.out.trans (hb3.mono HB2.out.size)⟩

set_option maxHeartbeats 2000000 in
theorem walk_small (n : Nat) (w : World) (h : n ≤ 1000) : Calls Try.prog 6 #[.int .i64 (n : Int)] w (Holds w) := by
  have e1 : decide ((n : Int) < 0) = false := by simp
  have e2 : decide (1000 < (n : Int)) = false := by simp; omega
  go_enter Try.func6, Try.ntmps6
  go_wp2_with fail
  refine (new_any _).mono ?_
  rintro e w1 ⟨b, rfl, hg, hz, hb⟩
  have HB := Lib.hid hb
  have HZ := Lib.hid hz
  have HG := Lib.hid (Nat.le_of_eq hg)
  clear hz hb hg
  go_wp2_with fail
  refine (awake_yes _).mono ?_
  rintro e w2 ⟨rfl, hb2⟩
  have HB2 := Lib.hid (HB.out.trans (hb2.mono HB.out.size))
  have HZ2 := Lib.hid (HZ.out.under hb2 HZ.out.lt)
  clear hb2 HB HZ
  go_wp2
  go_loopg [22] n (fun g i wr => ∃ k : Nat, Hid (g = n - k) ∧ k ≤ n ∧ i = .int .i64 k ∧ Hid (Fz wr b 37 ⟨false, 0, false, k⟩) ∧ Hid (Below w.heap.size w wr))
  case atStart => exact ⟨0, Lib.hid rfl, Nat.zero_le _, rfl, HZ2, HB2⟩
  case round =>
    obtain ⟨k, HK, hk, rfl, HZ, HB⟩ := hrel
    by_cases hlt : k < n
    · go_wp2_with fail
      refine (spend_free b _ _ _ _ (by omega) (by omega) HZ.out).mono ?_
      rintro e w3 ⟨rfl, hz, ho⟩
      have HZ3 := Lib.hid hz
      have HB3 := Lib.hid (ho.below HB.out HG.out)
      clear hz ho HZ HB
      go_wp2_with fail
      refine (blown_any b _ _ HZ3.out).mono ?_
      rintro e w' ⟨rfl, rfl⟩
      go_wp2_with fail
      refine (count_any b _ _ HZ3.out).mono ?_
      rintro e w' ⟨rfl, rfl⟩
      go_wp2
      go_roundg (n - (k + 1))
      case measure => have := HK.out; omega
      case rel => exact ⟨k + 1, Lib.hid rfl, by omega, by go_num, HZ3, HB3⟩
    · obtain rfl : k = n := by omega
      go_wp2_with fail
      refine (reset_any b _ _ HZ.out).mono ?_
      rintro e w3 ⟨rfl, hz, ho⟩
      have HZ3 := Lib.hid hz
      have HB3 := Lib.hid (ho.below HB.out HG.out)
      clear hz ho HZ HB
      go_wp2_with fail
      refine (count_any b _ _ HZ3.out).mono ?_
      rintro e w' ⟨rfl, rfl⟩
      go_wp2_with fail
      refine (spend_free b _ _ _ _ (by omega) (by omega) HZ3.out).mono ?_
      rintro e w4 ⟨rfl, hz, ho⟩
      have HB4 := Lib.hid (ho.below HB3.out HG.out)
      clear hz ho HZ3 HB3
      go_wp2
      go_ret
      exact ⟨rfl, HB4.out⟩

theorem walk (n : Int) (w : World) : Calls Try.prog 6 #[.int .i64 n] w (Holds w) := by
  by_cases h : 0 ≤ n ∧ n ≤ 1000
  · obtain ⟨m, rfl⟩ := Int.eq_ofNat_of_zero_le h.1
    exact walk_small m w (by omega)
  · exact walk_out n w (by omega)

/-! From the walk to the given row. -/
set_option maxRecDepth 100000 in
theorem lifted (os : Os) (started : os.Started) (H : Type) (enc : TypeId × Value → H) :
    ReturnsInHanded {} Try.checked os 6 .any (Rows.fuseAllSpec.pre6 enc Try.prog Try.f6 Rows.fuseAllRow.domain false) (Rows.fuseAllSpec.post enc Try.prog Try.f6 false true false false) := by
  refine returnsInHanded_of_change (C := Try.checked) t_own started (by kernel_rfl) Try.func6
    (ChangeSpec.witness6 (enc := enc) (C := Try.checked) false ⟨#[], #[.int .i64 0], []⟩ 8 (by kernel_rfl) (by kernel_rfl) (by kernel_rfl) (by kernel_rfl)) ?_
  intro W base args ds gs before hval0 hW hcnd _
  have hval : ∀ (j : Nat) t v, Try.f6.params[j]? = some t → args[j]? = some v → Value.okWide Try.prog W .any base t v := hval0
  have hW' := hW
  obtain ⟨p, q, hA0, hV, rfl, hfz, hnd⟩ := hW
  have hA : DataW.TrodAll enc Try.prog W 0 (fun _ => true) true Try.f6.params.toList args.toList ds p := hA0
  rw [Try.params6] at hA hval
  obtain ⟨v0, vs0, d0, ds0, p0, q0, hargs, rfl, rfl, h0, r0⟩ := trodAll_cons hA
  obtain ⟨rfl, rfl, rfl⟩ := trodAll_nil r0
  obtain rfl : args = #[v0] := by cases args; simp_all
  obtain ⟨a0, rfl, rfl, rfl, w0⟩ := open_int Try.underlying3 (hval 0 3 v0 rfl rfl) h0
  refine (walk a0 W).mono fun e W' ⟨he, hb⟩ => ?_
  subst he
  exact ⟨_, rfl, post_of_holds hW' (by kernel_rfl) rfl (by rw [Try.params6]; exact fun t ht => params_ok t (by simp at ht; rcases ht with rfl <;> simp)) ⟨rfl, rfl, rfl⟩ hb⟩

/-- The given statement. -/
theorem proved : Rows.FuseAllSaid :=
  OpenClaim.holds_of_wide 6 Try.f6 rfl rfl rfl rfl rfl rfl rfl ⟨rfl, rfl, rfl, rfl, rfl⟩ rfl rfl rfl rfl rfl (by kernel_rfl) Try.func6 (by kernel_rfl)
    (of_decide_eq_true (by kernel_rfl)) (by unfold Func.isWrapper; first | (rw [if_pos (by decide +kernel)]; kernel_rfl) | (rw [if_neg (by decide +kernel)]; exact ⟨rfl, rfl⟩))
    (fun os started H enc _ => lifted os started H enc)
#print axioms proved
end Go.Proofs.Ytebeeeillflflaa.fuseAll
