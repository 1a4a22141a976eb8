/-
  switchback's CodeOne: bytes that are got are put as they were. For every input the call returns true, and each argument reads afterwards as it read before. No condition.
-/
import Derived.Test.YteefeloganaagaaLift
namespace Go.Proofs.Yteefeloganaagaa.codeOne
open Go.ChangeShapes Go.WideShapes Go.ChangeAt Go.RowKit

set_option maxRecDepth 100000 in
set_option maxHeartbeats 1000000 in
theorem walk_long (s : ByteArray) (w : World) (hs : s.size ≤ maxLen) (h : 1000 < s.size) : Calls Try.prog 6 #[.string s] w (Holds w) := by
  unfold maxLen at hs
  have e1 : decide (1000 < (s.size : Int)) = true := by simp; omega
  go_enter Try.func6, Try.ntmps6
  go_wp2_with fail
  refine (awake_yes _).mono ?_
  rintro e w1 ⟨rfl, hb⟩
  have HB1 := Lib.hid hb
  clear hb
  go_wp2_with fail
  refine (awake_yes _).mono ?_
  rintro e w2 ⟨rfl, hb⟩
  have HB2 := Lib.hid hb
  clear hb
  go_wp2
  go_ret
  exact ⟨rfl, HB1.out.trans (HB2.out.mono HB1.out.size)⟩

set_option maxRecDepth 100000 in
set_option maxHeartbeats 1000000 in
theorem walk_main (s : ByteArray) (w : World) (h : s.size ≤ 1000) : Calls Try.prog 6 #[.string s] w (Holds w) := by
  have e1 : decide (1000 < (s.size : Int)) = false := by simp; omega
  have hc0 := gets_count s.size s.data.toList [] (by simp)
  have HG : Hid (∀ W, Calls Try.prog 12 #[.string s] W (GotL (gets [] s.data.toList) W)) := Lib.hid (fun W => get_any s W (by omega))
  have h1 := gets_one s.size s.data.toList [] (by simp)
  have h2 := gets_no s.size s.data.toList [] (by simp)
  obtain ⟨R, hR⟩ : ∃ R, R = gets [] s.data.toList := ⟨_, rfl⟩
  rw [← hR] at HG hc0 h1 h2
  clear hR
  obtain ⟨E, ns⟩ := R
  have hn : ns.length ≤ 1000 := by simp at hc0; omega
  clear hc0
  by_cases hE : E = 0
  · subst hE
    obtain ⟨ns', g1, g2, g3⟩ := h1 rfl
    obtain rfl : ns = ns' := by simpa using g1
    have HP : Hid (∀ W u, Vals W u (nums ns) → Calls Try.prog 10 #[u] W fun e w' => e = .returned (.tuple #[.string s, .bool true]) ∧ Below W.heap.size W w') := Lib.hid (fun W u hu => by
      have h3 := put_any (ns.map cast) u W (by rw [List.length_map]; omega) (fits_nums g3) hu
      rw [put_nums, ok_nums, g2] at h3
      exact h3)
    clear h1 h2 g1 g2 g3
    go_enter Try.func6, Try.ntmps6
    go_wp2_with fail
    refine (awake_yes _).mono ?_
    rintro e w1 ⟨rfl, hb⟩
    have HB1 := Lib.hid hb
    clear hb
    go_wp2_with fail
    refine (HG.out _).mono ?_
    rintro e w2 ⟨u, rfl, ho, hb⟩
    have HB2 := Lib.hid (HB1.out.trans (hb.mono HB1.out.size))
    have HU := Lib.hid (Vals.of_own ho)
    clear hb ho
    go_wp2_with fail
    refine (HP.out _ _ HU.out).mono ?_
    rintro e w3 ⟨rfl, hb⟩
    have HB3 := Lib.hid (HB2.out.trans (hb.mono HB2.out.size))
    clear hb
    go_wp2
    go_ret
    exact ⟨rfl, HB3.out⟩
  · obtain rfl : ns = [] := h2 hE
    clear h1 h2
    go_enter Try.func6, Try.ntmps6
    go_wp2_with fail
    refine (awake_yes _).mono ?_
    rintro e w1 ⟨rfl, hb⟩
    have HB1 := Lib.hid hb
    clear hb
    go_wp2_with fail
    refine (HG.out _).mono ?_
    rintro e w2 ⟨u, rfl, ho, hb⟩
    have HB2 := Lib.hid (HB1.out.trans (hb.mono HB1.out.size))
    obtain ⟨A, c, rfl⟩ := (Vals.of_own ho).slice
    rw [show (nums []).length = 0 from rfl]
    clear hb ho
    go_wp2
    go_ret
    exact ⟨rfl, HB2.out⟩

theorem walk (s : ByteArray) (w : World) (hs : s.size ≤ maxLen) : Calls Try.prog 6 #[.string s] w (Holds w) := by
  by_cases h : 1000 < s.size
  · exact walk_long s w hs h
  · exact walk_main s w (by omega)

/-! From the walk to the given row. -/
set_option maxRecDepth 100000 in
theorem lifted (os : Os) (started : os.Started) (H : Type) (enc : TypeId × Value → H) :
    ReturnsInHanded {} Try.checked os 6 .any (Rows.codeOneSpec.pre6 enc Try.prog Try.f6 Rows.codeOneRow.domain false) (Rows.codeOneSpec.post enc Try.prog Try.f6 false true false false) := by
  refine returnsInHanded_of_change (C := Try.checked) t_own started (by kernel_rfl) Try.func6
    (ChangeSpec.witness6 (enc := enc) (C := Try.checked) false ⟨#[], #[.string ⟨#[]⟩], []⟩ 8 (by kernel_rfl) (by kernel_rfl) (by kernel_rfl) (by kernel_rfl)) ?_
  intro W base args ds gs before hval0 hW hcnd _
  have hval : ∀ (j : Nat) t v, Try.f6.params[j]? = some t → args[j]? = some v → Value.okWide Try.prog W .any base t v := hval0
  have hW' := hW
  obtain ⟨p, q, hA0, hV, rfl, hfz, hnd⟩ := hW
  have hA : DataW.TrodAll enc Try.prog W 0 (fun _ => true) true Try.f6.params.toList args.toList ds p := hA0
  rw [Try.params6] at hA hval
  obtain ⟨v0, vs0, d0, ds0, p0, q0, hargs, rfl, rfl, h0, r0⟩ := trodAll_cons hA
  obtain ⟨rfl, rfl, rfl⟩ := trodAll_nil r0
  obtain rfl : args = #[v0] := by cases args; simp_all
  obtain ⟨s, rfl, rfl, rfl, hs⟩ := Go.ChangeMaps.open_string Try.underlying9 (hval 0 9 v0 rfl rfl) h0
  refine (walk s W hs).mono fun e W' ⟨he, hb⟩ => ?_
  subst he
  exact ⟨_, rfl, post_of_holds hW' (by kernel_rfl) rfl (by rw [Try.params6]; exact fun t ht => params_ok t (by simp at ht; rcases ht with rfl <;> simp)) ⟨rfl, rfl, rfl⟩ hb⟩

/-- The given statement. -/
theorem proved : Rows.CodeOneSaid :=
  OpenClaim.holds_of_wide 6 Try.f6 rfl rfl rfl rfl rfl rfl rfl ⟨rfl, rfl, rfl, rfl, rfl⟩ rfl rfl rfl rfl rfl (by kernel_rfl) Try.func6 (by kernel_rfl)
    (of_decide_eq_true (by kernel_rfl)) (by unfold Func.isWrapper; first | (rw [if_pos (by decide +kernel)]; kernel_rfl) | (rw [if_neg (by decide +kernel)]; exact ⟨rfl, rfl⟩))
    (fun os started H enc _ => lifted os started H enc)
#print axioms proved
end Go.Proofs.Yteefeloganaagaa.codeOne

