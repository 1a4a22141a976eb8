/-
  switchback's CodeGets: any bytes are the numbers that the document says, or none, for the reason that it says. For every input the call returns true, and each argument reads afterwards as it read before. No condition.
-/
import Derived.Test.YteefeloganaagaaLift
namespace Go.Proofs.Yteefeloganaagaa.codeGets
open Go.ChangeShapes Go.WideShapes Go.ChangeAt Go.RowKit

set_option maxRecDepth 100000 in
set_option maxHeartbeats 1000000 in
theorem walk_long (s : ByteArray) (w : World) (hs : s.size ≤ maxLen) (h : 1000 < s.size) : Calls Try.prog 4 #[.string s] w (Holds w) := by
  unfold maxLen at hs
  have e1 : decide (1000 < (s.size : Int)) = true := by simp; omega
  go_enter Try.func4, Try.ntmps4
  go_wp2_with fail
  refine (awake_yes _).mono ?_
  rintro e w1 ⟨rfl, hb⟩
  have HB1 := Lib.hid hb
  clear hb
  go_wp2_with fail
  refine (awake_yes _).mono ?_
  rintro e w2 ⟨rfl, hb⟩
  have HB2 := Lib.hid hb
  clear hb
  go_wp2
  go_ret
  exact ⟨rfl, HB1.out.trans (HB2.out.mono HB1.out.size)⟩

set_option maxRecDepth 100000 in
set_option maxHeartbeats 1000000 in
theorem walk_main (s : ByteArray) (w : World) (h : s.size ≤ 1000) : Calls Try.prog 4 #[.string s] w (Holds w) := by
  have e1 : decide (1000 < (s.size : Int)) = false := by simp; omega
  have hc0 := gets_count s.size s.data.toList [] (by simp)
  have HG : Hid (∀ W, Calls Try.prog 12 #[.string s] W (GotL (gets [] s.data.toList) W)) := Lib.hid (fun W => get_any s W (by omega))
  have HF : Hid (∀ W, Calls Try.prog 13 #[.string s] W (GotL (gets [] s.data.toList) W)) := Lib.hid (fun W => mget_any s W (by omega))
  obtain ⟨R, hR⟩ : ∃ R, R = gets [] s.data.toList := ⟨_, rfl⟩
  rw [← hR] at HG HF hc0
  clear hR
  obtain ⟨E, ns⟩ := R
  have hn : ns.length ≤ 1000 := by simp at hc0; omega
  clear hc0
  go_enter Try.func4, Try.ntmps4
  go_wp2_with fail
  refine (awake_yes _).mono ?_
  rintro e w1 ⟨rfl, hb⟩
  have HB1 := Lib.hid hb
  clear hb
  go_wp2_with fail
  refine (HG.out _).mono ?_
  rintro e w2 ⟨u, rfl, ho, hb⟩
  have HB2 := Lib.hid (HB1.out.trans (hb.mono HB1.out.size))
  have HU := Lib.hid (Vals.of_own ho)
  clear hb ho
  go_wp2_with fail
  refine (HF.out _).mono ?_
  rintro e w3 ⟨u', rfl, ho, hb⟩
  have HB3 := Lib.hid (HB2.out.trans (hb.mono HB2.out.size))
  have HU3 := Lib.hid (HU.out.under hb)
  have HW3 := Lib.hid (Vals.of_own ho)
  clear hb ho HU
  go_wp2_with (go_at_call 14; refine (same_any (ns.map cast) (ns.map cast) u u' w3 HU3.out HW3.out (by rw [List.length_map]; omega)).mono ?_; rintro e w4 ⟨he, hb⟩; rw [show sameB (ns.map cast) (ns.map cast) = true by simp [sameB]] at he; subst he; have HB4 := Lib.hid (HB3.out.trans (hb.mono HB3.out.size)); clear hb)
  go_ret
  exact ⟨rfl, HB4.out⟩

theorem walk (s : ByteArray) (w : World) (hs : s.size ≤ maxLen) : Calls Try.prog 4 #[.string s] w (Holds w) := by
  by_cases h : 1000 < s.size
  · exact walk_long s w hs h
  · exact walk_main s w (by omega)

/-! From the walk to the given row. -/
set_option maxRecDepth 100000 in
theorem lifted (os : Os) (started : os.Started) (H : Type) (enc : TypeId × Value → H) :
    ReturnsInHanded {} Try.checked os 4 .any (Rows.codeGetsSpec.pre6 enc Try.prog Try.f4 Rows.codeGetsRow.domain false) (Rows.codeGetsSpec.post enc Try.prog Try.f4 false true false false) := by
  refine returnsInHanded_of_change (C := Try.checked) t_own started (by kernel_rfl) Try.func4
    (ChangeSpec.witness6 (enc := enc) (C := Try.checked) false ⟨#[], #[.string ⟨#[]⟩], []⟩ 8 (by kernel_rfl) (by kernel_rfl) (by kernel_rfl) (by kernel_rfl)) ?_
  intro W base args ds gs before hval0 hW hcnd _
  have hval : ∀ (j : Nat) t v, Try.f4.params[j]? = some t → args[j]? = some v → Value.okWide Try.prog W .any base t v := hval0
  have hW' := hW
  obtain ⟨p, q, hA0, hV, rfl, hfz, hnd⟩ := hW
  have hA : DataW.TrodAll enc Try.prog W 0 (fun _ => true) true Try.f4.params.toList args.toList ds p := hA0
  rw [Try.params4] at hA hval
  obtain ⟨v0, vs0, d0, ds0, p0, q0, hargs, rfl, rfl, h0, r0⟩ := trodAll_cons hA
  obtain ⟨rfl, rfl, rfl⟩ := trodAll_nil r0
  obtain rfl : args = #[v0] := by cases args; simp_all
  obtain ⟨s, rfl, rfl, rfl, hs⟩ := Go.ChangeMaps.open_string Try.underlying9 (hval 0 9 v0 rfl rfl) h0
  refine (walk s W hs).mono fun e W' ⟨he, hb⟩ => ?_
  subst he
  exact ⟨_, rfl, post_of_holds hW' (by kernel_rfl) rfl (by rw [Try.params4]; exact fun t ht => params_ok t (by simp at ht; rcases ht with rfl <;> simp)) ⟨rfl, rfl, rfl⟩ hb⟩

/-- The given statement. -/
theorem proved : Rows.CodeGetsSaid :=
  OpenClaim.holds_of_wide 4 Try.f4 rfl rfl rfl rfl rfl rfl rfl ⟨rfl, rfl, rfl, rfl, rfl⟩ rfl rfl rfl rfl rfl (by kernel_rfl) Try.func4 (by kernel_rfl)
    (of_decide_eq_true (by kernel_rfl)) (by unfold Func.isWrapper; first | (rw [if_pos (by decide +kernel)]; kernel_rfl) | (rw [if_neg (by decide +kernel)]; exact ⟨rfl, rfl⟩))
    (fun os started H enc _ => lifted os started H enc)
#print axioms proved
end Go.Proofs.Yteefeloganaagaa.codeGets

