/-
  For every two ints and every string the law FaultWords returns true, and the arguments read as before; errors.errorType is as the program's text lays it (the card ties it). No condition beside the row's own.
-/
import Derived.Test.YtfpbilhangdccaaDoorLift
namespace Go.Proofs.YtfpbilhangdccaaDoor.faultWords
open Go.Proofs.YtfpbilhangdccaaDoor
open Go.ChangeShapes Go.WideShapes Go.ChangeAt Go.RowKit
set_option linter.unusedVariables false

set_option maxHeartbeats 1000000 in
theorem walk_nought (m : Int) (s : ByteArray) (w : World) (hg : Gl w) : Calls Tryd.prog 4 #[.int .i64 0, .int .i64 m, .string s] w (Holds w) := by
  have HG := Lib.hid hg
  clear hg
  go_enter Tryd.func4, Tryd.ntmps4
  go_wp2_with fail
  refine (awake_yes _ HG.out).mono ?_
  rintro e w1 ⟨rfl, hb1⟩
  go_wp2_with fail
  refine (awake_yes _ (HG.out.under hb1)).mono ?_
  rintro e w2 ⟨rfl, hb2⟩
  go_wp2
  go_ret
  exact ⟨rfl, hb1.trans (hb2.mono hb1.size)⟩

set_option maxHeartbeats 1000000 in
theorem walk_long (n m : Int) (s : ByteArray) (w : World) (hg : Gl w) (hn : (n == 0) = false) (hs : s.size ≤ maxLen) (hl : 100 < s.size) : Calls Tryd.prog 4 #[.int .i64 n, .int .i64 m, .string s] w (Holds w) := by
  have HG := Lib.hid hg
  clear hg
  unfold maxLen at hs
  go_enter Tryd.func4, Tryd.ntmps4
  go_wp2_with fail
  refine (awake_yes _ HG.out).mono ?_
  rintro e w1 ⟨rfl, hb1⟩
  go_wp2_with fail
  refine (awake_yes _ (HG.out.under hb1)).mono ?_
  rintro e w2 ⟨rfl, hb2⟩
  go_wp2
  go_ret
  exact ⟨rfl, hb1.trans (hb2.mono hb1.size)⟩

set_option maxHeartbeats 1000000 in
theorem walk_main (n m : Int) (s : ByteArray) (w : World) (hg : Gl w) (hn : (n == 0) = false) (hl : s.size ≤ 100) : Calls Tryd.prog 4 #[.int .i64 n, .int .i64 m, .string s] w (Holds w) := by
  have HG := Lib.hid hg
  have hn2 : ((0 : Int) == n) = false := by rw [beq_eq_false_iff_ne] at hn ⊢; exact fun h => hn h.symm
  have HN := Lib.hid hn
  clear hg
  go_enter Tryd.func4, Tryd.ntmps4
  go_wp2_with fail
  refine (awake_yes _ HG.out).mono ?_
  rintro e w1 ⟨rfl, hb1⟩
  go_wp2_with fail
  refine (new_err n s _ HN.out).mono ?_
  rintro e w2 ⟨o1, v1, rfl, hc1, hb⟩
  have HC1 := Lib.hid hc1
  have hb2 : Below w.heap.size w w2 := hb1.trans (hb.mono hb1.size)
  clear hc1 hb hb1
  go_wp2_with fail
  refine (wrap_err o1 n _ _ _ _ HC1.out).mono ?_
  rintro e w3 ⟨o, v, rfl, hc, hb⟩
  obtain ⟨T, p, rfl, _⟩ := hc.form
  have HC := Lib.hid hc
  have hb3 : Below w.heap.size w w3 := hb2.trans (hb.mono hb2.size)
  clear hc hb hb2 HC1
  go_wp2_with fail
  refine (is_err o n m _ _ _ (HG.out.under hb3) HC.out).mono ?_
  rintro e w4 ⟨rfl, hb⟩
  have hb4 : Below w.heap.size w w4 := hb3.trans (hb.mono hb3.size)
  clear hb hb3 HC
  go_wp2_with fail
  refine (is_nil _ _).mono ?_
  rintro e w5 ⟨rfl, rfl⟩
  go_wp2
  go_ret
  exact ⟨rfl, hb4⟩

theorem walk (n m : Int) (s : ByteArray) (w : World) (hg : Gl w) (hs : s.size ≤ maxLen) : Calls Tryd.prog 4 #[.int .i64 n, .int .i64 m, .string s] w (Holds w) := by
  by_cases h0 : n = 0
  · subst h0
    exact walk_nought m s w hg
  · have hn : (n == 0) = false := by simpa using h0
    by_cases h1 : 100 < s.size
    · exact walk_long n m s w hg hn hs h1
    · exact walk_main n m s w hg hn (by omega)

/-! From the walk to the given row and card. -/
set_option maxRecDepth 100000 in
theorem lifted (os : Os) (started : os.Started) (H : Type) (enc : TypeId × Value → H) :
    ReturnsInHanded {} Tryd.checked os 4 .any (fun w args => (Rows.faultWordsSpec.pre enc Tryd.prog Tryd.f4 [] false w args ∧ laidMetH Tryd.prog laidList w) ∧ sizedMet enc Tryd.prog Tryd.f4 (OpenSpec.ofChange Rows.faultWordsSpec) false w args)
      (Rows.faultWordsSpec.post enc Tryd.prog Tryd.f4 false true false false) := by
  refine returnsInHanded_of_change_and (C := Tryd.checked) (X := fun w _ => laidMetH Tryd.prog laidList w) (fun _ _ _ hh h => h.of_heap hh) t_own started (by kernel_rfl) Tryd.func4
    (ChangeSpec.witness_at (enc := enc) (C := Tryd.checked) (os := os) (X := fun w _ => laidMetH Tryd.prog laidList w) false (laidWorld os) #[.int .i64 0, .int .i64 0, .string ⟨#[]⟩] 8 rfl (by kernel_rfl) (by kernel_rfl) (by kernel_rfl) (by kernel_rfl) (by kernel_rfl) (laidWorld_met os _)) ?_
  intro W base args ds gs before hval0 hW _ _ hL _
  have hval : ∀ (j : Nat) t v, Tryd.f4.params[j]? = some t → args[j]? = some v → Value.okWide Tryd.prog W .any base t v := hval0
  have hW' := hW
  obtain ⟨p, q, hA0, hV0, rfl, hfz, hnd⟩ := hW
  have hA : DataW.TrodAll enc Tryd.prog W 0 (fun _ => true) true Tryd.f4.params.toList args.toList ds p := hA0
  rw [Tryd.params4] at hA hval
  obtain ⟨v0, vs0, d0, ds0, p0, q0, hargs, rfl, rfl, h0, r0⟩ := trodAll_cons hA
  obtain ⟨v1, vs1, d1, ds1, p1, q1, rfl, rfl, rfl, h1, r1⟩ := trodAll_cons r0
  obtain ⟨v2, vs2, d2, ds2, p2, q2, rfl, rfl, rfl, h2, r2⟩ := trodAll_cons r1
  obtain ⟨rfl, rfl, rfl⟩ := trodAll_nil r2
  obtain rfl : args = #[v0, v1, v2] := by cases args; simp_all
  obtain ⟨a0, rfl, rfl, rfl, w0⟩ := open_int Tryd.underlying3 (hval 0 3 v0 rfl rfl) h0
  obtain ⟨a1, rfl, rfl, rfl, w1⟩ := open_int Tryd.underlying3 (hval 1 3 v1 rfl rfl) h1
  obtain ⟨s, rfl, rfl, rfl, hs⟩ := Go.ChangeMaps.open_string Tryd.underlying9 (hval 2 9 v2 rfl rfl) h2
  refine (walk a0 a1 s W (gl_of_laid hL) hs).mono fun e W' ⟨he, hb⟩ => ?_
  subst he
  exact ⟨_, rfl, post_of_holds hW' (by kernel_rfl) rfl (by rw [Tryd.params4]; exact fun t ht => params_ok t (by simp at ht; rcases ht with rfl | rfl <;> simp)) ⟨rfl, rfl, rfl⟩ hb⟩

theorem row_holds : Rows.FaultWordsSaid :=
  OpenClaim.holds_of_wide 4 Tryd.f4 rfl rfl rfl rfl rfl rfl rfl ⟨rfl, rfl, rfl, rfl, rfl⟩ rfl rfl rfl rfl rfl (by kernel_rfl) Tryd.func4 (by kernel_rfl)
    (of_decide_eq_true (by kernel_rfl)) (by unfold Func.isWrapper; rw [if_neg (of_decide_eq_false (by kernel_rfl))]; exact ⟨rfl, rfl⟩)
    (fun os started H enc _ => lifted os started H enc)

/-- The given statement. -/
theorem proved : Rows.FaultWordsCardSaid :=
  Claim7.holds_tied_plain_at .later [] [.handle] true (true, "49ccd34de63943d0caefc2dafc0495ec9455355acaa0e9f8f0a6ddb58e09088f") true
    row_holds (fun _ h => by cases h) (by kernel_rfl) (fun _ h => by cases h) faultWords_row_tie rfl ⟨rfl, rfl⟩ (by kernel_rfl) rfl
    (fun f fn hf hfn => by
      obtain rfl : f = 4 := Option.some.inj ((show Tryd.prog.funcNamed "switchback/switchbacklaw02.FaultWords" = some 4 by kernel_rfl).symm.trans hf) |>.symm
      obtain rfl : fn = Tryd.f4 := (Option.some.inj (Tryd.func4.symm.trans hfn)).symm
      exact ⟨by kernel_rfl, fun j t ht => by
        rw [Tryd.params4] at ht
        have ht' : t ∈ [3, 3, 9] := by
          have := Array.mem_of_getElem? ht
          simpa using this
        exact params_plain t (by simp at ht'; rcases ht' with rfl | rfl <;> simp)⟩)
    (by kernel_rfl)
#print axioms proved
end Go.Proofs.YtfpbilhangdccaaDoor.faultWords
