/-
  For every int and every two strings the law FaultDeep returns true, and the arguments read as before; errors.errorType is as the program's text lays it (the card ties it). No condition beside the row's own.
-/
import Derived.Test.YtfpbilhangdccaaDoorLift
namespace Go.Proofs.YtfpbilhangdccaaDoor.faultDeep
open Go.Proofs.YtfpbilhangdccaaDoor
open Go.ChangeShapes Go.WideShapes Go.ChangeAt Go.RowKit
set_option linter.unusedVariables false

set_option maxHeartbeats 1000000 in
theorem walk_nought (a b : ByteArray) (w : World) (hg : Gl w) : Calls Tryd.prog 6 #[.int .i64 0, .string a, .string b] w (Holds w) := by
  have HG := Lib.hid hg
  clear hg
  go_enter Tryd.func6, Tryd.ntmps6
  go_wp2_with fail
  refine (awake_yes _ HG.out).mono ?_
  rintro e w1 ⟨rfl, hb1⟩
  go_wp2_with fail
  refine (awake_yes _ (HG.out.under hb1)).mono ?_
  rintro e w2 ⟨rfl, hb2⟩
  go_wp2
  go_ret
  exact ⟨rfl, hb1.trans (hb2.mono hb1.size)⟩

set_option maxHeartbeats 1000000 in
theorem walk_long (n : Int) (a b : ByteArray) (w : World) (hg : Gl w) (hn : (n == 0) = false) (ha : a.size ≤ maxLen) (hl : 100 < a.size) : Calls Tryd.prog 6 #[.int .i64 n, .string a, .string b] w (Holds w) := by
  have HG := Lib.hid hg
  clear hg
  unfold maxLen at ha
  go_enter Tryd.func6, Tryd.ntmps6
  go_wp2_with fail
  refine (awake_yes _ HG.out).mono ?_
  rintro e w1 ⟨rfl, hb1⟩
  go_wp2_with fail
  refine (awake_yes _ (HG.out.under hb1)).mono ?_
  rintro e w2 ⟨rfl, hb2⟩
  go_wp2
  go_ret
  exact ⟨rfl, hb1.trans (hb2.mono hb1.size)⟩

set_option maxHeartbeats 1000000 in
theorem walk_long2 (n : Int) (a b : ByteArray) (w : World) (hg : Gl w) (hn : (n == 0) = false) (hb : b.size ≤ maxLen) (ha : a.size ≤ 100) (hl : 100 < b.size) : Calls Tryd.prog 6 #[.int .i64 n, .string a, .string b] w (Holds w) := by
  have HG := Lib.hid hg
  clear hg
  unfold maxLen at hb
  go_enter Tryd.func6, Tryd.ntmps6
  go_wp2_with fail
  refine (awake_yes _ HG.out).mono ?_
  rintro e w1 ⟨rfl, hb1⟩
  go_wp2_with fail
  refine (awake_yes _ (HG.out.under hb1)).mono ?_
  rintro e w2 ⟨rfl, hb2⟩
  go_wp2
  go_ret
  exact ⟨rfl, hb1.trans (hb2.mono hb1.size)⟩

set_option maxHeartbeats 2000000 in
theorem walk_main (n : Int) (a b : ByteArray) (w : World) (hg : Gl w) (hn : (n == 0) = false) (ha : a.size ≤ 100) (hl : b.size ≤ 100) : Calls Tryd.prog 6 #[.int .i64 n, .string a, .string b] w (Holds w) := by
  have HG := Lib.hid hg
  have HN := Lib.hid hn
  clear hg
  go_enter Tryd.func6, Tryd.ntmps6
  go_wp2_with fail
  refine (awake_yes _ HG.out).mono ?_
  rintro e w1 ⟨rfl, hb1⟩
  go_wp2_with fail
  refine (new_err n a _ HN.out).mono ?_
  rintro e w2 ⟨o1, v1, rfl, hc1, hb⟩
  have HC1 := Lib.hid hc1
  have hb2 : Below w.heap.size w w2 := hb1.trans (hb.mono hb1.size)
  clear hc1 hb hb1
  go_wp2_with fail
  refine (wrap_err o1 n _ _ _ _ HC1.out).mono ?_
  rintro e w3 ⟨o2, v2, rfl, hc2, hb⟩
  have HC1 := Lib.hid (HC1.out.under hb)
  have HC2 := Lib.hid hc2
  have hb3 : Below w.heap.size w w3 := hb2.trans (hb.mono hb2.size)
  clear hc2 hb hb2
  go_wp2_with fail
  refine (wrap_err o1 n _ _ _ _ HC1.out).mono ?_
  rintro e w4 ⟨o3, v3, rfl, hc3, hb⟩
  have HC1 := Lib.hid (HC1.out.under hb)
  have HC2 := Lib.hid (HC2.out.under hb)
  have HC3 := Lib.hid hc3
  have hb4 : Below w.heap.size w w4 := hb3.trans (hb.mono hb3.size)
  clear hc3 hb hb3
  go_wp2_with fail
  refine (wrap_err o3 n _ _ _ _ HC3.out).mono ?_
  rintro e w5 ⟨o4, v4, rfl, hc4, hb⟩
  have HC1 := Lib.hid (HC1.out.under hb)
  have HC2 := Lib.hid (HC2.out.under hb)
  have HC4 := Lib.hid hc4
  have hb5 : Below w.heap.size w w5 := hb4.trans (hb.mono hb4.size)
  clear hc4 hb hb4 HC3
  go_wp2_with fail
  refine (places_err o1 n _ _ _ (by simp) (HG.out.under hb5) HC1.out).mono ?_
  rintro e w6 ⟨l1, rfl, hv, hb⟩
  have HC1 := Lib.hid (HC1.out.under hb)
  have HC2 := Lib.hid (HC2.out.under hb)
  have HC4 := Lib.hid (HC4.out.under hb)
  have HV := Lib.hid hv
  have hb6 : Below w.heap.size w w6 := hb5.trans (hb.mono hb5.size)
  clear hv hb hb5
  go_wp2_with fail
  refine (same_yes [_] _ _ _ (by simp) (HV.out.under ((Below.refl _ _).alloc (Nat.le_refl _) _)) (lit1 _ _ _)).mono ?_
  rintro e w7 ⟨rfl, hb⟩
  have hb' : Below w6.heap.size w6 w7 := ((Below.refl _ _).alloc (Nat.le_refl _) _).trans (hb.mono (by simp))
  have HC1 := Lib.hid (HC1.out.under hb')
  have HC2 := Lib.hid (HC2.out.under hb')
  have HC4 := Lib.hid (HC4.out.under hb')
  have hb7 : Below w.heap.size w w7 := hb6.trans (hb'.mono hb6.size)
  clear hb hb' HV hb6
  go_wp2_with fail
  refine (places_err o2 n _ _ _ (by simp) (HG.out.under hb7) HC2.out).mono ?_
  rintro e w8 ⟨l2, rfl, hv, hb⟩
  have HC1 := Lib.hid (HC1.out.under hb)
  have HC2 := Lib.hid (HC2.out.under hb)
  have HC4 := Lib.hid (HC4.out.under hb)
  have HV := Lib.hid hv
  have hb8 : Below w.heap.size w w8 := hb7.trans (hb.mono hb7.size)
  clear hv hb hb7
  go_wp2_with fail
  refine (same_yes [_, _] _ _ _ (by simp) (HV.out.under ((Below.refl _ _).alloc (Nat.le_refl _) _)) (lit2 _ _ _ _)).mono ?_
  rintro e w9 ⟨rfl, hb⟩
  have hb' : Below w8.heap.size w8 w9 := ((Below.refl _ _).alloc (Nat.le_refl _) _).trans (hb.mono (by simp))
  have HC1 := Lib.hid (HC1.out.under hb')
  have HC2 := Lib.hid (HC2.out.under hb')
  have HC4 := Lib.hid (HC4.out.under hb')
  have hb9 : Below w.heap.size w w9 := hb8.trans (hb'.mono hb8.size)
  clear hb hb' HV hb8
  go_wp2_with fail
  refine (places_err o4 n _ _ _ (by simp) (HG.out.under hb9) HC4.out).mono ?_
  rintro e w10 ⟨l3, rfl, hv, hb⟩
  have HC1 := Lib.hid (HC1.out.under hb)
  have HC2 := Lib.hid (HC2.out.under hb)
  have HC4 := Lib.hid (HC4.out.under hb)
  have HV := Lib.hid hv
  have hb10 : Below w.heap.size w w10 := hb9.trans (hb.mono hb9.size)
  clear hv hb hb9
  go_wp2_with fail
  refine (same_yes [_, _, _] _ _ _ (by simp) (HV.out.under ((Below.refl _ _).alloc (Nat.le_refl _) _)) (lit3 _ _ _ _ _)).mono ?_
  rintro e w11 ⟨rfl, hb⟩
  have hb' : Below w10.heap.size w10 w11 := ((Below.refl _ _).alloc (Nat.le_refl _) _).trans (hb.mono (by simp))
  have HC1 := Lib.hid (HC1.out.under hb')
  have HC2 := Lib.hid (HC2.out.under hb')
  have HC4 := Lib.hid (HC4.out.under hb')
  have hb11 : Below w.heap.size w w11 := hb10.trans (hb'.mono hb10.size)
  clear hb hb' HV hb10
  go_wp2_with fail
  refine (code_err o2 n _ _ _ (HG.out.under hb11) HC2.out).mono ?_
  rintro e w12 ⟨rfl, hb⟩
  have HC1 := Lib.hid (HC1.out.under hb)
  have HC4 := Lib.hid (HC4.out.under hb)
  have hb12 : Below w.heap.size w w12 := hb11.trans (hb.mono hb11.size)
  clear hb hb11 HC2
  go_wp2_with fail
  refine (code_err o4 n _ _ _ (HG.out.under hb12) HC4.out).mono ?_
  rintro e w13 ⟨rfl, hb⟩
  have HC1 := Lib.hid (HC1.out.under hb)
  have hb13 : Below w.heap.size w w13 := hb12.trans (hb.mono hb12.size)
  clear hb hb12 HC4
  go_wp2_with fail
  refine (code_err o1 n _ _ _ (HG.out.under hb13) HC1.out).mono ?_
  rintro e w14 ⟨rfl, hb⟩
  have hb14 : Below w.heap.size w w14 := hb13.trans (hb.mono hb13.size)
  clear hb hb13 HC1
  go_wp2
  go_ret
  exact ⟨rfl, hb14⟩

theorem walk (n : Int) (a b : ByteArray) (w : World) (hg : Gl w) (ha : a.size ≤ maxLen) (hb : b.size ≤ maxLen) : Calls Tryd.prog 6 #[.int .i64 n, .string a, .string b] w (Holds w) := by
  by_cases h0 : n = 0
  · subst h0
    exact walk_nought a b w hg
  · have hn : (n == 0) = false := by simpa using h0
    by_cases h1 : 100 < a.size
    · exact walk_long n a b w hg hn ha h1
    · by_cases h2 : 100 < b.size
      · exact walk_long2 n a b w hg hn hb (by omega) h2
      · exact walk_main n a b w hg hn (by omega) (by omega)

/-! From the walk to the given row and card. -/
set_option maxRecDepth 100000 in
theorem lifted (os : Os) (started : os.Started) (H : Type) (enc : TypeId × Value → H) :
    ReturnsInHanded {} Tryd.checked os 6 .any (fun w args => (Rows.faultDeepSpec.pre enc Tryd.prog Tryd.f6 [] false w args ∧ laidMetH Tryd.prog laidList w) ∧ sizedMet enc Tryd.prog Tryd.f6 (OpenSpec.ofChange Rows.faultDeepSpec) false w args)
      (Rows.faultDeepSpec.post enc Tryd.prog Tryd.f6 false true false false) := by
  refine returnsInHanded_of_change_and (C := Tryd.checked) (X := fun w _ => laidMetH Tryd.prog laidList w) (fun _ _ _ hh h => h.of_heap hh) t_own started (by kernel_rfl) Tryd.func6
    (ChangeSpec.witness_at (enc := enc) (C := Tryd.checked) (os := os) (X := fun w _ => laidMetH Tryd.prog laidList w) false (laidWorld os) #[.int .i64 0, .string ⟨#[]⟩, .string ⟨#[]⟩] 8 rfl (by kernel_rfl) (by kernel_rfl) (by kernel_rfl) (by kernel_rfl) (by kernel_rfl) (laidWorld_met os _)) ?_
  intro W base args ds gs before hval0 hW _ _ hL _
  have hval : ∀ (j : Nat) t v, Tryd.f6.params[j]? = some t → args[j]? = some v → Value.okWide Tryd.prog W .any base t v := hval0
  have hW' := hW
  obtain ⟨p, q, hA0, hV0, rfl, hfz, hnd⟩ := hW
  have hA : DataW.TrodAll enc Tryd.prog W 0 (fun _ => true) true Tryd.f6.params.toList args.toList ds p := hA0
  rw [Tryd.params6] at hA hval
  obtain ⟨v0, vs0, d0, ds0, p0, q0, hargs, rfl, rfl, h0, r0⟩ := trodAll_cons hA
  obtain ⟨v1, vs1, d1, ds1, p1, q1, rfl, rfl, rfl, h1, r1⟩ := trodAll_cons r0
  obtain ⟨v2, vs2, d2, ds2, p2, q2, rfl, rfl, rfl, h2, r2⟩ := trodAll_cons r1
  obtain ⟨rfl, rfl, rfl⟩ := trodAll_nil r2
  obtain rfl : args = #[v0, v1, v2] := by cases args; simp_all
  obtain ⟨a0, rfl, rfl, rfl, w0⟩ := open_int Tryd.underlying3 (hval 0 3 v0 rfl rfl) h0
  obtain ⟨s1, rfl, rfl, rfl, hs1⟩ := Go.ChangeMaps.open_string Tryd.underlying9 (hval 1 9 v1 rfl rfl) h1
  obtain ⟨s, rfl, rfl, rfl, hs⟩ := Go.ChangeMaps.open_string Tryd.underlying9 (hval 2 9 v2 rfl rfl) h2
  refine (walk a0 s1 s W (gl_of_laid hL) hs1 hs).mono fun e W' ⟨he, hb⟩ => ?_
  subst he
  exact ⟨_, rfl, post_of_holds hW' (by kernel_rfl) rfl (by rw [Tryd.params6]; exact fun t ht => params_ok t (by simp at ht; rcases ht with rfl | rfl <;> simp)) ⟨rfl, rfl, rfl⟩ hb⟩

theorem row_holds : Rows.FaultDeepSaid :=
  OpenClaim.holds_of_wide 6 Tryd.f6 rfl rfl rfl rfl rfl rfl rfl ⟨rfl, rfl, rfl, rfl, rfl⟩ rfl rfl rfl rfl rfl (by kernel_rfl) Tryd.func6 (by kernel_rfl)
    (of_decide_eq_true (by kernel_rfl)) (by unfold Func.isWrapper; rw [if_neg (of_decide_eq_false (by kernel_rfl))]; exact ⟨rfl, rfl⟩)
    (fun os started H enc _ => lifted os started H enc)

/-- The given statement. -/
theorem proved : Rows.FaultDeepCardSaid :=
  Claim7.holds_tied_plain_at .later [] [.handle] true (true, "49ccd34de63943d0caefc2dafc0495ec9455355acaa0e9f8f0a6ddb58e09088f") true
    row_holds (fun _ h => by cases h) (by kernel_rfl) (fun _ h => by cases h) faultDeep_row_tie rfl ⟨rfl, rfl⟩ (by kernel_rfl) rfl
    (fun f fn hf hfn => by
      obtain rfl : f = 6 := Option.some.inj ((show Tryd.prog.funcNamed "switchback/switchbacklaw02.FaultDeep" = some 6 by kernel_rfl).symm.trans hf) |>.symm
      obtain rfl : fn = Tryd.f6 := (Option.some.inj (Tryd.func6.symm.trans hfn)).symm
      exact ⟨by kernel_rfl, fun j t ht => by
        rw [Tryd.params6] at ht
        have ht' : t ∈ [3, 9, 9] := by
          have := Array.mem_of_getElem? ht
          simpa using this
        exact params_plain t (by simp at ht'; rcases ht' with rfl | rfl <;> simp)⟩)
    (by kernel_rfl)
#print axioms proved
end Go.Proofs.YtfpbilhangdccaaDoor.faultDeep
