/-
  switchback's IntentGets: Any bytes are the record that the document says, or none, for the reason that it says (THE STAGE'S THEOREM). For every input the law returns true, and each argument reads afterwards as it read before; switchback/intent.reaches is as the program's text lays it (the card ties it). No condition beside the row's own.
-/
import Derived.Test.YthombepmlepgfaaDoorLift
import Derived.Test.YthombepmlepgfaaDoorMget
namespace Go.Proofs.YthombepmlepgfaaDoor.intentGets
open Go.Proofs.YthombepmlepgfaaDoor
open Go.ChangeShapes Go.WideShapes Go.ChangeAt Go.RowKit
set_option linter.unusedVariables false

set_option maxRecDepth 100000 in
set_option maxHeartbeats 1000000 in
theorem walk_long (s : ByteArray) (w : World) (hg : Gl w) (hs : s.size ≤ maxLen) (h : 500 < s.size) : Calls Tryd.prog 4 #[.string s] w (Holds w) := by
  have HG := Lib.hid hg
  unfold maxLen at hs
  have HB_w := Lib.hid (Below.refl w.heap.size w)
  clear hg
  go_enter Tryd.func4, Tryd.ntmps4
  go_wp2_with fail
  refine (awake_yes _ HG.out).mono ?_
  rintro e w1 ⟨rfl, hb⟩
  have HB_w1 := Lib.hid (HB_w.out.trans (hb.mono HB_w.out.size))
  clear hb 
  go_wp2_with fail
  refine (awake_yes _ (HG.out.under HB_w1.out HG.out.1)).mono ?_
  rintro e w2 ⟨rfl, hb⟩
  have HB_w2 := Lib.hid (HB_w1.out.trans (hb.mono HB_w1.out.size))
  clear hb 
  go_wp2
  go_ret
  exact ⟨rfl, HB_w2.out⟩

set_option maxRecDepth 100000 in
set_option maxHeartbeats 4000000 in
theorem walk_main (s : ByteArray) (w : World) (hg : Gl w) (hs : s.size ≤ 500) : Calls Tryd.prog 4 #[.string s] w (Holds w) := by
  have HG := Lib.hid hg
  have HGT : Hid (∀ W, Gl W → Calls Tryd.prog 12 #[.string s] W fun e w' => e = .returned (.tuple #[recV (rget s.data.toList).1, .int .i64 ((rget s.data.toList).2 : Int)]) ∧ Below W.heap.size W w') := Lib.hid (fun W h => iget_any s W (by omega) h)
  have HMT : Hid (∀ W, Calls Tryd.prog 13 #[.string s] W fun e w' => e = .returned (.tuple #[recV (rget s.data.toList).1, .int .i64 ((rget s.data.toList).2 : Int)]) ∧ Below W.heap.size W w') := Lib.hid (fun W => mget9_any s W (by omega))
  have HE : ∀ W, (Op.equalIn 10000 27 (recV (rget s.data.toList).1) (recV (rget s.data.toList).1)).run Tryd.prog W = .ok true W := by
    obtain ⟨q, h1, h2⟩ := eq27 (fits_rget s.data.toList) (fits_rget s.data.toList)
    rw [h2.2 rfl] at h1
    exact h1
  obtain ⟨E, hE⟩ : ∃ E, E = (rget s.data.toList).2 := ⟨_, rfl⟩
  unfold recV at HGT HMT HE
  obtain ⟨cs, hcs⟩ : ∃ c, c = recC (rget s.data.toList).1 := ⟨_, rfl⟩
  have HCZ : Hid (cs.size = 19) := Lib.hid (by rw [hcs]; rfl)
  have HC1 : Hid (cs.all (·.oneCell') = true) := Lib.hid (by rw [hcs]; exact recC_one _)
  rw [← hE, ← hcs] at HGT HMT
  rw [← hcs] at HE
  have HB_w := Lib.hid (Below.refl w.heap.size w)
  clear hE hcs hg
  go_enter Tryd.func4, Tryd.ntmps4
  go_wp2_with fail
  refine (awake_yes _ HG.out).mono ?_
  rintro e w1 ⟨rfl, hb⟩
  have HB_w1 := Lib.hid (HB_w.out.trans (hb.mono HB_w.out.size))
  clear hb 
  go_wp2_with fail
  refine (HGT.out _ (HG.out.under HB_w1.out HG.out.1)).mono ?_
  rintro e w2 ⟨rfl, hb⟩
  have HB_w2 := Lib.hid (HB_w1.out.trans (hb.mono HB_w1.out.size))
  clear hb 
  go_upto_region 4 with (refine wpList_plain rfl fun _ hK => wp_store_row 27 (.tmp 3) (.tmp 18) rfl w2.heap.size cs rfl rfl 27 _ (Rw.new w2 _ 27) (by rw [HCZ.out]; exact i19) (by rw [HCZ.out]; rfl) HC1.out (hK _ _ ?_); clear hK)
  refine name_w (fun W => Rw W w2.heap.size cs 27 ∧ Below w2.heap.size w2 W) ⟨(Rw.new w2 zeroC 27).set cs, below_setRow ((Below.refl _ _).alloc (Nat.le_refl _) _) (Nat.le_refl _) _⟩ ?_
  rintro w3 ⟨hQ, hb⟩
  have RQ_w3 := Lib.hid hQ
  have HB_w3 := Lib.hid (HB_w2.out.trans (hb.mono HB_w2.out.size))
  clear hQ hb
  go_wp2_with fail
  refine (HMT.out _).mono ?_
  rintro e w4 ⟨rfl, hb⟩
  have HB_w4 := Lib.hid (HB_w3.out.trans (hb.mono HB_w3.out.size))
  have RQ_w4 := Lib.hid (RQ_w3.out.under hb RQ_w3.out.lt)
  clear hb RQ_w3
  go_upto_region 5 with (refine wpList_plain rfl fun _ hK => wp_store_row 27 (.tmp 5) (.tmp 23) rfl w4.heap.size cs rfl rfl 27 _ (Rw.new w4 _ 27) (by rw [HCZ.out]; exact i19) (by rw [HCZ.out]; rfl) HC1.out (hK _ _ ?_); clear hK)
  refine name_w (fun W => Rw W w4.heap.size cs 27 ∧ Below w4.heap.size w4 W) ⟨(Rw.new w4 zeroC 27).set cs, below_setRow ((Below.refl _ _).alloc (Nat.le_refl _) _) (Nat.le_refl _) _⟩ ?_
  rintro w5 ⟨hQ, hb⟩
  have RP_w5 := Lib.hid hQ
  have RQ_w5 := Lib.hid (RQ_w4.out.under hb RQ_w4.out.lt)
  have HB_w5 := Lib.hid (HB_w4.out.trans (hb.mono HB_w4.out.size))
  clear hQ hb
  go_wp2_with (first | (refine wpList_load_any (by rfl) 27 (.tmp 3) rfl w2.heap.size rfl 27 cs (0, 0) _ RQ_w5.out Tryd.underlying27 rfl (by rw [HCZ.out]; exact i19) ?_) | (refine wpList_load_any (by rfl) 27 (.tmp 5) rfl w4.heap.size rfl 27 cs (0, 0) _ RP_w5.out Tryd.underlying27 rfl (by rw [HCZ.out]; exact i19) ?_))
  go_ret
  exact ⟨rfl, HB_w5.out⟩
theorem walk (s : ByteArray) (w : World) (hg : Gl w) (hs : s.size ≤ maxLen) : Calls Tryd.prog 4 #[.string s] w (Holds w) := by
  by_cases h : 500 < s.size
  · exact walk_long s w hg hs h
  · exact walk_main s w hg (by omega)

/-! From the walk to the given row and card. -/
set_option maxRecDepth 100000 in
theorem lifted (os : Os) (started : os.Started) (H : Type) (enc : TypeId × Value → H) :
    ReturnsInHanded {} Tryd.checked os 4 .any (fun w args => (Rows.intentGetsSpec.pre enc Tryd.prog Tryd.f4 [] false w args ∧ laidMetH Tryd.prog laidList w) ∧ sizedMet enc Tryd.prog Tryd.f4 (OpenSpec.ofChange Rows.intentGetsSpec) false w args)
      (Rows.intentGetsSpec.post enc Tryd.prog Tryd.f4 false true false false) := by
  refine returnsInHanded_of_change_and (C := Tryd.checked) (X := fun w _ => laidMetH Tryd.prog laidList w) (fun _ _ _ hh h => h.of_heap hh) t_own started (by kernel_rfl) Tryd.func4
    (ChangeSpec.witness_shaped (enc := enc) (C := Tryd.checked) (os := os) (X := fun w _ => laidMetH Tryd.prog laidList w) false (laidWorld os) #[.string ⟨#[]⟩] 8 rfl (World.shaped_of_RefB (by kernel_rfl) (by kernel_rfl)) (by kernel_rfl) (by kernel_rfl) (by kernel_rfl) (laidWorld_met os _)) ?_
  intro W base args ds gs before hval0 hW _ _ hL _
  have hval : ∀ (j : Nat) t v, Tryd.f4.params[j]? = some t → args[j]? = some v → Value.okWide Tryd.prog W .any base t v := hval0
  have hW' := hW
  obtain ⟨p, q, hA0, hV0, rfl, hfz, hnd⟩ := hW
  have hA : DataW.TrodAll enc Tryd.prog W 0 (fun _ => true) true Tryd.f4.params.toList args.toList ds p := hA0
  rw [Tryd.params4] at hA hval
  obtain ⟨v0, vs0, d0, ds0, p0, q0, hargs, rfl, rfl, h0, r0_⟩ := trodAll_cons hA
  obtain ⟨rfl, rfl, rfl⟩ := trodAll_nil r0_
  obtain rfl : args = #[v0] := by cases args; simp_all
  obtain ⟨s, rfl, rfl, rfl, hs⟩ := Go.ChangeMaps.open_string Tryd.underlying9 (hval 0 9 v0 rfl rfl) h0
  refine (walk s W (gl_of_laid hL) hs).mono fun e W' ⟨he, hb⟩ => ?_
  subst he
  exact ⟨_, rfl, post_of_holds hW' (by kernel_rfl) rfl (by rw [Tryd.params4]; exact fun t ht => params_ok t (by simp at ht; subst ht; simp)) ⟨rfl, rfl, rfl⟩ hb⟩

theorem row_holds : Rows.IntentGetsSaid :=
  OpenClaim.holds_of_wide 4 Tryd.f4 rfl rfl rfl rfl rfl rfl rfl ⟨rfl, rfl, rfl, rfl, rfl⟩ rfl rfl rfl rfl rfl (by kernel_rfl) Tryd.func4 (by kernel_rfl)
    (of_decide_eq_true (by kernel_rfl)) (by unfold Func.isWrapper; first | (rw [if_pos (by decide +kernel)]; kernel_rfl) | (rw [if_neg (by decide +kernel)]; exact ⟨rfl, rfl⟩))
    (fun os started H enc _ => lifted os started H enc)

/-- The given statement. -/
theorem proved : Rows.IntentGetsCardSaid :=
  Claim7.holds_tied_plain_at .later [] [.data] true (true, "365df40b4b06091b173e89a3fcd023001c63cb50760d75e96657b72a7a900189") false
    row_holds (fun _ h => by cases h) (by kernel_rfl) (fun _ h => by cases h) intentGets_row_tie rfl ⟨rfl, rfl⟩ (by kernel_rfl) rfl
    (fun f fn hf hfn => by
      obtain rfl : f = 4 := Option.some.inj ((show Tryd.prog.funcNamed "switchback/switchbacklaw09.IntentGets" = some 4 by kernel_rfl).symm.trans hf) |>.symm
      obtain rfl : fn = Tryd.f4 := (Option.some.inj (Tryd.func4.symm.trans hfn)).symm
      exact ⟨by kernel_rfl, fun j t ht => by
        rw [Tryd.params4] at ht
        have ht' : t ∈ [9] := by
          have := Array.mem_of_getElem? ht
          simpa using this
        exact params_plain t (by simp at ht'; subst ht'; simp)⟩)
    (by kernel_rfl)
#print axioms proved
end Go.Proofs.YthombepmlepgfaaDoor.intentGets
