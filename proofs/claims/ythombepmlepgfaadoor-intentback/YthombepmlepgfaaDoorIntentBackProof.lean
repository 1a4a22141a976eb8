/-
  switchback's IntentBack: A record that is put is got as it was. For every input the law returns true, and each argument reads afterwards as it read before; switchback/intent.reaches is as the program's text lays it (the card ties it). No condition beside the row's own.
-/
import Derived.Test.YthombepmlepgfaaDoorLift
import Derived.Test.YthombepmlepgfaaDoorSize
namespace Go.Proofs.YthombepmlepgfaaDoor.intentBack
open Go.Proofs.YthombepmlepgfaaDoor
open Go.ChangeShapes Go.WideShapes Go.ChangeAt Go.RowKit
set_option linter.unusedVariables false

set_option maxRecDepth 100000 in
set_option maxHeartbeats 4000000 in
theorem walk (r : Rc) (w : World) (hg : Gl w) (hr : FitsR r) : Calls Tryd.prog 5 #[recV r] w (Holds w) := by
  have HG := Lib.hid hg
  have HP : Hid (∀ W, Gl W → Calls Tryd.prog 9 #[recV r] W fun e w' => e = .returned (.tuple #[.string (rput r).1, .int .i64 ((rput r).2 : Int)]) ∧ Below W.heap.size W w') := Lib.hid (fun W h => iput_any r W hr h)
  have HGT : Hid ((rput r).2 = 0 → ∀ W, Gl W → Calls Tryd.prog 12 #[.string (rput r).1] W fun e w' => e = .returned (.tuple #[recV r, .int .i64 0]) ∧ Below W.heap.size W w') := Lib.hid (fun h0 W h => by
    obtain ⟨_, _, _, _, _, _, _, _, _, _, _, hsz⟩ := rput_form h0
    have h1 := iget_any (rput r).1 W (by omega) h
    unfold GetR at h1
    rw [rget_rput h0] at h1
    exact h1)
  have HNO : Hid ((rput r).2 ≠ 0 → (rput r).1 = ⟨#[]⟩) := Lib.hid rput_no
  have HE : ∀ W, (Op.equalIn 10000 27 (recV r) (recV r)).run Tryd.prog W = .ok true W := by
    obtain ⟨q, h1, h2⟩ := eq27 hr hr
    rw [h2.2 rfl] at h1
    exact h1
  unfold recV at HP HGT HE ⊢
  obtain ⟨x, hx⟩ : ∃ x, x = (rput r).1 := ⟨_, rfl⟩
  obtain ⟨ea, hea⟩ : ∃ e, e = (rput r).2 := ⟨_, rfl⟩
  rw [← hx, ← hea] at HP HGT HNO
  obtain ⟨cs, hcs⟩ : ∃ c, c = recC r := ⟨_, rfl⟩
  have HCZ : Hid (cs.size = 19) := Lib.hid (by rw [hcs]; rfl)
  have HC1 : Hid (cs.all (·.oneCell') = true) := Lib.hid (by rw [hcs]; exact recC_one _)
  rw [← hcs] at HP HGT HE ⊢
  clear hx hea hcs hg hr
  go_enter Tryd.func5, Tryd.ntmps5
  go_upto_region 1 with (fail)
  refine name_w (fun W => Rw W w.heap.size cs 27 ∧ Below w.heap.size w W) ⟨Rw.new _ _ _, (Below.refl _ _).alloc (Nat.le_refl _) _⟩ ?_
  rintro w0 ⟨hA, hBl⟩
  have RA_w0 := Lib.hid hA
  have HB_w0 := Lib.hid hBl
  clear hA hBl
  go_wp2_with (refine wpList_load_any (by rfl) 27 (.tmp 1) rfl w.heap.size rfl 27 cs (0, 0) _ RA_w0.out Tryd.underlying27 rfl (by rw [HCZ.out]; exact i19) ?_)
  refine (HP.out _ (HG.out.under HB_w0.out HG.out.1)).mono ?_
  rintro e w1 ⟨rfl, hb⟩
  have HB_w1 := Lib.hid (HB_w0.out.trans (hb.mono HB_w0.out.size))
  have RA_w1 := Lib.hid (RA_w0.out.under hb RA_w0.out.lt)
  clear hb RA_w0
  go_wp2_with fail
  refine (awake_yes _ (HG.out.under HB_w1.out HG.out.1)).mono ?_
  rintro e w2 ⟨rfl, hb⟩
  have HB_w2 := Lib.hid (HB_w1.out.trans (hb.mono HB_w1.out.size))
  have RA_w2 := Lib.hid (RA_w1.out.under hb RA_w1.out.lt)
  clear hb RA_w1
  by_cases h1 : ea = 0
  · have HGG := Lib.hid (HGT.out h1)
    subst h1
    clear HGT HNO
    go_wp2_with fail
    refine (HGG.out _ (HG.out.under HB_w2.out HG.out.1)).mono ?_
    rintro e w3 ⟨rfl, hb⟩
    have HB_w3 := Lib.hid (HB_w2.out.trans (hb.mono HB_w2.out.size))
    have RA_w3 := Lib.hid (RA_w2.out.under hb RA_w2.out.lt)
    clear hb RA_w2
    have hb4 : Below w3.heap.size w3 ((w3.alloc (.cells zeroC 27)).setRow w3.heap.size cs) := below_setRow ((Below.refl _ _).alloc (Nat.le_refl _) _) (Nat.le_refl _) _
    go_upto_region 5 with (refine wpList_plain rfl fun _ hK => wp_store_row 27 (.tmp 5) (.tmp 26) rfl w3.heap.size cs rfl rfl 27 _ (Rw.new w3 _ 27) (by rw [HCZ.out]; exact i19) (by rw [HCZ.out]; rfl) HC1.out (hK _ _ ?_); clear hK)
    refine name_w (fun W => Rw W w3.heap.size cs 27 ∧ Below w3.heap.size w3 W) ⟨(Rw.new w3 zeroC 27).set cs, hb4⟩ ?_
    clear hb4
    rintro w4 ⟨hQ, hb⟩
    have RQ := Lib.hid hQ
    have HB_w4 := Lib.hid (HB_w3.out.trans (hb.mono HB_w3.out.size))
    have RA_w4 := Lib.hid (RA_w3.out.under hb RA_w3.out.lt)
    clear hQ hb
    go_wp2_with (first | (refine wpList_load_any (by rfl) 27 (.tmp 5) rfl w3.heap.size rfl 27 cs (0, 0) _ RQ.out Tryd.underlying27 rfl (by rw [HCZ.out]; exact i19) ?_) | (refine wpList_load_any (by rfl) 27 (.tmp 1) rfl w.heap.size rfl 27 cs (0, 0) _ RA_w4.out Tryd.underlying27 rfl (by rw [HCZ.out]; exact i19) ?_))
    go_ret
    exact ⟨rfl, HB_w4.out⟩
  · obtain rfl := HNO.out h1
    have e1 : ((ea : Int) != 0) = true := by simpa using h1
    clear h1 HGT HNO
    go_wp2_with fail
    refine (awake_yes _ (HG.out.under HB_w2.out HG.out.1)).mono ?_
    rintro e w3 ⟨rfl, hb⟩
    have HB_w3 := Lib.hid (HB_w2.out.trans (hb.mono HB_w2.out.size))
    have RA_w3 := Lib.hid (RA_w2.out.under hb RA_w2.out.lt)
    clear hb RA_w2
    go_wp2
    go_ret
    exact ⟨rfl, HB_w3.out⟩

/-! From the walk to the given row and card. -/
set_option maxRecDepth 100000 in
theorem lifted (os : Os) (started : os.Started) (H : Type) (enc : TypeId × Value → H) :
    ReturnsInHanded {} Tryd.checked os 5 .any (fun w args => (Rows.intentBackSpec.pre enc Tryd.prog Tryd.f5 [] false w args ∧ laidMetH Tryd.prog laidList w) ∧ sizedMet enc Tryd.prog Tryd.f5 (OpenSpec.ofChange Rows.intentBackSpec) false w args)
      (Rows.intentBackSpec.post enc Tryd.prog Tryd.f5 false true false false) := by
  refine returnsInHanded_of_change_and (C := Tryd.checked) (X := fun w _ => laidMetH Tryd.prog laidList w) (fun _ _ _ hh h => h.of_heap hh) t_own started (by kernel_rfl) Tryd.func5
    (ChangeSpec.witness_shaped (enc := enc) (C := Tryd.checked) (os := os) (X := fun w _ => laidMetH Tryd.prog laidList w) false (laidWorld os) #[recV zeroR] 8 rfl (World.shaped_of_RefB (by kernel_rfl) (by kernel_rfl)) (by kernel_rfl) (by kernel_rfl) (by kernel_rfl) (laidWorld_met os _)) ?_
  intro W base args ds gs before hval0 hW _ _ hL _
  have hval : ∀ (j : Nat) t v, Tryd.f5.params[j]? = some t → args[j]? = some v → Value.okWide Tryd.prog W .any base t v := hval0
  have hW' := hW
  obtain ⟨p, q, hA0, hV0, rfl, hfz, hnd⟩ := hW
  have hA : DataW.TrodAll enc Tryd.prog W 0 (fun _ => true) true Tryd.f5.params.toList args.toList ds p := hA0
  rw [Tryd.params5] at hA hval
  obtain ⟨v0, vs0, d0, ds0, p0, q0, hargs, rfl, rfl, h0, r0_⟩ := trodAll_cons hA
  obtain ⟨rfl, rfl, rfl⟩ := trodAll_nil r0_
  obtain rfl : args = #[v0] := by cases args; simp_all
  obtain ⟨r, rfl, hr⟩ := open_rec (hval 0 27 v0 rfl rfl) h0
  refine (walk r W (gl_of_laid hL) hr).mono fun e W' ⟨he, hb⟩ => ?_
  subst he
  exact ⟨_, rfl, post_of_holds hW' (by kernel_rfl) rfl (by rw [Tryd.params5]; exact fun t ht => params_ok t (by simp at ht; subst ht; simp)) ⟨rfl, rfl, rfl⟩ hb⟩

theorem row_holds : Rows.IntentBackSaid :=
  OpenClaim.holds_of_wide 5 Tryd.f5 rfl rfl rfl rfl rfl rfl rfl ⟨rfl, rfl, rfl, rfl, rfl⟩ rfl rfl rfl rfl rfl (by kernel_rfl) Tryd.func5 (by kernel_rfl)
    (of_decide_eq_true (by kernel_rfl)) (by unfold Func.isWrapper; first | (rw [if_pos (by decide +kernel)]; kernel_rfl) | (rw [if_neg (by decide +kernel)]; exact ⟨rfl, rfl⟩))
    (fun os started H enc _ => lifted os started H enc)

/-- The given statement. -/
theorem proved : Rows.IntentBackCardSaid :=
  Claim7.holds_tied_plain_at .later [] [.data] true (true, "365df40b4b06091b173e89a3fcd023001c63cb50760d75e96657b72a7a900189") false
    row_holds (fun _ h => by cases h) (by kernel_rfl) (fun _ h => by cases h) intentBack_row_tie rfl ⟨rfl, rfl⟩ (by kernel_rfl) rfl
    (fun f fn hf hfn => by
      obtain rfl : f = 5 := Option.some.inj ((show Tryd.prog.funcNamed "switchback/switchbacklaw09.IntentBack" = some 5 by kernel_rfl).symm.trans hf) |>.symm
      obtain rfl : fn = Tryd.f5 := (Option.some.inj (Tryd.func5.symm.trans hfn)).symm
      exact ⟨by kernel_rfl, fun j t ht => by
        rw [Tryd.params5] at ht
        have ht' : t ∈ [27] := by
          have := Array.mem_of_getElem? ht
          simpa using this
        exact params_plain t (by simp at ht'; subst ht'; simp)⟩)
    (by kernel_rfl)
#print axioms proved
end Go.Proofs.YthombepmlepgfaaDoor.intentBack
