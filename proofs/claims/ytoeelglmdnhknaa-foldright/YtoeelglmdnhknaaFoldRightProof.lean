/-
  switchback's FoldRight: What comes of a state that may be may be; what can't come leaves it as it is. For every input the law returns true, and each argument reads afterwards as it read before. No condition beside the row's own.
-/
import Derived.Test.YtoeelglmdnhknaaAwak
import Derived.Test.YtoeelglmdnhknaaLift
namespace Go.Proofs.Ytoeelglmdnhknaa.foldRight
open Go.Proofs.Ytoeelglmdnhknaa
open Go.ChangeShapes Go.WideShapes Go.ChangeAt Go.RowKit
set_option linter.unusedVariables false

set_option maxRecDepth 100000 in
set_option maxHeartbeats 4000000 in
theorem walk (s : St) (r : Rc) (w : World) (hs : FitsS s) (hr : FitsR r) : Calls Try.prog 5 #[stV s, recV r] w (Holds w) := by
  have HXR : Hid (rightS s = true → rightS (stepS s r).1 = true) := Lib.hid (right_step r)
  have HXW : Hid (rightS s = false → stepS s r = (s, false)) := Lib.hid (step_wrong r)
  have HXN : Hid ((stepS s r).2 = false → (stepS s r).1 = s) := Lib.hid step_no
  have HXF : Hid (FitsS (stepS s r).1) := Lib.hid (fits_step r hs)
  have HSP : Hid (∀ W, Calls Try.prog 11 #[stV s, recV r] W (StepR (stepS s r) W)) := Lib.hid (fun W => step_any s r W hr.kind)
  have HAW : Hid (∀ W, Calls Try.prog 13 #[] W fun e w' => e = .returned (.bool true) ∧ Below W.heap.size W w') := Lib.hid awake_any
  have HMR : Hid (∀ W, Calls Try.prog 15 #[stV s] W fun e w' => e = .returned (.bool (rightS s)) ∧ Below W.heap.size W w') := Lib.hid (fun W => mright_any s W)
  have EQS : Hid (∀ W, (Op.equalIn 10000 25 (.agg (stC s)) (.agg (stC s))).run Try.prog W = .ok true W) := Lib.hid (eq25 hs)
  obtain ⟨x, hx⟩ : ∃ x, x = stepS s r := ⟨_, rfl⟩
  have HM1 : Hid (∀ W, Calls Try.prog 15 #[stV x.1] W fun e w' => e = .returned (.bool (rightS x.1)) ∧ Below W.heap.size W w') := Lib.hid (fun W => mright_any x.1 W)
  have HF1 : Hid (∀ W, Calls Try.prog 14 #[stV x.1] W fun e w' => e = .returned (.bool (rightS x.1)) ∧ Below W.heap.size W w') := Lib.hid (fun W => right_any x.1 W)
  rw [← hx] at HXR HXW HXN HSP
  unfold StepR at HSP
  obtain ⟨xb, hxb⟩ : ∃ b, b = x.2 := ⟨_, rfl⟩
  rw [← hxb] at HXN HSP
  have HXB := Lib.hid hxb
  unfold stV at HSP HM1 HF1 HMR ⊢
  unfold recV at HSP ⊢
  obtain ⟨cs, hcs⟩ : ∃ c, c = stC s := ⟨_, rfl⟩
  have HE_cs := Lib.hid hcs
  have HZ_cs : Hid (cs.size = 12) := Lib.hid (by rw [hcs]; rfl)
  have H1_cs : Hid (cs.all (·.oneCell') = true) := Lib.hid (by rw [hcs]; exact stC_one _)
  obtain ⟨rs, hrs⟩ : ∃ c, c = recC r := ⟨_, rfl⟩
  have HE_rs := Lib.hid hrs
  have HZ_rs : Hid (rs.size = 19) := Lib.hid (by rw [hrs]; rfl)
  have H1_rs : Hid (rs.all (·.oneCell') = true) := Lib.hid (by rw [hrs]; exact recC_one _)
  obtain ⟨xc, hxc⟩ : ∃ c, c = stC x.1 := ⟨_, rfl⟩
  have HE_xc := Lib.hid hxc
  have HZ_xc : Hid (xc.size = 12) := Lib.hid (by rw [hxc]; rfl)
  have H1_xc : Hid (xc.all (·.oneCell') = true) := Lib.hid (by rw [hxc]; exact stC_one _)
  rw [← hcs] at HSP HMR EQS ⊢
  rw [← hrs] at HSP ⊢
  rw [← hxc] at HSP HM1 HF1
  have eqS := EQS.out
  clear hcs hrs hxc hx hxb hs hr EQS HXF
  go_enter Try.func5, Try.ntmps5
  go_upto_region 1 with (fail)
  refine name_w (fun W => Rw W w.heap.size cs 25 ∧ Rw W (w.heap.size + 1) rs 27 ∧ Below w.heap.size w W) ⟨(Rw.new _ _ _).alloc _, ?_, ((Below.refl _ _).alloc (Nat.le_refl _) _).alloc (by simp) _⟩ ?_
  · have h1 := Rw.new (w.alloc (.cells cs 25)) rs 27
    rw [size_alloc] at h1
    exact h1
  rintro u0 ⟨h0, h1, h2⟩
  have R_A_0 := Lib.hid h0
  have R_B_0 := Lib.hid h1
  have BT0 := Lib.hid h2
  clear h0 h1 h2
  go_wp2_with (first | (refine wpList_load_row rfl 25 (.tmp 2) rfl w.heap.size rfl 25 cs (0, 0) _ R_A_0.out Try.underlying25 rfl (by rw [HZ_cs.out]; exact i12) ?_) | (refine wpList_load_row rfl 27 (.tmp 3) rfl (w.heap.size + 1) rfl 27 rs (0, 0) _ R_B_0.out Try.underlying27 rfl (by rw [HZ_rs.out]; exact i19) ?_))
  refine (HSP.out _).mono ?_
  rintro e u1 ⟨rfl, hb⟩
  have R_A_1 := Lib.hid (R_A_0.out.under hb R_A_0.out.lt)
  have R_B_1 := Lib.hid (R_B_0.out.under hb R_B_0.out.lt)
  have BT1 := Lib.hid (BT0.out.trans (hb.mono BT0.out.size))
  clear hb BT0 R_A_0 R_B_0
  go_upto_region 2 with (first | (refine wpList_plain rfl fun _ hK => wp_store_row 25 (.tmp 5) (.tmp 11) rfl u1.heap.size xc rfl rfl 25 _ (Rw.new u1 _ 25) (by rw [HZ_xc.out]; exact i12) (by rw [HZ_xc.out]; rfl) H1_xc.out (hK _ _ ?_); clear hK))
  obtain ⟨X, hY⟩ : ∃ X, X = u1.heap.size := ⟨_, rfl⟩
  rw [← hY]
  refine name_w (fun W => Rw W w.heap.size cs 25 ∧ Rw W (w.heap.size + 1) rs 27 ∧ Rw W X xc 25 ∧ Below w.heap.size w W) ?_ ?_
  · have bb := below_setRow ((Below.refl u1.heap.size u1).alloc (Nat.le_refl _) (.cells zeroSC 25)) (Nat.le_refl _) (b := u1.heap.size) xc
    rw [hY]
    exact ⟨R_A_1.out.under bb R_A_1.out.lt, R_B_1.out.under bb R_B_1.out.lt, (Rw.new u1 _ 25).set xc, BT1.out.trans (bb.mono BT1.out.size)⟩
  clear hY BT1 R_A_1 R_B_1
  rintro u2 ⟨h0, h1, h2, h3⟩
  have R_A_2 := Lib.hid h0
  have R_B_2 := Lib.hid h1
  have R_X_2 := Lib.hid h2
  have BT2 := Lib.hid h3
  clear h0 h1 h2 h3
  clear HSP
  go_wp2_with fail
  refine (HAW.out _).mono ?_
  rintro e u3 ⟨rfl, hb⟩
  have R_A_3 := Lib.hid (R_A_2.out.under hb R_A_2.out.lt)
  have R_B_3 := Lib.hid (R_B_2.out.under hb R_B_2.out.lt)
  have R_X_3 := Lib.hid (R_X_2.out.under hb R_X_2.out.lt)
  have BT3 := Lib.hid (BT2.out.trans (hb.mono BT2.out.size))
  clear hb BT2 R_A_2 R_B_2 R_X_2
  go_wp2_with (first | (refine wpList_load_any (by rfl) 25 (.tmp 2) rfl w.heap.size rfl 25 cs (0, 0) _ R_A_3.out Try.underlying25 rfl (by rw [HZ_cs.out]; exact i12) ?_))
  refine (HMR.out _).mono ?_
  rintro e u4 ⟨rfl, hb⟩
  have R_A_4 := Lib.hid (R_A_3.out.under hb R_A_3.out.lt)
  have R_B_4 := Lib.hid (R_B_3.out.under hb R_B_3.out.lt)
  have R_X_4 := Lib.hid (R_X_3.out.under hb R_X_3.out.lt)
  have BT4 := Lib.hid (BT3.out.trans (hb.mono BT3.out.size))
  clear hb BT3 R_A_3 R_B_3 R_X_3
  clear HMR
  cases hrt : rightS s with
  | false =>
    have e0 := HXW.out hrt
    obtain rfl : xb = false := by rw [HXB.out, e0]
    obtain rfl : xc = cs := by rw [HE_xc.out, HE_cs.out, e0]
    clear e0 hrt HXR HXW HXN HM1 HF1
    go_upto_region 3 with (fail)
    go_wp2_with fail
    refine (HAW.out _).mono ?_
    rintro e u5 ⟨rfl, hb⟩
    have R_A_5 := Lib.hid (R_A_4.out.under hb R_A_4.out.lt)
    have R_B_5 := Lib.hid (R_B_4.out.under hb R_B_4.out.lt)
    have R_X_5 := Lib.hid (R_X_4.out.under hb R_X_4.out.lt)
    have BT5 := Lib.hid (BT4.out.trans (hb.mono BT4.out.size))
    clear hb BT4 R_A_4 R_B_4 R_X_4
    go_wp2_with (first | (refine wpList_load_any (by rfl) 25 (.tmp 5) rfl X rfl 25 xc (0, 0) _ R_X_5.out Try.underlying25 rfl (by rw [HZ_xc.out]; exact i12) ?_) | (refine wpList_load_any (by rfl) 25 (.tmp 2) rfl w.heap.size rfl 25 xc (0, 0) _ R_A_5.out Try.underlying25 rfl (by rw [HZ_xc.out]; exact i12) ?_))
    go_ret
    exact ⟨rfl, BT5.out⟩
  | true =>
    have e1 := HXR.out hrt
    rw [e1] at HM1 HF1
    clear e1 hrt HXR HXW
    go_upto_region 4 with (fail)
    go_wp2_with (first | (refine wpList_load_any (by rfl) 25 (.tmp 5) rfl X rfl 25 xc (0, 0) _ R_X_4.out Try.underlying25 rfl (by rw [HZ_xc.out]; exact i12) ?_))
    refine (HM1.out _).mono ?_
    rintro e u5 ⟨rfl, hb⟩
    have R_A_5 := Lib.hid (R_A_4.out.under hb R_A_4.out.lt)
    have R_B_5 := Lib.hid (R_B_4.out.under hb R_B_4.out.lt)
    have R_X_5 := Lib.hid (R_X_4.out.under hb R_X_4.out.lt)
    have BT5 := Lib.hid (BT4.out.trans (hb.mono BT4.out.size))
    clear hb BT4 R_A_4 R_B_4 R_X_4
    go_wp2_with (first | (refine wpList_load_any (by rfl) 25 (.tmp 5) rfl X rfl 25 xc (0, 0) _ R_X_5.out Try.underlying25 rfl (by rw [HZ_xc.out]; exact i12) ?_))
    refine (HF1.out _).mono ?_
    rintro e u6 ⟨rfl, hb⟩
    have R_A_6 := Lib.hid (R_A_5.out.under hb R_A_5.out.lt)
    have R_B_6 := Lib.hid (R_B_5.out.under hb R_B_5.out.lt)
    have R_X_6 := Lib.hid (R_X_5.out.under hb R_X_5.out.lt)
    have BT6 := Lib.hid (BT5.out.trans (hb.mono BT5.out.size))
    clear hb BT5 R_A_5 R_B_5 R_X_5
    clear HM1 HF1
    cases xb with
    | true =>
      clear HXN HXB
      go_wp2_with fail
      go_ret
      exact ⟨rfl, BT6.out⟩
    | false =>
      obtain rfl : xc = cs := by rw [HE_xc.out, HE_cs.out, HXN.out rfl]
      clear HXN HXB
      go_wp2_with (first | (refine wpList_load_any (by rfl) 25 (.tmp 5) rfl X rfl 25 xc (0, 0) _ R_X_6.out Try.underlying25 rfl (by rw [HZ_xc.out]; exact i12) ?_) | (refine wpList_load_any (by rfl) 25 (.tmp 2) rfl w.heap.size rfl 25 xc (0, 0) _ R_A_6.out Try.underlying25 rfl (by rw [HZ_xc.out]; exact i12) ?_))
      go_ret
      exact ⟨rfl, BT6.out⟩

/-! From the walk to the given row. -/
set_option maxRecDepth 100000 in
theorem lifted (os : Os) (started : os.Started) (H : Type) (enc : TypeId × Value → H) :
    ReturnsInHanded {} Try.checked os 5 .any (Rows.foldRightSpec.pre6 enc Try.prog Try.f5 Rows.foldRightRow.domain false) (Rows.foldRightSpec.post enc Try.prog Try.f5 false true false false) := by
  refine returnsInHanded_of_change (C := Try.checked) t_own started (by kernel_rfl) Try.func5
    (ChangeSpec.witness6 (enc := enc) (C := Try.checked) false ⟨#[], #[stV zeroS, recV ⟨0, 0, 0, 0, 0, 0, false, zeroS⟩], []⟩ 8 (by kernel_rfl) (by kernel_rfl) (by kernel_rfl) (by kernel_rfl)) ?_
  intro W base args ds gs before hval0 hW hcnd _
  have hval : ∀ (j : Nat) t v, Try.f5.params[j]? = some t → args[j]? = some v → Value.okWide Try.prog W .any base t v := hval0
  have hW' := hW
  obtain ⟨p, q, hA0, hV, rfl, hfz, hnd⟩ := hW
  have hA : DataW.TrodAll enc Try.prog W 0 (fun _ => true) true Try.f5.params.toList args.toList ds p := hA0
  rw [Try.params5] at hA hval
  obtain ⟨v0, vs0, d0, ds0, p0, q0, hargs, rfl, rfl, h0, r0⟩ := trodAll_cons hA
  obtain ⟨v1, vs1, d1, ds1, p1, q1, rfl, rfl, rfl, h1, r1⟩ := trodAll_cons r0
  obtain ⟨rfl, rfl, rfl⟩ := trodAll_nil r1
  obtain rfl : args = #[v0, v1] := by cases args; simp_all
  obtain ⟨s, rfl, hs⟩ := open_state (hval 0 25 v0 rfl rfl) h0
  obtain ⟨r, rfl, hr⟩ := open_rec (hval 1 27 v1 rfl rfl) h1
  refine (walk s r W hs hr).mono fun e W' ⟨he, hb⟩ => ?_
  subst he
  exact ⟨_, rfl, post_of_holds hW' (by kernel_rfl) rfl (by rw [Try.params5]; exact fun t ht => params_ok t (by simp at ht; rcases ht with rfl | rfl <;> simp)) ⟨rfl, rfl, rfl⟩ hb⟩

/-- The given statement. -/
theorem proved : Rows.FoldRightSaid :=
  OpenClaim.holds_of_wide 5 Try.f5 rfl rfl rfl rfl rfl rfl rfl ⟨rfl, rfl, rfl, rfl, rfl⟩ rfl rfl rfl rfl rfl (by kernel_rfl) Try.func5 (by kernel_rfl)
    (of_decide_eq_true (by kernel_rfl)) (by unfold Func.isWrapper; first | (rw [if_pos (by decide +kernel)]; kernel_rfl) | (rw [if_neg (by decide +kernel)]; exact ⟨rfl, rfl⟩))
    (fun os started H enc _ => lifted os started H enc)
#print axioms proved
end Go.Proofs.Ytoeelglmdnhknaa.foldRight
