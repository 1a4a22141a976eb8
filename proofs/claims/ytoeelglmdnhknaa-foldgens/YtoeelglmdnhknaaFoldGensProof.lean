/-
  switchback's FoldGens: A generation rises by one with KPrepare, falls by one with KCancel, behind which the state is as it was ahead of that, and stays else. For every input the law returns true, and each argument reads afterwards as it read before. No condition beside the row's own.
-/
import Derived.Test.YtoeelglmdnhknaaAwak
import Derived.Test.YtoeelglmdnhknaaLift
import Derived.Test.YtoeelglmdnhknaaLawB
namespace Go.Proofs.Ytoeelglmdnhknaa.foldGens
open Go.Proofs.Ytoeelglmdnhknaa
open Go.ChangeShapes Go.WideShapes Go.ChangeAt Go.RowKit
set_option linter.unusedVariables false

set_option maxRecDepth 100000 in
set_option maxHeartbeats 4000000 in
theorem walk (s : St) (r : Rc) (w : World) (hs : FitsS s) (hr : FitsR r) : Calls Try.prog 7 #[stV s, recV r] w (Holds w) := by
  have HOK : Hid ((stepS s r).2 = true → rightS s = true) := Lib.hid ok_right
  have HXF : Hid (FitsS (stepS s r).1) := Lib.hid (fits_step r hs)
  have HFS := Lib.hid hs
  have HSP : Hid (∀ W, Calls Try.prog 11 #[stV s, recV r] W (StepR (stepS s r) W)) := Lib.hid (fun W => step_any s r W hr.kind)
  have HAW : Hid (∀ W, Calls Try.prog 13 #[] W fun e w' => e = .returned (.bool true) ∧ Below W.heap.size W w') := Lib.hid awake_any
  have HMR : Hid (∀ W, Calls Try.prog 15 #[stV s] W fun e w' => e = .returned (.bool (rightS s)) ∧ Below W.heap.size W w') := Lib.hid (fun W => mright_any s W)
  have G5 : Hid (r.kind = 5 → (stepS s r).2 = true → (stepS s r).1.gn = s.gn + 1 ∧ stepS (stepS s r).1 ⟨7, 0, 0, 0, r.gen, 0, false, zeroS⟩ = (s, true)) := Lib.hid (fun hk h => ⟨by rw [(gens_5 hk h).1], gens_5b hk h⟩)
  have G7 : Hid (r.kind = 7 → (stepS s r).2 = true → (stepS s r).1.gn = s.gn - 1 ∧ (stepS s r).1.sw = 0) := Lib.hid gens_7
  have GO : Hid (r.kind ≠ 5 → r.kind ≠ 7 → (stepS s r).1.gn = s.gn) := Lib.hid gens_other
  have eqS : ∀ W, (Op.equalIn 10000 25 (.agg (stC s)) (.agg (stC s))).run Try.prog W = .ok true W := eq25 hs
  obtain ⟨x, hx⟩ : ∃ x, x = stepS s r := ⟨_, rfl⟩
  have HX := Lib.hid hx
  rw [← hx] at HOK HXF HSP G5 G7 GO
  unfold StepR at HSP
  obtain ⟨xb, hxb⟩ : ∃ b, b = x.2 := ⟨_, rfl⟩
  rw [← hxb] at HOK HSP G5 G7
  have HXB := Lib.hid hxb
  unfold stV at HSP HMR ⊢
  unfold recV at HSP ⊢
  obtain ⟨cs, hcs⟩ : ∃ c, c = stC s := ⟨_, rfl⟩
  have HE_cs := Lib.hid hcs
  have HZ_cs : Hid (cs.size = 12) := Lib.hid (by rw [hcs]; rfl)
  have H1_cs : Hid (cs.all (·.oneCell') = true) := Lib.hid (by rw [hcs]; exact stC_one _)
  obtain ⟨rs, hrs⟩ : ∃ c, c = recC r := ⟨_, rfl⟩
  have HE_rs := Lib.hid hrs
  have HZ_rs : Hid (rs.size = 19) := Lib.hid (by rw [hrs]; rfl)
  have H1_rs : Hid (rs.all (·.oneCell') = true) := Lib.hid (by rw [hrs]; exact recC_one _)
  obtain ⟨xc, hxc⟩ : ∃ c, c = stC x.1 := ⟨_, rfl⟩
  have HE_xc := Lib.hid hxc
  have HZ_xc : Hid (xc.size = 12) := Lib.hid (by rw [hxc]; rfl)
  have H1_xc : Hid (xc.all (·.oneCell') = true) := Lib.hid (by rw [hxc]; exact stC_one _)
  rw [← hcs] at HSP HMR eqS ⊢
  rw [← hrs] at HSP ⊢
  rw [← hxc] at HSP
  clear hcs hrs hxc hx hxb hs hr
  go_enter Try.func7, Try.ntmps7
  go_upto_region 1 with (fail)
  refine name_w (fun W => Rw W w.heap.size cs 25 ∧ Rw W (w.heap.size + 1) rs 27 ∧ Below w.heap.size w W) ⟨(Rw.new _ _ _).alloc _, ?_, ((Below.refl _ _).alloc (Nat.le_refl _) _).alloc (by simp) _⟩ ?_
  · have h1 := Rw.new (w.alloc (.cells cs 25)) rs 27
    rw [size_alloc] at h1
    exact h1
  rintro u0 ⟨h0, h1, h2⟩
  have R_A_0 := Lib.hid h0
  have R_B_0 := Lib.hid h1
  have BT0 := Lib.hid h2
  clear h0 h1 h2
  go_wp2_with (first | (refine wpList_load_row rfl 25 (.tmp 2) rfl w.heap.size rfl 25 cs (0, 0) _ R_A_0.out Try.underlying25 rfl (by rw [HZ_cs.out]; exact i12) ?_) | (refine wpList_load_row rfl 27 (.tmp 3) rfl (w.heap.size + 1) rfl 27 rs (0, 0) _ R_B_0.out Try.underlying27 rfl (by rw [HZ_rs.out]; exact i19) ?_))
  refine (HSP.out _).mono ?_
  rintro e u1 ⟨rfl, hb⟩
  have R_A_1 := Lib.hid (R_A_0.out.under hb R_A_0.out.lt)
  have R_B_1 := Lib.hid (R_B_0.out.under hb R_B_0.out.lt)
  have BT1 := Lib.hid (BT0.out.trans (hb.mono BT0.out.size))
  clear hb BT0 R_A_0 R_B_0
  clear HSP
  go_upto_region 2 with (first | (refine wpList_plain rfl fun _ hK => wp_store_row 25 (.tmp 5) (.tmp 13) rfl u1.heap.size xc rfl rfl 25 _ (Rw.new u1 _ 25) (by rw [HZ_xc.out]; exact i12) (by rw [HZ_xc.out]; rfl) H1_xc.out (hK _ _ ?_); clear hK))
  obtain ⟨X, hY⟩ : ∃ X, X = u1.heap.size := ⟨_, rfl⟩
  rw [← hY]
  refine name_w (fun W => Rw W w.heap.size cs 25 ∧ Rw W (w.heap.size + 1) rs 27 ∧ Rw W X xc 25 ∧ Below w.heap.size w W) ?_ ?_
  · have bb := below_setRow ((Below.refl u1.heap.size u1).alloc (Nat.le_refl _) (.cells zeroSC 25)) (Nat.le_refl _) (b := u1.heap.size) xc
    rw [hY]
    exact ⟨R_A_1.out.under bb R_A_1.out.lt, R_B_1.out.under bb R_B_1.out.lt, (Rw.new u1 _ 25).set xc, BT1.out.trans (bb.mono BT1.out.size)⟩
  clear hY BT1 R_A_1 R_B_1
  rintro u2 ⟨h0, h1, h2, h3⟩
  have R_A_2 := Lib.hid h0
  have R_B_2 := Lib.hid h1
  have R_X_2 := Lib.hid h2
  have BT2 := Lib.hid h3
  clear h0 h1 h2 h3
  go_wp2_with fail
  refine (HAW.out _).mono ?_
  rintro e u3 ⟨rfl, hb⟩
  have R_A_3 := Lib.hid (R_A_2.out.under hb R_A_2.out.lt)
  have R_B_3 := Lib.hid (R_B_2.out.under hb R_B_2.out.lt)
  have R_X_3 := Lib.hid (R_X_2.out.under hb R_X_2.out.lt)
  have BT3 := Lib.hid (BT2.out.trans (hb.mono BT2.out.size))
  clear hb BT2 R_A_2 R_B_2 R_X_2
  cases xb with
  | false =>
    go_upto_region 3 with (fail)
    go_wp2_with fail
    refine (HAW.out _).mono ?_
    rintro e u4 ⟨rfl, hb⟩
    have R_A_4 := Lib.hid (R_A_3.out.under hb R_A_3.out.lt)
    have R_B_4 := Lib.hid (R_B_3.out.under hb R_B_3.out.lt)
    have R_X_4 := Lib.hid (R_X_3.out.under hb R_X_3.out.lt)
    have BT4 := Lib.hid (BT3.out.trans (hb.mono BT3.out.size))
    clear hb BT3 R_A_3 R_B_3 R_X_3
    go_wp2_with fail
    go_ret
    exact ⟨rfl, BT4.out⟩
  | true =>
  have hrt := HOK.out rfl
  have HRT := Lib.hid hrt
  rw [hrt] at HMR
  clear hrt HOK
  go_wp2_with (first | (refine wpList_load_any (by rfl) 25 (.tmp 2) rfl w.heap.size rfl 25 cs (0, 0) _ R_A_3.out Try.underlying25 rfl (by rw [HZ_cs.out]; exact i12) ?_))
  refine (HMR.out _).mono ?_
  rintro e u4 ⟨rfl, hb⟩
  have R_A_4 := Lib.hid (R_A_3.out.under hb R_A_3.out.lt)
  have R_B_4 := Lib.hid (R_B_3.out.under hb R_B_3.out.lt)
  have R_X_4 := Lib.hid (R_X_3.out.under hb R_X_3.out.lt)
  have BT4 := Lib.hid (BT3.out.trans (hb.mono BT3.out.size))
  clear hb BT3 R_A_3 R_B_3 R_X_3
  clear HMR HAW
  have hgb := (right_in HRT.out).2.2.2
  obtain ⟨gn, hgn⟩ : ∃ g, g = s.gn := ⟨_, rfl⟩
  obtain ⟨gx, hgx⟩ : ∃ g, g = x.1.gn := ⟨_, rfl⟩
  obtain ⟨kd, hkd⟩ : ∃ k, k = r.kind := ⟨_, rfl⟩
  obtain ⟨ge, hge⟩ : ∃ g, g = r.gen := ⟨_, rfl⟩
  obtain ⟨sx, hsx⟩ : ∃ g, g = x.1.sw := ⟨_, rfl⟩
  rw [← hgn, ← hgx] at G5 GO G7
  rw [← hkd] at G5 G7 GO
  rw [← hge] at G5
  rw [← hsx] at G7
  rw [← hgn] at hgb
  have HGN := Lib.hid hgn
  have HGX := Lib.hid hgx
  have HKD := Lib.hid hkd
  have HGE := Lib.hid hge
  have HSX := Lib.hid hsx
  have hg0 : 0 ≤ gn := hgb.1
  have hg1 : gn ≤ 1048576 := hgb.2.1
  clear hgn hgx hkd hge hsx hgb
  go_upto_region 4 with (fail)
  have c_B_0 : u4.cell? ⟨w.heap.size + 1, 0, none⟩ = some (.int .i64 kd) := by rw [R_B_4.out.cell 0, HE_rs.out, HKD.out]; rfl
  by_cases h5 : kd = 5
  case pos =>
    obtain ⟨e1, e2⟩ := G5.out h5 (by simp)
    have f1 : (kd == 5) = true := by simpa using h5
    have f2 : (gx == gn + 1) = true := by simpa using e1
    have eg : IntKind.i64.wrap (gn + 1) = gn + 1 := IntWalk.i64_in _ (by omega)
    obtain ⟨dc, hdc⟩ : ∃ c, c = recC ⟨7, 0, 0, 0, ge, 0, false, zeroS⟩ := ⟨_, rfl⟩
    have HE_dc := Lib.hid hdc
    have HZ_dc : Hid (dc.size = 19) := Lib.hid (by rw [hdc]; rfl)
    have H1_dc : Hid (dc.all (·.oneCell') = true) := Lib.hid (by rw [hdc]; exact recC_one _)
    have HS2 : Hid (∀ W, Calls Try.prog 11 #[.agg xc, .agg dc] W fun e w' => e = .returned (.tuple #[.agg cs, .bool true]) ∧ Below W.heap.size W w') := Lib.hid (fun W => by
      have h := step_any x.1 ⟨7, 0, 0, 0, ge, 0, false, zeroS⟩ W (by unfold Fits; simp)
      rw [e2] at h
      rw [HE_xc.out, hdc, HE_cs.out]
      exact h)
    clear hdc e1 e2 h5 G5 G7 GO
    go_upto_region 6 with (fail)
    have c_B_4 : u4.cell? ⟨w.heap.size + 1, 4, none⟩ = some (.int .i64 ge) := by rw [R_B_4.out.cell 4, HE_rs.out, HGE.out]; rfl
    go_wp2_with (first | (refine wpList_load_row rfl 25 (.tmp 5) rfl X rfl 25 xc (0, 0) _ R_X_4.out Try.underlying25 rfl (by rw [HZ_xc.out]; exact i12) ?_) | (refine wpList_build_is (by rfl) 27 #[(0, .const (.int .i64 7)), (4, .tmp 34)] rfl dc (by rw [HE_dc.out]; kernel_rfl) ?_))
    refine (HS2.out _).mono ?_
    rintro e u5 ⟨rfl, hb⟩
    have R_A_5 := Lib.hid (R_A_4.out.under hb R_A_4.out.lt)
    have R_B_5 := Lib.hid (R_B_4.out.under hb R_B_4.out.lt)
    have R_X_5 := Lib.hid (R_X_4.out.under hb R_X_4.out.lt)
    have BT5 := Lib.hid (BT4.out.trans (hb.mono BT4.out.size))
    clear hb BT4 R_A_4 R_B_4 R_X_4
    clear HS2 c_B_0 c_B_4
    go_upto_region 7 with (first | (refine wpList_plain rfl fun _ hK => wp_store_row 25 (.tmp 7) (.tmp 37) rfl u5.heap.size cs rfl rfl 25 _ (Rw.new u5 _ 25) (by rw [HZ_cs.out]; exact i12) (by rw [HZ_cs.out]; rfl) H1_cs.out (hK _ _ ?_); clear hK))
    obtain ⟨Y, hY⟩ : ∃ X, X = u5.heap.size := ⟨_, rfl⟩
    rw [← hY]
    refine name_w (fun W => Rw W w.heap.size cs 25 ∧ Rw W (w.heap.size + 1) rs 27 ∧ Rw W X xc 25 ∧ Rw W Y cs 25 ∧ Below w.heap.size w W) ?_ ?_
    · have bb := below_setRow ((Below.refl u5.heap.size u5).alloc (Nat.le_refl _) (.cells zeroSC 25)) (Nat.le_refl _) (b := u5.heap.size) cs
      rw [hY]
      exact ⟨R_A_5.out.under bb R_A_5.out.lt, R_B_5.out.under bb R_B_5.out.lt, R_X_5.out.under bb R_X_5.out.lt, (Rw.new u5 _ 25).set cs, BT5.out.trans (bb.mono BT5.out.size)⟩
    clear hY BT5 R_A_5 R_B_5 R_X_5
    rintro u6 ⟨h0, h1, h2, h3, h4⟩
    have R_A_6 := Lib.hid h0
    have R_B_6 := Lib.hid h1
    have R_X_6 := Lib.hid h2
    have R_Y_6 := Lib.hid h3
    have BT6 := Lib.hid h4
    clear h0 h1 h2 h3 h4
    have c_X_9 : u6.cell? ⟨X, 9, none⟩ = some (.int .i64 gx) := by rw [R_X_6.out.cell 9, HE_xc.out, HGX.out]; rfl
    have c_A_9 : u6.cell? ⟨w.heap.size, 9, none⟩ = some (.int .i64 gn) := by rw [R_A_6.out.cell 9, HE_cs.out, HGN.out]; rfl
    go_wp2_with (first | (refine wpList_load_any (by rfl) 25 (.tmp 7) rfl Y rfl 25 cs (0, 0) _ R_Y_6.out Try.underlying25 rfl (by rw [HZ_cs.out]; exact i12) ?_) | (refine wpList_load_any (by rfl) 25 (.tmp 2) rfl w.heap.size rfl 25 cs (0, 0) _ R_A_6.out Try.underlying25 rfl (by rw [HZ_cs.out]; exact i12) ?_))
    go_ret
    exact ⟨rfl, BT6.out⟩
  have f1 : (kd == 5) = false := by simpa using h5
  by_cases h7 : kd = 7
  case pos =>
    obtain ⟨e1, e2⟩ := G7.out h7 (by simp)
    have f2 : (kd == 7) = true := by simpa using h7
    have f3 : (gx == gn - 1) = true := by simpa using e1
    have f4 : (sx == 0) = true := by simpa using e2
    have eg : IntKind.i64.wrap (gn - 1) = gn - 1 := IntWalk.i64_in _ (by omega)
    clear e1 e2 h5 h7 G5 G7 GO
    have c_X_9 : u4.cell? ⟨X, 9, none⟩ = some (.int .i64 gx) := by rw [R_X_4.out.cell 9, HE_xc.out, HGX.out]; rfl
    have c_A_9 : u4.cell? ⟨w.heap.size, 9, none⟩ = some (.int .i64 gn) := by rw [R_A_4.out.cell 9, HE_cs.out, HGN.out]; rfl
    have c_X_10 : u4.cell? ⟨X, 10, none⟩ = some (.int .i64 sx) := by rw [R_X_4.out.cell 10, HE_xc.out, HSX.out]; rfl
    go_wp2_with fail
    go_ret
    exact ⟨rfl, BT4.out⟩
  have f2 : (kd == 7) = false := by simpa using h7
  have f3 : (gx == gn) = true := by simpa using GO.out h5 h7
  clear h5 h7 G5 G7 GO
  have c_X_9 : u4.cell? ⟨X, 9, none⟩ = some (.int .i64 gx) := by rw [R_X_4.out.cell 9, HE_xc.out, HGX.out]; rfl
  have c_A_9 : u4.cell? ⟨w.heap.size, 9, none⟩ = some (.int .i64 gn) := by rw [R_A_4.out.cell 9, HE_cs.out, HGN.out]; rfl
  go_wp2_with fail
  go_ret
  exact ⟨rfl, BT4.out⟩

/-! From the walk to the given row. -/
set_option maxRecDepth 100000 in
theorem lifted (os : Os) (started : os.Started) (H : Type) (enc : TypeId × Value → H) :
    ReturnsInHanded {} Try.checked os 7 .any (Rows.foldGensSpec.pre6 enc Try.prog Try.f7 Rows.foldGensRow.domain false) (Rows.foldGensSpec.post enc Try.prog Try.f7 false true false false) := by
  refine returnsInHanded_of_change (C := Try.checked) t_own started (by kernel_rfl) Try.func7
    (ChangeSpec.witness6 (enc := enc) (C := Try.checked) false ⟨#[], #[stV zeroS, recV ⟨0, 0, 0, 0, 0, 0, false, zeroS⟩], []⟩ 8 (by kernel_rfl) (by kernel_rfl) (by kernel_rfl) (by kernel_rfl)) ?_
  intro W base args ds gs before hval0 hW hcnd _
  have hval : ∀ (j : Nat) t v, Try.f7.params[j]? = some t → args[j]? = some v → Value.okWide Try.prog W .any base t v := hval0
  have hW' := hW
  obtain ⟨p, q, hA0, hV, rfl, hfz, hnd⟩ := hW
  have hA : DataW.TrodAll enc Try.prog W 0 (fun _ => true) true Try.f7.params.toList args.toList ds p := hA0
  rw [Try.params7] at hA hval
  obtain ⟨v0, vs0, d0, ds0, p0, q0, hargs, rfl, rfl, h0, r0⟩ := trodAll_cons hA
  obtain ⟨v1, vs1, d1, ds1, p1, q1, rfl, rfl, rfl, h1, r1⟩ := trodAll_cons r0
  obtain ⟨rfl, rfl, rfl⟩ := trodAll_nil r1
  obtain rfl : args = #[v0, v1] := by cases args; simp_all
  obtain ⟨s, rfl, hs⟩ := open_state (hval 0 25 v0 rfl rfl) h0
  obtain ⟨r, rfl, hr⟩ := open_rec (hval 1 27 v1 rfl rfl) h1
  refine (walk s r W hs hr).mono fun e W' ⟨he, hb⟩ => ?_
  subst he
  exact ⟨_, rfl, post_of_holds hW' (by kernel_rfl) rfl (by rw [Try.params7]; exact fun t ht => params_ok t (by simp at ht; rcases ht with rfl | rfl <;> simp)) ⟨rfl, rfl, rfl⟩ hb⟩

/-- The given statement. -/
theorem proved : Rows.FoldGensSaid :=
  OpenClaim.holds_of_wide 7 Try.f7 rfl rfl rfl rfl rfl rfl rfl ⟨rfl, rfl, rfl, rfl, rfl⟩ rfl rfl rfl rfl rfl (by kernel_rfl) Try.func7 (by kernel_rfl)
    (of_decide_eq_true (by kernel_rfl)) (by unfold Func.isWrapper; first | (rw [if_pos (by decide +kernel)]; kernel_rfl) | (rw [if_neg (by decide +kernel)]; exact ⟨rfl, rfl⟩))
    (fun os started H enc _ => lifted os started H enc)
#print axioms proved
end Go.Proofs.Ytoeelglmdnhknaa.foldGens
