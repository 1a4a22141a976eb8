/-
  switchback's FoldDeploy: A deploy that can come makes the other slot its own, whatever was to come to it; an abort behind it leaves the state that was stable, but for the delay. For every input the law returns true, and each argument reads afterwards as it read before. No condition beside the row's own.
-/
import Derived.Test.YtoeelglmdnhknaaAwak
import Derived.Test.YtoeelglmdnhknaaLift
import Derived.Test.YtoeelglmdnhknaaLawB
namespace Go.Proofs.Ytoeelglmdnhknaa.foldDeploy
open Go.Proofs.Ytoeelglmdnhknaa
open Go.ChangeShapes Go.WideShapes Go.ChangeAt Go.RowKit
set_option linter.unusedVariables false

set_option maxRecDepth 100000 in
set_option maxHeartbeats 4000000 in
theorem walk0 (s : St) (r : Rc) (w : World) (hs : FitsS s) (hr : FitsR r) (hac : s.ac = 0) : Calls Try.prog 9 #[stV s, recV r] w (Holds w) := by
  have HOK : Hid ((stepS s r).2 = true → rightS s = true) := Lib.hid ok_right
  have DP : Hid (r.kind = 1 → (stepS s r).2 = true → (stepS s r).1 = { setO s r.rev r.cnt false with dl := r.delay, ph := 1 } ∧ stepS (stepS s r).1 ⟨2, 0, 0, 0, 0, 0, false, zeroS⟩ = ({ blankS s with dl := r.delay }, true)) := Lib.hid (fun hk h => ⟨deployed hk h, deploy_back hk h⟩)
  have HAC := Lib.hid hac
  have HFB : Hid (rightS s = true → r.kind = 1 → (stepS s r).2 = true → FitsS { blankS s with dl := r.delay }) := Lib.hid (fun _ hk h => by
    have h1 := right_fits (right_step ⟨2, 0, 0, 0, 0, 0, false, zeroS⟩ (right_step r (ok_right h)))
    rw [deploy_back hk h] at h1
    exact h1)
  have HSP : Hid (∀ W, Calls Try.prog 11 #[stV s, recV r] W (StepR (stepS s r) W)) := Lib.hid (fun W => step_any s r W hr.kind)
  have HAW : Hid (∀ W, Calls Try.prog 13 #[] W fun e w' => e = .returned (.bool true) ∧ Below W.heap.size W w') := Lib.hid awake_any
  have HMR : Hid (∀ W, Calls Try.prog 15 #[stV s] W fun e w' => e = .returned (.bool (rightS s)) ∧ Below W.heap.size W w') := Lib.hid (fun W => mright_any s W)
  have HBL : Hid (∀ W, Calls Try.prog 18 #[stV s] W (GotS (blankS s) W)) := Lib.hid (fun W => mblank_any s W (Or.inl hac))
  obtain ⟨x, hx⟩ : ∃ x, x = stepS s r := ⟨_, rfl⟩
  rw [← hx] at HOK HSP DP HFB
  unfold StepR at HSP
  obtain ⟨xb, hxb⟩ : ∃ b, b = x.2 := ⟨_, rfl⟩
  rw [← hxb] at HOK HSP DP HFB
  unfold GotS at HBL
  unfold stV at HSP HMR HBL ⊢
  unfold recV at HSP ⊢
  obtain ⟨cs, hcs⟩ : ∃ c, c = stC s := ⟨_, rfl⟩
  have HE_cs := Lib.hid hcs
  have HZ_cs : Hid (cs.size = 12) := Lib.hid (by rw [hcs]; rfl)
  have H1_cs : Hid (cs.all (·.oneCell') = true) := Lib.hid (by rw [hcs]; exact stC_one _)
  obtain ⟨rs, hrs⟩ : ∃ c, c = recC r := ⟨_, rfl⟩
  have HE_rs := Lib.hid hrs
  have HZ_rs : Hid (rs.size = 19) := Lib.hid (by rw [hrs]; rfl)
  have H1_rs : Hid (rs.all (·.oneCell') = true) := Lib.hid (by rw [hrs]; exact recC_one _)
  obtain ⟨xc, hxc⟩ : ∃ c, c = stC x.1 := ⟨_, rfl⟩
  have HE_xc := Lib.hid hxc
  have HZ_xc : Hid (xc.size = 12) := Lib.hid (by rw [hxc]; rfl)
  have H1_xc : Hid (xc.all (·.oneCell') = true) := Lib.hid (by rw [hxc]; exact stC_one _)
  obtain ⟨bc, hbc⟩ : ∃ c, c = stC (blankS s) := ⟨_, rfl⟩
  have HE_bc := Lib.hid hbc
  have HZ_bc : Hid (bc.size = 12) := Lib.hid (by rw [hbc]; rfl)
  have H1_bc : Hid (bc.all (·.oneCell') = true) := Lib.hid (by rw [hbc]; exact stC_one _)
  obtain ⟨kd, h_kd⟩ : ∃ g, g = r.kind := ⟨_, rfl⟩
  have HV_kd := Lib.hid h_kd
  obtain ⟨rev, h_rev⟩ : ∃ g, g = r.rev := ⟨_, rfl⟩
  have HV_rev := Lib.hid h_rev
  obtain ⟨cnt, h_cnt⟩ : ∃ g, g = r.cnt := ⟨_, rfl⟩
  have HV_cnt := Lib.hid h_cnt
  obtain ⟨dly, h_dly⟩ : ∃ g, g = r.delay := ⟨_, rfl⟩
  have HV_dly := Lib.hid h_dly
  obtain ⟨gn, h_gn⟩ : ∃ g, g = s.gn := ⟨_, rfl⟩
  have HV_gn := Lib.hid h_gn
  rw [← hcs] at HSP HMR HBL ⊢
  rw [← hrs] at HSP ⊢
  rw [← hxc] at HSP
  rw [← hbc] at HBL
  clear hcs hrs hxc hbc hx hxb hs hr hac h_kd h_rev h_cnt h_dly h_gn
  go_enter Try.func9, Try.ntmps9
  go_upto_region 1 with (fail)
  refine name_w (fun W => Rw W w.heap.size cs 25 ∧ Rw W (w.heap.size + 1) rs 27 ∧ Below w.heap.size w W) ⟨(Rw.new _ _ _).alloc _, ?_, ((Below.refl _ _).alloc (Nat.le_refl _) _).alloc (by simp) _⟩ ?_
  · have h1 := Rw.new (w.alloc (.cells cs 25)) rs 27
    rw [size_alloc] at h1
    exact h1
  rintro u0 ⟨h0, h1, h2⟩
  have R_A_0 := Lib.hid h0
  have R_B_0 := Lib.hid h1
  have BT0 := Lib.hid h2
  clear h0 h1 h2
  go_wp2_with (first | (refine wpList_load_row rfl 25 (.tmp 2) rfl w.heap.size rfl 25 cs (0, 0) _ R_A_0.out Try.underlying25 rfl (by rw [HZ_cs.out]; exact i12) ?_) | (refine wpList_load_row rfl 27 (.tmp 3) rfl (w.heap.size + 1) rfl 27 rs (0, 0) _ R_B_0.out Try.underlying27 rfl (by rw [HZ_rs.out]; exact i19) ?_))
  refine (HSP.out _).mono ?_
  rintro e u1 ⟨rfl, hb⟩
  have R_A_1 := Lib.hid (R_A_0.out.under hb R_A_0.out.lt)
  have R_B_1 := Lib.hid (R_B_0.out.under hb R_B_0.out.lt)
  have BT1 := Lib.hid (BT0.out.trans (hb.mono BT0.out.size))
  clear hb BT0 R_A_0 R_B_0
  clear HSP
  go_upto_region 2 with (first | (refine wpList_plain rfl fun _ hK => wp_store_row 25 (.tmp 5) (.tmp 15) rfl u1.heap.size xc rfl rfl 25 _ (Rw.new u1 _ 25) (by rw [HZ_xc.out]; exact i12) (by rw [HZ_xc.out]; rfl) H1_xc.out (hK _ _ ?_); clear hK))
  obtain ⟨X, hY⟩ : ∃ X, X = u1.heap.size := ⟨_, rfl⟩
  rw [← hY]
  refine name_w (fun W => Rw W w.heap.size cs 25 ∧ Rw W (w.heap.size + 1) rs 27 ∧ Rw W X xc 25 ∧ Below w.heap.size w W) ?_ ?_
  · have bb := below_setRow ((Below.refl u1.heap.size u1).alloc (Nat.le_refl _) (.cells zeroSC 25)) (Nat.le_refl _) (b := u1.heap.size) xc
    rw [hY]
    exact ⟨R_A_1.out.under bb R_A_1.out.lt, R_B_1.out.under bb R_B_1.out.lt, (Rw.new u1 _ 25).set xc, BT1.out.trans (bb.mono BT1.out.size)⟩
  clear hY BT1 R_A_1 R_B_1
  rintro u2 ⟨h0, h1, h2, h3⟩
  have R_A_2 := Lib.hid h0
  have R_B_2 := Lib.hid h1
  have R_X_2 := Lib.hid h2
  have BT2 := Lib.hid h3
  clear h0 h1 h2 h3
  go_wp2_with fail
  refine (HAW.out _).mono ?_
  rintro e u3 ⟨rfl, hb⟩
  have R_A_3 := Lib.hid (R_A_2.out.under hb R_A_2.out.lt)
  have R_B_3 := Lib.hid (R_B_2.out.under hb R_B_2.out.lt)
  have R_X_3 := Lib.hid (R_X_2.out.under hb R_X_2.out.lt)
  have BT3 := Lib.hid (BT2.out.trans (hb.mono BT2.out.size))
  clear hb BT2 R_A_2 R_B_2 R_X_2
  cases xb with
  | false =>
    go_upto_region 3 with (fail)
    go_wp2_with fail
    refine (HAW.out _).mono ?_
    rintro e u4 ⟨rfl, hb⟩
    have R_A_4 := Lib.hid (R_A_3.out.under hb R_A_3.out.lt)
    have R_B_4 := Lib.hid (R_B_3.out.under hb R_B_3.out.lt)
    have R_X_4 := Lib.hid (R_X_3.out.under hb R_X_3.out.lt)
    have BT4 := Lib.hid (BT3.out.trans (hb.mono BT3.out.size))
    clear hb BT3 R_A_3 R_B_3 R_X_3
    go_wp2_with fail
    go_ret
    exact ⟨rfl, BT4.out⟩
  | true =>
  have b0 : u3.cell? ⟨w.heap.size + 1, 0, none⟩ = some (.int .i64 kd) := by rw [R_B_3.out.cell 0, HE_rs.out, HV_kd.out]; rfl
  by_cases h1 : kd = 1
  case neg =>
    have f1 : (kd != 1) = true := by simpa using h1
    clear h1
    go_upto_region 3 with (fail)
    clear b0
    go_wp2_with fail
    refine (HAW.out _).mono ?_
    rintro e u4 ⟨rfl, hb⟩
    have R_A_4 := Lib.hid (R_A_3.out.under hb R_A_3.out.lt)
    have R_B_4 := Lib.hid (R_B_3.out.under hb R_B_3.out.lt)
    have R_X_4 := Lib.hid (R_X_3.out.under hb R_X_3.out.lt)
    have BT4 := Lib.hid (BT3.out.trans (hb.mono BT3.out.size))
    clear hb BT3 R_A_3 R_B_3 R_X_3
    go_wp2_with fail
    go_ret
    exact ⟨rfl, BT4.out⟩
  have f1 : (kd != 1) = false := by simpa using h1
  have hrt := HOK.out (by simp)
  obtain ⟨e1, e2⟩ := DP.out (by rw [← HV_kd.out]; exact h1) (by simp)
  have hfb := HFB.out hrt (by rw [← HV_kd.out]; exact h1) (by simp)
  rw [hrt] at HMR
  have HX1 : Hid (x.1.ph = 1 ∧ x.1.ac = 0 ∧ x.1.r1 = r.rev ∧ x.1.w1 = r.cnt ∧ x.1.p1 = false ∧ x.1.dl = r.delay ∧ x.1.gn = s.gn) := Lib.hid (by
    rw [e1]
    have hac := HAC.out
    unfold setO
    simp [hac])
  obtain ⟨dc, hdc⟩ : ∃ c, c = recC ⟨2, 0, 0, 0, 0, 0, false, zeroS⟩ := ⟨_, rfl⟩
  have HE_dc := Lib.hid hdc
  have HZ_dc : Hid (dc.size = 19) := Lib.hid (by rw [hdc]; rfl)
  have H1_dc : Hid (dc.all (·.oneCell') = true) := Lib.hid (by rw [hdc]; exact recC_one _)
  obtain ⟨ec, hec⟩ : ∃ c, c = stC { blankS s with dl := r.delay } := ⟨_, rfl⟩
  have HE_ec := Lib.hid hec
  have HZ_ec : Hid (ec.size = 12) := Lib.hid (by rw [hec]; rfl)
  have H1_ec : Hid (ec.all (·.oneCell') = true) := Lib.hid (by rw [hec]; exact stC_one _)
  have HS2 : Hid (∀ W, Calls Try.prog 11 #[.agg xc, .agg dc] W fun e w' => e = .returned (.tuple #[.agg ec, .bool true]) ∧ Below W.heap.size W w') := Lib.hid (fun W => by
    have h := step_any x.1 ⟨2, 0, 0, 0, 0, 0, false, zeroS⟩ W (by unfold Fits; simp)
    rw [e2] at h
    rw [HE_xc.out, hdc, hec]
    exact h)
  have eqE : ∀ W, (Op.equalIn 10000 25 (.agg ec) (.agg ec)).run Try.prog W = .ok true W := fun W => by rw [hec]; exact eq25 hfb W
  have HBD : Hid (bc.size = 12) := HZ_bc
  clear hdc hec e1 e2 h1 hrt hfb HOK DP HFB
  go_wp2_with (first | (refine wpList_load_any (by rfl) 25 (.tmp 2) rfl w.heap.size rfl 25 cs (0, 0) _ R_A_3.out Try.underlying25 rfl (by rw [HZ_cs.out]; exact i12) ?_))
  refine (HMR.out _).mono ?_
  rintro e u4 ⟨rfl, hb⟩
  have R_A_4 := Lib.hid (R_A_3.out.under hb R_A_3.out.lt)
  have R_B_4 := Lib.hid (R_B_3.out.under hb R_B_3.out.lt)
  have R_X_4 := Lib.hid (R_X_3.out.under hb R_X_3.out.lt)
  have BT4 := Lib.hid (BT3.out.trans (hb.mono BT3.out.size))
  clear hb BT3 R_A_3 R_B_3 R_X_3
  clear HMR HAW b0 f1
  go_upto_region 4 with (fail)
  have a1 : u4.cell? ⟨w.heap.size, 1, none⟩ = some (.int .i64 0) := by rw [R_A_4.out.cell 1, HE_cs.out, ← HAC.out]; rfl
  have a9 : u4.cell? ⟨w.heap.size, 9, none⟩ = some (.int .i64 gn) := by rw [R_A_4.out.cell 9, HE_cs.out, HV_gn.out]; rfl
  have b1 : u4.cell? ⟨w.heap.size + 1, 1, none⟩ = some (.int .i64 rev) := by rw [R_B_4.out.cell 1, HE_rs.out, HV_rev.out]; rfl
  have b2 : u4.cell? ⟨w.heap.size + 1, 2, none⟩ = some (.int .i64 cnt) := by rw [R_B_4.out.cell 2, HE_rs.out, HV_cnt.out]; rfl
  have b3 : u4.cell? ⟨w.heap.size + 1, 3, none⟩ = some (.int .i64 dly) := by rw [R_B_4.out.cell 3, HE_rs.out, HV_dly.out]; rfl
  have x0 : u4.cell? ⟨X, 0, none⟩ = some (.int .i64 1) := by rw [R_X_4.out.cell 0, HE_xc.out, ← HX1.out.1]; rfl
  have x1 : u4.cell? ⟨X, 1, none⟩ = some (.int .i64 0) := by rw [R_X_4.out.cell 1, HE_xc.out, ← HX1.out.2.1]; rfl
  have xr : u4.cell? ⟨X, 3, none⟩ = some (.int .i64 rev) := by rw [R_X_4.out.cell 3, HE_xc.out, HV_rev.out, ← HX1.out.2.2.1]; rfl
  have xw : u4.cell? ⟨X, 5, none⟩ = some (.int .i64 cnt) := by rw [R_X_4.out.cell 5, HE_xc.out, HV_cnt.out, ← HX1.out.2.2.2.1]; rfl
  have xp : u4.cell? ⟨X, 7, none⟩ = some (.bool false) := by rw [R_X_4.out.cell 7, HE_xc.out, ← HX1.out.2.2.2.2.1]; rfl
  have x8 : u4.cell? ⟨X, 8, none⟩ = some (.int .i64 dly) := by rw [R_X_4.out.cell 8, HE_xc.out, HV_dly.out, ← HX1.out.2.2.2.2.2.1]; rfl
  have x9 : u4.cell? ⟨X, 9, none⟩ = some (.int .i64 gn) := by rw [R_X_4.out.cell 9, HE_xc.out, HV_gn.out, ← HX1.out.2.2.2.2.2.2]; rfl
  go_upto_region 5 with (fail)
  go_wp2_with fail
  go_quiet (fail)
  go_upto_region 7 with (fail)
  clear a1 a9 b1 b2 b3 x0 x1 xr xw xp x8 x9 HX1
  refine name_w (fun W => Rw W w.heap.size cs 25 ∧ Rw W (w.heap.size + 1) rs 27 ∧ Rw W X xc 25 ∧ Below w.heap.size w W) ⟨R_A_4.out.under (below_drewN _ _ _) R_A_4.out.lt, R_B_4.out.under (below_drewN _ _ _) R_B_4.out.lt, R_X_4.out.under (below_drewN _ _ _) R_X_4.out.lt, BT4.out.trans (below_drewN _ _ _)⟩ ?_
  clear BT4 R_A_4 R_B_4 R_X_4
  rintro u5 ⟨h0, h1, h2, h3⟩
  have R_A_5 := Lib.hid h0
  have R_B_5 := Lib.hid h1
  have R_X_5 := Lib.hid h2
  have BT5 := Lib.hid h3
  clear h0 h1 h2 h3
  go_wp2_with (first | (refine wpList_load_row rfl 25 (.tmp 5) rfl X rfl 25 xc (0, 0) _ R_X_5.out Try.underlying25 rfl (by rw [HZ_xc.out]; exact i12) ?_) | (refine wpList_build_is (by rfl) 27 #[(0, .const (.int .i64 2))] rfl dc (by rw [HE_dc.out]; kernel_rfl) ?_))
  refine (HS2.out _).mono ?_
  rintro e u6 ⟨rfl, hb⟩
  have R_A_6 := Lib.hid (R_A_5.out.under hb R_A_5.out.lt)
  have R_B_6 := Lib.hid (R_B_5.out.under hb R_B_5.out.lt)
  have R_X_6 := Lib.hid (R_X_5.out.under hb R_X_5.out.lt)
  have BT6 := Lib.hid (BT5.out.trans (hb.mono BT5.out.size))
  clear hb BT5 R_A_5 R_B_5 R_X_5
  clear HS2
  go_upto_region 8 with (first | (refine wpList_plain rfl fun _ hK => wp_store_row 25 (.tmp 8) (.tmp 89) rfl u6.heap.size ec rfl rfl 25 _ (Rw.new u6 _ 25) (by rw [HZ_ec.out]; exact i12) (by rw [HZ_ec.out]; rfl) H1_ec.out (hK _ _ ?_); clear hK))
  obtain ⟨Y, hY⟩ : ∃ X, X = u6.heap.size := ⟨_, rfl⟩
  rw [← hY]
  refine name_w (fun W => Rw W w.heap.size cs 25 ∧ Rw W (w.heap.size + 1) rs 27 ∧ Rw W X xc 25 ∧ Rw W Y ec 25 ∧ Below w.heap.size w W) ?_ ?_
  · have bb := below_setRow ((Below.refl u6.heap.size u6).alloc (Nat.le_refl _) (.cells zeroSC 25)) (Nat.le_refl _) (b := u6.heap.size) ec
    rw [hY]
    exact ⟨R_A_6.out.under bb R_A_6.out.lt, R_B_6.out.under bb R_B_6.out.lt, R_X_6.out.under bb R_X_6.out.lt, (Rw.new u6 _ 25).set ec, BT6.out.trans (bb.mono BT6.out.size)⟩
  clear hY BT6 R_A_6 R_B_6 R_X_6
  rintro u7 ⟨h0, h1, h2, h3, h4⟩
  have R_A_7 := Lib.hid h0
  have R_B_7 := Lib.hid h1
  have R_X_7 := Lib.hid h2
  have R_Y_7 := Lib.hid h3
  have BT7 := Lib.hid h4
  clear h0 h1 h2 h3 h4
  go_wp2_with (first | (refine wpList_load_row rfl 25 (.tmp 2) rfl w.heap.size rfl 25 cs (0, 0) _ R_A_7.out Try.underlying25 rfl (by rw [HZ_cs.out]; exact i12) ?_))
  refine (HBL.out _).mono ?_
  rintro e u8 ⟨rfl, hb⟩
  have R_A_8 := Lib.hid (R_A_7.out.under hb R_A_7.out.lt)
  have R_B_8 := Lib.hid (R_B_7.out.under hb R_B_7.out.lt)
  have R_X_8 := Lib.hid (R_X_7.out.under hb R_X_7.out.lt)
  have R_Y_8 := Lib.hid (R_Y_7.out.under hb R_Y_7.out.lt)
  have BT8 := Lib.hid (BT7.out.trans (hb.mono BT7.out.size))
  clear hb BT7 R_A_7 R_B_7 R_X_7 R_Y_7
  clear HBL
  go_upto_region 9 with (first | (refine wpList_plain rfl fun _ hK => wp_store_row 25 (.tmp 10) (.tmp 92) rfl u8.heap.size bc rfl rfl 25 _ (Rw.new u8 _ 25) (by rw [HZ_bc.out]; exact i12) (by rw [HZ_bc.out]; rfl) H1_bc.out (hK _ _ ?_); clear hK))
  have HYV0 : Hid (Y < u8.heap.size) := Lib.hid R_Y_8.out.lt
  have HBV0 : Hid (w.heap.size ≤ u8.heap.size) := Lib.hid BT8.out.size
  obtain ⟨V, hY⟩ : ∃ X, X = u8.heap.size := ⟨_, rfl⟩
  rw [← hY]
  have HYV : Hid (Y < V) := Lib.hid (by rw [hY]; exact HYV0.out)
  have HBV : Hid (w.heap.size ≤ V) := Lib.hid (by rw [hY]; exact HBV0.out)
  clear HYV0 HBV0
  refine name_w (fun W => Rw W w.heap.size cs 25 ∧ Rw W (w.heap.size + 1) rs 27 ∧ Rw W X xc 25 ∧ Rw W Y ec 25 ∧ Rw W V bc 25 ∧ Below w.heap.size w W) ?_ ?_
  · have bb := below_setRow ((Below.refl u8.heap.size u8).alloc (Nat.le_refl _) (.cells zeroSC 25)) (Nat.le_refl _) (b := u8.heap.size) bc
    rw [hY]
    exact ⟨R_A_8.out.under bb R_A_8.out.lt, R_B_8.out.under bb R_B_8.out.lt, R_X_8.out.under bb R_X_8.out.lt, R_Y_8.out.under bb R_Y_8.out.lt, (Rw.new u8 _ 25).set bc, BT8.out.trans (bb.mono BT8.out.size)⟩
  clear hY BT8 R_A_8 R_B_8 R_X_8 R_Y_8
  rintro u9 ⟨h0, h1, h2, h3, h4, h5⟩
  have R_A_9 := Lib.hid h0
  have R_B_9 := Lib.hid h1
  have R_X_9 := Lib.hid h2
  have R_Y_9 := Lib.hid h3
  have R_V_9 := Lib.hid h4
  have BT9 := Lib.hid h5
  clear h0 h1 h2 h3 h4 h5
  have b3 : u9.cell? ⟨w.heap.size + 1, 3, none⟩ = some (.int .i64 dly) := by rw [R_B_9.out.cell 3, HE_rs.out, HV_dly.out]; rfl
  have RV : Hid (Rw u9 V (stC (blankS s)) 25) := Lib.hid (by rw [← HE_bc.out]; exact R_V_9.out)
  have v8 : u9.cell? ⟨V, 8, none⟩ = some (.int .i64 (blankS s).dl) := by rw [RV.out.cell 8]; rfl
  have fv := RV.out.fr 8
  go_upto_region 10 with (fail)
  refine name_w (fun W => Rw W Y ec 25 ∧ Rw W V ec 25 ∧ Below w.heap.size w W) ⟨(Below.heap_setCell _ _ _ _ (by show Y ≠ V; exact Nat.ne_of_lt HYV.out)).trans R_Y_9.out, by
    have h := heap_setCell_same _ _ 8 _ 25 (.int .i64 dly) RV.out
    rw [HE_ec.out, ← HV_dly.out]
    exact h, below_setCell BT9.out HBV.out _⟩ ?_
  rintro uf ⟨h1, h2, h3⟩
  have RY := Lib.hid h1
  have RW := Lib.hid h2
  have BF := Lib.hid h3
  clear h1 h2 h3 v8 fv b3 RV
  go_wp2_with (first | (refine wpList_load_any (by rfl) 25 (.tmp 8) rfl Y rfl 25 ec (0, 0) _ RY.out Try.underlying25 rfl (by rw [HZ_ec.out]; exact i12) ?_) | (refine wpList_load_any (by rfl) 25 (.tmp 10) rfl V rfl 25 ec (0, 0) _ RW.out Try.underlying25 rfl (by rw [HZ_ec.out]; exact i12) ?_))
  go_ret
  exact ⟨rfl, BF.out⟩
set_option maxRecDepth 100000 in
set_option maxHeartbeats 4000000 in
theorem walk1 (s : St) (r : Rc) (w : World) (hs : FitsS s) (hr : FitsR r) (hac : s.ac = 1) : Calls Try.prog 9 #[stV s, recV r] w (Holds w) := by
  have HOK : Hid ((stepS s r).2 = true → rightS s = true) := Lib.hid ok_right
  have DP : Hid (r.kind = 1 → (stepS s r).2 = true → (stepS s r).1 = { setO s r.rev r.cnt false with dl := r.delay, ph := 1 } ∧ stepS (stepS s r).1 ⟨2, 0, 0, 0, 0, 0, false, zeroS⟩ = ({ blankS s with dl := r.delay }, true)) := Lib.hid (fun hk h => ⟨deployed hk h, deploy_back hk h⟩)
  have HAC := Lib.hid hac
  have HFB : Hid (rightS s = true → r.kind = 1 → (stepS s r).2 = true → FitsS { blankS s with dl := r.delay }) := Lib.hid (fun _ hk h => by
    have h1 := right_fits (right_step ⟨2, 0, 0, 0, 0, 0, false, zeroS⟩ (right_step r (ok_right h)))
    rw [deploy_back hk h] at h1
    exact h1)
  have HSP : Hid (∀ W, Calls Try.prog 11 #[stV s, recV r] W (StepR (stepS s r) W)) := Lib.hid (fun W => step_any s r W hr.kind)
  have HAW : Hid (∀ W, Calls Try.prog 13 #[] W fun e w' => e = .returned (.bool true) ∧ Below W.heap.size W w') := Lib.hid awake_any
  have HMR : Hid (∀ W, Calls Try.prog 15 #[stV s] W fun e w' => e = .returned (.bool (rightS s)) ∧ Below W.heap.size W w') := Lib.hid (fun W => mright_any s W)
  have HBL : Hid (∀ W, Calls Try.prog 18 #[stV s] W (GotS (blankS s) W)) := Lib.hid (fun W => mblank_any s W (Or.inr hac))
  obtain ⟨x, hx⟩ : ∃ x, x = stepS s r := ⟨_, rfl⟩
  rw [← hx] at HOK HSP DP HFB
  unfold StepR at HSP
  obtain ⟨xb, hxb⟩ : ∃ b, b = x.2 := ⟨_, rfl⟩
  rw [← hxb] at HOK HSP DP HFB
  unfold GotS at HBL
  unfold stV at HSP HMR HBL ⊢
  unfold recV at HSP ⊢
  obtain ⟨cs, hcs⟩ : ∃ c, c = stC s := ⟨_, rfl⟩
  have HE_cs := Lib.hid hcs
  have HZ_cs : Hid (cs.size = 12) := Lib.hid (by rw [hcs]; rfl)
  have H1_cs : Hid (cs.all (·.oneCell') = true) := Lib.hid (by rw [hcs]; exact stC_one _)
  obtain ⟨rs, hrs⟩ : ∃ c, c = recC r := ⟨_, rfl⟩
  have HE_rs := Lib.hid hrs
  have HZ_rs : Hid (rs.size = 19) := Lib.hid (by rw [hrs]; rfl)
  have H1_rs : Hid (rs.all (·.oneCell') = true) := Lib.hid (by rw [hrs]; exact recC_one _)
  obtain ⟨xc, hxc⟩ : ∃ c, c = stC x.1 := ⟨_, rfl⟩
  have HE_xc := Lib.hid hxc
  have HZ_xc : Hid (xc.size = 12) := Lib.hid (by rw [hxc]; rfl)
  have H1_xc : Hid (xc.all (·.oneCell') = true) := Lib.hid (by rw [hxc]; exact stC_one _)
  obtain ⟨bc, hbc⟩ : ∃ c, c = stC (blankS s) := ⟨_, rfl⟩
  have HE_bc := Lib.hid hbc
  have HZ_bc : Hid (bc.size = 12) := Lib.hid (by rw [hbc]; rfl)
  have H1_bc : Hid (bc.all (·.oneCell') = true) := Lib.hid (by rw [hbc]; exact stC_one _)
  obtain ⟨kd, h_kd⟩ : ∃ g, g = r.kind := ⟨_, rfl⟩
  have HV_kd := Lib.hid h_kd
  obtain ⟨rev, h_rev⟩ : ∃ g, g = r.rev := ⟨_, rfl⟩
  have HV_rev := Lib.hid h_rev
  obtain ⟨cnt, h_cnt⟩ : ∃ g, g = r.cnt := ⟨_, rfl⟩
  have HV_cnt := Lib.hid h_cnt
  obtain ⟨dly, h_dly⟩ : ∃ g, g = r.delay := ⟨_, rfl⟩
  have HV_dly := Lib.hid h_dly
  obtain ⟨gn, h_gn⟩ : ∃ g, g = s.gn := ⟨_, rfl⟩
  have HV_gn := Lib.hid h_gn
  rw [← hcs] at HSP HMR HBL ⊢
  rw [← hrs] at HSP ⊢
  rw [← hxc] at HSP
  rw [← hbc] at HBL
  clear hcs hrs hxc hbc hx hxb hs hr hac h_kd h_rev h_cnt h_dly h_gn
  go_enter Try.func9, Try.ntmps9
  go_upto_region 1 with (fail)
  refine name_w (fun W => Rw W w.heap.size cs 25 ∧ Rw W (w.heap.size + 1) rs 27 ∧ Below w.heap.size w W) ⟨(Rw.new _ _ _).alloc _, ?_, ((Below.refl _ _).alloc (Nat.le_refl _) _).alloc (by simp) _⟩ ?_
  · have h1 := Rw.new (w.alloc (.cells cs 25)) rs 27
    rw [size_alloc] at h1
    exact h1
  rintro u0 ⟨h0, h1, h2⟩
  have R_A_0 := Lib.hid h0
  have R_B_0 := Lib.hid h1
  have BT0 := Lib.hid h2
  clear h0 h1 h2
  go_wp2_with (first | (refine wpList_load_row rfl 25 (.tmp 2) rfl w.heap.size rfl 25 cs (0, 0) _ R_A_0.out Try.underlying25 rfl (by rw [HZ_cs.out]; exact i12) ?_) | (refine wpList_load_row rfl 27 (.tmp 3) rfl (w.heap.size + 1) rfl 27 rs (0, 0) _ R_B_0.out Try.underlying27 rfl (by rw [HZ_rs.out]; exact i19) ?_))
  refine (HSP.out _).mono ?_
  rintro e u1 ⟨rfl, hb⟩
  have R_A_1 := Lib.hid (R_A_0.out.under hb R_A_0.out.lt)
  have R_B_1 := Lib.hid (R_B_0.out.under hb R_B_0.out.lt)
  have BT1 := Lib.hid (BT0.out.trans (hb.mono BT0.out.size))
  clear hb BT0 R_A_0 R_B_0
  clear HSP
  go_upto_region 2 with (first | (refine wpList_plain rfl fun _ hK => wp_store_row 25 (.tmp 5) (.tmp 15) rfl u1.heap.size xc rfl rfl 25 _ (Rw.new u1 _ 25) (by rw [HZ_xc.out]; exact i12) (by rw [HZ_xc.out]; rfl) H1_xc.out (hK _ _ ?_); clear hK))
  obtain ⟨X, hY⟩ : ∃ X, X = u1.heap.size := ⟨_, rfl⟩
  rw [← hY]
  refine name_w (fun W => Rw W w.heap.size cs 25 ∧ Rw W (w.heap.size + 1) rs 27 ∧ Rw W X xc 25 ∧ Below w.heap.size w W) ?_ ?_
  · have bb := below_setRow ((Below.refl u1.heap.size u1).alloc (Nat.le_refl _) (.cells zeroSC 25)) (Nat.le_refl _) (b := u1.heap.size) xc
    rw [hY]
    exact ⟨R_A_1.out.under bb R_A_1.out.lt, R_B_1.out.under bb R_B_1.out.lt, (Rw.new u1 _ 25).set xc, BT1.out.trans (bb.mono BT1.out.size)⟩
  clear hY BT1 R_A_1 R_B_1
  rintro u2 ⟨h0, h1, h2, h3⟩
  have R_A_2 := Lib.hid h0
  have R_B_2 := Lib.hid h1
  have R_X_2 := Lib.hid h2
  have BT2 := Lib.hid h3
  clear h0 h1 h2 h3
  go_wp2_with fail
  refine (HAW.out _).mono ?_
  rintro e u3 ⟨rfl, hb⟩
  have R_A_3 := Lib.hid (R_A_2.out.under hb R_A_2.out.lt)
  have R_B_3 := Lib.hid (R_B_2.out.under hb R_B_2.out.lt)
  have R_X_3 := Lib.hid (R_X_2.out.under hb R_X_2.out.lt)
  have BT3 := Lib.hid (BT2.out.trans (hb.mono BT2.out.size))
  clear hb BT2 R_A_2 R_B_2 R_X_2
  cases xb with
  | false =>
    go_upto_region 3 with (fail)
    go_wp2_with fail
    refine (HAW.out _).mono ?_
    rintro e u4 ⟨rfl, hb⟩
    have R_A_4 := Lib.hid (R_A_3.out.under hb R_A_3.out.lt)
    have R_B_4 := Lib.hid (R_B_3.out.under hb R_B_3.out.lt)
    have R_X_4 := Lib.hid (R_X_3.out.under hb R_X_3.out.lt)
    have BT4 := Lib.hid (BT3.out.trans (hb.mono BT3.out.size))
    clear hb BT3 R_A_3 R_B_3 R_X_3
    go_wp2_with fail
    go_ret
    exact ⟨rfl, BT4.out⟩
  | true =>
  have b0 : u3.cell? ⟨w.heap.size + 1, 0, none⟩ = some (.int .i64 kd) := by rw [R_B_3.out.cell 0, HE_rs.out, HV_kd.out]; rfl
  by_cases h1 : kd = 1
  case neg =>
    have f1 : (kd != 1) = true := by simpa using h1
    clear h1
    go_upto_region 3 with (fail)
    clear b0
    go_wp2_with fail
    refine (HAW.out _).mono ?_
    rintro e u4 ⟨rfl, hb⟩
    have R_A_4 := Lib.hid (R_A_3.out.under hb R_A_3.out.lt)
    have R_B_4 := Lib.hid (R_B_3.out.under hb R_B_3.out.lt)
    have R_X_4 := Lib.hid (R_X_3.out.under hb R_X_3.out.lt)
    have BT4 := Lib.hid (BT3.out.trans (hb.mono BT3.out.size))
    clear hb BT3 R_A_3 R_B_3 R_X_3
    go_wp2_with fail
    go_ret
    exact ⟨rfl, BT4.out⟩
  have f1 : (kd != 1) = false := by simpa using h1
  have hrt := HOK.out (by simp)
  obtain ⟨e1, e2⟩ := DP.out (by rw [← HV_kd.out]; exact h1) (by simp)
  have hfb := HFB.out hrt (by rw [← HV_kd.out]; exact h1) (by simp)
  rw [hrt] at HMR
  have HX1 : Hid (x.1.ph = 1 ∧ x.1.ac = 1 ∧ x.1.r0 = r.rev ∧ x.1.w0 = r.cnt ∧ x.1.p0 = false ∧ x.1.dl = r.delay ∧ x.1.gn = s.gn) := Lib.hid (by
    rw [e1]
    have hac := HAC.out
    unfold setO
    simp [hac])
  obtain ⟨dc, hdc⟩ : ∃ c, c = recC ⟨2, 0, 0, 0, 0, 0, false, zeroS⟩ := ⟨_, rfl⟩
  have HE_dc := Lib.hid hdc
  have HZ_dc : Hid (dc.size = 19) := Lib.hid (by rw [hdc]; rfl)
  have H1_dc : Hid (dc.all (·.oneCell') = true) := Lib.hid (by rw [hdc]; exact recC_one _)
  obtain ⟨ec, hec⟩ : ∃ c, c = stC { blankS s with dl := r.delay } := ⟨_, rfl⟩
  have HE_ec := Lib.hid hec
  have HZ_ec : Hid (ec.size = 12) := Lib.hid (by rw [hec]; rfl)
  have H1_ec : Hid (ec.all (·.oneCell') = true) := Lib.hid (by rw [hec]; exact stC_one _)
  have HS2 : Hid (∀ W, Calls Try.prog 11 #[.agg xc, .agg dc] W fun e w' => e = .returned (.tuple #[.agg ec, .bool true]) ∧ Below W.heap.size W w') := Lib.hid (fun W => by
    have h := step_any x.1 ⟨2, 0, 0, 0, 0, 0, false, zeroS⟩ W (by unfold Fits; simp)
    rw [e2] at h
    rw [HE_xc.out, hdc, hec]
    exact h)
  have eqE : ∀ W, (Op.equalIn 10000 25 (.agg ec) (.agg ec)).run Try.prog W = .ok true W := fun W => by rw [hec]; exact eq25 hfb W
  have HBD : Hid (bc.size = 12) := HZ_bc
  clear hdc hec e1 e2 h1 hrt hfb HOK DP HFB
  go_wp2_with (first | (refine wpList_load_any (by rfl) 25 (.tmp 2) rfl w.heap.size rfl 25 cs (0, 0) _ R_A_3.out Try.underlying25 rfl (by rw [HZ_cs.out]; exact i12) ?_))
  refine (HMR.out _).mono ?_
  rintro e u4 ⟨rfl, hb⟩
  have R_A_4 := Lib.hid (R_A_3.out.under hb R_A_3.out.lt)
  have R_B_4 := Lib.hid (R_B_3.out.under hb R_B_3.out.lt)
  have R_X_4 := Lib.hid (R_X_3.out.under hb R_X_3.out.lt)
  have BT4 := Lib.hid (BT3.out.trans (hb.mono BT3.out.size))
  clear hb BT3 R_A_3 R_B_3 R_X_3
  clear HMR HAW b0 f1
  go_upto_region 4 with (fail)
  have a1 : u4.cell? ⟨w.heap.size, 1, none⟩ = some (.int .i64 1) := by rw [R_A_4.out.cell 1, HE_cs.out, ← HAC.out]; rfl
  have a9 : u4.cell? ⟨w.heap.size, 9, none⟩ = some (.int .i64 gn) := by rw [R_A_4.out.cell 9, HE_cs.out, HV_gn.out]; rfl
  have b1 : u4.cell? ⟨w.heap.size + 1, 1, none⟩ = some (.int .i64 rev) := by rw [R_B_4.out.cell 1, HE_rs.out, HV_rev.out]; rfl
  have b2 : u4.cell? ⟨w.heap.size + 1, 2, none⟩ = some (.int .i64 cnt) := by rw [R_B_4.out.cell 2, HE_rs.out, HV_cnt.out]; rfl
  have b3 : u4.cell? ⟨w.heap.size + 1, 3, none⟩ = some (.int .i64 dly) := by rw [R_B_4.out.cell 3, HE_rs.out, HV_dly.out]; rfl
  have x0 : u4.cell? ⟨X, 0, none⟩ = some (.int .i64 1) := by rw [R_X_4.out.cell 0, HE_xc.out, ← HX1.out.1]; rfl
  have x1 : u4.cell? ⟨X, 1, none⟩ = some (.int .i64 1) := by rw [R_X_4.out.cell 1, HE_xc.out, ← HX1.out.2.1]; rfl
  have xr : u4.cell? ⟨X, 2, none⟩ = some (.int .i64 rev) := by rw [R_X_4.out.cell 2, HE_xc.out, HV_rev.out, ← HX1.out.2.2.1]; rfl
  have xw : u4.cell? ⟨X, 4, none⟩ = some (.int .i64 cnt) := by rw [R_X_4.out.cell 4, HE_xc.out, HV_cnt.out, ← HX1.out.2.2.2.1]; rfl
  have xp : u4.cell? ⟨X, 6, none⟩ = some (.bool false) := by rw [R_X_4.out.cell 6, HE_xc.out, ← HX1.out.2.2.2.2.1]; rfl
  have x8 : u4.cell? ⟨X, 8, none⟩ = some (.int .i64 dly) := by rw [R_X_4.out.cell 8, HE_xc.out, HV_dly.out, ← HX1.out.2.2.2.2.2.1]; rfl
  have x9 : u4.cell? ⟨X, 9, none⟩ = some (.int .i64 gn) := by rw [R_X_4.out.cell 9, HE_xc.out, HV_gn.out, ← HX1.out.2.2.2.2.2.2]; rfl
  go_upto_region 5 with (fail)
  go_wp2_with fail
  go_quiet (fail)
  go_upto_region 7 with (fail)
  clear a1 a9 b1 b2 b3 x0 x1 xr xw xp x8 x9 HX1
  refine name_w (fun W => Rw W w.heap.size cs 25 ∧ Rw W (w.heap.size + 1) rs 27 ∧ Rw W X xc 25 ∧ Below w.heap.size w W) ⟨R_A_4.out.under (below_drewN _ _ _) R_A_4.out.lt, R_B_4.out.under (below_drewN _ _ _) R_B_4.out.lt, R_X_4.out.under (below_drewN _ _ _) R_X_4.out.lt, BT4.out.trans (below_drewN _ _ _)⟩ ?_
  clear BT4 R_A_4 R_B_4 R_X_4
  rintro u5 ⟨h0, h1, h2, h3⟩
  have R_A_5 := Lib.hid h0
  have R_B_5 := Lib.hid h1
  have R_X_5 := Lib.hid h2
  have BT5 := Lib.hid h3
  clear h0 h1 h2 h3
  go_wp2_with (first | (refine wpList_load_row rfl 25 (.tmp 5) rfl X rfl 25 xc (0, 0) _ R_X_5.out Try.underlying25 rfl (by rw [HZ_xc.out]; exact i12) ?_) | (refine wpList_build_is (by rfl) 27 #[(0, .const (.int .i64 2))] rfl dc (by rw [HE_dc.out]; kernel_rfl) ?_))
  refine (HS2.out _).mono ?_
  rintro e u6 ⟨rfl, hb⟩
  have R_A_6 := Lib.hid (R_A_5.out.under hb R_A_5.out.lt)
  have R_B_6 := Lib.hid (R_B_5.out.under hb R_B_5.out.lt)
  have R_X_6 := Lib.hid (R_X_5.out.under hb R_X_5.out.lt)
  have BT6 := Lib.hid (BT5.out.trans (hb.mono BT5.out.size))
  clear hb BT5 R_A_5 R_B_5 R_X_5
  clear HS2
  go_upto_region 8 with (first | (refine wpList_plain rfl fun _ hK => wp_store_row 25 (.tmp 8) (.tmp 89) rfl u6.heap.size ec rfl rfl 25 _ (Rw.new u6 _ 25) (by rw [HZ_ec.out]; exact i12) (by rw [HZ_ec.out]; rfl) H1_ec.out (hK _ _ ?_); clear hK))
  obtain ⟨Y, hY⟩ : ∃ X, X = u6.heap.size := ⟨_, rfl⟩
  rw [← hY]
  refine name_w (fun W => Rw W w.heap.size cs 25 ∧ Rw W (w.heap.size + 1) rs 27 ∧ Rw W X xc 25 ∧ Rw W Y ec 25 ∧ Below w.heap.size w W) ?_ ?_
  · have bb := below_setRow ((Below.refl u6.heap.size u6).alloc (Nat.le_refl _) (.cells zeroSC 25)) (Nat.le_refl _) (b := u6.heap.size) ec
    rw [hY]
    exact ⟨R_A_6.out.under bb R_A_6.out.lt, R_B_6.out.under bb R_B_6.out.lt, R_X_6.out.under bb R_X_6.out.lt, (Rw.new u6 _ 25).set ec, BT6.out.trans (bb.mono BT6.out.size)⟩
  clear hY BT6 R_A_6 R_B_6 R_X_6
  rintro u7 ⟨h0, h1, h2, h3, h4⟩
  have R_A_7 := Lib.hid h0
  have R_B_7 := Lib.hid h1
  have R_X_7 := Lib.hid h2
  have R_Y_7 := Lib.hid h3
  have BT7 := Lib.hid h4
  clear h0 h1 h2 h3 h4
  go_wp2_with (first | (refine wpList_load_row rfl 25 (.tmp 2) rfl w.heap.size rfl 25 cs (0, 0) _ R_A_7.out Try.underlying25 rfl (by rw [HZ_cs.out]; exact i12) ?_))
  refine (HBL.out _).mono ?_
  rintro e u8 ⟨rfl, hb⟩
  have R_A_8 := Lib.hid (R_A_7.out.under hb R_A_7.out.lt)
  have R_B_8 := Lib.hid (R_B_7.out.under hb R_B_7.out.lt)
  have R_X_8 := Lib.hid (R_X_7.out.under hb R_X_7.out.lt)
  have R_Y_8 := Lib.hid (R_Y_7.out.under hb R_Y_7.out.lt)
  have BT8 := Lib.hid (BT7.out.trans (hb.mono BT7.out.size))
  clear hb BT7 R_A_7 R_B_7 R_X_7 R_Y_7
  clear HBL
  go_upto_region 9 with (first | (refine wpList_plain rfl fun _ hK => wp_store_row 25 (.tmp 10) (.tmp 92) rfl u8.heap.size bc rfl rfl 25 _ (Rw.new u8 _ 25) (by rw [HZ_bc.out]; exact i12) (by rw [HZ_bc.out]; rfl) H1_bc.out (hK _ _ ?_); clear hK))
  have HYV0 : Hid (Y < u8.heap.size) := Lib.hid R_Y_8.out.lt
  have HBV0 : Hid (w.heap.size ≤ u8.heap.size) := Lib.hid BT8.out.size
  obtain ⟨V, hY⟩ : ∃ X, X = u8.heap.size := ⟨_, rfl⟩
  rw [← hY]
  have HYV : Hid (Y < V) := Lib.hid (by rw [hY]; exact HYV0.out)
  have HBV : Hid (w.heap.size ≤ V) := Lib.hid (by rw [hY]; exact HBV0.out)
  clear HYV0 HBV0
  refine name_w (fun W => Rw W w.heap.size cs 25 ∧ Rw W (w.heap.size + 1) rs 27 ∧ Rw W X xc 25 ∧ Rw W Y ec 25 ∧ Rw W V bc 25 ∧ Below w.heap.size w W) ?_ ?_
  · have bb := below_setRow ((Below.refl u8.heap.size u8).alloc (Nat.le_refl _) (.cells zeroSC 25)) (Nat.le_refl _) (b := u8.heap.size) bc
    rw [hY]
    exact ⟨R_A_8.out.under bb R_A_8.out.lt, R_B_8.out.under bb R_B_8.out.lt, R_X_8.out.under bb R_X_8.out.lt, R_Y_8.out.under bb R_Y_8.out.lt, (Rw.new u8 _ 25).set bc, BT8.out.trans (bb.mono BT8.out.size)⟩
  clear hY BT8 R_A_8 R_B_8 R_X_8 R_Y_8
  rintro u9 ⟨h0, h1, h2, h3, h4, h5⟩
  have R_A_9 := Lib.hid h0
  have R_B_9 := Lib.hid h1
  have R_X_9 := Lib.hid h2
  have R_Y_9 := Lib.hid h3
  have R_V_9 := Lib.hid h4
  have BT9 := Lib.hid h5
  clear h0 h1 h2 h3 h4 h5
  have b3 : u9.cell? ⟨w.heap.size + 1, 3, none⟩ = some (.int .i64 dly) := by rw [R_B_9.out.cell 3, HE_rs.out, HV_dly.out]; rfl
  have RV : Hid (Rw u9 V (stC (blankS s)) 25) := Lib.hid (by rw [← HE_bc.out]; exact R_V_9.out)
  have v8 : u9.cell? ⟨V, 8, none⟩ = some (.int .i64 (blankS s).dl) := by rw [RV.out.cell 8]; rfl
  have fv := RV.out.fr 8
  go_upto_region 10 with (fail)
  refine name_w (fun W => Rw W Y ec 25 ∧ Rw W V ec 25 ∧ Below w.heap.size w W) ⟨(Below.heap_setCell _ _ _ _ (by show Y ≠ V; exact Nat.ne_of_lt HYV.out)).trans R_Y_9.out, by
    have h := heap_setCell_same _ _ 8 _ 25 (.int .i64 dly) RV.out
    rw [HE_ec.out, ← HV_dly.out]
    exact h, below_setCell BT9.out HBV.out _⟩ ?_
  rintro uf ⟨h1, h2, h3⟩
  have RY := Lib.hid h1
  have RW := Lib.hid h2
  have BF := Lib.hid h3
  clear h1 h2 h3 v8 fv b3 RV
  go_wp2_with (first | (refine wpList_load_any (by rfl) 25 (.tmp 8) rfl Y rfl 25 ec (0, 0) _ RY.out Try.underlying25 rfl (by rw [HZ_ec.out]; exact i12) ?_) | (refine wpList_load_any (by rfl) 25 (.tmp 10) rfl V rfl 25 ec (0, 0) _ RW.out Try.underlying25 rfl (by rw [HZ_ec.out]; exact i12) ?_))
  go_ret
  exact ⟨rfl, BF.out⟩
set_option maxRecDepth 100000 in
set_option maxHeartbeats 4000000 in
theorem walkN (s : St) (r : Rc) (w : World) (hs : FitsS s) (hr : FitsR r) (hac : ¬ (s.ac = 0 ∨ s.ac = 1)) : Calls Try.prog 9 #[stV s, recV r] w (Holds w) := by
  have HOK : Hid ((stepS s r).2 = true → rightS s = true) := Lib.hid ok_right
  have HNB := Lib.hid hac
  have HSP : Hid (∀ W, Calls Try.prog 11 #[stV s, recV r] W (StepR (stepS s r) W)) := Lib.hid (fun W => step_any s r W hr.kind)
  have HAW : Hid (∀ W, Calls Try.prog 13 #[] W fun e w' => e = .returned (.bool true) ∧ Below W.heap.size W w') := Lib.hid awake_any
  obtain ⟨x, hx⟩ : ∃ x, x = stepS s r := ⟨_, rfl⟩
  rw [← hx] at HOK HSP
  unfold StepR at HSP
  obtain ⟨xb, hxb⟩ : ∃ b, b = x.2 := ⟨_, rfl⟩
  rw [← hxb] at HOK HSP
  unfold stV at HSP ⊢
  unfold recV at HSP ⊢
  obtain ⟨cs, hcs⟩ : ∃ c, c = stC s := ⟨_, rfl⟩
  have HE_cs := Lib.hid hcs
  have HZ_cs : Hid (cs.size = 12) := Lib.hid (by rw [hcs]; rfl)
  have H1_cs : Hid (cs.all (·.oneCell') = true) := Lib.hid (by rw [hcs]; exact stC_one _)
  obtain ⟨rs, hrs⟩ : ∃ c, c = recC r := ⟨_, rfl⟩
  have HE_rs := Lib.hid hrs
  have HZ_rs : Hid (rs.size = 19) := Lib.hid (by rw [hrs]; rfl)
  have H1_rs : Hid (rs.all (·.oneCell') = true) := Lib.hid (by rw [hrs]; exact recC_one _)
  obtain ⟨xc, hxc⟩ : ∃ c, c = stC x.1 := ⟨_, rfl⟩
  have HE_xc := Lib.hid hxc
  have HZ_xc : Hid (xc.size = 12) := Lib.hid (by rw [hxc]; rfl)
  have H1_xc : Hid (xc.all (·.oneCell') = true) := Lib.hid (by rw [hxc]; exact stC_one _)
  rw [← hcs] at HSP ⊢
  rw [← hrs] at HSP ⊢
  rw [← hxc] at HSP
  clear hcs hrs hxc hx hxb hs hr hac
  go_enter Try.func9, Try.ntmps9
  go_upto_region 1 with (fail)
  refine name_w (fun W => Rw W w.heap.size cs 25 ∧ Rw W (w.heap.size + 1) rs 27 ∧ Below w.heap.size w W) ⟨(Rw.new _ _ _).alloc _, ?_, ((Below.refl _ _).alloc (Nat.le_refl _) _).alloc (by simp) _⟩ ?_
  · have h1 := Rw.new (w.alloc (.cells cs 25)) rs 27
    rw [size_alloc] at h1
    exact h1
  rintro u0 ⟨h0, h1, h2⟩
  have R_A_0 := Lib.hid h0
  have R_B_0 := Lib.hid h1
  have BT0 := Lib.hid h2
  clear h0 h1 h2
  go_wp2_with (first | (refine wpList_load_row rfl 25 (.tmp 2) rfl w.heap.size rfl 25 cs (0, 0) _ R_A_0.out Try.underlying25 rfl (by rw [HZ_cs.out]; exact i12) ?_) | (refine wpList_load_row rfl 27 (.tmp 3) rfl (w.heap.size + 1) rfl 27 rs (0, 0) _ R_B_0.out Try.underlying27 rfl (by rw [HZ_rs.out]; exact i19) ?_))
  refine (HSP.out _).mono ?_
  rintro e u1 ⟨rfl, hb⟩
  have R_A_1 := Lib.hid (R_A_0.out.under hb R_A_0.out.lt)
  have R_B_1 := Lib.hid (R_B_0.out.under hb R_B_0.out.lt)
  have BT1 := Lib.hid (BT0.out.trans (hb.mono BT0.out.size))
  clear hb BT0 R_A_0 R_B_0
  clear HSP
  go_upto_region 2 with (first | (refine wpList_plain rfl fun _ hK => wp_store_row 25 (.tmp 5) (.tmp 15) rfl u1.heap.size xc rfl rfl 25 _ (Rw.new u1 _ 25) (by rw [HZ_xc.out]; exact i12) (by rw [HZ_xc.out]; rfl) H1_xc.out (hK _ _ ?_); clear hK))
  obtain ⟨X, hY⟩ : ∃ X, X = u1.heap.size := ⟨_, rfl⟩
  rw [← hY]
  refine name_w (fun W => Rw W w.heap.size cs 25 ∧ Rw W (w.heap.size + 1) rs 27 ∧ Rw W X xc 25 ∧ Below w.heap.size w W) ?_ ?_
  · have bb := below_setRow ((Below.refl u1.heap.size u1).alloc (Nat.le_refl _) (.cells zeroSC 25)) (Nat.le_refl _) (b := u1.heap.size) xc
    rw [hY]
    exact ⟨R_A_1.out.under bb R_A_1.out.lt, R_B_1.out.under bb R_B_1.out.lt, (Rw.new u1 _ 25).set xc, BT1.out.trans (bb.mono BT1.out.size)⟩
  clear hY BT1 R_A_1 R_B_1
  rintro u2 ⟨h0, h1, h2, h3⟩
  have R_A_2 := Lib.hid h0
  have R_B_2 := Lib.hid h1
  have R_X_2 := Lib.hid h2
  have BT2 := Lib.hid h3
  clear h0 h1 h2 h3
  go_wp2_with fail
  refine (HAW.out _).mono ?_
  rintro e u3 ⟨rfl, hb⟩
  have R_A_3 := Lib.hid (R_A_2.out.under hb R_A_2.out.lt)
  have R_B_3 := Lib.hid (R_B_2.out.under hb R_B_2.out.lt)
  have R_X_3 := Lib.hid (R_X_2.out.under hb R_X_2.out.lt)
  have BT3 := Lib.hid (BT2.out.trans (hb.mono BT2.out.size))
  clear hb BT2 R_A_2 R_B_2 R_X_2
  cases xb with
  | true => exact absurd (right_in (HOK.out (by simp))).1 HNB.out
  | false =>
    go_upto_region 3 with (fail)
    go_wp2_with fail
    refine (HAW.out _).mono ?_
    rintro e u4 ⟨rfl, hb⟩
    have R_A_4 := Lib.hid (R_A_3.out.under hb R_A_3.out.lt)
    have R_B_4 := Lib.hid (R_B_3.out.under hb R_B_3.out.lt)
    have R_X_4 := Lib.hid (R_X_3.out.under hb R_X_3.out.lt)
    have BT4 := Lib.hid (BT3.out.trans (hb.mono BT3.out.size))
    clear hb BT3 R_A_3 R_B_3 R_X_3
    go_wp2_with fail
    go_ret
    exact ⟨rfl, BT4.out⟩
theorem walk (s : St) (r : Rc) (w : World) (hs : FitsS s) (hr : FitsR r) : Calls Try.prog 9 #[stV s, recV r] w (Holds w) := by
  by_cases h0 : s.ac = 0
  · exact walk0 s r w hs hr h0
  by_cases h1 : s.ac = 1
  · exact walk1 s r w hs hr h1
  exact walkN s r w hs hr (fun h => h.elim h0 h1)

/-! From the walk to the given row. -/
set_option maxRecDepth 100000 in
theorem lifted (os : Os) (started : os.Started) (H : Type) (enc : TypeId × Value → H) :
    ReturnsInHanded {} Try.checked os 9 .any (Rows.foldDeploySpec.pre6 enc Try.prog Try.f9 Rows.foldDeployRow.domain false) (Rows.foldDeploySpec.post enc Try.prog Try.f9 false true false false) := by
  refine returnsInHanded_of_change (C := Try.checked) t_own started (by kernel_rfl) Try.func9
    (ChangeSpec.witness6 (enc := enc) (C := Try.checked) false ⟨#[], #[stV zeroS, recV ⟨0, 0, 0, 0, 0, 0, false, zeroS⟩], []⟩ 8 (by kernel_rfl) (by kernel_rfl) (by kernel_rfl) (by kernel_rfl)) ?_
  intro W base args ds gs before hval0 hW hcnd _
  have hval : ∀ (j : Nat) t v, Try.f9.params[j]? = some t → args[j]? = some v → Value.okWide Try.prog W .any base t v := hval0
  have hW' := hW
  obtain ⟨p, q, hA0, hV, rfl, hfz, hnd⟩ := hW
  have hA : DataW.TrodAll enc Try.prog W 0 (fun _ => true) true Try.f9.params.toList args.toList ds p := hA0
  rw [Try.params9] at hA hval
  obtain ⟨v0, vs0, d0, ds0, p0, q0, hargs, rfl, rfl, h0, r0⟩ := trodAll_cons hA
  obtain ⟨v1, vs1, d1, ds1, p1, q1, rfl, rfl, rfl, h1, r1⟩ := trodAll_cons r0
  obtain ⟨rfl, rfl, rfl⟩ := trodAll_nil r1
  obtain rfl : args = #[v0, v1] := by cases args; simp_all
  obtain ⟨s, rfl, hs⟩ := open_state (hval 0 25 v0 rfl rfl) h0
  obtain ⟨r, rfl, hr⟩ := open_rec (hval 1 27 v1 rfl rfl) h1
  refine (walk s r W hs hr).mono fun e W' ⟨he, hb⟩ => ?_
  subst he
  exact ⟨_, rfl, post_of_holds hW' (by kernel_rfl) rfl (by rw [Try.params9]; exact fun t ht => params_ok t (by simp at ht; rcases ht with rfl | rfl <;> simp)) ⟨rfl, rfl, rfl⟩ hb⟩

/-- The given statement. -/
theorem proved : Rows.FoldDeploySaid :=
  OpenClaim.holds_of_wide 9 Try.f9 rfl rfl rfl rfl rfl rfl rfl ⟨rfl, rfl, rfl, rfl, rfl⟩ rfl rfl rfl rfl rfl (by kernel_rfl) Try.func9 (by kernel_rfl)
    (of_decide_eq_true (by kernel_rfl)) (by unfold Func.isWrapper; first | (rw [if_pos (by decide +kernel)]; kernel_rfl) | (rw [if_neg (by decide +kernel)]; exact ⟨rfl, rfl⟩))
    (fun os started H enc _ => lifted os started H enc)
#print axioms proved
end Go.Proofs.Ytoeelglmdnhknaa.foldDeploy
