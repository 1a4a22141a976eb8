/-
  switchback's FoldRoutes: The active slot changes with KApplied alone, and then to the other one, whose gate ahead has passed; and the active slot's revision and replicas never change but with that. For every input the law returns true, and each argument reads afterwards as it read before. No condition beside the row's own.
-/
import Derived.Test.YtoeelglmdnhknaaAwak
import Derived.Test.YtoeelglmdnhknaaLift
import Derived.Test.YtoeelglmdnhknaaLawB
namespace Go.Proofs.Ytoeelglmdnhknaa.foldRoutes
open Go.Proofs.Ytoeelglmdnhknaa
open Go.ChangeShapes Go.WideShapes Go.ChangeAt Go.RowKit
set_option linter.unusedVariables false

set_option maxRecDepth 100000 in
set_option maxHeartbeats 4000000 in
theorem walk0 (s : St) (r : Rc) (w : World) (hs : FitsS s) (hr : FitsR r) (hac : s.ac = 0) : Calls Try.prog 6 #[stV s, recV r] w (Holds w) := by
  have HOK : Hid ((stepS s r).2 = true → rightS s = true) := Lib.hid ok_right
  have HXF : Hid (FitsS (stepS s r).1) := Lib.hid (fits_step r hs)
  have HFS := Lib.hid hs
  have HSP : Hid (∀ W, Calls Try.prog 11 #[stV s, recV r] W (StepR (stepS s r) W)) := Lib.hid (fun W => step_any s r W hr.kind)
  have HAW : Hid (∀ W, Calls Try.prog 13 #[] W fun e w' => e = .returned (.bool true) ∧ Below W.heap.size W w') := Lib.hid awake_any
  have HMR : Hid (∀ W, Calls Try.prog 15 #[stV s] W fun e w' => e = .returned (.bool (rightS s)) ∧ Below W.heap.size W w') := Lib.hid (fun W => mright_any s W)
  have R8 : Hid (r.kind = 8 → (stepS s r).2 = true → (stepS s r).1 = { s with sw := 0, ac := 1 - s.ac, fl := r.tick, ph := if s.ph = 3 then 4 else 7 } ∧ s.sw = 2 ∧ r.gen = s.gn) := Lib.hid routes_8
  have RO : Hid (r.kind ≠ 8 → (stepS s r).1.ac = 0 ∧ (stepS s r).1.r0 = s.r0 ∧ (stepS s r).1.w0 = s.w0) := Lib.hid (fun hk => routes_0 hk hac)
  have HAC := Lib.hid hac
  have eqR : ∀ W, (Op.equalIn 10000 22 (.agg #[.int .i64 s.r0, .int .i64 s.r1]) (.agg #[.int .i64 s.r0, .int .i64 s.r1])).run Try.prog W = .ok true W := eq22 hs.r0 hs.r1
  have eqW : ∀ W, (Op.equalIn 10000 22 (.agg #[.int .i64 s.w0, .int .i64 s.w1]) (.agg #[.int .i64 s.w0, .int .i64 s.w1])).run Try.prog W = .ok true W := eq22 hs.w0 hs.w1
  have HPA : Hid (rightS s = true → s.sw = 2 → s.p0 = true ∧ s.p1 = true) := Lib.hid passed_of
  clear hac
  obtain ⟨x, hx⟩ : ∃ x, x = stepS s r := ⟨_, rfl⟩
  have HX := Lib.hid hx
  rw [← hx] at HOK HXF HSP R8 RO
  unfold StepR at HSP
  obtain ⟨xb, hxb⟩ : ∃ b, b = x.2 := ⟨_, rfl⟩
  rw [← hxb] at HOK HSP R8
  have HXB := Lib.hid hxb
  unfold stV at HSP HMR ⊢
  unfold recV at HSP ⊢
  obtain ⟨cs, hcs⟩ : ∃ c, c = stC s := ⟨_, rfl⟩
  have HE_cs := Lib.hid hcs
  have HZ_cs : Hid (cs.size = 12) := Lib.hid (by rw [hcs]; rfl)
  have H1_cs : Hid (cs.all (·.oneCell') = true) := Lib.hid (by rw [hcs]; exact stC_one _)
  obtain ⟨rs, hrs⟩ : ∃ c, c = recC r := ⟨_, rfl⟩
  have HE_rs := Lib.hid hrs
  have HZ_rs : Hid (rs.size = 19) := Lib.hid (by rw [hrs]; rfl)
  have H1_rs : Hid (rs.all (·.oneCell') = true) := Lib.hid (by rw [hrs]; exact recC_one _)
  obtain ⟨xc, hxc⟩ : ∃ c, c = stC x.1 := ⟨_, rfl⟩
  have HE_xc := Lib.hid hxc
  have HZ_xc : Hid (xc.size = 12) := Lib.hid (by rw [hxc]; rfl)
  have H1_xc : Hid (xc.all (·.oneCell') = true) := Lib.hid (by rw [hxc]; exact stC_one _)
  rw [← hcs] at HSP HMR ⊢
  rw [← hrs] at HSP ⊢
  rw [← hxc] at HSP
  clear hcs hrs hxc hx hxb hs hr
  go_enter Try.func6, Try.ntmps6
  go_upto_region 1 with (fail)
  refine name_w (fun W => Rw W w.heap.size cs 25 ∧ Rw W (w.heap.size + 1) rs 27 ∧ Below w.heap.size w W) ⟨(Rw.new _ _ _).alloc _, ?_, ((Below.refl _ _).alloc (Nat.le_refl _) _).alloc (by simp) _⟩ ?_
  · have h1 := Rw.new (w.alloc (.cells cs 25)) rs 27
    rw [size_alloc] at h1
    exact h1
  rintro u0 ⟨h0, h1, h2⟩
  have R_A_0 := Lib.hid h0
  have R_B_0 := Lib.hid h1
  have BT0 := Lib.hid h2
  clear h0 h1 h2
  go_wp2_with (first | (refine wpList_load_row rfl 25 (.tmp 2) rfl w.heap.size rfl 25 cs (0, 0) _ R_A_0.out Try.underlying25 rfl (by rw [HZ_cs.out]; exact i12) ?_) | (refine wpList_load_row rfl 27 (.tmp 3) rfl (w.heap.size + 1) rfl 27 rs (0, 0) _ R_B_0.out Try.underlying27 rfl (by rw [HZ_rs.out]; exact i19) ?_))
  refine (HSP.out _).mono ?_
  rintro e u1 ⟨rfl, hb⟩
  have R_A_1 := Lib.hid (R_A_0.out.under hb R_A_0.out.lt)
  have R_B_1 := Lib.hid (R_B_0.out.under hb R_B_0.out.lt)
  have BT1 := Lib.hid (BT0.out.trans (hb.mono BT0.out.size))
  clear hb BT0 R_A_0 R_B_0
  clear HSP
  go_upto_region 2 with (first | (refine wpList_plain rfl fun _ hK => wp_store_row 25 (.tmp 5) (.tmp 11) rfl u1.heap.size xc rfl rfl 25 _ (Rw.new u1 _ 25) (by rw [HZ_xc.out]; exact i12) (by rw [HZ_xc.out]; rfl) H1_xc.out (hK _ _ ?_); clear hK))
  obtain ⟨X, hY⟩ : ∃ X, X = u1.heap.size := ⟨_, rfl⟩
  rw [← hY]
  refine name_w (fun W => Rw W w.heap.size cs 25 ∧ Rw W (w.heap.size + 1) rs 27 ∧ Rw W X xc 25 ∧ Below w.heap.size w W) ?_ ?_
  · have bb := below_setRow ((Below.refl u1.heap.size u1).alloc (Nat.le_refl _) (.cells zeroSC 25)) (Nat.le_refl _) (b := u1.heap.size) xc
    rw [hY]
    exact ⟨R_A_1.out.under bb R_A_1.out.lt, R_B_1.out.under bb R_B_1.out.lt, (Rw.new u1 _ 25).set xc, BT1.out.trans (bb.mono BT1.out.size)⟩
  clear hY BT1 R_A_1 R_B_1
  rintro u2 ⟨h0, h1, h2, h3⟩
  have R_A_2 := Lib.hid h0
  have R_B_2 := Lib.hid h1
  have R_X_2 := Lib.hid h2
  have BT2 := Lib.hid h3
  clear h0 h1 h2 h3
  go_wp2_with fail
  refine (HAW.out _).mono ?_
  rintro e u3 ⟨rfl, hb⟩
  have R_A_3 := Lib.hid (R_A_2.out.under hb R_A_2.out.lt)
  have R_B_3 := Lib.hid (R_B_2.out.under hb R_B_2.out.lt)
  have R_X_3 := Lib.hid (R_X_2.out.under hb R_X_2.out.lt)
  have BT3 := Lib.hid (BT2.out.trans (hb.mono BT2.out.size))
  clear hb BT2 R_A_2 R_B_2 R_X_2
  cases xb with
  | false =>
    go_upto_region 3 with (fail)
    go_wp2_with fail
    refine (HAW.out _).mono ?_
    rintro e u4 ⟨rfl, hb⟩
    have R_A_4 := Lib.hid (R_A_3.out.under hb R_A_3.out.lt)
    have R_B_4 := Lib.hid (R_B_3.out.under hb R_B_3.out.lt)
    have R_X_4 := Lib.hid (R_X_3.out.under hb R_X_3.out.lt)
    have BT4 := Lib.hid (BT3.out.trans (hb.mono BT3.out.size))
    clear hb BT3 R_A_3 R_B_3 R_X_3
    go_wp2_with fail
    go_ret
    exact ⟨rfl, BT4.out⟩
  | true =>
  have hrt := HOK.out rfl
  have HRT := Lib.hid hrt
  rw [hrt] at HMR
  clear hrt HOK
  go_wp2_with (first | (refine wpList_load_any (by rfl) 25 (.tmp 2) rfl w.heap.size rfl 25 cs (0, 0) _ R_A_3.out Try.underlying25 rfl (by rw [HZ_cs.out]; exact i12) ?_))
  refine (HMR.out _).mono ?_
  rintro e u4 ⟨rfl, hb⟩
  have R_A_4 := Lib.hid (R_A_3.out.under hb R_A_3.out.lt)
  have R_B_4 := Lib.hid (R_B_3.out.under hb R_B_3.out.lt)
  have R_X_4 := Lib.hid (R_X_3.out.under hb R_X_3.out.lt)
  have BT4 := Lib.hid (BT3.out.trans (hb.mono BT3.out.size))
  clear hb BT3 R_A_3 R_B_3 R_X_3
  clear HMR HAW
  obtain ⟨kd, h_kd⟩ : ∃ g, g = r.kind := ⟨_, rfl⟩
  have HV_kd := Lib.hid h_kd
  obtain ⟨ge, h_ge⟩ : ∃ g, g = r.gen := ⟨_, rfl⟩
  have HV_ge := Lib.hid h_ge
  obtain ⟨gn, h_gn⟩ : ∃ g, g = s.gn := ⟨_, rfl⟩
  have HV_gn := Lib.hid h_gn
  obtain ⟨sw, h_sw⟩ : ∃ g, g = s.sw := ⟨_, rfl⟩
  have HV_sw := Lib.hid h_sw
  obtain ⟨r0, h_r0⟩ : ∃ g, g = s.r0 := ⟨_, rfl⟩
  have HV_r0 := Lib.hid h_r0
  obtain ⟨r1, h_r1⟩ : ∃ g, g = s.r1 := ⟨_, rfl⟩
  have HV_r1 := Lib.hid h_r1
  obtain ⟨w0, h_w0⟩ : ∃ g, g = s.w0 := ⟨_, rfl⟩
  have HV_w0 := Lib.hid h_w0
  obtain ⟨w1, h_w1⟩ : ∃ g, g = s.w1 := ⟨_, rfl⟩
  have HV_w1 := Lib.hid h_w1
  rw [← h_r0, ← h_r1] at eqR
  rw [← h_w0, ← h_w1] at eqW
  clear h_kd h_ge h_gn h_sw h_r0 h_r1 h_w0 h_w1
  go_upto_region 4 with (fail)
  by_cases h8 : kd = 8
  case pos =>
    obtain ⟨e1, e2, e3⟩ := R8.out (by rw [← HV_kd.out]; exact h8) (by simp)
    obtain ⟨hp0, hp1⟩ := HPA.out HRT.out e2
    have HP := Lib.hid (And.intro hp0 hp1)
    have HX1 : Hid (x.1.ac = 1 ∧ x.1.r0 = s.r0 ∧ x.1.r1 = s.r1 ∧ x.1.w0 = s.w0 ∧ x.1.w1 = s.w1) := Lib.hid (by rw [e1]; exact ⟨by show 1 - s.ac = 1; rw [HAC.out]; rfl, rfl, rfl, rfl, rfl⟩)
    have f1 : (kd == 8) = true := by simpa using h8
    have f2 : (sw == 2) = true := by rw [HV_sw.out, e2]; rfl
    have f3 : (ge == gn) = true := by rw [HV_ge.out, HV_gn.out, e3]; simp
    clear e1 e2 e3 h8 hp0 hp1 R8 RO HPA
    have x1 : u4.cell? ⟨X, 1, none⟩ = some (.int .i64 1) := by rw [R_X_4.out.cell 1, HE_xc.out, ← HX1.out.1]; rfl
    have x2 : u4.cell? ⟨X, 2, none⟩ = some (.int .i64 r0) := by rw [R_X_4.out.cell 2, HE_xc.out, HV_r0.out, ← HX1.out.2.1]; rfl
    have x3 : u4.cell? ⟨X, 3, none⟩ = some (.int .i64 r1) := by rw [R_X_4.out.cell 3, HE_xc.out, HV_r1.out, ← HX1.out.2.2.1]; rfl
    have x4 : u4.cell? ⟨X, 4, none⟩ = some (.int .i64 w0) := by rw [R_X_4.out.cell 4, HE_xc.out, HV_w0.out, ← HX1.out.2.2.2.1]; rfl
    have x5 : u4.cell? ⟨X, 5, none⟩ = some (.int .i64 w1) := by rw [R_X_4.out.cell 5, HE_xc.out, HV_w1.out, ← HX1.out.2.2.2.2]; rfl
    have a1 : u4.cell? ⟨w.heap.size, 1, none⟩ = some (.int .i64 0) := by rw [R_A_4.out.cell 1, HE_cs.out, ← HAC.out]; rfl
    have a2 : u4.cell? ⟨w.heap.size, 2, none⟩ = some (.int .i64 r0) := by rw [R_A_4.out.cell 2, HE_cs.out, HV_r0.out]; rfl
    have a3 : u4.cell? ⟨w.heap.size, 3, none⟩ = some (.int .i64 r1) := by rw [R_A_4.out.cell 3, HE_cs.out, HV_r1.out]; rfl
    have a4 : u4.cell? ⟨w.heap.size, 4, none⟩ = some (.int .i64 w0) := by rw [R_A_4.out.cell 4, HE_cs.out, HV_w0.out]; rfl
    have a5 : u4.cell? ⟨w.heap.size, 5, none⟩ = some (.int .i64 w1) := by rw [R_A_4.out.cell 5, HE_cs.out, HV_w1.out]; rfl
    have a6 : u4.cell? ⟨w.heap.size, 6, none⟩ = some (.bool true) := by rw [R_A_4.out.cell 6, HE_cs.out, ← HP.out.1]; rfl
    have a7 : u4.cell? ⟨w.heap.size, 7, none⟩ = some (.bool true) := by rw [R_A_4.out.cell 7, HE_cs.out, ← HP.out.2]; rfl
    have a9 : u4.cell? ⟨w.heap.size, 9, none⟩ = some (.int .i64 gn) := by rw [R_A_4.out.cell 9, HE_cs.out, HV_gn.out]; rfl
    have a10 : u4.cell? ⟨w.heap.size, 10, none⟩ = some (.int .i64 sw) := by rw [R_A_4.out.cell 10, HE_cs.out, HV_sw.out]; rfl
    have b0 : u4.cell? ⟨w.heap.size + 1, 0, none⟩ = some (.int .i64 kd) := by rw [R_B_4.out.cell 0, HE_rs.out, HV_kd.out]; rfl
    have b4 : u4.cell? ⟨w.heap.size + 1, 4, none⟩ = some (.int .i64 ge) := by rw [R_B_4.out.cell 4, HE_rs.out, HV_ge.out]; rfl
    go_wp2_with fail
    go_ret
    exact ⟨rfl, BT4.out⟩
  obtain ⟨e1, e2, e3⟩ := RO.out (by rw [← HV_kd.out]; exact h8)
  have HX1 := Lib.hid (And.intro e1 (And.intro e2 e3))
  have f1 : (kd != 8) = true := by simpa using h8
  clear e1 e2 e3 h8 R8 RO HPA
  have x1 : u4.cell? ⟨X, 1, none⟩ = some (.int .i64 0) := by rw [R_X_4.out.cell 1, HE_xc.out, ← HX1.out.1]; rfl
  have xr : u4.cell? ⟨X, 2, none⟩ = some (.int .i64 r0) := by rw [R_X_4.out.cell 2, HE_xc.out, HV_r0.out, ← HX1.out.2.1]; rfl
  have xw : u4.cell? ⟨X, 4, none⟩ = some (.int .i64 w0) := by rw [R_X_4.out.cell 4, HE_xc.out, HV_w0.out, ← HX1.out.2.2]; rfl
  have a1 : u4.cell? ⟨w.heap.size, 1, none⟩ = some (.int .i64 0) := by rw [R_A_4.out.cell 1, HE_cs.out, ← HAC.out]; rfl
  have ar : u4.cell? ⟨w.heap.size, 2, none⟩ = some (.int .i64 r0) := by rw [R_A_4.out.cell 2, HE_cs.out, HV_r0.out]; rfl
  have aw : u4.cell? ⟨w.heap.size, 4, none⟩ = some (.int .i64 w0) := by rw [R_A_4.out.cell 4, HE_cs.out, HV_w0.out]; rfl
  have b0 : u4.cell? ⟨w.heap.size + 1, 0, none⟩ = some (.int .i64 kd) := by rw [R_B_4.out.cell 0, HE_rs.out, HV_kd.out]; rfl
  go_upto_region 6 with (fail)
  go_wp2_with fail
  go_quiet (fail)
  go_wp2
  go_ret
  exact ⟨rfl, BT4.out.trans (below_drewN _ _ _)⟩
set_option maxRecDepth 100000 in
set_option maxHeartbeats 4000000 in
theorem walk1 (s : St) (r : Rc) (w : World) (hs : FitsS s) (hr : FitsR r) (hac : s.ac = 1) : Calls Try.prog 6 #[stV s, recV r] w (Holds w) := by
  have HOK : Hid ((stepS s r).2 = true → rightS s = true) := Lib.hid ok_right
  have HXF : Hid (FitsS (stepS s r).1) := Lib.hid (fits_step r hs)
  have HFS := Lib.hid hs
  have HSP : Hid (∀ W, Calls Try.prog 11 #[stV s, recV r] W (StepR (stepS s r) W)) := Lib.hid (fun W => step_any s r W hr.kind)
  have HAW : Hid (∀ W, Calls Try.prog 13 #[] W fun e w' => e = .returned (.bool true) ∧ Below W.heap.size W w') := Lib.hid awake_any
  have HMR : Hid (∀ W, Calls Try.prog 15 #[stV s] W fun e w' => e = .returned (.bool (rightS s)) ∧ Below W.heap.size W w') := Lib.hid (fun W => mright_any s W)
  have R8 : Hid (r.kind = 8 → (stepS s r).2 = true → (stepS s r).1 = { s with sw := 0, ac := 1 - s.ac, fl := r.tick, ph := if s.ph = 3 then 4 else 7 } ∧ s.sw = 2 ∧ r.gen = s.gn) := Lib.hid routes_8
  have RO : Hid (r.kind ≠ 8 → (stepS s r).1.ac = 1 ∧ (stepS s r).1.r1 = s.r1 ∧ (stepS s r).1.w1 = s.w1) := Lib.hid (fun hk => routes_1 hk hac)
  have HAC := Lib.hid hac
  have eqR : ∀ W, (Op.equalIn 10000 22 (.agg #[.int .i64 s.r0, .int .i64 s.r1]) (.agg #[.int .i64 s.r0, .int .i64 s.r1])).run Try.prog W = .ok true W := eq22 hs.r0 hs.r1
  have eqW : ∀ W, (Op.equalIn 10000 22 (.agg #[.int .i64 s.w0, .int .i64 s.w1]) (.agg #[.int .i64 s.w0, .int .i64 s.w1])).run Try.prog W = .ok true W := eq22 hs.w0 hs.w1
  have HPA : Hid (rightS s = true → s.sw = 2 → s.p0 = true ∧ s.p1 = true) := Lib.hid passed_of
  clear hac
  obtain ⟨x, hx⟩ : ∃ x, x = stepS s r := ⟨_, rfl⟩
  have HX := Lib.hid hx
  rw [← hx] at HOK HXF HSP R8 RO
  unfold StepR at HSP
  obtain ⟨xb, hxb⟩ : ∃ b, b = x.2 := ⟨_, rfl⟩
  rw [← hxb] at HOK HSP R8
  have HXB := Lib.hid hxb
  unfold stV at HSP HMR ⊢
  unfold recV at HSP ⊢
  obtain ⟨cs, hcs⟩ : ∃ c, c = stC s := ⟨_, rfl⟩
  have HE_cs := Lib.hid hcs
  have HZ_cs : Hid (cs.size = 12) := Lib.hid (by rw [hcs]; rfl)
  have H1_cs : Hid (cs.all (·.oneCell') = true) := Lib.hid (by rw [hcs]; exact stC_one _)
  obtain ⟨rs, hrs⟩ : ∃ c, c = recC r := ⟨_, rfl⟩
  have HE_rs := Lib.hid hrs
  have HZ_rs : Hid (rs.size = 19) := Lib.hid (by rw [hrs]; rfl)
  have H1_rs : Hid (rs.all (·.oneCell') = true) := Lib.hid (by rw [hrs]; exact recC_one _)
  obtain ⟨xc, hxc⟩ : ∃ c, c = stC x.1 := ⟨_, rfl⟩
  have HE_xc := Lib.hid hxc
  have HZ_xc : Hid (xc.size = 12) := Lib.hid (by rw [hxc]; rfl)
  have H1_xc : Hid (xc.all (·.oneCell') = true) := Lib.hid (by rw [hxc]; exact stC_one _)
  rw [← hcs] at HSP HMR ⊢
  rw [← hrs] at HSP ⊢
  rw [← hxc] at HSP
  clear hcs hrs hxc hx hxb hs hr
  go_enter Try.func6, Try.ntmps6
  go_upto_region 1 with (fail)
  refine name_w (fun W => Rw W w.heap.size cs 25 ∧ Rw W (w.heap.size + 1) rs 27 ∧ Below w.heap.size w W) ⟨(Rw.new _ _ _).alloc _, ?_, ((Below.refl _ _).alloc (Nat.le_refl _) _).alloc (by simp) _⟩ ?_
  · have h1 := Rw.new (w.alloc (.cells cs 25)) rs 27
    rw [size_alloc] at h1
    exact h1
  rintro u0 ⟨h0, h1, h2⟩
  have R_A_0 := Lib.hid h0
  have R_B_0 := Lib.hid h1
  have BT0 := Lib.hid h2
  clear h0 h1 h2
  go_wp2_with (first | (refine wpList_load_row rfl 25 (.tmp 2) rfl w.heap.size rfl 25 cs (0, 0) _ R_A_0.out Try.underlying25 rfl (by rw [HZ_cs.out]; exact i12) ?_) | (refine wpList_load_row rfl 27 (.tmp 3) rfl (w.heap.size + 1) rfl 27 rs (0, 0) _ R_B_0.out Try.underlying27 rfl (by rw [HZ_rs.out]; exact i19) ?_))
  refine (HSP.out _).mono ?_
  rintro e u1 ⟨rfl, hb⟩
  have R_A_1 := Lib.hid (R_A_0.out.under hb R_A_0.out.lt)
  have R_B_1 := Lib.hid (R_B_0.out.under hb R_B_0.out.lt)
  have BT1 := Lib.hid (BT0.out.trans (hb.mono BT0.out.size))
  clear hb BT0 R_A_0 R_B_0
  clear HSP
  go_upto_region 2 with (first | (refine wpList_plain rfl fun _ hK => wp_store_row 25 (.tmp 5) (.tmp 11) rfl u1.heap.size xc rfl rfl 25 _ (Rw.new u1 _ 25) (by rw [HZ_xc.out]; exact i12) (by rw [HZ_xc.out]; rfl) H1_xc.out (hK _ _ ?_); clear hK))
  obtain ⟨X, hY⟩ : ∃ X, X = u1.heap.size := ⟨_, rfl⟩
  rw [← hY]
  refine name_w (fun W => Rw W w.heap.size cs 25 ∧ Rw W (w.heap.size + 1) rs 27 ∧ Rw W X xc 25 ∧ Below w.heap.size w W) ?_ ?_
  · have bb := below_setRow ((Below.refl u1.heap.size u1).alloc (Nat.le_refl _) (.cells zeroSC 25)) (Nat.le_refl _) (b := u1.heap.size) xc
    rw [hY]
    exact ⟨R_A_1.out.under bb R_A_1.out.lt, R_B_1.out.under bb R_B_1.out.lt, (Rw.new u1 _ 25).set xc, BT1.out.trans (bb.mono BT1.out.size)⟩
  clear hY BT1 R_A_1 R_B_1
  rintro u2 ⟨h0, h1, h2, h3⟩
  have R_A_2 := Lib.hid h0
  have R_B_2 := Lib.hid h1
  have R_X_2 := Lib.hid h2
  have BT2 := Lib.hid h3
  clear h0 h1 h2 h3
  go_wp2_with fail
  refine (HAW.out _).mono ?_
  rintro e u3 ⟨rfl, hb⟩
  have R_A_3 := Lib.hid (R_A_2.out.under hb R_A_2.out.lt)
  have R_B_3 := Lib.hid (R_B_2.out.under hb R_B_2.out.lt)
  have R_X_3 := Lib.hid (R_X_2.out.under hb R_X_2.out.lt)
  have BT3 := Lib.hid (BT2.out.trans (hb.mono BT2.out.size))
  clear hb BT2 R_A_2 R_B_2 R_X_2
  cases xb with
  | false =>
    go_upto_region 3 with (fail)
    go_wp2_with fail
    refine (HAW.out _).mono ?_
    rintro e u4 ⟨rfl, hb⟩
    have R_A_4 := Lib.hid (R_A_3.out.under hb R_A_3.out.lt)
    have R_B_4 := Lib.hid (R_B_3.out.under hb R_B_3.out.lt)
    have R_X_4 := Lib.hid (R_X_3.out.under hb R_X_3.out.lt)
    have BT4 := Lib.hid (BT3.out.trans (hb.mono BT3.out.size))
    clear hb BT3 R_A_3 R_B_3 R_X_3
    go_wp2_with fail
    go_ret
    exact ⟨rfl, BT4.out⟩
  | true =>
  have hrt := HOK.out rfl
  have HRT := Lib.hid hrt
  rw [hrt] at HMR
  clear hrt HOK
  go_wp2_with (first | (refine wpList_load_any (by rfl) 25 (.tmp 2) rfl w.heap.size rfl 25 cs (0, 0) _ R_A_3.out Try.underlying25 rfl (by rw [HZ_cs.out]; exact i12) ?_))
  refine (HMR.out _).mono ?_
  rintro e u4 ⟨rfl, hb⟩
  have R_A_4 := Lib.hid (R_A_3.out.under hb R_A_3.out.lt)
  have R_B_4 := Lib.hid (R_B_3.out.under hb R_B_3.out.lt)
  have R_X_4 := Lib.hid (R_X_3.out.under hb R_X_3.out.lt)
  have BT4 := Lib.hid (BT3.out.trans (hb.mono BT3.out.size))
  clear hb BT3 R_A_3 R_B_3 R_X_3
  clear HMR HAW
  obtain ⟨kd, h_kd⟩ : ∃ g, g = r.kind := ⟨_, rfl⟩
  have HV_kd := Lib.hid h_kd
  obtain ⟨ge, h_ge⟩ : ∃ g, g = r.gen := ⟨_, rfl⟩
  have HV_ge := Lib.hid h_ge
  obtain ⟨gn, h_gn⟩ : ∃ g, g = s.gn := ⟨_, rfl⟩
  have HV_gn := Lib.hid h_gn
  obtain ⟨sw, h_sw⟩ : ∃ g, g = s.sw := ⟨_, rfl⟩
  have HV_sw := Lib.hid h_sw
  obtain ⟨r0, h_r0⟩ : ∃ g, g = s.r0 := ⟨_, rfl⟩
  have HV_r0 := Lib.hid h_r0
  obtain ⟨r1, h_r1⟩ : ∃ g, g = s.r1 := ⟨_, rfl⟩
  have HV_r1 := Lib.hid h_r1
  obtain ⟨w0, h_w0⟩ : ∃ g, g = s.w0 := ⟨_, rfl⟩
  have HV_w0 := Lib.hid h_w0
  obtain ⟨w1, h_w1⟩ : ∃ g, g = s.w1 := ⟨_, rfl⟩
  have HV_w1 := Lib.hid h_w1
  rw [← h_r0, ← h_r1] at eqR
  rw [← h_w0, ← h_w1] at eqW
  clear h_kd h_ge h_gn h_sw h_r0 h_r1 h_w0 h_w1
  go_upto_region 4 with (fail)
  by_cases h8 : kd = 8
  case pos =>
    obtain ⟨e1, e2, e3⟩ := R8.out (by rw [← HV_kd.out]; exact h8) (by simp)
    obtain ⟨hp0, hp1⟩ := HPA.out HRT.out e2
    have HP := Lib.hid (And.intro hp0 hp1)
    have HX1 : Hid (x.1.ac = 0 ∧ x.1.r0 = s.r0 ∧ x.1.r1 = s.r1 ∧ x.1.w0 = s.w0 ∧ x.1.w1 = s.w1) := Lib.hid (by rw [e1]; exact ⟨by show 1 - s.ac = 0; rw [HAC.out]; rfl, rfl, rfl, rfl, rfl⟩)
    have f1 : (kd == 8) = true := by simpa using h8
    have f2 : (sw == 2) = true := by rw [HV_sw.out, e2]; rfl
    have f3 : (ge == gn) = true := by rw [HV_ge.out, HV_gn.out, e3]; simp
    clear e1 e2 e3 h8 hp0 hp1 R8 RO HPA
    have x1 : u4.cell? ⟨X, 1, none⟩ = some (.int .i64 0) := by rw [R_X_4.out.cell 1, HE_xc.out, ← HX1.out.1]; rfl
    have x2 : u4.cell? ⟨X, 2, none⟩ = some (.int .i64 r0) := by rw [R_X_4.out.cell 2, HE_xc.out, HV_r0.out, ← HX1.out.2.1]; rfl
    have x3 : u4.cell? ⟨X, 3, none⟩ = some (.int .i64 r1) := by rw [R_X_4.out.cell 3, HE_xc.out, HV_r1.out, ← HX1.out.2.2.1]; rfl
    have x4 : u4.cell? ⟨X, 4, none⟩ = some (.int .i64 w0) := by rw [R_X_4.out.cell 4, HE_xc.out, HV_w0.out, ← HX1.out.2.2.2.1]; rfl
    have x5 : u4.cell? ⟨X, 5, none⟩ = some (.int .i64 w1) := by rw [R_X_4.out.cell 5, HE_xc.out, HV_w1.out, ← HX1.out.2.2.2.2]; rfl
    have a1 : u4.cell? ⟨w.heap.size, 1, none⟩ = some (.int .i64 1) := by rw [R_A_4.out.cell 1, HE_cs.out, ← HAC.out]; rfl
    have a2 : u4.cell? ⟨w.heap.size, 2, none⟩ = some (.int .i64 r0) := by rw [R_A_4.out.cell 2, HE_cs.out, HV_r0.out]; rfl
    have a3 : u4.cell? ⟨w.heap.size, 3, none⟩ = some (.int .i64 r1) := by rw [R_A_4.out.cell 3, HE_cs.out, HV_r1.out]; rfl
    have a4 : u4.cell? ⟨w.heap.size, 4, none⟩ = some (.int .i64 w0) := by rw [R_A_4.out.cell 4, HE_cs.out, HV_w0.out]; rfl
    have a5 : u4.cell? ⟨w.heap.size, 5, none⟩ = some (.int .i64 w1) := by rw [R_A_4.out.cell 5, HE_cs.out, HV_w1.out]; rfl
    have a6 : u4.cell? ⟨w.heap.size, 6, none⟩ = some (.bool true) := by rw [R_A_4.out.cell 6, HE_cs.out, ← HP.out.1]; rfl
    have a7 : u4.cell? ⟨w.heap.size, 7, none⟩ = some (.bool true) := by rw [R_A_4.out.cell 7, HE_cs.out, ← HP.out.2]; rfl
    have a9 : u4.cell? ⟨w.heap.size, 9, none⟩ = some (.int .i64 gn) := by rw [R_A_4.out.cell 9, HE_cs.out, HV_gn.out]; rfl
    have a10 : u4.cell? ⟨w.heap.size, 10, none⟩ = some (.int .i64 sw) := by rw [R_A_4.out.cell 10, HE_cs.out, HV_sw.out]; rfl
    have b0 : u4.cell? ⟨w.heap.size + 1, 0, none⟩ = some (.int .i64 kd) := by rw [R_B_4.out.cell 0, HE_rs.out, HV_kd.out]; rfl
    have b4 : u4.cell? ⟨w.heap.size + 1, 4, none⟩ = some (.int .i64 ge) := by rw [R_B_4.out.cell 4, HE_rs.out, HV_ge.out]; rfl
    go_wp2_with fail
    go_ret
    exact ⟨rfl, BT4.out⟩
  obtain ⟨e1, e2, e3⟩ := RO.out (by rw [← HV_kd.out]; exact h8)
  have HX1 := Lib.hid (And.intro e1 (And.intro e2 e3))
  have f1 : (kd != 8) = true := by simpa using h8
  clear e1 e2 e3 h8 R8 RO HPA
  have x1 : u4.cell? ⟨X, 1, none⟩ = some (.int .i64 1) := by rw [R_X_4.out.cell 1, HE_xc.out, ← HX1.out.1]; rfl
  have xr : u4.cell? ⟨X, 3, none⟩ = some (.int .i64 r1) := by rw [R_X_4.out.cell 3, HE_xc.out, HV_r1.out, ← HX1.out.2.1]; rfl
  have xw : u4.cell? ⟨X, 5, none⟩ = some (.int .i64 w1) := by rw [R_X_4.out.cell 5, HE_xc.out, HV_w1.out, ← HX1.out.2.2]; rfl
  have a1 : u4.cell? ⟨w.heap.size, 1, none⟩ = some (.int .i64 1) := by rw [R_A_4.out.cell 1, HE_cs.out, ← HAC.out]; rfl
  have ar : u4.cell? ⟨w.heap.size, 3, none⟩ = some (.int .i64 r1) := by rw [R_A_4.out.cell 3, HE_cs.out, HV_r1.out]; rfl
  have aw : u4.cell? ⟨w.heap.size, 5, none⟩ = some (.int .i64 w1) := by rw [R_A_4.out.cell 5, HE_cs.out, HV_w1.out]; rfl
  have b0 : u4.cell? ⟨w.heap.size + 1, 0, none⟩ = some (.int .i64 kd) := by rw [R_B_4.out.cell 0, HE_rs.out, HV_kd.out]; rfl
  go_upto_region 6 with (fail)
  go_wp2_with fail
  go_quiet (fail)
  go_wp2
  go_ret
  exact ⟨rfl, BT4.out.trans (below_drewN _ _ _)⟩
set_option maxRecDepth 100000 in
set_option maxHeartbeats 4000000 in
theorem walkN (s : St) (r : Rc) (w : World) (hs : FitsS s) (hr : FitsR r) (hac : ¬ (s.ac = 0 ∨ s.ac = 1)) : Calls Try.prog 6 #[stV s, recV r] w (Holds w) := by
  have HOK : Hid ((stepS s r).2 = true → rightS s = true) := Lib.hid ok_right
  have HXF : Hid (FitsS (stepS s r).1) := Lib.hid (fits_step r hs)
  have HFS := Lib.hid hs
  have HSP : Hid (∀ W, Calls Try.prog 11 #[stV s, recV r] W (StepR (stepS s r) W)) := Lib.hid (fun W => step_any s r W hr.kind)
  have HAW : Hid (∀ W, Calls Try.prog 13 #[] W fun e w' => e = .returned (.bool true) ∧ Below W.heap.size W w') := Lib.hid awake_any
  have HMR : Hid (∀ W, Calls Try.prog 15 #[stV s] W fun e w' => e = .returned (.bool (rightS s)) ∧ Below W.heap.size W w') := Lib.hid (fun W => mright_any s W)
  have HNB := Lib.hid hac
  clear hac
  obtain ⟨x, hx⟩ : ∃ x, x = stepS s r := ⟨_, rfl⟩
  have HX := Lib.hid hx
  rw [← hx] at HOK HXF HSP
  unfold StepR at HSP
  obtain ⟨xb, hxb⟩ : ∃ b, b = x.2 := ⟨_, rfl⟩
  rw [← hxb] at HOK HSP
  have HXB := Lib.hid hxb
  unfold stV at HSP HMR ⊢
  unfold recV at HSP ⊢
  obtain ⟨cs, hcs⟩ : ∃ c, c = stC s := ⟨_, rfl⟩
  have HE_cs := Lib.hid hcs
  have HZ_cs : Hid (cs.size = 12) := Lib.hid (by rw [hcs]; rfl)
  have H1_cs : Hid (cs.all (·.oneCell') = true) := Lib.hid (by rw [hcs]; exact stC_one _)
  obtain ⟨rs, hrs⟩ : ∃ c, c = recC r := ⟨_, rfl⟩
  have HE_rs := Lib.hid hrs
  have HZ_rs : Hid (rs.size = 19) := Lib.hid (by rw [hrs]; rfl)
  have H1_rs : Hid (rs.all (·.oneCell') = true) := Lib.hid (by rw [hrs]; exact recC_one _)
  obtain ⟨xc, hxc⟩ : ∃ c, c = stC x.1 := ⟨_, rfl⟩
  have HE_xc := Lib.hid hxc
  have HZ_xc : Hid (xc.size = 12) := Lib.hid (by rw [hxc]; rfl)
  have H1_xc : Hid (xc.all (·.oneCell') = true) := Lib.hid (by rw [hxc]; exact stC_one _)
  rw [← hcs] at HSP HMR ⊢
  rw [← hrs] at HSP ⊢
  rw [← hxc] at HSP
  clear hcs hrs hxc hx hxb hs hr
  go_enter Try.func6, Try.ntmps6
  go_upto_region 1 with (fail)
  refine name_w (fun W => Rw W w.heap.size cs 25 ∧ Rw W (w.heap.size + 1) rs 27 ∧ Below w.heap.size w W) ⟨(Rw.new _ _ _).alloc _, ?_, ((Below.refl _ _).alloc (Nat.le_refl _) _).alloc (by simp) _⟩ ?_
  · have h1 := Rw.new (w.alloc (.cells cs 25)) rs 27
    rw [size_alloc] at h1
    exact h1
  rintro u0 ⟨h0, h1, h2⟩
  have R_A_0 := Lib.hid h0
  have R_B_0 := Lib.hid h1
  have BT0 := Lib.hid h2
  clear h0 h1 h2
  go_wp2_with (first | (refine wpList_load_row rfl 25 (.tmp 2) rfl w.heap.size rfl 25 cs (0, 0) _ R_A_0.out Try.underlying25 rfl (by rw [HZ_cs.out]; exact i12) ?_) | (refine wpList_load_row rfl 27 (.tmp 3) rfl (w.heap.size + 1) rfl 27 rs (0, 0) _ R_B_0.out Try.underlying27 rfl (by rw [HZ_rs.out]; exact i19) ?_))
  refine (HSP.out _).mono ?_
  rintro e u1 ⟨rfl, hb⟩
  have R_A_1 := Lib.hid (R_A_0.out.under hb R_A_0.out.lt)
  have R_B_1 := Lib.hid (R_B_0.out.under hb R_B_0.out.lt)
  have BT1 := Lib.hid (BT0.out.trans (hb.mono BT0.out.size))
  clear hb BT0 R_A_0 R_B_0
  clear HSP
  go_upto_region 2 with (first | (refine wpList_plain rfl fun _ hK => wp_store_row 25 (.tmp 5) (.tmp 11) rfl u1.heap.size xc rfl rfl 25 _ (Rw.new u1 _ 25) (by rw [HZ_xc.out]; exact i12) (by rw [HZ_xc.out]; rfl) H1_xc.out (hK _ _ ?_); clear hK))
  obtain ⟨X, hY⟩ : ∃ X, X = u1.heap.size := ⟨_, rfl⟩
  rw [← hY]
  refine name_w (fun W => Rw W w.heap.size cs 25 ∧ Rw W (w.heap.size + 1) rs 27 ∧ Rw W X xc 25 ∧ Below w.heap.size w W) ?_ ?_
  · have bb := below_setRow ((Below.refl u1.heap.size u1).alloc (Nat.le_refl _) (.cells zeroSC 25)) (Nat.le_refl _) (b := u1.heap.size) xc
    rw [hY]
    exact ⟨R_A_1.out.under bb R_A_1.out.lt, R_B_1.out.under bb R_B_1.out.lt, (Rw.new u1 _ 25).set xc, BT1.out.trans (bb.mono BT1.out.size)⟩
  clear hY BT1 R_A_1 R_B_1
  rintro u2 ⟨h0, h1, h2, h3⟩
  have R_A_2 := Lib.hid h0
  have R_B_2 := Lib.hid h1
  have R_X_2 := Lib.hid h2
  have BT2 := Lib.hid h3
  clear h0 h1 h2 h3
  go_wp2_with fail
  refine (HAW.out _).mono ?_
  rintro e u3 ⟨rfl, hb⟩
  have R_A_3 := Lib.hid (R_A_2.out.under hb R_A_2.out.lt)
  have R_B_3 := Lib.hid (R_B_2.out.under hb R_B_2.out.lt)
  have R_X_3 := Lib.hid (R_X_2.out.under hb R_X_2.out.lt)
  have BT3 := Lib.hid (BT2.out.trans (hb.mono BT2.out.size))
  clear hb BT2 R_A_2 R_B_2 R_X_2
  cases xb with
  | false =>
    go_upto_region 3 with (fail)
    go_wp2_with fail
    refine (HAW.out _).mono ?_
    rintro e u4 ⟨rfl, hb⟩
    have R_A_4 := Lib.hid (R_A_3.out.under hb R_A_3.out.lt)
    have R_B_4 := Lib.hid (R_B_3.out.under hb R_B_3.out.lt)
    have R_X_4 := Lib.hid (R_X_3.out.under hb R_X_3.out.lt)
    have BT4 := Lib.hid (BT3.out.trans (hb.mono BT3.out.size))
    clear hb BT3 R_A_3 R_B_3 R_X_3
    go_wp2_with fail
    go_ret
    exact ⟨rfl, BT4.out⟩
  | true =>
  have hrt := HOK.out rfl
  have HRT := Lib.hid hrt
  rw [hrt] at HMR
  clear hrt HOK
  exact absurd (right_in HRT.out).1 HNB.out
theorem walk (s : St) (r : Rc) (w : World) (hs : FitsS s) (hr : FitsR r) : Calls Try.prog 6 #[stV s, recV r] w (Holds w) := by
  by_cases h0 : s.ac = 0
  · exact walk0 s r w hs hr h0
  by_cases h1 : s.ac = 1
  · exact walk1 s r w hs hr h1
  exact walkN s r w hs hr (fun h => h.elim h0 h1)

/-! From the walk to the given row. -/
set_option maxRecDepth 100000 in
theorem lifted (os : Os) (started : os.Started) (H : Type) (enc : TypeId × Value → H) :
    ReturnsInHanded {} Try.checked os 6 .any (Rows.foldRoutesSpec.pre6 enc Try.prog Try.f6 Rows.foldRoutesRow.domain false) (Rows.foldRoutesSpec.post enc Try.prog Try.f6 false true false false) := by
  refine returnsInHanded_of_change (C := Try.checked) t_own started (by kernel_rfl) Try.func6
    (ChangeSpec.witness6 (enc := enc) (C := Try.checked) false ⟨#[], #[stV zeroS, recV ⟨0, 0, 0, 0, 0, 0, false, zeroS⟩], []⟩ 8 (by kernel_rfl) (by kernel_rfl) (by kernel_rfl) (by kernel_rfl)) ?_
  intro W base args ds gs before hval0 hW hcnd _
  have hval : ∀ (j : Nat) t v, Try.f6.params[j]? = some t → args[j]? = some v → Value.okWide Try.prog W .any base t v := hval0
  have hW' := hW
  obtain ⟨p, q, hA0, hV, rfl, hfz, hnd⟩ := hW
  have hA : DataW.TrodAll enc Try.prog W 0 (fun _ => true) true Try.f6.params.toList args.toList ds p := hA0
  rw [Try.params6] at hA hval
  obtain ⟨v0, vs0, d0, ds0, p0, q0, hargs, rfl, rfl, h0, r0⟩ := trodAll_cons hA
  obtain ⟨v1, vs1, d1, ds1, p1, q1, rfl, rfl, rfl, h1, r1⟩ := trodAll_cons r0
  obtain ⟨rfl, rfl, rfl⟩ := trodAll_nil r1
  obtain rfl : args = #[v0, v1] := by cases args; simp_all
  obtain ⟨s, rfl, hs⟩ := open_state (hval 0 25 v0 rfl rfl) h0
  obtain ⟨r, rfl, hr⟩ := open_rec (hval 1 27 v1 rfl rfl) h1
  refine (walk s r W hs hr).mono fun e W' ⟨he, hb⟩ => ?_
  subst he
  exact ⟨_, rfl, post_of_holds hW' (by kernel_rfl) rfl (by rw [Try.params6]; exact fun t ht => params_ok t (by simp at ht; rcases ht with rfl | rfl <;> simp)) ⟨rfl, rfl, rfl⟩ hb⟩

/-- The given statement. -/
theorem proved : Rows.FoldRoutesSaid :=
  OpenClaim.holds_of_wide 6 Try.f6 rfl rfl rfl rfl rfl rfl rfl ⟨rfl, rfl, rfl, rfl, rfl⟩ rfl rfl rfl rfl rfl (by kernel_rfl) Try.func6 (by kernel_rfl)
    (of_decide_eq_true (by kernel_rfl)) (by unfold Func.isWrapper; first | (rw [if_pos (by decide +kernel)]; kernel_rfl) | (rw [if_neg (by decide +kernel)]; exact ⟨rfl, rfl⟩))
    (fun os started H enc _ => lifted os started H enc)
#print axioms proved
end Go.Proofs.Ytoeelglmdnhknaa.foldRoutes
