/-
  What package fold's abort, gateAhead, prepare and applied answer.
-/
import Derived.Test.YtchaeidmjoelnaaFoChA
namespace Go.Proofs.Ytchaeidmjoelnaa
open Go.RowKit

set_option maxRecDepth 100000 in
set_option maxHeartbeats 4000000 in
theorem abort_any (s : St) (r : Rc) (w : World) (hab : s.ac = 0 ∨ s.ac = 1) : Calls Try.prog 67 #[stV s, recV r] w (StepR (ab2 s) w) := by
  have HAL : Hid (∀ W, Calls Try.prog 82 #[stV s] W (GotS (blankS s) W)) := Lib.hid (fun W => alone_any s W hab)
  clear hab
  obtain ⟨ph, ac, r0, r1, w0, w1, p0, p1, dl, gn, sw, fl⟩ := s
  obtain ⟨kind, rev, cnt, delay, gen, tick, pass, st⟩ := r
  unfold stV at HAL ⊢
  unfold recV
  obtain ⟨cs, hcs⟩ : ∃ c, c = stC (⟨ph, ac, r0, r1, w0, w1, p0, p1, dl, gn, sw, fl⟩ : St) := ⟨_, rfl⟩
  obtain ⟨rs, hrs⟩ : ∃ c, c = recC (⟨kind, rev, cnt, delay, gen, tick, pass, st⟩ : Rc) := ⟨_, rfl⟩
  rw [← hcs] at HAL ⊢
  rw [← hrs]
  have HC := Lib.hid hcs
  have HRR := Lib.hid hrs
  have HZC : Hid (cs.size = 12) := Lib.hid (by rw [hcs]; rfl)
  have H1C : Hid (cs.all (·.oneCell') = true) := Lib.hid (by rw [hcs]; exact stC_one _)
  clear hcs hrs
  go_enter Try.func67, Try.ntmps67
  go_upto_region 2 with (fail)
  refine name_w (fun W => Rw W w.heap.size cs 38 ∧ Rw W (w.heap.size + 1) rs 72 ∧ Rw W (w.heap.size + 1 + 1) zeroSC 38 ∧ Below w.heap.size w W) ⟨((Rw.new _ _ _).alloc _).alloc _, Rw.alloc (heap_alloc2_new w _ _) _, ?_, (((Below.refl _ _).alloc (Nat.le_refl _) _).alloc (by simp) _).alloc (by simp; omega) _⟩ ?_
  · have h1 := Rw.new ((w.alloc (.cells cs 38)).alloc (.cells rs 72)) zeroSC 38
    rw [size_alloc, size_alloc] at h1
    exact h1
  rintro u0 ⟨hA, hB, hZ, hb⟩
  have RA0 := Lib.hid hA
  have RB0 := Lib.hid hB
  have RZ0 := Lib.hid hZ
  have BT0 := Lib.hid hb
  clear hA hB hZ hb
  by_cases hs : sw = 0
  case neg =>
    have HE : Hid (ab2 (⟨ph, ac, r0, r1, w0, w1, p0, p1, dl, gn, sw, fl⟩ : St) = ((⟨ph, ac, r0, r1, w0, w1, p0, p1, dl, gn, sw, fl⟩ : St), false)) := Lib.hid (by unfold ab2; rw [if_pos hs])
    have f1 : (sw != 0) = true := by simpa using hs
    clear hs
    have s10_0 : u0.cell? ⟨w.heap.size, 10, none⟩ = some (.int .i64 sw) := by rw [RA0.out.cell 10, HC.out]; rfl
    have ZF := Lib.hid (RZ0.out.set cs)
    have BF := Lib.hid (below_setRow BT0.out (by omega) (b := w.heap.size + 1 + 1) cs)
    go_wp2_with (first | (refine wpList_load_row rfl 38 (.tmp 2) rfl w.heap.size rfl 38 cs (0, 0) _ RA0.out Try.underlying38 rfl (by rw [HZC.out]; exact i12) ?_) | (refine wpList_plain rfl fun _ hK => wp_store_row 38 (.tmp 4) (.tmp 12) rfl (w.heap.size + 1 + 1) cs rfl rfl 38 _ RZ0.out (by rw [HZC.out]; exact i12) (by rw [HZC.out]; rfl) H1C.out (hK _ _ ?_); clear hK))
    (try simp only [Exit.inBlock, Exit.then])
    refine bodyPost_ret (results_cell_tmp rfl _ _ (w.heap.size + 1 + 1) 38 cs (0, 0) _ rfl ZF.out Try.underlying38 rfl (by rw [HZC.out]; exact i12)) rfl ?_
    exact ⟨by rw [HE.out, HC.out]; rfl, BF.out⟩
  have f1 : (sw != 0) = false := by simpa using hs
  by_cases h4 : ph = 4
  case pos =>
    have HE : Hid (ab2 (⟨ph, ac, r0, r1, w0, w1, p0, p1, dl, gn, sw, fl⟩ : St) = ((⟨6, ac, r0, r1, w0, w1, p0, p1, dl, gn, sw, fl⟩ : St), true)) := Lib.hid (by unfold ab2; rw [if_neg (fun h => h hs), if_pos (Or.inl h4)])
    have f2 : (ph == 4) = true := by simpa using h4
    clear hs h4
    have s10_0 : u0.cell? ⟨w.heap.size, 10, none⟩ = some (.int .i64 sw) := by rw [RA0.out.cell 10, HC.out]; rfl
    have s0_0 : u0.cell? ⟨w.heap.size, 0, none⟩ = some (.int .i64 ph) := by rw [RA0.out.cell 0, HC.out]; rfl
    have fr0_0 := RA0.out.fr 0
    go_upto_region 7 with (fail)
    clear s0_0 fr0_0 s10_0 f1 f2
    refine name_w (fun W => Rw W w.heap.size (stC (⟨6, ac, r0, r1, w0, w1, p0, p1, dl, gn, sw, fl⟩ : St)) 38 ∧ Rw W (w.heap.size + 1) rs 72 ∧ Rw W (w.heap.size + 1 + 1) zeroSC 38 ∧ Below w.heap.size w W) ⟨(heap_setCell_same _ _ 0 _ 38 (.int .i64 6) (show Rw u0 w.heap.size (stC (⟨ph, ac, r0, r1, w0, w1, p0, p1, dl, gn, sw, fl⟩ : St)) 38 by rw [← HC.out]; exact RA0.out)), ((Below.heap_setCell _ _ _ _ (by show w.heap.size + 1 ≠ w.heap.size; omega)).trans RB0.out), ((Below.heap_setCell _ _ _ _ (by show w.heap.size + 1 + 1 ≠ w.heap.size; omega)).trans RZ0.out), (below_setCell BT0.out (Nat.le_refl _) _)⟩ ?_
    rintro u1 ⟨hA, hB, hZ, hb⟩
    have RA1 := Lib.hid hA
    have RB1 := Lib.hid hB
    have RZ1 := Lib.hid hZ
    have BT1 := Lib.hid hb
    clear hA hB hZ hb RA0 RB0 RZ0 BT0
    obtain ⟨ds, hds⟩ : ∃ d, d = stC (⟨6, ac, r0, r1, w0, w1, p0, p1, dl, gn, sw, fl⟩ : St) := ⟨_, rfl⟩
    have HD := Lib.hid hds
    have HDZ : Hid (ds.size = 12) := Lib.hid (by rw [hds]; rfl)
    have HD1 : Hid (ds.all (·.oneCell') = true) := Lib.hid (by rw [hds]; exact stC_one _)
    have RF : Hid (Rw u1 w.heap.size ds 38) := Lib.hid (by rw [hds]; exact RA1.out)
    clear hds
    have ZF := Lib.hid (RZ1.out.set ds)
    have BF := Lib.hid (below_setRow BT1.out (by omega) (b := w.heap.size + 1 + 1) ds)
    go_wp2_with (first | (refine wpList_load_row rfl 38 (.tmp 2) rfl w.heap.size rfl 38 ds (0, 0) _ RF.out Try.underlying38 rfl (by rw [HDZ.out]; exact i12) ?_) | (refine wpList_plain rfl fun _ hK => wp_store_row 38 (.tmp 4) (.tmp 21) rfl (w.heap.size + 1 + 1) ds rfl rfl 38 _ RZ1.out (by rw [HDZ.out]; exact i12) (by rw [HDZ.out]; rfl) HD1.out (hK _ _ ?_); clear hK))
    (try simp only [Exit.inBlock, Exit.then])
    refine bodyPost_ret (results_cell_tmp rfl _ _ (w.heap.size + 1 + 1) 38 ds (0, 0) _ rfl ZF.out Try.underlying38 rfl (by rw [HDZ.out]; exact i12)) rfl ?_
    exact ⟨by rw [HE.out, HD.out]; rfl, BF.out⟩
  by_cases h5 : ph = 5
  case pos =>
    have HE : Hid (ab2 (⟨ph, ac, r0, r1, w0, w1, p0, p1, dl, gn, sw, fl⟩ : St) = ((⟨6, ac, r0, r1, w0, w1, p0, p1, dl, gn, sw, fl⟩ : St), true)) := Lib.hid (by unfold ab2; rw [if_neg (fun h => h hs), if_pos (Or.inr h5)])
    have f2 : (ph == 4) = false := by simpa using h4
    have f3 : (ph == 5) = true := by simpa using h5
    clear hs h4 h5
    have s10_0 : u0.cell? ⟨w.heap.size, 10, none⟩ = some (.int .i64 sw) := by rw [RA0.out.cell 10, HC.out]; rfl
    have s0_0 : u0.cell? ⟨w.heap.size, 0, none⟩ = some (.int .i64 ph) := by rw [RA0.out.cell 0, HC.out]; rfl
    have fr0_0 := RA0.out.fr 0
    go_upto_region 7 with (fail)
    clear s0_0 fr0_0 s10_0 f1 f2 f3
    refine name_w (fun W => Rw W w.heap.size (stC (⟨6, ac, r0, r1, w0, w1, p0, p1, dl, gn, sw, fl⟩ : St)) 38 ∧ Rw W (w.heap.size + 1) rs 72 ∧ Rw W (w.heap.size + 1 + 1) zeroSC 38 ∧ Below w.heap.size w W) ⟨(heap_setCell_same _ _ 0 _ 38 (.int .i64 6) (show Rw u0 w.heap.size (stC (⟨ph, ac, r0, r1, w0, w1, p0, p1, dl, gn, sw, fl⟩ : St)) 38 by rw [← HC.out]; exact RA0.out)), ((Below.heap_setCell _ _ _ _ (by show w.heap.size + 1 ≠ w.heap.size; omega)).trans RB0.out), ((Below.heap_setCell _ _ _ _ (by show w.heap.size + 1 + 1 ≠ w.heap.size; omega)).trans RZ0.out), (below_setCell BT0.out (Nat.le_refl _) _)⟩ ?_
    rintro u1 ⟨hA, hB, hZ, hb⟩
    have RA1 := Lib.hid hA
    have RB1 := Lib.hid hB
    have RZ1 := Lib.hid hZ
    have BT1 := Lib.hid hb
    clear hA hB hZ hb RA0 RB0 RZ0 BT0
    obtain ⟨ds, hds⟩ : ∃ d, d = stC (⟨6, ac, r0, r1, w0, w1, p0, p1, dl, gn, sw, fl⟩ : St) := ⟨_, rfl⟩
    have HD := Lib.hid hds
    have HDZ : Hid (ds.size = 12) := Lib.hid (by rw [hds]; rfl)
    have HD1 : Hid (ds.all (·.oneCell') = true) := Lib.hid (by rw [hds]; exact stC_one _)
    have RF : Hid (Rw u1 w.heap.size ds 38) := Lib.hid (by rw [hds]; exact RA1.out)
    clear hds
    have ZF := Lib.hid (RZ1.out.set ds)
    have BF := Lib.hid (below_setRow BT1.out (by omega) (b := w.heap.size + 1 + 1) ds)
    go_wp2_with (first | (refine wpList_load_row rfl 38 (.tmp 2) rfl w.heap.size rfl 38 ds (0, 0) _ RF.out Try.underlying38 rfl (by rw [HDZ.out]; exact i12) ?_) | (refine wpList_plain rfl fun _ hK => wp_store_row 38 (.tmp 4) (.tmp 21) rfl (w.heap.size + 1 + 1) ds rfl rfl 38 _ RZ1.out (by rw [HDZ.out]; exact i12) (by rw [HDZ.out]; rfl) HD1.out (hK _ _ ?_); clear hK))
    (try simp only [Exit.inBlock, Exit.then])
    refine bodyPost_ret (results_cell_tmp rfl _ _ (w.heap.size + 1 + 1) 38 ds (0, 0) _ rfl ZF.out Try.underlying38 rfl (by rw [HDZ.out]; exact i12)) rfl ?_
    exact ⟨by rw [HE.out, HD.out]; rfl, BF.out⟩
  have HE : Hid (ab2 (⟨ph, ac, r0, r1, w0, w1, p0, p1, dl, gn, sw, fl⟩ : St) = (blankS (⟨ph, ac, r0, r1, w0, w1, p0, p1, dl, gn, sw, fl⟩ : St), true)) := Lib.hid (by unfold ab2; rw [if_neg (fun h => h hs), if_neg (fun h => h.elim h4 h5)])
  have f2 : (ph == 4) = false := by simpa using h4
  have f3 : (ph == 5) = false := by simpa using h5
  clear hs h4 h5
  have s10_0 : u0.cell? ⟨w.heap.size, 10, none⟩ = some (.int .i64 sw) := by rw [RA0.out.cell 10, HC.out]; rfl
  have s0_0 : u0.cell? ⟨w.heap.size, 0, none⟩ = some (.int .i64 ph) := by rw [RA0.out.cell 0, HC.out]; rfl
  obtain ⟨bs, hbs⟩ : ∃ d, d = stC (blankS (⟨ph, ac, r0, r1, w0, w1, p0, p1, dl, gn, sw, fl⟩ : St)) := ⟨_, rfl⟩
  have HD := Lib.hid hbs
  have HDZ : Hid (bs.size = 12) := Lib.hid (by rw [hbs]; rfl)
  have HD1 : Hid (bs.all (·.oneCell') = true) := Lib.hid (by rw [hbs]; exact stC_one _)
  have HAL' := Lib.hid HAL.out
  unfold GotS stV at HAL'
  rw [← hbs] at HAL'
  clear hbs
  go_wp2_with (refine wpList_load_row rfl 38 (.tmp 2) rfl w.heap.size rfl 38 cs (0, 0) _ RA0.out Try.underlying38 rfl (by rw [HZC.out]; exact i12) ?_)
  refine (HAL'.out _).mono ?_
  rintro e u1 ⟨rfl, hb⟩
  have RA1 := Lib.hid (RA0.out.under hb RA0.out.lt)
  have RB1 := Lib.hid (RB0.out.under hb RB0.out.lt)
  have RZ1 := Lib.hid (RZ0.out.under hb RZ0.out.lt)
  have BT1 := Lib.hid (BT0.out.trans (hb.mono BT0.out.size))
  clear hb RA0 RB0 RZ0 BT0
  have ZF := Lib.hid (RZ1.out.set bs)
  have BF := Lib.hid (below_setRow BT1.out (by omega) (b := w.heap.size + 1 + 1) bs)
  go_wp2_with (refine wpList_plain rfl fun _ hK => wp_store_row 38 (.tmp 4) (.tmp 7) rfl (w.heap.size + 1 + 1) bs rfl rfl 38 _ RZ1.out (by rw [HDZ.out]; exact i12) (by rw [HDZ.out]; rfl) HD1.out (hK _ _ ?_); clear hK)
  (try simp only [Exit.inBlock, Exit.then])
  refine bodyPost_ret (results_cell_tmp rfl _ _ (w.heap.size + 1 + 1) 38 bs (0, 0) _ rfl ZF.out Try.underlying38 rfl (by rw [HDZ.out]; exact i12)) rfl ?_
  exact ⟨by rw [HE.out, HD.out]; rfl, BF.out⟩
set_option maxRecDepth 100000 in
set_option maxHeartbeats 4000000 in
theorem gate_ahead_0 (s : St) (r : Rc) (w : World) (hac : s.ac = 0) : Calls Try.prog 69 #[stV s, recV r] w (StepR (ga4 s r) w) := by
  have HAL : Hid (∀ W, Calls Try.prog 82 #[stV s] W (GotS (blankS s) W)) := Lib.hid (fun W => alone_any s W (Or.inl hac))
  have HOT : Hid (∀ W, Calls Try.prog 64 #[stV s] W fun e w' => e = .returned (.int .i64 1) ∧ Below W.heap.size W w') := Lib.hid (fun W => other_0 s W hac)
  obtain ⟨ph, ac, r0, r1, w0, w1, p0, p1, dl, gn, sw, fl⟩ := s
  obtain ⟨kind, rev, cnt, delay, gen, tick, pass, st⟩ := r
  obtain rfl : ac = 0 := hac
  unfold stV at HAL HOT ⊢
  unfold recV
  obtain ⟨cs, hcs⟩ : ∃ c, c = stC (⟨ph, 0, r0, r1, w0, w1, p0, p1, dl, gn, sw, fl⟩ : St) := ⟨_, rfl⟩
  obtain ⟨rs, hrs⟩ : ∃ c, c = recC (⟨kind, rev, cnt, delay, gen, tick, pass, st⟩ : Rc) := ⟨_, rfl⟩
  rw [← hcs] at HAL HOT ⊢
  rw [← hrs]
  have HC := Lib.hid hcs
  have HRR := Lib.hid hrs
  have HZC : Hid (cs.size = 12) := Lib.hid (by rw [hcs]; rfl)
  have H1C : Hid (cs.all (·.oneCell') = true) := Lib.hid (by rw [hcs]; exact stC_one _)
  clear hcs hrs
  go_enter Try.func69, Try.ntmps69
  go_upto_region 1 with (fail)
  refine name_w (fun W => Rw W w.heap.size cs 38 ∧ Rw W (w.heap.size + 1) rs 72 ∧ Rw W (w.heap.size + 1 + 1) zeroSC 38 ∧ Below w.heap.size w W) ⟨((Rw.new _ _ _).alloc _).alloc _, Rw.alloc (heap_alloc2_new w _ _) _, ?_, (((Below.refl _ _).alloc (Nat.le_refl _) _).alloc (by simp) _).alloc (by simp; omega) _⟩ ?_
  · have h1 := Rw.new ((w.alloc (.cells cs 38)).alloc (.cells rs 72)) zeroSC 38
    rw [size_alloc, size_alloc] at h1
    exact h1
  rintro u0 ⟨hA, hB, hZ, hb⟩
  have RA0 := Lib.hid hA
  have RB0 := Lib.hid hB
  have RZ0 := Lib.hid hZ
  have BT0 := Lib.hid hb
  clear hA hB hZ hb
  cases pass with
  | false =>
    have HE : Hid (ga4 (⟨ph, 0, r0, r1, w0, w1, p0, p1, dl, gn, sw, fl⟩ : St) (⟨kind, rev, cnt, delay, gen, tick, false, st⟩ : Rc) = (blankS (⟨ph, 0, r0, r1, w0, w1, p0, p1, dl, gn, sw, fl⟩ : St), true)) := Lib.hid (rfl)
    have q6_0 : u0.cell? ⟨w.heap.size + 1, 6, none⟩ = some (.bool false) := by rw [RB0.out.cell 6, HRR.out]; rfl
    obtain ⟨bs, hbs⟩ : ∃ d, d = stC (blankS (⟨ph, 0, r0, r1, w0, w1, p0, p1, dl, gn, sw, fl⟩ : St)) := ⟨_, rfl⟩
    have HD := Lib.hid hbs
    have HDZ : Hid (bs.size = 12) := Lib.hid (by rw [hbs]; rfl)
    have HD1 : Hid (bs.all (·.oneCell') = true) := Lib.hid (by rw [hbs]; exact stC_one _)
    have HAL' := Lib.hid HAL.out
    unfold GotS stV at HAL'
    rw [← hbs] at HAL'
    clear hbs
    go_wp2_with (refine wpList_load_row rfl 38 (.tmp 2) rfl w.heap.size rfl 38 cs (0, 0) _ RA0.out Try.underlying38 rfl (by rw [HZC.out]; exact i12) ?_)
    refine (HAL'.out _).mono ?_
    rintro e u1 ⟨rfl, hb⟩
    have RA1 := Lib.hid (RA0.out.under hb RA0.out.lt)
    have RB1 := Lib.hid (RB0.out.under hb RB0.out.lt)
    have RZ1 := Lib.hid (RZ0.out.under hb RZ0.out.lt)
    have BT1 := Lib.hid (BT0.out.trans (hb.mono BT0.out.size))
    clear hb RA0 RB0 RZ0 BT0
    have ZF := Lib.hid (RZ1.out.set bs)
    have BF := Lib.hid (below_setRow BT1.out (by omega) (b := w.heap.size + 1 + 1) bs)
    go_wp2_with (refine wpList_plain rfl fun _ hK => wp_store_row 38 (.tmp 4) (.tmp 10) rfl (w.heap.size + 1 + 1) bs rfl rfl 38 _ RZ1.out (by rw [HDZ.out]; exact i12) (by rw [HDZ.out]; rfl) HD1.out (hK _ _ ?_); clear hK)
    (try simp only [Exit.inBlock, Exit.then])
    refine bodyPost_ret (results_cell_tmp rfl _ _ (w.heap.size + 1 + 1) 38 bs (0, 0) _ rfl ZF.out Try.underlying38 rfl (by rw [HDZ.out]; exact i12)) rfl ?_
    exact ⟨by rw [HE.out, HD.out]; rfl, BF.out⟩
  | true =>
    have HE : Hid (ga4 (⟨ph, 0, r0, r1, w0, w1, p0, p1, dl, gn, sw, fl⟩ : St) (⟨kind, rev, cnt, delay, gen, tick, true, st⟩ : Rc) = ((⟨3, 0, r0, r1, w0, w1, p0, true, dl, gn, sw, fl⟩ : St), true)) := Lib.hid (rfl)
    have q6_0 : u0.cell? ⟨w.heap.size + 1, 6, none⟩ = some (.bool true) := by rw [RB0.out.cell 6, HRR.out]; rfl
    go_wp2_with (refine wpList_load_row rfl 38 (.tmp 2) rfl w.heap.size rfl 38 cs (0, 0) _ RA0.out Try.underlying38 rfl (by rw [HZC.out]; exact i12) ?_)
    refine (HOT.out _).mono ?_
    rintro e u1 ⟨rfl, hb⟩
    have RA1 := Lib.hid (RA0.out.under hb RA0.out.lt)
    have RB1 := Lib.hid (RB0.out.under hb RB0.out.lt)
    have RZ1 := Lib.hid (RZ0.out.under hb RZ0.out.lt)
    have BT1 := Lib.hid (BT0.out.trans (hb.mono BT0.out.size))
    clear hb RA0 RB0 RZ0 BT0
    clear q6_0 HOT HAL
    have s7_1 : u1.cell? ⟨w.heap.size, 7, none⟩ = some (.bool p1) := by rw [RA1.out.cell 7, HC.out]; rfl
    have fr7_1 := RA1.out.fr 7
    go_upto_region 4 with (fail)
    clear s7_1 fr7_1
    refine name_w (fun W => Rw W w.heap.size (stC (⟨ph, 0, r0, r1, w0, w1, p0, true, dl, gn, sw, fl⟩ : St)) 38 ∧ Rw W (w.heap.size + 1) rs 72 ∧ Rw W (w.heap.size + 1 + 1) zeroSC 38 ∧ Below w.heap.size w W) ⟨(heap_setCell_same _ _ 7 _ 38 (.bool true) (show Rw u1 w.heap.size (stC (⟨ph, 0, r0, r1, w0, w1, p0, p1, dl, gn, sw, fl⟩ : St)) 38 by rw [← HC.out]; exact RA1.out)), ((Below.heap_setCell _ _ _ _ (by show w.heap.size + 1 ≠ w.heap.size; omega)).trans RB1.out), ((Below.heap_setCell _ _ _ _ (by show w.heap.size + 1 + 1 ≠ w.heap.size; omega)).trans RZ1.out), (below_setCell BT1.out (Nat.le_refl _) _)⟩ ?_
    rintro u2 ⟨hA, hB, hZ, hb⟩
    have RA2 := Lib.hid hA
    have RB2 := Lib.hid hB
    have RZ2 := Lib.hid hZ
    have BT2 := Lib.hid hb
    clear hA hB hZ hb RA1 RB1 RZ1 BT1
    have s0_2 : u2.cell? ⟨w.heap.size, 0, none⟩ = some (.int .i64 ph) := by rw [RA2.out.cell 0]; rfl
    have fr0_2 := RA2.out.fr 0
    go_upto_region 5 with (fail)
    clear s0_2 fr0_2
    refine name_w (fun W => Rw W w.heap.size (stC (⟨3, 0, r0, r1, w0, w1, p0, true, dl, gn, sw, fl⟩ : St)) 38 ∧ Rw W (w.heap.size + 1) rs 72 ∧ Rw W (w.heap.size + 1 + 1) zeroSC 38 ∧ Below w.heap.size w W) ⟨(heap_setCell_same _ _ 0 _ 38 (.int .i64 3) RA2.out), ((Below.heap_setCell _ _ _ _ (by show w.heap.size + 1 ≠ w.heap.size; omega)).trans RB2.out), ((Below.heap_setCell _ _ _ _ (by show w.heap.size + 1 + 1 ≠ w.heap.size; omega)).trans RZ2.out), (below_setCell BT2.out (Nat.le_refl _) _)⟩ ?_
    rintro u3 ⟨hA, hB, hZ, hb⟩
    have RA3 := Lib.hid hA
    have RB3 := Lib.hid hB
    have RZ3 := Lib.hid hZ
    have BT3 := Lib.hid hb
    clear hA hB hZ hb RA2 RB2 RZ2 BT2
    obtain ⟨ds, hds⟩ : ∃ d, d = stC (⟨3, 0, r0, r1, w0, w1, p0, true, dl, gn, sw, fl⟩ : St) := ⟨_, rfl⟩
    have HD := Lib.hid hds
    have HDZ : Hid (ds.size = 12) := Lib.hid (by rw [hds]; rfl)
    have HD1 : Hid (ds.all (·.oneCell') = true) := Lib.hid (by rw [hds]; exact stC_one _)
    have RF : Hid (Rw u3 w.heap.size ds 38) := Lib.hid (by rw [hds]; exact RA3.out)
    clear hds
    have ZF := Lib.hid (RZ3.out.set ds)
    have BF := Lib.hid (below_setRow BT3.out (by omega) (b := w.heap.size + 1 + 1) ds)
    go_wp2_with (first | (refine wpList_load_row rfl 38 (.tmp 2) rfl w.heap.size rfl 38 ds (0, 0) _ RF.out Try.underlying38 rfl (by rw [HDZ.out]; exact i12) ?_) | (refine wpList_plain rfl fun _ hK => wp_store_row 38 (.tmp 4) (.tmp 16) rfl (w.heap.size + 1 + 1) ds rfl rfl 38 _ RZ3.out (by rw [HDZ.out]; exact i12) (by rw [HDZ.out]; rfl) HD1.out (hK _ _ ?_); clear hK))
    (try simp only [Exit.inBlock, Exit.then])
    refine bodyPost_ret (results_cell_tmp rfl _ _ (w.heap.size + 1 + 1) 38 ds (0, 0) _ rfl ZF.out Try.underlying38 rfl (by rw [HDZ.out]; exact i12)) rfl ?_
    exact ⟨by rw [HE.out, HD.out]; rfl, BF.out⟩
set_option maxRecDepth 100000 in
set_option maxHeartbeats 4000000 in
theorem gate_ahead_1 (s : St) (r : Rc) (w : World) (hac : s.ac = 1) : Calls Try.prog 69 #[stV s, recV r] w (StepR (ga4 s r) w) := by
  have HAL : Hid (∀ W, Calls Try.prog 82 #[stV s] W (GotS (blankS s) W)) := Lib.hid (fun W => alone_any s W (Or.inr hac))
  have HOT : Hid (∀ W, Calls Try.prog 64 #[stV s] W fun e w' => e = .returned (.int .i64 0) ∧ Below W.heap.size W w') := Lib.hid (fun W => other_1 s W hac)
  obtain ⟨ph, ac, r0, r1, w0, w1, p0, p1, dl, gn, sw, fl⟩ := s
  obtain ⟨kind, rev, cnt, delay, gen, tick, pass, st⟩ := r
  obtain rfl : ac = 1 := hac
  unfold stV at HAL HOT ⊢
  unfold recV
  obtain ⟨cs, hcs⟩ : ∃ c, c = stC (⟨ph, 1, r0, r1, w0, w1, p0, p1, dl, gn, sw, fl⟩ : St) := ⟨_, rfl⟩
  obtain ⟨rs, hrs⟩ : ∃ c, c = recC (⟨kind, rev, cnt, delay, gen, tick, pass, st⟩ : Rc) := ⟨_, rfl⟩
  rw [← hcs] at HAL HOT ⊢
  rw [← hrs]
  have HC := Lib.hid hcs
  have HRR := Lib.hid hrs
  have HZC : Hid (cs.size = 12) := Lib.hid (by rw [hcs]; rfl)
  have H1C : Hid (cs.all (·.oneCell') = true) := Lib.hid (by rw [hcs]; exact stC_one _)
  clear hcs hrs
  go_enter Try.func69, Try.ntmps69
  go_upto_region 1 with (fail)
  refine name_w (fun W => Rw W w.heap.size cs 38 ∧ Rw W (w.heap.size + 1) rs 72 ∧ Rw W (w.heap.size + 1 + 1) zeroSC 38 ∧ Below w.heap.size w W) ⟨((Rw.new _ _ _).alloc _).alloc _, Rw.alloc (heap_alloc2_new w _ _) _, ?_, (((Below.refl _ _).alloc (Nat.le_refl _) _).alloc (by simp) _).alloc (by simp; omega) _⟩ ?_
  · have h1 := Rw.new ((w.alloc (.cells cs 38)).alloc (.cells rs 72)) zeroSC 38
    rw [size_alloc, size_alloc] at h1
    exact h1
  rintro u0 ⟨hA, hB, hZ, hb⟩
  have RA0 := Lib.hid hA
  have RB0 := Lib.hid hB
  have RZ0 := Lib.hid hZ
  have BT0 := Lib.hid hb
  clear hA hB hZ hb
  cases pass with
  | false =>
    have HE : Hid (ga4 (⟨ph, 1, r0, r1, w0, w1, p0, p1, dl, gn, sw, fl⟩ : St) (⟨kind, rev, cnt, delay, gen, tick, false, st⟩ : Rc) = (blankS (⟨ph, 1, r0, r1, w0, w1, p0, p1, dl, gn, sw, fl⟩ : St), true)) := Lib.hid (rfl)
    have q6_0 : u0.cell? ⟨w.heap.size + 1, 6, none⟩ = some (.bool false) := by rw [RB0.out.cell 6, HRR.out]; rfl
    obtain ⟨bs, hbs⟩ : ∃ d, d = stC (blankS (⟨ph, 1, r0, r1, w0, w1, p0, p1, dl, gn, sw, fl⟩ : St)) := ⟨_, rfl⟩
    have HD := Lib.hid hbs
    have HDZ : Hid (bs.size = 12) := Lib.hid (by rw [hbs]; rfl)
    have HD1 : Hid (bs.all (·.oneCell') = true) := Lib.hid (by rw [hbs]; exact stC_one _)
    have HAL' := Lib.hid HAL.out
    unfold GotS stV at HAL'
    rw [← hbs] at HAL'
    clear hbs
    go_wp2_with (refine wpList_load_row rfl 38 (.tmp 2) rfl w.heap.size rfl 38 cs (0, 0) _ RA0.out Try.underlying38 rfl (by rw [HZC.out]; exact i12) ?_)
    refine (HAL'.out _).mono ?_
    rintro e u1 ⟨rfl, hb⟩
    have RA1 := Lib.hid (RA0.out.under hb RA0.out.lt)
    have RB1 := Lib.hid (RB0.out.under hb RB0.out.lt)
    have RZ1 := Lib.hid (RZ0.out.under hb RZ0.out.lt)
    have BT1 := Lib.hid (BT0.out.trans (hb.mono BT0.out.size))
    clear hb RA0 RB0 RZ0 BT0
    have ZF := Lib.hid (RZ1.out.set bs)
    have BF := Lib.hid (below_setRow BT1.out (by omega) (b := w.heap.size + 1 + 1) bs)
    go_wp2_with (refine wpList_plain rfl fun _ hK => wp_store_row 38 (.tmp 4) (.tmp 10) rfl (w.heap.size + 1 + 1) bs rfl rfl 38 _ RZ1.out (by rw [HDZ.out]; exact i12) (by rw [HDZ.out]; rfl) HD1.out (hK _ _ ?_); clear hK)
    (try simp only [Exit.inBlock, Exit.then])
    refine bodyPost_ret (results_cell_tmp rfl _ _ (w.heap.size + 1 + 1) 38 bs (0, 0) _ rfl ZF.out Try.underlying38 rfl (by rw [HDZ.out]; exact i12)) rfl ?_
    exact ⟨by rw [HE.out, HD.out]; rfl, BF.out⟩
  | true =>
    have HE : Hid (ga4 (⟨ph, 1, r0, r1, w0, w1, p0, p1, dl, gn, sw, fl⟩ : St) (⟨kind, rev, cnt, delay, gen, tick, true, st⟩ : Rc) = ((⟨3, 1, r0, r1, w0, w1, true, p1, dl, gn, sw, fl⟩ : St), true)) := Lib.hid (rfl)
    have q6_0 : u0.cell? ⟨w.heap.size + 1, 6, none⟩ = some (.bool true) := by rw [RB0.out.cell 6, HRR.out]; rfl
    go_wp2_with (refine wpList_load_row rfl 38 (.tmp 2) rfl w.heap.size rfl 38 cs (0, 0) _ RA0.out Try.underlying38 rfl (by rw [HZC.out]; exact i12) ?_)
    refine (HOT.out _).mono ?_
    rintro e u1 ⟨rfl, hb⟩
    have RA1 := Lib.hid (RA0.out.under hb RA0.out.lt)
    have RB1 := Lib.hid (RB0.out.under hb RB0.out.lt)
    have RZ1 := Lib.hid (RZ0.out.under hb RZ0.out.lt)
    have BT1 := Lib.hid (BT0.out.trans (hb.mono BT0.out.size))
    clear hb RA0 RB0 RZ0 BT0
    clear q6_0 HOT HAL
    have s6_1 : u1.cell? ⟨w.heap.size, 6, none⟩ = some (.bool p0) := by rw [RA1.out.cell 6, HC.out]; rfl
    have fr6_1 := RA1.out.fr 6
    go_upto_region 4 with (fail)
    clear s6_1 fr6_1
    refine name_w (fun W => Rw W w.heap.size (stC (⟨ph, 1, r0, r1, w0, w1, true, p1, dl, gn, sw, fl⟩ : St)) 38 ∧ Rw W (w.heap.size + 1) rs 72 ∧ Rw W (w.heap.size + 1 + 1) zeroSC 38 ∧ Below w.heap.size w W) ⟨(heap_setCell_same _ _ 6 _ 38 (.bool true) (show Rw u1 w.heap.size (stC (⟨ph, 1, r0, r1, w0, w1, p0, p1, dl, gn, sw, fl⟩ : St)) 38 by rw [← HC.out]; exact RA1.out)), ((Below.heap_setCell _ _ _ _ (by show w.heap.size + 1 ≠ w.heap.size; omega)).trans RB1.out), ((Below.heap_setCell _ _ _ _ (by show w.heap.size + 1 + 1 ≠ w.heap.size; omega)).trans RZ1.out), (below_setCell BT1.out (Nat.le_refl _) _)⟩ ?_
    rintro u2 ⟨hA, hB, hZ, hb⟩
    have RA2 := Lib.hid hA
    have RB2 := Lib.hid hB
    have RZ2 := Lib.hid hZ
    have BT2 := Lib.hid hb
    clear hA hB hZ hb RA1 RB1 RZ1 BT1
    have s0_2 : u2.cell? ⟨w.heap.size, 0, none⟩ = some (.int .i64 ph) := by rw [RA2.out.cell 0]; rfl
    have fr0_2 := RA2.out.fr 0
    go_upto_region 5 with (fail)
    clear s0_2 fr0_2
    refine name_w (fun W => Rw W w.heap.size (stC (⟨3, 1, r0, r1, w0, w1, true, p1, dl, gn, sw, fl⟩ : St)) 38 ∧ Rw W (w.heap.size + 1) rs 72 ∧ Rw W (w.heap.size + 1 + 1) zeroSC 38 ∧ Below w.heap.size w W) ⟨(heap_setCell_same _ _ 0 _ 38 (.int .i64 3) RA2.out), ((Below.heap_setCell _ _ _ _ (by show w.heap.size + 1 ≠ w.heap.size; omega)).trans RB2.out), ((Below.heap_setCell _ _ _ _ (by show w.heap.size + 1 + 1 ≠ w.heap.size; omega)).trans RZ2.out), (below_setCell BT2.out (Nat.le_refl _) _)⟩ ?_
    rintro u3 ⟨hA, hB, hZ, hb⟩
    have RA3 := Lib.hid hA
    have RB3 := Lib.hid hB
    have RZ3 := Lib.hid hZ
    have BT3 := Lib.hid hb
    clear hA hB hZ hb RA2 RB2 RZ2 BT2
    obtain ⟨ds, hds⟩ : ∃ d, d = stC (⟨3, 1, r0, r1, w0, w1, true, p1, dl, gn, sw, fl⟩ : St) := ⟨_, rfl⟩
    have HD := Lib.hid hds
    have HDZ : Hid (ds.size = 12) := Lib.hid (by rw [hds]; rfl)
    have HD1 : Hid (ds.all (·.oneCell') = true) := Lib.hid (by rw [hds]; exact stC_one _)
    have RF : Hid (Rw u3 w.heap.size ds 38) := Lib.hid (by rw [hds]; exact RA3.out)
    clear hds
    have ZF := Lib.hid (RZ3.out.set ds)
    have BF := Lib.hid (below_setRow BT3.out (by omega) (b := w.heap.size + 1 + 1) ds)
    go_wp2_with (first | (refine wpList_load_row rfl 38 (.tmp 2) rfl w.heap.size rfl 38 ds (0, 0) _ RF.out Try.underlying38 rfl (by rw [HDZ.out]; exact i12) ?_) | (refine wpList_plain rfl fun _ hK => wp_store_row 38 (.tmp 4) (.tmp 16) rfl (w.heap.size + 1 + 1) ds rfl rfl 38 _ RZ3.out (by rw [HDZ.out]; exact i12) (by rw [HDZ.out]; rfl) HD1.out (hK _ _ ?_); clear hK))
    (try simp only [Exit.inBlock, Exit.then])
    refine bodyPost_ret (results_cell_tmp rfl _ _ (w.heap.size + 1 + 1) 38 ds (0, 0) _ rfl ZF.out Try.underlying38 rfl (by rw [HDZ.out]; exact i12)) rfl ?_
    exact ⟨by rw [HE.out, HD.out]; rfl, BF.out⟩
theorem gate_ahead_any (s : St) (r : Rc) (w : World) (h : s.ac = 0 ∨ s.ac = 1) : Calls Try.prog 69 #[stV s, recV r] w (StepR (ga4 s r) w) := h.elim (gate_ahead_0 s r w) (gate_ahead_1 s r w)
set_option maxRecDepth 100000 in
set_option maxHeartbeats 4000000 in
theorem prepare_any (s : St) (r : Rc) (w : World) (h0 : 0 ≤ s.gn) (h1 : s.gn ≤ 1048576) : Calls Try.prog 70 #[stV s, recV r] w (StepR (pr5 s r) w) := by
  obtain ⟨ph, ac, r0, r1, w0, w1, p0, p1, dl, gn, sw, fl⟩ := s
  obtain ⟨kind, rev, cnt, delay, gen, tick, pass, st⟩ := r
  simp only at h0 h1
  unfold stV 
  unfold recV
  obtain ⟨cs, hcs⟩ : ∃ c, c = stC (⟨ph, ac, r0, r1, w0, w1, p0, p1, dl, gn, sw, fl⟩ : St) := ⟨_, rfl⟩
  obtain ⟨rs, hrs⟩ : ∃ c, c = recC (⟨kind, rev, cnt, delay, gen, tick, pass, st⟩ : Rc) := ⟨_, rfl⟩
  rw [← hcs] 
  rw [← hrs]
  have HC := Lib.hid hcs
  have HRR := Lib.hid hrs
  have HZC : Hid (cs.size = 12) := Lib.hid (by rw [hcs]; rfl)
  have H1C : Hid (cs.all (·.oneCell') = true) := Lib.hid (by rw [hcs]; exact stC_one _)
  clear hcs hrs
  go_enter Try.func70, Try.ntmps70
  go_upto_region 1 with (fail)
  refine name_w (fun W => Rw W w.heap.size cs 38 ∧ Rw W (w.heap.size + 1) rs 72 ∧ Rw W (w.heap.size + 1 + 1) zeroSC 38 ∧ Below w.heap.size w W) ⟨((Rw.new _ _ _).alloc _).alloc _, Rw.alloc (heap_alloc2_new w _ _) _, ?_, (((Below.refl _ _).alloc (Nat.le_refl _) _).alloc (by simp) _).alloc (by simp; omega) _⟩ ?_
  · have h1 := Rw.new ((w.alloc (.cells cs 38)).alloc (.cells rs 72)) zeroSC 38
    rw [size_alloc, size_alloc] at h1
    exact h1
  rintro u0 ⟨hA, hB, hZ, hb⟩
  have RA0 := Lib.hid hA
  have RB0 := Lib.hid hB
  have RZ0 := Lib.hid hZ
  have BT0 := Lib.hid hb
  clear hA hB hZ hb
  have eg : IntKind.i64.wrap (gn + 1) = gn + 1 := IntWalk.i64_in _ (by omega)
  clear h0 h1
  by_cases hs : sw = 0
  case neg =>
    have HE : Hid (pr5 (⟨ph, ac, r0, r1, w0, w1, p0, p1, dl, gn, sw, fl⟩ : St) (⟨kind, rev, cnt, delay, gen, tick, pass, st⟩ : Rc) = ((⟨ph, ac, r0, r1, w0, w1, p0, p1, dl, gn, sw, fl⟩ : St), false)) := Lib.hid (by unfold pr5; rw [if_pos (Or.inl hs)])
    have f1 : (sw != 0) = true := by simpa using hs
    clear hs
    have s10_0 : u0.cell? ⟨w.heap.size, 10, none⟩ = some (.int .i64 sw) := by rw [RA0.out.cell 10, HC.out]; rfl
    have ZF := Lib.hid (RZ0.out.set cs)
    have BF := Lib.hid (below_setRow BT0.out (by omega) (b := w.heap.size + 1 + 1) cs)
    go_wp2_with (first | (refine wpList_load_row rfl 38 (.tmp 2) rfl w.heap.size rfl 38 cs (0, 0) _ RA0.out Try.underlying38 rfl (by rw [HZC.out]; exact i12) ?_) | (refine wpList_plain rfl fun _ hK => wp_store_row 38 (.tmp 4) (.tmp 22) rfl (w.heap.size + 1 + 1) cs rfl rfl 38 _ RZ0.out (by rw [HZC.out]; exact i12) (by rw [HZC.out]; rfl) H1C.out (hK _ _ ?_); clear hK))
    (try simp only [Exit.inBlock, Exit.then])
    refine bodyPost_ret (results_cell_tmp rfl _ _ (w.heap.size + 1 + 1) 38 cs (0, 0) _ rfl ZF.out Try.underlying38 rfl (by rw [HZC.out]; exact i12)) rfl ?_
    exact ⟨by rw [HE.out, HC.out]; rfl, BF.out⟩
  by_cases hg : gn = 1048576
  case pos =>
    have HE : Hid (pr5 (⟨ph, ac, r0, r1, w0, w1, p0, p1, dl, gn, sw, fl⟩ : St) (⟨kind, rev, cnt, delay, gen, tick, pass, st⟩ : Rc) = ((⟨ph, ac, r0, r1, w0, w1, p0, p1, dl, gn, sw, fl⟩ : St), false)) := Lib.hid (by unfold pr5; rw [if_pos (Or.inr (Or.inl hg))])
    have f1 : (sw != 0) = false := by simpa using hs
    have f2 : (gn == 1048576) = true := by simpa using hg
    clear hs hg
    have s10_0 : u0.cell? ⟨w.heap.size, 10, none⟩ = some (.int .i64 sw) := by rw [RA0.out.cell 10, HC.out]; rfl
    have s9_0 : u0.cell? ⟨w.heap.size, 9, none⟩ = some (.int .i64 gn) := by rw [RA0.out.cell 9, HC.out]; rfl
    have ZF := Lib.hid (RZ0.out.set cs)
    have BF := Lib.hid (below_setRow BT0.out (by omega) (b := w.heap.size + 1 + 1) cs)
    go_wp2_with (first | (refine wpList_load_row rfl 38 (.tmp 2) rfl w.heap.size rfl 38 cs (0, 0) _ RA0.out Try.underlying38 rfl (by rw [HZC.out]; exact i12) ?_) | (refine wpList_plain rfl fun _ hK => wp_store_row 38 (.tmp 4) (.tmp 22) rfl (w.heap.size + 1 + 1) cs rfl rfl 38 _ RZ0.out (by rw [HZC.out]; exact i12) (by rw [HZC.out]; rfl) H1C.out (hK _ _ ?_); clear hK))
    (try simp only [Exit.inBlock, Exit.then])
    refine bodyPost_ret (results_cell_tmp rfl _ _ (w.heap.size + 1 + 1) 38 cs (0, 0) _ rfl ZF.out Try.underlying38 rfl (by rw [HZC.out]; exact i12)) rfl ?_
    exact ⟨by rw [HE.out, HC.out]; rfl, BF.out⟩
  by_cases hn : gen = gn + 1
  case neg =>
    have HE : Hid (pr5 (⟨ph, ac, r0, r1, w0, w1, p0, p1, dl, gn, sw, fl⟩ : St) (⟨kind, rev, cnt, delay, gen, tick, pass, st⟩ : Rc) = ((⟨ph, ac, r0, r1, w0, w1, p0, p1, dl, gn, sw, fl⟩ : St), false)) := Lib.hid (by unfold pr5; rw [if_pos (Or.inr (Or.inr hn))])
    have f1 : (sw != 0) = false := by simpa using hs
    have f2 : (gn == 1048576) = false := by simpa using hg
    have f3 : (gen != gn + 1) = true := by simpa using hn
    clear hs hg hn
    have s10_0 : u0.cell? ⟨w.heap.size, 10, none⟩ = some (.int .i64 sw) := by rw [RA0.out.cell 10, HC.out]; rfl
    have s9_0 : u0.cell? ⟨w.heap.size, 9, none⟩ = some (.int .i64 gn) := by rw [RA0.out.cell 9, HC.out]; rfl
    have q4_0 : u0.cell? ⟨w.heap.size + 1, 4, none⟩ = some (.int .i64 gen) := by rw [RB0.out.cell 4, HRR.out]; rfl
    have ZF := Lib.hid (RZ0.out.set cs)
    have BF := Lib.hid (below_setRow BT0.out (by omega) (b := w.heap.size + 1 + 1) cs)
    go_wp2_with (first | (refine wpList_load_row rfl 38 (.tmp 2) rfl w.heap.size rfl 38 cs (0, 0) _ RA0.out Try.underlying38 rfl (by rw [HZC.out]; exact i12) ?_) | (refine wpList_plain rfl fun _ hK => wp_store_row 38 (.tmp 4) (.tmp 22) rfl (w.heap.size + 1 + 1) cs rfl rfl 38 _ RZ0.out (by rw [HZC.out]; exact i12) (by rw [HZC.out]; rfl) H1C.out (hK _ _ ?_); clear hK))
    (try simp only [Exit.inBlock, Exit.then])
    refine bodyPost_ret (results_cell_tmp rfl _ _ (w.heap.size + 1 + 1) 38 cs (0, 0) _ rfl ZF.out Try.underlying38 rfl (by rw [HZC.out]; exact i12)) rfl ?_
    exact ⟨by rw [HE.out, HC.out]; rfl, BF.out⟩
  have HE : Hid (pr5 (⟨ph, ac, r0, r1, w0, w1, p0, p1, dl, gn, sw, fl⟩ : St) (⟨kind, rev, cnt, delay, gen, tick, pass, st⟩ : Rc) = ((⟨ph, ac, r0, r1, w0, w1, p0, p1, dl, gen, 1, fl⟩ : St), true)) := Lib.hid (by unfold pr5; rw [if_neg (fun h => h.elim (fun h => h hs) (fun h => h.elim hg (fun h => h hn)))])
  have f1 : (sw != 0) = false := by simpa using hs
  have f2 : (gn == 1048576) = false := by simpa using hg
  have f3 : (gen != gn + 1) = false := by simpa using hn
  clear hs hg hn
  have s10_0 : u0.cell? ⟨w.heap.size, 10, none⟩ = some (.int .i64 sw) := by rw [RA0.out.cell 10, HC.out]; rfl
  have q4_0 : u0.cell? ⟨w.heap.size + 1, 4, none⟩ = some (.int .i64 gen) := by rw [RB0.out.cell 4, HRR.out]; rfl
  have s9_0 : u0.cell? ⟨w.heap.size, 9, none⟩ = some (.int .i64 gn) := by rw [RA0.out.cell 9, HC.out]; rfl
  have fr9_0 := RA0.out.fr 9
  go_upto_region 4 with (fail)
  clear s9_0 fr9_0 s10_0 q4_0 f1 f2 f3 eg
  refine name_w (fun W => Rw W w.heap.size (stC (⟨ph, ac, r0, r1, w0, w1, p0, p1, dl, gen, sw, fl⟩ : St)) 38 ∧ Rw W (w.heap.size + 1) rs 72 ∧ Rw W (w.heap.size + 1 + 1) zeroSC 38 ∧ Below w.heap.size w W) ⟨(heap_setCell_same _ _ 9 _ 38 (.int .i64 gen) (show Rw u0 w.heap.size (stC (⟨ph, ac, r0, r1, w0, w1, p0, p1, dl, gn, sw, fl⟩ : St)) 38 by rw [← HC.out]; exact RA0.out)), ((Below.heap_setCell _ _ _ _ (by show w.heap.size + 1 ≠ w.heap.size; omega)).trans RB0.out), ((Below.heap_setCell _ _ _ _ (by show w.heap.size + 1 + 1 ≠ w.heap.size; omega)).trans RZ0.out), (below_setCell BT0.out (Nat.le_refl _) _)⟩ ?_
  rintro u1 ⟨hA, hB, hZ, hb⟩
  have RA1 := Lib.hid hA
  have RB1 := Lib.hid hB
  have RZ1 := Lib.hid hZ
  have BT1 := Lib.hid hb
  clear hA hB hZ hb RA0 RB0 RZ0 BT0
  have s10_1 : u1.cell? ⟨w.heap.size, 10, none⟩ = some (.int .i64 sw) := by rw [RA1.out.cell 10]; rfl
  have fr10_1 := RA1.out.fr 10
  go_upto_region 5 with (fail)
  clear s10_1 fr10_1
  refine name_w (fun W => Rw W w.heap.size (stC (⟨ph, ac, r0, r1, w0, w1, p0, p1, dl, gen, 1, fl⟩ : St)) 38 ∧ Rw W (w.heap.size + 1) rs 72 ∧ Rw W (w.heap.size + 1 + 1) zeroSC 38 ∧ Below w.heap.size w W) ⟨(heap_setCell_same _ _ 10 _ 38 (.int .i64 1) RA1.out), ((Below.heap_setCell _ _ _ _ (by show w.heap.size + 1 ≠ w.heap.size; omega)).trans RB1.out), ((Below.heap_setCell _ _ _ _ (by show w.heap.size + 1 + 1 ≠ w.heap.size; omega)).trans RZ1.out), (below_setCell BT1.out (Nat.le_refl _) _)⟩ ?_
  rintro u2 ⟨hA, hB, hZ, hb⟩
  have RA2 := Lib.hid hA
  have RB2 := Lib.hid hB
  have RZ2 := Lib.hid hZ
  have BT2 := Lib.hid hb
  clear hA hB hZ hb RA1 RB1 RZ1 BT1
  obtain ⟨ds, hds⟩ : ∃ d, d = stC (⟨ph, ac, r0, r1, w0, w1, p0, p1, dl, gen, 1, fl⟩ : St) := ⟨_, rfl⟩
  have HD := Lib.hid hds
  have HDZ : Hid (ds.size = 12) := Lib.hid (by rw [hds]; rfl)
  have HD1 : Hid (ds.all (·.oneCell') = true) := Lib.hid (by rw [hds]; exact stC_one _)
  have RF : Hid (Rw u2 w.heap.size ds 38) := Lib.hid (by rw [hds]; exact RA2.out)
  clear hds
  have ZF := Lib.hid (RZ2.out.set ds)
  have BF := Lib.hid (below_setRow BT2.out (by omega) (b := w.heap.size + 1 + 1) ds)
  go_wp2_with (first | (refine wpList_load_row rfl 38 (.tmp 2) rfl w.heap.size rfl 38 ds (0, 0) _ RF.out Try.underlying38 rfl (by rw [HDZ.out]; exact i12) ?_) | (refine wpList_plain rfl fun _ hK => wp_store_row 38 (.tmp 4) (.tmp 27) rfl (w.heap.size + 1 + 1) ds rfl rfl 38 _ RZ2.out (by rw [HDZ.out]; exact i12) (by rw [HDZ.out]; rfl) HD1.out (hK _ _ ?_); clear hK))
  (try simp only [Exit.inBlock, Exit.then])
  refine bodyPost_ret (results_cell_tmp rfl _ _ (w.heap.size + 1 + 1) 38 ds (0, 0) _ rfl ZF.out Try.underlying38 rfl (by rw [HDZ.out]; exact i12)) rfl ?_
  exact ⟨by rw [HE.out, HD.out]; rfl, BF.out⟩
set_option maxRecDepth 100000 in
set_option maxHeartbeats 4000000 in
theorem applied_0 (s : St) (r : Rc) (w : World) (hac : s.ac = 0) : Calls Try.prog 74 #[stV s, recV r] w (StepR (ap8 s r) w) := by
  have HOT : Hid (∀ W, Calls Try.prog 64 #[stV s] W fun e w' => e = .returned (.int .i64 1) ∧ Below W.heap.size W w') := Lib.hid (fun W => other_0 s W hac)
  obtain ⟨ph, ac, r0, r1, w0, w1, p0, p1, dl, gn, sw, fl⟩ := s
  obtain ⟨kind, rev, cnt, delay, gen, tick, pass, st⟩ := r
  obtain rfl : ac = 0 := hac
  unfold stV at HOT ⊢
  unfold recV
  obtain ⟨cs, hcs⟩ : ∃ c, c = stC (⟨ph, 0, r0, r1, w0, w1, p0, p1, dl, gn, sw, fl⟩ : St) := ⟨_, rfl⟩
  obtain ⟨rs, hrs⟩ : ∃ c, c = recC (⟨kind, rev, cnt, delay, gen, tick, pass, st⟩ : Rc) := ⟨_, rfl⟩
  rw [← hcs] at HOT ⊢
  rw [← hrs]
  have HC := Lib.hid hcs
  have HRR := Lib.hid hrs
  have HZC : Hid (cs.size = 12) := Lib.hid (by rw [hcs]; rfl)
  have H1C : Hid (cs.all (·.oneCell') = true) := Lib.hid (by rw [hcs]; exact stC_one _)
  clear hcs hrs
  go_enter Try.func74, Try.ntmps74
  go_upto_region 1 with (fail)
  refine name_w (fun W => Rw W w.heap.size cs 38 ∧ Rw W (w.heap.size + 1) rs 72 ∧ Rw W (w.heap.size + 1 + 1) zeroSC 38 ∧ Below w.heap.size w W) ⟨((Rw.new _ _ _).alloc _).alloc _, Rw.alloc (heap_alloc2_new w _ _) _, ?_, (((Below.refl _ _).alloc (Nat.le_refl _) _).alloc (by simp) _).alloc (by simp; omega) _⟩ ?_
  · have h1 := Rw.new ((w.alloc (.cells cs 38)).alloc (.cells rs 72)) zeroSC 38
    rw [size_alloc, size_alloc] at h1
    exact h1
  rintro u0 ⟨hA, hB, hZ, hb⟩
  have RA0 := Lib.hid hA
  have RB0 := Lib.hid hB
  have RZ0 := Lib.hid hZ
  have BT0 := Lib.hid hb
  clear hA hB hZ hb
  cases ht : inR tick 0 1073741824 with
  | false =>
    have HE : Hid (ap8 (⟨ph, 0, r0, r1, w0, w1, p0, p1, dl, gn, sw, fl⟩ : St) (⟨kind, rev, cnt, delay, gen, tick, pass, st⟩ : Rc) = ((⟨ph, 0, r0, r1, w0, w1, p0, p1, dl, gn, sw, fl⟩ : St), false)) := Lib.hid (by unfold ap8; rw [if_pos ht])
    have q5_0 : u0.cell? ⟨w.heap.size + 1, 5, none⟩ = some (.int .i64 tick) := by rw [RB0.out.cell 5, HRR.out]; rfl
    have ZF := Lib.hid (RZ0.out.set cs)
    have BF := Lib.hid (below_setRow BT0.out (by omega) (b := w.heap.size + 1 + 1) cs)
    go_wp2_with (first | (go_at_call 63; refine (within_any _ _ _ _).mono ?_; rintro e w' ⟨rfl, rfl⟩) | (refine wpList_load_row rfl 38 (.tmp 2) rfl w.heap.size rfl 38 cs (0, 0) _ RA0.out Try.underlying38 rfl (by rw [HZC.out]; exact i12) ?_) | (refine wpList_plain rfl fun _ hK => wp_store_row 38 (.tmp 4) (.tmp 10) rfl (w.heap.size + 1 + 1) cs rfl rfl 38 _ RZ0.out (by rw [HZC.out]; exact i12) (by rw [HZC.out]; rfl) H1C.out (hK _ _ ?_); clear hK))
    (try simp only [Exit.inBlock, Exit.then])
    refine bodyPost_ret (results_cell_tmp rfl _ _ (w.heap.size + 1 + 1) 38 cs (0, 0) _ rfl ZF.out Try.underlying38 rfl (by rw [HZC.out]; exact i12)) rfl ?_
    exact ⟨by rw [HE.out, HC.out]; rfl, BF.out⟩
  | true =>
  have q5_0 : u0.cell? ⟨w.heap.size + 1, 5, none⟩ = some (.int .i64 tick) := by rw [RB0.out.cell 5, HRR.out]; rfl
  by_cases h3 : ph = 3
  case pos =>
    have HE : Hid (ap8 (⟨ph, 0, r0, r1, w0, w1, p0, p1, dl, gn, sw, fl⟩ : St) (⟨kind, rev, cnt, delay, gen, tick, pass, st⟩ : Rc) = ((⟨4, 1, r0, r1, w0, w1, p0, p1, dl, gn, 0, tick⟩ : St), true)) := Lib.hid (by unfold ap8; rw [if_neg (by show ¬ inR tick 0 1073741824 = false; rw [ht]; decide)]; simp only; rw [if_pos h3]; rfl)
    have f1 : (ph == 3) = true := by simpa using h3
    clear h3
    go_wp2_with (first | (go_at_call 63; refine (within_any _ _ _ _).mono ?_; rintro e w' ⟨rfl, rfl⟩) | (refine wpList_load_row rfl 38 (.tmp 2) rfl w.heap.size rfl 38 cs (0, 0) _ RA0.out Try.underlying38 rfl (by rw [HZC.out]; exact i12) ?_))
    refine (HOT.out _).mono ?_
    rintro e u1 ⟨rfl, hb⟩
    have RA1 := Lib.hid (RA0.out.under hb RA0.out.lt)
    have RB1 := Lib.hid (RB0.out.under hb RB0.out.lt)
    have RZ1 := Lib.hid (RZ0.out.under hb RZ0.out.lt)
    have BT1 := Lib.hid (BT0.out.trans (hb.mono BT0.out.size))
    clear hb RA0 RB0 RZ0 BT0
    clear q5_0 ht HOT
    have s1_1 : u1.cell? ⟨w.heap.size, 1, none⟩ = some (.int .i64 0) := by rw [RA1.out.cell 1, HC.out]; rfl
    have fr1_1 := RA1.out.fr 1
    go_upto_region 4 with (fail)
    clear s1_1 fr1_1
    refine name_w (fun W => Rw W w.heap.size (stC (⟨ph, 1, r0, r1, w0, w1, p0, p1, dl, gn, sw, fl⟩ : St)) 38 ∧ Rw W (w.heap.size + 1) rs 72 ∧ Rw W (w.heap.size + 1 + 1) zeroSC 38 ∧ Below w.heap.size w W) ⟨(heap_setCell_same _ _ 1 _ 38 (.int .i64 1) (show Rw u1 w.heap.size (stC (⟨ph, 0, r0, r1, w0, w1, p0, p1, dl, gn, sw, fl⟩ : St)) 38 by rw [← HC.out]; exact RA1.out)), ((Below.heap_setCell _ _ _ _ (by show w.heap.size + 1 ≠ w.heap.size; omega)).trans RB1.out), ((Below.heap_setCell _ _ _ _ (by show w.heap.size + 1 + 1 ≠ w.heap.size; omega)).trans RZ1.out), (below_setCell BT1.out (Nat.le_refl _) _)⟩ ?_
    rintro u2 ⟨hA, hB, hZ, hb⟩
    have RA2 := Lib.hid hA
    have RB2 := Lib.hid hB
    have RZ2 := Lib.hid hZ
    have BT2 := Lib.hid hb
    clear hA hB hZ hb RA1 RB1 RZ1 BT1
    have s10_2 : u2.cell? ⟨w.heap.size, 10, none⟩ = some (.int .i64 sw) := by rw [RA2.out.cell 10]; rfl
    have fr10_2 := RA2.out.fr 10
    go_upto_region 5 with (fail)
    clear s10_2 fr10_2
    refine name_w (fun W => Rw W w.heap.size (stC (⟨ph, 1, r0, r1, w0, w1, p0, p1, dl, gn, 0, fl⟩ : St)) 38 ∧ Rw W (w.heap.size + 1) rs 72 ∧ Rw W (w.heap.size + 1 + 1) zeroSC 38 ∧ Below w.heap.size w W) ⟨(heap_setCell_same _ _ 10 _ 38 (.int .i64 0) RA2.out), ((Below.heap_setCell _ _ _ _ (by show w.heap.size + 1 ≠ w.heap.size; omega)).trans RB2.out), ((Below.heap_setCell _ _ _ _ (by show w.heap.size + 1 + 1 ≠ w.heap.size; omega)).trans RZ2.out), (below_setCell BT2.out (Nat.le_refl _) _)⟩ ?_
    rintro u3 ⟨hA, hB, hZ, hb⟩
    have RA3 := Lib.hid hA
    have RB3 := Lib.hid hB
    have RZ3 := Lib.hid hZ
    have BT3 := Lib.hid hb
    clear hA hB hZ hb RA2 RB2 RZ2 BT2
    have q5_3 : u3.cell? ⟨w.heap.size + 1, 5, none⟩ = some (.int .i64 tick) := by rw [RB3.out.cell 5, HRR.out]; rfl
    have s11_3 : u3.cell? ⟨w.heap.size, 11, none⟩ = some (.int .i64 fl) := by rw [RA3.out.cell 11]; rfl
    have fr11_3 := RA3.out.fr 11
    go_upto_region 6 with (fail)
    clear s11_3 fr11_3 q5_3
    refine name_w (fun W => Rw W w.heap.size (stC (⟨ph, 1, r0, r1, w0, w1, p0, p1, dl, gn, 0, tick⟩ : St)) 38 ∧ Rw W (w.heap.size + 1) rs 72 ∧ Rw W (w.heap.size + 1 + 1) zeroSC 38 ∧ Below w.heap.size w W) ⟨(heap_setCell_same _ _ 11 _ 38 (.int .i64 tick) RA3.out), ((Below.heap_setCell _ _ _ _ (by show w.heap.size + 1 ≠ w.heap.size; omega)).trans RB3.out), ((Below.heap_setCell _ _ _ _ (by show w.heap.size + 1 + 1 ≠ w.heap.size; omega)).trans RZ3.out), (below_setCell BT3.out (Nat.le_refl _) _)⟩ ?_
    rintro u4 ⟨hA, hB, hZ, hb⟩
    have RA4 := Lib.hid hA
    have RB4 := Lib.hid hB
    have RZ4 := Lib.hid hZ
    have BT4 := Lib.hid hb
    clear hA hB hZ hb RA3 RB3 RZ3 BT3
    have s0_4 : u4.cell? ⟨w.heap.size, 0, none⟩ = some (.int .i64 ph) := by rw [RA4.out.cell 0]; rfl
    have fr0_4 := RA4.out.fr 0
    go_upto_region 9 with (fail)
    clear s0_4 fr0_4 f1
    refine name_w (fun W => Rw W w.heap.size (stC (⟨4, 1, r0, r1, w0, w1, p0, p1, dl, gn, 0, tick⟩ : St)) 38 ∧ Rw W (w.heap.size + 1) rs 72 ∧ Rw W (w.heap.size + 1 + 1) zeroSC 38 ∧ Below w.heap.size w W) ⟨(heap_setCell_same _ _ 0 _ 38 (.int .i64 4) RA4.out), ((Below.heap_setCell _ _ _ _ (by show w.heap.size + 1 ≠ w.heap.size; omega)).trans RB4.out), ((Below.heap_setCell _ _ _ _ (by show w.heap.size + 1 + 1 ≠ w.heap.size; omega)).trans RZ4.out), (below_setCell BT4.out (Nat.le_refl _) _)⟩ ?_
    rintro u5 ⟨hA, hB, hZ, hb⟩
    have RA5 := Lib.hid hA
    have RB5 := Lib.hid hB
    have RZ5 := Lib.hid hZ
    have BT5 := Lib.hid hb
    clear hA hB hZ hb RA4 RB4 RZ4 BT4
    obtain ⟨ds, hds⟩ : ∃ d, d = stC (⟨4, 1, r0, r1, w0, w1, p0, p1, dl, gn, 0, tick⟩ : St) := ⟨_, rfl⟩
    have HD := Lib.hid hds
    have HDZ : Hid (ds.size = 12) := Lib.hid (by rw [hds]; rfl)
    have HD1 : Hid (ds.all (·.oneCell') = true) := Lib.hid (by rw [hds]; exact stC_one _)
    have RF : Hid (Rw u5 w.heap.size ds 38) := Lib.hid (by rw [hds]; exact RA5.out)
    clear hds
    have ZF := Lib.hid (RZ5.out.set ds)
    have BF := Lib.hid (below_setRow BT5.out (by omega) (b := w.heap.size + 1 + 1) ds)
    go_wp2_with (first | (refine wpList_load_row rfl 38 (.tmp 2) rfl w.heap.size rfl 38 ds (0, 0) _ RF.out Try.underlying38 rfl (by rw [HDZ.out]; exact i12) ?_) | (refine wpList_plain rfl fun _ hK => wp_store_row 38 (.tmp 4) (.tmp 23) rfl (w.heap.size + 1 + 1) ds rfl rfl 38 _ RZ5.out (by rw [HDZ.out]; exact i12) (by rw [HDZ.out]; rfl) HD1.out (hK _ _ ?_); clear hK))
    (try simp only [Exit.inBlock, Exit.then])
    refine bodyPost_ret (results_cell_tmp rfl _ _ (w.heap.size + 1 + 1) 38 ds (0, 0) _ rfl ZF.out Try.underlying38 rfl (by rw [HDZ.out]; exact i12)) rfl ?_
    exact ⟨by rw [HE.out, HD.out]; rfl, BF.out⟩
  have HE : Hid (ap8 (⟨ph, 0, r0, r1, w0, w1, p0, p1, dl, gn, sw, fl⟩ : St) (⟨kind, rev, cnt, delay, gen, tick, pass, st⟩ : Rc) = ((⟨7, 1, r0, r1, w0, w1, p0, p1, dl, gn, 0, tick⟩ : St), true)) := Lib.hid (by unfold ap8; rw [if_neg (by show ¬ inR tick 0 1073741824 = false; rw [ht]; decide)]; simp only; rw [if_neg h3]; rfl)
  have f1 : (ph == 3) = false := by simpa using h3
  clear h3
  go_wp2_with (first | (go_at_call 63; refine (within_any _ _ _ _).mono ?_; rintro e w' ⟨rfl, rfl⟩) | (refine wpList_load_row rfl 38 (.tmp 2) rfl w.heap.size rfl 38 cs (0, 0) _ RA0.out Try.underlying38 rfl (by rw [HZC.out]; exact i12) ?_))
  refine (HOT.out _).mono ?_
  rintro e u1 ⟨rfl, hb⟩
  have RA1 := Lib.hid (RA0.out.under hb RA0.out.lt)
  have RB1 := Lib.hid (RB0.out.under hb RB0.out.lt)
  have RZ1 := Lib.hid (RZ0.out.under hb RZ0.out.lt)
  have BT1 := Lib.hid (BT0.out.trans (hb.mono BT0.out.size))
  clear hb RA0 RB0 RZ0 BT0
  clear q5_0 ht HOT
  have s1_1 : u1.cell? ⟨w.heap.size, 1, none⟩ = some (.int .i64 0) := by rw [RA1.out.cell 1, HC.out]; rfl
  have fr1_1 := RA1.out.fr 1
  go_upto_region 4 with (fail)
  clear s1_1 fr1_1
  refine name_w (fun W => Rw W w.heap.size (stC (⟨ph, 1, r0, r1, w0, w1, p0, p1, dl, gn, sw, fl⟩ : St)) 38 ∧ Rw W (w.heap.size + 1) rs 72 ∧ Rw W (w.heap.size + 1 + 1) zeroSC 38 ∧ Below w.heap.size w W) ⟨(heap_setCell_same _ _ 1 _ 38 (.int .i64 1) (show Rw u1 w.heap.size (stC (⟨ph, 0, r0, r1, w0, w1, p0, p1, dl, gn, sw, fl⟩ : St)) 38 by rw [← HC.out]; exact RA1.out)), ((Below.heap_setCell _ _ _ _ (by show w.heap.size + 1 ≠ w.heap.size; omega)).trans RB1.out), ((Below.heap_setCell _ _ _ _ (by show w.heap.size + 1 + 1 ≠ w.heap.size; omega)).trans RZ1.out), (below_setCell BT1.out (Nat.le_refl _) _)⟩ ?_
  rintro u2 ⟨hA, hB, hZ, hb⟩
  have RA2 := Lib.hid hA
  have RB2 := Lib.hid hB
  have RZ2 := Lib.hid hZ
  have BT2 := Lib.hid hb
  clear hA hB hZ hb RA1 RB1 RZ1 BT1
  have s10_2 : u2.cell? ⟨w.heap.size, 10, none⟩ = some (.int .i64 sw) := by rw [RA2.out.cell 10]; rfl
  have fr10_2 := RA2.out.fr 10
  go_upto_region 5 with (fail)
  clear s10_2 fr10_2
  refine name_w (fun W => Rw W w.heap.size (stC (⟨ph, 1, r0, r1, w0, w1, p0, p1, dl, gn, 0, fl⟩ : St)) 38 ∧ Rw W (w.heap.size + 1) rs 72 ∧ Rw W (w.heap.size + 1 + 1) zeroSC 38 ∧ Below w.heap.size w W) ⟨(heap_setCell_same _ _ 10 _ 38 (.int .i64 0) RA2.out), ((Below.heap_setCell _ _ _ _ (by show w.heap.size + 1 ≠ w.heap.size; omega)).trans RB2.out), ((Below.heap_setCell _ _ _ _ (by show w.heap.size + 1 + 1 ≠ w.heap.size; omega)).trans RZ2.out), (below_setCell BT2.out (Nat.le_refl _) _)⟩ ?_
  rintro u3 ⟨hA, hB, hZ, hb⟩
  have RA3 := Lib.hid hA
  have RB3 := Lib.hid hB
  have RZ3 := Lib.hid hZ
  have BT3 := Lib.hid hb
  clear hA hB hZ hb RA2 RB2 RZ2 BT2
  have q5_3 : u3.cell? ⟨w.heap.size + 1, 5, none⟩ = some (.int .i64 tick) := by rw [RB3.out.cell 5, HRR.out]; rfl
  have s11_3 : u3.cell? ⟨w.heap.size, 11, none⟩ = some (.int .i64 fl) := by rw [RA3.out.cell 11]; rfl
  have fr11_3 := RA3.out.fr 11
  go_upto_region 6 with (fail)
  clear s11_3 fr11_3 q5_3
  refine name_w (fun W => Rw W w.heap.size (stC (⟨ph, 1, r0, r1, w0, w1, p0, p1, dl, gn, 0, tick⟩ : St)) 38 ∧ Rw W (w.heap.size + 1) rs 72 ∧ Rw W (w.heap.size + 1 + 1) zeroSC 38 ∧ Below w.heap.size w W) ⟨(heap_setCell_same _ _ 11 _ 38 (.int .i64 tick) RA3.out), ((Below.heap_setCell _ _ _ _ (by show w.heap.size + 1 ≠ w.heap.size; omega)).trans RB3.out), ((Below.heap_setCell _ _ _ _ (by show w.heap.size + 1 + 1 ≠ w.heap.size; omega)).trans RZ3.out), (below_setCell BT3.out (Nat.le_refl _) _)⟩ ?_
  rintro u4 ⟨hA, hB, hZ, hb⟩
  have RA4 := Lib.hid hA
  have RB4 := Lib.hid hB
  have RZ4 := Lib.hid hZ
  have BT4 := Lib.hid hb
  clear hA hB hZ hb RA3 RB3 RZ3 BT3
  have s0_4 : u4.cell? ⟨w.heap.size, 0, none⟩ = some (.int .i64 ph) := by rw [RA4.out.cell 0]; rfl
  have fr0_4 := RA4.out.fr 0
  go_upto_region 9 with (fail)
  clear s0_4 fr0_4 f1
  refine name_w (fun W => Rw W w.heap.size (stC (⟨7, 1, r0, r1, w0, w1, p0, p1, dl, gn, 0, tick⟩ : St)) 38 ∧ Rw W (w.heap.size + 1) rs 72 ∧ Rw W (w.heap.size + 1 + 1) zeroSC 38 ∧ Below w.heap.size w W) ⟨(heap_setCell_same _ _ 0 _ 38 (.int .i64 7) RA4.out), ((Below.heap_setCell _ _ _ _ (by show w.heap.size + 1 ≠ w.heap.size; omega)).trans RB4.out), ((Below.heap_setCell _ _ _ _ (by show w.heap.size + 1 + 1 ≠ w.heap.size; omega)).trans RZ4.out), (below_setCell BT4.out (Nat.le_refl _) _)⟩ ?_
  rintro u5 ⟨hA, hB, hZ, hb⟩
  have RA5 := Lib.hid hA
  have RB5 := Lib.hid hB
  have RZ5 := Lib.hid hZ
  have BT5 := Lib.hid hb
  clear hA hB hZ hb RA4 RB4 RZ4 BT4
  obtain ⟨ds, hds⟩ : ∃ d, d = stC (⟨7, 1, r0, r1, w0, w1, p0, p1, dl, gn, 0, tick⟩ : St) := ⟨_, rfl⟩
  have HD := Lib.hid hds
  have HDZ : Hid (ds.size = 12) := Lib.hid (by rw [hds]; rfl)
  have HD1 : Hid (ds.all (·.oneCell') = true) := Lib.hid (by rw [hds]; exact stC_one _)
  have RF : Hid (Rw u5 w.heap.size ds 38) := Lib.hid (by rw [hds]; exact RA5.out)
  clear hds
  have ZF := Lib.hid (RZ5.out.set ds)
  have BF := Lib.hid (below_setRow BT5.out (by omega) (b := w.heap.size + 1 + 1) ds)
  go_wp2_with (first | (refine wpList_load_row rfl 38 (.tmp 2) rfl w.heap.size rfl 38 ds (0, 0) _ RF.out Try.underlying38 rfl (by rw [HDZ.out]; exact i12) ?_) | (refine wpList_plain rfl fun _ hK => wp_store_row 38 (.tmp 4) (.tmp 23) rfl (w.heap.size + 1 + 1) ds rfl rfl 38 _ RZ5.out (by rw [HDZ.out]; exact i12) (by rw [HDZ.out]; rfl) HD1.out (hK _ _ ?_); clear hK))
  (try simp only [Exit.inBlock, Exit.then])
  refine bodyPost_ret (results_cell_tmp rfl _ _ (w.heap.size + 1 + 1) 38 ds (0, 0) _ rfl ZF.out Try.underlying38 rfl (by rw [HDZ.out]; exact i12)) rfl ?_
  exact ⟨by rw [HE.out, HD.out]; rfl, BF.out⟩
set_option maxRecDepth 100000 in
set_option maxHeartbeats 4000000 in
theorem applied_1 (s : St) (r : Rc) (w : World) (hac : s.ac = 1) : Calls Try.prog 74 #[stV s, recV r] w (StepR (ap8 s r) w) := by
  have HOT : Hid (∀ W, Calls Try.prog 64 #[stV s] W fun e w' => e = .returned (.int .i64 0) ∧ Below W.heap.size W w') := Lib.hid (fun W => other_1 s W hac)
  obtain ⟨ph, ac, r0, r1, w0, w1, p0, p1, dl, gn, sw, fl⟩ := s
  obtain ⟨kind, rev, cnt, delay, gen, tick, pass, st⟩ := r
  obtain rfl : ac = 1 := hac
  unfold stV at HOT ⊢
  unfold recV
  obtain ⟨cs, hcs⟩ : ∃ c, c = stC (⟨ph, 1, r0, r1, w0, w1, p0, p1, dl, gn, sw, fl⟩ : St) := ⟨_, rfl⟩
  obtain ⟨rs, hrs⟩ : ∃ c, c = recC (⟨kind, rev, cnt, delay, gen, tick, pass, st⟩ : Rc) := ⟨_, rfl⟩
  rw [← hcs] at HOT ⊢
  rw [← hrs]
  have HC := Lib.hid hcs
  have HRR := Lib.hid hrs
  have HZC : Hid (cs.size = 12) := Lib.hid (by rw [hcs]; rfl)
  have H1C : Hid (cs.all (·.oneCell') = true) := Lib.hid (by rw [hcs]; exact stC_one _)
  clear hcs hrs
  go_enter Try.func74, Try.ntmps74
  go_upto_region 1 with (fail)
  refine name_w (fun W => Rw W w.heap.size cs 38 ∧ Rw W (w.heap.size + 1) rs 72 ∧ Rw W (w.heap.size + 1 + 1) zeroSC 38 ∧ Below w.heap.size w W) ⟨((Rw.new _ _ _).alloc _).alloc _, Rw.alloc (heap_alloc2_new w _ _) _, ?_, (((Below.refl _ _).alloc (Nat.le_refl _) _).alloc (by simp) _).alloc (by simp; omega) _⟩ ?_
  · have h1 := Rw.new ((w.alloc (.cells cs 38)).alloc (.cells rs 72)) zeroSC 38
    rw [size_alloc, size_alloc] at h1
    exact h1
  rintro u0 ⟨hA, hB, hZ, hb⟩
  have RA0 := Lib.hid hA
  have RB0 := Lib.hid hB
  have RZ0 := Lib.hid hZ
  have BT0 := Lib.hid hb
  clear hA hB hZ hb
  cases ht : inR tick 0 1073741824 with
  | false =>
    have HE : Hid (ap8 (⟨ph, 1, r0, r1, w0, w1, p0, p1, dl, gn, sw, fl⟩ : St) (⟨kind, rev, cnt, delay, gen, tick, pass, st⟩ : Rc) = ((⟨ph, 1, r0, r1, w0, w1, p0, p1, dl, gn, sw, fl⟩ : St), false)) := Lib.hid (by unfold ap8; rw [if_pos ht])
    have q5_0 : u0.cell? ⟨w.heap.size + 1, 5, none⟩ = some (.int .i64 tick) := by rw [RB0.out.cell 5, HRR.out]; rfl
    have ZF := Lib.hid (RZ0.out.set cs)
    have BF := Lib.hid (below_setRow BT0.out (by omega) (b := w.heap.size + 1 + 1) cs)
    go_wp2_with (first | (go_at_call 63; refine (within_any _ _ _ _).mono ?_; rintro e w' ⟨rfl, rfl⟩) | (refine wpList_load_row rfl 38 (.tmp 2) rfl w.heap.size rfl 38 cs (0, 0) _ RA0.out Try.underlying38 rfl (by rw [HZC.out]; exact i12) ?_) | (refine wpList_plain rfl fun _ hK => wp_store_row 38 (.tmp 4) (.tmp 10) rfl (w.heap.size + 1 + 1) cs rfl rfl 38 _ RZ0.out (by rw [HZC.out]; exact i12) (by rw [HZC.out]; rfl) H1C.out (hK _ _ ?_); clear hK))
    (try simp only [Exit.inBlock, Exit.then])
    refine bodyPost_ret (results_cell_tmp rfl _ _ (w.heap.size + 1 + 1) 38 cs (0, 0) _ rfl ZF.out Try.underlying38 rfl (by rw [HZC.out]; exact i12)) rfl ?_
    exact ⟨by rw [HE.out, HC.out]; rfl, BF.out⟩
  | true =>
  have q5_0 : u0.cell? ⟨w.heap.size + 1, 5, none⟩ = some (.int .i64 tick) := by rw [RB0.out.cell 5, HRR.out]; rfl
  by_cases h3 : ph = 3
  case pos =>
    have HE : Hid (ap8 (⟨ph, 1, r0, r1, w0, w1, p0, p1, dl, gn, sw, fl⟩ : St) (⟨kind, rev, cnt, delay, gen, tick, pass, st⟩ : Rc) = ((⟨4, 0, r0, r1, w0, w1, p0, p1, dl, gn, 0, tick⟩ : St), true)) := Lib.hid (by unfold ap8; rw [if_neg (by show ¬ inR tick 0 1073741824 = false; rw [ht]; decide)]; simp only; rw [if_pos h3]; rfl)
    have f1 : (ph == 3) = true := by simpa using h3
    clear h3
    go_wp2_with (first | (go_at_call 63; refine (within_any _ _ _ _).mono ?_; rintro e w' ⟨rfl, rfl⟩) | (refine wpList_load_row rfl 38 (.tmp 2) rfl w.heap.size rfl 38 cs (0, 0) _ RA0.out Try.underlying38 rfl (by rw [HZC.out]; exact i12) ?_))
    refine (HOT.out _).mono ?_
    rintro e u1 ⟨rfl, hb⟩
    have RA1 := Lib.hid (RA0.out.under hb RA0.out.lt)
    have RB1 := Lib.hid (RB0.out.under hb RB0.out.lt)
    have RZ1 := Lib.hid (RZ0.out.under hb RZ0.out.lt)
    have BT1 := Lib.hid (BT0.out.trans (hb.mono BT0.out.size))
    clear hb RA0 RB0 RZ0 BT0
    clear q5_0 ht HOT
    have s1_1 : u1.cell? ⟨w.heap.size, 1, none⟩ = some (.int .i64 1) := by rw [RA1.out.cell 1, HC.out]; rfl
    have fr1_1 := RA1.out.fr 1
    go_upto_region 4 with (fail)
    clear s1_1 fr1_1
    refine name_w (fun W => Rw W w.heap.size (stC (⟨ph, 0, r0, r1, w0, w1, p0, p1, dl, gn, sw, fl⟩ : St)) 38 ∧ Rw W (w.heap.size + 1) rs 72 ∧ Rw W (w.heap.size + 1 + 1) zeroSC 38 ∧ Below w.heap.size w W) ⟨(heap_setCell_same _ _ 1 _ 38 (.int .i64 0) (show Rw u1 w.heap.size (stC (⟨ph, 1, r0, r1, w0, w1, p0, p1, dl, gn, sw, fl⟩ : St)) 38 by rw [← HC.out]; exact RA1.out)), ((Below.heap_setCell _ _ _ _ (by show w.heap.size + 1 ≠ w.heap.size; omega)).trans RB1.out), ((Below.heap_setCell _ _ _ _ (by show w.heap.size + 1 + 1 ≠ w.heap.size; omega)).trans RZ1.out), (below_setCell BT1.out (Nat.le_refl _) _)⟩ ?_
    rintro u2 ⟨hA, hB, hZ, hb⟩
    have RA2 := Lib.hid hA
    have RB2 := Lib.hid hB
    have RZ2 := Lib.hid hZ
    have BT2 := Lib.hid hb
    clear hA hB hZ hb RA1 RB1 RZ1 BT1
    have s10_2 : u2.cell? ⟨w.heap.size, 10, none⟩ = some (.int .i64 sw) := by rw [RA2.out.cell 10]; rfl
    have fr10_2 := RA2.out.fr 10
    go_upto_region 5 with (fail)
    clear s10_2 fr10_2
    refine name_w (fun W => Rw W w.heap.size (stC (⟨ph, 0, r0, r1, w0, w1, p0, p1, dl, gn, 0, fl⟩ : St)) 38 ∧ Rw W (w.heap.size + 1) rs 72 ∧ Rw W (w.heap.size + 1 + 1) zeroSC 38 ∧ Below w.heap.size w W) ⟨(heap_setCell_same _ _ 10 _ 38 (.int .i64 0) RA2.out), ((Below.heap_setCell _ _ _ _ (by show w.heap.size + 1 ≠ w.heap.size; omega)).trans RB2.out), ((Below.heap_setCell _ _ _ _ (by show w.heap.size + 1 + 1 ≠ w.heap.size; omega)).trans RZ2.out), (below_setCell BT2.out (Nat.le_refl _) _)⟩ ?_
    rintro u3 ⟨hA, hB, hZ, hb⟩
    have RA3 := Lib.hid hA
    have RB3 := Lib.hid hB
    have RZ3 := Lib.hid hZ
    have BT3 := Lib.hid hb
    clear hA hB hZ hb RA2 RB2 RZ2 BT2
    have q5_3 : u3.cell? ⟨w.heap.size + 1, 5, none⟩ = some (.int .i64 tick) := by rw [RB3.out.cell 5, HRR.out]; rfl
    have s11_3 : u3.cell? ⟨w.heap.size, 11, none⟩ = some (.int .i64 fl) := by rw [RA3.out.cell 11]; rfl
    have fr11_3 := RA3.out.fr 11
    go_upto_region 6 with (fail)
    clear s11_3 fr11_3 q5_3
    refine name_w (fun W => Rw W w.heap.size (stC (⟨ph, 0, r0, r1, w0, w1, p0, p1, dl, gn, 0, tick⟩ : St)) 38 ∧ Rw W (w.heap.size + 1) rs 72 ∧ Rw W (w.heap.size + 1 + 1) zeroSC 38 ∧ Below w.heap.size w W) ⟨(heap_setCell_same _ _ 11 _ 38 (.int .i64 tick) RA3.out), ((Below.heap_setCell _ _ _ _ (by show w.heap.size + 1 ≠ w.heap.size; omega)).trans RB3.out), ((Below.heap_setCell _ _ _ _ (by show w.heap.size + 1 + 1 ≠ w.heap.size; omega)).trans RZ3.out), (below_setCell BT3.out (Nat.le_refl _) _)⟩ ?_
    rintro u4 ⟨hA, hB, hZ, hb⟩
    have RA4 := Lib.hid hA
    have RB4 := Lib.hid hB
    have RZ4 := Lib.hid hZ
    have BT4 := Lib.hid hb
    clear hA hB hZ hb RA3 RB3 RZ3 BT3
    have s0_4 : u4.cell? ⟨w.heap.size, 0, none⟩ = some (.int .i64 ph) := by rw [RA4.out.cell 0]; rfl
    have fr0_4 := RA4.out.fr 0
    go_upto_region 9 with (fail)
    clear s0_4 fr0_4 f1
    refine name_w (fun W => Rw W w.heap.size (stC (⟨4, 0, r0, r1, w0, w1, p0, p1, dl, gn, 0, tick⟩ : St)) 38 ∧ Rw W (w.heap.size + 1) rs 72 ∧ Rw W (w.heap.size + 1 + 1) zeroSC 38 ∧ Below w.heap.size w W) ⟨(heap_setCell_same _ _ 0 _ 38 (.int .i64 4) RA4.out), ((Below.heap_setCell _ _ _ _ (by show w.heap.size + 1 ≠ w.heap.size; omega)).trans RB4.out), ((Below.heap_setCell _ _ _ _ (by show w.heap.size + 1 + 1 ≠ w.heap.size; omega)).trans RZ4.out), (below_setCell BT4.out (Nat.le_refl _) _)⟩ ?_
    rintro u5 ⟨hA, hB, hZ, hb⟩
    have RA5 := Lib.hid hA
    have RB5 := Lib.hid hB
    have RZ5 := Lib.hid hZ
    have BT5 := Lib.hid hb
    clear hA hB hZ hb RA4 RB4 RZ4 BT4
    obtain ⟨ds, hds⟩ : ∃ d, d = stC (⟨4, 0, r0, r1, w0, w1, p0, p1, dl, gn, 0, tick⟩ : St) := ⟨_, rfl⟩
    have HD := Lib.hid hds
    have HDZ : Hid (ds.size = 12) := Lib.hid (by rw [hds]; rfl)
    have HD1 : Hid (ds.all (·.oneCell') = true) := Lib.hid (by rw [hds]; exact stC_one _)
    have RF : Hid (Rw u5 w.heap.size ds 38) := Lib.hid (by rw [hds]; exact RA5.out)
    clear hds
    have ZF := Lib.hid (RZ5.out.set ds)
    have BF := Lib.hid (below_setRow BT5.out (by omega) (b := w.heap.size + 1 + 1) ds)
    go_wp2_with (first | (refine wpList_load_row rfl 38 (.tmp 2) rfl w.heap.size rfl 38 ds (0, 0) _ RF.out Try.underlying38 rfl (by rw [HDZ.out]; exact i12) ?_) | (refine wpList_plain rfl fun _ hK => wp_store_row 38 (.tmp 4) (.tmp 23) rfl (w.heap.size + 1 + 1) ds rfl rfl 38 _ RZ5.out (by rw [HDZ.out]; exact i12) (by rw [HDZ.out]; rfl) HD1.out (hK _ _ ?_); clear hK))
    (try simp only [Exit.inBlock, Exit.then])
    refine bodyPost_ret (results_cell_tmp rfl _ _ (w.heap.size + 1 + 1) 38 ds (0, 0) _ rfl ZF.out Try.underlying38 rfl (by rw [HDZ.out]; exact i12)) rfl ?_
    exact ⟨by rw [HE.out, HD.out]; rfl, BF.out⟩
  have HE : Hid (ap8 (⟨ph, 1, r0, r1, w0, w1, p0, p1, dl, gn, sw, fl⟩ : St) (⟨kind, rev, cnt, delay, gen, tick, pass, st⟩ : Rc) = ((⟨7, 0, r0, r1, w0, w1, p0, p1, dl, gn, 0, tick⟩ : St), true)) := Lib.hid (by unfold ap8; rw [if_neg (by show ¬ inR tick 0 1073741824 = false; rw [ht]; decide)]; simp only; rw [if_neg h3]; rfl)
  have f1 : (ph == 3) = false := by simpa using h3
  clear h3
  go_wp2_with (first | (go_at_call 63; refine (within_any _ _ _ _).mono ?_; rintro e w' ⟨rfl, rfl⟩) | (refine wpList_load_row rfl 38 (.tmp 2) rfl w.heap.size rfl 38 cs (0, 0) _ RA0.out Try.underlying38 rfl (by rw [HZC.out]; exact i12) ?_))
  refine (HOT.out _).mono ?_
  rintro e u1 ⟨rfl, hb⟩
  have RA1 := Lib.hid (RA0.out.under hb RA0.out.lt)
  have RB1 := Lib.hid (RB0.out.under hb RB0.out.lt)
  have RZ1 := Lib.hid (RZ0.out.under hb RZ0.out.lt)
  have BT1 := Lib.hid (BT0.out.trans (hb.mono BT0.out.size))
  clear hb RA0 RB0 RZ0 BT0
  clear q5_0 ht HOT
  have s1_1 : u1.cell? ⟨w.heap.size, 1, none⟩ = some (.int .i64 1) := by rw [RA1.out.cell 1, HC.out]; rfl
  have fr1_1 := RA1.out.fr 1
  go_upto_region 4 with (fail)
  clear s1_1 fr1_1
  refine name_w (fun W => Rw W w.heap.size (stC (⟨ph, 0, r0, r1, w0, w1, p0, p1, dl, gn, sw, fl⟩ : St)) 38 ∧ Rw W (w.heap.size + 1) rs 72 ∧ Rw W (w.heap.size + 1 + 1) zeroSC 38 ∧ Below w.heap.size w W) ⟨(heap_setCell_same _ _ 1 _ 38 (.int .i64 0) (show Rw u1 w.heap.size (stC (⟨ph, 1, r0, r1, w0, w1, p0, p1, dl, gn, sw, fl⟩ : St)) 38 by rw [← HC.out]; exact RA1.out)), ((Below.heap_setCell _ _ _ _ (by show w.heap.size + 1 ≠ w.heap.size; omega)).trans RB1.out), ((Below.heap_setCell _ _ _ _ (by show w.heap.size + 1 + 1 ≠ w.heap.size; omega)).trans RZ1.out), (below_setCell BT1.out (Nat.le_refl _) _)⟩ ?_
  rintro u2 ⟨hA, hB, hZ, hb⟩
  have RA2 := Lib.hid hA
  have RB2 := Lib.hid hB
  have RZ2 := Lib.hid hZ
  have BT2 := Lib.hid hb
  clear hA hB hZ hb RA1 RB1 RZ1 BT1
  have s10_2 : u2.cell? ⟨w.heap.size, 10, none⟩ = some (.int .i64 sw) := by rw [RA2.out.cell 10]; rfl
  have fr10_2 := RA2.out.fr 10
  go_upto_region 5 with (fail)
  clear s10_2 fr10_2
  refine name_w (fun W => Rw W w.heap.size (stC (⟨ph, 0, r0, r1, w0, w1, p0, p1, dl, gn, 0, fl⟩ : St)) 38 ∧ Rw W (w.heap.size + 1) rs 72 ∧ Rw W (w.heap.size + 1 + 1) zeroSC 38 ∧ Below w.heap.size w W) ⟨(heap_setCell_same _ _ 10 _ 38 (.int .i64 0) RA2.out), ((Below.heap_setCell _ _ _ _ (by show w.heap.size + 1 ≠ w.heap.size; omega)).trans RB2.out), ((Below.heap_setCell _ _ _ _ (by show w.heap.size + 1 + 1 ≠ w.heap.size; omega)).trans RZ2.out), (below_setCell BT2.out (Nat.le_refl _) _)⟩ ?_
  rintro u3 ⟨hA, hB, hZ, hb⟩
  have RA3 := Lib.hid hA
  have RB3 := Lib.hid hB
  have RZ3 := Lib.hid hZ
  have BT3 := Lib.hid hb
  clear hA hB hZ hb RA2 RB2 RZ2 BT2
  have q5_3 : u3.cell? ⟨w.heap.size + 1, 5, none⟩ = some (.int .i64 tick) := by rw [RB3.out.cell 5, HRR.out]; rfl
  have s11_3 : u3.cell? ⟨w.heap.size, 11, none⟩ = some (.int .i64 fl) := by rw [RA3.out.cell 11]; rfl
  have fr11_3 := RA3.out.fr 11
  go_upto_region 6 with (fail)
  clear s11_3 fr11_3 q5_3
  refine name_w (fun W => Rw W w.heap.size (stC (⟨ph, 0, r0, r1, w0, w1, p0, p1, dl, gn, 0, tick⟩ : St)) 38 ∧ Rw W (w.heap.size + 1) rs 72 ∧ Rw W (w.heap.size + 1 + 1) zeroSC 38 ∧ Below w.heap.size w W) ⟨(heap_setCell_same _ _ 11 _ 38 (.int .i64 tick) RA3.out), ((Below.heap_setCell _ _ _ _ (by show w.heap.size + 1 ≠ w.heap.size; omega)).trans RB3.out), ((Below.heap_setCell _ _ _ _ (by show w.heap.size + 1 + 1 ≠ w.heap.size; omega)).trans RZ3.out), (below_setCell BT3.out (Nat.le_refl _) _)⟩ ?_
  rintro u4 ⟨hA, hB, hZ, hb⟩
  have RA4 := Lib.hid hA
  have RB4 := Lib.hid hB
  have RZ4 := Lib.hid hZ
  have BT4 := Lib.hid hb
  clear hA hB hZ hb RA3 RB3 RZ3 BT3
  have s0_4 : u4.cell? ⟨w.heap.size, 0, none⟩ = some (.int .i64 ph) := by rw [RA4.out.cell 0]; rfl
  have fr0_4 := RA4.out.fr 0
  go_upto_region 9 with (fail)
  clear s0_4 fr0_4 f1
  refine name_w (fun W => Rw W w.heap.size (stC (⟨7, 0, r0, r1, w0, w1, p0, p1, dl, gn, 0, tick⟩ : St)) 38 ∧ Rw W (w.heap.size + 1) rs 72 ∧ Rw W (w.heap.size + 1 + 1) zeroSC 38 ∧ Below w.heap.size w W) ⟨(heap_setCell_same _ _ 0 _ 38 (.int .i64 7) RA4.out), ((Below.heap_setCell _ _ _ _ (by show w.heap.size + 1 ≠ w.heap.size; omega)).trans RB4.out), ((Below.heap_setCell _ _ _ _ (by show w.heap.size + 1 + 1 ≠ w.heap.size; omega)).trans RZ4.out), (below_setCell BT4.out (Nat.le_refl _) _)⟩ ?_
  rintro u5 ⟨hA, hB, hZ, hb⟩
  have RA5 := Lib.hid hA
  have RB5 := Lib.hid hB
  have RZ5 := Lib.hid hZ
  have BT5 := Lib.hid hb
  clear hA hB hZ hb RA4 RB4 RZ4 BT4
  obtain ⟨ds, hds⟩ : ∃ d, d = stC (⟨7, 0, r0, r1, w0, w1, p0, p1, dl, gn, 0, tick⟩ : St) := ⟨_, rfl⟩
  have HD := Lib.hid hds
  have HDZ : Hid (ds.size = 12) := Lib.hid (by rw [hds]; rfl)
  have HD1 : Hid (ds.all (·.oneCell') = true) := Lib.hid (by rw [hds]; exact stC_one _)
  have RF : Hid (Rw u5 w.heap.size ds 38) := Lib.hid (by rw [hds]; exact RA5.out)
  clear hds
  have ZF := Lib.hid (RZ5.out.set ds)
  have BF := Lib.hid (below_setRow BT5.out (by omega) (b := w.heap.size + 1 + 1) ds)
  go_wp2_with (first | (refine wpList_load_row rfl 38 (.tmp 2) rfl w.heap.size rfl 38 ds (0, 0) _ RF.out Try.underlying38 rfl (by rw [HDZ.out]; exact i12) ?_) | (refine wpList_plain rfl fun _ hK => wp_store_row 38 (.tmp 4) (.tmp 23) rfl (w.heap.size + 1 + 1) ds rfl rfl 38 _ RZ5.out (by rw [HDZ.out]; exact i12) (by rw [HDZ.out]; rfl) HD1.out (hK _ _ ?_); clear hK))
  (try simp only [Exit.inBlock, Exit.then])
  refine bodyPost_ret (results_cell_tmp rfl _ _ (w.heap.size + 1 + 1) 38 ds (0, 0) _ rfl ZF.out Try.underlying38 rfl (by rw [HDZ.out]; exact i12)) rfl ?_
  exact ⟨by rw [HE.out, HD.out]; rfl, BF.out⟩
theorem applied_any (s : St) (r : Rc) (w : World) (h : s.ac = 0 ∨ s.ac = 1) : Calls Try.prog 74 #[stV s, recV r] w (StepR (ap8 s r) w) := h.elim (applied_0 s r w) (applied_1 s r w)
end Go.Proofs.Ytchaeidmjoelnaa
