/-
  What package fold's alone answers, and the changes that need no test.
-/
import Derived.Test.YtchaeidmjoelnaaFoRightB
namespace Go.Proofs.Ytchaeidmjoelnaa
open Go.RowKit

def dep1 (s : St) (r : Rc) : St × Bool :=
  if r.rev < 1 ∨ 1073741824 < r.rev ∨ r.cnt < 1 ∨ 32 < r.cnt ∨ r.delay < 0 ∨ 65536 < r.delay ∨ r.rev = raS s ∨ 1048574 < s.gn then (s, false)
  else ({ setO s r.rev r.cnt false with dl := r.delay, ph := 1 }, true)
def wa3 (s : St) : St × Bool := ({ s with ph := 2 }, true)
def co6 (s : St) : St × Bool := ({ s with sw := 2 }, true)
def ca7 (s : St) : St × Bool := ({ s with sw := 0, gn := s.gn - 1 }, true)
def gb9 (s : St) (r : Rc) : St × Bool := ({ s with ph := if r.pass then 5 else 6 }, true)
def sc10 (s : St) : St × Bool := (blankS s, true)
def ab2 (s : St) : St × Bool := if s.sw ≠ 0 then (s, false) else if s.ph = 4 ∨ s.ph = 5 then ({ s with ph := 6 }, true) else (blankS s, true)
def ga4 (s : St) (r : Rc) : St × Bool := if r.pass = false then (blankS s, true) else ({ setP s true with ph := 3 }, true)
def pr5 (s : St) (r : Rc) : St × Bool := if s.sw ≠ 0 ∨ s.gn = 1048576 ∨ r.gen ≠ s.gn + 1 then (s, false) else ({ s with gn := r.gen, sw := 1 }, true)
def ap8 (s : St) (r : Rc) : St × Bool := if inR r.tick 0 1073741824 = false then (s, false) else ({ s with ac := 1 - s.ac, sw := 0, fl := r.tick, ph := if s.ph = 3 then 4 else 7 }, true)
set_option maxRecDepth 100000 in
set_option maxHeartbeats 4000000 in
theorem alone_0 (s : St) (w : World) (hac : s.ac = 0) : Calls Try.prog 82 #[stV s] w (GotS (blankS s) w) := by
  have HOT : Hid (∀ W, Calls Try.prog 64 #[stV s] W fun e w' => e = .returned (.int .i64 1) ∧ Below W.heap.size W w') := Lib.hid (fun W => other_0 s W hac)
  obtain ⟨ph, ac, r0, r1, w0, w1, p0, p1, dl, gn, sw, fl⟩ := s
  obtain rfl : ac = 0 := hac
  unfold stV at HOT ⊢
  obtain ⟨cs, hcs⟩ : ∃ c, c = stC (⟨ph, 0, r0, r1, w0, w1, p0, p1, dl, gn, sw, fl⟩ : St) := ⟨_, rfl⟩
  rw [← hcs] at HOT ⊢
  have HC := Lib.hid hcs
  have HZC : Hid (cs.size = 12) := Lib.hid (by rw [hcs]; rfl)
  clear hcs
  go_enter Try.func82, Try.ntmps82
  go_upto_region 1 with (fail)
  refine name_w (fun W => Rw W w.heap.size cs 38 ∧ Rw W (w.heap.size + 1) zeroSC 38 ∧ Below w.heap.size w W) ⟨(Rw.new _ _ _).alloc _, heap_alloc2_new w _ _, ((Below.refl _ _).alloc (Nat.le_refl _) _).alloc (by simp) _⟩ ?_
  rintro u0 ⟨hR, hZ, hb⟩
  have RA0 := Lib.hid hR
  have RZ0 := Lib.hid hZ
  have BT0 := Lib.hid hb
  clear hR hZ hb
  go_wp2_with (refine wpList_load_row rfl 38 (.tmp 1) rfl w.heap.size rfl 38 cs (0, 0) _ RA0.out Try.underlying38 rfl (by rw [HZC.out]; exact i12) ?_)
  refine (HOT.out _).mono ?_
  rintro e u1 ⟨rfl, hb⟩
  have RA1 : Hid (Rw u1 w.heap.size (stC (⟨ph, 0, r0, r1, w0, w1, p0, p1, dl, gn, sw, fl⟩ : St)) 38) := Lib.hid (by rw [← HC.out]; exact RA0.out.under hb RA0.out.lt)
  have RZ1 := Lib.hid (RZ0.out.under hb RZ0.out.lt)
  have BT1 := Lib.hid (BT0.out.trans (hb.mono BT0.out.size))
  clear hb RA0 RZ0 BT0 HOT
  have c3 : u1.cell? ⟨w.heap.size, 3, none⟩ = some (.int .i64 r1) := by rw [RA1.out.cell 3]; rfl
  have c5 : u1.cell? ⟨w.heap.size, 5, none⟩ = some (.int .i64 w1) := by rw [RA1.out.cell 5]; rfl
  have c7 : u1.cell? ⟨w.heap.size, 7, none⟩ = some (.bool p1) := by rw [RA1.out.cell 7]; rfl
  have f3 := RA1.out.fr 3
  have f5 := RA1.out.fr 5
  have f7 := RA1.out.fr 7
  go_upto_region 3 with (fail)
  clear c3 c5 c7 f3 f5 f7
  refine name_w (fun W => Rw W w.heap.size (stC (⟨ph, 0, r0, 0, w0, 0, p0, false, dl, gn, sw, fl⟩ : St)) 38 ∧ Rw W (w.heap.size + 1) zeroSC 38 ∧ Below w.heap.size w W) ⟨heap_setCell_same _ _ 7 _ 38 (.bool false) (heap_setCell_same _ _ 5 _ 38 (.int .i64 0) (heap_setCell_same _ _ 3 _ 38 (.int .i64 0) RA1.out)), (Below.heap_setCell _ _ _ _ (by show w.heap.size + 1 ≠ w.heap.size; omega)).trans ((Below.heap_setCell _ _ _ _ (by show w.heap.size + 1 ≠ w.heap.size; omega)).trans ((Below.heap_setCell _ _ _ _ (by show w.heap.size + 1 ≠ w.heap.size; omega)).trans RZ1.out)), below_setCell (below_setCell (below_setCell BT1.out (Nat.le_refl _) _) (Nat.le_refl _) _) (Nat.le_refl _) _⟩ ?_
  rintro u2 ⟨hR, hZ, hb⟩
  have RA2 := Lib.hid hR
  have RZ2 := Lib.hid hZ
  have BT2 := Lib.hid hb
  clear hR hZ hb RA1 RZ1 BT1
  have c0 : u2.cell? ⟨w.heap.size, 0, none⟩ = some (.int .i64 ph) := by rw [RA2.out.cell 0]; rfl
  have f0 := RA2.out.fr 0
  go_upto_region 4 with (fail)
  clear c0 f0
  refine name_w (fun W => Rw W w.heap.size (stC (⟨0, 0, r0, 0, w0, 0, p0, false, dl, gn, sw, fl⟩ : St)) 38 ∧ Rw W (w.heap.size + 1) zeroSC 38 ∧ Below w.heap.size w W) ⟨heap_setCell_same _ _ 0 _ 38 (.int .i64 0) RA2.out, (Below.heap_setCell _ _ _ _ (by show w.heap.size + 1 ≠ w.heap.size; omega)).trans RZ2.out, below_setCell BT2.out (Nat.le_refl _) _⟩ ?_
  rintro u3 ⟨hR, hZ, hb⟩
  obtain ⟨ds, hds⟩ : ∃ ds, ds = stC (⟨0, 0, r0, 0, w0, 0, p0, false, dl, gn, sw, fl⟩ : St) := ⟨_, rfl⟩
  rw [← hds] at hR
  have RF := Lib.hid hR
  have RZ := Lib.hid hZ
  have HD := Lib.hid hds
  have HDZ : Hid (ds.size = 12) := Lib.hid (by rw [hds]; rfl)
  have HD1 : Hid (ds.all (·.oneCell') = true) := Lib.hid (by rw [hds]; exact stC_one _)
  have ZF := Lib.hid (hZ.set ds)
  have BF := Lib.hid (below_setRow hb (by omega) (b := w.heap.size + 1) ds)
  clear hR hZ hb RA2 RZ2 BT2 hds
  go_wp2_with (first | (refine wpList_load_row rfl 38 (.tmp 1) rfl w.heap.size rfl 38 ds (0, 0) _ RF.out Try.underlying38 rfl (by rw [HDZ.out]; exact i12) ?_) | (refine wpList_plain rfl fun _ hK => wp_store_row 38 (.tmp 2) (.tmp 16) rfl (w.heap.size + 1) ds rfl rfl 38 _ RZ.out (by rw [HDZ.out]; exact i12) (by rw [HDZ.out]; rfl) HD1.out (hK _ _ ?_); clear hK))
  (try simp only [Exit.inBlock, Exit.then])
  refine bodyPost_ret (results_cell_row rfl _ _ (w.heap.size + 1) 38 ds (0, 0) _ rfl ZF.out Try.underlying38 rfl (by rw [HDZ.out]; exact i12)) rfl ?_
  exact ⟨by rw [HD.out]; rfl, BF.out⟩
set_option maxRecDepth 100000 in
set_option maxHeartbeats 4000000 in
theorem alone_1 (s : St) (w : World) (hac : s.ac = 1) : Calls Try.prog 82 #[stV s] w (GotS (blankS s) w) := by
  have HOT : Hid (∀ W, Calls Try.prog 64 #[stV s] W fun e w' => e = .returned (.int .i64 0) ∧ Below W.heap.size W w') := Lib.hid (fun W => other_1 s W hac)
  obtain ⟨ph, ac, r0, r1, w0, w1, p0, p1, dl, gn, sw, fl⟩ := s
  obtain rfl : ac = 1 := hac
  unfold stV at HOT ⊢
  obtain ⟨cs, hcs⟩ : ∃ c, c = stC (⟨ph, 1, r0, r1, w0, w1, p0, p1, dl, gn, sw, fl⟩ : St) := ⟨_, rfl⟩
  rw [← hcs] at HOT ⊢
  have HC := Lib.hid hcs
  have HZC : Hid (cs.size = 12) := Lib.hid (by rw [hcs]; rfl)
  clear hcs
  go_enter Try.func82, Try.ntmps82
  go_upto_region 1 with (fail)
  refine name_w (fun W => Rw W w.heap.size cs 38 ∧ Rw W (w.heap.size + 1) zeroSC 38 ∧ Below w.heap.size w W) ⟨(Rw.new _ _ _).alloc _, heap_alloc2_new w _ _, ((Below.refl _ _).alloc (Nat.le_refl _) _).alloc (by simp) _⟩ ?_
  rintro u0 ⟨hR, hZ, hb⟩
  have RA0 := Lib.hid hR
  have RZ0 := Lib.hid hZ
  have BT0 := Lib.hid hb
  clear hR hZ hb
  go_wp2_with (refine wpList_load_row rfl 38 (.tmp 1) rfl w.heap.size rfl 38 cs (0, 0) _ RA0.out Try.underlying38 rfl (by rw [HZC.out]; exact i12) ?_)
  refine (HOT.out _).mono ?_
  rintro e u1 ⟨rfl, hb⟩
  have RA1 : Hid (Rw u1 w.heap.size (stC (⟨ph, 1, r0, r1, w0, w1, p0, p1, dl, gn, sw, fl⟩ : St)) 38) := Lib.hid (by rw [← HC.out]; exact RA0.out.under hb RA0.out.lt)
  have RZ1 := Lib.hid (RZ0.out.under hb RZ0.out.lt)
  have BT1 := Lib.hid (BT0.out.trans (hb.mono BT0.out.size))
  clear hb RA0 RZ0 BT0 HOT
  have c2 : u1.cell? ⟨w.heap.size, 2, none⟩ = some (.int .i64 r0) := by rw [RA1.out.cell 2]; rfl
  have c4 : u1.cell? ⟨w.heap.size, 4, none⟩ = some (.int .i64 w0) := by rw [RA1.out.cell 4]; rfl
  have c6 : u1.cell? ⟨w.heap.size, 6, none⟩ = some (.bool p0) := by rw [RA1.out.cell 6]; rfl
  have f2 := RA1.out.fr 2
  have f4 := RA1.out.fr 4
  have f6 := RA1.out.fr 6
  go_upto_region 3 with (fail)
  clear c2 c4 c6 f2 f4 f6
  refine name_w (fun W => Rw W w.heap.size (stC (⟨ph, 1, 0, r1, 0, w1, false, p1, dl, gn, sw, fl⟩ : St)) 38 ∧ Rw W (w.heap.size + 1) zeroSC 38 ∧ Below w.heap.size w W) ⟨heap_setCell_same _ _ 6 _ 38 (.bool false) (heap_setCell_same _ _ 4 _ 38 (.int .i64 0) (heap_setCell_same _ _ 2 _ 38 (.int .i64 0) RA1.out)), (Below.heap_setCell _ _ _ _ (by show w.heap.size + 1 ≠ w.heap.size; omega)).trans ((Below.heap_setCell _ _ _ _ (by show w.heap.size + 1 ≠ w.heap.size; omega)).trans ((Below.heap_setCell _ _ _ _ (by show w.heap.size + 1 ≠ w.heap.size; omega)).trans RZ1.out)), below_setCell (below_setCell (below_setCell BT1.out (Nat.le_refl _) _) (Nat.le_refl _) _) (Nat.le_refl _) _⟩ ?_
  rintro u2 ⟨hR, hZ, hb⟩
  have RA2 := Lib.hid hR
  have RZ2 := Lib.hid hZ
  have BT2 := Lib.hid hb
  clear hR hZ hb RA1 RZ1 BT1
  have c0 : u2.cell? ⟨w.heap.size, 0, none⟩ = some (.int .i64 ph) := by rw [RA2.out.cell 0]; rfl
  have f0 := RA2.out.fr 0
  go_upto_region 4 with (fail)
  clear c0 f0
  refine name_w (fun W => Rw W w.heap.size (stC (⟨0, 1, 0, r1, 0, w1, false, p1, dl, gn, sw, fl⟩ : St)) 38 ∧ Rw W (w.heap.size + 1) zeroSC 38 ∧ Below w.heap.size w W) ⟨heap_setCell_same _ _ 0 _ 38 (.int .i64 0) RA2.out, (Below.heap_setCell _ _ _ _ (by show w.heap.size + 1 ≠ w.heap.size; omega)).trans RZ2.out, below_setCell BT2.out (Nat.le_refl _) _⟩ ?_
  rintro u3 ⟨hR, hZ, hb⟩
  obtain ⟨ds, hds⟩ : ∃ ds, ds = stC (⟨0, 1, 0, r1, 0, w1, false, p1, dl, gn, sw, fl⟩ : St) := ⟨_, rfl⟩
  rw [← hds] at hR
  have RF := Lib.hid hR
  have RZ := Lib.hid hZ
  have HD := Lib.hid hds
  have HDZ : Hid (ds.size = 12) := Lib.hid (by rw [hds]; rfl)
  have HD1 : Hid (ds.all (·.oneCell') = true) := Lib.hid (by rw [hds]; exact stC_one _)
  have ZF := Lib.hid (hZ.set ds)
  have BF := Lib.hid (below_setRow hb (by omega) (b := w.heap.size + 1) ds)
  clear hR hZ hb RA2 RZ2 BT2 hds
  go_wp2_with (first | (refine wpList_load_row rfl 38 (.tmp 1) rfl w.heap.size rfl 38 ds (0, 0) _ RF.out Try.underlying38 rfl (by rw [HDZ.out]; exact i12) ?_) | (refine wpList_plain rfl fun _ hK => wp_store_row 38 (.tmp 2) (.tmp 16) rfl (w.heap.size + 1) ds rfl rfl 38 _ RZ.out (by rw [HDZ.out]; exact i12) (by rw [HDZ.out]; rfl) HD1.out (hK _ _ ?_); clear hK))
  (try simp only [Exit.inBlock, Exit.then])
  refine bodyPost_ret (results_cell_row rfl _ _ (w.heap.size + 1) 38 ds (0, 0) _ rfl ZF.out Try.underlying38 rfl (by rw [HDZ.out]; exact i12)) rfl ?_
  exact ⟨by rw [HD.out]; rfl, BF.out⟩
theorem alone_any (s : St) (w : World) (h : s.ac = 0 ∨ s.ac = 1) : Calls Try.prog 82 #[stV s] w (GotS (blankS s) w) := h.elim (alone_0 s w) (alone_1 s w)
set_option maxRecDepth 100000 in
set_option maxHeartbeats 4000000 in
theorem warm_any (s : St) (r : Rc) (w : World) : Calls Try.prog 68 #[stV s, recV r] w (StepR (wa3 s) w) := by
  obtain ⟨ph, ac, r0, r1, w0, w1, p0, p1, dl, gn, sw, fl⟩ := s
  obtain ⟨kind, rev, cnt, delay, gen, tick, pass, st⟩ := r
  unfold stV 
  unfold recV
  obtain ⟨cs, hcs⟩ : ∃ c, c = stC (⟨ph, ac, r0, r1, w0, w1, p0, p1, dl, gn, sw, fl⟩ : St) := ⟨_, rfl⟩
  obtain ⟨rs, hrs⟩ : ∃ c, c = recC (⟨kind, rev, cnt, delay, gen, tick, pass, st⟩ : Rc) := ⟨_, rfl⟩
  rw [← hcs] 
  rw [← hrs]
  have HC := Lib.hid hcs
  have HRR := Lib.hid hrs
  have HZC : Hid (cs.size = 12) := Lib.hid (by rw [hcs]; rfl)
  have H1C : Hid (cs.all (·.oneCell') = true) := Lib.hid (by rw [hcs]; exact stC_one _)
  clear hcs hrs
  go_enter Try.func68, Try.ntmps68
  go_upto_region 1 with (fail)
  refine name_w (fun W => Rw W w.heap.size cs 38 ∧ Rw W (w.heap.size + 1) rs 72 ∧ Rw W (w.heap.size + 1 + 1) zeroSC 38 ∧ Below w.heap.size w W) ⟨((Rw.new _ _ _).alloc _).alloc _, Rw.alloc (heap_alloc2_new w _ _) _, ?_, (((Below.refl _ _).alloc (Nat.le_refl _) _).alloc (by simp) _).alloc (by simp; omega) _⟩ ?_
  · have h1 := Rw.new ((w.alloc (.cells cs 38)).alloc (.cells rs 72)) zeroSC 38
    rw [size_alloc, size_alloc] at h1
    exact h1
  rintro u0 ⟨hA, hB, hZ, hb⟩
  have RA0 := Lib.hid hA
  have RB0 := Lib.hid hB
  have RZ0 := Lib.hid hZ
  have BT0 := Lib.hid hb
  clear hA hB hZ hb
  have s0_0 : u0.cell? ⟨w.heap.size, 0, none⟩ = some (.int .i64 ph) := by rw [RA0.out.cell 0, HC.out]; rfl
  have fr0_0 := RA0.out.fr 0
  go_upto_region 2 with (fail)
  clear s0_0 fr0_0
  refine name_w (fun W => Rw W w.heap.size (stC (⟨2, ac, r0, r1, w0, w1, p0, p1, dl, gn, sw, fl⟩ : St)) 38 ∧ Rw W (w.heap.size + 1) rs 72 ∧ Rw W (w.heap.size + 1 + 1) zeroSC 38 ∧ Below w.heap.size w W) ⟨(heap_setCell_same _ _ 0 _ 38 (.int .i64 2) (show Rw u0 w.heap.size (stC (⟨ph, ac, r0, r1, w0, w1, p0, p1, dl, gn, sw, fl⟩ : St)) 38 by rw [← HC.out]; exact RA0.out)), ((Below.heap_setCell _ _ _ _ (by show w.heap.size + 1 ≠ w.heap.size; omega)).trans RB0.out), ((Below.heap_setCell _ _ _ _ (by show w.heap.size + 1 + 1 ≠ w.heap.size; omega)).trans RZ0.out), (below_setCell BT0.out (Nat.le_refl _) _)⟩ ?_
  rintro u1 ⟨hA, hB, hZ, hb⟩
  have RA1 := Lib.hid hA
  have RB1 := Lib.hid hB
  have RZ1 := Lib.hid hZ
  have BT1 := Lib.hid hb
  clear hA hB hZ hb RA0 RB0 RZ0 BT0
  obtain ⟨ds, hds⟩ : ∃ d, d = stC (⟨2, ac, r0, r1, w0, w1, p0, p1, dl, gn, sw, fl⟩ : St) := ⟨_, rfl⟩
  have HD := Lib.hid hds
  have HDZ : Hid (ds.size = 12) := Lib.hid (by rw [hds]; rfl)
  have HD1 : Hid (ds.all (·.oneCell') = true) := Lib.hid (by rw [hds]; exact stC_one _)
  have RF : Hid (Rw u1 w.heap.size ds 38) := Lib.hid (by rw [hds]; exact RA1.out)
  clear hds
  have HE : Hid (wa3 (⟨ph, ac, r0, r1, w0, w1, p0, p1, dl, gn, sw, fl⟩ : St) = ((⟨2, ac, r0, r1, w0, w1, p0, p1, dl, gn, sw, fl⟩ : St), true)) := Lib.hid (rfl)
  have ZF := Lib.hid (RZ1.out.set ds)
  have BF := Lib.hid (below_setRow BT1.out (by omega) (b := w.heap.size + 1 + 1) ds)
  go_wp2_with (first | (refine wpList_load_row rfl 38 (.tmp 2) rfl w.heap.size rfl 38 ds (0, 0) _ RF.out Try.underlying38 rfl (by rw [HDZ.out]; exact i12) ?_) | (refine wpList_plain rfl fun _ hK => wp_store_row 38 (.tmp 4) (.tmp 7) rfl (w.heap.size + 1 + 1) ds rfl rfl 38 _ RZ1.out (by rw [HDZ.out]; exact i12) (by rw [HDZ.out]; rfl) HD1.out (hK _ _ ?_); clear hK))
  (try simp only [Exit.inBlock, Exit.then])
  refine bodyPost_ret (results_cell_tmp rfl _ _ (w.heap.size + 1 + 1) 38 ds (0, 0) _ rfl ZF.out Try.underlying38 rfl (by rw [HDZ.out]; exact i12)) rfl ?_
  exact ⟨by rw [HE.out, HD.out]; rfl, BF.out⟩
set_option maxRecDepth 100000 in
set_option maxHeartbeats 4000000 in
theorem commit_any (s : St) (r : Rc) (w : World) : Calls Try.prog 72 #[stV s, recV r] w (StepR (co6 s) w) := by
  obtain ⟨ph, ac, r0, r1, w0, w1, p0, p1, dl, gn, sw, fl⟩ := s
  obtain ⟨kind, rev, cnt, delay, gen, tick, pass, st⟩ := r
  unfold stV 
  unfold recV
  obtain ⟨cs, hcs⟩ : ∃ c, c = stC (⟨ph, ac, r0, r1, w0, w1, p0, p1, dl, gn, sw, fl⟩ : St) := ⟨_, rfl⟩
  obtain ⟨rs, hrs⟩ : ∃ c, c = recC (⟨kind, rev, cnt, delay, gen, tick, pass, st⟩ : Rc) := ⟨_, rfl⟩
  rw [← hcs] 
  rw [← hrs]
  have HC := Lib.hid hcs
  have HRR := Lib.hid hrs
  have HZC : Hid (cs.size = 12) := Lib.hid (by rw [hcs]; rfl)
  have H1C : Hid (cs.all (·.oneCell') = true) := Lib.hid (by rw [hcs]; exact stC_one _)
  clear hcs hrs
  go_enter Try.func72, Try.ntmps72
  go_upto_region 1 with (fail)
  refine name_w (fun W => Rw W w.heap.size cs 38 ∧ Rw W (w.heap.size + 1) rs 72 ∧ Rw W (w.heap.size + 1 + 1) zeroSC 38 ∧ Below w.heap.size w W) ⟨((Rw.new _ _ _).alloc _).alloc _, Rw.alloc (heap_alloc2_new w _ _) _, ?_, (((Below.refl _ _).alloc (Nat.le_refl _) _).alloc (by simp) _).alloc (by simp; omega) _⟩ ?_
  · have h1 := Rw.new ((w.alloc (.cells cs 38)).alloc (.cells rs 72)) zeroSC 38
    rw [size_alloc, size_alloc] at h1
    exact h1
  rintro u0 ⟨hA, hB, hZ, hb⟩
  have RA0 := Lib.hid hA
  have RB0 := Lib.hid hB
  have RZ0 := Lib.hid hZ
  have BT0 := Lib.hid hb
  clear hA hB hZ hb
  have s10_0 : u0.cell? ⟨w.heap.size, 10, none⟩ = some (.int .i64 sw) := by rw [RA0.out.cell 10, HC.out]; rfl
  have fr10_0 := RA0.out.fr 10
  go_upto_region 2 with (fail)
  clear s10_0 fr10_0
  refine name_w (fun W => Rw W w.heap.size (stC (⟨ph, ac, r0, r1, w0, w1, p0, p1, dl, gn, 2, fl⟩ : St)) 38 ∧ Rw W (w.heap.size + 1) rs 72 ∧ Rw W (w.heap.size + 1 + 1) zeroSC 38 ∧ Below w.heap.size w W) ⟨(heap_setCell_same _ _ 10 _ 38 (.int .i64 2) (show Rw u0 w.heap.size (stC (⟨ph, ac, r0, r1, w0, w1, p0, p1, dl, gn, sw, fl⟩ : St)) 38 by rw [← HC.out]; exact RA0.out)), ((Below.heap_setCell _ _ _ _ (by show w.heap.size + 1 ≠ w.heap.size; omega)).trans RB0.out), ((Below.heap_setCell _ _ _ _ (by show w.heap.size + 1 + 1 ≠ w.heap.size; omega)).trans RZ0.out), (below_setCell BT0.out (Nat.le_refl _) _)⟩ ?_
  rintro u1 ⟨hA, hB, hZ, hb⟩
  have RA1 := Lib.hid hA
  have RB1 := Lib.hid hB
  have RZ1 := Lib.hid hZ
  have BT1 := Lib.hid hb
  clear hA hB hZ hb RA0 RB0 RZ0 BT0
  obtain ⟨ds, hds⟩ : ∃ d, d = stC (⟨ph, ac, r0, r1, w0, w1, p0, p1, dl, gn, 2, fl⟩ : St) := ⟨_, rfl⟩
  have HD := Lib.hid hds
  have HDZ : Hid (ds.size = 12) := Lib.hid (by rw [hds]; rfl)
  have HD1 : Hid (ds.all (·.oneCell') = true) := Lib.hid (by rw [hds]; exact stC_one _)
  have RF : Hid (Rw u1 w.heap.size ds 38) := Lib.hid (by rw [hds]; exact RA1.out)
  clear hds
  have HE : Hid (co6 (⟨ph, ac, r0, r1, w0, w1, p0, p1, dl, gn, sw, fl⟩ : St) = ((⟨ph, ac, r0, r1, w0, w1, p0, p1, dl, gn, 2, fl⟩ : St), true)) := Lib.hid (rfl)
  have ZF := Lib.hid (RZ1.out.set ds)
  have BF := Lib.hid (below_setRow BT1.out (by omega) (b := w.heap.size + 1 + 1) ds)
  go_wp2_with (first | (refine wpList_load_row rfl 38 (.tmp 2) rfl w.heap.size rfl 38 ds (0, 0) _ RF.out Try.underlying38 rfl (by rw [HDZ.out]; exact i12) ?_) | (refine wpList_plain rfl fun _ hK => wp_store_row 38 (.tmp 4) (.tmp 7) rfl (w.heap.size + 1 + 1) ds rfl rfl 38 _ RZ1.out (by rw [HDZ.out]; exact i12) (by rw [HDZ.out]; rfl) HD1.out (hK _ _ ?_); clear hK))
  (try simp only [Exit.inBlock, Exit.then])
  refine bodyPost_ret (results_cell_tmp rfl _ _ (w.heap.size + 1 + 1) 38 ds (0, 0) _ rfl ZF.out Try.underlying38 rfl (by rw [HDZ.out]; exact i12)) rfl ?_
  exact ⟨by rw [HE.out, HD.out]; rfl, BF.out⟩
set_option maxRecDepth 100000 in
set_option maxHeartbeats 4000000 in
theorem cancel_any (s : St) (r : Rc) (w : World) (h0 : 0 ≤ s.gn) (h1 : s.gn ≤ 1048576) : Calls Try.prog 73 #[stV s, recV r] w (StepR (ca7 s) w) := by
  obtain ⟨ph, ac, r0, r1, w0, w1, p0, p1, dl, gn, sw, fl⟩ := s
  obtain ⟨kind, rev, cnt, delay, gen, tick, pass, st⟩ := r
  simp only at h0 h1
  unfold stV 
  unfold recV
  obtain ⟨cs, hcs⟩ : ∃ c, c = stC (⟨ph, ac, r0, r1, w0, w1, p0, p1, dl, gn, sw, fl⟩ : St) := ⟨_, rfl⟩
  obtain ⟨rs, hrs⟩ : ∃ c, c = recC (⟨kind, rev, cnt, delay, gen, tick, pass, st⟩ : Rc) := ⟨_, rfl⟩
  rw [← hcs] 
  rw [← hrs]
  have HC := Lib.hid hcs
  have HRR := Lib.hid hrs
  have HZC : Hid (cs.size = 12) := Lib.hid (by rw [hcs]; rfl)
  have H1C : Hid (cs.all (·.oneCell') = true) := Lib.hid (by rw [hcs]; exact stC_one _)
  clear hcs hrs
  go_enter Try.func73, Try.ntmps73
  go_upto_region 1 with (fail)
  refine name_w (fun W => Rw W w.heap.size cs 38 ∧ Rw W (w.heap.size + 1) rs 72 ∧ Rw W (w.heap.size + 1 + 1) zeroSC 38 ∧ Below w.heap.size w W) ⟨((Rw.new _ _ _).alloc _).alloc _, Rw.alloc (heap_alloc2_new w _ _) _, ?_, (((Below.refl _ _).alloc (Nat.le_refl _) _).alloc (by simp) _).alloc (by simp; omega) _⟩ ?_
  · have h1 := Rw.new ((w.alloc (.cells cs 38)).alloc (.cells rs 72)) zeroSC 38
    rw [size_alloc, size_alloc] at h1
    exact h1
  rintro u0 ⟨hA, hB, hZ, hb⟩
  have RA0 := Lib.hid hA
  have RB0 := Lib.hid hB
  have RZ0 := Lib.hid hZ
  have BT0 := Lib.hid hb
  clear hA hB hZ hb
  have eg : IntKind.i64.wrap (gn - 1) = gn - 1 := IntWalk.i64_in _ (by omega)
  clear h0 h1
  have s9_0 : u0.cell? ⟨w.heap.size, 9, none⟩ = some (.int .i64 gn) := by rw [RA0.out.cell 9, HC.out]; rfl
  have fr9_0 := RA0.out.fr 9
  go_upto_region 2 with (fail)
  clear s9_0 fr9_0 eg
  refine name_w (fun W => Rw W w.heap.size (stC (⟨ph, ac, r0, r1, w0, w1, p0, p1, dl, (gn - 1), sw, fl⟩ : St)) 38 ∧ Rw W (w.heap.size + 1) rs 72 ∧ Rw W (w.heap.size + 1 + 1) zeroSC 38 ∧ Below w.heap.size w W) ⟨(heap_setCell_same _ _ 9 _ 38 (.int .i64 (gn - 1)) (show Rw u0 w.heap.size (stC (⟨ph, ac, r0, r1, w0, w1, p0, p1, dl, gn, sw, fl⟩ : St)) 38 by rw [← HC.out]; exact RA0.out)), ((Below.heap_setCell _ _ _ _ (by show w.heap.size + 1 ≠ w.heap.size; omega)).trans RB0.out), ((Below.heap_setCell _ _ _ _ (by show w.heap.size + 1 + 1 ≠ w.heap.size; omega)).trans RZ0.out), (below_setCell BT0.out (Nat.le_refl _) _)⟩ ?_
  rintro u1 ⟨hA, hB, hZ, hb⟩
  have RA1 := Lib.hid hA
  have RB1 := Lib.hid hB
  have RZ1 := Lib.hid hZ
  have BT1 := Lib.hid hb
  clear hA hB hZ hb RA0 RB0 RZ0 BT0
  have s10_1 : u1.cell? ⟨w.heap.size, 10, none⟩ = some (.int .i64 sw) := by rw [RA1.out.cell 10]; rfl
  have fr10_1 := RA1.out.fr 10
  go_upto_region 3 with (fail)
  clear s10_1 fr10_1
  refine name_w (fun W => Rw W w.heap.size (stC (⟨ph, ac, r0, r1, w0, w1, p0, p1, dl, (gn - 1), 0, fl⟩ : St)) 38 ∧ Rw W (w.heap.size + 1) rs 72 ∧ Rw W (w.heap.size + 1 + 1) zeroSC 38 ∧ Below w.heap.size w W) ⟨(heap_setCell_same _ _ 10 _ 38 (.int .i64 0) RA1.out), ((Below.heap_setCell _ _ _ _ (by show w.heap.size + 1 ≠ w.heap.size; omega)).trans RB1.out), ((Below.heap_setCell _ _ _ _ (by show w.heap.size + 1 + 1 ≠ w.heap.size; omega)).trans RZ1.out), (below_setCell BT1.out (Nat.le_refl _) _)⟩ ?_
  rintro u2 ⟨hA, hB, hZ, hb⟩
  have RA2 := Lib.hid hA
  have RB2 := Lib.hid hB
  have RZ2 := Lib.hid hZ
  have BT2 := Lib.hid hb
  clear hA hB hZ hb RA1 RB1 RZ1 BT1
  obtain ⟨ds, hds⟩ : ∃ d, d = stC (⟨ph, ac, r0, r1, w0, w1, p0, p1, dl, (gn - 1), 0, fl⟩ : St) := ⟨_, rfl⟩
  have HD := Lib.hid hds
  have HDZ : Hid (ds.size = 12) := Lib.hid (by rw [hds]; rfl)
  have HD1 : Hid (ds.all (·.oneCell') = true) := Lib.hid (by rw [hds]; exact stC_one _)
  have RF : Hid (Rw u2 w.heap.size ds 38) := Lib.hid (by rw [hds]; exact RA2.out)
  clear hds
  have HE : Hid (ca7 (⟨ph, ac, r0, r1, w0, w1, p0, p1, dl, gn, sw, fl⟩ : St) = ((⟨ph, ac, r0, r1, w0, w1, p0, p1, dl, (gn - 1), 0, fl⟩ : St), true)) := Lib.hid (rfl)
  have ZF := Lib.hid (RZ2.out.set ds)
  have BF := Lib.hid (below_setRow BT2.out (by omega) (b := w.heap.size + 1 + 1) ds)
  go_wp2_with (first | (refine wpList_load_row rfl 38 (.tmp 2) rfl w.heap.size rfl 38 ds (0, 0) _ RF.out Try.underlying38 rfl (by rw [HDZ.out]; exact i12) ?_) | (refine wpList_plain rfl fun _ hK => wp_store_row 38 (.tmp 4) (.tmp 11) rfl (w.heap.size + 1 + 1) ds rfl rfl 38 _ RZ2.out (by rw [HDZ.out]; exact i12) (by rw [HDZ.out]; rfl) HD1.out (hK _ _ ?_); clear hK))
  (try simp only [Exit.inBlock, Exit.then])
  refine bodyPost_ret (results_cell_tmp rfl _ _ (w.heap.size + 1 + 1) 38 ds (0, 0) _ rfl ZF.out Try.underlying38 rfl (by rw [HDZ.out]; exact i12)) rfl ?_
  exact ⟨by rw [HE.out, HD.out]; rfl, BF.out⟩
set_option maxRecDepth 100000 in
set_option maxHeartbeats 4000000 in
theorem gate_behind_any (s : St) (r : Rc) (w : World) : Calls Try.prog 75 #[stV s, recV r] w (StepR (gb9 s r) w) := by
  obtain ⟨ph, ac, r0, r1, w0, w1, p0, p1, dl, gn, sw, fl⟩ := s
  obtain ⟨kind, rev, cnt, delay, gen, tick, pass, st⟩ := r
  unfold stV 
  unfold recV
  obtain ⟨cs, hcs⟩ : ∃ c, c = stC (⟨ph, ac, r0, r1, w0, w1, p0, p1, dl, gn, sw, fl⟩ : St) := ⟨_, rfl⟩
  obtain ⟨rs, hrs⟩ : ∃ c, c = recC (⟨kind, rev, cnt, delay, gen, tick, pass, st⟩ : Rc) := ⟨_, rfl⟩
  rw [← hcs] 
  rw [← hrs]
  have HC := Lib.hid hcs
  have HRR := Lib.hid hrs
  have HZC : Hid (cs.size = 12) := Lib.hid (by rw [hcs]; rfl)
  have H1C : Hid (cs.all (·.oneCell') = true) := Lib.hid (by rw [hcs]; exact stC_one _)
  clear hcs hrs
  go_enter Try.func75, Try.ntmps75
  go_upto_region 1 with (fail)
  refine name_w (fun W => Rw W w.heap.size cs 38 ∧ Rw W (w.heap.size + 1) rs 72 ∧ Rw W (w.heap.size + 1 + 1) zeroSC 38 ∧ Below w.heap.size w W) ⟨((Rw.new _ _ _).alloc _).alloc _, Rw.alloc (heap_alloc2_new w _ _) _, ?_, (((Below.refl _ _).alloc (Nat.le_refl _) _).alloc (by simp) _).alloc (by simp; omega) _⟩ ?_
  · have h1 := Rw.new ((w.alloc (.cells cs 38)).alloc (.cells rs 72)) zeroSC 38
    rw [size_alloc, size_alloc] at h1
    exact h1
  rintro u0 ⟨hA, hB, hZ, hb⟩
  have RA0 := Lib.hid hA
  have RB0 := Lib.hid hB
  have RZ0 := Lib.hid hZ
  have BT0 := Lib.hid hb
  clear hA hB hZ hb
  cases pass with
  | true =>
    have q6_0 : u0.cell? ⟨w.heap.size + 1, 6, none⟩ = some (.bool true) := by rw [RB0.out.cell 6, HRR.out]; rfl
    have s0_0 : u0.cell? ⟨w.heap.size, 0, none⟩ = some (.int .i64 ph) := by rw [RA0.out.cell 0, HC.out]; rfl
    have fr0_0 := RA0.out.fr 0
    go_upto_region 4 with (fail)
    clear s0_0 fr0_0 q6_0
    refine name_w (fun W => Rw W w.heap.size (stC (⟨5, ac, r0, r1, w0, w1, p0, p1, dl, gn, sw, fl⟩ : St)) 38 ∧ Rw W (w.heap.size + 1) rs 72 ∧ Rw W (w.heap.size + 1 + 1) zeroSC 38 ∧ Below w.heap.size w W) ⟨(heap_setCell_same _ _ 0 _ 38 (.int .i64 5) (show Rw u0 w.heap.size (stC (⟨ph, ac, r0, r1, w0, w1, p0, p1, dl, gn, sw, fl⟩ : St)) 38 by rw [← HC.out]; exact RA0.out)), ((Below.heap_setCell _ _ _ _ (by show w.heap.size + 1 ≠ w.heap.size; omega)).trans RB0.out), ((Below.heap_setCell _ _ _ _ (by show w.heap.size + 1 + 1 ≠ w.heap.size; omega)).trans RZ0.out), (below_setCell BT0.out (Nat.le_refl _) _)⟩ ?_
    rintro u1 ⟨hA, hB, hZ, hb⟩
    have RA1 := Lib.hid hA
    have RB1 := Lib.hid hB
    have RZ1 := Lib.hid hZ
    have BT1 := Lib.hid hb
    clear hA hB hZ hb RA0 RB0 RZ0 BT0
    obtain ⟨ds, hds⟩ : ∃ d, d = stC (⟨5, ac, r0, r1, w0, w1, p0, p1, dl, gn, sw, fl⟩ : St) := ⟨_, rfl⟩
    have HD := Lib.hid hds
    have HDZ : Hid (ds.size = 12) := Lib.hid (by rw [hds]; rfl)
    have HD1 : Hid (ds.all (·.oneCell') = true) := Lib.hid (by rw [hds]; exact stC_one _)
    have RF : Hid (Rw u1 w.heap.size ds 38) := Lib.hid (by rw [hds]; exact RA1.out)
    clear hds
    have HE : Hid (gb9 (⟨ph, ac, r0, r1, w0, w1, p0, p1, dl, gn, sw, fl⟩ : St) (⟨kind, rev, cnt, delay, gen, tick, true, st⟩ : Rc) = ((⟨5, ac, r0, r1, w0, w1, p0, p1, dl, gn, sw, fl⟩ : St), true)) := Lib.hid (rfl)
    have ZF := Lib.hid (RZ1.out.set ds)
    have BF := Lib.hid (below_setRow BT1.out (by omega) (b := w.heap.size + 1 + 1) ds)
    go_wp2_with (first | (refine wpList_load_row rfl 38 (.tmp 2) rfl w.heap.size rfl 38 ds (0, 0) _ RF.out Try.underlying38 rfl (by rw [HDZ.out]; exact i12) ?_) | (refine wpList_plain rfl fun _ hK => wp_store_row 38 (.tmp 4) (.tmp 10) rfl (w.heap.size + 1 + 1) ds rfl rfl 38 _ RZ1.out (by rw [HDZ.out]; exact i12) (by rw [HDZ.out]; rfl) HD1.out (hK _ _ ?_); clear hK))
    (try simp only [Exit.inBlock, Exit.then])
    refine bodyPost_ret (results_cell_tmp rfl _ _ (w.heap.size + 1 + 1) 38 ds (0, 0) _ rfl ZF.out Try.underlying38 rfl (by rw [HDZ.out]; exact i12)) rfl ?_
    exact ⟨by rw [HE.out, HD.out]; rfl, BF.out⟩
  | false =>
    have q6_0 : u0.cell? ⟨w.heap.size + 1, 6, none⟩ = some (.bool false) := by rw [RB0.out.cell 6, HRR.out]; rfl
    have s0_0 : u0.cell? ⟨w.heap.size, 0, none⟩ = some (.int .i64 ph) := by rw [RA0.out.cell 0, HC.out]; rfl
    have fr0_0 := RA0.out.fr 0
    go_upto_region 4 with (fail)
    clear s0_0 fr0_0 q6_0
    refine name_w (fun W => Rw W w.heap.size (stC (⟨6, ac, r0, r1, w0, w1, p0, p1, dl, gn, sw, fl⟩ : St)) 38 ∧ Rw W (w.heap.size + 1) rs 72 ∧ Rw W (w.heap.size + 1 + 1) zeroSC 38 ∧ Below w.heap.size w W) ⟨(heap_setCell_same _ _ 0 _ 38 (.int .i64 6) (show Rw u0 w.heap.size (stC (⟨ph, ac, r0, r1, w0, w1, p0, p1, dl, gn, sw, fl⟩ : St)) 38 by rw [← HC.out]; exact RA0.out)), ((Below.heap_setCell _ _ _ _ (by show w.heap.size + 1 ≠ w.heap.size; omega)).trans RB0.out), ((Below.heap_setCell _ _ _ _ (by show w.heap.size + 1 + 1 ≠ w.heap.size; omega)).trans RZ0.out), (below_setCell BT0.out (Nat.le_refl _) _)⟩ ?_
    rintro u1 ⟨hA, hB, hZ, hb⟩
    have RA1 := Lib.hid hA
    have RB1 := Lib.hid hB
    have RZ1 := Lib.hid hZ
    have BT1 := Lib.hid hb
    clear hA hB hZ hb RA0 RB0 RZ0 BT0
    obtain ⟨ds, hds⟩ : ∃ d, d = stC (⟨6, ac, r0, r1, w0, w1, p0, p1, dl, gn, sw, fl⟩ : St) := ⟨_, rfl⟩
    have HD := Lib.hid hds
    have HDZ : Hid (ds.size = 12) := Lib.hid (by rw [hds]; rfl)
    have HD1 : Hid (ds.all (·.oneCell') = true) := Lib.hid (by rw [hds]; exact stC_one _)
    have RF : Hid (Rw u1 w.heap.size ds 38) := Lib.hid (by rw [hds]; exact RA1.out)
    clear hds
    have HE : Hid (gb9 (⟨ph, ac, r0, r1, w0, w1, p0, p1, dl, gn, sw, fl⟩ : St) (⟨kind, rev, cnt, delay, gen, tick, false, st⟩ : Rc) = ((⟨6, ac, r0, r1, w0, w1, p0, p1, dl, gn, sw, fl⟩ : St), true)) := Lib.hid (rfl)
    have ZF := Lib.hid (RZ1.out.set ds)
    have BF := Lib.hid (below_setRow BT1.out (by omega) (b := w.heap.size + 1 + 1) ds)
    go_wp2_with (first | (refine wpList_load_row rfl 38 (.tmp 2) rfl w.heap.size rfl 38 ds (0, 0) _ RF.out Try.underlying38 rfl (by rw [HDZ.out]; exact i12) ?_) | (refine wpList_plain rfl fun _ hK => wp_store_row 38 (.tmp 4) (.tmp 10) rfl (w.heap.size + 1 + 1) ds rfl rfl 38 _ RZ1.out (by rw [HDZ.out]; exact i12) (by rw [HDZ.out]; rfl) HD1.out (hK _ _ ?_); clear hK))
    (try simp only [Exit.inBlock, Exit.then])
    refine bodyPost_ret (results_cell_tmp rfl _ _ (w.heap.size + 1 + 1) 38 ds (0, 0) _ rfl ZF.out Try.underlying38 rfl (by rw [HDZ.out]; exact i12)) rfl ?_
    exact ⟨by rw [HE.out, HD.out]; rfl, BF.out⟩
set_option maxRecDepth 100000 in
set_option maxHeartbeats 4000000 in
theorem scaled_any (s : St) (r : Rc) (w : World) (hab : s.ac = 0 ∨ s.ac = 1) : Calls Try.prog 76 #[stV s, recV r] w (StepR (sc10 s) w) := by
  have HAL : Hid (∀ W, Calls Try.prog 82 #[stV s] W (GotS (blankS s) W)) := Lib.hid (fun W => alone_any s W hab)
  clear hab
  obtain ⟨ph, ac, r0, r1, w0, w1, p0, p1, dl, gn, sw, fl⟩ := s
  obtain ⟨kind, rev, cnt, delay, gen, tick, pass, st⟩ := r
  unfold stV at HAL ⊢
  unfold recV
  obtain ⟨cs, hcs⟩ : ∃ c, c = stC (⟨ph, ac, r0, r1, w0, w1, p0, p1, dl, gn, sw, fl⟩ : St) := ⟨_, rfl⟩
  obtain ⟨rs, hrs⟩ : ∃ c, c = recC (⟨kind, rev, cnt, delay, gen, tick, pass, st⟩ : Rc) := ⟨_, rfl⟩
  rw [← hcs] at HAL ⊢
  rw [← hrs]
  have HC := Lib.hid hcs
  have HRR := Lib.hid hrs
  have HZC : Hid (cs.size = 12) := Lib.hid (by rw [hcs]; rfl)
  have H1C : Hid (cs.all (·.oneCell') = true) := Lib.hid (by rw [hcs]; exact stC_one _)
  clear hcs hrs
  go_enter Try.func76, Try.ntmps76
  go_upto_region 1 with (fail)
  refine name_w (fun W => Rw W w.heap.size cs 38 ∧ Rw W (w.heap.size + 1) rs 72 ∧ Rw W (w.heap.size + 1 + 1) zeroSC 38 ∧ Below w.heap.size w W) ⟨((Rw.new _ _ _).alloc _).alloc _, Rw.alloc (heap_alloc2_new w _ _) _, ?_, (((Below.refl _ _).alloc (Nat.le_refl _) _).alloc (by simp) _).alloc (by simp; omega) _⟩ ?_
  · have h1 := Rw.new ((w.alloc (.cells cs 38)).alloc (.cells rs 72)) zeroSC 38
    rw [size_alloc, size_alloc] at h1
    exact h1
  rintro u0 ⟨hA, hB, hZ, hb⟩
  have RA0 := Lib.hid hA
  have RB0 := Lib.hid hB
  have RZ0 := Lib.hid hZ
  have BT0 := Lib.hid hb
  clear hA hB hZ hb
  obtain ⟨bs, hbs⟩ : ∃ d, d = stC (blankS (⟨ph, ac, r0, r1, w0, w1, p0, p1, dl, gn, sw, fl⟩ : St)) := ⟨_, rfl⟩
  have HD := Lib.hid hbs
  have HDZ : Hid (bs.size = 12) := Lib.hid (by rw [hbs]; rfl)
  have HD1 : Hid (bs.all (·.oneCell') = true) := Lib.hid (by rw [hbs]; exact stC_one _)
  have HAL' := Lib.hid HAL.out
  unfold GotS stV at HAL'
  rw [← hbs] at HAL'
  clear hbs
  have HE : Hid (sc10 (⟨ph, ac, r0, r1, w0, w1, p0, p1, dl, gn, sw, fl⟩ : St) = (blankS (⟨ph, ac, r0, r1, w0, w1, p0, p1, dl, gn, sw, fl⟩ : St), true)) := Lib.hid (rfl)
  go_wp2_with (refine wpList_load_row rfl 38 (.tmp 2) rfl w.heap.size rfl 38 cs (0, 0) _ RA0.out Try.underlying38 rfl (by rw [HZC.out]; exact i12) ?_)
  refine (HAL'.out _).mono ?_
  rintro e u1 ⟨rfl, hb⟩
  have RA1 := Lib.hid (RA0.out.under hb RA0.out.lt)
  have RB1 := Lib.hid (RB0.out.under hb RB0.out.lt)
  have RZ1 := Lib.hid (RZ0.out.under hb RZ0.out.lt)
  have BT1 := Lib.hid (BT0.out.trans (hb.mono BT0.out.size))
  clear hb RA0 RB0 RZ0 BT0
  have ZF := Lib.hid (RZ1.out.set bs)
  have BF := Lib.hid (below_setRow BT1.out (by omega) (b := w.heap.size + 1 + 1) bs)
  go_wp2_with (refine wpList_plain rfl fun _ hK => wp_store_row 38 (.tmp 4) (.tmp 7) rfl (w.heap.size + 1 + 1) bs rfl rfl 38 _ RZ1.out (by rw [HDZ.out]; exact i12) (by rw [HDZ.out]; rfl) HD1.out (hK _ _ ?_); clear hK)
  (try simp only [Exit.inBlock, Exit.then])
  refine bodyPost_ret (results_cell_tmp rfl _ _ (w.heap.size + 1 + 1) 38 bs (0, 0) _ rfl ZF.out Try.underlying38 rfl (by rw [HDZ.out]; exact i12)) rfl ?_
  exact ⟨by rw [HE.out, HD.out]; rfl, BF.out⟩
end Go.Proofs.Ytchaeidmjoelnaa
