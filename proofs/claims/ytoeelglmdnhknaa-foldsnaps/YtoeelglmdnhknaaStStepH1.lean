/-
  What the document's own Step answers, of the Kind 1, where slot 1 is active.
-/
import Derived.Test.YtoeelglmdnhknaaStStep
namespace Go.Proofs.Ytoeelglmdnhknaa
open Go.RowKit

set_option maxRecDepth 100000 in
set_option maxHeartbeats 8000000 in
theorem mstep_1_1x (s : St) (r : Rc) (w : World) (hr : rightS s = true) (hk : r.kind = 1) (h0 : s.ac = 1) (hph : s.ph ≠ 0 ∧ s.ph ≠ 1 ∧ s.ph ≠ 2) : Calls Try.prog 12 #[stV s, recV r] w (StepR (step1 s r) w) := by
  obtain ⟨ph, ac, r0, r1, w0, w1, p0, p1, dl, gn, sw, fl⟩ := s
  obtain ⟨kind, rev, cnt, delay, gen, tick, pass, st⟩ := r
  obtain rfl : ac = 1 := h0
  obtain ⟨hac, hp0, hp7, hg0, hg1, hs0, hs2⟩ := right_in hr
  simp only at hac hp0 hp7 hg0 hg1 hs0 hs2
  have HRT : Hid (∀ W, Calls Try.prog 15 #[stV (⟨ph, 1, r0, r1, w0, w1, p0, p1, dl, gn, sw, fl⟩ : St)] W fun e w' => e = .returned (.bool true) ∧ Below W.heap.size W w') := Lib.hid (fun W => by
    have h1 := mright_any (⟨ph, 1, r0, r1, w0, w1, p0, p1, dl, gn, sw, fl⟩ : St) W
    rw [hr] at h1
    exact h1)
  obtain rfl : kind = 1 := hk
  have HPK : Hid (∀ (n : St) W, (Calls Try.prog 21 #[stV (⟨ph, 1, r0, r1, w0, w1, p0, p1, dl, gn, sw, fl⟩ : St), stV n, .bool true] W fun e w' => e = .returned (.tuple #[stV n, .bool true]) ∧ Below W.heap.size W w') ∧ (Calls Try.prog 21 #[stV (⟨ph, 1, r0, r1, w0, w1, p0, p1, dl, gn, sw, fl⟩ : St), stV n, .bool false] W fun e w' => e = .returned (.tuple #[stV (⟨ph, 1, r0, r1, w0, w1, p0, p1, dl, gn, sw, fl⟩ : St), .bool false]) ∧ Below W.heap.size W w')) := Lib.hid (fun n W => ⟨mpick_any _ n true W, mpick_any _ n false W⟩)
  unfold stV at HRT HPK ⊢
  unfold recV
  obtain ⟨cs, hcs⟩ : ∃ c, c = stC (⟨ph, 1, r0, r1, w0, w1, p0, p1, dl, gn, sw, fl⟩ : St) := ⟨_, rfl⟩
  obtain ⟨rs, hrs⟩ : ∃ c, c = recC (⟨1, rev, cnt, delay, gen, tick, pass, st⟩ : Rc) := ⟨_, rfl⟩
  have HZC : Hid (cs.size = 12) := Lib.hid (by rw [hcs]; rfl)
  have H1C : Hid (cs.all (·.oneCell') = true) := Lib.hid (by rw [hcs]; exact stC_one _)
  have HZS : Hid (zeroSC.size = 12) := Lib.hid rfl
  rw [← hcs] at HRT HPK ⊢
  rw [← hrs]
  have HC := Lib.hid hcs
  have HRR := Lib.hid hrs
  clear hcs hrs hr hac
  go_enter Try.func12, Try.ntmps12
  go_upto_region 1 with (fail)
  refine name_w (fun W => Rw W w.heap.size cs 25 ∧ Rw W (w.heap.size + 1) rs 27 ∧ Rw W (w.heap.size + 1 + 1) zeroSC 25 ∧ Below w.heap.size w W) ⟨((Rw.new _ _ _).alloc _).alloc _, Rw.alloc (heap_alloc2_new w _ _) _, ?_, (((Below.refl _ _).alloc (Nat.le_refl _) _).alloc (by simp) _).alloc (by simp; omega) _⟩ ?_
  · have h1 := Rw.new ((w.alloc (.cells cs 25)).alloc (.cells rs 27)) zeroSC 25
    rw [size_alloc, size_alloc] at h1
    exact h1
  rintro u0 ⟨hA, hB, hZ, hb⟩
  have RA0 := Lib.hid hA
  have RB0 := Lib.hid hB
  have RZ0 := Lib.hid hZ
  have BT0 := Lib.hid hb
  clear hA hB hZ hb
  go_wp2_with (refine wpList_load_row rfl 25 (.tmp 2) rfl w.heap.size rfl 25 cs (0, 0) _ RA0.out Try.underlying25 rfl (by rw [HZC.out]; exact i12) ?_)
  refine (HRT.out _).mono ?_
  rintro e u1 ⟨rfl, hb⟩
  have RA1 := Lib.hid (RA0.out.under hb RA0.out.lt)
  have RB1 := Lib.hid (RB0.out.under hb RB0.out.lt)
  have RZ1 := Lib.hid (RZ0.out.under hb RZ0.out.lt)
  have BT1 := Lib.hid (BT0.out.trans (hb.mono BT0.out.size))
  clear hb RA0 RB0 RZ0 BT0 HRT
  go_upto_region 4 with (first | (refine wpList_load_row rfl 25 (.tmp 2) rfl w.heap.size rfl 25 cs (0, 0) _ RA1.out Try.underlying25 rfl (by rw [HZC.out]; exact i12) ?_) | (refine wpList_plain rfl fun _ hK => wp_store_row 25 (.tmp 6) (.tmp 12) rfl u1.heap.size cs rfl rfl 25 _ (Rw.new u1 _ 25) (by rw [HZC.out]; exact i12) (by rw [HZC.out]; rfl) H1C.out (hK _ _ ?_); clear hK))
  refine name_w (fun W => Rw W u1.heap.size cs 25 ∧ Below u1.heap.size u1 W) ⟨(Rw.new u1 zeroSC 25).set cs, below_setRow ((Below.refl _ _).alloc (Nat.le_refl _) _) (Nat.le_refl _) _⟩ ?_
  rintro v0 ⟨hT, hb⟩
  have RT_v0 : Hid (Rw v0 u1.heap.size (stC (⟨ph, 1, r0, r1, w0, w1, p0, p1, dl, gn, sw, fl⟩ : St)) 25) := Lib.hid (by rw [← HC.out]; exact hT)
  have BV_v0 := Lib.hid hb
  clear hT hb
  have HLA : w.heap.size < u1.heap.size := RA1.out.lt
  have HLB : w.heap.size + 1 < u1.heap.size := RB1.out.lt
  have s0 : u1.cell? ⟨w.heap.size, 0, none⟩ = some (.int .i64 ph) := by rw [RA1.out.cell 0, HC.out]; rfl
  have s1 : u1.cell? ⟨w.heap.size, 1, none⟩ = some (.int .i64 1) := by rw [RA1.out.cell 1, HC.out]; rfl
  have s9 : u1.cell? ⟨w.heap.size, 9, none⟩ = some (.int .i64 gn) := by rw [RA1.out.cell 9, HC.out]; rfl
  have s10 : u1.cell? ⟨w.heap.size, 10, none⟩ = some (.int .i64 sw) := by rw [RA1.out.cell 10, HC.out]; rfl
  have q0 : u1.cell? ⟨w.heap.size + 1, 0, none⟩ = some (.int .i64 1) := by rw [RB1.out.cell 0, HRR.out]; rfl
  have q1 : u1.cell? ⟨w.heap.size + 1, 1, none⟩ = some (.int .i64 rev) := by rw [RB1.out.cell 1, HRR.out]; rfl
  have q2 : u1.cell? ⟨w.heap.size + 1, 2, none⟩ = some (.int .i64 cnt) := by rw [RB1.out.cell 2, HRR.out]; rfl
  have q3 : u1.cell? ⟨w.heap.size + 1, 3, none⟩ = some (.int .i64 delay) := by rw [RB1.out.cell 3, HRR.out]; rfl
  have q4 : u1.cell? ⟨w.heap.size + 1, 4, none⟩ = some (.int .i64 gen) := by rw [RB1.out.cell 4, HRR.out]; rfl
  have q5 : u1.cell? ⟨w.heap.size + 1, 5, none⟩ = some (.int .i64 tick) := by rw [RB1.out.cell 5, HRR.out]; rfl
  have q6 : u1.cell? ⟨w.heap.size + 1, 6, none⟩ = some (.bool pass) := by rw [RB1.out.cell 6, HRR.out]; rfl
  have sr : u1.cell? ⟨w.heap.size, 3, none⟩ = some (.int .i64 r1) := by rw [RA1.out.cell 3, HC.out]; rfl
  obtain ⟨m0, m1, m2⟩ := hph
  have s0_v0 := (BV_v0.out.cell (p := ⟨w.heap.size, 0, none⟩) HLA).trans s0
  have s1_v0 := (BV_v0.out.cell (p := ⟨w.heap.size, 1, none⟩) HLA).trans s1
  have s9_v0 := (BV_v0.out.cell (p := ⟨w.heap.size, 9, none⟩) HLA).trans s9
  have s10_v0 := (BV_v0.out.cell (p := ⟨w.heap.size, 10, none⟩) HLA).trans s10
  have q0_v0 := (BV_v0.out.cell (p := ⟨w.heap.size + 1, 0, none⟩) HLB).trans q0
  have q1_v0 := (BV_v0.out.cell (p := ⟨w.heap.size + 1, 1, none⟩) HLB).trans q1
  have q2_v0 := (BV_v0.out.cell (p := ⟨w.heap.size + 1, 2, none⟩) HLB).trans q2
  have q3_v0 := (BV_v0.out.cell (p := ⟨w.heap.size + 1, 3, none⟩) HLB).trans q3
  have q4_v0 := (BV_v0.out.cell (p := ⟨w.heap.size + 1, 4, none⟩) HLB).trans q4
  have q5_v0 := (BV_v0.out.cell (p := ⟨w.heap.size + 1, 5, none⟩) HLB).trans q5
  have q6_v0 := (BV_v0.out.cell (p := ⟨w.heap.size + 1, 6, none⟩) HLB).trans q6
  have sr_v0 := (BV_v0.out.cell (p := ⟨w.heap.size, 3, none⟩) HLA).trans sr
  have HE : Hid (step1 (⟨ph, 1, r0, r1, w0, w1, p0, p1, dl, gn, sw, fl⟩ : St) (⟨1, rev, cnt, delay, gen, tick, pass, st⟩ : Rc) = ((⟨ph, 1, r0, r1, w0, w1, p0, p1, dl, gn, sw, fl⟩ : St), false)) := Lib.hid (by unfold step1; exact if_pos ⟨m0, m1, m2⟩)
  have g0 : (ph != 0) = true := by simpa using m0
  have g1 : (ph != 1) = true := by simpa using m1
  have g2 : (ph != 2) = true := by simpa using m2
  clear m0 m1 m2
  go_upto_region 8 with (fail)
  have RAc := Lib.hid (RA1.out.under BV_v0.out HLA)
  have RZc := Lib.hid (RZ1.out.under BV_v0.out RZ1.out.lt)
  have BTc := Lib.hid (BT1.out.trans (BV_v0.out.mono BT1.out.size))
  have ZF := Lib.hid (RZc.out.set cs)
  have BF := Lib.hid (below_setRow BTc.out (by omega) (b := w.heap.size + 1 + 1) cs)
  go_wp2_with (first | (refine wpList_load_row rfl 25 (.tmp 2) rfl w.heap.size rfl 25 cs (0, 0) _ RAc.out Try.underlying25 rfl (by rw [HZC.out]; exact i12) ?_) | (refine wpList_plain rfl fun _ hK => wp_store_row 25 (.tmp 4) (.tmp 33) rfl (w.heap.size + 1 + 1) cs rfl rfl 25 _ RZc.out (by rw [HZC.out]; exact i12) (by rw [HZC.out]; rfl) H1C.out (hK _ _ ?_); clear hK))
  (try simp only [Exit.inBlock, Exit.then])
  refine bodyPost_ret (results_cell_tmp rfl _ _ (w.heap.size + 1 + 1) 25 cs (0, 0) _ rfl ZF.out Try.underlying25 rfl (by rw [HZC.out]; exact i12)) rfl ?_
  exact ⟨by rw [HE.out, HC.out]; rfl, BF.out⟩
set_option maxRecDepth 100000 in
set_option maxHeartbeats 8000000 in
theorem mstep_1_1a (s : St) (r : Rc) (w : World) (hr : rightS s = true) (hk : r.kind = 1) (h0 : s.ac = 1) (hph : s.ph = 0) : Calls Try.prog 12 #[stV s, recV r] w (StepR (step1 s r) w) := by
  obtain ⟨ph, ac, r0, r1, w0, w1, p0, p1, dl, gn, sw, fl⟩ := s
  obtain ⟨kind, rev, cnt, delay, gen, tick, pass, st⟩ := r
  obtain rfl : ac = 1 := h0
  obtain ⟨hac, hp0, hp7, hg0, hg1, hs0, hs2⟩ := right_in hr
  simp only at hac hp0 hp7 hg0 hg1 hs0 hs2
  have HRT : Hid (∀ W, Calls Try.prog 15 #[stV (⟨ph, 1, r0, r1, w0, w1, p0, p1, dl, gn, sw, fl⟩ : St)] W fun e w' => e = .returned (.bool true) ∧ Below W.heap.size W w') := Lib.hid (fun W => by
    have h1 := mright_any (⟨ph, 1, r0, r1, w0, w1, p0, p1, dl, gn, sw, fl⟩ : St) W
    rw [hr] at h1
    exact h1)
  obtain rfl : kind = 1 := hk
  have HPK : Hid (∀ (n : St) W, (Calls Try.prog 21 #[stV (⟨ph, 1, r0, r1, w0, w1, p0, p1, dl, gn, sw, fl⟩ : St), stV n, .bool true] W fun e w' => e = .returned (.tuple #[stV n, .bool true]) ∧ Below W.heap.size W w') ∧ (Calls Try.prog 21 #[stV (⟨ph, 1, r0, r1, w0, w1, p0, p1, dl, gn, sw, fl⟩ : St), stV n, .bool false] W fun e w' => e = .returned (.tuple #[stV (⟨ph, 1, r0, r1, w0, w1, p0, p1, dl, gn, sw, fl⟩ : St), .bool false]) ∧ Below W.heap.size W w')) := Lib.hid (fun n W => ⟨mpick_any _ n true W, mpick_any _ n false W⟩)
  unfold stV at HRT HPK ⊢
  unfold recV
  obtain ⟨cs, hcs⟩ : ∃ c, c = stC (⟨ph, 1, r0, r1, w0, w1, p0, p1, dl, gn, sw, fl⟩ : St) := ⟨_, rfl⟩
  obtain ⟨rs, hrs⟩ : ∃ c, c = recC (⟨1, rev, cnt, delay, gen, tick, pass, st⟩ : Rc) := ⟨_, rfl⟩
  have HZC : Hid (cs.size = 12) := Lib.hid (by rw [hcs]; rfl)
  have H1C : Hid (cs.all (·.oneCell') = true) := Lib.hid (by rw [hcs]; exact stC_one _)
  have HZS : Hid (zeroSC.size = 12) := Lib.hid rfl
  rw [← hcs] at HRT HPK ⊢
  rw [← hrs]
  have HC := Lib.hid hcs
  have HRR := Lib.hid hrs
  clear hcs hrs hr hac
  go_enter Try.func12, Try.ntmps12
  go_upto_region 1 with (fail)
  refine name_w (fun W => Rw W w.heap.size cs 25 ∧ Rw W (w.heap.size + 1) rs 27 ∧ Rw W (w.heap.size + 1 + 1) zeroSC 25 ∧ Below w.heap.size w W) ⟨((Rw.new _ _ _).alloc _).alloc _, Rw.alloc (heap_alloc2_new w _ _) _, ?_, (((Below.refl _ _).alloc (Nat.le_refl _) _).alloc (by simp) _).alloc (by simp; omega) _⟩ ?_
  · have h1 := Rw.new ((w.alloc (.cells cs 25)).alloc (.cells rs 27)) zeroSC 25
    rw [size_alloc, size_alloc] at h1
    exact h1
  rintro u0 ⟨hA, hB, hZ, hb⟩
  have RA0 := Lib.hid hA
  have RB0 := Lib.hid hB
  have RZ0 := Lib.hid hZ
  have BT0 := Lib.hid hb
  clear hA hB hZ hb
  go_wp2_with (refine wpList_load_row rfl 25 (.tmp 2) rfl w.heap.size rfl 25 cs (0, 0) _ RA0.out Try.underlying25 rfl (by rw [HZC.out]; exact i12) ?_)
  refine (HRT.out _).mono ?_
  rintro e u1 ⟨rfl, hb⟩
  have RA1 := Lib.hid (RA0.out.under hb RA0.out.lt)
  have RB1 := Lib.hid (RB0.out.under hb RB0.out.lt)
  have RZ1 := Lib.hid (RZ0.out.under hb RZ0.out.lt)
  have BT1 := Lib.hid (BT0.out.trans (hb.mono BT0.out.size))
  clear hb RA0 RB0 RZ0 BT0 HRT
  go_upto_region 4 with (first | (refine wpList_load_row rfl 25 (.tmp 2) rfl w.heap.size rfl 25 cs (0, 0) _ RA1.out Try.underlying25 rfl (by rw [HZC.out]; exact i12) ?_) | (refine wpList_plain rfl fun _ hK => wp_store_row 25 (.tmp 6) (.tmp 12) rfl u1.heap.size cs rfl rfl 25 _ (Rw.new u1 _ 25) (by rw [HZC.out]; exact i12) (by rw [HZC.out]; rfl) H1C.out (hK _ _ ?_); clear hK))
  refine name_w (fun W => Rw W u1.heap.size cs 25 ∧ Below u1.heap.size u1 W) ⟨(Rw.new u1 zeroSC 25).set cs, below_setRow ((Below.refl _ _).alloc (Nat.le_refl _) _) (Nat.le_refl _) _⟩ ?_
  rintro v0 ⟨hT, hb⟩
  have RT_v0 : Hid (Rw v0 u1.heap.size (stC (⟨ph, 1, r0, r1, w0, w1, p0, p1, dl, gn, sw, fl⟩ : St)) 25) := Lib.hid (by rw [← HC.out]; exact hT)
  have BV_v0 := Lib.hid hb
  clear hT hb
  have HLA : w.heap.size < u1.heap.size := RA1.out.lt
  have HLB : w.heap.size + 1 < u1.heap.size := RB1.out.lt
  have s0 : u1.cell? ⟨w.heap.size, 0, none⟩ = some (.int .i64 ph) := by rw [RA1.out.cell 0, HC.out]; rfl
  have s1 : u1.cell? ⟨w.heap.size, 1, none⟩ = some (.int .i64 1) := by rw [RA1.out.cell 1, HC.out]; rfl
  have s9 : u1.cell? ⟨w.heap.size, 9, none⟩ = some (.int .i64 gn) := by rw [RA1.out.cell 9, HC.out]; rfl
  have s10 : u1.cell? ⟨w.heap.size, 10, none⟩ = some (.int .i64 sw) := by rw [RA1.out.cell 10, HC.out]; rfl
  have q0 : u1.cell? ⟨w.heap.size + 1, 0, none⟩ = some (.int .i64 1) := by rw [RB1.out.cell 0, HRR.out]; rfl
  have q1 : u1.cell? ⟨w.heap.size + 1, 1, none⟩ = some (.int .i64 rev) := by rw [RB1.out.cell 1, HRR.out]; rfl
  have q2 : u1.cell? ⟨w.heap.size + 1, 2, none⟩ = some (.int .i64 cnt) := by rw [RB1.out.cell 2, HRR.out]; rfl
  have q3 : u1.cell? ⟨w.heap.size + 1, 3, none⟩ = some (.int .i64 delay) := by rw [RB1.out.cell 3, HRR.out]; rfl
  have q4 : u1.cell? ⟨w.heap.size + 1, 4, none⟩ = some (.int .i64 gen) := by rw [RB1.out.cell 4, HRR.out]; rfl
  have q5 : u1.cell? ⟨w.heap.size + 1, 5, none⟩ = some (.int .i64 tick) := by rw [RB1.out.cell 5, HRR.out]; rfl
  have q6 : u1.cell? ⟨w.heap.size + 1, 6, none⟩ = some (.bool pass) := by rw [RB1.out.cell 6, HRR.out]; rfl
  have sr : u1.cell? ⟨w.heap.size, 3, none⟩ = some (.int .i64 r1) := by rw [RA1.out.cell 3, HC.out]; rfl
  have m0 : ph = 0 := hph
  clear hph
  have MP : Hid (ph = 0 ∨ ph = 1 ∨ ph = 2) := Lib.hid (Or.inl m0)
  have g0 : (ph != 0) = false := by simpa using m0
  clear m0
  by_cases j0 : rev < 1
  case pos =>
    have s0_v0 := (BV_v0.out.cell (p := ⟨w.heap.size, 0, none⟩) HLA).trans s0
    have s1_v0 := (BV_v0.out.cell (p := ⟨w.heap.size, 1, none⟩) HLA).trans s1
    have s9_v0 := (BV_v0.out.cell (p := ⟨w.heap.size, 9, none⟩) HLA).trans s9
    have s10_v0 := (BV_v0.out.cell (p := ⟨w.heap.size, 10, none⟩) HLA).trans s10
    have q0_v0 := (BV_v0.out.cell (p := ⟨w.heap.size + 1, 0, none⟩) HLB).trans q0
    have q1_v0 := (BV_v0.out.cell (p := ⟨w.heap.size + 1, 1, none⟩) HLB).trans q1
    have q2_v0 := (BV_v0.out.cell (p := ⟨w.heap.size + 1, 2, none⟩) HLB).trans q2
    have q3_v0 := (BV_v0.out.cell (p := ⟨w.heap.size + 1, 3, none⟩) HLB).trans q3
    have q4_v0 := (BV_v0.out.cell (p := ⟨w.heap.size + 1, 4, none⟩) HLB).trans q4
    have q5_v0 := (BV_v0.out.cell (p := ⟨w.heap.size + 1, 5, none⟩) HLB).trans q5
    have q6_v0 := (BV_v0.out.cell (p := ⟨w.heap.size + 1, 6, none⟩) HLB).trans q6
    have sr_v0 := (BV_v0.out.cell (p := ⟨w.heap.size, 3, none⟩) HLA).trans sr
    have HE : Hid (step1 (⟨ph, 1, r0, r1, w0, w1, p0, p1, dl, gn, sw, fl⟩ : St) (⟨1, rev, cnt, delay, gen, tick, pass, st⟩ : Rc) = ((⟨ph, 1, r0, r1, w0, w1, p0, p1, dl, gn, sw, fl⟩ : St), false)) := Lib.hid (by unfold step1; rw [if_neg (by have := MP.out; simp only; omega), if_pos (by have hra : raS (⟨ph, 1, r0, r1, w0, w1, p0, p1, dl, gn, sw, fl⟩ : St) = r1 := rfl; rw [hra]; simp only; omega)])
    have e0 : decide (rev < 1) = true := by simpa using j0
    go_upto_region 9 with (fail)
    go_wp2_with fail
    go_quiet (fail)
    go_upto_region 10 with (fail)
    refine name_w (fun W => Below u1.heap.size u1 W) (BV_v0.out.trans (below_drewN _ _ _)) ?_
    intro v9 hb9
    have BV_v9 := Lib.hid hb9
    clear hb9
    have RAc := Lib.hid (RA1.out.under BV_v9.out HLA)
    have RZc := Lib.hid (RZ1.out.under BV_v9.out RZ1.out.lt)
    have BTc := Lib.hid (BT1.out.trans (BV_v9.out.mono BT1.out.size))
    have ZF := Lib.hid (RZc.out.set cs)
    have BF := Lib.hid (below_setRow BTc.out (by omega) (b := w.heap.size + 1 + 1) cs)
    go_wp2_with (first | (refine wpList_load_row rfl 25 (.tmp 2) rfl w.heap.size rfl 25 cs (0, 0) _ RAc.out Try.underlying25 rfl (by rw [HZC.out]; exact i12) ?_) | (refine wpList_plain rfl fun _ hK => wp_store_row 25 (.tmp 4) (.tmp 77) rfl (w.heap.size + 1 + 1) cs rfl rfl 25 _ RZc.out (by rw [HZC.out]; exact i12) (by rw [HZC.out]; rfl) H1C.out (hK _ _ ?_); clear hK))
    (try simp only [Exit.inBlock, Exit.then])
    refine bodyPost_ret (results_cell_tmp rfl _ _ (w.heap.size + 1 + 1) 25 cs (0, 0) _ rfl ZF.out Try.underlying25 rfl (by rw [HZC.out]; exact i12)) rfl ?_
    exact ⟨by rw [HE.out, HC.out]; rfl, BF.out⟩
  have e0 : decide (rev < 1) = false := by simpa using j0
  by_cases j1 : 1073741824 < rev
  case pos =>
    have s0_v0 := (BV_v0.out.cell (p := ⟨w.heap.size, 0, none⟩) HLA).trans s0
    have s1_v0 := (BV_v0.out.cell (p := ⟨w.heap.size, 1, none⟩) HLA).trans s1
    have s9_v0 := (BV_v0.out.cell (p := ⟨w.heap.size, 9, none⟩) HLA).trans s9
    have s10_v0 := (BV_v0.out.cell (p := ⟨w.heap.size, 10, none⟩) HLA).trans s10
    have q0_v0 := (BV_v0.out.cell (p := ⟨w.heap.size + 1, 0, none⟩) HLB).trans q0
    have q1_v0 := (BV_v0.out.cell (p := ⟨w.heap.size + 1, 1, none⟩) HLB).trans q1
    have q2_v0 := (BV_v0.out.cell (p := ⟨w.heap.size + 1, 2, none⟩) HLB).trans q2
    have q3_v0 := (BV_v0.out.cell (p := ⟨w.heap.size + 1, 3, none⟩) HLB).trans q3
    have q4_v0 := (BV_v0.out.cell (p := ⟨w.heap.size + 1, 4, none⟩) HLB).trans q4
    have q5_v0 := (BV_v0.out.cell (p := ⟨w.heap.size + 1, 5, none⟩) HLB).trans q5
    have q6_v0 := (BV_v0.out.cell (p := ⟨w.heap.size + 1, 6, none⟩) HLB).trans q6
    have sr_v0 := (BV_v0.out.cell (p := ⟨w.heap.size, 3, none⟩) HLA).trans sr
    have HE : Hid (step1 (⟨ph, 1, r0, r1, w0, w1, p0, p1, dl, gn, sw, fl⟩ : St) (⟨1, rev, cnt, delay, gen, tick, pass, st⟩ : Rc) = ((⟨ph, 1, r0, r1, w0, w1, p0, p1, dl, gn, sw, fl⟩ : St), false)) := Lib.hid (by unfold step1; rw [if_neg (by have := MP.out; simp only; omega), if_pos (by have hra : raS (⟨ph, 1, r0, r1, w0, w1, p0, p1, dl, gn, sw, fl⟩ : St) = r1 := rfl; rw [hra]; simp only; omega)])
    have e1 : decide (1073741824 < rev) = true := by simpa using j1
    go_upto_region 9 with (fail)
    go_wp2_with fail
    go_quiet (fail)
    go_upto_region 10 with (fail)
    refine name_w (fun W => Below u1.heap.size u1 W) (BV_v0.out.trans (below_drewN _ _ _)) ?_
    intro v9 hb9
    have BV_v9 := Lib.hid hb9
    clear hb9
    have RAc := Lib.hid (RA1.out.under BV_v9.out HLA)
    have RZc := Lib.hid (RZ1.out.under BV_v9.out RZ1.out.lt)
    have BTc := Lib.hid (BT1.out.trans (BV_v9.out.mono BT1.out.size))
    have ZF := Lib.hid (RZc.out.set cs)
    have BF := Lib.hid (below_setRow BTc.out (by omega) (b := w.heap.size + 1 + 1) cs)
    go_wp2_with (first | (refine wpList_load_row rfl 25 (.tmp 2) rfl w.heap.size rfl 25 cs (0, 0) _ RAc.out Try.underlying25 rfl (by rw [HZC.out]; exact i12) ?_) | (refine wpList_plain rfl fun _ hK => wp_store_row 25 (.tmp 4) (.tmp 77) rfl (w.heap.size + 1 + 1) cs rfl rfl 25 _ RZc.out (by rw [HZC.out]; exact i12) (by rw [HZC.out]; rfl) H1C.out (hK _ _ ?_); clear hK))
    (try simp only [Exit.inBlock, Exit.then])
    refine bodyPost_ret (results_cell_tmp rfl _ _ (w.heap.size + 1 + 1) 25 cs (0, 0) _ rfl ZF.out Try.underlying25 rfl (by rw [HZC.out]; exact i12)) rfl ?_
    exact ⟨by rw [HE.out, HC.out]; rfl, BF.out⟩
  have e1 : decide (1073741824 < rev) = false := by simpa using j1
  by_cases j2 : cnt < 1
  case pos =>
    have s0_v0 := (BV_v0.out.cell (p := ⟨w.heap.size, 0, none⟩) HLA).trans s0
    have s1_v0 := (BV_v0.out.cell (p := ⟨w.heap.size, 1, none⟩) HLA).trans s1
    have s9_v0 := (BV_v0.out.cell (p := ⟨w.heap.size, 9, none⟩) HLA).trans s9
    have s10_v0 := (BV_v0.out.cell (p := ⟨w.heap.size, 10, none⟩) HLA).trans s10
    have q0_v0 := (BV_v0.out.cell (p := ⟨w.heap.size + 1, 0, none⟩) HLB).trans q0
    have q1_v0 := (BV_v0.out.cell (p := ⟨w.heap.size + 1, 1, none⟩) HLB).trans q1
    have q2_v0 := (BV_v0.out.cell (p := ⟨w.heap.size + 1, 2, none⟩) HLB).trans q2
    have q3_v0 := (BV_v0.out.cell (p := ⟨w.heap.size + 1, 3, none⟩) HLB).trans q3
    have q4_v0 := (BV_v0.out.cell (p := ⟨w.heap.size + 1, 4, none⟩) HLB).trans q4
    have q5_v0 := (BV_v0.out.cell (p := ⟨w.heap.size + 1, 5, none⟩) HLB).trans q5
    have q6_v0 := (BV_v0.out.cell (p := ⟨w.heap.size + 1, 6, none⟩) HLB).trans q6
    have sr_v0 := (BV_v0.out.cell (p := ⟨w.heap.size, 3, none⟩) HLA).trans sr
    have HE : Hid (step1 (⟨ph, 1, r0, r1, w0, w1, p0, p1, dl, gn, sw, fl⟩ : St) (⟨1, rev, cnt, delay, gen, tick, pass, st⟩ : Rc) = ((⟨ph, 1, r0, r1, w0, w1, p0, p1, dl, gn, sw, fl⟩ : St), false)) := Lib.hid (by unfold step1; rw [if_neg (by have := MP.out; simp only; omega), if_pos (by have hra : raS (⟨ph, 1, r0, r1, w0, w1, p0, p1, dl, gn, sw, fl⟩ : St) = r1 := rfl; rw [hra]; simp only; omega)])
    have e2 : decide (cnt < 1) = true := by simpa using j2
    go_upto_region 9 with (fail)
    go_wp2_with fail
    go_quiet (fail)
    go_upto_region 10 with (fail)
    refine name_w (fun W => Below u1.heap.size u1 W) (BV_v0.out.trans (below_drewN _ _ _)) ?_
    intro v9 hb9
    have BV_v9 := Lib.hid hb9
    clear hb9
    have RAc := Lib.hid (RA1.out.under BV_v9.out HLA)
    have RZc := Lib.hid (RZ1.out.under BV_v9.out RZ1.out.lt)
    have BTc := Lib.hid (BT1.out.trans (BV_v9.out.mono BT1.out.size))
    have ZF := Lib.hid (RZc.out.set cs)
    have BF := Lib.hid (below_setRow BTc.out (by omega) (b := w.heap.size + 1 + 1) cs)
    go_wp2_with (first | (refine wpList_load_row rfl 25 (.tmp 2) rfl w.heap.size rfl 25 cs (0, 0) _ RAc.out Try.underlying25 rfl (by rw [HZC.out]; exact i12) ?_) | (refine wpList_plain rfl fun _ hK => wp_store_row 25 (.tmp 4) (.tmp 77) rfl (w.heap.size + 1 + 1) cs rfl rfl 25 _ RZc.out (by rw [HZC.out]; exact i12) (by rw [HZC.out]; rfl) H1C.out (hK _ _ ?_); clear hK))
    (try simp only [Exit.inBlock, Exit.then])
    refine bodyPost_ret (results_cell_tmp rfl _ _ (w.heap.size + 1 + 1) 25 cs (0, 0) _ rfl ZF.out Try.underlying25 rfl (by rw [HZC.out]; exact i12)) rfl ?_
    exact ⟨by rw [HE.out, HC.out]; rfl, BF.out⟩
  have e2 : decide (cnt < 1) = false := by simpa using j2
  by_cases j3 : 32 < cnt
  case pos =>
    have s0_v0 := (BV_v0.out.cell (p := ⟨w.heap.size, 0, none⟩) HLA).trans s0
    have s1_v0 := (BV_v0.out.cell (p := ⟨w.heap.size, 1, none⟩) HLA).trans s1
    have s9_v0 := (BV_v0.out.cell (p := ⟨w.heap.size, 9, none⟩) HLA).trans s9
    have s10_v0 := (BV_v0.out.cell (p := ⟨w.heap.size, 10, none⟩) HLA).trans s10
    have q0_v0 := (BV_v0.out.cell (p := ⟨w.heap.size + 1, 0, none⟩) HLB).trans q0
    have q1_v0 := (BV_v0.out.cell (p := ⟨w.heap.size + 1, 1, none⟩) HLB).trans q1
    have q2_v0 := (BV_v0.out.cell (p := ⟨w.heap.size + 1, 2, none⟩) HLB).trans q2
    have q3_v0 := (BV_v0.out.cell (p := ⟨w.heap.size + 1, 3, none⟩) HLB).trans q3
    have q4_v0 := (BV_v0.out.cell (p := ⟨w.heap.size + 1, 4, none⟩) HLB).trans q4
    have q5_v0 := (BV_v0.out.cell (p := ⟨w.heap.size + 1, 5, none⟩) HLB).trans q5
    have q6_v0 := (BV_v0.out.cell (p := ⟨w.heap.size + 1, 6, none⟩) HLB).trans q6
    have sr_v0 := (BV_v0.out.cell (p := ⟨w.heap.size, 3, none⟩) HLA).trans sr
    have HE : Hid (step1 (⟨ph, 1, r0, r1, w0, w1, p0, p1, dl, gn, sw, fl⟩ : St) (⟨1, rev, cnt, delay, gen, tick, pass, st⟩ : Rc) = ((⟨ph, 1, r0, r1, w0, w1, p0, p1, dl, gn, sw, fl⟩ : St), false)) := Lib.hid (by unfold step1; rw [if_neg (by have := MP.out; simp only; omega), if_pos (by have hra : raS (⟨ph, 1, r0, r1, w0, w1, p0, p1, dl, gn, sw, fl⟩ : St) = r1 := rfl; rw [hra]; simp only; omega)])
    have e3 : decide (32 < cnt) = true := by simpa using j3
    go_upto_region 9 with (fail)
    go_wp2_with fail
    go_quiet (fail)
    go_upto_region 10 with (fail)
    refine name_w (fun W => Below u1.heap.size u1 W) (BV_v0.out.trans (below_drewN _ _ _)) ?_
    intro v9 hb9
    have BV_v9 := Lib.hid hb9
    clear hb9
    have RAc := Lib.hid (RA1.out.under BV_v9.out HLA)
    have RZc := Lib.hid (RZ1.out.under BV_v9.out RZ1.out.lt)
    have BTc := Lib.hid (BT1.out.trans (BV_v9.out.mono BT1.out.size))
    have ZF := Lib.hid (RZc.out.set cs)
    have BF := Lib.hid (below_setRow BTc.out (by omega) (b := w.heap.size + 1 + 1) cs)
    go_wp2_with (first | (refine wpList_load_row rfl 25 (.tmp 2) rfl w.heap.size rfl 25 cs (0, 0) _ RAc.out Try.underlying25 rfl (by rw [HZC.out]; exact i12) ?_) | (refine wpList_plain rfl fun _ hK => wp_store_row 25 (.tmp 4) (.tmp 77) rfl (w.heap.size + 1 + 1) cs rfl rfl 25 _ RZc.out (by rw [HZC.out]; exact i12) (by rw [HZC.out]; rfl) H1C.out (hK _ _ ?_); clear hK))
    (try simp only [Exit.inBlock, Exit.then])
    refine bodyPost_ret (results_cell_tmp rfl _ _ (w.heap.size + 1 + 1) 25 cs (0, 0) _ rfl ZF.out Try.underlying25 rfl (by rw [HZC.out]; exact i12)) rfl ?_
    exact ⟨by rw [HE.out, HC.out]; rfl, BF.out⟩
  have e3 : decide (32 < cnt) = false := by simpa using j3
  by_cases j4 : delay < 0
  case pos =>
    have s0_v0 := (BV_v0.out.cell (p := ⟨w.heap.size, 0, none⟩) HLA).trans s0
    have s1_v0 := (BV_v0.out.cell (p := ⟨w.heap.size, 1, none⟩) HLA).trans s1
    have s9_v0 := (BV_v0.out.cell (p := ⟨w.heap.size, 9, none⟩) HLA).trans s9
    have s10_v0 := (BV_v0.out.cell (p := ⟨w.heap.size, 10, none⟩) HLA).trans s10
    have q0_v0 := (BV_v0.out.cell (p := ⟨w.heap.size + 1, 0, none⟩) HLB).trans q0
    have q1_v0 := (BV_v0.out.cell (p := ⟨w.heap.size + 1, 1, none⟩) HLB).trans q1
    have q2_v0 := (BV_v0.out.cell (p := ⟨w.heap.size + 1, 2, none⟩) HLB).trans q2
    have q3_v0 := (BV_v0.out.cell (p := ⟨w.heap.size + 1, 3, none⟩) HLB).trans q3
    have q4_v0 := (BV_v0.out.cell (p := ⟨w.heap.size + 1, 4, none⟩) HLB).trans q4
    have q5_v0 := (BV_v0.out.cell (p := ⟨w.heap.size + 1, 5, none⟩) HLB).trans q5
    have q6_v0 := (BV_v0.out.cell (p := ⟨w.heap.size + 1, 6, none⟩) HLB).trans q6
    have sr_v0 := (BV_v0.out.cell (p := ⟨w.heap.size, 3, none⟩) HLA).trans sr
    have HE : Hid (step1 (⟨ph, 1, r0, r1, w0, w1, p0, p1, dl, gn, sw, fl⟩ : St) (⟨1, rev, cnt, delay, gen, tick, pass, st⟩ : Rc) = ((⟨ph, 1, r0, r1, w0, w1, p0, p1, dl, gn, sw, fl⟩ : St), false)) := Lib.hid (by unfold step1; rw [if_neg (by have := MP.out; simp only; omega), if_pos (by have hra : raS (⟨ph, 1, r0, r1, w0, w1, p0, p1, dl, gn, sw, fl⟩ : St) = r1 := rfl; rw [hra]; simp only; omega)])
    have e4 : decide (delay < 0) = true := by simpa using j4
    go_upto_region 9 with (fail)
    go_wp2_with fail
    go_quiet (fail)
    go_upto_region 10 with (fail)
    refine name_w (fun W => Below u1.heap.size u1 W) (BV_v0.out.trans (below_drewN _ _ _)) ?_
    intro v9 hb9
    have BV_v9 := Lib.hid hb9
    clear hb9
    have RAc := Lib.hid (RA1.out.under BV_v9.out HLA)
    have RZc := Lib.hid (RZ1.out.under BV_v9.out RZ1.out.lt)
    have BTc := Lib.hid (BT1.out.trans (BV_v9.out.mono BT1.out.size))
    have ZF := Lib.hid (RZc.out.set cs)
    have BF := Lib.hid (below_setRow BTc.out (by omega) (b := w.heap.size + 1 + 1) cs)
    go_wp2_with (first | (refine wpList_load_row rfl 25 (.tmp 2) rfl w.heap.size rfl 25 cs (0, 0) _ RAc.out Try.underlying25 rfl (by rw [HZC.out]; exact i12) ?_) | (refine wpList_plain rfl fun _ hK => wp_store_row 25 (.tmp 4) (.tmp 77) rfl (w.heap.size + 1 + 1) cs rfl rfl 25 _ RZc.out (by rw [HZC.out]; exact i12) (by rw [HZC.out]; rfl) H1C.out (hK _ _ ?_); clear hK))
    (try simp only [Exit.inBlock, Exit.then])
    refine bodyPost_ret (results_cell_tmp rfl _ _ (w.heap.size + 1 + 1) 25 cs (0, 0) _ rfl ZF.out Try.underlying25 rfl (by rw [HZC.out]; exact i12)) rfl ?_
    exact ⟨by rw [HE.out, HC.out]; rfl, BF.out⟩
  have e4 : decide (delay < 0) = false := by simpa using j4
  by_cases j5 : 65536 < delay
  case pos =>
    have s0_v0 := (BV_v0.out.cell (p := ⟨w.heap.size, 0, none⟩) HLA).trans s0
    have s1_v0 := (BV_v0.out.cell (p := ⟨w.heap.size, 1, none⟩) HLA).trans s1
    have s9_v0 := (BV_v0.out.cell (p := ⟨w.heap.size, 9, none⟩) HLA).trans s9
    have s10_v0 := (BV_v0.out.cell (p := ⟨w.heap.size, 10, none⟩) HLA).trans s10
    have q0_v0 := (BV_v0.out.cell (p := ⟨w.heap.size + 1, 0, none⟩) HLB).trans q0
    have q1_v0 := (BV_v0.out.cell (p := ⟨w.heap.size + 1, 1, none⟩) HLB).trans q1
    have q2_v0 := (BV_v0.out.cell (p := ⟨w.heap.size + 1, 2, none⟩) HLB).trans q2
    have q3_v0 := (BV_v0.out.cell (p := ⟨w.heap.size + 1, 3, none⟩) HLB).trans q3
    have q4_v0 := (BV_v0.out.cell (p := ⟨w.heap.size + 1, 4, none⟩) HLB).trans q4
    have q5_v0 := (BV_v0.out.cell (p := ⟨w.heap.size + 1, 5, none⟩) HLB).trans q5
    have q6_v0 := (BV_v0.out.cell (p := ⟨w.heap.size + 1, 6, none⟩) HLB).trans q6
    have sr_v0 := (BV_v0.out.cell (p := ⟨w.heap.size, 3, none⟩) HLA).trans sr
    have HE : Hid (step1 (⟨ph, 1, r0, r1, w0, w1, p0, p1, dl, gn, sw, fl⟩ : St) (⟨1, rev, cnt, delay, gen, tick, pass, st⟩ : Rc) = ((⟨ph, 1, r0, r1, w0, w1, p0, p1, dl, gn, sw, fl⟩ : St), false)) := Lib.hid (by unfold step1; rw [if_neg (by have := MP.out; simp only; omega), if_pos (by have hra : raS (⟨ph, 1, r0, r1, w0, w1, p0, p1, dl, gn, sw, fl⟩ : St) = r1 := rfl; rw [hra]; simp only; omega)])
    have e5 : decide (65536 < delay) = true := by simpa using j5
    go_upto_region 9 with (fail)
    go_wp2_with fail
    go_quiet (fail)
    go_upto_region 10 with (fail)
    refine name_w (fun W => Below u1.heap.size u1 W) (BV_v0.out.trans (below_drewN _ _ _)) ?_
    intro v9 hb9
    have BV_v9 := Lib.hid hb9
    clear hb9
    have RAc := Lib.hid (RA1.out.under BV_v9.out HLA)
    have RZc := Lib.hid (RZ1.out.under BV_v9.out RZ1.out.lt)
    have BTc := Lib.hid (BT1.out.trans (BV_v9.out.mono BT1.out.size))
    have ZF := Lib.hid (RZc.out.set cs)
    have BF := Lib.hid (below_setRow BTc.out (by omega) (b := w.heap.size + 1 + 1) cs)
    go_wp2_with (first | (refine wpList_load_row rfl 25 (.tmp 2) rfl w.heap.size rfl 25 cs (0, 0) _ RAc.out Try.underlying25 rfl (by rw [HZC.out]; exact i12) ?_) | (refine wpList_plain rfl fun _ hK => wp_store_row 25 (.tmp 4) (.tmp 77) rfl (w.heap.size + 1 + 1) cs rfl rfl 25 _ RZc.out (by rw [HZC.out]; exact i12) (by rw [HZC.out]; rfl) H1C.out (hK _ _ ?_); clear hK))
    (try simp only [Exit.inBlock, Exit.then])
    refine bodyPost_ret (results_cell_tmp rfl _ _ (w.heap.size + 1 + 1) 25 cs (0, 0) _ rfl ZF.out Try.underlying25 rfl (by rw [HZC.out]; exact i12)) rfl ?_
    exact ⟨by rw [HE.out, HC.out]; rfl, BF.out⟩
  have e5 : decide (65536 < delay) = false := by simpa using j5
  by_cases j6 : rev = r1
  case pos =>
    have s0_v0 := (BV_v0.out.cell (p := ⟨w.heap.size, 0, none⟩) HLA).trans s0
    have s1_v0 := (BV_v0.out.cell (p := ⟨w.heap.size, 1, none⟩) HLA).trans s1
    have s9_v0 := (BV_v0.out.cell (p := ⟨w.heap.size, 9, none⟩) HLA).trans s9
    have s10_v0 := (BV_v0.out.cell (p := ⟨w.heap.size, 10, none⟩) HLA).trans s10
    have q0_v0 := (BV_v0.out.cell (p := ⟨w.heap.size + 1, 0, none⟩) HLB).trans q0
    have q1_v0 := (BV_v0.out.cell (p := ⟨w.heap.size + 1, 1, none⟩) HLB).trans q1
    have q2_v0 := (BV_v0.out.cell (p := ⟨w.heap.size + 1, 2, none⟩) HLB).trans q2
    have q3_v0 := (BV_v0.out.cell (p := ⟨w.heap.size + 1, 3, none⟩) HLB).trans q3
    have q4_v0 := (BV_v0.out.cell (p := ⟨w.heap.size + 1, 4, none⟩) HLB).trans q4
    have q5_v0 := (BV_v0.out.cell (p := ⟨w.heap.size + 1, 5, none⟩) HLB).trans q5
    have q6_v0 := (BV_v0.out.cell (p := ⟨w.heap.size + 1, 6, none⟩) HLB).trans q6
    have sr_v0 := (BV_v0.out.cell (p := ⟨w.heap.size, 3, none⟩) HLA).trans sr
    have HE : Hid (step1 (⟨ph, 1, r0, r1, w0, w1, p0, p1, dl, gn, sw, fl⟩ : St) (⟨1, rev, cnt, delay, gen, tick, pass, st⟩ : Rc) = ((⟨ph, 1, r0, r1, w0, w1, p0, p1, dl, gn, sw, fl⟩ : St), false)) := Lib.hid (by unfold step1; rw [if_neg (by have := MP.out; simp only; omega), if_pos (by have hra : raS (⟨ph, 1, r0, r1, w0, w1, p0, p1, dl, gn, sw, fl⟩ : St) = r1 := rfl; rw [hra]; simp only; omega)])
    have e6 : (rev == r1) = true := by simpa using j6
    clear j6
    go_upto_region 9 with (fail)
    go_wp2_with fail
    go_quiet (fail)
    go_upto_region 10 with (fail)
    refine name_w (fun W => Below u1.heap.size u1 W) (BV_v0.out.trans (below_drewN _ _ _)) ?_
    intro v9 hb9
    have BV_v9 := Lib.hid hb9
    clear hb9
    have RAc := Lib.hid (RA1.out.under BV_v9.out HLA)
    have RZc := Lib.hid (RZ1.out.under BV_v9.out RZ1.out.lt)
    have BTc := Lib.hid (BT1.out.trans (BV_v9.out.mono BT1.out.size))
    have ZF := Lib.hid (RZc.out.set cs)
    have BF := Lib.hid (below_setRow BTc.out (by omega) (b := w.heap.size + 1 + 1) cs)
    go_wp2_with (first | (refine wpList_load_row rfl 25 (.tmp 2) rfl w.heap.size rfl 25 cs (0, 0) _ RAc.out Try.underlying25 rfl (by rw [HZC.out]; exact i12) ?_) | (refine wpList_plain rfl fun _ hK => wp_store_row 25 (.tmp 4) (.tmp 77) rfl (w.heap.size + 1 + 1) cs rfl rfl 25 _ RZc.out (by rw [HZC.out]; exact i12) (by rw [HZC.out]; rfl) H1C.out (hK _ _ ?_); clear hK))
    (try simp only [Exit.inBlock, Exit.then])
    refine bodyPost_ret (results_cell_tmp rfl _ _ (w.heap.size + 1 + 1) 25 cs (0, 0) _ rfl ZF.out Try.underlying25 rfl (by rw [HZC.out]; exact i12)) rfl ?_
    exact ⟨by rw [HE.out, HC.out]; rfl, BF.out⟩
  have e6 : (rev == r1) = false := by simpa using j6
  by_cases j7 : 1048574 < gn
  case pos =>
    have s0_v0 := (BV_v0.out.cell (p := ⟨w.heap.size, 0, none⟩) HLA).trans s0
    have s1_v0 := (BV_v0.out.cell (p := ⟨w.heap.size, 1, none⟩) HLA).trans s1
    have s9_v0 := (BV_v0.out.cell (p := ⟨w.heap.size, 9, none⟩) HLA).trans s9
    have s10_v0 := (BV_v0.out.cell (p := ⟨w.heap.size, 10, none⟩) HLA).trans s10
    have q0_v0 := (BV_v0.out.cell (p := ⟨w.heap.size + 1, 0, none⟩) HLB).trans q0
    have q1_v0 := (BV_v0.out.cell (p := ⟨w.heap.size + 1, 1, none⟩) HLB).trans q1
    have q2_v0 := (BV_v0.out.cell (p := ⟨w.heap.size + 1, 2, none⟩) HLB).trans q2
    have q3_v0 := (BV_v0.out.cell (p := ⟨w.heap.size + 1, 3, none⟩) HLB).trans q3
    have q4_v0 := (BV_v0.out.cell (p := ⟨w.heap.size + 1, 4, none⟩) HLB).trans q4
    have q5_v0 := (BV_v0.out.cell (p := ⟨w.heap.size + 1, 5, none⟩) HLB).trans q5
    have q6_v0 := (BV_v0.out.cell (p := ⟨w.heap.size + 1, 6, none⟩) HLB).trans q6
    have sr_v0 := (BV_v0.out.cell (p := ⟨w.heap.size, 3, none⟩) HLA).trans sr
    have HE : Hid (step1 (⟨ph, 1, r0, r1, w0, w1, p0, p1, dl, gn, sw, fl⟩ : St) (⟨1, rev, cnt, delay, gen, tick, pass, st⟩ : Rc) = ((⟨ph, 1, r0, r1, w0, w1, p0, p1, dl, gn, sw, fl⟩ : St), false)) := Lib.hid (by unfold step1; rw [if_neg (by have := MP.out; simp only; omega), if_pos (by have hra : raS (⟨ph, 1, r0, r1, w0, w1, p0, p1, dl, gn, sw, fl⟩ : St) = r1 := rfl; rw [hra]; simp only; omega)])
    have e7 : decide (1048574 < gn) = true := by simpa using j7
    go_upto_region 9 with (fail)
    go_wp2_with fail
    go_quiet (fail)
    go_upto_region 10 with (fail)
    refine name_w (fun W => Below u1.heap.size u1 W) (BV_v0.out.trans (below_drewN _ _ _)) ?_
    intro v9 hb9
    have BV_v9 := Lib.hid hb9
    clear hb9
    have RAc := Lib.hid (RA1.out.under BV_v9.out HLA)
    have RZc := Lib.hid (RZ1.out.under BV_v9.out RZ1.out.lt)
    have BTc := Lib.hid (BT1.out.trans (BV_v9.out.mono BT1.out.size))
    have ZF := Lib.hid (RZc.out.set cs)
    have BF := Lib.hid (below_setRow BTc.out (by omega) (b := w.heap.size + 1 + 1) cs)
    go_wp2_with (first | (refine wpList_load_row rfl 25 (.tmp 2) rfl w.heap.size rfl 25 cs (0, 0) _ RAc.out Try.underlying25 rfl (by rw [HZC.out]; exact i12) ?_) | (refine wpList_plain rfl fun _ hK => wp_store_row 25 (.tmp 4) (.tmp 77) rfl (w.heap.size + 1 + 1) cs rfl rfl 25 _ RZc.out (by rw [HZC.out]; exact i12) (by rw [HZC.out]; rfl) H1C.out (hK _ _ ?_); clear hK))
    (try simp only [Exit.inBlock, Exit.then])
    refine bodyPost_ret (results_cell_tmp rfl _ _ (w.heap.size + 1 + 1) 25 cs (0, 0) _ rfl ZF.out Try.underlying25 rfl (by rw [HZC.out]; exact i12)) rfl ?_
    exact ⟨by rw [HE.out, HC.out]; rfl, BF.out⟩
  have e7 : decide (1048574 < gn) = false := by simpa using j7
  have s0_v0 := (BV_v0.out.cell (p := ⟨w.heap.size, 0, none⟩) HLA).trans s0
  have s1_v0 := (BV_v0.out.cell (p := ⟨w.heap.size, 1, none⟩) HLA).trans s1
  have s9_v0 := (BV_v0.out.cell (p := ⟨w.heap.size, 9, none⟩) HLA).trans s9
  have s10_v0 := (BV_v0.out.cell (p := ⟨w.heap.size, 10, none⟩) HLA).trans s10
  have q0_v0 := (BV_v0.out.cell (p := ⟨w.heap.size + 1, 0, none⟩) HLB).trans q0
  have q1_v0 := (BV_v0.out.cell (p := ⟨w.heap.size + 1, 1, none⟩) HLB).trans q1
  have q2_v0 := (BV_v0.out.cell (p := ⟨w.heap.size + 1, 2, none⟩) HLB).trans q2
  have q3_v0 := (BV_v0.out.cell (p := ⟨w.heap.size + 1, 3, none⟩) HLB).trans q3
  have q4_v0 := (BV_v0.out.cell (p := ⟨w.heap.size + 1, 4, none⟩) HLB).trans q4
  have q5_v0 := (BV_v0.out.cell (p := ⟨w.heap.size + 1, 5, none⟩) HLB).trans q5
  have q6_v0 := (BV_v0.out.cell (p := ⟨w.heap.size + 1, 6, none⟩) HLB).trans q6
  have sr_v0 := (BV_v0.out.cell (p := ⟨w.heap.size, 3, none⟩) HLA).trans sr
  go_upto_region 9 with (fail)
  go_wp2_with fail
  go_quiet (fail)
  go_upto_region 11 with (fail)
  refine name_w (fun W => Rw W u1.heap.size (stC (⟨ph, 1, r0, r1, w0, w1, p0, p1, dl, gn, sw, fl⟩ : St)) 25 ∧ Below u1.heap.size u1 W) ⟨RT_v0.out, BV_v0.out.trans (below_drewN _ _ _)⟩ ?_
  clear s0_v0 s1_v0 s9_v0 s10_v0 q0_v0 q1_v0 q2_v0 q3_v0 q4_v0 q5_v0 q6_v0
  clear sr_v0 sr e0 e1 e2 e3 e4 e5 e6 e7
  rintro v1 ⟨hT, hb⟩
  have RT_v1 := Lib.hid hT
  have BV_v1 := Lib.hid hb
  clear hT hb
  have s0_v1 := (BV_v1.out.cell (p := ⟨w.heap.size, 0, none⟩) HLA).trans s0
  have s1_v1 := (BV_v1.out.cell (p := ⟨w.heap.size, 1, none⟩) HLA).trans s1
  have s9_v1 := (BV_v1.out.cell (p := ⟨w.heap.size, 9, none⟩) HLA).trans s9
  have s10_v1 := (BV_v1.out.cell (p := ⟨w.heap.size, 10, none⟩) HLA).trans s10
  have q0_v1 := (BV_v1.out.cell (p := ⟨w.heap.size + 1, 0, none⟩) HLB).trans q0
  have q1_v1 := (BV_v1.out.cell (p := ⟨w.heap.size + 1, 1, none⟩) HLB).trans q1
  have q2_v1 := (BV_v1.out.cell (p := ⟨w.heap.size + 1, 2, none⟩) HLB).trans q2
  have q3_v1 := (BV_v1.out.cell (p := ⟨w.heap.size + 1, 3, none⟩) HLB).trans q3
  have q4_v1 := (BV_v1.out.cell (p := ⟨w.heap.size + 1, 4, none⟩) HLB).trans q4
  have q5_v1 := (BV_v1.out.cell (p := ⟨w.heap.size + 1, 5, none⟩) HLB).trans q5
  have q6_v1 := (BV_v1.out.cell (p := ⟨w.heap.size + 1, 6, none⟩) HLB).trans q6
  have c_v1 : v1.cell? ⟨u1.heap.size, 2, none⟩ = some (.int .i64 r0) := by rw [RT_v1.out.cell 2]; rfl
  have fr_v1 := RT_v1.out.fr 2
  go_upto_region 12 with (fail)
  refine name_w (fun W => Rw W u1.heap.size (stC (⟨ph, 1, rev, r1, w0, w1, p0, p1, dl, gn, sw, fl⟩ : St)) 25 ∧ Below u1.heap.size u1 W) ⟨heap_setCell_same _ _ 2 _ 25 (.int .i64 rev) RT_v1.out, below_setCell BV_v1.out (Nat.le_refl _) _⟩ ?_
  clear c_v1 fr_v1
  clear s0_v1 s1_v1 s9_v1 s10_v1 q0_v1 q1_v1 q2_v1 q3_v1 q4_v1 q5_v1 q6_v1
  rintro v2 ⟨hT, hb⟩
  have RT_v2 := Lib.hid hT
  have BV_v2 := Lib.hid hb
  clear hT hb
  have s0_v2 := (BV_v2.out.cell (p := ⟨w.heap.size, 0, none⟩) HLA).trans s0
  have s1_v2 := (BV_v2.out.cell (p := ⟨w.heap.size, 1, none⟩) HLA).trans s1
  have s9_v2 := (BV_v2.out.cell (p := ⟨w.heap.size, 9, none⟩) HLA).trans s9
  have s10_v2 := (BV_v2.out.cell (p := ⟨w.heap.size, 10, none⟩) HLA).trans s10
  have q0_v2 := (BV_v2.out.cell (p := ⟨w.heap.size + 1, 0, none⟩) HLB).trans q0
  have q1_v2 := (BV_v2.out.cell (p := ⟨w.heap.size + 1, 1, none⟩) HLB).trans q1
  have q2_v2 := (BV_v2.out.cell (p := ⟨w.heap.size + 1, 2, none⟩) HLB).trans q2
  have q3_v2 := (BV_v2.out.cell (p := ⟨w.heap.size + 1, 3, none⟩) HLB).trans q3
  have q4_v2 := (BV_v2.out.cell (p := ⟨w.heap.size + 1, 4, none⟩) HLB).trans q4
  have q5_v2 := (BV_v2.out.cell (p := ⟨w.heap.size + 1, 5, none⟩) HLB).trans q5
  have q6_v2 := (BV_v2.out.cell (p := ⟨w.heap.size + 1, 6, none⟩) HLB).trans q6
  have c_v2 : v2.cell? ⟨u1.heap.size, 4, none⟩ = some (.int .i64 w0) := by rw [RT_v2.out.cell 4]; rfl
  have fr_v2 := RT_v2.out.fr 4
  go_upto_region 13 with (fail)
  refine name_w (fun W => Rw W u1.heap.size (stC (⟨ph, 1, rev, r1, cnt, w1, p0, p1, dl, gn, sw, fl⟩ : St)) 25 ∧ Below u1.heap.size u1 W) ⟨heap_setCell_same _ _ 4 _ 25 (.int .i64 cnt) RT_v2.out, below_setCell BV_v2.out (Nat.le_refl _) _⟩ ?_
  clear c_v2 fr_v2
  clear s0_v2 s1_v2 s9_v2 s10_v2 q0_v2 q1_v2 q2_v2 q3_v2 q4_v2 q5_v2 q6_v2
  rintro v3 ⟨hT, hb⟩
  have RT_v3 := Lib.hid hT
  have BV_v3 := Lib.hid hb
  clear hT hb
  have s0_v3 := (BV_v3.out.cell (p := ⟨w.heap.size, 0, none⟩) HLA).trans s0
  have s1_v3 := (BV_v3.out.cell (p := ⟨w.heap.size, 1, none⟩) HLA).trans s1
  have s9_v3 := (BV_v3.out.cell (p := ⟨w.heap.size, 9, none⟩) HLA).trans s9
  have s10_v3 := (BV_v3.out.cell (p := ⟨w.heap.size, 10, none⟩) HLA).trans s10
  have q0_v3 := (BV_v3.out.cell (p := ⟨w.heap.size + 1, 0, none⟩) HLB).trans q0
  have q1_v3 := (BV_v3.out.cell (p := ⟨w.heap.size + 1, 1, none⟩) HLB).trans q1
  have q2_v3 := (BV_v3.out.cell (p := ⟨w.heap.size + 1, 2, none⟩) HLB).trans q2
  have q3_v3 := (BV_v3.out.cell (p := ⟨w.heap.size + 1, 3, none⟩) HLB).trans q3
  have q4_v3 := (BV_v3.out.cell (p := ⟨w.heap.size + 1, 4, none⟩) HLB).trans q4
  have q5_v3 := (BV_v3.out.cell (p := ⟨w.heap.size + 1, 5, none⟩) HLB).trans q5
  have q6_v3 := (BV_v3.out.cell (p := ⟨w.heap.size + 1, 6, none⟩) HLB).trans q6
  have c_v3 : v3.cell? ⟨u1.heap.size, 6, none⟩ = some (.bool p0) := by rw [RT_v3.out.cell 6]; rfl
  have fr_v3 := RT_v3.out.fr 6
  go_upto_region 14 with (fail)
  refine name_w (fun W => Rw W u1.heap.size (stC (⟨ph, 1, rev, r1, cnt, w1, false, p1, dl, gn, sw, fl⟩ : St)) 25 ∧ Below u1.heap.size u1 W) ⟨heap_setCell_same _ _ 6 _ 25 (.bool false) RT_v3.out, below_setCell BV_v3.out (Nat.le_refl _) _⟩ ?_
  clear c_v3 fr_v3
  clear s0_v3 s1_v3 s9_v3 s10_v3 q0_v3 q1_v3 q2_v3 q3_v3 q4_v3 q5_v3 q6_v3
  rintro v4 ⟨hT, hb⟩
  have RT_v4 := Lib.hid hT
  have BV_v4 := Lib.hid hb
  clear hT hb
  have s0_v4 := (BV_v4.out.cell (p := ⟨w.heap.size, 0, none⟩) HLA).trans s0
  have s1_v4 := (BV_v4.out.cell (p := ⟨w.heap.size, 1, none⟩) HLA).trans s1
  have s9_v4 := (BV_v4.out.cell (p := ⟨w.heap.size, 9, none⟩) HLA).trans s9
  have s10_v4 := (BV_v4.out.cell (p := ⟨w.heap.size, 10, none⟩) HLA).trans s10
  have q0_v4 := (BV_v4.out.cell (p := ⟨w.heap.size + 1, 0, none⟩) HLB).trans q0
  have q1_v4 := (BV_v4.out.cell (p := ⟨w.heap.size + 1, 1, none⟩) HLB).trans q1
  have q2_v4 := (BV_v4.out.cell (p := ⟨w.heap.size + 1, 2, none⟩) HLB).trans q2
  have q3_v4 := (BV_v4.out.cell (p := ⟨w.heap.size + 1, 3, none⟩) HLB).trans q3
  have q4_v4 := (BV_v4.out.cell (p := ⟨w.heap.size + 1, 4, none⟩) HLB).trans q4
  have q5_v4 := (BV_v4.out.cell (p := ⟨w.heap.size + 1, 5, none⟩) HLB).trans q5
  have q6_v4 := (BV_v4.out.cell (p := ⟨w.heap.size + 1, 6, none⟩) HLB).trans q6
  have c_v4 : v4.cell? ⟨u1.heap.size, 8, none⟩ = some (.int .i64 dl) := by rw [RT_v4.out.cell 8]; rfl
  have fr_v4 := RT_v4.out.fr 8
  go_upto_region 15 with (fail)
  refine name_w (fun W => Rw W u1.heap.size (stC (⟨ph, 1, rev, r1, cnt, w1, false, p1, delay, gn, sw, fl⟩ : St)) 25 ∧ Below u1.heap.size u1 W) ⟨heap_setCell_same _ _ 8 _ 25 (.int .i64 delay) RT_v4.out, below_setCell BV_v4.out (Nat.le_refl _) _⟩ ?_
  clear c_v4 fr_v4
  clear s0_v4 s1_v4 s9_v4 s10_v4 q0_v4 q1_v4 q2_v4 q3_v4 q4_v4 q5_v4 q6_v4
  rintro v5 ⟨hT, hb⟩
  have RT_v5 := Lib.hid hT
  have BV_v5 := Lib.hid hb
  clear hT hb
  have s0_v5 := (BV_v5.out.cell (p := ⟨w.heap.size, 0, none⟩) HLA).trans s0
  have s1_v5 := (BV_v5.out.cell (p := ⟨w.heap.size, 1, none⟩) HLA).trans s1
  have s9_v5 := (BV_v5.out.cell (p := ⟨w.heap.size, 9, none⟩) HLA).trans s9
  have s10_v5 := (BV_v5.out.cell (p := ⟨w.heap.size, 10, none⟩) HLA).trans s10
  have q0_v5 := (BV_v5.out.cell (p := ⟨w.heap.size + 1, 0, none⟩) HLB).trans q0
  have q1_v5 := (BV_v5.out.cell (p := ⟨w.heap.size + 1, 1, none⟩) HLB).trans q1
  have q2_v5 := (BV_v5.out.cell (p := ⟨w.heap.size + 1, 2, none⟩) HLB).trans q2
  have q3_v5 := (BV_v5.out.cell (p := ⟨w.heap.size + 1, 3, none⟩) HLB).trans q3
  have q4_v5 := (BV_v5.out.cell (p := ⟨w.heap.size + 1, 4, none⟩) HLB).trans q4
  have q5_v5 := (BV_v5.out.cell (p := ⟨w.heap.size + 1, 5, none⟩) HLB).trans q5
  have q6_v5 := (BV_v5.out.cell (p := ⟨w.heap.size + 1, 6, none⟩) HLB).trans q6
  have c_v5 : v5.cell? ⟨u1.heap.size, 0, none⟩ = some (.int .i64 ph) := by rw [RT_v5.out.cell 0]; rfl
  have fr_v5 := RT_v5.out.fr 0
  go_upto_region 16 with (fail)
  refine name_w (fun W => Rw W u1.heap.size (stC (⟨1, 1, rev, r1, cnt, w1, false, p1, delay, gn, sw, fl⟩ : St)) 25 ∧ Below u1.heap.size u1 W) ⟨heap_setCell_same _ _ 0 _ 25 (.int .i64 1) RT_v5.out, below_setCell BV_v5.out (Nat.le_refl _) _⟩ ?_
  clear c_v5 fr_v5
  clear s0_v5 s1_v5 s9_v5 s10_v5 q0_v5 q1_v5 q2_v5 q3_v5 q4_v5 q5_v5 q6_v5
  rintro v6 ⟨hT, hb⟩
  have RT_v6 := Lib.hid hT
  have BV_v6 := Lib.hid hb
  clear hT hb
  obtain ⟨ns, hns⟩ : ∃ c, c = stC (⟨1, 1, rev, r1, cnt, w1, false, p1, delay, gn, sw, fl⟩ : St) := ⟨_, rfl⟩
  have HZN : Hid (ns.size = 12) := Lib.hid (by rw [hns]; rfl)
  have H1N : Hid (ns.all (·.oneCell') = true) := Lib.hid (by rw [hns]; exact stC_one _)
  have HN := Lib.hid hns
  have RN : Hid (Rw v6 u1.heap.size ns 25) := Lib.hid (by rw [hns]; exact RT_v6.out)
  clear hns
  have RZc := Lib.hid (RZ1.out.under BV_v6.out RZ1.out.lt)
  have BTc := Lib.hid (BT1.out.trans (BV_v6.out.mono BT1.out.size))
  have HE : Hid (step1 (⟨ph, 1, r0, r1, w0, w1, p0, p1, dl, gn, sw, fl⟩ : St) (⟨1, rev, cnt, delay, gen, tick, pass, st⟩ : Rc) = ((⟨1, 1, rev, r1, cnt, w1, false, p1, delay, gn, sw, fl⟩ : St), true)) := Lib.hid (by unfold step1; rw [if_neg (by have := MP.out; simp only; omega), if_neg (by have hra : raS (⟨ph, 1, r0, r1, w0, w1, p0, p1, dl, gn, sw, fl⟩ : St) = r1 := rfl; rw [hra]; simp only; omega)]; rfl)
  have ZF := Lib.hid (RZc.out.set ns)
  have BF := Lib.hid (below_setRow BTc.out (by omega) (b := w.heap.size + 1 + 1) ns)
  go_wp2_with (first | (refine wpList_load_row rfl 25 (.tmp 6) rfl u1.heap.size rfl 25 ns (0, 0) _ RN.out Try.underlying25 rfl (by rw [HZN.out]; exact i12) ?_) | (refine wpList_plain rfl fun _ hK => wp_store_row 25 (.tmp 4) (.tmp 95) rfl (w.heap.size + 1 + 1) ns rfl rfl 25 _ RZc.out (by rw [HZN.out]; exact i12) (by rw [HZN.out]; rfl) H1N.out (hK _ _ ?_); clear hK))
  (try simp only [Exit.inBlock, Exit.then])
  refine bodyPost_ret (results_cell_tmp rfl _ _ (w.heap.size + 1 + 1) 25 ns (0, 0) _ rfl ZF.out Try.underlying25 rfl (by rw [HZN.out]; exact i12)) rfl ?_
  exact ⟨by rw [HE.out, HN.out]; rfl, BF.out⟩
end Go.Proofs.Ytoeelglmdnhknaa
