/-
  What package fold's deploy answers.
-/
import Derived.Test.YtchaeidmjoelnaaFoChB
import Derived.Deep.RegionHeld3
namespace Go.Proofs.Ytchaeidmjoelnaa
open Go.RowKit

set_option maxRecDepth 100000 in
set_option maxHeartbeats 4000000 in
theorem deploy_0 (s : St) (r : Rc) (w : World) (hac : s.ac = 0) : Calls Try.prog 66 #[stV s, recV r] w (StepR (dep1 s r) w) := by
  have HOT : Hid (∀ W, Calls Try.prog 64 #[stV s] W fun e w' => e = .returned (.int .i64 1) ∧ Below W.heap.size W w') := Lib.hid (fun W => other_0 s W hac)
  obtain ⟨ph, ac, r0, r1, w0, w1, p0, p1, dl, gn, sw, fl⟩ := s
  obtain ⟨kind, rev, cnt, delay, gen, tick, pass, st⟩ := r
  obtain rfl : ac = 0 := hac
  unfold stV at HOT ⊢
  unfold recV
  obtain ⟨cs, hcs⟩ : ∃ c, c = stC (⟨ph, 0, r0, r1, w0, w1, p0, p1, dl, gn, sw, fl⟩ : St) := ⟨_, rfl⟩
  obtain ⟨rs, hrs⟩ : ∃ c, c = recC (⟨kind, rev, cnt, delay, gen, tick, pass, st⟩ : Rc) := ⟨_, rfl⟩
  rw [← hcs] at HOT ⊢
  rw [← hrs]
  have HC := Lib.hid hcs
  have HRR := Lib.hid hrs
  have HZC : Hid (cs.size = 12) := Lib.hid (by rw [hcs]; rfl)
  have H1C : Hid (cs.all (·.oneCell') = true) := Lib.hid (by rw [hcs]; exact stC_one _)
  clear hcs hrs
  go_enter Try.func66, Try.ntmps66
  go_upto_region 1 with (fail)
  refine name_w (fun W => Rw W w.heap.size cs 38 ∧ Rw W (w.heap.size + 1) rs 72 ∧ Rw W (w.heap.size + 1 + 1) zeroSC 38 ∧ Below w.heap.size w W) ⟨((Rw.new _ _ _).alloc _).alloc _, Rw.alloc (heap_alloc2_new w _ _) _, ?_, (((Below.refl _ _).alloc (Nat.le_refl _) _).alloc (by simp) _).alloc (by simp; omega) _⟩ ?_
  · have h1 := Rw.new ((w.alloc (.cells cs 38)).alloc (.cells rs 72)) zeroSC 38
    rw [size_alloc, size_alloc] at h1
    exact h1
  rintro u0 ⟨hA, hB, hZ, hb⟩
  have RA0 := Lib.hid hA
  have RB0 := Lib.hid hB
  have RZ0 := Lib.hid hZ
  have BT0 := Lib.hid hb
  clear hA hB hZ hb
  cases i0 : inR rev 1 1073741824 with
  | false =>
    have HE : Hid (dep1 (⟨ph, 0, r0, r1, w0, w1, p0, p1, dl, gn, sw, fl⟩ : St) (⟨kind, rev, cnt, delay, gen, tick, pass, st⟩ : Rc) = ((⟨ph, 0, r0, r1, w0, w1, p0, p1, dl, gn, sw, fl⟩ : St), false)) := Lib.hid (by unfold dep1; rw [if_pos (by have h1 := i0; unfold inR at h1; simp at h1; simp only; omega)])
    have q1_0 : u0.cell? ⟨w.heap.size + 1, 1, none⟩ = some (.int .i64 rev) := by rw [RB0.out.cell 1, HRR.out]; rfl
    have s1_0 : u0.cell? ⟨w.heap.size, 1, none⟩ = some (.int .i64 0) := by rw [RA0.out.cell 1, HC.out]; rfl
    have s2_0 : u0.cell? ⟨w.heap.size, 2, none⟩ = some (.int .i64 r0) := by rw [RA0.out.cell 2, HC.out]; rfl
    have s9_0 : u0.cell? ⟨w.heap.size, 9, none⟩ = some (.int .i64 gn) := by rw [RA0.out.cell 9, HC.out]; rfl
    go_upto_region 2 with (first | (go_at_call 63; refine (within_any _ _ _ _).mono ?_; rintro e w' ⟨rfl, rfl⟩) )
    go_wp2_with fail
    go_quiet (fail)
    go_upto_region 3 with (fail)
    refine name_w (fun W => Rw W w.heap.size cs 38 ∧ Rw W (w.heap.size + 1) rs 72 ∧ Rw W (w.heap.size + 1 + 1) zeroSC 38 ∧ Below w.heap.size w W) ⟨RA0.out.under (below_drewN _ _ _) RA0.out.lt, RB0.out.under (below_drewN _ _ _) RB0.out.lt, RZ0.out.under (below_drewN _ _ _) RZ0.out.lt, BT0.out.trans (below_drewN _ _ _)⟩ ?_
    rintro u1 ⟨hA, hB, hZ, hb⟩
    have RA1 := Lib.hid hA
    have RB1 := Lib.hid hB
    have RZ1 := Lib.hid hZ
    have BT1 := Lib.hid hb
    clear hA hB hZ hb RA0 RB0 RZ0 BT0
    have ZF := Lib.hid (RZ1.out.set cs)
    have BF := Lib.hid (below_setRow BT1.out (by omega) (b := w.heap.size + 1 + 1) cs)
    go_wp2_with (first | (refine wpList_load_row rfl 38 (.tmp 2) rfl w.heap.size rfl 38 cs (0, 0) _ RA1.out Try.underlying38 rfl (by rw [HZC.out]; exact i12) ?_) | (refine wpList_plain rfl fun _ hK => wp_store_row 38 (.tmp 4) (.tmp 38) rfl (w.heap.size + 1 + 1) cs rfl rfl 38 _ RZ1.out (by rw [HZC.out]; exact i12) (by rw [HZC.out]; rfl) H1C.out (hK _ _ ?_); clear hK))
    (try simp only [Exit.inBlock, Exit.then])
    refine bodyPost_ret (results_cell_tmp rfl _ _ (w.heap.size + 1 + 1) 38 cs (0, 0) _ rfl ZF.out Try.underlying38 rfl (by rw [HZC.out]; exact i12)) rfl ?_
    exact ⟨by rw [HE.out, HC.out]; rfl, BF.out⟩
  | true =>
  cases i1 : inR cnt 1 32 with
  | false =>
    have HE : Hid (dep1 (⟨ph, 0, r0, r1, w0, w1, p0, p1, dl, gn, sw, fl⟩ : St) (⟨kind, rev, cnt, delay, gen, tick, pass, st⟩ : Rc) = ((⟨ph, 0, r0, r1, w0, w1, p0, p1, dl, gn, sw, fl⟩ : St), false)) := Lib.hid (by unfold dep1; rw [if_pos (by have h1 := i1; unfold inR at h1; simp at h1; simp only; omega)])
    have q1_0 : u0.cell? ⟨w.heap.size + 1, 1, none⟩ = some (.int .i64 rev) := by rw [RB0.out.cell 1, HRR.out]; rfl
    have q2_0 : u0.cell? ⟨w.heap.size + 1, 2, none⟩ = some (.int .i64 cnt) := by rw [RB0.out.cell 2, HRR.out]; rfl
    have s1_0 : u0.cell? ⟨w.heap.size, 1, none⟩ = some (.int .i64 0) := by rw [RA0.out.cell 1, HC.out]; rfl
    have s2_0 : u0.cell? ⟨w.heap.size, 2, none⟩ = some (.int .i64 r0) := by rw [RA0.out.cell 2, HC.out]; rfl
    have s9_0 : u0.cell? ⟨w.heap.size, 9, none⟩ = some (.int .i64 gn) := by rw [RA0.out.cell 9, HC.out]; rfl
    go_upto_region 2 with (first | (go_at_call 63; refine (within_any _ _ _ _).mono ?_; rintro e w' ⟨rfl, rfl⟩) )
    go_wp2_with fail
    go_quiet (fail)
    go_upto_region 3 with (fail)
    refine name_w (fun W => Rw W w.heap.size cs 38 ∧ Rw W (w.heap.size + 1) rs 72 ∧ Rw W (w.heap.size + 1 + 1) zeroSC 38 ∧ Below w.heap.size w W) ⟨RA0.out.under (below_drewN _ _ _) RA0.out.lt, RB0.out.under (below_drewN _ _ _) RB0.out.lt, RZ0.out.under (below_drewN _ _ _) RZ0.out.lt, BT0.out.trans (below_drewN _ _ _)⟩ ?_
    rintro u1 ⟨hA, hB, hZ, hb⟩
    have RA1 := Lib.hid hA
    have RB1 := Lib.hid hB
    have RZ1 := Lib.hid hZ
    have BT1 := Lib.hid hb
    clear hA hB hZ hb RA0 RB0 RZ0 BT0
    have ZF := Lib.hid (RZ1.out.set cs)
    have BF := Lib.hid (below_setRow BT1.out (by omega) (b := w.heap.size + 1 + 1) cs)
    go_wp2_with (first | (refine wpList_load_row rfl 38 (.tmp 2) rfl w.heap.size rfl 38 cs (0, 0) _ RA1.out Try.underlying38 rfl (by rw [HZC.out]; exact i12) ?_) | (refine wpList_plain rfl fun _ hK => wp_store_row 38 (.tmp 4) (.tmp 38) rfl (w.heap.size + 1 + 1) cs rfl rfl 38 _ RZ1.out (by rw [HZC.out]; exact i12) (by rw [HZC.out]; rfl) H1C.out (hK _ _ ?_); clear hK))
    (try simp only [Exit.inBlock, Exit.then])
    refine bodyPost_ret (results_cell_tmp rfl _ _ (w.heap.size + 1 + 1) 38 cs (0, 0) _ rfl ZF.out Try.underlying38 rfl (by rw [HZC.out]; exact i12)) rfl ?_
    exact ⟨by rw [HE.out, HC.out]; rfl, BF.out⟩
  | true =>
  cases i2 : inR delay 0 65536 with
  | false =>
    have HE : Hid (dep1 (⟨ph, 0, r0, r1, w0, w1, p0, p1, dl, gn, sw, fl⟩ : St) (⟨kind, rev, cnt, delay, gen, tick, pass, st⟩ : Rc) = ((⟨ph, 0, r0, r1, w0, w1, p0, p1, dl, gn, sw, fl⟩ : St), false)) := Lib.hid (by unfold dep1; rw [if_pos (by have h1 := i2; unfold inR at h1; simp at h1; simp only; omega)])
    have q1_0 : u0.cell? ⟨w.heap.size + 1, 1, none⟩ = some (.int .i64 rev) := by rw [RB0.out.cell 1, HRR.out]; rfl
    have q2_0 : u0.cell? ⟨w.heap.size + 1, 2, none⟩ = some (.int .i64 cnt) := by rw [RB0.out.cell 2, HRR.out]; rfl
    have q3_0 : u0.cell? ⟨w.heap.size + 1, 3, none⟩ = some (.int .i64 delay) := by rw [RB0.out.cell 3, HRR.out]; rfl
    have s1_0 : u0.cell? ⟨w.heap.size, 1, none⟩ = some (.int .i64 0) := by rw [RA0.out.cell 1, HC.out]; rfl
    have s2_0 : u0.cell? ⟨w.heap.size, 2, none⟩ = some (.int .i64 r0) := by rw [RA0.out.cell 2, HC.out]; rfl
    have s9_0 : u0.cell? ⟨w.heap.size, 9, none⟩ = some (.int .i64 gn) := by rw [RA0.out.cell 9, HC.out]; rfl
    go_upto_region 2 with (first | (go_at_call 63; refine (within_any _ _ _ _).mono ?_; rintro e w' ⟨rfl, rfl⟩) )
    go_wp2_with fail
    go_quiet (fail)
    go_upto_region 3 with (fail)
    refine name_w (fun W => Rw W w.heap.size cs 38 ∧ Rw W (w.heap.size + 1) rs 72 ∧ Rw W (w.heap.size + 1 + 1) zeroSC 38 ∧ Below w.heap.size w W) ⟨RA0.out.under (below_drewN _ _ _) RA0.out.lt, RB0.out.under (below_drewN _ _ _) RB0.out.lt, RZ0.out.under (below_drewN _ _ _) RZ0.out.lt, BT0.out.trans (below_drewN _ _ _)⟩ ?_
    rintro u1 ⟨hA, hB, hZ, hb⟩
    have RA1 := Lib.hid hA
    have RB1 := Lib.hid hB
    have RZ1 := Lib.hid hZ
    have BT1 := Lib.hid hb
    clear hA hB hZ hb RA0 RB0 RZ0 BT0
    have ZF := Lib.hid (RZ1.out.set cs)
    have BF := Lib.hid (below_setRow BT1.out (by omega) (b := w.heap.size + 1 + 1) cs)
    go_wp2_with (first | (refine wpList_load_row rfl 38 (.tmp 2) rfl w.heap.size rfl 38 cs (0, 0) _ RA1.out Try.underlying38 rfl (by rw [HZC.out]; exact i12) ?_) | (refine wpList_plain rfl fun _ hK => wp_store_row 38 (.tmp 4) (.tmp 38) rfl (w.heap.size + 1 + 1) cs rfl rfl 38 _ RZ1.out (by rw [HZC.out]; exact i12) (by rw [HZC.out]; rfl) H1C.out (hK _ _ ?_); clear hK))
    (try simp only [Exit.inBlock, Exit.then])
    refine bodyPost_ret (results_cell_tmp rfl _ _ (w.heap.size + 1 + 1) 38 cs (0, 0) _ rfl ZF.out Try.underlying38 rfl (by rw [HZC.out]; exact i12)) rfl ?_
    exact ⟨by rw [HE.out, HC.out]; rfl, BF.out⟩
  | true =>
  by_cases he : rev = r0
  case pos =>
    have HE : Hid (dep1 (⟨ph, 0, r0, r1, w0, w1, p0, p1, dl, gn, sw, fl⟩ : St) (⟨kind, rev, cnt, delay, gen, tick, pass, st⟩ : Rc) = ((⟨ph, 0, r0, r1, w0, w1, p0, p1, dl, gn, sw, fl⟩ : St), false)) := Lib.hid (by unfold dep1; rw [if_pos (by simp only; exact Or.inr (Or.inr (Or.inr (Or.inr (Or.inr (Or.inr (Or.inl he)))))))])
    have f1 : (rev == r0) = true := by simpa using he
    clear he
    have q1_0 : u0.cell? ⟨w.heap.size + 1, 1, none⟩ = some (.int .i64 rev) := by rw [RB0.out.cell 1, HRR.out]; rfl
    have q2_0 : u0.cell? ⟨w.heap.size + 1, 2, none⟩ = some (.int .i64 cnt) := by rw [RB0.out.cell 2, HRR.out]; rfl
    have q3_0 : u0.cell? ⟨w.heap.size + 1, 3, none⟩ = some (.int .i64 delay) := by rw [RB0.out.cell 3, HRR.out]; rfl
    have s1_0 : u0.cell? ⟨w.heap.size, 1, none⟩ = some (.int .i64 0) := by rw [RA0.out.cell 1, HC.out]; rfl
    have s2_0 : u0.cell? ⟨w.heap.size, 2, none⟩ = some (.int .i64 r0) := by rw [RA0.out.cell 2, HC.out]; rfl
    have s9_0 : u0.cell? ⟨w.heap.size, 9, none⟩ = some (.int .i64 gn) := by rw [RA0.out.cell 9, HC.out]; rfl
    go_upto_region 2 with (first | (go_at_call 63; refine (within_any _ _ _ _).mono ?_; rintro e w' ⟨rfl, rfl⟩) )
    go_wp2_with fail
    go_quiet (fail)
    go_upto_region 3 with (fail)
    refine name_w (fun W => Rw W w.heap.size cs 38 ∧ Rw W (w.heap.size + 1) rs 72 ∧ Rw W (w.heap.size + 1 + 1) zeroSC 38 ∧ Below w.heap.size w W) ⟨RA0.out.under (below_drewN _ _ _) RA0.out.lt, RB0.out.under (below_drewN _ _ _) RB0.out.lt, RZ0.out.under (below_drewN _ _ _) RZ0.out.lt, BT0.out.trans (below_drewN _ _ _)⟩ ?_
    rintro u1 ⟨hA, hB, hZ, hb⟩
    have RA1 := Lib.hid hA
    have RB1 := Lib.hid hB
    have RZ1 := Lib.hid hZ
    have BT1 := Lib.hid hb
    clear hA hB hZ hb RA0 RB0 RZ0 BT0
    have ZF := Lib.hid (RZ1.out.set cs)
    have BF := Lib.hid (below_setRow BT1.out (by omega) (b := w.heap.size + 1 + 1) cs)
    go_wp2_with (first | (refine wpList_load_row rfl 38 (.tmp 2) rfl w.heap.size rfl 38 cs (0, 0) _ RA1.out Try.underlying38 rfl (by rw [HZC.out]; exact i12) ?_) | (refine wpList_plain rfl fun _ hK => wp_store_row 38 (.tmp 4) (.tmp 38) rfl (w.heap.size + 1 + 1) cs rfl rfl 38 _ RZ1.out (by rw [HZC.out]; exact i12) (by rw [HZC.out]; rfl) H1C.out (hK _ _ ?_); clear hK))
    (try simp only [Exit.inBlock, Exit.then])
    refine bodyPost_ret (results_cell_tmp rfl _ _ (w.heap.size + 1 + 1) 38 cs (0, 0) _ rfl ZF.out Try.underlying38 rfl (by rw [HZC.out]; exact i12)) rfl ?_
    exact ⟨by rw [HE.out, HC.out]; rfl, BF.out⟩
  by_cases hg : 1048574 < gn
  case pos =>
    have HE : Hid (dep1 (⟨ph, 0, r0, r1, w0, w1, p0, p1, dl, gn, sw, fl⟩ : St) (⟨kind, rev, cnt, delay, gen, tick, pass, st⟩ : Rc) = ((⟨ph, 0, r0, r1, w0, w1, p0, p1, dl, gn, sw, fl⟩ : St), false)) := Lib.hid (by unfold dep1; rw [if_pos (by simp only; exact Or.inr (Or.inr (Or.inr (Or.inr (Or.inr (Or.inr (Or.inr hg)))))))])
    have f1 : (rev == r0) = false := by simpa using he
    have f2 : decide (1048574 < gn) = true := by simpa using hg
    clear he hg
    have q1_0 : u0.cell? ⟨w.heap.size + 1, 1, none⟩ = some (.int .i64 rev) := by rw [RB0.out.cell 1, HRR.out]; rfl
    have q2_0 : u0.cell? ⟨w.heap.size + 1, 2, none⟩ = some (.int .i64 cnt) := by rw [RB0.out.cell 2, HRR.out]; rfl
    have q3_0 : u0.cell? ⟨w.heap.size + 1, 3, none⟩ = some (.int .i64 delay) := by rw [RB0.out.cell 3, HRR.out]; rfl
    have s1_0 : u0.cell? ⟨w.heap.size, 1, none⟩ = some (.int .i64 0) := by rw [RA0.out.cell 1, HC.out]; rfl
    have s2_0 : u0.cell? ⟨w.heap.size, 2, none⟩ = some (.int .i64 r0) := by rw [RA0.out.cell 2, HC.out]; rfl
    have s9_0 : u0.cell? ⟨w.heap.size, 9, none⟩ = some (.int .i64 gn) := by rw [RA0.out.cell 9, HC.out]; rfl
    go_upto_region 2 with (first | (go_at_call 63; refine (within_any _ _ _ _).mono ?_; rintro e w' ⟨rfl, rfl⟩) )
    go_wp2_with fail
    go_quiet (fail)
    go_upto_region 3 with (fail)
    refine name_w (fun W => Rw W w.heap.size cs 38 ∧ Rw W (w.heap.size + 1) rs 72 ∧ Rw W (w.heap.size + 1 + 1) zeroSC 38 ∧ Below w.heap.size w W) ⟨RA0.out.under (below_drewN _ _ _) RA0.out.lt, RB0.out.under (below_drewN _ _ _) RB0.out.lt, RZ0.out.under (below_drewN _ _ _) RZ0.out.lt, BT0.out.trans (below_drewN _ _ _)⟩ ?_
    rintro u1 ⟨hA, hB, hZ, hb⟩
    have RA1 := Lib.hid hA
    have RB1 := Lib.hid hB
    have RZ1 := Lib.hid hZ
    have BT1 := Lib.hid hb
    clear hA hB hZ hb RA0 RB0 RZ0 BT0
    have ZF := Lib.hid (RZ1.out.set cs)
    have BF := Lib.hid (below_setRow BT1.out (by omega) (b := w.heap.size + 1 + 1) cs)
    go_wp2_with (first | (refine wpList_load_row rfl 38 (.tmp 2) rfl w.heap.size rfl 38 cs (0, 0) _ RA1.out Try.underlying38 rfl (by rw [HZC.out]; exact i12) ?_) | (refine wpList_plain rfl fun _ hK => wp_store_row 38 (.tmp 4) (.tmp 38) rfl (w.heap.size + 1 + 1) cs rfl rfl 38 _ RZ1.out (by rw [HZC.out]; exact i12) (by rw [HZC.out]; rfl) H1C.out (hK _ _ ?_); clear hK))
    (try simp only [Exit.inBlock, Exit.then])
    refine bodyPost_ret (results_cell_tmp rfl _ _ (w.heap.size + 1 + 1) 38 cs (0, 0) _ rfl ZF.out Try.underlying38 rfl (by rw [HZC.out]; exact i12)) rfl ?_
    exact ⟨by rw [HE.out, HC.out]; rfl, BF.out⟩
  have HE : Hid (dep1 (⟨ph, 0, r0, r1, w0, w1, p0, p1, dl, gn, sw, fl⟩ : St) (⟨kind, rev, cnt, delay, gen, tick, pass, st⟩ : Rc) = ((⟨1, 0, r0, rev, w0, cnt, p0, false, delay, gn, sw, fl⟩ : St), true)) := Lib.hid (by unfold dep1; rw [if_neg (by have h0 := i0; have h1 := i1; have h2 := i2; unfold inR at h0 h1 h2; simp at h0 h1 h2; simp only; show ¬ (_ ∨ _ ∨ _ ∨ _ ∨ _ ∨ _ ∨ rev = r0 ∨ _); omega)]; rfl)
  have f1 : (rev == r0) = false := by simpa using he
  have f2 : decide (1048574 < gn) = false := by simpa using hg
  clear he hg
  have q1_0 : u0.cell? ⟨w.heap.size + 1, 1, none⟩ = some (.int .i64 rev) := by rw [RB0.out.cell 1, HRR.out]; rfl
  have q2_0 : u0.cell? ⟨w.heap.size + 1, 2, none⟩ = some (.int .i64 cnt) := by rw [RB0.out.cell 2, HRR.out]; rfl
  have q3_0 : u0.cell? ⟨w.heap.size + 1, 3, none⟩ = some (.int .i64 delay) := by rw [RB0.out.cell 3, HRR.out]; rfl
  have s1_0 : u0.cell? ⟨w.heap.size, 1, none⟩ = some (.int .i64 0) := by rw [RA0.out.cell 1, HC.out]; rfl
  have s2_0 : u0.cell? ⟨w.heap.size, 2, none⟩ = some (.int .i64 r0) := by rw [RA0.out.cell 2, HC.out]; rfl
  have s9_0 : u0.cell? ⟨w.heap.size, 9, none⟩ = some (.int .i64 gn) := by rw [RA0.out.cell 9, HC.out]; rfl
  go_upto_region 2 with (first | (go_at_call 63; refine (within_any _ _ _ _).mono ?_; rintro e w' ⟨rfl, rfl⟩) )
  go_wp2_with fail
  go_quiet (fail)
  go_upto_region 4 with (fail)
  clear i0 i1 i2 f1 f2 q1_0 q2_0 q3_0 s1_0 s9_0 s2_0
  refine name_w (fun W => Rw W w.heap.size cs 38 ∧ Rw W (w.heap.size + 1) rs 72 ∧ Rw W (w.heap.size + 1 + 1) zeroSC 38 ∧ Below w.heap.size w W) ⟨RA0.out.under (below_drewN _ _ _) RA0.out.lt, RB0.out.under (below_drewN _ _ _) RB0.out.lt, RZ0.out.under (below_drewN _ _ _) RZ0.out.lt, BT0.out.trans (below_drewN _ _ _)⟩ ?_
  rintro u1 ⟨hA, hB, hZ, hb⟩
  have RA1 := Lib.hid hA
  have RB1 := Lib.hid hB
  have RZ1 := Lib.hid hZ
  have BT1 := Lib.hid hb
  clear hA hB hZ hb RA0 RB0 RZ0 BT0
  go_wp2_with (refine wpList_load_row rfl 38 (.tmp 2) rfl w.heap.size rfl 38 cs (0, 0) _ RA1.out Try.underlying38 rfl (by rw [HZC.out]; exact i12) ?_)
  refine (HOT.out _).mono ?_
  rintro e u2 ⟨rfl, hb⟩
  have RA2 := Lib.hid (RA1.out.under hb RA1.out.lt)
  have RB2 := Lib.hid (RB1.out.under hb RB1.out.lt)
  have RZ2 := Lib.hid (RZ1.out.under hb RZ1.out.lt)
  have BT2 := Lib.hid (BT1.out.trans (hb.mono BT1.out.size))
  clear hb RA1 RB1 RZ1 BT1
  clear HOT
  have q1_2 : u2.cell? ⟨w.heap.size + 1, 1, none⟩ = some (.int .i64 rev) := by rw [RB2.out.cell 1, HRR.out]; rfl
  have q2_2 : u2.cell? ⟨w.heap.size + 1, 2, none⟩ = some (.int .i64 cnt) := by rw [RB2.out.cell 2, HRR.out]; rfl
  go_upto_region 5 with (fail)
  clear q1_2 q2_2
  refine wp_region_held_drew (S := fun W => Rw W (w.heap.size + 1) rs 72) (by kernel_rfl) RB2.out (fun hHeld => ?_)
  refine wpAnyH_take (i := 0) (oi := { dst := some 41, op := Op.move (Operand.tmp 7), type := 3, pos := "fold.go:99", after := #[], guard := none }) (v := ?_) rfl (by kernel_rfl) (by kernel_rfl) (by kernel_rfl) (fun _ _ _ h => h) (Or.inl ⟨by rfl, ?_⟩) hHeld ?_
  rotate_left
  · intro W hSw
    clear hSw
    first | (go_simp; done) | (go_simp; with_reducible rfl)
  (try simp only [Act.put, List.setIfInBounds_toArray, List.set_cons_zero, List.set_cons_succ])
  refine wpAnyH_take (i := 1) (oi := { dst := some 42, op := Op.move (Operand.tmp 7), type := 3, pos := "fold.go:99", after := #[{ on := 9, ground := Ground.gcOnly Departure.lateStores }], guard := none }) (v := ?_) rfl (by kernel_rfl) (by kernel_rfl) (by kernel_rfl) (fun _ _ _ h => h) (Or.inl ⟨by rfl, ?_⟩) hHeld ?_
  rotate_left
  · intro W hSw
    clear hSw
    first | (go_simp; done) | (go_simp; with_reducible rfl)
  (try simp only [Act.put, List.setIfInBounds_toArray, List.set_cons_zero, List.set_cons_succ])
  refine wpAnyH_take (i := 2) (oi := { dst := some 43, op := Op.move (Operand.tmp 7), type := 3, pos := "fold.go:99", after := #[{ on := 12, ground := Ground.gcOnly Departure.lateStores }], guard := none }) (v := ?_) rfl (by kernel_rfl) (by kernel_rfl) (by kernel_rfl) (fun _ _ _ h => h) (Or.inl ⟨by rfl, ?_⟩) hHeld ?_
  rotate_left
  · intro W hSw
    clear hSw
    first | (go_simp; done) | (go_simp; with_reducible rfl)
  (try simp only [Act.put, List.setIfInBounds_toArray, List.set_cons_zero, List.set_cons_succ])
  refine wpAnyH_take (i := 3) (oi := { dst := some 44, op := Op.fieldAddr 72 (Operand.tmp 3) 1, type := 0, pos := "fold.go:99", after := #[], guard := none }) (v := ?_) rfl (by kernel_rfl) (by kernel_rfl) (by kernel_rfl) (fun _ _ _ h => h) (Or.inl ⟨by rfl, ?_⟩) hHeld ?_
  rotate_left
  · intro W hSw
    clear hSw
    first | (go_simp; done) | (go_simp; with_reducible rfl)
  (try simp only [Act.put, List.setIfInBounds_toArray, List.set_cons_zero, List.set_cons_succ])
  refine wpAnyH_take (i := 4) (oi := { dst := some 45, op := Op.load 3 (Operand.tmp 44), type := 3, pos := "fold.go:99", after := #[{ on := 3, ground := Ground.data }], guard := none }) (v := ?_) rfl (by kernel_rfl) (by kernel_rfl) (by kernel_rfl) (fun _ _ _ h => h) (Or.inl ⟨by rfl, ?_⟩) hHeld ?_
  rotate_left
  · intro W hSw
    have qq : W.cell? ⟨w.heap.size + 1, 1, none⟩ = some (.int .i64 rev) := by rw [Rw.cell hSw 1, HRR.out]; rfl
    clear hSw
    first | (go_simp; done) | (go_simp; with_reducible rfl)
  (try simp only [Act.put, List.setIfInBounds_toArray, List.set_cons_zero, List.set_cons_succ])
  refine wpAnyH_take (i := 5) (oi := { dst := some 46, op := Op.fieldAddr 72 (Operand.tmp 3) 2, type := 0, pos := "fold.go:99", after := #[{ on := 9, ground := Ground.gcOnly Departure.lateStores }], guard := none }) (v := ?_) rfl (by kernel_rfl) (by kernel_rfl) (by kernel_rfl) (fun _ _ _ h => h) (Or.inl ⟨by rfl, ?_⟩) hHeld ?_
  rotate_left
  · intro W hSw
    clear hSw
    first | (go_simp; done) | (go_simp; with_reducible rfl)
  (try simp only [Act.put, List.setIfInBounds_toArray, List.set_cons_zero, List.set_cons_succ])
  refine wpAnyH_take (i := 6) (oi := { dst := some 47, op := Op.load 3 (Operand.tmp 46), type := 3, pos := "fold.go:99", after := #[{ on := 5, ground := Ground.data }, { on := 9, ground := Ground.gcOnly Departure.lateStores }], guard := none }) (v := ?_) rfl (by kernel_rfl) (by kernel_rfl) (by kernel_rfl) (fun _ _ _ h => h) (Or.inl ⟨by rfl, ?_⟩) hHeld ?_
  rotate_left
  · intro W hSw
    have qq : W.cell? ⟨w.heap.size + 1, 2, none⟩ = some (.int .i64 cnt) := by rw [Rw.cell hSw 2, HRR.out]; rfl
    clear hSw
    first | (go_simp; done) | (go_simp; with_reducible rfl)
  (try simp only [Act.put, List.setIfInBounds_toArray, List.set_cons_zero, List.set_cons_succ])
  refine wpAnyH_take (i := 7) (oi := { dst := some 48, op := Op.fieldAddr 38 (Operand.tmp 2) 2, type := 0, pos := "fold.go:99", after := #[], guard := none }) (v := ?_) rfl (by kernel_rfl) (by kernel_rfl) (by kernel_rfl) (fun _ _ _ h => h) (Or.inl ⟨by rfl, ?_⟩) hHeld ?_
  rotate_left
  · intro W hSw
    clear hSw
    first | (go_simp; done) | (go_simp; with_reducible rfl)
  (try simp only [Act.put, List.setIfInBounds_toArray, List.set_cons_zero, List.set_cons_succ])
  refine wpAnyH_take (i := 8) (oi := { dst := some 49, op := Op.indexAddr 35 (Operand.tmp 48) (Operand.tmp 41), type := 0, pos := "fold.go:99", after := #[{ on := 7, ground := Ground.data }, { on := 0, ground := Ground.data }, { on := 0, ground := Ground.phase }, { on := 1, ground := Ground.textOnly Departure.lateStores }, { on := 2, ground := Ground.textOnly Departure.lateStores }, { on := 3, ground := Ground.phase }, { on := 4, ground := Ground.phase }, { on := 5, ground := Ground.textOnly Departure.lateStores }, { on := 6, ground := Ground.textOnly Departure.lateStores }], guard := none }) (v := ?_) rfl (by kernel_rfl) (by kernel_rfl) (by kernel_rfl) (fun _ _ _ h => h) (Or.inl ⟨by rfl, ?_⟩) hHeld ?_
  rotate_left
  · intro W hSw
    clear hSw
    first | (go_simp; done) | (go_simp; with_reducible rfl)
  (try simp only [Act.put, List.setIfInBounds_toArray, List.set_cons_zero, List.set_cons_succ])
  refine wpAnyH_take (i := 10) (oi := { dst := some 50, op := Op.fieldAddr 38 (Operand.tmp 2) 3, type := 0, pos := "fold.go:99", after := #[], guard := none }) (v := ?_) rfl (by kernel_rfl) (by kernel_rfl) (by kernel_rfl) (fun _ _ _ h => h) (Or.inl ⟨by rfl, ?_⟩) hHeld ?_
  rotate_left
  · intro W hSw
    clear hSw
    first | (go_simp; done) | (go_simp; with_reducible rfl)
  (try simp only [Act.put, List.setIfInBounds_toArray, List.set_cons_zero, List.set_cons_succ])
  refine wpAnyH_take (i := 13) (oi := { dst := some 52, op := Op.fieldAddr 38 (Operand.tmp 2) 4, type := 0, pos := "fold.go:99", after := #[], guard := none }) (v := ?_) rfl (by kernel_rfl) (by kernel_rfl) (by kernel_rfl) (fun _ _ _ h => h) (Or.inl ⟨by rfl, ?_⟩) hHeld ?_
  rotate_left
  · intro W hSw
    clear hSw
    first | (go_simp; done) | (go_simp; with_reducible rfl)
  (try simp only [Act.put, List.setIfInBounds_toArray, List.set_cons_zero, List.set_cons_succ])
  have RX0 : Hid (Rw u2.drew w.heap.size (stC (⟨ph, 0, r0, r1, w0, w1, p0, p1, dl, gn, sw, fl⟩ : St)) 38) := Lib.hid ((show Rw u2 w.heap.size (stC (⟨ph, 0, r0, r1, w0, w1, p0, p1, dl, gn, sw, fl⟩ : St)) 38 by rw [← HC.out]; exact RA2.out))
  have BX0 := Lib.hid (below_drew BT2.out)
  have RBX0 : Hid (Rw u2.drew (w.heap.size + 1) rs 72) := Lib.hid RB2.out
  have RZX0 : Hid (Rw u2.drew (w.heap.size + 1 + 1) zeroSC 38) := Lib.hid RZ2.out
  have c3 : u2.cell? ⟨w.heap.size, 3, none⟩ = some (.int .i64 r1) := by rw [RA2.out.cell 3, HC.out]; rfl
  have f3 := RA2.out.fr 3
  refine wpAnyH_ready (rs := [9]) (by kernel_rfl) (by simp) ?_
  refine AllReadyH.cons (o := { dst := none, op := Op.store 3 (Operand.tmp 49) (Operand.tmp 45), type := 0, pos := "fold.go:99", after := #[{ on := 8, ground := Ground.data }, { on := 4, ground := Ground.data }, { on := 0, ground := Ground.phase }, { on := 1, ground := Ground.textOnly Departure.lateStores }, { on := 2, ground := Ground.textOnly Departure.lateStores }, { on := 3, ground := Ground.phase }, { on := 4, ground := Ground.phase }, { on := 5, ground := Ground.textOnly Departure.lateStores }, { on := 6, ground := Ground.textOnly Departure.lateStores }], guard := none }) rfl (fun K hK => ?_) AllReadyH.nil
  go_simp
  have RX1 : Hid (Rw (u2.drew.setCell ⟨w.heap.size, 3, none⟩ (.int .i64 rev)) w.heap.size (stC (⟨ph, 0, r0, rev, w0, w1, p0, p1, dl, gn, sw, fl⟩ : St)) 38) := Lib.hid (heap_setCell_same _ _ 3 _ 38 (.int .i64 rev) RX0.out)
  have RBX1 : Hid (Rw (u2.drew.setCell ⟨w.heap.size, 3, none⟩ (.int .i64 rev)) (w.heap.size + 1) rs 72) := Lib.hid ((Below.heap_setCell _ _ _ _ (by show w.heap.size + 1 ≠ w.heap.size; omega)).trans RBX0.out)
  have RZX1 : Hid (Rw (u2.drew.setCell ⟨w.heap.size, 3, none⟩ (.int .i64 rev)) (w.heap.size + 1 + 1) zeroSC 38) := Lib.hid ((Below.heap_setCell _ _ _ _ (by show w.heap.size + 1 + 1 ≠ w.heap.size; omega)).trans RZX0.out)
  have BX1 : Hid (Below w.heap.size w (u2.drew.setCell ⟨w.heap.size, 3, none⟩ (.int .i64 rev))) := Lib.hid (below_setCell BX0.out (Nat.le_refl _) _)
  refine hK.out _ _ ?_ (fun hHeld => ?_)
  · exact RBX1.out
  clear hK K c3 f3 RX0 RBX0 RZX0 BX0
  (try simp only [Act.put, List.setIfInBounds_toArray, List.set_cons_zero, List.set_cons_succ])
  refine wpAnyH_take (i := 11) (oi := { dst := some 51, op := Op.indexAddr 35 (Operand.tmp 50) (Operand.tmp 42), type := 0, pos := "fold.go:99", after := #[{ on := 10, ground := Ground.data }, { on := 1, ground := Ground.data }, { on := 0, ground := Ground.phase }, { on := 1, ground := Ground.phase }, { on := 2, ground := Ground.textOnly Departure.lateStores }, { on := 3, ground := Ground.phase }, { on := 4, ground := Ground.phase }, { on := 5, ground := Ground.phase }, { on := 6, ground := Ground.phase }, { on := 7, ground := Ground.phase }, { on := 8, ground := Ground.phase }, { on := 9, ground := Ground.phase }], guard := none }) (v := ?_) rfl (by kernel_rfl) (by kernel_rfl) (by kernel_rfl) (fun _ _ _ h => h) (Or.inl ⟨by rfl, ?_⟩) hHeld ?_
  rotate_left
  · intro W hSw
    clear hSw
    first | (go_simp; done) | (go_simp; with_reducible rfl)
  (try simp only [Act.put, List.setIfInBounds_toArray, List.set_cons_zero, List.set_cons_succ])
  have c5 : u2.cell? ⟨w.heap.size, 5, none⟩ = some (.int .i64 w1) := by rw [RA2.out.cell 5, HC.out]; rfl
  have f5 := RA2.out.fr 5
  refine wpAnyH_ready (rs := [12]) (by kernel_rfl) (by simp) ?_
  refine AllReadyH.cons (o := { dst := none, op := Op.store 3 (Operand.tmp 51) (Operand.tmp 47), type := 0, pos := "fold.go:99", after := #[{ on := 11, ground := Ground.data }, { on := 6, ground := Ground.data }, { on := 9, ground := Ground.chain }, { on := 0, ground := Ground.phase }, { on := 1, ground := Ground.phase }, { on := 2, ground := Ground.textOnly Departure.lateStores }, { on := 3, ground := Ground.phase }, { on := 4, ground := Ground.phase }, { on := 5, ground := Ground.phase }, { on := 6, ground := Ground.phase }, { on := 7, ground := Ground.phase }, { on := 8, ground := Ground.phase }, { on := 9, ground := Ground.phase }], guard := none }) rfl (fun K hK => ?_) AllReadyH.nil
  go_simp
  have RX2 : Hid (Rw ((u2.drew.setCell ⟨w.heap.size, 3, none⟩ (.int .i64 rev)).setCell ⟨w.heap.size, 5, none⟩ (.int .i64 cnt)) w.heap.size (stC (⟨ph, 0, r0, rev, w0, cnt, p0, p1, dl, gn, sw, fl⟩ : St)) 38) := Lib.hid (heap_setCell_same _ _ 5 _ 38 (.int .i64 cnt) RX1.out)
  have RBX2 : Hid (Rw ((u2.drew.setCell ⟨w.heap.size, 3, none⟩ (.int .i64 rev)).setCell ⟨w.heap.size, 5, none⟩ (.int .i64 cnt)) (w.heap.size + 1) rs 72) := Lib.hid ((Below.heap_setCell _ _ _ _ (by show w.heap.size + 1 ≠ w.heap.size; omega)).trans RBX1.out)
  have RZX2 : Hid (Rw ((u2.drew.setCell ⟨w.heap.size, 3, none⟩ (.int .i64 rev)).setCell ⟨w.heap.size, 5, none⟩ (.int .i64 cnt)) (w.heap.size + 1 + 1) zeroSC 38) := Lib.hid ((Below.heap_setCell _ _ _ _ (by show w.heap.size + 1 + 1 ≠ w.heap.size; omega)).trans RZX1.out)
  have BX2 : Hid (Below w.heap.size w ((u2.drew.setCell ⟨w.heap.size, 3, none⟩ (.int .i64 rev)).setCell ⟨w.heap.size, 5, none⟩ (.int .i64 cnt))) := Lib.hid (below_setCell BX1.out (Nat.le_refl _) _)
  refine hK.out _ _ ?_ (fun hHeld => ?_)
  · exact RBX2.out
  clear hK K c5 f5 RX1 RBX1 RZX1 BX1
  (try simp only [Act.put, List.setIfInBounds_toArray, List.set_cons_zero, List.set_cons_succ])
  refine wpAnyH_take (i := 14) (oi := { dst := some 53, op := Op.indexAddr 36 (Operand.tmp 52) (Operand.tmp 43), type := 0, pos := "fold.go:99", after := #[{ on := 13, ground := Ground.data }, { on := 2, ground := Ground.data }, { on := 0, ground := Ground.phase }, { on := 1, ground := Ground.phase }, { on := 2, ground := Ground.phase }, { on := 3, ground := Ground.phase }, { on := 4, ground := Ground.phase }, { on := 5, ground := Ground.phase }, { on := 6, ground := Ground.phase }, { on := 7, ground := Ground.phase }, { on := 8, ground := Ground.phase }, { on := 9, ground := Ground.phase }, { on := 10, ground := Ground.phase }, { on := 11, ground := Ground.phase }, { on := 12, ground := Ground.phase }], guard := none }) (v := ?_) rfl (by kernel_rfl) (by kernel_rfl) (by kernel_rfl) (fun _ _ _ h => h) (Or.inl ⟨by rfl, ?_⟩) hHeld ?_
  rotate_left
  · intro W hSw
    clear hSw
    first | (go_simp; done) | (go_simp; with_reducible rfl)
  (try simp only [Act.put, List.setIfInBounds_toArray, List.set_cons_zero, List.set_cons_succ])
  have c7 : u2.cell? ⟨w.heap.size, 7, none⟩ = some (.bool p1) := by rw [RA2.out.cell 7, HC.out]; rfl
  have f7 := RA2.out.fr 7
  refine wpAnyH_ready (rs := [15]) (by kernel_rfl) (by simp) ?_
  refine AllReadyH.cons (o := { dst := none, op := Op.store 4 (Operand.tmp 53) (Operand.const (Value.bool false)), type := 0, pos := "fold.go:99", after := #[{ on := 14, ground := Ground.data }, { on := 12, ground := Ground.chain }, { on := 0, ground := Ground.phase }, { on := 1, ground := Ground.phase }, { on := 2, ground := Ground.phase }, { on := 3, ground := Ground.phase }, { on := 4, ground := Ground.phase }, { on := 5, ground := Ground.phase }, { on := 6, ground := Ground.phase }, { on := 7, ground := Ground.phase }, { on := 8, ground := Ground.phase }, { on := 9, ground := Ground.phase }, { on := 10, ground := Ground.phase }, { on := 11, ground := Ground.phase }, { on := 12, ground := Ground.phase }], guard := none }) rfl (fun K hK => ?_) AllReadyH.nil
  go_simp
  have RX3 : Hid (Rw (((u2.drew.setCell ⟨w.heap.size, 3, none⟩ (.int .i64 rev)).setCell ⟨w.heap.size, 5, none⟩ (.int .i64 cnt)).setCell ⟨w.heap.size, 7, none⟩ (.bool false)) w.heap.size (stC (⟨ph, 0, r0, rev, w0, cnt, p0, false, dl, gn, sw, fl⟩ : St)) 38) := Lib.hid (heap_setCell_same _ _ 7 _ 38 (.bool false) RX2.out)
  have RBX3 : Hid (Rw (((u2.drew.setCell ⟨w.heap.size, 3, none⟩ (.int .i64 rev)).setCell ⟨w.heap.size, 5, none⟩ (.int .i64 cnt)).setCell ⟨w.heap.size, 7, none⟩ (.bool false)) (w.heap.size + 1) rs 72) := Lib.hid ((Below.heap_setCell _ _ _ _ (by show w.heap.size + 1 ≠ w.heap.size; omega)).trans RBX2.out)
  have RZX3 : Hid (Rw (((u2.drew.setCell ⟨w.heap.size, 3, none⟩ (.int .i64 rev)).setCell ⟨w.heap.size, 5, none⟩ (.int .i64 cnt)).setCell ⟨w.heap.size, 7, none⟩ (.bool false)) (w.heap.size + 1 + 1) zeroSC 38) := Lib.hid ((Below.heap_setCell _ _ _ _ (by show w.heap.size + 1 + 1 ≠ w.heap.size; omega)).trans RZX2.out)
  have BX3 : Hid (Below w.heap.size w (((u2.drew.setCell ⟨w.heap.size, 3, none⟩ (.int .i64 rev)).setCell ⟨w.heap.size, 5, none⟩ (.int .i64 cnt)).setCell ⟨w.heap.size, 7, none⟩ (.bool false))) := Lib.hid (below_setCell BX2.out (Nat.le_refl _) _)
  refine hK.out _ _ ?_ (fun hHeld => ?_)
  · exact RBX3.out
  clear hK K c7 f7 RX2 RBX2 RZX2 BX2
  (try simp only [Act.put, List.setIfInBounds_toArray, List.set_cons_zero, List.set_cons_succ])
  refine wpAnyH_done (by kernel_rfl) ?_ _
  go_upto_region 6 with (fail)
  refine name_w (fun W => Rw W w.heap.size (stC (⟨ph, 0, r0, rev, w0, cnt, p0, false, dl, gn, sw, fl⟩ : St)) 38 ∧ Rw W (w.heap.size + 1) rs 72 ∧ Rw W (w.heap.size + 1 + 1) zeroSC 38 ∧ Below w.heap.size w W) ⟨RX3.out, RBX3.out, RZX3.out, BX3.out⟩ ?_
  rintro u3 ⟨hA, hB, hZ, hb⟩
  have RA3 := Lib.hid hA
  have RB3 := Lib.hid hB
  have RZ3 := Lib.hid hZ
  have BT3 := Lib.hid hb
  clear hA hB hZ hb RA2 RB2 RZ2 BT2
  clear RX3 RBX3 RZX3 BX3
  have q3_3 : u3.cell? ⟨w.heap.size + 1, 3, none⟩ = some (.int .i64 delay) := by rw [RB3.out.cell 3, HRR.out]; rfl
  have s8_3 : u3.cell? ⟨w.heap.size, 8, none⟩ = some (.int .i64 dl) := by rw [RA3.out.cell 8]; rfl
  have fr8_3 := RA3.out.fr 8
  go_upto_region 7 with (fail)
  clear s8_3 fr8_3 q3_3
  refine name_w (fun W => Rw W w.heap.size (stC (⟨ph, 0, r0, rev, w0, cnt, p0, false, delay, gn, sw, fl⟩ : St)) 38 ∧ Rw W (w.heap.size + 1) rs 72 ∧ Rw W (w.heap.size + 1 + 1) zeroSC 38 ∧ Below w.heap.size w W) ⟨(heap_setCell_same _ _ 8 _ 38 (.int .i64 delay) RA3.out), ((Below.heap_setCell _ _ _ _ (by show w.heap.size + 1 ≠ w.heap.size; omega)).trans RB3.out), ((Below.heap_setCell _ _ _ _ (by show w.heap.size + 1 + 1 ≠ w.heap.size; omega)).trans RZ3.out), (below_setCell BT3.out (Nat.le_refl _) _)⟩ ?_
  rintro u4 ⟨hA, hB, hZ, hb⟩
  have RA4 := Lib.hid hA
  have RB4 := Lib.hid hB
  have RZ4 := Lib.hid hZ
  have BT4 := Lib.hid hb
  clear hA hB hZ hb RA3 RB3 RZ3 BT3
  have s0_4 : u4.cell? ⟨w.heap.size, 0, none⟩ = some (.int .i64 ph) := by rw [RA4.out.cell 0]; rfl
  have fr0_4 := RA4.out.fr 0
  go_upto_region 8 with (fail)
  clear s0_4 fr0_4
  refine name_w (fun W => Rw W w.heap.size (stC (⟨1, 0, r0, rev, w0, cnt, p0, false, delay, gn, sw, fl⟩ : St)) 38 ∧ Rw W (w.heap.size + 1) rs 72 ∧ Rw W (w.heap.size + 1 + 1) zeroSC 38 ∧ Below w.heap.size w W) ⟨(heap_setCell_same _ _ 0 _ 38 (.int .i64 1) RA4.out), ((Below.heap_setCell _ _ _ _ (by show w.heap.size + 1 ≠ w.heap.size; omega)).trans RB4.out), ((Below.heap_setCell _ _ _ _ (by show w.heap.size + 1 + 1 ≠ w.heap.size; omega)).trans RZ4.out), (below_setCell BT4.out (Nat.le_refl _) _)⟩ ?_
  rintro u5 ⟨hA, hB, hZ, hb⟩
  have RA5 := Lib.hid hA
  have RB5 := Lib.hid hB
  have RZ5 := Lib.hid hZ
  have BT5 := Lib.hid hb
  clear hA hB hZ hb RA4 RB4 RZ4 BT4
  obtain ⟨ds, hds⟩ : ∃ d, d = stC (⟨1, 0, r0, rev, w0, cnt, p0, false, delay, gn, sw, fl⟩ : St) := ⟨_, rfl⟩
  have HD := Lib.hid hds
  have HDZ : Hid (ds.size = 12) := Lib.hid (by rw [hds]; rfl)
  have HD1 : Hid (ds.all (·.oneCell') = true) := Lib.hid (by rw [hds]; exact stC_one _)
  have RF : Hid (Rw u5 w.heap.size ds 38) := Lib.hid (by rw [hds]; exact RA5.out)
  clear hds
  have ZF := Lib.hid (RZ5.out.set ds)
  have BF := Lib.hid (below_setRow BT5.out (by omega) (b := w.heap.size + 1 + 1) ds)
  go_wp2_with (first | (refine wpList_load_row rfl 38 (.tmp 2) rfl w.heap.size rfl 38 ds (0, 0) _ RF.out Try.underlying38 rfl (by rw [HDZ.out]; exact i12) ?_) | (refine wpList_plain rfl fun _ hK => wp_store_row 38 (.tmp 4) (.tmp 58) rfl (w.heap.size + 1 + 1) ds rfl rfl 38 _ RZ5.out (by rw [HDZ.out]; exact i12) (by rw [HDZ.out]; rfl) HD1.out (hK _ _ ?_); clear hK))
  (try simp only [Exit.inBlock, Exit.then])
  refine bodyPost_ret (results_cell_tmp rfl _ _ (w.heap.size + 1 + 1) 38 ds (0, 0) _ rfl ZF.out Try.underlying38 rfl (by rw [HDZ.out]; exact i12)) rfl ?_
  exact ⟨by rw [HE.out, HD.out]; rfl, BF.out⟩
set_option maxRecDepth 100000 in
set_option maxHeartbeats 4000000 in
theorem deploy_1 (s : St) (r : Rc) (w : World) (hac : s.ac = 1) : Calls Try.prog 66 #[stV s, recV r] w (StepR (dep1 s r) w) := by
  have HOT : Hid (∀ W, Calls Try.prog 64 #[stV s] W fun e w' => e = .returned (.int .i64 0) ∧ Below W.heap.size W w') := Lib.hid (fun W => other_1 s W hac)
  obtain ⟨ph, ac, r0, r1, w0, w1, p0, p1, dl, gn, sw, fl⟩ := s
  obtain ⟨kind, rev, cnt, delay, gen, tick, pass, st⟩ := r
  obtain rfl : ac = 1 := hac
  unfold stV at HOT ⊢
  unfold recV
  obtain ⟨cs, hcs⟩ : ∃ c, c = stC (⟨ph, 1, r0, r1, w0, w1, p0, p1, dl, gn, sw, fl⟩ : St) := ⟨_, rfl⟩
  obtain ⟨rs, hrs⟩ : ∃ c, c = recC (⟨kind, rev, cnt, delay, gen, tick, pass, st⟩ : Rc) := ⟨_, rfl⟩
  rw [← hcs] at HOT ⊢
  rw [← hrs]
  have HC := Lib.hid hcs
  have HRR := Lib.hid hrs
  have HZC : Hid (cs.size = 12) := Lib.hid (by rw [hcs]; rfl)
  have H1C : Hid (cs.all (·.oneCell') = true) := Lib.hid (by rw [hcs]; exact stC_one _)
  clear hcs hrs
  go_enter Try.func66, Try.ntmps66
  go_upto_region 1 with (fail)
  refine name_w (fun W => Rw W w.heap.size cs 38 ∧ Rw W (w.heap.size + 1) rs 72 ∧ Rw W (w.heap.size + 1 + 1) zeroSC 38 ∧ Below w.heap.size w W) ⟨((Rw.new _ _ _).alloc _).alloc _, Rw.alloc (heap_alloc2_new w _ _) _, ?_, (((Below.refl _ _).alloc (Nat.le_refl _) _).alloc (by simp) _).alloc (by simp; omega) _⟩ ?_
  · have h1 := Rw.new ((w.alloc (.cells cs 38)).alloc (.cells rs 72)) zeroSC 38
    rw [size_alloc, size_alloc] at h1
    exact h1
  rintro u0 ⟨hA, hB, hZ, hb⟩
  have RA0 := Lib.hid hA
  have RB0 := Lib.hid hB
  have RZ0 := Lib.hid hZ
  have BT0 := Lib.hid hb
  clear hA hB hZ hb
  cases i0 : inR rev 1 1073741824 with
  | false =>
    have HE : Hid (dep1 (⟨ph, 1, r0, r1, w0, w1, p0, p1, dl, gn, sw, fl⟩ : St) (⟨kind, rev, cnt, delay, gen, tick, pass, st⟩ : Rc) = ((⟨ph, 1, r0, r1, w0, w1, p0, p1, dl, gn, sw, fl⟩ : St), false)) := Lib.hid (by unfold dep1; rw [if_pos (by have h1 := i0; unfold inR at h1; simp at h1; simp only; omega)])
    have q1_0 : u0.cell? ⟨w.heap.size + 1, 1, none⟩ = some (.int .i64 rev) := by rw [RB0.out.cell 1, HRR.out]; rfl
    have s1_0 : u0.cell? ⟨w.heap.size, 1, none⟩ = some (.int .i64 1) := by rw [RA0.out.cell 1, HC.out]; rfl
    have s3_0 : u0.cell? ⟨w.heap.size, 3, none⟩ = some (.int .i64 r1) := by rw [RA0.out.cell 3, HC.out]; rfl
    have s9_0 : u0.cell? ⟨w.heap.size, 9, none⟩ = some (.int .i64 gn) := by rw [RA0.out.cell 9, HC.out]; rfl
    go_upto_region 2 with (first | (go_at_call 63; refine (within_any _ _ _ _).mono ?_; rintro e w' ⟨rfl, rfl⟩) )
    go_wp2_with fail
    go_quiet (fail)
    go_upto_region 3 with (fail)
    refine name_w (fun W => Rw W w.heap.size cs 38 ∧ Rw W (w.heap.size + 1) rs 72 ∧ Rw W (w.heap.size + 1 + 1) zeroSC 38 ∧ Below w.heap.size w W) ⟨RA0.out.under (below_drewN _ _ _) RA0.out.lt, RB0.out.under (below_drewN _ _ _) RB0.out.lt, RZ0.out.under (below_drewN _ _ _) RZ0.out.lt, BT0.out.trans (below_drewN _ _ _)⟩ ?_
    rintro u1 ⟨hA, hB, hZ, hb⟩
    have RA1 := Lib.hid hA
    have RB1 := Lib.hid hB
    have RZ1 := Lib.hid hZ
    have BT1 := Lib.hid hb
    clear hA hB hZ hb RA0 RB0 RZ0 BT0
    have ZF := Lib.hid (RZ1.out.set cs)
    have BF := Lib.hid (below_setRow BT1.out (by omega) (b := w.heap.size + 1 + 1) cs)
    go_wp2_with (first | (refine wpList_load_row rfl 38 (.tmp 2) rfl w.heap.size rfl 38 cs (0, 0) _ RA1.out Try.underlying38 rfl (by rw [HZC.out]; exact i12) ?_) | (refine wpList_plain rfl fun _ hK => wp_store_row 38 (.tmp 4) (.tmp 38) rfl (w.heap.size + 1 + 1) cs rfl rfl 38 _ RZ1.out (by rw [HZC.out]; exact i12) (by rw [HZC.out]; rfl) H1C.out (hK _ _ ?_); clear hK))
    (try simp only [Exit.inBlock, Exit.then])
    refine bodyPost_ret (results_cell_tmp rfl _ _ (w.heap.size + 1 + 1) 38 cs (0, 0) _ rfl ZF.out Try.underlying38 rfl (by rw [HZC.out]; exact i12)) rfl ?_
    exact ⟨by rw [HE.out, HC.out]; rfl, BF.out⟩
  | true =>
  cases i1 : inR cnt 1 32 with
  | false =>
    have HE : Hid (dep1 (⟨ph, 1, r0, r1, w0, w1, p0, p1, dl, gn, sw, fl⟩ : St) (⟨kind, rev, cnt, delay, gen, tick, pass, st⟩ : Rc) = ((⟨ph, 1, r0, r1, w0, w1, p0, p1, dl, gn, sw, fl⟩ : St), false)) := Lib.hid (by unfold dep1; rw [if_pos (by have h1 := i1; unfold inR at h1; simp at h1; simp only; omega)])
    have q1_0 : u0.cell? ⟨w.heap.size + 1, 1, none⟩ = some (.int .i64 rev) := by rw [RB0.out.cell 1, HRR.out]; rfl
    have q2_0 : u0.cell? ⟨w.heap.size + 1, 2, none⟩ = some (.int .i64 cnt) := by rw [RB0.out.cell 2, HRR.out]; rfl
    have s1_0 : u0.cell? ⟨w.heap.size, 1, none⟩ = some (.int .i64 1) := by rw [RA0.out.cell 1, HC.out]; rfl
    have s3_0 : u0.cell? ⟨w.heap.size, 3, none⟩ = some (.int .i64 r1) := by rw [RA0.out.cell 3, HC.out]; rfl
    have s9_0 : u0.cell? ⟨w.heap.size, 9, none⟩ = some (.int .i64 gn) := by rw [RA0.out.cell 9, HC.out]; rfl
    go_upto_region 2 with (first | (go_at_call 63; refine (within_any _ _ _ _).mono ?_; rintro e w' ⟨rfl, rfl⟩) )
    go_wp2_with fail
    go_quiet (fail)
    go_upto_region 3 with (fail)
    refine name_w (fun W => Rw W w.heap.size cs 38 ∧ Rw W (w.heap.size + 1) rs 72 ∧ Rw W (w.heap.size + 1 + 1) zeroSC 38 ∧ Below w.heap.size w W) ⟨RA0.out.under (below_drewN _ _ _) RA0.out.lt, RB0.out.under (below_drewN _ _ _) RB0.out.lt, RZ0.out.under (below_drewN _ _ _) RZ0.out.lt, BT0.out.trans (below_drewN _ _ _)⟩ ?_
    rintro u1 ⟨hA, hB, hZ, hb⟩
    have RA1 := Lib.hid hA
    have RB1 := Lib.hid hB
    have RZ1 := Lib.hid hZ
    have BT1 := Lib.hid hb
    clear hA hB hZ hb RA0 RB0 RZ0 BT0
    have ZF := Lib.hid (RZ1.out.set cs)
    have BF := Lib.hid (below_setRow BT1.out (by omega) (b := w.heap.size + 1 + 1) cs)
    go_wp2_with (first | (refine wpList_load_row rfl 38 (.tmp 2) rfl w.heap.size rfl 38 cs (0, 0) _ RA1.out Try.underlying38 rfl (by rw [HZC.out]; exact i12) ?_) | (refine wpList_plain rfl fun _ hK => wp_store_row 38 (.tmp 4) (.tmp 38) rfl (w.heap.size + 1 + 1) cs rfl rfl 38 _ RZ1.out (by rw [HZC.out]; exact i12) (by rw [HZC.out]; rfl) H1C.out (hK _ _ ?_); clear hK))
    (try simp only [Exit.inBlock, Exit.then])
    refine bodyPost_ret (results_cell_tmp rfl _ _ (w.heap.size + 1 + 1) 38 cs (0, 0) _ rfl ZF.out Try.underlying38 rfl (by rw [HZC.out]; exact i12)) rfl ?_
    exact ⟨by rw [HE.out, HC.out]; rfl, BF.out⟩
  | true =>
  cases i2 : inR delay 0 65536 with
  | false =>
    have HE : Hid (dep1 (⟨ph, 1, r0, r1, w0, w1, p0, p1, dl, gn, sw, fl⟩ : St) (⟨kind, rev, cnt, delay, gen, tick, pass, st⟩ : Rc) = ((⟨ph, 1, r0, r1, w0, w1, p0, p1, dl, gn, sw, fl⟩ : St), false)) := Lib.hid (by unfold dep1; rw [if_pos (by have h1 := i2; unfold inR at h1; simp at h1; simp only; omega)])
    have q1_0 : u0.cell? ⟨w.heap.size + 1, 1, none⟩ = some (.int .i64 rev) := by rw [RB0.out.cell 1, HRR.out]; rfl
    have q2_0 : u0.cell? ⟨w.heap.size + 1, 2, none⟩ = some (.int .i64 cnt) := by rw [RB0.out.cell 2, HRR.out]; rfl
    have q3_0 : u0.cell? ⟨w.heap.size + 1, 3, none⟩ = some (.int .i64 delay) := by rw [RB0.out.cell 3, HRR.out]; rfl
    have s1_0 : u0.cell? ⟨w.heap.size, 1, none⟩ = some (.int .i64 1) := by rw [RA0.out.cell 1, HC.out]; rfl
    have s3_0 : u0.cell? ⟨w.heap.size, 3, none⟩ = some (.int .i64 r1) := by rw [RA0.out.cell 3, HC.out]; rfl
    have s9_0 : u0.cell? ⟨w.heap.size, 9, none⟩ = some (.int .i64 gn) := by rw [RA0.out.cell 9, HC.out]; rfl
    go_upto_region 2 with (first | (go_at_call 63; refine (within_any _ _ _ _).mono ?_; rintro e w' ⟨rfl, rfl⟩) )
    go_wp2_with fail
    go_quiet (fail)
    go_upto_region 3 with (fail)
    refine name_w (fun W => Rw W w.heap.size cs 38 ∧ Rw W (w.heap.size + 1) rs 72 ∧ Rw W (w.heap.size + 1 + 1) zeroSC 38 ∧ Below w.heap.size w W) ⟨RA0.out.under (below_drewN _ _ _) RA0.out.lt, RB0.out.under (below_drewN _ _ _) RB0.out.lt, RZ0.out.under (below_drewN _ _ _) RZ0.out.lt, BT0.out.trans (below_drewN _ _ _)⟩ ?_
    rintro u1 ⟨hA, hB, hZ, hb⟩
    have RA1 := Lib.hid hA
    have RB1 := Lib.hid hB
    have RZ1 := Lib.hid hZ
    have BT1 := Lib.hid hb
    clear hA hB hZ hb RA0 RB0 RZ0 BT0
    have ZF := Lib.hid (RZ1.out.set cs)
    have BF := Lib.hid (below_setRow BT1.out (by omega) (b := w.heap.size + 1 + 1) cs)
    go_wp2_with (first | (refine wpList_load_row rfl 38 (.tmp 2) rfl w.heap.size rfl 38 cs (0, 0) _ RA1.out Try.underlying38 rfl (by rw [HZC.out]; exact i12) ?_) | (refine wpList_plain rfl fun _ hK => wp_store_row 38 (.tmp 4) (.tmp 38) rfl (w.heap.size + 1 + 1) cs rfl rfl 38 _ RZ1.out (by rw [HZC.out]; exact i12) (by rw [HZC.out]; rfl) H1C.out (hK _ _ ?_); clear hK))
    (try simp only [Exit.inBlock, Exit.then])
    refine bodyPost_ret (results_cell_tmp rfl _ _ (w.heap.size + 1 + 1) 38 cs (0, 0) _ rfl ZF.out Try.underlying38 rfl (by rw [HZC.out]; exact i12)) rfl ?_
    exact ⟨by rw [HE.out, HC.out]; rfl, BF.out⟩
  | true =>
  by_cases he : rev = r1
  case pos =>
    have HE : Hid (dep1 (⟨ph, 1, r0, r1, w0, w1, p0, p1, dl, gn, sw, fl⟩ : St) (⟨kind, rev, cnt, delay, gen, tick, pass, st⟩ : Rc) = ((⟨ph, 1, r0, r1, w0, w1, p0, p1, dl, gn, sw, fl⟩ : St), false)) := Lib.hid (by unfold dep1; rw [if_pos (by simp only; exact Or.inr (Or.inr (Or.inr (Or.inr (Or.inr (Or.inr (Or.inl he)))))))])
    have f1 : (rev == r1) = true := by simpa using he
    clear he
    have q1_0 : u0.cell? ⟨w.heap.size + 1, 1, none⟩ = some (.int .i64 rev) := by rw [RB0.out.cell 1, HRR.out]; rfl
    have q2_0 : u0.cell? ⟨w.heap.size + 1, 2, none⟩ = some (.int .i64 cnt) := by rw [RB0.out.cell 2, HRR.out]; rfl
    have q3_0 : u0.cell? ⟨w.heap.size + 1, 3, none⟩ = some (.int .i64 delay) := by rw [RB0.out.cell 3, HRR.out]; rfl
    have s1_0 : u0.cell? ⟨w.heap.size, 1, none⟩ = some (.int .i64 1) := by rw [RA0.out.cell 1, HC.out]; rfl
    have s3_0 : u0.cell? ⟨w.heap.size, 3, none⟩ = some (.int .i64 r1) := by rw [RA0.out.cell 3, HC.out]; rfl
    have s9_0 : u0.cell? ⟨w.heap.size, 9, none⟩ = some (.int .i64 gn) := by rw [RA0.out.cell 9, HC.out]; rfl
    go_upto_region 2 with (first | (go_at_call 63; refine (within_any _ _ _ _).mono ?_; rintro e w' ⟨rfl, rfl⟩) )
    go_wp2_with fail
    go_quiet (fail)
    go_upto_region 3 with (fail)
    refine name_w (fun W => Rw W w.heap.size cs 38 ∧ Rw W (w.heap.size + 1) rs 72 ∧ Rw W (w.heap.size + 1 + 1) zeroSC 38 ∧ Below w.heap.size w W) ⟨RA0.out.under (below_drewN _ _ _) RA0.out.lt, RB0.out.under (below_drewN _ _ _) RB0.out.lt, RZ0.out.under (below_drewN _ _ _) RZ0.out.lt, BT0.out.trans (below_drewN _ _ _)⟩ ?_
    rintro u1 ⟨hA, hB, hZ, hb⟩
    have RA1 := Lib.hid hA
    have RB1 := Lib.hid hB
    have RZ1 := Lib.hid hZ
    have BT1 := Lib.hid hb
    clear hA hB hZ hb RA0 RB0 RZ0 BT0
    have ZF := Lib.hid (RZ1.out.set cs)
    have BF := Lib.hid (below_setRow BT1.out (by omega) (b := w.heap.size + 1 + 1) cs)
    go_wp2_with (first | (refine wpList_load_row rfl 38 (.tmp 2) rfl w.heap.size rfl 38 cs (0, 0) _ RA1.out Try.underlying38 rfl (by rw [HZC.out]; exact i12) ?_) | (refine wpList_plain rfl fun _ hK => wp_store_row 38 (.tmp 4) (.tmp 38) rfl (w.heap.size + 1 + 1) cs rfl rfl 38 _ RZ1.out (by rw [HZC.out]; exact i12) (by rw [HZC.out]; rfl) H1C.out (hK _ _ ?_); clear hK))
    (try simp only [Exit.inBlock, Exit.then])
    refine bodyPost_ret (results_cell_tmp rfl _ _ (w.heap.size + 1 + 1) 38 cs (0, 0) _ rfl ZF.out Try.underlying38 rfl (by rw [HZC.out]; exact i12)) rfl ?_
    exact ⟨by rw [HE.out, HC.out]; rfl, BF.out⟩
  by_cases hg : 1048574 < gn
  case pos =>
    have HE : Hid (dep1 (⟨ph, 1, r0, r1, w0, w1, p0, p1, dl, gn, sw, fl⟩ : St) (⟨kind, rev, cnt, delay, gen, tick, pass, st⟩ : Rc) = ((⟨ph, 1, r0, r1, w0, w1, p0, p1, dl, gn, sw, fl⟩ : St), false)) := Lib.hid (by unfold dep1; rw [if_pos (by simp only; exact Or.inr (Or.inr (Or.inr (Or.inr (Or.inr (Or.inr (Or.inr hg)))))))])
    have f1 : (rev == r1) = false := by simpa using he
    have f2 : decide (1048574 < gn) = true := by simpa using hg
    clear he hg
    have q1_0 : u0.cell? ⟨w.heap.size + 1, 1, none⟩ = some (.int .i64 rev) := by rw [RB0.out.cell 1, HRR.out]; rfl
    have q2_0 : u0.cell? ⟨w.heap.size + 1, 2, none⟩ = some (.int .i64 cnt) := by rw [RB0.out.cell 2, HRR.out]; rfl
    have q3_0 : u0.cell? ⟨w.heap.size + 1, 3, none⟩ = some (.int .i64 delay) := by rw [RB0.out.cell 3, HRR.out]; rfl
    have s1_0 : u0.cell? ⟨w.heap.size, 1, none⟩ = some (.int .i64 1) := by rw [RA0.out.cell 1, HC.out]; rfl
    have s3_0 : u0.cell? ⟨w.heap.size, 3, none⟩ = some (.int .i64 r1) := by rw [RA0.out.cell 3, HC.out]; rfl
    have s9_0 : u0.cell? ⟨w.heap.size, 9, none⟩ = some (.int .i64 gn) := by rw [RA0.out.cell 9, HC.out]; rfl
    go_upto_region 2 with (first | (go_at_call 63; refine (within_any _ _ _ _).mono ?_; rintro e w' ⟨rfl, rfl⟩) )
    go_wp2_with fail
    go_quiet (fail)
    go_upto_region 3 with (fail)
    refine name_w (fun W => Rw W w.heap.size cs 38 ∧ Rw W (w.heap.size + 1) rs 72 ∧ Rw W (w.heap.size + 1 + 1) zeroSC 38 ∧ Below w.heap.size w W) ⟨RA0.out.under (below_drewN _ _ _) RA0.out.lt, RB0.out.under (below_drewN _ _ _) RB0.out.lt, RZ0.out.under (below_drewN _ _ _) RZ0.out.lt, BT0.out.trans (below_drewN _ _ _)⟩ ?_
    rintro u1 ⟨hA, hB, hZ, hb⟩
    have RA1 := Lib.hid hA
    have RB1 := Lib.hid hB
    have RZ1 := Lib.hid hZ
    have BT1 := Lib.hid hb
    clear hA hB hZ hb RA0 RB0 RZ0 BT0
    have ZF := Lib.hid (RZ1.out.set cs)
    have BF := Lib.hid (below_setRow BT1.out (by omega) (b := w.heap.size + 1 + 1) cs)
    go_wp2_with (first | (refine wpList_load_row rfl 38 (.tmp 2) rfl w.heap.size rfl 38 cs (0, 0) _ RA1.out Try.underlying38 rfl (by rw [HZC.out]; exact i12) ?_) | (refine wpList_plain rfl fun _ hK => wp_store_row 38 (.tmp 4) (.tmp 38) rfl (w.heap.size + 1 + 1) cs rfl rfl 38 _ RZ1.out (by rw [HZC.out]; exact i12) (by rw [HZC.out]; rfl) H1C.out (hK _ _ ?_); clear hK))
    (try simp only [Exit.inBlock, Exit.then])
    refine bodyPost_ret (results_cell_tmp rfl _ _ (w.heap.size + 1 + 1) 38 cs (0, 0) _ rfl ZF.out Try.underlying38 rfl (by rw [HZC.out]; exact i12)) rfl ?_
    exact ⟨by rw [HE.out, HC.out]; rfl, BF.out⟩
  have HE : Hid (dep1 (⟨ph, 1, r0, r1, w0, w1, p0, p1, dl, gn, sw, fl⟩ : St) (⟨kind, rev, cnt, delay, gen, tick, pass, st⟩ : Rc) = ((⟨1, 1, rev, r1, cnt, w1, false, p1, delay, gn, sw, fl⟩ : St), true)) := Lib.hid (by unfold dep1; rw [if_neg (by have h0 := i0; have h1 := i1; have h2 := i2; unfold inR at h0 h1 h2; simp at h0 h1 h2; simp only; show ¬ (_ ∨ _ ∨ _ ∨ _ ∨ _ ∨ _ ∨ rev = r1 ∨ _); omega)]; rfl)
  have f1 : (rev == r1) = false := by simpa using he
  have f2 : decide (1048574 < gn) = false := by simpa using hg
  clear he hg
  have q1_0 : u0.cell? ⟨w.heap.size + 1, 1, none⟩ = some (.int .i64 rev) := by rw [RB0.out.cell 1, HRR.out]; rfl
  have q2_0 : u0.cell? ⟨w.heap.size + 1, 2, none⟩ = some (.int .i64 cnt) := by rw [RB0.out.cell 2, HRR.out]; rfl
  have q3_0 : u0.cell? ⟨w.heap.size + 1, 3, none⟩ = some (.int .i64 delay) := by rw [RB0.out.cell 3, HRR.out]; rfl
  have s1_0 : u0.cell? ⟨w.heap.size, 1, none⟩ = some (.int .i64 1) := by rw [RA0.out.cell 1, HC.out]; rfl
  have s3_0 : u0.cell? ⟨w.heap.size, 3, none⟩ = some (.int .i64 r1) := by rw [RA0.out.cell 3, HC.out]; rfl
  have s9_0 : u0.cell? ⟨w.heap.size, 9, none⟩ = some (.int .i64 gn) := by rw [RA0.out.cell 9, HC.out]; rfl
  go_upto_region 2 with (first | (go_at_call 63; refine (within_any _ _ _ _).mono ?_; rintro e w' ⟨rfl, rfl⟩) )
  go_wp2_with fail
  go_quiet (fail)
  go_upto_region 4 with (fail)
  clear i0 i1 i2 f1 f2 q1_0 q2_0 q3_0 s1_0 s9_0 s3_0
  refine name_w (fun W => Rw W w.heap.size cs 38 ∧ Rw W (w.heap.size + 1) rs 72 ∧ Rw W (w.heap.size + 1 + 1) zeroSC 38 ∧ Below w.heap.size w W) ⟨RA0.out.under (below_drewN _ _ _) RA0.out.lt, RB0.out.under (below_drewN _ _ _) RB0.out.lt, RZ0.out.under (below_drewN _ _ _) RZ0.out.lt, BT0.out.trans (below_drewN _ _ _)⟩ ?_
  rintro u1 ⟨hA, hB, hZ, hb⟩
  have RA1 := Lib.hid hA
  have RB1 := Lib.hid hB
  have RZ1 := Lib.hid hZ
  have BT1 := Lib.hid hb
  clear hA hB hZ hb RA0 RB0 RZ0 BT0
  go_wp2_with (refine wpList_load_row rfl 38 (.tmp 2) rfl w.heap.size rfl 38 cs (0, 0) _ RA1.out Try.underlying38 rfl (by rw [HZC.out]; exact i12) ?_)
  refine (HOT.out _).mono ?_
  rintro e u2 ⟨rfl, hb⟩
  have RA2 := Lib.hid (RA1.out.under hb RA1.out.lt)
  have RB2 := Lib.hid (RB1.out.under hb RB1.out.lt)
  have RZ2 := Lib.hid (RZ1.out.under hb RZ1.out.lt)
  have BT2 := Lib.hid (BT1.out.trans (hb.mono BT1.out.size))
  clear hb RA1 RB1 RZ1 BT1
  clear HOT
  have q1_2 : u2.cell? ⟨w.heap.size + 1, 1, none⟩ = some (.int .i64 rev) := by rw [RB2.out.cell 1, HRR.out]; rfl
  have q2_2 : u2.cell? ⟨w.heap.size + 1, 2, none⟩ = some (.int .i64 cnt) := by rw [RB2.out.cell 2, HRR.out]; rfl
  go_upto_region 5 with (fail)
  clear q1_2 q2_2
  refine wp_region_held_drew (S := fun W => Rw W (w.heap.size + 1) rs 72) (by kernel_rfl) RB2.out (fun hHeld => ?_)
  refine wpAnyH_take (i := 0) (oi := { dst := some 41, op := Op.move (Operand.tmp 7), type := 3, pos := "fold.go:99", after := #[], guard := none }) (v := ?_) rfl (by kernel_rfl) (by kernel_rfl) (by kernel_rfl) (fun _ _ _ h => h) (Or.inl ⟨by rfl, ?_⟩) hHeld ?_
  rotate_left
  · intro W hSw
    clear hSw
    first | (go_simp; done) | (go_simp; with_reducible rfl)
  (try simp only [Act.put, List.setIfInBounds_toArray, List.set_cons_zero, List.set_cons_succ])
  refine wpAnyH_take (i := 1) (oi := { dst := some 42, op := Op.move (Operand.tmp 7), type := 3, pos := "fold.go:99", after := #[{ on := 9, ground := Ground.gcOnly Departure.lateStores }], guard := none }) (v := ?_) rfl (by kernel_rfl) (by kernel_rfl) (by kernel_rfl) (fun _ _ _ h => h) (Or.inl ⟨by rfl, ?_⟩) hHeld ?_
  rotate_left
  · intro W hSw
    clear hSw
    first | (go_simp; done) | (go_simp; with_reducible rfl)
  (try simp only [Act.put, List.setIfInBounds_toArray, List.set_cons_zero, List.set_cons_succ])
  refine wpAnyH_take (i := 2) (oi := { dst := some 43, op := Op.move (Operand.tmp 7), type := 3, pos := "fold.go:99", after := #[{ on := 12, ground := Ground.gcOnly Departure.lateStores }], guard := none }) (v := ?_) rfl (by kernel_rfl) (by kernel_rfl) (by kernel_rfl) (fun _ _ _ h => h) (Or.inl ⟨by rfl, ?_⟩) hHeld ?_
  rotate_left
  · intro W hSw
    clear hSw
    first | (go_simp; done) | (go_simp; with_reducible rfl)
  (try simp only [Act.put, List.setIfInBounds_toArray, List.set_cons_zero, List.set_cons_succ])
  refine wpAnyH_take (i := 3) (oi := { dst := some 44, op := Op.fieldAddr 72 (Operand.tmp 3) 1, type := 0, pos := "fold.go:99", after := #[], guard := none }) (v := ?_) rfl (by kernel_rfl) (by kernel_rfl) (by kernel_rfl) (fun _ _ _ h => h) (Or.inl ⟨by rfl, ?_⟩) hHeld ?_
  rotate_left
  · intro W hSw
    clear hSw
    first | (go_simp; done) | (go_simp; with_reducible rfl)
  (try simp only [Act.put, List.setIfInBounds_toArray, List.set_cons_zero, List.set_cons_succ])
  refine wpAnyH_take (i := 4) (oi := { dst := some 45, op := Op.load 3 (Operand.tmp 44), type := 3, pos := "fold.go:99", after := #[{ on := 3, ground := Ground.data }], guard := none }) (v := ?_) rfl (by kernel_rfl) (by kernel_rfl) (by kernel_rfl) (fun _ _ _ h => h) (Or.inl ⟨by rfl, ?_⟩) hHeld ?_
  rotate_left
  · intro W hSw
    have qq : W.cell? ⟨w.heap.size + 1, 1, none⟩ = some (.int .i64 rev) := by rw [Rw.cell hSw 1, HRR.out]; rfl
    clear hSw
    first | (go_simp; done) | (go_simp; with_reducible rfl)
  (try simp only [Act.put, List.setIfInBounds_toArray, List.set_cons_zero, List.set_cons_succ])
  refine wpAnyH_take (i := 5) (oi := { dst := some 46, op := Op.fieldAddr 72 (Operand.tmp 3) 2, type := 0, pos := "fold.go:99", after := #[{ on := 9, ground := Ground.gcOnly Departure.lateStores }], guard := none }) (v := ?_) rfl (by kernel_rfl) (by kernel_rfl) (by kernel_rfl) (fun _ _ _ h => h) (Or.inl ⟨by rfl, ?_⟩) hHeld ?_
  rotate_left
  · intro W hSw
    clear hSw
    first | (go_simp; done) | (go_simp; with_reducible rfl)
  (try simp only [Act.put, List.setIfInBounds_toArray, List.set_cons_zero, List.set_cons_succ])
  refine wpAnyH_take (i := 6) (oi := { dst := some 47, op := Op.load 3 (Operand.tmp 46), type := 3, pos := "fold.go:99", after := #[{ on := 5, ground := Ground.data }, { on := 9, ground := Ground.gcOnly Departure.lateStores }], guard := none }) (v := ?_) rfl (by kernel_rfl) (by kernel_rfl) (by kernel_rfl) (fun _ _ _ h => h) (Or.inl ⟨by rfl, ?_⟩) hHeld ?_
  rotate_left
  · intro W hSw
    have qq : W.cell? ⟨w.heap.size + 1, 2, none⟩ = some (.int .i64 cnt) := by rw [Rw.cell hSw 2, HRR.out]; rfl
    clear hSw
    first | (go_simp; done) | (go_simp; with_reducible rfl)
  (try simp only [Act.put, List.setIfInBounds_toArray, List.set_cons_zero, List.set_cons_succ])
  refine wpAnyH_take (i := 7) (oi := { dst := some 48, op := Op.fieldAddr 38 (Operand.tmp 2) 2, type := 0, pos := "fold.go:99", after := #[], guard := none }) (v := ?_) rfl (by kernel_rfl) (by kernel_rfl) (by kernel_rfl) (fun _ _ _ h => h) (Or.inl ⟨by rfl, ?_⟩) hHeld ?_
  rotate_left
  · intro W hSw
    clear hSw
    first | (go_simp; done) | (go_simp; with_reducible rfl)
  (try simp only [Act.put, List.setIfInBounds_toArray, List.set_cons_zero, List.set_cons_succ])
  refine wpAnyH_take (i := 8) (oi := { dst := some 49, op := Op.indexAddr 35 (Operand.tmp 48) (Operand.tmp 41), type := 0, pos := "fold.go:99", after := #[{ on := 7, ground := Ground.data }, { on := 0, ground := Ground.data }, { on := 0, ground := Ground.phase }, { on := 1, ground := Ground.textOnly Departure.lateStores }, { on := 2, ground := Ground.textOnly Departure.lateStores }, { on := 3, ground := Ground.phase }, { on := 4, ground := Ground.phase }, { on := 5, ground := Ground.textOnly Departure.lateStores }, { on := 6, ground := Ground.textOnly Departure.lateStores }], guard := none }) (v := ?_) rfl (by kernel_rfl) (by kernel_rfl) (by kernel_rfl) (fun _ _ _ h => h) (Or.inl ⟨by rfl, ?_⟩) hHeld ?_
  rotate_left
  · intro W hSw
    clear hSw
    first | (go_simp; done) | (go_simp; with_reducible rfl)
  (try simp only [Act.put, List.setIfInBounds_toArray, List.set_cons_zero, List.set_cons_succ])
  refine wpAnyH_take (i := 10) (oi := { dst := some 50, op := Op.fieldAddr 38 (Operand.tmp 2) 3, type := 0, pos := "fold.go:99", after := #[], guard := none }) (v := ?_) rfl (by kernel_rfl) (by kernel_rfl) (by kernel_rfl) (fun _ _ _ h => h) (Or.inl ⟨by rfl, ?_⟩) hHeld ?_
  rotate_left
  · intro W hSw
    clear hSw
    first | (go_simp; done) | (go_simp; with_reducible rfl)
  (try simp only [Act.put, List.setIfInBounds_toArray, List.set_cons_zero, List.set_cons_succ])
  refine wpAnyH_take (i := 13) (oi := { dst := some 52, op := Op.fieldAddr 38 (Operand.tmp 2) 4, type := 0, pos := "fold.go:99", after := #[], guard := none }) (v := ?_) rfl (by kernel_rfl) (by kernel_rfl) (by kernel_rfl) (fun _ _ _ h => h) (Or.inl ⟨by rfl, ?_⟩) hHeld ?_
  rotate_left
  · intro W hSw
    clear hSw
    first | (go_simp; done) | (go_simp; with_reducible rfl)
  (try simp only [Act.put, List.setIfInBounds_toArray, List.set_cons_zero, List.set_cons_succ])
  have RX0 : Hid (Rw u2.drew w.heap.size (stC (⟨ph, 1, r0, r1, w0, w1, p0, p1, dl, gn, sw, fl⟩ : St)) 38) := Lib.hid ((show Rw u2 w.heap.size (stC (⟨ph, 1, r0, r1, w0, w1, p0, p1, dl, gn, sw, fl⟩ : St)) 38 by rw [← HC.out]; exact RA2.out))
  have BX0 := Lib.hid (below_drew BT2.out)
  have RBX0 : Hid (Rw u2.drew (w.heap.size + 1) rs 72) := Lib.hid RB2.out
  have RZX0 : Hid (Rw u2.drew (w.heap.size + 1 + 1) zeroSC 38) := Lib.hid RZ2.out
  have c2 : u2.cell? ⟨w.heap.size, 2, none⟩ = some (.int .i64 r0) := by rw [RA2.out.cell 2, HC.out]; rfl
  have f2 := RA2.out.fr 2
  refine wpAnyH_ready (rs := [9]) (by kernel_rfl) (by simp) ?_
  refine AllReadyH.cons (o := { dst := none, op := Op.store 3 (Operand.tmp 49) (Operand.tmp 45), type := 0, pos := "fold.go:99", after := #[{ on := 8, ground := Ground.data }, { on := 4, ground := Ground.data }, { on := 0, ground := Ground.phase }, { on := 1, ground := Ground.textOnly Departure.lateStores }, { on := 2, ground := Ground.textOnly Departure.lateStores }, { on := 3, ground := Ground.phase }, { on := 4, ground := Ground.phase }, { on := 5, ground := Ground.textOnly Departure.lateStores }, { on := 6, ground := Ground.textOnly Departure.lateStores }], guard := none }) rfl (fun K hK => ?_) AllReadyH.nil
  go_simp
  have RX1 : Hid (Rw (u2.drew.setCell ⟨w.heap.size, 2, none⟩ (.int .i64 rev)) w.heap.size (stC (⟨ph, 1, rev, r1, w0, w1, p0, p1, dl, gn, sw, fl⟩ : St)) 38) := Lib.hid (heap_setCell_same _ _ 2 _ 38 (.int .i64 rev) RX0.out)
  have RBX1 : Hid (Rw (u2.drew.setCell ⟨w.heap.size, 2, none⟩ (.int .i64 rev)) (w.heap.size + 1) rs 72) := Lib.hid ((Below.heap_setCell _ _ _ _ (by show w.heap.size + 1 ≠ w.heap.size; omega)).trans RBX0.out)
  have RZX1 : Hid (Rw (u2.drew.setCell ⟨w.heap.size, 2, none⟩ (.int .i64 rev)) (w.heap.size + 1 + 1) zeroSC 38) := Lib.hid ((Below.heap_setCell _ _ _ _ (by show w.heap.size + 1 + 1 ≠ w.heap.size; omega)).trans RZX0.out)
  have BX1 : Hid (Below w.heap.size w (u2.drew.setCell ⟨w.heap.size, 2, none⟩ (.int .i64 rev))) := Lib.hid (below_setCell BX0.out (Nat.le_refl _) _)
  refine hK.out _ _ ?_ (fun hHeld => ?_)
  · exact RBX1.out
  clear hK K c2 f2 RX0 RBX0 RZX0 BX0
  (try simp only [Act.put, List.setIfInBounds_toArray, List.set_cons_zero, List.set_cons_succ])
  refine wpAnyH_take (i := 11) (oi := { dst := some 51, op := Op.indexAddr 35 (Operand.tmp 50) (Operand.tmp 42), type := 0, pos := "fold.go:99", after := #[{ on := 10, ground := Ground.data }, { on := 1, ground := Ground.data }, { on := 0, ground := Ground.phase }, { on := 1, ground := Ground.phase }, { on := 2, ground := Ground.textOnly Departure.lateStores }, { on := 3, ground := Ground.phase }, { on := 4, ground := Ground.phase }, { on := 5, ground := Ground.phase }, { on := 6, ground := Ground.phase }, { on := 7, ground := Ground.phase }, { on := 8, ground := Ground.phase }, { on := 9, ground := Ground.phase }], guard := none }) (v := ?_) rfl (by kernel_rfl) (by kernel_rfl) (by kernel_rfl) (fun _ _ _ h => h) (Or.inl ⟨by rfl, ?_⟩) hHeld ?_
  rotate_left
  · intro W hSw
    clear hSw
    first | (go_simp; done) | (go_simp; with_reducible rfl)
  (try simp only [Act.put, List.setIfInBounds_toArray, List.set_cons_zero, List.set_cons_succ])
  have c4 : u2.cell? ⟨w.heap.size, 4, none⟩ = some (.int .i64 w0) := by rw [RA2.out.cell 4, HC.out]; rfl
  have f4 := RA2.out.fr 4
  refine wpAnyH_ready (rs := [12]) (by kernel_rfl) (by simp) ?_
  refine AllReadyH.cons (o := { dst := none, op := Op.store 3 (Operand.tmp 51) (Operand.tmp 47), type := 0, pos := "fold.go:99", after := #[{ on := 11, ground := Ground.data }, { on := 6, ground := Ground.data }, { on := 9, ground := Ground.chain }, { on := 0, ground := Ground.phase }, { on := 1, ground := Ground.phase }, { on := 2, ground := Ground.textOnly Departure.lateStores }, { on := 3, ground := Ground.phase }, { on := 4, ground := Ground.phase }, { on := 5, ground := Ground.phase }, { on := 6, ground := Ground.phase }, { on := 7, ground := Ground.phase }, { on := 8, ground := Ground.phase }, { on := 9, ground := Ground.phase }], guard := none }) rfl (fun K hK => ?_) AllReadyH.nil
  go_simp
  have RX2 : Hid (Rw ((u2.drew.setCell ⟨w.heap.size, 2, none⟩ (.int .i64 rev)).setCell ⟨w.heap.size, 4, none⟩ (.int .i64 cnt)) w.heap.size (stC (⟨ph, 1, rev, r1, cnt, w1, p0, p1, dl, gn, sw, fl⟩ : St)) 38) := Lib.hid (heap_setCell_same _ _ 4 _ 38 (.int .i64 cnt) RX1.out)
  have RBX2 : Hid (Rw ((u2.drew.setCell ⟨w.heap.size, 2, none⟩ (.int .i64 rev)).setCell ⟨w.heap.size, 4, none⟩ (.int .i64 cnt)) (w.heap.size + 1) rs 72) := Lib.hid ((Below.heap_setCell _ _ _ _ (by show w.heap.size + 1 ≠ w.heap.size; omega)).trans RBX1.out)
  have RZX2 : Hid (Rw ((u2.drew.setCell ⟨w.heap.size, 2, none⟩ (.int .i64 rev)).setCell ⟨w.heap.size, 4, none⟩ (.int .i64 cnt)) (w.heap.size + 1 + 1) zeroSC 38) := Lib.hid ((Below.heap_setCell _ _ _ _ (by show w.heap.size + 1 + 1 ≠ w.heap.size; omega)).trans RZX1.out)
  have BX2 : Hid (Below w.heap.size w ((u2.drew.setCell ⟨w.heap.size, 2, none⟩ (.int .i64 rev)).setCell ⟨w.heap.size, 4, none⟩ (.int .i64 cnt))) := Lib.hid (below_setCell BX1.out (Nat.le_refl _) _)
  refine hK.out _ _ ?_ (fun hHeld => ?_)
  · exact RBX2.out
  clear hK K c4 f4 RX1 RBX1 RZX1 BX1
  (try simp only [Act.put, List.setIfInBounds_toArray, List.set_cons_zero, List.set_cons_succ])
  refine wpAnyH_take (i := 14) (oi := { dst := some 53, op := Op.indexAddr 36 (Operand.tmp 52) (Operand.tmp 43), type := 0, pos := "fold.go:99", after := #[{ on := 13, ground := Ground.data }, { on := 2, ground := Ground.data }, { on := 0, ground := Ground.phase }, { on := 1, ground := Ground.phase }, { on := 2, ground := Ground.phase }, { on := 3, ground := Ground.phase }, { on := 4, ground := Ground.phase }, { on := 5, ground := Ground.phase }, { on := 6, ground := Ground.phase }, { on := 7, ground := Ground.phase }, { on := 8, ground := Ground.phase }, { on := 9, ground := Ground.phase }, { on := 10, ground := Ground.phase }, { on := 11, ground := Ground.phase }, { on := 12, ground := Ground.phase }], guard := none }) (v := ?_) rfl (by kernel_rfl) (by kernel_rfl) (by kernel_rfl) (fun _ _ _ h => h) (Or.inl ⟨by rfl, ?_⟩) hHeld ?_
  rotate_left
  · intro W hSw
    clear hSw
    first | (go_simp; done) | (go_simp; with_reducible rfl)
  (try simp only [Act.put, List.setIfInBounds_toArray, List.set_cons_zero, List.set_cons_succ])
  have c6 : u2.cell? ⟨w.heap.size, 6, none⟩ = some (.bool p0) := by rw [RA2.out.cell 6, HC.out]; rfl
  have f6 := RA2.out.fr 6
  refine wpAnyH_ready (rs := [15]) (by kernel_rfl) (by simp) ?_
  refine AllReadyH.cons (o := { dst := none, op := Op.store 4 (Operand.tmp 53) (Operand.const (Value.bool false)), type := 0, pos := "fold.go:99", after := #[{ on := 14, ground := Ground.data }, { on := 12, ground := Ground.chain }, { on := 0, ground := Ground.phase }, { on := 1, ground := Ground.phase }, { on := 2, ground := Ground.phase }, { on := 3, ground := Ground.phase }, { on := 4, ground := Ground.phase }, { on := 5, ground := Ground.phase }, { on := 6, ground := Ground.phase }, { on := 7, ground := Ground.phase }, { on := 8, ground := Ground.phase }, { on := 9, ground := Ground.phase }, { on := 10, ground := Ground.phase }, { on := 11, ground := Ground.phase }, { on := 12, ground := Ground.phase }], guard := none }) rfl (fun K hK => ?_) AllReadyH.nil
  go_simp
  have RX3 : Hid (Rw (((u2.drew.setCell ⟨w.heap.size, 2, none⟩ (.int .i64 rev)).setCell ⟨w.heap.size, 4, none⟩ (.int .i64 cnt)).setCell ⟨w.heap.size, 6, none⟩ (.bool false)) w.heap.size (stC (⟨ph, 1, rev, r1, cnt, w1, false, p1, dl, gn, sw, fl⟩ : St)) 38) := Lib.hid (heap_setCell_same _ _ 6 _ 38 (.bool false) RX2.out)
  have RBX3 : Hid (Rw (((u2.drew.setCell ⟨w.heap.size, 2, none⟩ (.int .i64 rev)).setCell ⟨w.heap.size, 4, none⟩ (.int .i64 cnt)).setCell ⟨w.heap.size, 6, none⟩ (.bool false)) (w.heap.size + 1) rs 72) := Lib.hid ((Below.heap_setCell _ _ _ _ (by show w.heap.size + 1 ≠ w.heap.size; omega)).trans RBX2.out)
  have RZX3 : Hid (Rw (((u2.drew.setCell ⟨w.heap.size, 2, none⟩ (.int .i64 rev)).setCell ⟨w.heap.size, 4, none⟩ (.int .i64 cnt)).setCell ⟨w.heap.size, 6, none⟩ (.bool false)) (w.heap.size + 1 + 1) zeroSC 38) := Lib.hid ((Below.heap_setCell _ _ _ _ (by show w.heap.size + 1 + 1 ≠ w.heap.size; omega)).trans RZX2.out)
  have BX3 : Hid (Below w.heap.size w (((u2.drew.setCell ⟨w.heap.size, 2, none⟩ (.int .i64 rev)).setCell ⟨w.heap.size, 4, none⟩ (.int .i64 cnt)).setCell ⟨w.heap.size, 6, none⟩ (.bool false))) := Lib.hid (below_setCell BX2.out (Nat.le_refl _) _)
  refine hK.out _ _ ?_ (fun hHeld => ?_)
  · exact RBX3.out
  clear hK K c6 f6 RX2 RBX2 RZX2 BX2
  (try simp only [Act.put, List.setIfInBounds_toArray, List.set_cons_zero, List.set_cons_succ])
  refine wpAnyH_done (by kernel_rfl) ?_ _
  go_upto_region 6 with (fail)
  refine name_w (fun W => Rw W w.heap.size (stC (⟨ph, 1, rev, r1, cnt, w1, false, p1, dl, gn, sw, fl⟩ : St)) 38 ∧ Rw W (w.heap.size + 1) rs 72 ∧ Rw W (w.heap.size + 1 + 1) zeroSC 38 ∧ Below w.heap.size w W) ⟨RX3.out, RBX3.out, RZX3.out, BX3.out⟩ ?_
  rintro u3 ⟨hA, hB, hZ, hb⟩
  have RA3 := Lib.hid hA
  have RB3 := Lib.hid hB
  have RZ3 := Lib.hid hZ
  have BT3 := Lib.hid hb
  clear hA hB hZ hb RA2 RB2 RZ2 BT2
  clear RX3 RBX3 RZX3 BX3
  have q3_3 : u3.cell? ⟨w.heap.size + 1, 3, none⟩ = some (.int .i64 delay) := by rw [RB3.out.cell 3, HRR.out]; rfl
  have s8_3 : u3.cell? ⟨w.heap.size, 8, none⟩ = some (.int .i64 dl) := by rw [RA3.out.cell 8]; rfl
  have fr8_3 := RA3.out.fr 8
  go_upto_region 7 with (fail)
  clear s8_3 fr8_3 q3_3
  refine name_w (fun W => Rw W w.heap.size (stC (⟨ph, 1, rev, r1, cnt, w1, false, p1, delay, gn, sw, fl⟩ : St)) 38 ∧ Rw W (w.heap.size + 1) rs 72 ∧ Rw W (w.heap.size + 1 + 1) zeroSC 38 ∧ Below w.heap.size w W) ⟨(heap_setCell_same _ _ 8 _ 38 (.int .i64 delay) RA3.out), ((Below.heap_setCell _ _ _ _ (by show w.heap.size + 1 ≠ w.heap.size; omega)).trans RB3.out), ((Below.heap_setCell _ _ _ _ (by show w.heap.size + 1 + 1 ≠ w.heap.size; omega)).trans RZ3.out), (below_setCell BT3.out (Nat.le_refl _) _)⟩ ?_
  rintro u4 ⟨hA, hB, hZ, hb⟩
  have RA4 := Lib.hid hA
  have RB4 := Lib.hid hB
  have RZ4 := Lib.hid hZ
  have BT4 := Lib.hid hb
  clear hA hB hZ hb RA3 RB3 RZ3 BT3
  have s0_4 : u4.cell? ⟨w.heap.size, 0, none⟩ = some (.int .i64 ph) := by rw [RA4.out.cell 0]; rfl
  have fr0_4 := RA4.out.fr 0
  go_upto_region 8 with (fail)
  clear s0_4 fr0_4
  refine name_w (fun W => Rw W w.heap.size (stC (⟨1, 1, rev, r1, cnt, w1, false, p1, delay, gn, sw, fl⟩ : St)) 38 ∧ Rw W (w.heap.size + 1) rs 72 ∧ Rw W (w.heap.size + 1 + 1) zeroSC 38 ∧ Below w.heap.size w W) ⟨(heap_setCell_same _ _ 0 _ 38 (.int .i64 1) RA4.out), ((Below.heap_setCell _ _ _ _ (by show w.heap.size + 1 ≠ w.heap.size; omega)).trans RB4.out), ((Below.heap_setCell _ _ _ _ (by show w.heap.size + 1 + 1 ≠ w.heap.size; omega)).trans RZ4.out), (below_setCell BT4.out (Nat.le_refl _) _)⟩ ?_
  rintro u5 ⟨hA, hB, hZ, hb⟩
  have RA5 := Lib.hid hA
  have RB5 := Lib.hid hB
  have RZ5 := Lib.hid hZ
  have BT5 := Lib.hid hb
  clear hA hB hZ hb RA4 RB4 RZ4 BT4
  obtain ⟨ds, hds⟩ : ∃ d, d = stC (⟨1, 1, rev, r1, cnt, w1, false, p1, delay, gn, sw, fl⟩ : St) := ⟨_, rfl⟩
  have HD := Lib.hid hds
  have HDZ : Hid (ds.size = 12) := Lib.hid (by rw [hds]; rfl)
  have HD1 : Hid (ds.all (·.oneCell') = true) := Lib.hid (by rw [hds]; exact stC_one _)
  have RF : Hid (Rw u5 w.heap.size ds 38) := Lib.hid (by rw [hds]; exact RA5.out)
  clear hds
  have ZF := Lib.hid (RZ5.out.set ds)
  have BF := Lib.hid (below_setRow BT5.out (by omega) (b := w.heap.size + 1 + 1) ds)
  go_wp2_with (first | (refine wpList_load_row rfl 38 (.tmp 2) rfl w.heap.size rfl 38 ds (0, 0) _ RF.out Try.underlying38 rfl (by rw [HDZ.out]; exact i12) ?_) | (refine wpList_plain rfl fun _ hK => wp_store_row 38 (.tmp 4) (.tmp 58) rfl (w.heap.size + 1 + 1) ds rfl rfl 38 _ RZ5.out (by rw [HDZ.out]; exact i12) (by rw [HDZ.out]; rfl) HD1.out (hK _ _ ?_); clear hK))
  (try simp only [Exit.inBlock, Exit.then])
  refine bodyPost_ret (results_cell_tmp rfl _ _ (w.heap.size + 1 + 1) 38 ds (0, 0) _ rfl ZF.out Try.underlying38 rfl (by rw [HDZ.out]; exact i12)) rfl ?_
  exact ⟨by rw [HE.out, HD.out]; rfl, BF.out⟩
theorem deploy_any (s : St) (r : Rc) (w : World) (h : s.ac = 0 ∨ s.ac = 1) : Calls Try.prog 66 #[stV s, recV r] w (StepR (dep1 s r) w) := h.elim (deploy_0 s r w) (deploy_1 s r w)
end Go.Proofs.Ytchaeidmjoelnaa
