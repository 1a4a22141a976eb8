/-
  What the document's own Blank and pick answer.
-/
import Derived.Test.YtchaeidmjoelnaaGreatStBlank
namespace Go.Proofs.YtchaeidmjoelnaaGreat
open Go.RowKit

set_option maxRecDepth 100000 in
set_option maxHeartbeats 2000000 in
theorem mblank_0 (ph r0 r1 w0 w1 dl gn sw fl : Int) (p0 p1 : Bool) (cs : Array Value) (w : World) (hcs : cs = stC (⟨ph, 0, r0, r1, w0, w1, p0, p1, dl, gn, sw, fl⟩ : St)) : Calls Tryz.prog 77 #[.agg cs] w (GotS (blankS (⟨ph, 0, r0, r1, w0, w1, p0, p1, dl, gn, sw, fl⟩ : St)) w) := by
  have HC := Lib.hid hcs
  clear hcs
  go_enter Tryz.func77, Tryz.ntmps77
  go_upto_region 1 with (fail)
  refine name_w (fun W => Rw W w.heap.size (stC (⟨ph, 0, r0, r1, w0, w1, p0, p1, dl, gn, sw, fl⟩ : St)) 33 ∧ Rw W (w.heap.size + 1) zeroSC 33 ∧ Below w.heap.size w W) ⟨by rw [← HC.out]; exact (Rw.new _ _ _).alloc _, heap_alloc2_new w _ _, ((Below.refl _ _).alloc (Nat.le_refl _) _).alloc (by simp) _⟩ ?_
  rintro v0 ⟨hR, hZ, hb⟩
  have RT_v0 := Lib.hid hR
  have RZ_v0 := Lib.hid hZ
  have BT_v0 := Lib.hid hb
  have a_v0 : v0.cell? ⟨w.heap.size, 1, none⟩ = some (.int .i64 0) := by rw [hR.cell 1]; rfl
  clear hR hZ hb
  have c_v0 : v0.cell? ⟨w.heap.size, 3, none⟩ = some (.int .i64 r1) := by rw [RT_v0.out.cell 3]; rfl
  have fr_v0 := RT_v0.out.fr 3
  go_upto_region 3 with (fail)
  refine name_w (fun W => Rw W w.heap.size (stC (⟨ph, 0, r0, 0, w0, w1, p0, p1, dl, gn, sw, fl⟩ : St)) 33 ∧ Rw W (w.heap.size + 1) zeroSC 33 ∧ Below w.heap.size w W) ⟨heap_setCell_same _ _ 3 _ 33 (.int .i64 0) RT_v0.out, (Below.heap_setCell _ _ _ _ (by show w.heap.size + 1 ≠ w.heap.size; omega)).trans RZ_v0.out, below_setCell BT_v0.out (Nat.le_refl _) _⟩ ?_
  clear c_v0 fr_v0 a_v0
  rintro v1 ⟨hR, hZ, hb⟩
  have RT_v1 := Lib.hid hR
  have RZ_v1 := Lib.hid hZ
  have BT_v1 := Lib.hid hb
  clear hR hZ hb
  have c_v1 : v1.cell? ⟨w.heap.size, 5, none⟩ = some (.int .i64 w1) := by rw [RT_v1.out.cell 5]; rfl
  have fr_v1 := RT_v1.out.fr 5
  go_upto_region 4 with (fail)
  refine name_w (fun W => Rw W w.heap.size (stC (⟨ph, 0, r0, 0, w0, 0, p0, p1, dl, gn, sw, fl⟩ : St)) 33 ∧ Rw W (w.heap.size + 1) zeroSC 33 ∧ Below w.heap.size w W) ⟨heap_setCell_same _ _ 5 _ 33 (.int .i64 0) RT_v1.out, (Below.heap_setCell _ _ _ _ (by show w.heap.size + 1 ≠ w.heap.size; omega)).trans RZ_v1.out, below_setCell BT_v1.out (Nat.le_refl _) _⟩ ?_
  clear c_v1 fr_v1
  rintro v2 ⟨hR, hZ, hb⟩
  have RT_v2 := Lib.hid hR
  have RZ_v2 := Lib.hid hZ
  have BT_v2 := Lib.hid hb
  clear hR hZ hb
  have c_v2 : v2.cell? ⟨w.heap.size, 7, none⟩ = some (.bool p1) := by rw [RT_v2.out.cell 7]; rfl
  have fr_v2 := RT_v2.out.fr 7
  go_upto_region 5 with (fail)
  refine name_w (fun W => Rw W w.heap.size (stC (⟨ph, 0, r0, 0, w0, 0, p0, false, dl, gn, sw, fl⟩ : St)) 33 ∧ Rw W (w.heap.size + 1) zeroSC 33 ∧ Below w.heap.size w W) ⟨heap_setCell_same _ _ 7 _ 33 (.bool false) RT_v2.out, (Below.heap_setCell _ _ _ _ (by show w.heap.size + 1 ≠ w.heap.size; omega)).trans RZ_v2.out, below_setCell BT_v2.out (Nat.le_refl _) _⟩ ?_
  clear c_v2 fr_v2
  rintro v3 ⟨hR, hZ, hb⟩
  have RT_v3 := Lib.hid hR
  have RZ_v3 := Lib.hid hZ
  have BT_v3 := Lib.hid hb
  clear hR hZ hb
  have c_v3 : v3.cell? ⟨w.heap.size, 0, none⟩ = some (.int .i64 ph) := by rw [RT_v3.out.cell 0]; rfl
  have fr_v3 := RT_v3.out.fr 0
  go_upto_region 6 with (fail)
  refine name_w (fun W => Rw W w.heap.size (stC (⟨0, 0, r0, 0, w0, 0, p0, false, dl, gn, sw, fl⟩ : St)) 33 ∧ Rw W (w.heap.size + 1) zeroSC 33 ∧ Below w.heap.size w W) ⟨heap_setCell_same _ _ 0 _ 33 (.int .i64 0) RT_v3.out, (Below.heap_setCell _ _ _ _ (by show w.heap.size + 1 ≠ w.heap.size; omega)).trans RZ_v3.out, below_setCell BT_v3.out (Nat.le_refl _) _⟩ ?_
  clear c_v3 fr_v3
  rintro v4 ⟨hR, hZ, hb⟩
  have RT_v4 := Lib.hid hR
  have RZ_v4 := Lib.hid hZ
  have BT_v4 := Lib.hid hb
  clear hR hZ hb
  obtain ⟨ds, hds⟩ : ∃ ds, ds = stC (⟨0, 0, r0, 0, w0, 0, p0, false, dl, gn, sw, fl⟩ : St) := ⟨_, rfl⟩
  have HD := Lib.hid hds
  have HDZ : Hid (ds.size = 12) := Lib.hid (by rw [hds]; rfl)
  have HD1 : Hid (ds.all (·.oneCell') = true) := Lib.hid (by rw [hds]; exact stC_one _)
  have RF : Hid (Rw v4 w.heap.size ds 33) := Lib.hid (by rw [hds]; exact RT_v4.out)
  have ZF := Lib.hid (RZ_v4.out.set ds)
  have BF := Lib.hid (below_setRow BT_v4.out (by omega) (b := w.heap.size + 1) ds)
  clear hds
  go_wp2_with (first | (refine wpList_load_row rfl 33 (.tmp 1) rfl w.heap.size rfl 33 ds (0, 0) _ RF.out Tryz.underlying33 rfl (by rw [HDZ.out]; exact i12) ?_) | (refine wpList_plain rfl fun _ hK => wp_store_row 33 (.tmp 2) (.tmp 17) rfl (w.heap.size + 1) ds rfl rfl 33 _ RZ_v4.out (by rw [HDZ.out]; exact i12) (by rw [HDZ.out]; rfl) HD1.out (hK _ _ ?_); clear hK))
  (try simp only [Exit.inBlock, Exit.then])
  refine bodyPost_ret (results_cell_row rfl _ _ (w.heap.size + 1) 33 ds (0, 0) _ rfl ZF.out Tryz.underlying33 rfl (by rw [HDZ.out]; exact i12)) rfl ?_
  exact ⟨by rw [HD.out]; rfl, BF.out⟩
set_option maxRecDepth 100000 in
set_option maxHeartbeats 2000000 in
theorem mblank_1 (ph r0 r1 w0 w1 dl gn sw fl : Int) (p0 p1 : Bool) (cs : Array Value) (w : World) (hcs : cs = stC (⟨ph, 1, r0, r1, w0, w1, p0, p1, dl, gn, sw, fl⟩ : St)) : Calls Tryz.prog 77 #[.agg cs] w (GotS (blankS (⟨ph, 1, r0, r1, w0, w1, p0, p1, dl, gn, sw, fl⟩ : St)) w) := by
  have HC := Lib.hid hcs
  clear hcs
  go_enter Tryz.func77, Tryz.ntmps77
  go_upto_region 1 with (fail)
  refine name_w (fun W => Rw W w.heap.size (stC (⟨ph, 1, r0, r1, w0, w1, p0, p1, dl, gn, sw, fl⟩ : St)) 33 ∧ Rw W (w.heap.size + 1) zeroSC 33 ∧ Below w.heap.size w W) ⟨by rw [← HC.out]; exact (Rw.new _ _ _).alloc _, heap_alloc2_new w _ _, ((Below.refl _ _).alloc (Nat.le_refl _) _).alloc (by simp) _⟩ ?_
  rintro v0 ⟨hR, hZ, hb⟩
  have RT_v0 := Lib.hid hR
  have RZ_v0 := Lib.hid hZ
  have BT_v0 := Lib.hid hb
  have a_v0 : v0.cell? ⟨w.heap.size, 1, none⟩ = some (.int .i64 1) := by rw [hR.cell 1]; rfl
  clear hR hZ hb
  have c_v0 : v0.cell? ⟨w.heap.size, 2, none⟩ = some (.int .i64 r0) := by rw [RT_v0.out.cell 2]; rfl
  have fr_v0 := RT_v0.out.fr 2
  go_upto_region 3 with (fail)
  refine name_w (fun W => Rw W w.heap.size (stC (⟨ph, 1, 0, r1, w0, w1, p0, p1, dl, gn, sw, fl⟩ : St)) 33 ∧ Rw W (w.heap.size + 1) zeroSC 33 ∧ Below w.heap.size w W) ⟨heap_setCell_same _ _ 2 _ 33 (.int .i64 0) RT_v0.out, (Below.heap_setCell _ _ _ _ (by show w.heap.size + 1 ≠ w.heap.size; omega)).trans RZ_v0.out, below_setCell BT_v0.out (Nat.le_refl _) _⟩ ?_
  clear c_v0 fr_v0 a_v0
  rintro v1 ⟨hR, hZ, hb⟩
  have RT_v1 := Lib.hid hR
  have RZ_v1 := Lib.hid hZ
  have BT_v1 := Lib.hid hb
  clear hR hZ hb
  have c_v1 : v1.cell? ⟨w.heap.size, 4, none⟩ = some (.int .i64 w0) := by rw [RT_v1.out.cell 4]; rfl
  have fr_v1 := RT_v1.out.fr 4
  go_upto_region 4 with (fail)
  refine name_w (fun W => Rw W w.heap.size (stC (⟨ph, 1, 0, r1, 0, w1, p0, p1, dl, gn, sw, fl⟩ : St)) 33 ∧ Rw W (w.heap.size + 1) zeroSC 33 ∧ Below w.heap.size w W) ⟨heap_setCell_same _ _ 4 _ 33 (.int .i64 0) RT_v1.out, (Below.heap_setCell _ _ _ _ (by show w.heap.size + 1 ≠ w.heap.size; omega)).trans RZ_v1.out, below_setCell BT_v1.out (Nat.le_refl _) _⟩ ?_
  clear c_v1 fr_v1
  rintro v2 ⟨hR, hZ, hb⟩
  have RT_v2 := Lib.hid hR
  have RZ_v2 := Lib.hid hZ
  have BT_v2 := Lib.hid hb
  clear hR hZ hb
  have c_v2 : v2.cell? ⟨w.heap.size, 6, none⟩ = some (.bool p0) := by rw [RT_v2.out.cell 6]; rfl
  have fr_v2 := RT_v2.out.fr 6
  go_upto_region 5 with (fail)
  refine name_w (fun W => Rw W w.heap.size (stC (⟨ph, 1, 0, r1, 0, w1, false, p1, dl, gn, sw, fl⟩ : St)) 33 ∧ Rw W (w.heap.size + 1) zeroSC 33 ∧ Below w.heap.size w W) ⟨heap_setCell_same _ _ 6 _ 33 (.bool false) RT_v2.out, (Below.heap_setCell _ _ _ _ (by show w.heap.size + 1 ≠ w.heap.size; omega)).trans RZ_v2.out, below_setCell BT_v2.out (Nat.le_refl _) _⟩ ?_
  clear c_v2 fr_v2
  rintro v3 ⟨hR, hZ, hb⟩
  have RT_v3 := Lib.hid hR
  have RZ_v3 := Lib.hid hZ
  have BT_v3 := Lib.hid hb
  clear hR hZ hb
  have c_v3 : v3.cell? ⟨w.heap.size, 0, none⟩ = some (.int .i64 ph) := by rw [RT_v3.out.cell 0]; rfl
  have fr_v3 := RT_v3.out.fr 0
  go_upto_region 6 with (fail)
  refine name_w (fun W => Rw W w.heap.size (stC (⟨0, 1, 0, r1, 0, w1, false, p1, dl, gn, sw, fl⟩ : St)) 33 ∧ Rw W (w.heap.size + 1) zeroSC 33 ∧ Below w.heap.size w W) ⟨heap_setCell_same _ _ 0 _ 33 (.int .i64 0) RT_v3.out, (Below.heap_setCell _ _ _ _ (by show w.heap.size + 1 ≠ w.heap.size; omega)).trans RZ_v3.out, below_setCell BT_v3.out (Nat.le_refl _) _⟩ ?_
  clear c_v3 fr_v3
  rintro v4 ⟨hR, hZ, hb⟩
  have RT_v4 := Lib.hid hR
  have RZ_v4 := Lib.hid hZ
  have BT_v4 := Lib.hid hb
  clear hR hZ hb
  obtain ⟨ds, hds⟩ : ∃ ds, ds = stC (⟨0, 1, 0, r1, 0, w1, false, p1, dl, gn, sw, fl⟩ : St) := ⟨_, rfl⟩
  have HD := Lib.hid hds
  have HDZ : Hid (ds.size = 12) := Lib.hid (by rw [hds]; rfl)
  have HD1 : Hid (ds.all (·.oneCell') = true) := Lib.hid (by rw [hds]; exact stC_one _)
  have RF : Hid (Rw v4 w.heap.size ds 33) := Lib.hid (by rw [hds]; exact RT_v4.out)
  have ZF := Lib.hid (RZ_v4.out.set ds)
  have BF := Lib.hid (below_setRow BT_v4.out (by omega) (b := w.heap.size + 1) ds)
  clear hds
  go_wp2_with (first | (refine wpList_load_row rfl 33 (.tmp 1) rfl w.heap.size rfl 33 ds (0, 0) _ RF.out Tryz.underlying33 rfl (by rw [HDZ.out]; exact i12) ?_) | (refine wpList_plain rfl fun _ hK => wp_store_row 33 (.tmp 2) (.tmp 17) rfl (w.heap.size + 1) ds rfl rfl 33 _ RZ_v4.out (by rw [HDZ.out]; exact i12) (by rw [HDZ.out]; rfl) HD1.out (hK _ _ ?_); clear hK))
  (try simp only [Exit.inBlock, Exit.then])
  refine bodyPost_ret (results_cell_row rfl _ _ (w.heap.size + 1) 33 ds (0, 0) _ rfl ZF.out Tryz.underlying33 rfl (by rw [HDZ.out]; exact i12)) rfl ?_
  exact ⟨by rw [HD.out]; rfl, BF.out⟩
theorem mblank_any (s : St) (w : World) (h : s.ac = 0 ∨ s.ac = 1) : Calls Tryz.prog 77 #[stV s] w (GotS (blankS s) w) := by
  obtain ⟨ph, ac, r0, r1, w0, w1, p0, p1, dl, gn, sw, fl⟩ := s
  rcases h with h | h
  · obtain rfl : ac = 0 := h
    exact mblank_0 ph r0 r1 w0 w1 dl gn sw fl p0 p1 _ w rfl
  · obtain rfl : ac = 1 := h
    exact mblank_1 ph r0 r1 w0 w1 dl gn sw fl p0 p1 _ w rfl
set_option maxRecDepth 100000 in
set_option maxHeartbeats 2000000 in
theorem mpick_any (a b : St) (ok : Bool) (w : World) : Calls Tryz.prog 78 #[stV a, stV b, .bool ok] w (StepR (if ok then b else a, ok) w) := by
  unfold stV
  obtain ⟨ca, hca⟩ : ∃ c, c = stC a := ⟨_, rfl⟩
  obtain ⟨cb, hcb⟩ : ∃ c, c = stC b := ⟨_, rfl⟩
  have HZA : Hid (ca.size = 12) := Lib.hid (by rw [hca]; rfl)
  have HZB : Hid (cb.size = 12) := Lib.hid (by rw [hcb]; rfl)
  have H1A : Hid (ca.all (·.oneCell') = true) := Lib.hid (by rw [hca]; exact stC_one _)
  have H1B : Hid (cb.all (·.oneCell') = true) := Lib.hid (by rw [hcb]; exact stC_one _)
  rw [← hca, ← hcb]
  have HA := Lib.hid hca
  have HB := Lib.hid hcb
  clear hca hcb
  go_enter Tryz.func78, Tryz.ntmps78
  go_upto_region 1 with (fail)
  refine name_w (fun W => Rw W w.heap.size ca 33 ∧ Rw W (w.heap.size + 1) cb 33 ∧ Rw W (w.heap.size + 1 + 1) zeroSC 33 ∧ Below w.heap.size w W) ⟨((Rw.new _ _ _).alloc _).alloc _, Rw.alloc (heap_alloc2_new w _ _) _, ?_, (((Below.refl _ _).alloc (Nat.le_refl _) _).alloc (by simp) _).alloc (by simp; omega) _⟩ ?_
  · have h1 := Rw.new ((w.alloc (.cells ca 33)).alloc (.cells cb 33)) zeroSC 33
    rw [size_alloc, size_alloc] at h1
    exact h1
  rintro W ⟨hA, hB, hZ, hb⟩
  have RA := Lib.hid hA
  have RB := Lib.hid hB
  have RZ := Lib.hid hZ
  have BT := Lib.hid hb
  clear hA hB hZ hb
  cases ok
  · have ZF := Lib.hid (RZ.out.set ca)
    have BF := Lib.hid (below_setRow BT.out (by omega) (b := w.heap.size + 1 + 1) ca)
    go_wp2_with (first | (refine wpList_load_row rfl 33 (.tmp 3) rfl w.heap.size rfl 33 ca (0, 0) _ RA.out Tryz.underlying33 rfl (by rw [HZA.out]; exact i12) ?_) | (refine wpList_plain rfl fun _ hK => wp_store_row 33 (.tmp 6) (.tmp 10) rfl (w.heap.size + 1 + 1) ca rfl rfl 33 _ RZ.out (by rw [HZA.out]; exact i12) (by rw [HZA.out]; rfl) H1A.out (hK _ _ ?_); clear hK))
    (try simp only [Exit.inBlock, Exit.then])
    refine bodyPost_ret (results_cell_tmp rfl _ _ (w.heap.size + 1 + 1) 33 ca (0, 0) _ rfl ZF.out Tryz.underlying33 rfl (by rw [HZA.out]; exact i12)) rfl ?_
    exact ⟨by rw [HA.out]; rfl, BF.out⟩
  · have ZF := Lib.hid (RZ.out.set cb)
    have BF := Lib.hid (below_setRow BT.out (by omega) (b := w.heap.size + 1 + 1) cb)
    go_wp2_with (first | (refine wpList_load_row rfl 33 (.tmp 4) rfl (w.heap.size + 1) rfl 33 cb (0, 0) _ RB.out Tryz.underlying33 rfl (by rw [HZB.out]; exact i12) ?_) | (refine wpList_plain rfl fun _ hK => wp_store_row 33 (.tmp 6) (.tmp 9) rfl (w.heap.size + 1 + 1) cb rfl rfl 33 _ RZ.out (by rw [HZB.out]; exact i12) (by rw [HZB.out]; rfl) H1B.out (hK _ _ ?_); clear hK))
    (try simp only [Exit.inBlock, Exit.then])
    refine bodyPost_ret (results_cell_tmp rfl _ _ (w.heap.size + 1 + 1) 33 cb (0, 0) _ rfl ZF.out Tryz.underlying33 rfl (by rw [HZB.out]; exact i12)) rfl ?_
    exact ⟨by rw [HB.out]; rfl, BF.out⟩
end Go.Proofs.YtchaeidmjoelnaaGreat
