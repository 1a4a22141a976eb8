/-
  The document's own Record; the state that First makes.
-/
import Derived.Test.YtakjehioadpldaaMayE
namespace Go.Proofs.Ytakjehioadpldaa
open Go.RowKit

theorem recC_one (r : Rc) : (recC r).all (·.oneCell') = true := by simp [recC, Value.oneCell']
set_option maxRecDepth 100000 in
set_option maxHeartbeats 8000000 in
theorem mrecord_c (kd rv cn dy : Int) (ps : Bool) (os : Array Value) (w : World) (hos : os = opC ⟨kd, rv, cn, dy, ps⟩) : Calls Try.prog 13 #[.agg os] w fun e w' => e = .returned (recV (recO ⟨kd, rv, cn, dy, ps⟩)) ∧ Below w.heap.size w w' := by
  have HO := Lib.hid hos
  clear hos
  go_enter Try.func13, Try.ntmps13
  go_upto_region 1 with (fail)
  obtain ⟨B, hBe⟩ : ∃ B, B = w.heap.size + 1 := ⟨_, rfl⟩
  rw [← hBe]
  refine name_w (fun W => Rw W w.heap.size os 27 ∧ Rw W B (recC ⟨0, 0, 0, 0, 0, 0, false, zeroS⟩) 35 ∧ Below w.heap.size w W) ⟨(Rw.new _ _ _).alloc _, ?_, ((Below.refl _ _).alloc (Nat.le_refl _) _).alloc (by simp) _⟩ ?_
  · have h1 := Rw.new (w.alloc (.cells os 27)) (recC ⟨0, 0, 0, 0, 0, 0, false, zeroS⟩) 35
    rw [size_alloc, ← hBe] at h1
    exact h1
  rintro W ⟨hP, hZ, hb⟩
  have HB := Lib.hid hb
  have HZB := Lib.hid hZ
  have HBB : Hid (w.heap.size ≤ B) := Lib.hid (by omega)
  have d0 : W.cell? ⟨w.heap.size, 0, none⟩ = some (.int .i64 kd) := by rw [hP.cell 0, HO.out]; rfl
  have d1 : W.cell? ⟨w.heap.size, 1, none⟩ = some (.int .i64 rv) := by rw [hP.cell 1, HO.out]; rfl
  have d2 : W.cell? ⟨w.heap.size, 2, none⟩ = some (.int .i64 cn) := by rw [hP.cell 2, HO.out]; rfl
  have d3 : W.cell? ⟨w.heap.size, 3, none⟩ = some (.int .i64 dy) := by rw [hP.cell 3, HO.out]; rfl
  have d4 : W.cell? ⟨w.heap.size, 4, none⟩ = some (.bool ps) := by rw [hP.cell 4, HO.out]; rfl
  clear hP hZ hb hBe
  by_cases h1 : kd = 1
  case pos =>
    subst h1
    have HE : Hid (recO ⟨1, rv, cn, dy, ps⟩ = ⟨1, rv, cn, dy, 0, 0, false, zeroS⟩) := Lib.hid rfl
    go_wp2_with (refine wpList_plain rfl fun _ hK => wp_store_row 35 (.tmp 2) (.tmp 12) rfl B (recC ⟨1, rv, cn, dy, 0, 0, false, zeroS⟩) rfl rfl 35 _ HZB.out i19 rfl (recC_one _) (hK _ _ ?_); clear hK)
    refine bodyPost_ret (results_cell_row rfl _ _ B 35 (recC ⟨1, rv, cn, dy, 0, 0, false, zeroS⟩) (0, 0) _ rfl (HZB.out.set (recC ⟨1, rv, cn, dy, 0, 0, false, zeroS⟩)) Try.underlying35 rfl i19) rfl ?_
    exact ⟨by rw [HE.out]; rfl, below_setRow HB.out HBB.out (recC ⟨1, rv, cn, dy, 0, 0, false, zeroS⟩)⟩
  have e1 : (kd == 1) = false := beq_eq_false_iff_ne.2 h1
  by_cases h2 : kd = 4
  case pos =>
    subst h2
    have HE : Hid (recO ⟨4, rv, cn, dy, ps⟩ = ⟨4, 0, 0, 0, 0, 0, ps, zeroS⟩) := Lib.hid rfl
    clear h1
    go_wp2_with (refine wpList_plain rfl fun _ hK => wp_store_row 35 (.tmp 2) (.tmp 25) rfl B (recC ⟨4, 0, 0, 0, 0, 0, ps, zeroS⟩) rfl rfl 35 _ HZB.out i19 rfl (recC_one _) (hK _ _ ?_); clear hK)
    refine bodyPost_ret (results_cell_row rfl _ _ B 35 (recC ⟨4, 0, 0, 0, 0, 0, ps, zeroS⟩) (0, 0) _ rfl (HZB.out.set (recC ⟨4, 0, 0, 0, 0, 0, ps, zeroS⟩)) Try.underlying35 rfl i19) rfl ?_
    exact ⟨by rw [HE.out]; rfl, below_setRow HB.out HBB.out (recC ⟨4, 0, 0, 0, 0, 0, ps, zeroS⟩)⟩
  have e2 : (kd == 4) = false := beq_eq_false_iff_ne.2 h2
  by_cases h3 : kd = 9
  case pos =>
    subst h3
    have HE : Hid (recO ⟨9, rv, cn, dy, ps⟩ = ⟨9, 0, 0, 0, 0, 0, ps, zeroS⟩) := Lib.hid rfl
    clear h1 h2
    go_wp2_with (refine wpList_plain rfl fun _ hK => wp_store_row 35 (.tmp 2) (.tmp 25) rfl B (recC ⟨9, 0, 0, 0, 0, 0, ps, zeroS⟩) rfl rfl 35 _ HZB.out i19 rfl (recC_one _) (hK _ _ ?_); clear hK)
    refine bodyPost_ret (results_cell_row rfl _ _ B 35 (recC ⟨9, 0, 0, 0, 0, 0, ps, zeroS⟩) (0, 0) _ rfl (HZB.out.set (recC ⟨9, 0, 0, 0, 0, 0, ps, zeroS⟩)) Try.underlying35 rfl i19) rfl ?_
    exact ⟨by rw [HE.out]; rfl, below_setRow HB.out HBB.out (recC ⟨9, 0, 0, 0, 0, 0, ps, zeroS⟩)⟩
  have e3 : (kd == 9) = false := beq_eq_false_iff_ne.2 h3
  have HE : Hid (recO ⟨kd, rv, cn, dy, ps⟩ = ⟨kd, 0, 0, 0, 0, 0, false, zeroS⟩) := Lib.hid (by unfold recO; rw [if_neg h1, if_neg (by simp [h2, h3])])
  clear h1 h2 h3
  go_wp2_with (refine wpList_plain rfl fun _ hK => wp_store_row 35 (.tmp 2) (.tmp 28) rfl B (recC ⟨kd, 0, 0, 0, 0, 0, false, zeroS⟩) rfl rfl 35 _ HZB.out i19 rfl (recC_one _) (hK _ _ ?_); clear hK)
  refine bodyPost_ret (results_cell_row rfl _ _ B 35 (recC ⟨kd, 0, 0, 0, 0, 0, false, zeroS⟩) (0, 0) _ rfl (HZB.out.set (recC ⟨kd, 0, 0, 0, 0, 0, false, zeroS⟩)) Try.underlying35 rfl i19) rfl ?_
  exact ⟨by rw [HE.out]; rfl, below_setRow HB.out HBB.out (recC ⟨kd, 0, 0, 0, 0, 0, false, zeroS⟩)⟩
theorem mrecord_any (o : Oc) (w : World) : Calls Try.prog 13 #[opV o] w fun e w' => e = .returned (recV (recO o)) ∧ Below w.heap.size w w' := by
  obtain ⟨kd, rv, cn, dy, ps⟩ := o
  exact mrecord_c kd rv cn dy ps _ w rfl
/-- A block is written at one place. -/
theorem Rw.setc {W : World} {b : Nat} {cs : Array Value} {t : TypeId} (h : Rw W b cs t) (i : Nat) (u : Value) : Rw (W.setCell ⟨b, i, none⟩ u) b (cs.setIfInBounds i u) t := by
  unfold Rw at h ⊢
  simp [World.setCell, Array.getElem?_modify, h]
def firstS (rev n : Int) : St := ⟨0, 0, rev, 0, n, 0, true, false, 0, 0, 0, 0⟩
set_option maxRecDepth 100000 in
set_option maxHeartbeats 8000000 in
theorem mfirst_any (rev n : Int) (w : World) : Calls Try.prog 15 #[.int .i64 rev, .int .i64 n] w fun e w' => e = .returned (stV (firstS rev n)) ∧ Below w.heap.size w w' := by
  go_enter Try.func15, Try.ntmps15
  go_upto_region 2 with (fail)
  obtain ⟨A, hA⟩ : ∃ A, A = w.heap.size := ⟨_, rfl⟩
  obtain ⟨B, hBe⟩ : ∃ B, B = w.heap.size + 1 := ⟨_, rfl⟩
  rw [← hBe, ← hA]
  refine name_w (fun W => Rw W A (stC zeroS) 25 ∧ Rw W B (stC zeroS) 25 ∧ Below w.heap.size w W) ?_ ?_
  · have h1 := Rw.new (w.alloc (.cells (stC zeroS) 25)) (stC zeroS) 25
    rw [size_alloc, ← hBe] at h1
    exact ⟨by rw [hA]; exact (Rw.new _ _ _).alloc _, h1, ((Below.refl _ _).alloc (Nat.le_refl _) _).alloc (by simp) _⟩
  rintro W ⟨h1, h2, h3⟩
  have c2 : W.cell? ⟨B, 2, none⟩ = some (.int .i64 0) := by rw [h2.cell 2]; rfl
  have c4 : W.cell? ⟨B, 4, none⟩ = some (.int .i64 0) := by rw [h2.cell 4]; rfl
  have c6 : W.cell? ⟨B, 6, none⟩ = some (.bool false) := by rw [h2.cell 6]; rfl
  have f2 := h2.fr 2
  have f4 := h2.fr 4
  have f6 := h2.fr 6
  have hne : A ≠ B := by omega
  have HX : Hid (Rw (((W.setCell ⟨B, 2, none⟩ (.int .i64 rev)).setCell ⟨B, 4, none⟩ (.int .i64 n)).setCell ⟨B, 6, none⟩ (.bool true)) A (stC zeroS) 25 ∧ Rw (((W.setCell ⟨B, 2, none⟩ (.int .i64 rev)).setCell ⟨B, 4, none⟩ (.int .i64 n)).setCell ⟨B, 6, none⟩ (.bool true)) B (stC (firstS rev n)) 25 ∧ Below w.heap.size w (((W.setCell ⟨B, 2, none⟩ (.int .i64 rev)).setCell ⟨B, 4, none⟩ (.int .i64 n)).setCell ⟨B, 6, none⟩ (.bool true))) := Lib.hid ⟨((Below.heap_setCell _ ⟨B, 6, none⟩ _ A hne).trans ((Below.heap_setCell _ ⟨B, 4, none⟩ _ A hne).trans (Below.heap_setCell _ ⟨B, 2, none⟩ _ A hne))).trans h1, ((h2.setc 2 _).setc 4 _).setc 6 _, below_setCell (below_setCell (below_setCell h3 (by omega) _) (by omega) _) (by omega) _⟩
  have HL : Hid (w.heap.size ≤ A) := Lib.hid (by omega)
  clear h1 h2 h3 hA hBe hne
  go_upto_region 5 with (fail)
  refine name_w (fun X => Rw X A (stC zeroS) 25 ∧ Rw X B (stC (firstS rev n)) 25 ∧ Below w.heap.size w X) HX.out ?_
  clear HX c2 c4 c6 f2 f4 f6
  rintro X ⟨h1, h2, h3⟩
  have H1 := Lib.hid h1
  have H2 := Lib.hid h2
  have H3 := Lib.hid h3
  clear h1 h2 h3
  obtain ⟨cs, hcs⟩ : ∃ c, c = stC (firstS rev n) := ⟨_, rfl⟩
  have HC := Lib.hid hcs
  have HZ : Hid (cs.size = 12) := Lib.hid (by rw [hcs]; rfl)
  have HO : Hid (cs.all (·.oneCell') = true) := Lib.hid (by rw [hcs]; exact stC_one _)
  rw [← hcs] at H2
  clear hcs
  go_wp2_with (first | (refine wpList_load_row rfl 25 (.tmp 5) rfl B rfl 25 cs (0, 0) _ H2.out Try.underlying25 rfl (by rw [HZ.out]; exact i12) ?_) | (refine wpList_plain rfl fun _ hK => wp_store_row 25 (.tmp 4) (.tmp 15) rfl A cs rfl rfl 25 _ H1.out (by rw [HZ.out]; exact i12) (by rw [HZ.out]; rfl) HO.out (hK _ _ ?_); clear hK))
  refine bodyPost_ret (results_cell_row rfl _ _ A 25 cs (0, 0) _ rfl (H1.out.set cs) Try.underlying25 rfl (by rw [HZ.out]; exact i12)) rfl ?_
  exact ⟨by rw [HC.out]; rfl, below_setRow H3.out HL.out cs⟩
end Go.Proofs.Ytakjehioadpldaa
