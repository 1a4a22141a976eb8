/-
  What package intent's recordOf answers.
-/
import Derived.Test.YthombepmlepgfaaDoorIPut
import Derived.Deep.Cut
namespace Go.Proofs.YthombepmlepgfaaDoor
open Go.RowKit

def zeroC : Array Value := recC zeroR
set_option maxRecDepth 100000 in
set_option maxHeartbeats 4000000 in
theorem recordOf_lit (k a0 a1 a2 a3 a4 a5 a6 a7 a8 a9 a10 a11 a12 a13 a14 a15 a16 a17 : Int) (ds : Array Value) (w : World) (hds : ds = (ints [a0, a1, a2, a3, a4, a5, a6, a7, a8, a9, a10, a11, a12, a13, a14, a15, a16, a17]).toArray) :
    Calls Tryd.prog 26 #[.int .i64 k, .agg ds] w fun e w' => e = .returned (recV (recOf k [a0, a1, a2, a3, a4, a5, a6, a7, a8, a9, a10, a11, a12, a13, a14, a15, a16, a17])) ∧ Below w.heap.size w w' := by
  have HDS := Lib.hid hds
  clear hds
  go_enter Tryd.func26, Tryd.ntmps26
  go_upto_region 1 with (fail)
  refine name_w (fun W => Rw W w.heap.size ds 49 ∧ Rw W (w.heap.size + 1) zeroC 27 ∧ Below w.heap.size w W) ⟨(Rw.new _ _ _).alloc _, ?_, ((Below.refl _ _).alloc (Nat.le_refl _) _).alloc (by simp) _⟩ ?_
  · have h1 := Rw.new (w.alloc (.cells ds 49)) zeroC 27
    rw [size_alloc] at h1
    exact h1
  rintro W ⟨hd, hz, hb⟩
  have HZ := Lib.hid hz
  have HB := Lib.hid hb
  have e0 : W.cell? ⟨w.heap.size, 0, none⟩ = some (.int .i64 a0) := by rw [hd.cell 0, HDS.out]; rfl
  have e1 : W.cell? ⟨w.heap.size, 1, none⟩ = some (.int .i64 a1) := by rw [hd.cell 1, HDS.out]; rfl
  have e2 : W.cell? ⟨w.heap.size, 2, none⟩ = some (.int .i64 a2) := by rw [hd.cell 2, HDS.out]; rfl
  have e3 : W.cell? ⟨w.heap.size, 3, none⟩ = some (.int .i64 a3) := by rw [hd.cell 3, HDS.out]; rfl
  have e4 : W.cell? ⟨w.heap.size, 4, none⟩ = some (.int .i64 a4) := by rw [hd.cell 4, HDS.out]; rfl
  have e5 : W.cell? ⟨w.heap.size, 5, none⟩ = some (.int .i64 a5) := by rw [hd.cell 5, HDS.out]; rfl
  have e6 : W.cell? ⟨w.heap.size, 6, none⟩ = some (.int .i64 a6) := by rw [hd.cell 6, HDS.out]; rfl
  have e7 : W.cell? ⟨w.heap.size, 7, none⟩ = some (.int .i64 a7) := by rw [hd.cell 7, HDS.out]; rfl
  have e8 : W.cell? ⟨w.heap.size, 8, none⟩ = some (.int .i64 a8) := by rw [hd.cell 8, HDS.out]; rfl
  have e9 : W.cell? ⟨w.heap.size, 9, none⟩ = some (.int .i64 a9) := by rw [hd.cell 9, HDS.out]; rfl
  have e10 : W.cell? ⟨w.heap.size, 10, none⟩ = some (.int .i64 a10) := by rw [hd.cell 10, HDS.out]; rfl
  have e11 : W.cell? ⟨w.heap.size, 11, none⟩ = some (.int .i64 a11) := by rw [hd.cell 11, HDS.out]; rfl
  have e12 : W.cell? ⟨w.heap.size, 12, none⟩ = some (.int .i64 a12) := by rw [hd.cell 12, HDS.out]; rfl
  have e13 : W.cell? ⟨w.heap.size, 13, none⟩ = some (.int .i64 a13) := by rw [hd.cell 13, HDS.out]; rfl
  have e14 : W.cell? ⟨w.heap.size, 14, none⟩ = some (.int .i64 a14) := by rw [hd.cell 14, HDS.out]; rfl
  have e15 : W.cell? ⟨w.heap.size, 15, none⟩ = some (.int .i64 a15) := by rw [hd.cell 15, HDS.out]; rfl
  have e16 : W.cell? ⟨w.heap.size, 16, none⟩ = some (.int .i64 a16) := by rw [hd.cell 16, HDS.out]; rfl
  have e17 : W.cell? ⟨w.heap.size, 17, none⟩ = some (.int .i64 a17) := by rw [hd.cell 17, HDS.out]; rfl
  clear hd hz hb
  go_wp2_with (refine wpList_plain rfl fun _ hK => wp_store_row 27 (.tmp 4) (.tmp 49) rfl (w.heap.size + 1) _ rfl rfl 27 _ HZ.out (by kernel_rfl) rfl (by simp [Value.oneCell']) (hK _ _ ?_); clear hK; have HE := Lib.hid (HZ.out.set (recC (recOf k [a0, a1, a2, a3, a4, a5, a6, a7, a8, a9, a10, a11, a12, a13, a14, a15, a16, a17]))); have HBE := Lib.hid (below_setRow HB.out (by omega) (b := w.heap.size + 1) (recC (recOf k [a0, a1, a2, a3, a4, a5, a6, a7, a8, a9, a10, a11, a12, a13, a14, a15, a16, a17]))))
  (try simp only [Exit.inBlock, Exit.then])
  refine bodyPost_ret (results_cell_row rfl _ _ (w.heap.size + 1) 27 (recC (recOf k [a0, a1, a2, a3, a4, a5, a6, a7, a8, a9, a10, a11, a12, a13, a14, a15, a16, a17])) (0, 0) _ rfl HE.out Tryd.underlying27 rfl (by kernel_rfl)) rfl ?_
  exact ⟨rfl, HBE.out⟩
theorem recordOf_any (k : Int) (l : List Int) (w : World) (hl : l.length = 18) : Calls Tryd.prog 26 #[.int .i64 k, arrV l] w fun e w' => e = .returned (recV (recOf k l)) ∧ Below w.heap.size w w' := by
  match l, hl with
  | [a0, a1, a2, a3, a4, a5, a6, a7, a8, a9, a10, a11, a12, a13, a14, a15, a16, a17], _ => exact recordOf_lit k a0 a1 a2 a3 a4 a5 a6 a7 a8 a9 a10 a11 a12 a13 a14 a15 a16 a17 _ w rfl
end Go.Proofs.YthombepmlepgfaaDoor
