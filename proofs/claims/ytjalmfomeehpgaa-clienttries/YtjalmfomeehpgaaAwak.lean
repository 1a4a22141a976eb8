/-
  awake: answers that the document fixes.
-/
import Derived.Test.YtjalmfomeehpgaaCel
import Derived.Deep.RegionHeld3
namespace Go.Proofs.Ytjalmfomeehpgaa
open Go.RowKit

theorem build2 (W : World) : (Instr.buildSlice 34 2 #[(0, .int .i64 2), (1, .int .i64 1)]).run Try.prog W = .ok (.slice (some ⟨W.heap.size, 0, none⟩) 2 2) (W.alloc (.cells #[.int .i64 2, .int .i64 1] 3)) := by
  simp [Instr.buildSlice, run_underlying Try.underlying34, sizeOf, typeInfo, zeroValue, ie3_is, ie3_size, ie3_zero, newRow, Instr.fill]
  rw [show Array.range 2 = #[0, 1] from by kernel_rfl]
  simp [Value.cells]
theorem fineF (n : Int) (h : 0 ≤ n ∧ n < 1000000) : Fine (F n) := ⟨fun h => (by cases h), fun h => (by cases h), h⟩
def S2 : Ro := ⟨0, 0, [2, 1], 0⟩
def S1 : Ro := ⟨1, 1, [], 1⟩
theorem j1 : SetJ 1 1 S2 (F 0) (triesC 2) 2 where
  pos := by omega
  le := by decide
  ahead := fun i hi => by
    match i, hi with
    | 0, _ => rfl
    | 1, _ => exact (by kernel_rfl : last 1 1 S2 (F 0) 1 = 10)
  fin := .inr (by decide)
theorem l1 : last 1 1 S2 (F 0) 2 = 10 ∧ st 1 1 S2 (F 0) 2 = (S1, F 2) := ⟨by kernel_rfl, by kernel_rfl⟩
theorem j2 : SetJ 1 1 S1 (F 2) (triesC 2) 1 where
  pos := by omega
  le := by decide
  ahead := fun i hi => by rw [Nat.lt_one_iff.1 hi]; rfl
  fin := .inl (by rw [show last 1 1 S1 (F 2) 1 = 0 from by kernel_rfl]; omega)
theorem l2 : last 1 1 S1 (F 2) 1 = 0 ∧ st 1 1 S1 (F 2) 1 = (S1, F 3) := ⟨by kernel_rfl, by kernel_rfl⟩
theorem j3 : SetJ 1 0 S1 (F 3) (triesC 5) 1 where
  pos := by omega
  le := by decide
  ahead := fun i hi => by rw [Nat.lt_one_iff.1 hi]; rfl
  fin := .inl (by rw [show last 1 0 S1 (F 3) 1 = 11 from by kernel_rfl]; omega)
theorem l3 : last 1 0 S1 (F 3) 1 = 11 ∧ st 1 0 S1 (F 3) 1 = (S1, F 4) := ⟨by kernel_rfl, by kernel_rfl⟩
theorem bdS2 : Bd 4 S2 (F 0) := ⟨fun h => (by cases h), fun h => (by cases h), by simp [F], by simp [S2], by simp [S2]⟩
theorem bdS1 (n : Int) (h : 0 ≤ n ∧ n ≤ 4) : Bd 4 S1 (F n) := ⟨fun h => (by cases h), fun h => (by cases h), by simp [F]; omega, by simp [S1], by simp [S1]⟩
set_option maxRecDepth 100000 in
set_option maxHeartbeats 4000000 in
theorem awake_any (w : World) : Calls Try.prog 8 #[] w fun e w' => e = .returned (.bool true) ∧ Below w.heap.size w w' := by
  have q33 := eq34
  go_enter Try.func8, Try.ntmps8
  go_wp2_with fail
  refine (new_any _).mono ?_
  rintro e w1 ⟨g, rfl, hg, hz, hb⟩
  have HB := Lib.hid hb
  have HZ := Lib.hid hz
  have HG := Lib.hid hg
  clear hz hb hg
  go_wp2_with fail
  refine (pk_new w.heap.size g _ w1 HZ.out (by rw [HG.out]; exact Nat.le_refl _)).mono ?_
  rintro e w2 ⟨b, rfl, hp, hb⟩
  have HP := Lib.hid hp
  have HB2 := Lib.hid (HB.out.trans (hb.mono HB.out.size))
  clear hp hb HB HZ HG
  have bs1 := build2
  go_wp2_with fail
  have ba := (Below.refl w2.heap.size w2).alloc (Nat.le_refl _) (.cells #[.int .i64 2, .int .i64 1] 3)
  have hi : IntsI (w2.alloc (.cells #[.int .i64 2, .int .i64 1] 3)) (.slice (some ⟨w2.heap.size, 0, none⟩) 2 2) [2, 1] := .inr ⟨w2.heap.size, 0, 2, rfl, by simp, by simp, by simp, fun k hk => by
    match k, hk with
    | 0, _ => rw [cell_of_row _ _ 0 _ _ _ (heap_alloc_new w2 (.cells #[.int .i64 2, .int .i64 1] 3))]; rfl
    | 1, _ => rw [cell_of_row _ _ 1 _ _ _ (heap_alloc_new w2 (.cells #[.int .i64 2, .int .i64 1] 3))]; rfl⟩
  refine (pk_script w.heap.size b g _ _ _ [2, 1] _ (HP.out.under ba) hi (by simp)).mono ?_
  rintro e w3 ⟨rfl, hp, ht⟩
  have HP3 : Hid (Pk w3 w.heap.size b g S2 (F 0)) := Lib.hid hp
  have HB3 : Hid (Below w.heap.size w w3) := Lib.hid (ht.below (HB2.out.trans (ba.mono HB2.out.size)))
  clear hp ht HP HB2 ba hi bs1
  go_upto_region 9 with (fail)
  obtain ⟨C, hC⟩ : ∃ X, X = w3.heap.size := ⟨_, rfl⟩
  rw [← hC]
  refine name_w (fun W => Has w W b g S2 (F 0) C 1 1) ?_ ?_
  · have bb := below_alloc w3 (.cells #[.int .i64 1, .int .i64 1] 33)
    rw [hC]
    exact ⟨HP3.out.under bb, HB3.out.trans (bb.mono HB3.out.size), Cel.new _ _ _⟩
  clear hC HP3 HB3
  rintro w4 h4
  have k0 := h4.cel.c0
  have k1 := h4.cel.c1
  have H4 := Lib.hid h4
  clear h4
  go_wp2_with fail
  refine (pk_set_at w.heap.size b g 4 S2 S1 (F 0) (F 2) 1 1 2 10 2 w4 H4.out.pk bdS2 (by omega) j1 l1.1 l1.2).mono ?_
  rintro e w5 ⟨rfl, hp, ht⟩
  have h5 := H4.out.turn hp ht
  clear hp ht k0 k1 H4
  have k0 := h5.cel.c0
  have k1 := h5.cel.c1
  have H5 := Lib.hid h5
  clear h5
  go_wp2_with fail
  refine (pk_set_at w.heap.size b g 4 S1 S1 (F 2) (F 3) 1 1 2 0 1 w5 H5.out.pk (bdS1 2 (by omega)) (by omega) j2 l2.1 l2.2).mono ?_
  rintro e w6 ⟨rfl, hp, ht⟩
  have h6 := H5.out.turn hp ht
  clear hp ht k0 k1 H5
  have H6 := Lib.hid h6
  clear h6
  go_wp2_with fail
  refine (pk_set_at w.heap.size b g 4 S1 S1 (F 3) (F 4) 1 0 5 11 1 w6 H6.out.pk (bdS1 3 (by omega)) (by omega) j3 l3.1 l3.2).mono ?_
  rintro e w7 ⟨rfl, hp, ht⟩
  have h7 := H6.out.turn hp ht
  clear hp ht H6
  have H7 := Lib.hid h7
  clear h7
  go_wp2
  have HR : Hid (∀ W, Has w W b g S1 (F 4) C 1 1 → Calls Try.prog 18 #[.pointer (some ⟨b, 0, none⟩)] W fun e w' => e = .returned (.agg #[.int .i64 1, .int .i64 1]) ∧ Has w w' b g S1 (F 4) C 1 1) := Lib.hid (fun W h => has_cell h)
  have x1 := H7.out.cells
  go_region_held3 (fun wx => wx.cell? ⟨C, 0, none⟩ = some (.int .i64 1) ∧ wx.cell? ⟨C, 1, none⟩ = some (.int .i64 1)) (first | exact x2 | exact x1) (first | (go_at_call 18; refine (HR.out _ H7.out.drew).mono ?_; rintro e wb ⟨rfl, hb1⟩; have x2 := hb1.cells))
  have HZ := Lib.hid hb1
  clear hb1 x1 x2 HR H7
  go_wp2
  go_ret
  exact ⟨rfl, HZ.out.low⟩
end Go.Proofs.Ytjalmfomeehpgaa
