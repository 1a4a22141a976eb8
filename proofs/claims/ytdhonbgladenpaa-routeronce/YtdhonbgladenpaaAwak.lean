/-
  awake: answers that the document fixes.
-/
import Derived.Test.YtdhonbgladenpaaPkE
namespace Go.Proofs.Ytdhonbgladenpaa
open Go.RowKit

theorem build1 (W : World) : (Instr.buildSlice 35 1 #[(0, .int .i64 1)]).run Try.prog W = .ok (.slice (some ⟨W.heap.size, 0, none⟩) 1 1) (W.alloc (.cells #[.int .i64 1] 3)) := by
  simp [Instr.buildSlice, run_underlying Try.underlying35, sizeOf, typeInfo, zeroValue, ie3_is, ie3_size, ie3_zero, newRow, Instr.fill]
  rw [show Array.range 1 = #[0] from by kernel_rfl]
  simp [Value.cells]
def F (n : Int) : Fu := ⟨false, 0, false, n⟩
theorem a1 : toldC ⟨0, 0, [1], 0⟩ (F 0) 1 1 = 10 ∧ leftC ⟨0, 0, [1], 0⟩ (F 0) 1 1 = ⟨1, 1, [], 1⟩ ∧ fuseC (F 0) 1 1 = F 1 := ⟨by kernel_rfl, by kernel_rfl, by kernel_rfl⟩
theorem a2 : toldC ⟨1, 1, [], 1⟩ (F 1) 1 1 = 0 ∧ leftC ⟨1, 1, [], 1⟩ (F 1) 1 1 = ⟨1, 1, [], 1⟩ ∧ fuseC (F 1) 1 1 = F 2 := ⟨by kernel_rfl, by kernel_rfl, by kernel_rfl⟩
theorem a3 : toldC ⟨1, 1, [], 1⟩ (F 2) 1 0 = 11 ∧ leftC ⟨1, 1, [], 1⟩ (F 2) 1 0 = ⟨1, 1, [], 1⟩ ∧ fuseC (F 2) 1 0 = F 3 := ⟨by kernel_rfl, by kernel_rfl, by kernel_rfl⟩
theorem a4 : toldC ⟨1, 1, [], 1⟩ (F 3) 0 0 = 1 ∧ leftC ⟨1, 1, [], 1⟩ (F 3) 0 0 = ⟨1, 1, [], 1⟩ ∧ fuseC (F 3) 0 0 = F 3 := ⟨by kernel_rfl, by kernel_rfl, by kernel_rfl⟩
theorem fineF (n : Int) (h : 0 ≤ n ∧ n < 1000000) : Fine (F n) := ⟨fun h => (by cases h), fun h => (by cases h), h⟩
set_option maxRecDepth 100000 in
set_option maxHeartbeats 4000000 in
theorem awake_any (w : World) : Calls Try.prog 9 #[] w fun e w' => e = .returned (.bool true) ∧ Below w.heap.size w w' := by
  have q34 := eq34
  go_enter Try.func9, Try.ntmps9
  go_wp2_with fail
  refine (new_any _).mono ?_
  rintro e w1 ⟨g, rfl, hg, hz, hb⟩
  have HB := Lib.hid hb
  have HZ := Lib.hid hz
  have HG := Lib.hid hg
  clear hz hb hg
  go_wp2_with fail
  refine (pk_new w.heap.size g _ w1 HZ.out (by rw [HG.out]; exact Nat.le_refl _)).mono ?_
  rintro e w2 ⟨b, rfl, hp, hb⟩
  have HP := Lib.hid hp
  have HB2 := Lib.hid (HB.out.trans (hb.mono HB.out.size))
  clear hp hb HB HZ HG
  have bs1 := build1
  go_wp2_with fail
  have ba := (Below.refl w2.heap.size w2).alloc (Nat.le_refl _) (.cells #[.int .i64 1] 3)
  have hi : IntsI (w2.alloc (.cells #[.int .i64 1] 3)) (.slice (some ⟨w2.heap.size, 0, none⟩) 1 1) [1] := .inr ⟨w2.heap.size, 0, 1, rfl, by simp, by simp, by simp, fun k hk => by
    obtain rfl : k = 0 := by simpa using hk
    rw [cell_of_row _ _ 0 _ _ _ (heap_alloc_new w2 (.cells #[.int .i64 1] 3))]
    rfl⟩
  refine (pk_script w.heap.size b g _ _ _ [1] _ (HP.out.under ba) hi (by simp)).mono ?_
  rintro e w3 ⟨rfl, hp, ht⟩
  have HP3 : Hid (Pk w3 w.heap.size b g ⟨0, 0, [1], 0⟩ (F 0)) := Lib.hid hp
  have HB3 : Hid (Below w.heap.size w w3) := Lib.hid (ht.below (HB2.out.trans (ba.mono HB2.out.size)))
  clear hp ht HP HB2 ba hi bs1
  go_wp2_with fail
  refine (pk_call w.heap.size b g _ _ 1 1 w3 HP3.out (fineF 0 (by omega)) (by simp)).mono ?_
  rw [a1.1, a1.2.1, a1.2.2]
  rintro e w4 ⟨rfl, hp, ht⟩
  have HP4 := Lib.hid hp
  have HB4 := Lib.hid (ht.below HB3.out)
  clear hp ht HP3 HB3
  go_wp2_with fail
  refine (pk_cell w.heap.size b g _ _ w4 HP4.out).mono ?_
  rintro e w5 ⟨rfl, hb⟩
  have HP5 := Lib.hid (HP4.out.under hb)
  have HB5 := Lib.hid (HB4.out.trans (hb.mono HB4.out.size))
  clear hb HP4 HB4
  go_upto_region 10 with (fail)
  obtain ⟨C, hC⟩ : ∃ X, X = w5.heap.size := ⟨_, rfl⟩
  rw [← hC]
  refine name_w (fun W => W.heap[C]? = some (.cells #[.int .i64 1, .int .i64 1] 34 (0, 0)) ∧ Pk W w.heap.size b g ⟨1, 1, [], 1⟩ (F 1) ∧ Below w.heap.size w W) ?_ ?_
  · have bb := (Below.refl w5.heap.size w5).alloc (Nat.le_refl _) (.cells #[.int .i64 1, .int .i64 1] 34)
    rw [hC]
    exact ⟨heap_alloc_new w5 _, HP5.out.under bb, HB5.out.trans (bb.mono HB5.out.size)⟩
  clear hC HP5 HB5
  rintro w6 ⟨h1, h2, h3⟩
  have HC6 := Lib.hid h1
  have HP6 := Lib.hid h2
  have HB6 := Lib.hid h3
  clear h1 h2 h3
  go_wp2_with fail
  refine (pk_call w.heap.size b g _ _ 1 1 w6 HP6.out (fineF 1 (by omega)) (by simp)).mono ?_
  rw [a2.1, a2.2.1, a2.2.2]
  rintro e w7 ⟨rfl, hp, ht⟩
  have HP7 := Lib.hid hp
  have HB7 := Lib.hid (ht.below HB6.out)
  have HC7 := Lib.hid (ht.kind C _ 34 (by decide) (by decide) (by decide) HC6.out)
  clear hp ht HP6 HB6 HC6
  go_wp2_with fail
  refine (pk_call w.heap.size b g _ _ 1 0 w7 HP7.out (fineF 2 (by omega)) (by simp)).mono ?_
  rw [a3.1, a3.2.1, a3.2.2]
  rintro e w8 ⟨rfl, hp, ht⟩
  have HP8 := Lib.hid hp
  have HB8 := Lib.hid (ht.below HB7.out)
  have HC8 := Lib.hid (ht.kind C _ 34 (by decide) (by decide) (by decide) HC7.out)
  clear hp ht HP7 HB7 HC7
  go_wp2_with fail
  refine (pk_call w.heap.size b g _ _ 0 0 w8 HP8.out (fineF 3 (by omega)) (by simp)).mono ?_
  rw [a4.1, a4.2.1, a4.2.2]
  rintro e w9 ⟨rfl, hp, ht⟩
  have HP9 := Lib.hid hp
  have HB9 := Lib.hid (ht.below HB8.out)
  have hc := ht.kind C _ 34 (by decide) (by decide) (by decide) HC8.out
  have c0 : w9.cell? ⟨C, 0, none⟩ = some (.int .i64 1) := by rw [cell_of_row w9 C 0 _ _ _ hc]; rfl
  have c1 : w9.cell? ⟨C, 1, none⟩ = some (.int .i64 1) := by rw [cell_of_row w9 C 1 _ _ _ hc]; rfl
  clear hp ht HP8 HB8 HC8 hc
  go_wp2_with fail
  refine (pk_writes w.heap.size b g _ _ w9 HP9.out).mono ?_
  rintro e w10 ⟨rfl, rfl⟩
  go_wp2
  go_ret
  exact ⟨rfl, HB9.out⟩
end Go.Proofs.Ytdhonbgladenpaa
