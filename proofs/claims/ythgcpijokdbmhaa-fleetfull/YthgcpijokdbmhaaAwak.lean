/-
  awake: answers that the document fixes.
-/
import Derived.Test.YthgcpijokdbmhaaFleW
namespace Go.Proofs.Ythgcpijokdbmhaa
open Go.RowKit

set_option maxRecDepth 100000 in
set_option maxHeartbeats 4000000 in
theorem awake_any {F : FleetIn} (hp : PkgF F) (w : World) : Calls Try.prog 9 #[] w fun e w' => e = .returned (.bool true) ∧ Below w.heap.size w w' := by
  have HK := Lib.hid hp
  clear hp
  go_enter Try.func9, Try.ntmps9
  go_wp2_with fail
  refine (two_new HK.out w).mono ?_
  rintro e w1 ⟨b, rfl, h⟩
  have H1 := Lib.hid h
  clear h
  go_wp2_with fail
  refine (two_apply HK.out nof_keeps 2 0 H1.out).mono ?_
  rintro e w2 ⟨rfl, h, _⟩
  rw [show scaleL [] 2 = [false, false] from by decide, show scaleL [] 0 = [] from by decide] at h
  have H2 := Lib.hid h
  clear h H1
  go_wp2_with fail
  refine (two_ready HK.out nof_keeps 0 1 true H2.out).mono ?_
  rw [show decide (isW (slotK 0 [false, false] []) 1) = true from by decide]
  rintro e w3 ⟨rfl, h, _⟩
  rw [show rdA [false, false] 0 1 true = [false, true] from by decide, show rdB [] 0 1 true = [] from by decide] at h
  have H3 := Lib.hid h
  clear h H2
  go_wp2_with fail
  refine (two_ready HK.out nof_keeps 1 0 true H3.out).mono ?_
  rw [show decide (isW (slotK 1 [false, true] []) 0) = false from by decide]
  rintro e w4 ⟨rfl, h, _⟩
  rw [show rdA [false, true] 1 0 true = [false, true] from by decide, show rdB [] 1 0 true = [] from by decide] at h
  have H4 := Lib.hid h
  clear h H3
  go_wp2_with fail
  refine (two_ready HK.out nof_keeps 2 0 true H4.out).mono ?_
  rw [show decide (isW (slotK 2 [false, true] []) 0) = false from by decide]
  rintro e w5 ⟨rfl, h, _⟩
  rw [show rdA [false, true] 2 0 true = [false, true] from by decide, show rdB [] 2 0 true = [] from by decide] at h
  have H5 := Lib.hid h
  clear h H4
  go_wp2_with fail
  refine (two_view HK.out nof_keeps H5.out).mono ?_
  rw [show viewK [false, true] [] = .agg #[.int .i64 2, .int .i64 0, .int .i64 1, .int .i64 0] from rfl]
  rintro e w6 ⟨rfl, h, _⟩
  have H6 := Lib.hid h
  clear h H5
  go_upto_region 7 with (fail)
  obtain ⟨A, hA⟩ : ∃ A, A = w6.heap.size := ⟨_, rfl⟩
  rw [← hA]
  refine name_w (fun W => Two F NoF w W [A] b [false, true] [] 0 [] [] ∧ Row4 W A 2 0 1 0) ?_ ?_
  · rw [hA]
    exact ⟨H6.out.alloc HK.out.ks nof_keeps _, heap_alloc_new w6 _⟩
  rintro w7 ⟨h, hr⟩
  have H7 := Lib.hid (And.intro h hr)
  clear h hr H6 hA
  go_wp2_with fail
  refine (two_fill HK.out nof_keeps H7.out.1).mono ?_
  rw [show fillL [false, true] = [true, true] from by decide, show fillL [] = [] from by decide]
  rintro e w8 ⟨rfl, h, hs⟩
  have hr : Row4 w8 A 2 0 1 0 := (hs A (by simp)).trans H7.out.2
  have m0 := hr.c0
  have m1 := hr.c1
  have m2 := hr.c2
  have m3 := hr.c3
  have q37 := eq37
  have H8 := Lib.hid h
  clear h hs hr H7
  go_wp2_with fail
  refine (two_full HK.out nof_keeps 0 H8.out).mono ?_
  rw [show fullL (slotK 0 [true, true] []) = true from by decide]
  rintro e w9 ⟨rfl, h, _⟩
  have H9 := Lib.hid h
  clear h H8 m0 m1 m2 m3 q37
  go_wp2_with fail
  refine (two_full HK.out nof_keeps 1 H9.out).mono ?_
  rw [show fullL (slotK 1 [true, true] []) = false from by decide]
  rintro e w10 ⟨rfl, h, _⟩
  have H10 := Lib.hid h
  clear h H9
  go_wp2_with fail
  refine (two_full HK.out nof_keeps (-1) H10.out).mono ?_
  rw [show fullL (slotK (-1) [true, true] []) = false from by decide]
  rintro e w11 ⟨rfl, h, _⟩
  have H11 := Lib.hid h
  clear h H10
  go_wp2
  go_ret
  exact ⟨rfl, H11.out.low⟩
end Go.Proofs.Ythgcpijokdbmhaa
