/-
  awake: answers that the document fixes.
-/
import Derived.Test.YtfmcfneaeaokeaaRepW
namespace Go.Proofs.Ytfmcfneaeaokeaa
open Go.RowKit

set_option maxRecDepth 100000 in
set_option maxHeartbeats 4000000 in
theorem awake_any {R : World → Nat → List Bool → Prop} (hp : Pkg R) (w : World) : Calls Try.prog 8 #[] w fun e w' => e = .returned (.bool true) ∧ Below w.heap.size w w' := by
  have HK := Lib.hid hp
  clear hp
  go_enter Try.func8, Try.ntmps8
  go_wp2_with fail
  refine (ps_new HK.out w).mono ?_
  rintro e w1 ⟨b, rfl, h⟩
  have H1 := Lib.hid h
  clear h
  go_wp2_with fail
  refine (ps_full HK.out H1.out).mono ?_
  rw [show fullL [] = false from by decide]
  rintro e w2 ⟨rfl, h, m, hm⟩
  have H2 := Lib.hid h
  clear h hm H1
  go_wp2_with fail
  refine (ps_scale HK.out 2 H2.out).mono ?_
  rintro e w3 ⟨rfl, h, hb⟩
  rw [show scaleL [] 2 = [false, false] from by decide] at h
  have H3 := Lib.hid h
  clear h hb H2
  go_wp2_with fail
  refine (ps_ready HK.out 0 true H3.out).mono ?_
  rw [show decide (isW [false, false] 0) = true from by decide]
  rintro e w4 ⟨rfl, h, hb⟩
  rw [show readyL [false, false] 0 true = [true, false] from by decide] at h
  have H4 := Lib.hid h
  clear h hb H3
  go_wp2_with fail
  refine (ps_ready HK.out 1 true H4.out).mono ?_
  rw [show decide (isW [true, false] 1) = true from by decide]
  rintro e w5 ⟨rfl, h, hb⟩
  rw [show readyL [true, false] 1 true = [true, true] from by decide] at h
  have H5 := Lib.hid h
  clear h hb H4
  go_wp2_with fail
  refine (ps_ready HK.out 2 true H5.out).mono ?_
  rw [show decide (isW [true, true] 2) = false from by decide]
  rintro e w6 ⟨rfl, h, hb⟩
  rw [show readyL [true, true] 2 true = [true, true] from by decide] at h
  have H6 := Lib.hid h
  clear h hb H5
  go_wp2_with fail
  refine (ps_full HK.out H6.out).mono ?_
  rw [show fullL [true, true] = true from by decide]
  rintro e w7 ⟨rfl, h, m, hm⟩
  have H7 := Lib.hid h
  clear h hm H6
  go_wp2_with fail
  refine (ps_scale HK.out 3 H7.out).mono ?_
  rintro e w8 ⟨rfl, h, hb⟩
  rw [show scaleL [true, true] 3 = [true, true, false] from by decide] at h
  have H8 := Lib.hid h
  clear h hb H7
  go_wp2_with fail
  refine (ps_full HK.out H8.out).mono ?_
  rw [show fullL [true, true, false] = false from by decide]
  rintro e w9 ⟨rfl, h, m, hm⟩
  have H9 := Lib.hid h
  clear h hm H8
  go_wp2_with fail
  refine (ps_scale HK.out 1 H9.out).mono ?_
  rintro e w10 ⟨rfl, h, hb⟩
  rw [show scaleL [true, true, false] 1 = [true] from by decide] at h
  have H10 := Lib.hid h
  clear h hb H9
  go_wp2_with fail
  refine (ps_scale HK.out 2 H10.out).mono ?_
  rintro e w11 ⟨rfl, h, hb⟩
  rw [show scaleL [true] 2 = [true, false] from by decide] at h
  have H11 := Lib.hid h
  clear h hb H10
  go_wp2_with fail
  refine (ps_full HK.out H11.out).mono ?_
  rw [show fullL [true, false] = false from by decide]
  rintro e w12 ⟨rfl, h, m, hm⟩
  have HX := Lib.hid h
  clear h hm H11
  go_wp2_with (first | (go_at_call 14; refine (HK.out.want HX.out.r).mono ?_; rintro e w' ⟨rfl, rfl⟩) | (go_at_call 15; refine (HK.out.count HX.out.r).mono ?_; rintro e w' ⟨rfl, rfl⟩))
  go_ret
  exact ⟨rfl, HX.out.low⟩
end Go.Proofs.Ytfmcfneaeaokeaa
