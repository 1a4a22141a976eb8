/-
  The law's own examples hold.
-/
import Derived.Test.YtoeelglmdnhknaaFirst
namespace Go.Proofs.Ytoeelglmdnhknaa
open Go.RowKit

set_option maxRecDepth 100000 in
set_option maxHeartbeats 4000000 in
theorem awake_any (w : World) : Calls Try.prog 13 #[] w fun e w' => e = .returned (.bool true) ∧ Below w.heap.size w w' := by
  obtain ⟨sc, hsc⟩ : ∃ c, c = stC (firstS 1 2) := ⟨_, rfl⟩
  obtain ⟨zc, hzc⟩ : ∃ c, c = stC zeroS := ⟨_, rfl⟩
  obtain ⟨tc, htc⟩ : ∃ c, c = stC endS := ⟨_, rfl⟩
  obtain ⟨rc, hrc⟩ : ∃ c, c = recC (mkR 3 0 0 0 0 false) := ⟨_, rfl⟩
  have HS := Lib.hid hsc
  have HZ := Lib.hid hzc
  have HT := Lib.hid htc
  have HR := Lib.hid hrc
  have HZS : Hid (sc.size = 12) := Lib.hid (by rw [hsc]; rfl)
  have H1S : Hid (sc.all (·.oneCell') = true) := Lib.hid (by rw [hsc]; exact stC_one _)
  have HZZ : Hid (zc.size = 12) := Lib.hid (by rw [hzc]; rfl)
  have H1Z : Hid (zc.all (·.oneCell') = true) := Lib.hid (by rw [hzc]; exact stC_one _)
  have HZT : Hid (tc.size = 12) := Lib.hid (by rw [htc]; rfl)
  have H1T : Hid (tc.all (·.oneCell') = true) := Lib.hid (by rw [htc]; exact stC_one _)
  have F1 : Hid (∀ W, Calls Try.prog 22 #[.int .i64 1, .int .i64 2] W fun e w' => e = .returned (.tuple #[.agg sc, .bool true]) ∧ Below W.heap.size W w') := Lib.hid (fun W => by
    have h := first_any 1 2 W
    rw [first12] at h
    rw [hsc]
    exact h)
  have F2 : Hid (∀ W, Calls Try.prog 22 #[.int .i64 0, .int .i64 2] W fun e w' => e = .returned (.tuple #[.agg zc, .bool false]) ∧ Below W.heap.size W w') := Lib.hid (fun W => by
    have h := first_any 0 2 W
    rw [first02] at h
    rw [hzc]
    exact h)
  have F3 : Hid (∀ W X, Rw W X cells6 27 → Calls Try.prog 16 #[.agg sc, .slice (some ⟨X, 0, none⟩) 6 6] W fun e w' => e = .returned (.tuple #[.agg tc, .int .i64 6]) ∧ Below W.heap.size W w') := Lib.hid (fun W X h => by
    have h := all_any (firstS 1 2) rs6 (.slice (some ⟨X, 0, none⟩) 6 6) W (.inr ⟨X, 0, 6, rfl, Nat.le_refl _, h.lt, recs_rows rs6 h⟩) (by decide) (fun r hr => by
      simp only [rs6, List.mem_cons, List.not_mem_nil, or_false] at hr
      rcases hr with rfl | rfl | rfl | rfl | rfl | rfl <;> (unfold mkR Fits; simp))
    rw [all6] at h
    rw [hsc, htc]
    exact h)
  have F4 : Hid (∀ W, Calls Try.prog 11 #[.agg sc, .agg rc] W fun e w' => e = .returned (.tuple #[.agg sc, .bool false]) ∧ Below W.heap.size W w') := Lib.hid (fun W => by
    have h := step_any (firstS 1 2) (mkR 3 0 0 0 0 false) W (by unfold mkR Fits; simp)
    rw [step3no] at h
    rw [hsc, hrc]
    exact h)
  have F5 : Hid (∀ W, Calls Try.prog 14 #[.agg tc] W fun e w' => e = .returned (.bool true) ∧ Below W.heap.size W w') := Lib.hid (fun W => by
    have h := right_any endS W
    rw [rightEnd] at h
    rw [htc]
    exact h)
  have F6 : Hid (∀ W, Calls Try.prog 14 #[.agg zc] W fun e w' => e = .returned (.bool false) ∧ Below W.heap.size W w') := Lib.hid (fun W => by
    have h := right_any zeroS W
    rw [rightZero] at h
    rw [hzc]
    exact h)
  have eqT : ∀ W, (Op.equalIn 10000 25 (.agg tc) (.agg tc)).run Try.prog W = .ok true W := fun W => by rw [htc]; exact eq25 (right_fits rightEnd) W
  clear hsc hzc htc hrc
  go_enter Try.func13, Try.ntmps13
  go_wp2_with fail
  refine (F1.out _).mono ?_
  rintro e u1 ⟨rfl, hb⟩
  have BT := Lib.hid hb
  clear hb F1
  go_upto_region 2 with (first | (refine wpList_plain rfl fun _ hK => wp_store_row 25 (.tmp 1) (.tmp 12) rfl u1.heap.size sc rfl rfl 25 _ (Rw.new u1 _ 25) (by rw [HZS.out]; exact i12) (by rw [HZS.out]; rfl) H1S.out (hK _ _ ?_); clear hK))
  obtain ⟨X1, hY⟩ : ∃ X, X = u1.heap.size := ⟨_, rfl⟩
  rw [← hY]
  refine name_w (fun W => Rw W X1 sc 25 ∧ Below w.heap.size w W) ?_ ?_
  · have bb := below_setRow ((Below.refl u1.heap.size u1).alloc (Nat.le_refl _) (.cells zeroSC 25)) (Nat.le_refl _) (b := u1.heap.size) sc
    rw [hY]
    exact ⟨(Rw.new u1 _ 25).set sc, BT.out.trans (bb.mono BT.out.size)⟩
  clear hY BT
  rintro u2 ⟨h1, h2⟩
  have RS := Lib.hid h1
  have BT := Lib.hid h2
  clear h1 h2
  go_wp2_with fail
  refine (F2.out _).mono ?_
  rintro e u3 ⟨rfl, hb⟩
  have RS3 := Lib.hid (RS.out.under hb RS.out.lt)
  have BT := Lib.hid (BT.out.trans (hb.mono BT.out.size))
  clear hb F2 RS
  go_upto_region 3 with (first | (refine wpList_plain rfl fun _ hK => wp_store_row 25 (.tmp 3) (.tmp 16) rfl u3.heap.size zc rfl rfl 25 _ (Rw.new u3 _ 25) (by rw [HZZ.out]; exact i12) (by rw [HZZ.out]; rfl) H1Z.out (hK _ _ ?_); clear hK))
  obtain ⟨X3, hY⟩ : ∃ X, X = u3.heap.size := ⟨_, rfl⟩
  rw [← hY]
  refine name_w (fun W => Rw W X1 sc 25 ∧ Rw W X3 zc 25 ∧ Below w.heap.size w W) ?_ ?_
  · have bb := below_setRow ((Below.refl u3.heap.size u3).alloc (Nat.le_refl _) (.cells zeroSC 25)) (Nat.le_refl _) (b := u3.heap.size) zc
    rw [hY]
    exact ⟨RS3.out.under bb RS3.out.lt, (Rw.new u3 _ 25).set zc, BT.out.trans (bb.mono BT.out.size)⟩
  clear hY BT
  rintro u4 ⟨h1, h2, h3⟩
  have RS4 := Lib.hid h1
  have BT := Lib.hid h3
  clear h1 h2 h3 RS3
  go_upto_region 4 with (first | (refine wpList_build_is (by rfl) 27 #[(0, .const (.int .i64 1)), (1, .const (.int .i64 2)), (2, .const (.int .i64 3))] rfl (recC (mkR 1 2 3 0 0 false)) (by kernel_rfl) ?_) | (refine wpList_build_is (by rfl) 27 #[(0, .const (.int .i64 3))] rfl (recC (mkR 3 0 0 0 0 false)) (by kernel_rfl) ?_) | (refine wpList_build_is (by rfl) 27 #[(0, .const (.int .i64 4)), (6, .const (.bool true))] rfl (recC (mkR 4 0 0 0 0 true)) (by kernel_rfl) ?_) | (refine wpList_build_is (by rfl) 27 #[(0, .const (.int .i64 5)), (4, .const (.int .i64 1))] rfl (recC (mkR 5 0 0 1 0 false)) (by kernel_rfl) ?_) | (refine wpList_build_is (by rfl) 27 #[(0, .const (.int .i64 6)), (4, .const (.int .i64 1))] rfl (recC (mkR 6 0 0 1 0 false)) (by kernel_rfl) ?_) | (refine wpList_build_is (by rfl) 27 #[(0, .const (.int .i64 8)), (4, .const (.int .i64 1)), (5, .const (.int .i64 9))] rfl (recC (mkR 8 0 0 1 9 false)) (by kernel_rfl) ?_) | (refine wpList_buildSlice rfl 33 27 6 #[(0, .tmp 18), (1, .tmp 19), (2, .tmp 20), (3, .tmp 21), (4, .tmp 22), (5, .tmp 23)] rfl cells6 ie27 _ Try.underlying33 ie27_is ie27_zero (by rw [ie27_size]; decide) (by rw [ie27_size]; decide) (by rw [ie27_size]; kernel_rfl) ?_))
  obtain ⟨X5, hY⟩ : ∃ X, X = u4.heap.size := ⟨_, rfl⟩
  rw [← hY]
  refine name_w (fun W => Rw W X1 sc 25 ∧ Rw W X5 cells6 27 ∧ Below w.heap.size w W) ?_ ?_
  · have bb := (Below.refl u4.heap.size u4).alloc (Nat.le_refl _) (.cells cells6 27)
    rw [hY]
    exact ⟨RS4.out.under bb RS4.out.lt, Rw.new u4 _ 27, BT.out.trans (bb.mono BT.out.size)⟩
  clear hY BT
  rintro u5 ⟨h1, h2, h3⟩
  have RS5 := Lib.hid h1
  have F3 := Lib.hid (F3.out u5 X5 h2)
  have BT := Lib.hid h3
  clear h1 h2 h3 RS4
  go_wp2_with (refine wpList_load_row rfl 25 (.tmp 1) rfl X1 rfl 25 sc (0, 0) _ RS5.out Try.underlying25 rfl (by rw [HZS.out]; exact i12) ?_)
  refine F3.out.mono ?_
  rintro e u6 ⟨rfl, hb⟩
  have RS6 := Lib.hid (RS5.out.under hb RS5.out.lt)
  have BT := Lib.hid (BT.out.trans (hb.mono BT.out.size))
  clear hb F3 RS5
  go_upto_region 5 with (first | (refine wpList_plain rfl fun _ hK => wp_store_row 25 (.tmp 6) (.tmp 29) rfl u6.heap.size tc rfl rfl 25 _ (Rw.new u6 _ 25) (by rw [HZT.out]; exact i12) (by rw [HZT.out]; rfl) H1T.out (hK _ _ ?_); clear hK))
  obtain ⟨X6, hY⟩ : ∃ X, X = u6.heap.size := ⟨_, rfl⟩
  rw [← hY]
  refine name_w (fun W => Rw W X1 sc 25 ∧ Rw W X6 tc 25 ∧ Below w.heap.size w W) ?_ ?_
  · have bb := below_setRow ((Below.refl u6.heap.size u6).alloc (Nat.le_refl _) (.cells zeroSC 25)) (Nat.le_refl _) (b := u6.heap.size) tc
    rw [hY]
    exact ⟨RS6.out.under bb RS6.out.lt, (Rw.new u6 _ 25).set tc, BT.out.trans (bb.mono BT.out.size)⟩
  clear hY BT
  rintro u7 ⟨h1, h2, h3⟩
  have RS7 := Lib.hid h1
  have RT7 := Lib.hid h2
  have BT := Lib.hid h3
  clear h1 h2 h3 RS6
  go_wp2_with (first | (refine wpList_load_row rfl 25 (.tmp 1) rfl X1 rfl 25 sc (0, 0) _ RS7.out Try.underlying25 rfl (by rw [HZS.out]; exact i12) ?_) | (refine wpList_build_is (by rfl) 27 #[(0, .const (.int .i64 3))] rfl rc (by rw [HR.out]; kernel_rfl) ?_))
  refine (F4.out _).mono ?_
  rintro e u8 ⟨rfl, hb⟩
  have RT8 := Lib.hid (RT7.out.under hb RT7.out.lt)
  have BT := Lib.hid (BT.out.trans (hb.mono BT.out.size))
  clear hb F4 RS7 RT7
  go_upto_region 6 with (first | (refine wpList_plain rfl fun _ hK => wp_store_row 25 (.tmp 8) (.tmp 35) rfl u8.heap.size sc rfl rfl 25 _ (Rw.new u8 _ 25) (by rw [HZS.out]; exact i12) (by rw [HZS.out]; rfl) H1S.out (hK _ _ ?_); clear hK))
  obtain ⟨X8, hY⟩ : ∃ X, X = u8.heap.size := ⟨_, rfl⟩
  rw [← hY]
  refine name_w (fun W => Rw W X6 tc 25 ∧ Rw W X8 sc 25 ∧ Below w.heap.size w W) ?_ ?_
  · have bb := below_setRow ((Below.refl u8.heap.size u8).alloc (Nat.le_refl _) (.cells zeroSC 25)) (Nat.le_refl _) (b := u8.heap.size) sc
    rw [hY]
    exact ⟨RT8.out.under bb RT8.out.lt, (Rw.new u8 _ 25).set sc, BT.out.trans (bb.mono BT.out.size)⟩
  clear hY BT
  rintro u9 ⟨h1, h2, h3⟩
  have RT9 := Lib.hid h1
  have BT := Lib.hid h3
  clear h1 h2 h3 RT8
  have tokA : True := trivial
  have tokB : True := trivial
  go_wp2_with (first | (have _ta := tokA; refine wpList_load_any (by rfl) 25 (.tmp 6) rfl X6 rfl 25 tc (0, 0) _ RT9.out Try.underlying25 rfl (by rw [HZT.out]; exact i12) ?_) | (have _tb := tokB; refine wpList_build_is (by rfl) 25 #[(0, .const (.int .i64 4)), (1, .const (.int .i64 1)), (2, .tmp 48), (3, .tmp 49), (4, .tmp 50), (6, .const (.int .i64 1)), (8, .const (.int .i64 9))] rfl tc (by rw [HT.out]; kernel_rfl) ?_; clear tokB _tb))
  refine (F5.out _).mono ?_
  rintro e u10 ⟨rfl, hb⟩
  have BT := Lib.hid (BT.out.trans (hb.mono BT.out.size))
  clear hb F5
  go_wp2_with (refine wpList_build_is (by rfl) 25 #[] rfl zc (by rw [HZ.out]; kernel_rfl) ?_)
  refine (F6.out _).mono ?_
  rintro e u11 ⟨rfl, hb⟩
  have BT := Lib.hid (BT.out.trans (hb.mono BT.out.size))
  clear hb F6
  go_wp2
  go_ret
  exact ⟨rfl, BT.out⟩
end Go.Proofs.Ytoeelglmdnhknaa
