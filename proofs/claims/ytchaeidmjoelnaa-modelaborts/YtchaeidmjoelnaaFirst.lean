/-
  What package fold's First answers, and that the law's own examples hold.
-/
import Derived.Test.YtchaeidmjoelnaaLaw
import Derived.Great.BuildSlice
namespace Go.Proofs.Ytchaeidmjoelnaa
open Go.RowKit

/-- A struct literal whose cells are known, where the operation is wanted. -/
theorem wpList_build_is {P : Program} {ops : Array Oper} {rest : List Oper} {o : Oper} {a : Act} {w : World} {Q : Exit → Act → World → Prop} (hw : Region.wanted o (yielded ops a.tmps) = true) (t : TypeId) (parts : Array (Nat × Operand)) (ho : o.op = .build t parts)
    (cells : Array Value) (hc : P.built t (parts.map fun (i, x) => (i, a.eval x)).toList = some cells) (h : wpList P ops Q rest (a.put o.dst (.agg cells)) w) : wpList P ops Q (o :: rest) a w :=
  wpList_step fun _ hK => by
    rw [if_pos hw]
    unfold Oper.wp execOp
    simp only [ho, Sem.run_bind, run_build w t _ cells hc, Result.andThen_ok]
    exact hK _ _ h
def firstS (rev n : Int) : St := ⟨0, 0, rev, 0, n, 0, true, false, 0, 0, 0, 0⟩
def firstR (rev n : Int) : St × Bool := if rightS (firstS rev n) = true then (firstS rev n, true) else (zeroS, false)
set_option maxRecDepth 100000 in
set_option maxHeartbeats 4000000 in
theorem first_any (rev n : Int) (w : World) : Calls Try.prog 21 #[.int .i64 rev, .int .i64 n] w (StepR (firstR rev n) w) := by
  have HRG : Hid (∀ W, Calls Try.prog 37 #[stV (firstS rev n)] W fun e w' => e = .returned (.bool (rightS (firstS rev n))) ∧ Below W.heap.size W w') := Lib.hid (fun W => right_any _ W)
  obtain ⟨fc, hfc⟩ : ∃ c, c = stC (firstS rev n) := ⟨_, rfl⟩
  have HF := Lib.hid hfc
  have HZF : Hid (fc.size = 12) := Lib.hid (by rw [hfc]; rfl)
  have H1F : Hid (fc.all (·.oneCell') = true) := Lib.hid (by rw [hfc]; exact stC_one _)
  unfold stV at HRG
  rw [← hfc] at HRG
  clear hfc
  go_enter Try.func21, Try.ntmps21
  go_upto_region 1 with (fail)
  refine name_w (fun W => Rw W w.heap.size zeroSC 38 ∧ Below w.heap.size w W) ⟨Rw.new _ _ _, (Below.refl _ _).alloc (Nat.le_refl _) _⟩ ?_
  rintro u0 ⟨h1, h2⟩
  have RZ0 := Lib.hid h1
  have BT0 := Lib.hid h2
  clear h1 h2
  go_upto_region 2 with (first | (refine wpList_build_is (by rfl) 38 #[(2, .tmp 8), (3, .tmp 10), (4, .tmp 11)] rfl fc (by rw [HF.out]; kernel_rfl) ?_) | (refine wpList_plain rfl fun _ hK => wp_store_row 38 (.tmp 6) (.tmp 12) rfl u0.heap.size fc rfl rfl 38 _ (Rw.new u0 _ 38) (by rw [HZF.out]; exact i12) (by rw [HZF.out]; rfl) H1F.out (hK _ _ ?_); clear hK))
  obtain ⟨X, hX⟩ : ∃ X, X = u0.heap.size := ⟨_, rfl⟩
  rw [← hX]
  refine name_w (fun W => Rw W w.heap.size zeroSC 38 ∧ Rw W X fc 38 ∧ Below w.heap.size w W) ?_ ?_
  · have bb := below_setRow ((Below.refl u0.heap.size u0).alloc (Nat.le_refl _) (.cells zeroSC 38)) (Nat.le_refl _) (b := u0.heap.size) fc
    rw [hX]
    exact ⟨RZ0.out.under bb RZ0.out.lt, (Rw.new u0 _ 38).set fc, BT0.out.trans (bb.mono BT0.out.size)⟩
  clear hX RZ0 BT0
  rintro u1 ⟨h1, h2, h3⟩
  have RZ1 := Lib.hid h1
  have RX1 := Lib.hid h2
  have BT1 := Lib.hid h3
  clear h1 h2 h3
  go_wp2_with (refine wpList_load_row rfl 38 (.tmp 6) rfl X rfl 38 fc (0, 0) _ RX1.out Try.underlying38 rfl (by rw [HZF.out]; exact i12) ?_)
  refine (HRG.out _).mono ?_
  rintro e u2 ⟨rfl, hb⟩
  have RZ2 := Lib.hid (RZ1.out.under hb RZ1.out.lt)
  have RX2 := Lib.hid (RX1.out.under hb RX1.out.lt)
  have BT2 := Lib.hid (BT1.out.trans (hb.mono BT1.out.size))
  clear hb HRG RZ1 RX1 BT1
  cases hr : rightS (firstS rev n) with
  | false =>
    have HE : Hid (firstR rev n = (zeroS, false)) := Lib.hid (by unfold firstR; rw [if_neg (by rw [hr]; decide)])
    obtain ⟨zc, hzc⟩ : ∃ c, c = zeroSC := ⟨_, rfl⟩
    have HZ := Lib.hid hzc
    have HZZ : Hid (zc.size = 12) := Lib.hid (by rw [hzc]; rfl)
    have H1Z : Hid (zc.all (·.oneCell') = true) := Lib.hid (by rw [hzc]; exact stC_one _)
    clear hzc
    have ZF := Lib.hid (RZ2.out.set zc)
    have BF := Lib.hid (below_setRow BT2.out (Nat.le_refl _) (b := w.heap.size) zc)
    go_wp2_with (first | (refine wpList_build_is (by rfl) 38 #[] rfl zc (by rw [HZ.out]; kernel_rfl) ?_) | (refine wpList_plain rfl fun _ hK => wp_store_row 38 (.tmp 4) (.tmp 16) rfl w.heap.size zc rfl rfl 38 _ RZ2.out (by rw [HZZ.out]; exact i12) (by rw [HZZ.out]; rfl) H1Z.out (hK _ _ ?_); clear hK))
    (try simp only [Exit.inBlock, Exit.then])
    refine bodyPost_ret (results_cell_tmp rfl _ _ w.heap.size 38 zc (0, 0) _ rfl ZF.out Try.underlying38 rfl (by rw [HZZ.out]; exact i12)) rfl ?_
    exact ⟨by rw [HE.out, HZ.out]; rfl, BF.out⟩
  | true =>
    have HE : Hid (firstR rev n = (firstS rev n, true)) := Lib.hid (by unfold firstR; rw [if_pos hr])
    have ZF := Lib.hid (RZ2.out.set fc)
    have BF := Lib.hid (below_setRow BT2.out (Nat.le_refl _) (b := w.heap.size) fc)
    go_wp2_with (first | (refine wpList_load_row rfl 38 (.tmp 6) rfl X rfl 38 fc (0, 0) _ RX2.out Try.underlying38 rfl (by rw [HZF.out]; exact i12) ?_) | (refine wpList_plain rfl fun _ hK => wp_store_row 38 (.tmp 4) (.tmp 17) rfl w.heap.size fc rfl rfl 38 _ RZ2.out (by rw [HZF.out]; exact i12) (by rw [HZF.out]; rfl) H1F.out (hK _ _ ?_); clear hK))
    (try simp only [Exit.inBlock, Exit.then])
    refine bodyPost_ret (results_cell_tmp rfl _ _ w.heap.size 38 fc (0, 0) _ rfl ZF.out Try.underlying38 rfl (by rw [HZF.out]; exact i12)) rfl ?_
    exact ⟨by rw [HE.out, HF.out]; rfl, BF.out⟩
theorem first12 : firstR 1 2 = (firstS 1 2, true) := by kernel_rfl
theorem first02 : firstR 0 2 = (zeroS, false) := by kernel_rfl
theorem rightZero : rightS zeroS = false := by kernel_rfl
end Go.Proofs.Ytchaeidmjoelnaa
