/-
  switchback's FoldSteps: Any record makes of any state what the document says, or can't come then. For every input the law returns true, and each argument reads afterwards as it read before. No condition beside the row's own.
-/
import Derived.Test.YtoeelglmdnhknaaAwak
import Derived.Test.YtoeelglmdnhknaaLift
import Derived.Test.YtoeelglmdnhknaaStStepAll
namespace Go.Proofs.Ytoeelglmdnhknaa.foldSteps
open Go.Proofs.Ytoeelglmdnhknaa
open Go.ChangeShapes Go.WideShapes Go.ChangeAt Go.RowKit
set_option linter.unusedVariables false

set_option maxRecDepth 100000 in
set_option maxHeartbeats 4000000 in
theorem walk (s : St) (r : Rc) (w : World) (hs : FitsS s) (hr : FitsR r) : Calls Try.prog 3 #[stV s, recV r] w (Holds w) := by
  have HXF : Hid (FitsS (stepS s r).1) := Lib.hid (fits_step r hs)
  have HSP : Hid (∀ W, Calls Try.prog 11 #[stV s, recV r] W (StepR (stepS s r) W)) := Lib.hid (fun W => step_any s r W hr.kind)
  have HMS : Hid (∀ W, Calls Try.prog 12 #[stV s, recV r] W (StepR (stepS s r) W)) := Lib.hid (fun W => mstep_any s r W)
  have HAW : Hid (∀ W, Calls Try.prog 13 #[] W fun e w' => e = .returned (.bool true) ∧ Below W.heap.size W w') := Lib.hid awake_any
  have HMR : Hid (∀ W, Calls Try.prog 15 #[stV s] W fun e w' => e = .returned (.bool (rightS s)) ∧ Below W.heap.size W w') := Lib.hid (fun W => mright_any s W)
  have HRG : Hid (∀ W, Calls Try.prog 14 #[stV s] W fun e w' => e = .returned (.bool (rightS s)) ∧ Below W.heap.size W w') := Lib.hid (fun W => right_any s W)
  obtain ⟨rb, hrb⟩ : ∃ b, b = rightS s := ⟨_, rfl⟩
  rw [← hrb] at HMR HRG
  obtain ⟨x, hx⟩ : ∃ x, x = stepS s r := ⟨_, rfl⟩
  rw [← hx] at HXF HSP HMS
  unfold StepR at HSP HMS
  obtain ⟨xb, hxb⟩ : ∃ b, b = x.2 := ⟨_, rfl⟩
  rw [← hxb] at HSP HMS
  unfold stV at HSP HMS HMR HRG ⊢
  unfold recV at HSP HMS ⊢
  obtain ⟨cs, hcs⟩ : ∃ c, c = stC s := ⟨_, rfl⟩
  have HE_cs := Lib.hid hcs
  have HZ_cs : Hid (cs.size = 12) := Lib.hid (by rw [hcs]; rfl)
  have H1_cs : Hid (cs.all (·.oneCell') = true) := Lib.hid (by rw [hcs]; exact stC_one _)
  obtain ⟨rs, hrs⟩ : ∃ c, c = recC r := ⟨_, rfl⟩
  have HE_rs := Lib.hid hrs
  have HZ_rs : Hid (rs.size = 19) := Lib.hid (by rw [hrs]; rfl)
  have H1_rs : Hid (rs.all (·.oneCell') = true) := Lib.hid (by rw [hrs]; exact recC_one _)
  obtain ⟨xc, hxc⟩ : ∃ c, c = stC x.1 := ⟨_, rfl⟩
  have HE_xc := Lib.hid hxc
  have HZ_xc : Hid (xc.size = 12) := Lib.hid (by rw [hxc]; rfl)
  have H1_xc : Hid (xc.all (·.oneCell') = true) := Lib.hid (by rw [hxc]; exact stC_one _)
  rw [← hcs] at HSP HMS HMR HRG ⊢
  rw [← hrs] at HSP HMS ⊢
  rw [← hxc] at HSP HMS
  have eqX : ∀ W, (Op.equalIn 10000 25 (.agg xc) (.agg xc)).run Try.prog W = .ok true W := fun W => by rw [hxc]; exact eq25 HXF.out W
  clear hcs hrs hxc hx hxb hrb hs hr HXF
  go_enter Try.func3, Try.ntmps3
  go_upto_region 1 with (fail)
  refine name_w (fun W => Rw W w.heap.size cs 25 ∧ Rw W (w.heap.size + 1) rs 27 ∧ Below w.heap.size w W) ⟨(Rw.new _ _ _).alloc _, ?_, ((Below.refl _ _).alloc (Nat.le_refl _) _).alloc (by simp) _⟩ ?_
  · have h1 := Rw.new (w.alloc (.cells cs 25)) rs 27
    rw [size_alloc] at h1
    exact h1
  rintro u0 ⟨h0, h1, h2⟩
  have R_A_0 := Lib.hid h0
  have R_B_0 := Lib.hid h1
  have BT0 := Lib.hid h2
  clear h0 h1 h2
  go_wp2_with (first | (refine wpList_load_row rfl 25 (.tmp 2) rfl w.heap.size rfl 25 cs (0, 0) _ R_A_0.out Try.underlying25 rfl (by rw [HZ_cs.out]; exact i12) ?_) | (refine wpList_load_row rfl 27 (.tmp 3) rfl (w.heap.size + 1) rfl 27 rs (0, 0) _ R_B_0.out Try.underlying27 rfl (by rw [HZ_rs.out]; exact i19) ?_))
  refine (HSP.out _).mono ?_
  rintro e u1 ⟨rfl, hb⟩
  have R_A_1 := Lib.hid (R_A_0.out.under hb R_A_0.out.lt)
  have R_B_1 := Lib.hid (R_B_0.out.under hb R_B_0.out.lt)
  have BT1 := Lib.hid (BT0.out.trans (hb.mono BT0.out.size))
  clear hb BT0 R_A_0 R_B_0
  clear HSP
  go_upto_region 2 with (first | (refine wpList_plain rfl fun _ hK => wp_store_row 25 (.tmp 5) (.tmp 13) rfl u1.heap.size xc rfl rfl 25 _ (Rw.new u1 _ 25) (by rw [HZ_xc.out]; exact i12) (by rw [HZ_xc.out]; rfl) H1_xc.out (hK _ _ ?_); clear hK))
  obtain ⟨X, hY⟩ : ∃ X, X = u1.heap.size := ⟨_, rfl⟩
  rw [← hY]
  refine name_w (fun W => Rw W w.heap.size cs 25 ∧ Rw W (w.heap.size + 1) rs 27 ∧ Rw W X xc 25 ∧ Below w.heap.size w W) ?_ ?_
  · have bb := below_setRow ((Below.refl u1.heap.size u1).alloc (Nat.le_refl _) (.cells zeroSC 25)) (Nat.le_refl _) (b := u1.heap.size) xc
    rw [hY]
    exact ⟨R_A_1.out.under bb R_A_1.out.lt, R_B_1.out.under bb R_B_1.out.lt, (Rw.new u1 _ 25).set xc, BT1.out.trans (bb.mono BT1.out.size)⟩
  clear hY BT1 R_A_1 R_B_1
  rintro u2 ⟨h0, h1, h2, h3⟩
  have R_A_2 := Lib.hid h0
  have R_B_2 := Lib.hid h1
  have R_X_2 := Lib.hid h2
  have BT2 := Lib.hid h3
  clear h0 h1 h2 h3
  go_wp2_with (first | (refine wpList_load_row rfl 25 (.tmp 2) rfl w.heap.size rfl 25 cs (0, 0) _ R_A_2.out Try.underlying25 rfl (by rw [HZ_cs.out]; exact i12) ?_) | (refine wpList_load_row rfl 27 (.tmp 3) rfl (w.heap.size + 1) rfl 27 rs (0, 0) _ R_B_2.out Try.underlying27 rfl (by rw [HZ_rs.out]; exact i19) ?_))
  refine (HMS.out _).mono ?_
  rintro e u3 ⟨rfl, hb⟩
  have R_A_3 := Lib.hid (R_A_2.out.under hb R_A_2.out.lt)
  have R_B_3 := Lib.hid (R_B_2.out.under hb R_B_2.out.lt)
  have R_X_3 := Lib.hid (R_X_2.out.under hb R_X_2.out.lt)
  have BT3 := Lib.hid (BT2.out.trans (hb.mono BT2.out.size))
  clear hb BT2 R_A_2 R_B_2 R_X_2
  clear HMS
  go_upto_region 3 with (first | (refine wpList_plain rfl fun _ hK => wp_store_row 25 (.tmp 7) (.tmp 19) rfl u3.heap.size xc rfl rfl 25 _ (Rw.new u3 _ 25) (by rw [HZ_xc.out]; exact i12) (by rw [HZ_xc.out]; rfl) H1_xc.out (hK _ _ ?_); clear hK))
  obtain ⟨Y, hY⟩ : ∃ X, X = u3.heap.size := ⟨_, rfl⟩
  rw [← hY]
  refine name_w (fun W => Rw W w.heap.size cs 25 ∧ Rw W (w.heap.size + 1) rs 27 ∧ Rw W X xc 25 ∧ Rw W Y xc 25 ∧ Below w.heap.size w W) ?_ ?_
  · have bb := below_setRow ((Below.refl u3.heap.size u3).alloc (Nat.le_refl _) (.cells zeroSC 25)) (Nat.le_refl _) (b := u3.heap.size) xc
    rw [hY]
    exact ⟨R_A_3.out.under bb R_A_3.out.lt, R_B_3.out.under bb R_B_3.out.lt, R_X_3.out.under bb R_X_3.out.lt, (Rw.new u3 _ 25).set xc, BT3.out.trans (bb.mono BT3.out.size)⟩
  clear hY BT3 R_A_3 R_B_3 R_X_3
  rintro u4 ⟨h0, h1, h2, h3, h4⟩
  have R_A_4 := Lib.hid h0
  have R_B_4 := Lib.hid h1
  have R_X_4 := Lib.hid h2
  have R_Y_4 := Lib.hid h3
  have BT4 := Lib.hid h4
  clear h0 h1 h2 h3 h4
  clear R_B_4
  refine wp_region_held_drew (S := fun W => Rw W w.heap.size cs 25 ∧ Rw W X xc 25 ∧ Rw W Y xc 25) (by kernel_rfl) ⟨R_A_4.out, R_X_4.out, R_Y_4.out⟩ (fun hHeld => ?_)
  refine wpAnyH_ready (rs := [0]) (by kernel_rfl) (by simp) ?_
  refine AllReadyH.cons (o := { dst := some 21, op := Op.call { callee := Callee.value (Operand.func 13), args := #[], argTypes := #[] }, type := 4, pos := "law.go:24", after := #[], guard := none }) rfl (fun K hK => ?_) AllReadyH.nil
  go_simp
  refine (HAW.out _).mono ?_
  rintro e u5 ⟨rfl, hb⟩
  have R_A_5 := Lib.hid (Rw.under (W := u4.drew) R_A_4.out hb R_A_4.out.lt)
  have R_X_5 := Lib.hid (Rw.under (W := u4.drew) R_X_4.out hb R_X_4.out.lt)
  have R_Y_5 := Lib.hid (Rw.under (W := u4.drew) R_Y_4.out hb R_Y_4.out.lt)
  have BT5 := Lib.hid ((below_drew BT4.out).trans (hb.mono BT4.out.size))
  clear hb
  refine hK.out _ _ ?_ (fun hHeld => ?_)
  · exact ⟨R_A_5.out, R_X_5.out, R_Y_5.out⟩
  clear hK K
  (try simp only [Act.put, List.setIfInBounds_toArray, List.set_cons_zero, List.set_cons_succ])
  refine wpAnyH_take (i := 1) (oi := { dst := some 22, op := Op.move (Operand.tmp 21), type := 4, pos := "law.go:24", after := #[{ on := 0, ground := Ground.data }, { on := 0, ground := Ground.chain }], guard := none }) (v := ?_) rfl (by kernel_rfl) (by kernel_rfl) (by kernel_rfl) (fun _ _ _ h => h) (Or.inl ⟨by rfl, ?_⟩) hHeld ?_
  rotate_left
  · intro W hSw
    clear hSw
    first | (go_simp; done) | (go_simp; with_reducible rfl)
  (try simp only [Act.put, List.setIfInBounds_toArray, List.set_cons_zero, List.set_cons_succ])
  refine wpAnyH_take (i := 2) (oi := { dst := some 23, op := Op.load 25 (Operand.tmp 5), type := 25, pos := "law.go:24", after := #[{ on := 1, ground := Ground.guard }], guard := some (1, true) }) (v := .agg xc) rfl (by kernel_rfl) (by kernel_rfl) (by kernel_rfl) (fun _ _ _ h => h) (Or.inl ⟨by rfl, fun W hS => exec_load_row 25 (.tmp 5) rfl X rfl 25 xc (0, 0) _ hS.2.1 Try.underlying25 rfl (by rw [HZ_xc.out]; exact i12)⟩) hHeld ?_
  (try simp only [Act.put, List.setIfInBounds_toArray, List.set_cons_zero, List.set_cons_succ])
  refine wpAnyH_take (i := 3) (oi := { dst := some 24, op := Op.load 25 (Operand.tmp 7), type := 25, pos := "law.go:24", after := #[{ on := 1, ground := Ground.guard }], guard := some (1, true) }) (v := .agg xc) rfl (by kernel_rfl) (by kernel_rfl) (by kernel_rfl) (fun _ _ _ h => h) (Or.inl ⟨by rfl, fun W hS => exec_load_row 25 (.tmp 7) rfl Y rfl 25 xc (0, 0) _ hS.2.2 Try.underlying25 rfl (by rw [HZ_xc.out]; exact i12)⟩) hHeld ?_
  (try simp only [Act.put, List.setIfInBounds_toArray, List.set_cons_zero, List.set_cons_succ])
  refine wpAnyH_take (i := 4) (oi := { dst := some 25, op := Op.binOp BinOp.eql 25 (Operand.tmp 23) (Operand.tmp 24) 25, type := 4, pos := "law.go:24", after := #[{ on := 2, ground := Ground.data }, { on := 3, ground := Ground.data }, { on := 1, ground := Ground.guard }], guard := some (1, true) }) (v := ?_) rfl (by kernel_rfl) (by kernel_rfl) (by kernel_rfl) (fun _ _ _ h => h) (Or.inl ⟨by rfl, ?_⟩) hHeld ?_
  rotate_left
  · intro W hSw
    clear hSw
    first | (go_simp; done) | (go_simp; with_reducible rfl)
  (try simp only [Act.put, List.setIfInBounds_toArray, List.set_cons_zero, List.set_cons_succ])
  refine wpAnyH_take (i := 5) (oi := { dst := some 26, op := Op.pick (Operand.tmp 22) (Operand.tmp 25) (Operand.const (Value.bool false)), type := 4, pos := "law.go:24", after := #[{ on := 1, ground := Ground.data }, { on := 4, ground := Ground.data }], guard := none }) (v := ?_) rfl (by kernel_rfl) (by kernel_rfl) (by kernel_rfl) (fun _ _ _ h => h) (Or.inl ⟨by rfl, ?_⟩) hHeld ?_
  rotate_left
  · intro W hSw
    clear hSw
    first | (go_simp; done) | (go_simp; with_reducible rfl)
  (try simp only [Act.put, List.setIfInBounds_toArray, List.set_cons_zero, List.set_cons_succ])
  refine wpAnyH_take (i := 6) (oi := { dst := some 27, op := Op.move (Operand.tmp 26), type := 4, pos := "law.go:24", after := #[{ on := 5, ground := Ground.data }, { on := 1, ground := Ground.chain }], guard := none }) (v := ?_) rfl (by kernel_rfl) (by kernel_rfl) (by kernel_rfl) (fun _ _ _ h => h) (Or.inl ⟨by rfl, ?_⟩) hHeld ?_
  rotate_left
  · intro W hSw
    clear hSw
    first | (go_simp; done) | (go_simp; with_reducible rfl)
  (try simp only [Act.put, List.setIfInBounds_toArray, List.set_cons_zero, List.set_cons_succ])
  refine wpAnyH_take (i := 7) (oi := { dst := some 28, op := Op.move (Operand.tmp 6), type := 4, pos := "law.go:24", after := #[{ on := 6, ground := Ground.guard }], guard := some (6, true) }) (v := ?_) rfl (by kernel_rfl) (by kernel_rfl) (by kernel_rfl) (fun _ _ _ h => h) (Or.inl ⟨by rfl, ?_⟩) hHeld ?_
  rotate_left
  · intro W hSw
    clear hSw
    first | (go_simp; done) | (go_simp; with_reducible rfl)
  (try simp only [Act.put, List.setIfInBounds_toArray, List.set_cons_zero, List.set_cons_succ])
  refine wpAnyH_take (i := 8) (oi := { dst := some 29, op := Op.move (Operand.tmp 8), type := 4, pos := "law.go:24", after := #[{ on := 6, ground := Ground.guard }], guard := some (6, true) }) (v := ?_) rfl (by kernel_rfl) (by kernel_rfl) (by kernel_rfl) (fun _ _ _ h => h) (Or.inl ⟨by rfl, ?_⟩) hHeld ?_
  rotate_left
  · intro W hSw
    clear hSw
    first | (go_simp; done) | (go_simp; with_reducible rfl)
  (try simp only [Act.put, List.setIfInBounds_toArray, List.set_cons_zero, List.set_cons_succ])
  refine wpAnyH_take (i := 9) (oi := { dst := some 30, op := Op.binOp BinOp.eql 4 (Operand.tmp 28) (Operand.tmp 29) 4, type := 4, pos := "law.go:24", after := #[{ on := 7, ground := Ground.data }, { on := 8, ground := Ground.data }, { on := 6, ground := Ground.guard }], guard := some (6, true) }) (v := ?_) rfl (by kernel_rfl) (by kernel_rfl) (by kernel_rfl) (fun _ _ _ h => h) (Or.inl ⟨by rfl, ?_⟩) hHeld ?_
  rotate_left
  · intro W hSw
    clear hSw
    first | (go_simp; done) | (go_simp; with_reducible rfl)
  (try simp only [Act.put, List.setIfInBounds_toArray, List.set_cons_zero, List.set_cons_succ])
  refine wpAnyH_take (i := 10) (oi := { dst := some 31, op := Op.pick (Operand.tmp 27) (Operand.tmp 30) (Operand.const (Value.bool false)), type := 4, pos := "law.go:24", after := #[{ on := 6, ground := Ground.data }, { on := 9, ground := Ground.data }], guard := none }) (v := ?_) rfl (by kernel_rfl) (by kernel_rfl) (by kernel_rfl) (fun _ _ _ h => h) (Or.inl ⟨by rfl, ?_⟩) hHeld ?_
  rotate_left
  · intro W hSw
    clear hSw
    first | (go_simp; done) | (go_simp; with_reducible rfl)
  (try simp only [Act.put, List.setIfInBounds_toArray, List.set_cons_zero, List.set_cons_succ])
  refine wpAnyH_take (i := 11) (oi := { dst := some 32, op := Op.move (Operand.tmp 31), type := 4, pos := "law.go:24", after := #[{ on := 10, ground := Ground.data }, { on := 6, ground := Ground.chain }], guard := none }) (v := ?_) rfl (by kernel_rfl) (by kernel_rfl) (by kernel_rfl) (fun _ _ _ h => h) (Or.inl ⟨by rfl, ?_⟩) hHeld ?_
  rotate_left
  · intro W hSw
    clear hSw
    first | (go_simp; done) | (go_simp; with_reducible rfl)
  (try simp only [Act.put, List.setIfInBounds_toArray, List.set_cons_zero, List.set_cons_succ])
  refine wpAnyH_take (i := 12) (oi := { dst := some 33, op := Op.load 25 (Operand.tmp 2), type := 25, pos := "law.go:24", after := #[{ on := 11, ground := Ground.guard }], guard := some (11, true) }) (v := .agg cs) rfl (by kernel_rfl) (by kernel_rfl) (by kernel_rfl) (fun _ _ _ h => h) (Or.inl ⟨by rfl, fun W hS => exec_load_row 25 (.tmp 2) rfl w.heap.size rfl 25 cs (0, 0) _ hS.1 Try.underlying25 rfl (by rw [HZ_cs.out]; exact i12)⟩) hHeld ?_
  (try simp only [Act.put, List.setIfInBounds_toArray, List.set_cons_zero, List.set_cons_succ])
  refine wpAnyH_take (i := 14) (oi := { dst := some 35, op := Op.load 25 (Operand.tmp 2), type := 25, pos := "law.go:24", after := #[{ on := 11, ground := Ground.guard }], guard := some (11, true) }) (v := .agg cs) rfl (by kernel_rfl) (by kernel_rfl) (by kernel_rfl) (fun _ _ _ h => h) (Or.inl ⟨by rfl, fun W hS => exec_load_row 25 (.tmp 2) rfl w.heap.size rfl 25 cs (0, 0) _ hS.1 Try.underlying25 rfl (by rw [HZ_cs.out]; exact i12)⟩) hHeld ?_
  (try simp only [Act.put, List.setIfInBounds_toArray, List.set_cons_zero, List.set_cons_succ])
  refine wpAnyH_ready (rs := [13]) (by kernel_rfl) (by simp) ?_
  refine AllReadyH.cons (o := { dst := some 34, op := Op.call { callee := Callee.value (Operand.func 14), args := #[Operand.tmp 33], argTypes := #[25] }, type := 4, pos := "law.go:24", after := #[{ on := 12, ground := Ground.data }, { on := 11, ground := Ground.chain }, { on := 11, ground := Ground.guard }], guard := some (11, true) }) rfl (fun K hK => ?_) AllReadyH.nil
  go_simp
  refine (HRG.out _).mono ?_
  rintro e u6 ⟨rfl, hb⟩
  have R_A_6 := Lib.hid (Rw.under (W := u5) R_A_5.out hb R_A_5.out.lt)
  have R_X_6 := Lib.hid (Rw.under (W := u5) R_X_5.out hb R_X_5.out.lt)
  have R_Y_6 := Lib.hid (Rw.under (W := u5) R_Y_5.out hb R_Y_5.out.lt)
  have BT6 := Lib.hid (BT5.out.trans (hb.mono BT5.out.size))
  clear hb
  refine hK.out _ _ ?_ (fun hHeld => ?_)
  · exact ⟨R_A_6.out, R_X_6.out, R_Y_6.out⟩
  clear hK K
  (try simp only [Act.put, List.setIfInBounds_toArray, List.set_cons_zero, List.set_cons_succ])
  refine wpAnyH_ready (rs := [15]) (by kernel_rfl) (by simp) ?_
  refine AllReadyH.cons (o := { dst := some 36, op := Op.call { callee := Callee.value (Operand.func 15), args := #[Operand.tmp 35], argTypes := #[25] }, type := 4, pos := "law.go:24", after := #[{ on := 14, ground := Ground.data }, { on := 13, ground := Ground.chain }, { on := 11, ground := Ground.guard }], guard := some (11, true) }) rfl (fun K hK => ?_) AllReadyH.nil
  go_simp
  refine (HMR.out _).mono ?_
  rintro e u7 ⟨rfl, hb⟩
  have R_A_7 := Lib.hid (Rw.under (W := u6) R_A_6.out hb R_A_6.out.lt)
  have R_X_7 := Lib.hid (Rw.under (W := u6) R_X_6.out hb R_X_6.out.lt)
  have R_Y_7 := Lib.hid (Rw.under (W := u6) R_Y_6.out hb R_Y_6.out.lt)
  have BT7 := Lib.hid (BT6.out.trans (hb.mono BT6.out.size))
  clear hb
  refine hK.out _ _ ?_ (fun hHeld => ?_)
  · exact ⟨R_A_7.out, R_X_7.out, R_Y_7.out⟩
  clear hK K
  (try simp only [Act.put, List.setIfInBounds_toArray, List.set_cons_zero, List.set_cons_succ])
  refine wpAnyH_take (i := 16) (oi := { dst := some 37, op := Op.binOp BinOp.eql 4 (Operand.tmp 34) (Operand.tmp 36) 4, type := 4, pos := "law.go:24", after := #[{ on := 13, ground := Ground.data }, { on := 15, ground := Ground.data }, { on := 11, ground := Ground.guard }], guard := some (11, true) }) (v := ?_) rfl (by kernel_rfl) (by kernel_rfl) (by kernel_rfl) (fun _ _ _ h => h) (Or.inl ⟨by rfl, ?_⟩) hHeld ?_
  rotate_left
  · intro W hSw
    clear hSw
    first | (go_simp; done) | (go_simp; with_reducible rfl)
  (try simp only [Act.put, List.setIfInBounds_toArray, List.set_cons_zero, List.set_cons_succ])
  refine wpAnyH_take (i := 17) (oi := { dst := some 38, op := Op.pick (Operand.tmp 32) (Operand.tmp 37) (Operand.const (Value.bool false)), type := 4, pos := "law.go:24", after := #[{ on := 11, ground := Ground.data }, { on := 16, ground := Ground.data }], guard := none }) (v := ?_) rfl (by kernel_rfl) (by kernel_rfl) (by kernel_rfl) (fun _ _ _ h => h) (Or.inl ⟨by rfl, ?_⟩) hHeld ?_
  rotate_left
  · intro W hSw
    clear hSw
    first | (go_simp; done) | (go_simp; with_reducible rfl)
  (try simp only [Act.put, List.setIfInBounds_toArray, List.set_cons_zero, List.set_cons_succ])
  refine wpAnyH_take (i := 18) (oi := { dst := some 4, op := Op.assign (Operand.tmp 38), type := 4, pos := "law.go:24", after := #[{ on := 17, ground := Ground.data }, { on := 15, ground := Ground.chain }, { on := 0, ground := Ground.phase }, { on := 1, ground := Ground.phase }, { on := 2, ground := Ground.phase }, { on := 3, ground := Ground.phase }, { on := 4, ground := Ground.phase }, { on := 5, ground := Ground.phase }, { on := 6, ground := Ground.phase }, { on := 7, ground := Ground.phase }, { on := 8, ground := Ground.phase }, { on := 9, ground := Ground.phase }, { on := 10, ground := Ground.phase }, { on := 11, ground := Ground.phase }, { on := 12, ground := Ground.phase }, { on := 13, ground := Ground.phase }, { on := 14, ground := Ground.phase }, { on := 15, ground := Ground.phase }, { on := 16, ground := Ground.phase }, { on := 17, ground := Ground.phase }], guard := none }) (v := ?_) rfl (by kernel_rfl) (by kernel_rfl) (by kernel_rfl) (fun _ _ _ h => h) (Or.inl ⟨by rfl, ?_⟩) hHeld ?_
  rotate_left
  · intro W hSw
    clear hSw
    first | (go_simp; done) | (go_simp; with_reducible rfl)
  (try simp only [Act.put, List.setIfInBounds_toArray, List.set_cons_zero, List.set_cons_succ])
  refine wpAnyH_done (by kernel_rfl) ?_ _
  go_wp2
  go_ret
  exact ⟨rfl, BT7.out⟩

/-! From the walk to the given row. -/
set_option maxRecDepth 100000 in
theorem lifted (os : Os) (started : os.Started) (H : Type) (enc : TypeId × Value → H) :
    ReturnsInHanded {} Try.checked os 3 .any (Rows.foldStepsSpec.pre6 enc Try.prog Try.f3 Rows.foldStepsRow.domain false) (Rows.foldStepsSpec.post enc Try.prog Try.f3 false true false false) := by
  refine returnsInHanded_of_change (C := Try.checked) t_own started (by kernel_rfl) Try.func3
    (ChangeSpec.witness6 (enc := enc) (C := Try.checked) false ⟨#[], #[stV zeroS, recV ⟨0, 0, 0, 0, 0, 0, false, zeroS⟩], []⟩ 8 (by kernel_rfl) (by kernel_rfl) (by kernel_rfl) (by kernel_rfl)) ?_
  intro W base args ds gs before hval0 hW hcnd _
  have hval : ∀ (j : Nat) t v, Try.f3.params[j]? = some t → args[j]? = some v → Value.okWide Try.prog W .any base t v := hval0
  have hW' := hW
  obtain ⟨p, q, hA0, hV, rfl, hfz, hnd⟩ := hW
  have hA : DataW.TrodAll enc Try.prog W 0 (fun _ => true) true Try.f3.params.toList args.toList ds p := hA0
  rw [Try.params3] at hA hval
  obtain ⟨v0, vs0, d0, ds0, p0, q0, hargs, rfl, rfl, h0, r0⟩ := trodAll_cons hA
  obtain ⟨v1, vs1, d1, ds1, p1, q1, rfl, rfl, rfl, h1, r1⟩ := trodAll_cons r0
  obtain ⟨rfl, rfl, rfl⟩ := trodAll_nil r1
  obtain rfl : args = #[v0, v1] := by cases args; simp_all
  obtain ⟨s, rfl, hs⟩ := open_state (hval 0 25 v0 rfl rfl) h0
  obtain ⟨r, rfl, hr⟩ := open_rec (hval 1 27 v1 rfl rfl) h1
  refine (walk s r W hs hr).mono fun e W' ⟨he, hb⟩ => ?_
  subst he
  exact ⟨_, rfl, post_of_holds hW' (by kernel_rfl) rfl (by rw [Try.params3]; exact fun t ht => params_ok t (by simp at ht; rcases ht with rfl | rfl <;> simp)) ⟨rfl, rfl, rfl⟩ hb⟩

/-- The given statement. -/
theorem proved : Rows.FoldStepsSaid :=
  OpenClaim.holds_of_wide 3 Try.f3 rfl rfl rfl rfl rfl rfl rfl ⟨rfl, rfl, rfl, rfl, rfl⟩ rfl rfl rfl rfl rfl (by kernel_rfl) Try.func3 (by kernel_rfl)
    (of_decide_eq_true (by kernel_rfl)) (by unfold Func.isWrapper; first | (rw [if_pos (by decide +kernel)]; kernel_rfl) | (rw [if_neg (by decide +kernel)]; exact ⟨rfl, rfl⟩))
    (fun os started H enc _ => lifted os started H enc)
#print axioms proved
end Go.Proofs.Ytoeelglmdnhknaa.foldSteps
