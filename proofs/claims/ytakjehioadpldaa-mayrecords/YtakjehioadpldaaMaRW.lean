/-
  switchback's MayRecords: an operation's record is the one that the document says. For every input the law returns true, and each argument reads afterwards as it read before. No condition beside the row's own.
-/
import Derived.Test.YtakjehioadpldaaLift
namespace Go.Proofs.Ytakjehioadpldaa.mayRecords
open Go.Proofs.Ytakjehioadpldaa
open Go.ChangeShapes Go.WideShapes Go.ChangeAt Go.RowKit
set_option linter.unusedVariables false

set_option maxRecDepth 100000 in
set_option maxHeartbeats 8000000 in
theorem walk (hp : PkgM) (o : Oc) (w : World) (ho : FitsO o) : Calls Try.prog 4 #[opV o] w (Holds w) := by
  have HAW : Hid (∀ W, Calls Try.prog 8 #[] W fun e w' => e = .returned (.bool true) ∧ Below W.heap.size W w') := Lib.hid (awake_any hp)
  have HC0 : Hid (∀ W, Calls Try.prog 12 #[.agg (opC o)] W fun e w' => e = .returned (.agg (recC (recO o))) ∧ Below W.heap.size W w') := Lib.hid (fun W => hp.record o W ho)
  have HC1 : Hid (∀ W, Calls Try.prog 13 #[.agg (opC o)] W fun e w' => e = .returned (.agg (recC (recO o))) ∧ Below W.heap.size W w') := Lib.hid (fun W => mrecord_any o W)
  have eqR : ∀ W, (Op.equalIn 10000 35 (.agg (recC (recO o))) (.agg (recC (recO o)))).run Try.prog W = .ok true W := eq35 (fits_recO ho)
  obtain ⟨os, hos⟩ : ∃ c, c = opC o := ⟨_, rfl⟩
  have HE_os := Lib.hid hos
  have HZ_os : Hid (os.size = 5) := Lib.hid (by rw [hos]; rfl)
  have H1_os : Hid (os.all (·.oneCell') = true) := Lib.hid (by rw [hos]; exact opC_one _)
  obtain ⟨rc, hrc⟩ : ∃ c, c = recC (recO o) := ⟨_, rfl⟩
  rw [← hos, ← hrc] at HC0 HC1
  rw [← hrc] at eqR
  unfold opV
  rw [← hos]
  clear hos hrc hp ho
  go_enter Try.func4, Try.ntmps4
  go_upto_region 1 with (fail)
  refine name_w (fun W => Rw W w.heap.size os 27 ∧ Below w.heap.size w W) ⟨Rw.new _ _ _, (Below.refl _ _).alloc (Nat.le_refl _) _⟩ ?_
  rintro u0 ⟨h0, h1⟩
  have R_A_0 := Lib.hid h0
  have BT0 := Lib.hid h1
  clear h0 h1
  have RA := Lib.hid (Rw.drew R_A_0.out)
  have BT := Lib.hid (below_drew BT0.out)
  clear R_A_0 BT0
  refine wp_region_held_drew (S := fun W => Rw W w.heap.size os 27) (by kernel_rfl) RA.out (fun hHeld => ?_)
  refine wpAnyH_ready (rs := [0]) (by kernel_rfl) (by simp) ?_
  refine AllReadyH.cons (o := { dst := some 3, op := Op.call { callee := Callee.value (Operand.func 8), args := #[], argTypes := #[] }, type := 4, pos := "law.go:29", after := #[], guard := none }) rfl (fun K hK => ?_) AllReadyH.nil
  go_simp
  refine (HAW.out _).mono ?_
  rintro e v0 ⟨rfl, hb⟩
  have RAv0 := Lib.hid (Rw.under RA.out hb RA.out.lt)
  have BTv0 := Lib.hid (BT.out.trans (hb.mono BT.out.size))
  clear hb RA BT
  have RA := RAv0
  have BT := BTv0
  clear RAv0 BTv0
  refine hK.out _ _ ?_ (fun hHeld => ?_)
  · exact RA.out
  clear hK K
  (try simp only [Act.put, List.setIfInBounds_toArray, List.set_cons_zero, List.set_cons_succ])
  refine wpAnyH_take (i := 1) (oi := { dst := some 4, op := Op.move (Operand.tmp 3), type := 4, pos := "law.go:29", after := #[{ on := 0, ground := Ground.data }, { on := 0, ground := Ground.chain }], guard := none }) (v := ?_) rfl (by kernel_rfl) (by kernel_rfl) (by kernel_rfl) (fun _ _ _ h => h) (Or.inl ⟨by rfl, ?_⟩) hHeld ?_
  rotate_left
  · intro w hSw
    (try dsimp only at hSw)
    first | (go_simp; done) | (go_simp; with_reducible rfl)
  (try simp only [Act.put, List.setIfInBounds_toArray, List.set_cons_zero, List.set_cons_succ])
  refine wpAnyH_take (i := 2) (oi := { dst := some 5, op := Op.load 27 (Operand.tmp 1), type := 27, pos := "law.go:29", after := #[{ on := 1, ground := Ground.guard }], guard := some (1, true) }) (v := .agg os) rfl (by kernel_rfl) (by kernel_rfl) (by kernel_rfl) (fun _ _ _ h => h) (Or.inl ⟨by rfl, fun W hS => exec_load_row 27 (.tmp 1) rfl w.heap.size rfl 27 os (0, 0) _ hS Try.underlying27 rfl (by rw [HZ_os.out]; exact i5)⟩) hHeld ?_
  (try simp only [Act.put, List.setIfInBounds_toArray, List.set_cons_zero, List.set_cons_succ])
  refine wpAnyH_take (i := 4) (oi := { dst := some 7, op := Op.load 27 (Operand.tmp 1), type := 27, pos := "law.go:29", after := #[{ on := 1, ground := Ground.guard }], guard := some (1, true) }) (v := .agg os) rfl (by kernel_rfl) (by kernel_rfl) (by kernel_rfl) (fun _ _ _ h => h) (Or.inl ⟨by rfl, fun W hS => exec_load_row 27 (.tmp 1) rfl w.heap.size rfl 27 os (0, 0) _ hS Try.underlying27 rfl (by rw [HZ_os.out]; exact i5)⟩) hHeld ?_
  (try simp only [Act.put, List.setIfInBounds_toArray, List.set_cons_zero, List.set_cons_succ])
  refine wpAnyH_ready (rs := [3]) (by kernel_rfl) (by simp) ?_
  refine AllReadyH.cons (o := { dst := some 6, op := Op.call { callee := Callee.value (Operand.func 12), args := #[Operand.tmp 5], argTypes := #[27] }, type := 35, pos := "law.go:29", after := #[{ on := 2, ground := Ground.data }, { on := 1, ground := Ground.chain }, { on := 1, ground := Ground.guard }], guard := some (1, true) }) rfl (fun K hK => ?_) AllReadyH.nil
  go_simp
  refine (HC0.out _).mono ?_
  rintro e v1 ⟨rfl, hb⟩
  have RAv1 := Lib.hid (Rw.under RA.out hb RA.out.lt)
  have BTv1 := Lib.hid (BT.out.trans (hb.mono BT.out.size))
  clear hb RA BT
  have RA := RAv1
  have BT := BTv1
  clear RAv1 BTv1
  refine hK.out _ _ ?_ (fun hHeld => ?_)
  · exact RA.out
  clear hK K
  (try simp only [Act.put, List.setIfInBounds_toArray, List.set_cons_zero, List.set_cons_succ])
  refine wpAnyH_ready (rs := [5]) (by kernel_rfl) (by simp) ?_
  refine AllReadyH.cons (o := { dst := some 8, op := Op.call { callee := Callee.value (Operand.func 13), args := #[Operand.tmp 7], argTypes := #[27] }, type := 35, pos := "law.go:29", after := #[{ on := 4, ground := Ground.data }, { on := 3, ground := Ground.chain }, { on := 1, ground := Ground.guard }], guard := some (1, true) }) rfl (fun K hK => ?_) AllReadyH.nil
  go_simp
  refine (HC1.out _).mono ?_
  rintro e v2 ⟨rfl, hb⟩
  have RAv2 := Lib.hid (Rw.under RA.out hb RA.out.lt)
  have BTv2 := Lib.hid (BT.out.trans (hb.mono BT.out.size))
  clear hb RA BT
  have RA := RAv2
  have BT := BTv2
  clear RAv2 BTv2
  refine hK.out _ _ ?_ (fun hHeld => ?_)
  · exact RA.out
  clear hK K
  (try simp only [Act.put, List.setIfInBounds_toArray, List.set_cons_zero, List.set_cons_succ])
  refine wpAnyH_take (i := 6) (oi := { dst := some 9, op := Op.binOp BinOp.eql 35 (Operand.tmp 6) (Operand.tmp 8) 35, type := 4, pos := "law.go:29", after := #[{ on := 3, ground := Ground.data }, { on := 5, ground := Ground.data }, { on := 1, ground := Ground.guard }], guard := some (1, true) }) (v := ?_) rfl (by kernel_rfl) (by kernel_rfl) (by kernel_rfl) (fun _ _ _ h => h) (Or.inl ⟨by rfl, ?_⟩) hHeld ?_
  rotate_left
  · intro w hSw
    (try dsimp only at hSw)
    first | (go_simp; done) | (go_simp; with_reducible rfl)
  (try simp only [Act.put, List.setIfInBounds_toArray, List.set_cons_zero, List.set_cons_succ])
  refine wpAnyH_take (i := 7) (oi := { dst := some 10, op := Op.pick (Operand.tmp 4) (Operand.tmp 9) (Operand.const (Value.bool false)), type := 4, pos := "law.go:29", after := #[{ on := 1, ground := Ground.data }, { on := 6, ground := Ground.data }], guard := none }) (v := ?_) rfl (by kernel_rfl) (by kernel_rfl) (by kernel_rfl) (fun _ _ _ h => h) (Or.inl ⟨by rfl, ?_⟩) hHeld ?_
  rotate_left
  · intro w hSw
    (try dsimp only at hSw)
    first | (go_simp; done) | (go_simp; with_reducible rfl)
  (try simp only [Act.put, List.setIfInBounds_toArray, List.set_cons_zero, List.set_cons_succ])
  refine wpAnyH_take (i := 8) (oi := { dst := some 2, op := Op.assign (Operand.tmp 10), type := 4, pos := "law.go:29", after := #[{ on := 7, ground := Ground.data }, { on := 5, ground := Ground.chain }, { on := 0, ground := Ground.phase }, { on := 1, ground := Ground.phase }, { on := 2, ground := Ground.phase }, { on := 3, ground := Ground.phase }, { on := 4, ground := Ground.phase }, { on := 5, ground := Ground.phase }, { on := 6, ground := Ground.phase }, { on := 7, ground := Ground.phase }], guard := none }) (v := ?_) rfl (by kernel_rfl) (by kernel_rfl) (by kernel_rfl) (fun _ _ _ h => h) (Or.inl ⟨by rfl, ?_⟩) hHeld ?_
  rotate_left
  · intro w hSw
    (try dsimp only at hSw)
    first | (go_simp; done) | (go_simp; with_reducible rfl)
  (try simp only [Act.put, List.setIfInBounds_toArray, List.set_cons_zero, List.set_cons_succ])
  refine wpAnyH_done (by kernel_rfl) ?_ _
  clear hHeld
  go_wp2
  go_ret
  exact ⟨rfl, BT.out⟩
end Go.Proofs.Ytakjehioadpldaa.mayRecords
