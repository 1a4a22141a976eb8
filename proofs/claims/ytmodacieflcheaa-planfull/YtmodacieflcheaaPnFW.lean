/-
  switchback's PlanFull: whether a slot is full is what the document's own function says. For every input the law returns true, and each argument reads afterwards as it read before. No condition beside the row's own.
-/
import Derived.Test.YtmodacieflcheaaLift
namespace Go.Proofs.Ytmodacieflcheaa.planFull
open Go.Proofs.Ytmodacieflcheaa
open Go.ChangeShapes Go.WideShapes Go.ChangeAt Go.RowKit
set_option linter.unusedVariables false

set_option maxRecDepth 100000 in
set_option maxHeartbeats 8000000 in
theorem walk (hp : PkgPl) (s : St) (v : Vw) (slot : Int) (w : World) (hs : FitsS s) (hv : FitsV v) (hn : Fits slot) : Calls Try.prog 4 #[stV s, vwV v, .int .i64 slot] w (Holds w) := by
  have HAW : Hid (∀ W, Calls Try.prog 9 #[] W fun e w' => e = .returned (.bool true) ∧ Below W.heap.size W w') := Lib.hid (awake_any hp)
  obtain ⟨f, hf⟩ : ∃ f, f = fullS s v slot := ⟨_, rfl⟩
  have HC0 : Hid (∀ W, Calls Try.prog 13 #[.agg (stC s), .agg (vwC v), .int .i64 slot] W fun e w' => e = .returned (.bool f) ∧ Below W.heap.size W w') := Lib.hid (fun W => by rw [hf]; exact hp.full s v slot W hs hv hn)
  have HC1 : Hid (∀ W, Calls Try.prog 14 #[.agg (stC s), .agg (vwC v), .int .i64 slot] W fun e w' => e = .returned (.bool f) ∧ Below W.heap.size W w') := Lib.hid (fun W => by rw [hf]; exact mfull_any s v slot W)
  obtain ⟨cs, hcs⟩ : ∃ c, c = stC s := ⟨_, rfl⟩
  have HE_cs := Lib.hid hcs
  have HZ_cs : Hid (cs.size = 12) := Lib.hid (by rw [hcs]; rfl)
  have H1_cs : Hid (cs.all (·.oneCell') = true) := Lib.hid (by rw [hcs]; exact stC_one _)
  obtain ⟨vs, hvs⟩ : ∃ c, c = vwC v := ⟨_, rfl⟩
  have HE_vs := Lib.hid hvs
  have HZ_vs : Hid (vs.size = 4) := Lib.hid (by rw [hvs]; rfl)
  have H1_vs : Hid (vs.all (·.oneCell') = true) := Lib.hid (by rw [hvs]; exact vwC_one _)
  rw [← hcs, ← hvs] at HC0 HC1
  unfold stV vwV
  rw [← hcs, ← hvs]
  clear hcs hvs hp hf hv hn hs
  go_enter Try.func4, Try.ntmps4
  go_upto_region 1 with (fail)
  refine name_w (fun W => Rw W w.heap.size cs 25 ∧ Rw W (w.heap.size + 1) vs 27 ∧ Below w.heap.size w W) ⟨(Rw.new _ _ _).alloc _, ?_, ((Below.refl _ _).alloc (Nat.le_refl _) _).alloc (by simp) _⟩ ?_
  · have h1 := Rw.new (w.alloc (.cells cs 25)) vs 27
    rw [size_alloc] at h1
    exact h1
  rintro u0 ⟨h0, h1, h2⟩
  have R_A_0 := Lib.hid h0
  have R_B_0 := Lib.hid h1
  have BT0 := Lib.hid h2
  clear h0 h1 h2
  have RA := Lib.hid (Rw.drew R_A_0.out)
  have RB := Lib.hid (Rw.drew R_B_0.out)
  have BT := Lib.hid (below_drew BT0.out)
  clear R_A_0 R_B_0 BT0
  refine wp_region_held_drew (S := fun W => Rw W w.heap.size cs 25 ∧ Rw W (w.heap.size + 1) vs 27) (by kernel_rfl) ⟨RA.out, RB.out⟩ (fun hHeld => ?_)
  refine wpAnyH_ready (rs := [0]) (by kernel_rfl) (by simp) ?_
  refine AllReadyH.cons (o := { dst := some 7, op := Op.call { callee := Callee.value (Operand.func 9), args := #[], argTypes := #[] }, type := 4, pos := "law.go:35", after := #[], guard := none }) rfl (fun K hK => ?_) AllReadyH.nil
  go_simp
  refine (HAW.out _).mono ?_
  rintro e v0 ⟨rfl, hb⟩
  have RAv0 := Lib.hid (Rw.under RA.out hb RA.out.lt)
  have RBv0 := Lib.hid (Rw.under RB.out hb RB.out.lt)
  have BTv0 := Lib.hid (BT.out.trans (hb.mono BT.out.size))
  clear hb RA RB BT
  have RA := RAv0
  have RB := RBv0
  have BT := BTv0
  clear RAv0 RBv0 BTv0
  refine hK.out _ _ ?_ (fun hHeld => ?_)
  · exact ⟨RA.out, RB.out⟩
  clear hK K
  (try simp only [Act.put, List.setIfInBounds_toArray, List.set_cons_zero, List.set_cons_succ])
  refine wpAnyH_take (i := 1) (oi := { dst := some 8, op := Op.move (Operand.tmp 7), type := 4, pos := "law.go:35", after := #[{ on := 0, ground := Ground.data }, { on := 0, ground := Ground.chain }], guard := none }) (v := ?_) rfl (by kernel_rfl) (by kernel_rfl) (by kernel_rfl) (fun _ _ _ h => h) (Or.inl ⟨by rfl, ?_⟩) hHeld ?_
  rotate_left
  · intro w hSw
    (try dsimp only at hSw)
    first | (go_simp; done) | (go_simp; with_reducible rfl)
  (try simp only [Act.put, List.setIfInBounds_toArray, List.set_cons_zero, List.set_cons_succ])
  refine wpAnyH_take (i := 2) (oi := { dst := some 9, op := Op.load 25 (Operand.tmp 3), type := 25, pos := "law.go:35", after := #[{ on := 1, ground := Ground.guard }], guard := some (1, true) }) (v := .agg cs) rfl (by kernel_rfl) (by kernel_rfl) (by kernel_rfl) (fun _ _ _ h => h) (Or.inl ⟨by rfl, fun W hS => exec_load_row 25 (.tmp 3) rfl w.heap.size rfl 25 cs (0, 0) _ hS.1 Try.underlying25 rfl (by rw [HZ_cs.out]; exact i12)⟩) hHeld ?_
  (try simp only [Act.put, List.setIfInBounds_toArray, List.set_cons_zero, List.set_cons_succ])
  refine wpAnyH_take (i := 3) (oi := { dst := some 10, op := Op.load 27 (Operand.tmp 4), type := 27, pos := "law.go:35", after := #[{ on := 1, ground := Ground.guard }], guard := some (1, true) }) (v := .agg vs) rfl (by kernel_rfl) (by kernel_rfl) (by kernel_rfl) (fun _ _ _ h => h) (Or.inl ⟨by rfl, fun W hS => exec_load_row 27 (.tmp 4) rfl (w.heap.size + 1) rfl 27 vs (0, 0) _ hS.2 Try.underlying27 rfl (by rw [HZ_vs.out]; exact iv4)⟩) hHeld ?_
  (try simp only [Act.put, List.setIfInBounds_toArray, List.set_cons_zero, List.set_cons_succ])
  refine wpAnyH_take (i := 4) (oi := { dst := some 11, op := Op.move (Operand.tmp 2), type := 3, pos := "law.go:35", after := #[{ on := 1, ground := Ground.guard }], guard := some (1, true) }) (v := ?_) rfl (by kernel_rfl) (by kernel_rfl) (by kernel_rfl) (fun _ _ _ h => h) (Or.inl ⟨by rfl, ?_⟩) hHeld ?_
  rotate_left
  · intro w hSw
    (try dsimp only at hSw)
    first | (go_simp; done) | (go_simp; with_reducible rfl)
  (try simp only [Act.put, List.setIfInBounds_toArray, List.set_cons_zero, List.set_cons_succ])
  refine wpAnyH_take (i := 6) (oi := { dst := some 13, op := Op.load 25 (Operand.tmp 3), type := 25, pos := "law.go:35", after := #[{ on := 1, ground := Ground.guard }], guard := some (1, true) }) (v := .agg cs) rfl (by kernel_rfl) (by kernel_rfl) (by kernel_rfl) (fun _ _ _ h => h) (Or.inl ⟨by rfl, fun W hS => exec_load_row 25 (.tmp 3) rfl w.heap.size rfl 25 cs (0, 0) _ hS.1 Try.underlying25 rfl (by rw [HZ_cs.out]; exact i12)⟩) hHeld ?_
  (try simp only [Act.put, List.setIfInBounds_toArray, List.set_cons_zero, List.set_cons_succ])
  refine wpAnyH_take (i := 7) (oi := { dst := some 14, op := Op.load 27 (Operand.tmp 4), type := 27, pos := "law.go:35", after := #[{ on := 1, ground := Ground.guard }], guard := some (1, true) }) (v := .agg vs) rfl (by kernel_rfl) (by kernel_rfl) (by kernel_rfl) (fun _ _ _ h => h) (Or.inl ⟨by rfl, fun W hS => exec_load_row 27 (.tmp 4) rfl (w.heap.size + 1) rfl 27 vs (0, 0) _ hS.2 Try.underlying27 rfl (by rw [HZ_vs.out]; exact iv4)⟩) hHeld ?_
  (try simp only [Act.put, List.setIfInBounds_toArray, List.set_cons_zero, List.set_cons_succ])
  refine wpAnyH_take (i := 8) (oi := { dst := some 15, op := Op.move (Operand.tmp 2), type := 3, pos := "law.go:35", after := #[{ on := 1, ground := Ground.guard }], guard := some (1, true) }) (v := ?_) rfl (by kernel_rfl) (by kernel_rfl) (by kernel_rfl) (fun _ _ _ h => h) (Or.inl ⟨by rfl, ?_⟩) hHeld ?_
  rotate_left
  · intro w hSw
    (try dsimp only at hSw)
    first | (go_simp; done) | (go_simp; with_reducible rfl)
  (try simp only [Act.put, List.setIfInBounds_toArray, List.set_cons_zero, List.set_cons_succ])
  refine wpAnyH_ready (rs := [5]) (by kernel_rfl) (by simp) ?_
  refine AllReadyH.cons (o := { dst := some 12, op := Op.call { callee := Callee.value (Operand.func 13), args := #[Operand.tmp 9, Operand.tmp 10, Operand.tmp 11], argTypes := #[25, 27, 3] }, type := 4, pos := "law.go:35", after := #[{ on := 2, ground := Ground.data }, { on := 3, ground := Ground.data }, { on := 4, ground := Ground.data }, { on := 1, ground := Ground.chain }, { on := 1, ground := Ground.guard }], guard := some (1, true) }) rfl (fun K hK => ?_) AllReadyH.nil
  go_simp
  refine (HC0.out _).mono ?_
  rintro e v1 ⟨rfl, hb⟩
  have RAv1 := Lib.hid (Rw.under RA.out hb RA.out.lt)
  have RBv1 := Lib.hid (Rw.under RB.out hb RB.out.lt)
  have BTv1 := Lib.hid (BT.out.trans (hb.mono BT.out.size))
  clear hb RA RB BT
  have RA := RAv1
  have RB := RBv1
  have BT := BTv1
  clear RAv1 RBv1 BTv1
  refine hK.out _ _ ?_ (fun hHeld => ?_)
  · exact ⟨RA.out, RB.out⟩
  clear hK K
  (try simp only [Act.put, List.setIfInBounds_toArray, List.set_cons_zero, List.set_cons_succ])
  refine wpAnyH_ready (rs := [9]) (by kernel_rfl) (by simp) ?_
  refine AllReadyH.cons (o := { dst := some 16, op := Op.call { callee := Callee.value (Operand.func 14), args := #[Operand.tmp 13, Operand.tmp 14, Operand.tmp 15], argTypes := #[25, 27, 3] }, type := 4, pos := "law.go:35", after := #[{ on := 6, ground := Ground.data }, { on := 7, ground := Ground.data }, { on := 8, ground := Ground.data }, { on := 5, ground := Ground.chain }, { on := 1, ground := Ground.guard }], guard := some (1, true) }) rfl (fun K hK => ?_) AllReadyH.nil
  go_simp
  refine (HC1.out _).mono ?_
  rintro e v2 ⟨rfl, hb⟩
  have RAv2 := Lib.hid (Rw.under RA.out hb RA.out.lt)
  have RBv2 := Lib.hid (Rw.under RB.out hb RB.out.lt)
  have BTv2 := Lib.hid (BT.out.trans (hb.mono BT.out.size))
  clear hb RA RB BT
  have RA := RAv2
  have RB := RBv2
  have BT := BTv2
  clear RAv2 RBv2 BTv2
  refine hK.out _ _ ?_ (fun hHeld => ?_)
  · exact ⟨RA.out, RB.out⟩
  clear hK K
  (try simp only [Act.put, List.setIfInBounds_toArray, List.set_cons_zero, List.set_cons_succ])
  refine wpAnyH_take (i := 10) (oi := { dst := some 17, op := Op.binOp BinOp.eql 4 (Operand.tmp 12) (Operand.tmp 16) 4, type := 4, pos := "law.go:35", after := #[{ on := 5, ground := Ground.data }, { on := 9, ground := Ground.data }, { on := 1, ground := Ground.guard }], guard := some (1, true) }) (v := ?_) rfl (by kernel_rfl) (by kernel_rfl) (by kernel_rfl) (fun _ _ _ h => h) (Or.inl ⟨by rfl, ?_⟩) hHeld ?_
  rotate_left
  · intro w hSw
    (try dsimp only at hSw)
    first | (go_simp; done) | (go_simp; with_reducible rfl)
  (try simp only [Act.put, List.setIfInBounds_toArray, List.set_cons_zero, List.set_cons_succ])
  refine wpAnyH_take (i := 11) (oi := { dst := some 18, op := Op.pick (Operand.tmp 8) (Operand.tmp 17) (Operand.const (Value.bool false)), type := 4, pos := "law.go:35", after := #[{ on := 1, ground := Ground.data }, { on := 10, ground := Ground.data }], guard := none }) (v := ?_) rfl (by kernel_rfl) (by kernel_rfl) (by kernel_rfl) (fun _ _ _ h => h) (Or.inl ⟨by rfl, ?_⟩) hHeld ?_
  rotate_left
  · intro w hSw
    (try dsimp only at hSw)
    first | (go_simp; done) | (go_simp; with_reducible rfl)
  (try simp only [Act.put, List.setIfInBounds_toArray, List.set_cons_zero, List.set_cons_succ])
  refine wpAnyH_take (i := 12) (oi := { dst := some 6, op := Op.assign (Operand.tmp 18), type := 4, pos := "law.go:35", after := #[{ on := 11, ground := Ground.data }, { on := 9, ground := Ground.chain }, { on := 0, ground := Ground.phase }, { on := 1, ground := Ground.phase }, { on := 2, ground := Ground.phase }, { on := 3, ground := Ground.phase }, { on := 4, ground := Ground.phase }, { on := 5, ground := Ground.phase }, { on := 6, ground := Ground.phase }, { on := 7, ground := Ground.phase }, { on := 8, ground := Ground.phase }, { on := 9, ground := Ground.phase }, { on := 10, ground := Ground.phase }, { on := 11, ground := Ground.phase }], guard := none }) (v := ?_) rfl (by kernel_rfl) (by kernel_rfl) (by kernel_rfl) (fun _ _ _ h => h) (Or.inl ⟨by rfl, ?_⟩) hHeld ?_
  rotate_left
  · intro w hSw
    (try dsimp only at hSw)
    first | (go_simp; done) | (go_simp; with_reducible rfl)
  (try simp only [Act.put, List.setIfInBounds_toArray, List.set_cons_zero, List.set_cons_succ])
  refine wpAnyH_done (by kernel_rfl) ?_ _
  clear hHeld
  go_wp2
  go_ret
  exact ⟨rfl, BT.out⟩
end Go.Proofs.Ytmodacieflcheaa.planFull
