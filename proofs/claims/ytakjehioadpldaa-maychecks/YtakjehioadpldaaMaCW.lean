/-
  switchback's MayChecks: whether an operation may be done, and why not, is what the document's own function says, in every state that may be. For every input the law returns true, and each argument reads afterwards as it read before. No condition beside the row's own.
-/
import Derived.Test.YtakjehioadpldaaLift
namespace Go.Proofs.Ytakjehioadpldaa.mayChecks
open Go.Proofs.Ytakjehioadpldaa
open Go.ChangeShapes Go.WideShapes Go.ChangeAt Go.RowKit
set_option linter.unusedVariables false

set_option maxRecDepth 100000 in
set_option maxHeartbeats 8000000 in
theorem walk (hp : PkgM) (s : St) (o : Oc) (now : Int) (w : World) (hs : FitsS s) (ho : FitsO o) (hn : Fits now) : Calls Try.prog 3 #[stV s, opV o, .int .i64 now] w (Holds w) := by
  have HAW : Hid (∀ W, Calls Try.prog 8 #[] W fun e w' => e = .returned (.bool true) ∧ Below W.heap.size W w') := Lib.hid (awake_any hp)
  obtain ⟨rt, hrt⟩ : ∃ b, b = rightS s := ⟨_, rfl⟩
  obtain ⟨v, hv⟩ : ∃ x, x = chkS s o now := ⟨_, rfl⟩
  have HMR : Hid (∀ W, Calls Try.prog 9 #[.agg (stC s)] W fun e w' => e = .returned (.bool rt) ∧ Below W.heap.size W w') := Lib.hid (fun W => by rw [hrt]; exact mright_any s W)
  have HC0 : Hid (rt = true → ∀ W, Calls Try.prog 10 #[.agg (stC s), .agg (opC o), .int .i64 now] W fun e w' => e = .returned (.int .i64 v) ∧ Below W.heap.size W w') := Lib.hid (fun h W => by rw [hv]; exact hp.check s o now W (by rw [← hrt]; exact h) hs ho hn)
  have HC1 : Hid (rt = true → ∀ W, Calls Try.prog 11 #[.agg (stC s), .agg (opC o), .int .i64 now] W fun e w' => e = .returned (.int .i64 v) ∧ Below W.heap.size W w') := Lib.hid (fun h W => by rw [hv]; exact mcheck_any s o now W (right_in (by rw [← hrt]; exact h)).1)
  obtain ⟨cs, hcs⟩ : ∃ c, c = stC s := ⟨_, rfl⟩
  have HE_cs := Lib.hid hcs
  have HZ_cs : Hid (cs.size = 12) := Lib.hid (by rw [hcs]; rfl)
  have H1_cs : Hid (cs.all (·.oneCell') = true) := Lib.hid (by rw [hcs]; exact stC_one _)
  obtain ⟨os, hos⟩ : ∃ c, c = opC o := ⟨_, rfl⟩
  have HE_os := Lib.hid hos
  have HZ_os : Hid (os.size = 5) := Lib.hid (by rw [hos]; rfl)
  have H1_os : Hid (os.all (·.oneCell') = true) := Lib.hid (by rw [hos]; exact opC_one _)
  rw [← hcs] at HMR HC0 HC1
  rw [← hos] at HC0 HC1
  unfold stV opV
  rw [← hcs, ← hos]
  clear hcs hos hp hrt hv hs ho hn
  go_enter Try.func3, Try.ntmps3
  go_upto_region 1 with (fail)
  refine name_w (fun W => Rw W w.heap.size cs 25 ∧ Rw W (w.heap.size + 1) os 27 ∧ Below w.heap.size w W) ⟨(Rw.new _ _ _).alloc _, ?_, ((Below.refl _ _).alloc (Nat.le_refl _) _).alloc (by simp) _⟩ ?_
  · have h1 := Rw.new (w.alloc (.cells cs 25)) os 27
    rw [size_alloc] at h1
    exact h1
  rintro u0 ⟨h0, h1, h2⟩
  have R_A_0 := Lib.hid h0
  have R_B_0 := Lib.hid h1
  have BT0 := Lib.hid h2
  clear h0 h1 h2
  go_wp2_with fail
  refine (HAW.out _).mono ?_
  rintro e u1 ⟨rfl, hb⟩
  have R_A_1 := Lib.hid (R_A_0.out.under hb R_A_0.out.lt)
  have R_B_1 := Lib.hid (R_B_0.out.under hb R_B_0.out.lt)
  have BT1 := Lib.hid (BT0.out.trans (hb.mono BT0.out.size))
  clear hb BT0 R_A_0 R_B_0
  go_wp2_with (first | (refine wpList_load_any (by rfl) 25 (.tmp 3) rfl w.heap.size rfl 25 cs (0, 0) _ R_A_1.out Try.underlying25 rfl (by rw [HZ_cs.out]; exact i12) ?_))
  refine (HMR.out _).mono ?_
  rintro e u2 ⟨rfl, hb⟩
  have R_A_2 := Lib.hid (R_A_1.out.under hb R_A_1.out.lt)
  have R_B_2 := Lib.hid (R_B_1.out.under hb R_B_1.out.lt)
  have BT2 := Lib.hid (BT1.out.trans (hb.mono BT1.out.size))
  clear hb BT1 R_A_1 R_B_1
  clear HMR
  cases rt with
  | false =>
    clear HC0 HC1
    go_wp2_with fail
    refine (HAW.out _).mono ?_
    rintro e u3 ⟨rfl, hb⟩
    have R_A_3 := Lib.hid (R_A_2.out.under hb R_A_2.out.lt)
    have R_B_3 := Lib.hid (R_B_2.out.under hb R_B_2.out.lt)
    have BT3 := Lib.hid (BT2.out.trans (hb.mono BT2.out.size))
    clear hb BT2 R_A_2 R_B_2
    go_wp2_with fail
    go_ret
    exact ⟨rfl, BT3.out⟩
  | true =>
    have HD0 := Lib.hid (HC0.out rfl)
    have HD1 := Lib.hid (HC1.out rfl)
    clear HC0 HC1
    go_upto_region 3 with (fail)
    have RA := Lib.hid (Rw.drew R_A_2.out)
    have RB := Lib.hid (Rw.drew R_B_2.out)
    have BT := Lib.hid (below_drew BT2.out)
    clear R_A_2 R_B_2 BT2
    refine wp_region_held_drew (S := fun W => Rw W w.heap.size cs 25 ∧ Rw W (w.heap.size + 1) os 27) (by kernel_rfl) ⟨RA.out, RB.out⟩ (fun hHeld => ?_)
    refine wpAnyH_take (i := 0) (oi := { dst := some 15, op := Op.load 25 (Operand.tmp 3), type := 25, pos := "law.go:24", after := #[], guard := none }) (v := .agg cs) rfl (by kernel_rfl) (by kernel_rfl) (by kernel_rfl) (fun _ _ _ h => h) (Or.inl ⟨by rfl, fun W hS => exec_load_row 25 (.tmp 3) rfl w.heap.size rfl 25 cs (0, 0) _ hS.1 Try.underlying25 rfl (by rw [HZ_cs.out]; exact i12)⟩) hHeld ?_
    (try simp only [Act.put, List.setIfInBounds_toArray, List.set_cons_zero, List.set_cons_succ])
    refine wpAnyH_take (i := 1) (oi := { dst := some 16, op := Op.load 27 (Operand.tmp 4), type := 27, pos := "law.go:24", after := #[], guard := none }) (v := .agg os) rfl (by kernel_rfl) (by kernel_rfl) (by kernel_rfl) (fun _ _ _ h => h) (Or.inl ⟨by rfl, fun W hS => exec_load_row 27 (.tmp 4) rfl (w.heap.size + 1) rfl 27 os (0, 0) _ hS.2 Try.underlying27 rfl (by rw [HZ_os.out]; exact i5)⟩) hHeld ?_
    (try simp only [Act.put, List.setIfInBounds_toArray, List.set_cons_zero, List.set_cons_succ])
    refine wpAnyH_take (i := 2) (oi := { dst := some 17, op := Op.move (Operand.tmp 2), type := 3, pos := "law.go:24", after := #[], guard := none }) (v := ?_) rfl (by kernel_rfl) (by kernel_rfl) (by kernel_rfl) (fun _ _ _ h => h) (Or.inl ⟨by rfl, ?_⟩) hHeld ?_
    rotate_left
    · intro w hSw
      (try dsimp only at hSw)
      first | (go_simp; done) | (go_simp; with_reducible rfl)
    (try simp only [Act.put, List.setIfInBounds_toArray, List.set_cons_zero, List.set_cons_succ])
    refine wpAnyH_take (i := 4) (oi := { dst := some 19, op := Op.load 25 (Operand.tmp 3), type := 25, pos := "law.go:24", after := #[], guard := none }) (v := .agg cs) rfl (by kernel_rfl) (by kernel_rfl) (by kernel_rfl) (fun _ _ _ h => h) (Or.inl ⟨by rfl, fun W hS => exec_load_row 25 (.tmp 3) rfl w.heap.size rfl 25 cs (0, 0) _ hS.1 Try.underlying25 rfl (by rw [HZ_cs.out]; exact i12)⟩) hHeld ?_
    (try simp only [Act.put, List.setIfInBounds_toArray, List.set_cons_zero, List.set_cons_succ])
    refine wpAnyH_take (i := 5) (oi := { dst := some 20, op := Op.load 27 (Operand.tmp 4), type := 27, pos := "law.go:24", after := #[], guard := none }) (v := .agg os) rfl (by kernel_rfl) (by kernel_rfl) (by kernel_rfl) (fun _ _ _ h => h) (Or.inl ⟨by rfl, fun W hS => exec_load_row 27 (.tmp 4) rfl (w.heap.size + 1) rfl 27 os (0, 0) _ hS.2 Try.underlying27 rfl (by rw [HZ_os.out]; exact i5)⟩) hHeld ?_
    (try simp only [Act.put, List.setIfInBounds_toArray, List.set_cons_zero, List.set_cons_succ])
    refine wpAnyH_take (i := 6) (oi := { dst := some 21, op := Op.move (Operand.tmp 2), type := 3, pos := "law.go:24", after := #[], guard := none }) (v := ?_) rfl (by kernel_rfl) (by kernel_rfl) (by kernel_rfl) (fun _ _ _ h => h) (Or.inl ⟨by rfl, ?_⟩) hHeld ?_
    rotate_left
    · intro w hSw
      (try dsimp only at hSw)
      first | (go_simp; done) | (go_simp; with_reducible rfl)
    (try simp only [Act.put, List.setIfInBounds_toArray, List.set_cons_zero, List.set_cons_succ])
    refine wpAnyH_ready (rs := [3]) (by kernel_rfl) (by simp) ?_
    refine AllReadyH.cons (o := { dst := some 18, op := Op.call { callee := Callee.value (Operand.func 10), args := #[Operand.tmp 15, Operand.tmp 16, Operand.tmp 17], argTypes := #[25, 27, 3] }, type := 30, pos := "law.go:24", after := #[{ on := 0, ground := Ground.data }, { on := 1, ground := Ground.data }, { on := 2, ground := Ground.data }], guard := none }) rfl (fun K hK => ?_) AllReadyH.nil
    go_simp
    refine (HD0.out _).mono ?_
    rintro e v1 ⟨rfl, hb⟩
    have RAv1 := Lib.hid (Rw.under RA.out hb RA.out.lt)
    have RBv1 := Lib.hid (Rw.under RB.out hb RB.out.lt)
    have BTv1 := Lib.hid (BT.out.trans (hb.mono BT.out.size))
    clear hb RA RB BT
    have RA := RAv1
    have RB := RBv1
    have BT := BTv1
    clear RAv1 RBv1 BTv1
    refine hK.out _ _ ?_ (fun hHeld => ?_)
    · exact ⟨RA.out, RB.out⟩
    clear hK K
    (try simp only [Act.put, List.setIfInBounds_toArray, List.set_cons_zero, List.set_cons_succ])
    refine wpAnyH_ready (rs := [7]) (by kernel_rfl) (by simp) ?_
    refine AllReadyH.cons (o := { dst := some 22, op := Op.call { callee := Callee.value (Operand.func 11), args := #[Operand.tmp 19, Operand.tmp 20, Operand.tmp 21], argTypes := #[25, 27, 3] }, type := 3, pos := "law.go:24", after := #[{ on := 4, ground := Ground.data }, { on := 5, ground := Ground.data }, { on := 6, ground := Ground.data }, { on := 3, ground := Ground.chain }], guard := none }) rfl (fun K hK => ?_) AllReadyH.nil
    go_simp
    refine (HD1.out _).mono ?_
    rintro e v2 ⟨rfl, hb⟩
    have RAv2 := Lib.hid (Rw.under RA.out hb RA.out.lt)
    have RBv2 := Lib.hid (Rw.under RB.out hb RB.out.lt)
    have BTv2 := Lib.hid (BT.out.trans (hb.mono BT.out.size))
    clear hb RA RB BT
    have RA := RAv2
    have RB := RBv2
    have BT := BTv2
    clear RAv2 RBv2 BTv2
    refine hK.out _ _ ?_ (fun hHeld => ?_)
    · exact ⟨RA.out, RB.out⟩
    clear hK K
    (try simp only [Act.put, List.setIfInBounds_toArray, List.set_cons_zero, List.set_cons_succ])
    refine wpAnyH_take (i := 8) (oi := { dst := some 23, op := Op.binOp BinOp.eql 3 (Operand.tmp 18) (Operand.tmp 22) 3, type := 4, pos := "law.go:24", after := #[{ on := 3, ground := Ground.data }, { on := 7, ground := Ground.data }], guard := none }) (v := ?_) rfl (by kernel_rfl) (by kernel_rfl) (by kernel_rfl) (fun _ _ _ h => h) (Or.inl ⟨by rfl, ?_⟩) hHeld ?_
    rotate_left
    · intro w hSw
      (try dsimp only at hSw)
      first | (go_simp; done) | (go_simp; with_reducible rfl)
    (try simp only [Act.put, List.setIfInBounds_toArray, List.set_cons_zero, List.set_cons_succ])
    refine wpAnyH_take (i := 9) (oi := { dst := some 6, op := Op.assign (Operand.tmp 23), type := 4, pos := "law.go:24", after := #[{ on := 8, ground := Ground.data }, { on := 7, ground := Ground.chain }, { on := 0, ground := Ground.phase }, { on := 1, ground := Ground.phase }, { on := 2, ground := Ground.phase }, { on := 3, ground := Ground.phase }, { on := 4, ground := Ground.phase }, { on := 5, ground := Ground.phase }, { on := 6, ground := Ground.phase }, { on := 7, ground := Ground.phase }, { on := 8, ground := Ground.phase }], guard := none }) (v := ?_) rfl (by kernel_rfl) (by kernel_rfl) (by kernel_rfl) (fun _ _ _ h => h) (Or.inl ⟨by rfl, ?_⟩) hHeld ?_
    rotate_left
    · intro w hSw
      (try dsimp only at hSw)
      first | (go_simp; done) | (go_simp; with_reducible rfl)
    (try simp only [Act.put, List.setIfInBounds_toArray, List.set_cons_zero, List.set_cons_succ])
    refine wpAnyH_done (by kernel_rfl) ?_ _
    clear hHeld
    go_wp2
    go_ret
    exact ⟨rfl, BT.out⟩
end Go.Proofs.Ytakjehioadpldaa.mayChecks
