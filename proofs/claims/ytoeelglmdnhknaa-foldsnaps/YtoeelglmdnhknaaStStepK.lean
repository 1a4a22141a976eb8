/-
  What the document's own Step answers, of the Kind 10.
-/
import Derived.Test.YtoeelglmdnhknaaStStep
import Derived.Deep.RegionHeld3
namespace Go.Proofs.Ytoeelglmdnhknaa
open Go.RowKit

/-- A load of a whole block, as a run. -/
theorem exec_load_row {P : Program} {o : Oper} {a : Act} {w : World} (ty : TypeId) (x : Operand) (ho : o.op = .load ty x)
    (g : Nat) (hx : a.eval x = .pointer (some ⟨g, 0, none⟩)) (t : TypeId) (cs : Array Value) (fr : Nat × Nat) (d : TypeDesc) (hg : w.heap[g]? = some (.cells cs t fr))
    (hu : P.underlying ty = some d) (hd : (match d with | .struct _ | .array _ _ => true | _ => false) = true) (hi : (P.info? ty).map (·.size) = some cs.size) : (execOp a.eval o).run P w = .ok (.value (.agg cs)) w := by
  unfold execOp
  simp only [ho, hx, Instr.loadAt, Instr.sureAddr, Sem.run_bind, Sem.run_pure, Result.andThen_ok, run_loadVar_row w g t ty cs fr d hg hu hd hi]
set_option maxRecDepth 100000 in
set_option maxHeartbeats 8000000 in
theorem mstep_10 (s : St) (r : Rc) (w : World) (hr : rightS s = true) (hk : r.kind = 10) : Calls Try.prog 12 #[stV s, recV r] w (StepR (step10 s) w) := by
  obtain ⟨ph, ac, r0, r1, w0, w1, p0, p1, dl, gn, sw, fl⟩ := s
  obtain ⟨kind, rev, cnt, delay, gen, tick, pass, st⟩ := r
  obtain ⟨hac, hp0, hp7, hg0, hg1, hs0, hs2⟩ := right_in hr
  simp only at hac hp0 hp7 hg0 hg1 hs0 hs2
  have ha0 : 0 ≤ ac := by omega
  have ha1 : ac ≤ 1 := by omega
  have HRT : Hid (∀ W, Calls Try.prog 15 #[stV (⟨ph, ac, r0, r1, w0, w1, p0, p1, dl, gn, sw, fl⟩ : St)] W fun e w' => e = .returned (.bool true) ∧ Below W.heap.size W w') := Lib.hid (fun W => by
    have h1 := mright_any (⟨ph, ac, r0, r1, w0, w1, p0, p1, dl, gn, sw, fl⟩ : St) W
    rw [hr] at h1
    exact h1)
  obtain rfl : kind = 10 := hk
  have HPK : Hid (∀ (n : St) W, (Calls Try.prog 21 #[stV (⟨ph, ac, r0, r1, w0, w1, p0, p1, dl, gn, sw, fl⟩ : St), stV n, .bool true] W fun e w' => e = .returned (.tuple #[stV n, .bool true]) ∧ Below W.heap.size W w') ∧ (Calls Try.prog 21 #[stV (⟨ph, ac, r0, r1, w0, w1, p0, p1, dl, gn, sw, fl⟩ : St), stV n, .bool false] W fun e w' => e = .returned (.tuple #[stV (⟨ph, ac, r0, r1, w0, w1, p0, p1, dl, gn, sw, fl⟩ : St), .bool false]) ∧ Below W.heap.size W w')) := Lib.hid (fun n W => ⟨mpick_any _ n true W, mpick_any _ n false W⟩)
  have HBL : Hid (∀ W, Calls Try.prog 18 #[stV (⟨ph, ac, r0, r1, w0, w1, p0, p1, dl, gn, sw, fl⟩ : St)] W fun e w' => e = .returned (stV (blankS (⟨ph, ac, r0, r1, w0, w1, p0, p1, dl, gn, sw, fl⟩ : St))) ∧ Below W.heap.size W w') := Lib.hid (fun W => mblank_any _ W hac)
  unfold stV at HRT HPK HBL ⊢
  unfold recV
  obtain ⟨cs, hcs⟩ : ∃ c, c = stC (⟨ph, ac, r0, r1, w0, w1, p0, p1, dl, gn, sw, fl⟩ : St) := ⟨_, rfl⟩
  obtain ⟨rs, hrs⟩ : ∃ c, c = recC (⟨10, rev, cnt, delay, gen, tick, pass, st⟩ : Rc) := ⟨_, rfl⟩
  have HZC : Hid (cs.size = 12) := Lib.hid (by rw [hcs]; rfl)
  have H1C : Hid (cs.all (·.oneCell') = true) := Lib.hid (by rw [hcs]; exact stC_one _)
  have HZS : Hid (zeroSC.size = 12) := Lib.hid rfl
  obtain ⟨bs, hbs⟩ : ∃ c, c = stC (blankS (⟨ph, ac, r0, r1, w0, w1, p0, p1, dl, gn, sw, fl⟩ : St)) := ⟨_, rfl⟩
  have HZB : Hid (bs.size = 12) := Lib.hid (by rw [hbs]; rfl)
  have H1B : Hid (bs.all (·.oneCell') = true) := Lib.hid (by rw [hbs]; exact stC_one _)
  have HBS := Lib.hid hbs
  rw [← hcs] at HRT HPK HBL ⊢
  rw [← hbs] at HBL
  clear hbs
  rw [← hrs]
  have HC := Lib.hid hcs
  have HRR := Lib.hid hrs
  clear hcs hrs hr hac
  go_enter Try.func12, Try.ntmps12
  go_upto_region 1 with (fail)
  refine name_w (fun W => Rw W w.heap.size cs 25 ∧ Rw W (w.heap.size + 1) rs 27 ∧ Rw W (w.heap.size + 1 + 1) zeroSC 25 ∧ Below w.heap.size w W) ⟨((Rw.new _ _ _).alloc _).alloc _, Rw.alloc (heap_alloc2_new w _ _) _, ?_, (((Below.refl _ _).alloc (Nat.le_refl _) _).alloc (by simp) _).alloc (by simp; omega) _⟩ ?_
  · have h1 := Rw.new ((w.alloc (.cells cs 25)).alloc (.cells rs 27)) zeroSC 25
    rw [size_alloc, size_alloc] at h1
    exact h1
  rintro u0 ⟨hA, hB, hZ, hb⟩
  have RA0 := Lib.hid hA
  have RB0 := Lib.hid hB
  have RZ0 := Lib.hid hZ
  have BT0 := Lib.hid hb
  clear hA hB hZ hb
  go_wp2_with (refine wpList_load_row rfl 25 (.tmp 2) rfl w.heap.size rfl 25 cs (0, 0) _ RA0.out Try.underlying25 rfl (by rw [HZC.out]; exact i12) ?_)
  refine (HRT.out _).mono ?_
  rintro e u1 ⟨rfl, hb⟩
  have RA1 := Lib.hid (RA0.out.under hb RA0.out.lt)
  have RB1 := Lib.hid (RB0.out.under hb RB0.out.lt)
  have RZ1 := Lib.hid (RZ0.out.under hb RZ0.out.lt)
  have BT1 := Lib.hid (BT0.out.trans (hb.mono BT0.out.size))
  clear hb RA0 RB0 RZ0 BT0 HRT
  go_upto_region 4 with (first | (refine wpList_load_row rfl 25 (.tmp 2) rfl w.heap.size rfl 25 cs (0, 0) _ RA1.out Try.underlying25 rfl (by rw [HZC.out]; exact i12) ?_) | (refine wpList_plain rfl fun _ hK => wp_store_row 25 (.tmp 6) (.tmp 12) rfl u1.heap.size cs rfl rfl 25 _ (Rw.new u1 _ 25) (by rw [HZC.out]; exact i12) (by rw [HZC.out]; rfl) H1C.out (hK _ _ ?_); clear hK))
  refine name_w (fun W => Rw W u1.heap.size cs 25 ∧ Below u1.heap.size u1 W) ⟨(Rw.new u1 zeroSC 25).set cs, below_setRow ((Below.refl _ _).alloc (Nat.le_refl _) _) (Nat.le_refl _) _⟩ ?_
  rintro v0 ⟨hT, hb⟩
  have RT_v0 : Hid (Rw v0 u1.heap.size (stC (⟨ph, ac, r0, r1, w0, w1, p0, p1, dl, gn, sw, fl⟩ : St)) 25) := Lib.hid (by rw [← HC.out]; exact hT)
  have BV_v0 := Lib.hid hb
  clear hT hb
  have HLA : w.heap.size < u1.heap.size := RA1.out.lt
  have HLB : w.heap.size + 1 < u1.heap.size := RB1.out.lt
  have s0 : u1.cell? ⟨w.heap.size, 0, none⟩ = some (.int .i64 ph) := by rw [RA1.out.cell 0, HC.out]; rfl
  have s1 : u1.cell? ⟨w.heap.size, 1, none⟩ = some (.int .i64 ac) := by rw [RA1.out.cell 1, HC.out]; rfl
  have s9 : u1.cell? ⟨w.heap.size, 9, none⟩ = some (.int .i64 gn) := by rw [RA1.out.cell 9, HC.out]; rfl
  have s10 : u1.cell? ⟨w.heap.size, 10, none⟩ = some (.int .i64 sw) := by rw [RA1.out.cell 10, HC.out]; rfl
  have q0 : u1.cell? ⟨w.heap.size + 1, 0, none⟩ = some (.int .i64 10) := by rw [RB1.out.cell 0, HRR.out]; rfl
  have q1 : u1.cell? ⟨w.heap.size + 1, 1, none⟩ = some (.int .i64 rev) := by rw [RB1.out.cell 1, HRR.out]; rfl
  have q2 : u1.cell? ⟨w.heap.size + 1, 2, none⟩ = some (.int .i64 cnt) := by rw [RB1.out.cell 2, HRR.out]; rfl
  have q3 : u1.cell? ⟨w.heap.size + 1, 3, none⟩ = some (.int .i64 delay) := by rw [RB1.out.cell 3, HRR.out]; rfl
  have q4 : u1.cell? ⟨w.heap.size + 1, 4, none⟩ = some (.int .i64 gen) := by rw [RB1.out.cell 4, HRR.out]; rfl
  have q5 : u1.cell? ⟨w.heap.size + 1, 5, none⟩ = some (.int .i64 tick) := by rw [RB1.out.cell 5, HRR.out]; rfl
  have q6 : u1.cell? ⟨w.heap.size + 1, 6, none⟩ = some (.bool pass) := by rw [RB1.out.cell 6, HRR.out]; rfl
  by_cases m1 : ph = 5
  case pos =>
    have s0_v0 := (BV_v0.out.cell (p := ⟨w.heap.size, 0, none⟩) HLA).trans s0
    have s1_v0 := (BV_v0.out.cell (p := ⟨w.heap.size, 1, none⟩) HLA).trans s1
    have s9_v0 := (BV_v0.out.cell (p := ⟨w.heap.size, 9, none⟩) HLA).trans s9
    have s10_v0 := (BV_v0.out.cell (p := ⟨w.heap.size, 10, none⟩) HLA).trans s10
    have q0_v0 := (BV_v0.out.cell (p := ⟨w.heap.size + 1, 0, none⟩) HLB).trans q0
    have q1_v0 := (BV_v0.out.cell (p := ⟨w.heap.size + 1, 1, none⟩) HLB).trans q1
    have q2_v0 := (BV_v0.out.cell (p := ⟨w.heap.size + 1, 2, none⟩) HLB).trans q2
    have q3_v0 := (BV_v0.out.cell (p := ⟨w.heap.size + 1, 3, none⟩) HLB).trans q3
    have q4_v0 := (BV_v0.out.cell (p := ⟨w.heap.size + 1, 4, none⟩) HLB).trans q4
    have q5_v0 := (BV_v0.out.cell (p := ⟨w.heap.size + 1, 5, none⟩) HLB).trans q5
    have q6_v0 := (BV_v0.out.cell (p := ⟨w.heap.size + 1, 6, none⟩) HLB).trans q6
    have RAc := Lib.hid (RA1.out.under BV_v0.out HLA)
    have RZc := Lib.hid (RZ1.out.under BV_v0.out RZ1.out.lt)
    have BTc := Lib.hid (BT1.out.trans (BV_v0.out.mono BT1.out.size))
    have HE : Hid (step10 (⟨ph, ac, r0, r1, w0, w1, p0, p1, dl, gn, sw, fl⟩ : St) = (blankS (⟨ph, ac, r0, r1, w0, w1, p0, p1, dl, gn, sw, fl⟩ : St), true)) := Lib.hid (by unfold step10; exact pick_yes _ _ (Or.inl m1))
    have f1 : (ph == 5) = true := by simpa using m1
    clear m1
    have HPN := Lib.hid (HPK.out (blankS (⟨ph, ac, r0, r1, w0, w1, p0, p1, dl, gn, sw, fl⟩ : St)))
    rw [← HBS.out] at HPN
    go_upto_region 56 with (fail)
    clear s0_v0 s1_v0 s9_v0 s10_v0 q0_v0 q1_v0 q2_v0 q3_v0 q4_v0 q5_v0 q6_v0
    refine wp_region_held_drew (S := fun W => Rw W w.heap.size cs 25) (by kernel_rfl) RAc.out (fun hHeld => ?_)
    refine wpAnyH_take (i := 0) (oi := { dst := some 298, op := Op.load 25 (Operand.tmp 2), type := 25, pos := "ref.go:110", after := #[], guard := none }) (v := .agg cs) rfl (by kernel_rfl) (by kernel_rfl) (by kernel_rfl) (fun _ _ _ h => h) (Or.inl ⟨by rfl, fun W hS => exec_load_row 25 (.tmp 2) rfl w.heap.size rfl 25 cs (0, 0) _ hS Try.underlying25 rfl (by rw [HZC.out]; exact i12)⟩) hHeld ?_
    (try simp only [Act.put, List.setIfInBounds_toArray, List.set_cons_zero, List.set_cons_succ])
    refine wpAnyH_take (i := 1) (oi := { dst := some 299, op := Op.load 25 (Operand.tmp 2), type := 25, pos := "ref.go:110", after := #[], guard := none }) (v := .agg cs) rfl (by kernel_rfl) (by kernel_rfl) (by kernel_rfl) (fun _ _ _ h => h) (Or.inl ⟨by rfl, fun W hS => exec_load_row 25 (.tmp 2) rfl w.heap.size rfl 25 cs (0, 0) _ hS Try.underlying25 rfl (by rw [HZC.out]; exact i12)⟩) hHeld ?_
    (try simp only [Act.put, List.setIfInBounds_toArray, List.set_cons_zero, List.set_cons_succ])
    refine wpAnyH_take (i := 3) (oi := { dst := some 301, op := Op.fieldAddr 25 (Operand.tmp 2) 0, type := 0, pos := "ref.go:110", after := #[], guard := none }) (v := ?_) rfl (by kernel_rfl) (by kernel_rfl) (by kernel_rfl) (fun _ _ _ h => h) (Or.inl ⟨by rfl, ?_⟩) hHeld ?_
    rotate_left
    · intro W hSw
      have c0 : W.cell? ⟨w.heap.size, 0, none⟩ = some (.int .i64 ph) := by rw [Rw.cell hSw 0, HC.out]; rfl
      clear hSw
      first | (go_simp; done) | (go_simp; with_reducible rfl)
    (try simp only [Act.put, List.setIfInBounds_toArray, List.set_cons_zero, List.set_cons_succ])
    refine wpAnyH_take (i := 4) (oi := { dst := some 302, op := Op.load 3 (Operand.tmp 301), type := 3, pos := "ref.go:110", after := #[{ on := 3, ground := Ground.data }], guard := none }) (v := ?_) rfl (by kernel_rfl) (by kernel_rfl) (by kernel_rfl) (fun _ _ _ h => h) (Or.inl ⟨by rfl, ?_⟩) hHeld ?_
    rotate_left
    · intro W hSw
      have c0 : W.cell? ⟨w.heap.size, 0, none⟩ = some (.int .i64 ph) := by rw [Rw.cell hSw 0, HC.out]; rfl
      clear hSw
      first | (go_simp; done) | (go_simp; with_reducible rfl)
    (try simp only [Act.put, List.setIfInBounds_toArray, List.set_cons_zero, List.set_cons_succ])
    refine wpAnyH_take (i := 5) (oi := { dst := some 303, op := Op.binOp BinOp.eql 3 (Operand.tmp 302) (Operand.const (Value.int IntKind.i64 5)) 3, type := 4, pos := "ref.go:110", after := #[{ on := 4, ground := Ground.data }], guard := none }) (v := ?_) rfl (by kernel_rfl) (by kernel_rfl) (by kernel_rfl) (fun _ _ _ h => h) (Or.inl ⟨by rfl, ?_⟩) hHeld ?_
    rotate_left
    · intro W hSw
      have c0 : W.cell? ⟨w.heap.size, 0, none⟩ = some (.int .i64 ph) := by rw [Rw.cell hSw 0, HC.out]; rfl
      clear hSw
      first | (go_simp; done) | (go_simp; with_reducible rfl)
    (try simp only [Act.put, List.setIfInBounds_toArray, List.set_cons_zero, List.set_cons_succ])
    refine wpAnyH_ready (rs := [2]) (by kernel_rfl) (by simp) ?_
    refine AllReadyH.cons (o := { dst := some 300, op := Op.call { callee := Callee.value (Operand.func 18), args := #[Operand.tmp 299], argTypes := #[25] }, type := 25, pos := "ref.go:110", after := #[{ on := 1, ground := Ground.data }], guard := none }) rfl (fun K hK => ?_) AllReadyH.nil
    go_simp
    refine (HBL.out _).mono ?_
    rintro e u8 ⟨rfl, hb⟩
    have RA8 := Lib.hid (Rw.under (W := v0.drew) RAc.out hb RAc.out.lt)
    have RZ8 := Lib.hid (Rw.under (W := v0.drew) RZc.out hb RZc.out.lt)
    have BT8 := Lib.hid ((below_drew BTc.out).trans (hb.mono BTc.out.size))
    clear hb
    refine hK.out _ _ ?_ (fun hHeld => ?_)
    · exact RA8.out
    clear hK K
    (try simp only [Act.put, List.setIfInBounds_toArray, List.set_cons_zero, List.set_cons_succ])
    refine wpAnyH_take (i := 6) (oi := { dst := some 304, op := Op.move (Operand.tmp 303), type := 4, pos := "ref.go:110", after := #[{ on := 5, ground := Ground.data }, { on := 2, ground := Ground.chain }], guard := none }) (v := ?_) rfl (by kernel_rfl) (by kernel_rfl) (by kernel_rfl) (fun _ _ _ h => h) (Or.inl ⟨by rfl, ?_⟩) hHeld ?_
    rotate_left
    · intro W hSw
      have c0 : W.cell? ⟨w.heap.size, 0, none⟩ = some (.int .i64 ph) := by rw [Rw.cell hSw 0, HC.out]; rfl
      clear hSw
      first | (go_simp; done) | (go_simp; with_reducible rfl)
    (try simp only [Act.put, List.setIfInBounds_toArray, List.set_cons_zero, List.set_cons_succ])
    refine wpAnyH_take (i := 7) (oi := { dst := some 305, op := Op.fieldAddr 25 (Operand.tmp 2) 0, type := 0, pos := "ref.go:110", after := #[{ on := 6, ground := Ground.guard }], guard := some (6, false) }) (v := undef) rfl (by kernel_rfl) (by kernel_rfl) (by kernel_rfl) (fun _ _ _ h => h) (Or.inr ⟨by rfl, rfl⟩) hHeld ?_
    (try simp only [Act.put, List.setIfInBounds_toArray, List.set_cons_zero, List.set_cons_succ])
    refine wpAnyH_take (i := 8) (oi := { dst := some 306, op := Op.load 3 (Operand.tmp 305), type := 3, pos := "ref.go:110", after := #[{ on := 7, ground := Ground.data }, { on := 6, ground := Ground.guard }], guard := some (6, false) }) (v := undef) rfl (by kernel_rfl) (by kernel_rfl) (by kernel_rfl) (fun _ _ _ h => h) (Or.inr ⟨by rfl, rfl⟩) hHeld ?_
    (try simp only [Act.put, List.setIfInBounds_toArray, List.set_cons_zero, List.set_cons_succ])
    refine wpAnyH_take (i := 9) (oi := { dst := some 307, op := Op.binOp BinOp.eql 3 (Operand.tmp 306) (Operand.const (Value.int IntKind.i64 7)) 3, type := 4, pos := "ref.go:110", after := #[{ on := 8, ground := Ground.data }, { on := 6, ground := Ground.guard }], guard := some (6, false) }) (v := undef) rfl (by kernel_rfl) (by kernel_rfl) (by kernel_rfl) (fun _ _ _ h => h) (Or.inr ⟨by rfl, rfl⟩) hHeld ?_
    (try simp only [Act.put, List.setIfInBounds_toArray, List.set_cons_zero, List.set_cons_succ])
    refine wpAnyH_take (i := 10) (oi := { dst := some 308, op := Op.pick (Operand.tmp 304) (Operand.const (Value.bool true)) (Operand.tmp 307), type := 4, pos := "ref.go:110", after := #[{ on := 6, ground := Ground.data }, { on := 9, ground := Ground.data }], guard := none }) (v := ?_) rfl (by kernel_rfl) (by kernel_rfl) (by kernel_rfl) (fun _ _ _ h => h) (Or.inl ⟨by rfl, ?_⟩) hHeld ?_
    rotate_left
    · intro W hSw
      have c0 : W.cell? ⟨w.heap.size, 0, none⟩ = some (.int .i64 ph) := by rw [Rw.cell hSw 0, HC.out]; rfl
      clear hSw
      first | (go_simp; done) | (go_simp; with_reducible rfl)
    (try simp only [Act.put, List.setIfInBounds_toArray, List.set_cons_zero, List.set_cons_succ])
    refine wpAnyH_ready (rs := [11]) (by kernel_rfl) (by simp) ?_
    refine AllReadyH.cons (o := { dst := some 309, op := Op.call { callee := Callee.value (Operand.func 21), args := #[Operand.tmp 298, Operand.tmp 300, Operand.tmp 308], argTypes := #[25, 25, 4] }, type := 28, pos := "ref.go:110", after := #[{ on := 0, ground := Ground.data }, { on := 2, ground := Ground.data }, { on := 10, ground := Ground.data }, { on := 6, ground := Ground.chain }], guard := none }) rfl (fun K hK => ?_) AllReadyH.nil
    go_simp
    refine ((HPN.out _).1).mono ?_
    rintro e u9 ⟨rfl, hb⟩
    have RA9 := Lib.hid (RA8.out.under hb RA8.out.lt)
    have RZ9 := Lib.hid (RZ8.out.under hb RZ8.out.lt)
    have BT9 := Lib.hid (BT8.out.trans (hb.mono BT8.out.size))
    clear hb
    refine hK.out _ _ ?_ (fun hHeld => ?_)
    · exact RA9.out
    clear hK K
    (try simp only [Act.put, List.setIfInBounds_toArray, List.set_cons_zero, List.set_cons_succ])
    refine wpAnyH_take (i := 12) (oi := { dst := some 310, op := Op.extract (Operand.tmp 309) 0, type := 25, pos := "ref.go:110", after := #[{ on := 11, ground := Ground.data }], guard := none }) (v := ?_) rfl (by kernel_rfl) (by kernel_rfl) (by kernel_rfl) (fun _ _ _ h => h) (Or.inl ⟨by rfl, ?_⟩) hHeld ?_
    rotate_left
    · intro W hSw
      have c0 : W.cell? ⟨w.heap.size, 0, none⟩ = some (.int .i64 ph) := by rw [Rw.cell hSw 0, HC.out]; rfl
      clear hSw
      first | (go_simp; done) | (go_simp; with_reducible rfl)
    (try simp only [Act.put, List.setIfInBounds_toArray, List.set_cons_zero, List.set_cons_succ])
    refine wpAnyH_take (i := 13) (oi := { dst := some 311, op := Op.extract (Operand.tmp 309) 1, type := 4, pos := "ref.go:110", after := #[{ on := 11, ground := Ground.data }], guard := none }) (v := ?_) rfl (by kernel_rfl) (by kernel_rfl) (by kernel_rfl) (fun _ _ _ h => h) (Or.inl ⟨by rfl, ?_⟩) hHeld ?_
    rotate_left
    · intro W hSw
      have c0 : W.cell? ⟨w.heap.size, 0, none⟩ = some (.int .i64 ph) := by rw [Rw.cell hSw 0, HC.out]; rfl
      clear hSw
      first | (go_simp; done) | (go_simp; with_reducible rfl)
    (try simp only [Act.put, List.setIfInBounds_toArray, List.set_cons_zero, List.set_cons_succ])
    have ZF := Lib.hid (RZ9.out.set bs)
    have BF := Lib.hid (below_setRow BT9.out (by omega) (b := w.heap.size + 1 + 1) bs)
    have RAF : Hid (Rw (u9.setRow (w.heap.size + 1 + 1) bs) w.heap.size cs 25) := Lib.hid ((setRow_block _ _ _ _ (by omega)).trans RA9.out)
    refine wpAnyH_ready (rs := [14]) (by kernel_rfl) (by simp) ?_
    refine AllReadyH.cons (o := { dst := none, op := Op.store 25 (Operand.tmp 4) (Operand.tmp 310), type := 0, pos := "ref.go:110", after := #[{ on := 12, ground := Ground.data }, { on := 11, ground := Ground.chain }, { on := 0, ground := Ground.phase }, { on := 1, ground := Ground.phase }, { on := 2, ground := Ground.phase }, { on := 3, ground := Ground.phase }, { on := 4, ground := Ground.phase }, { on := 5, ground := Ground.phase }, { on := 6, ground := Ground.phase }, { on := 7, ground := Ground.phase }, { on := 8, ground := Ground.phase }, { on := 9, ground := Ground.phase }, { on := 10, ground := Ground.phase }, { on := 11, ground := Ground.phase }, { on := 12, ground := Ground.phase }, { on := 13, ground := Ground.phase }], guard := none }) rfl (fun K hK => ?_) AllReadyH.nil
    rw [if_pos (by rfl)]
    refine wp_store_row 25 (.tmp 4) (.tmp 310) rfl (w.heap.size + 1 + 1) bs rfl rfl 25 _ RZ9.out (by rw [HZB.out]; exact i12) (by rw [HZB.out]; rfl) H1B.out ?_
    refine hK.out _ _ ?_ (fun hHeld => ?_)
    · exact RAF.out
    clear hK K
    (try simp only [Act.put])
    refine wpAnyH_take (i := 15) (oi := { dst := some 5, op := Op.assign (Operand.tmp 311), type := 4, pos := "ref.go:110", after := #[{ on := 13, ground := Ground.data }, { on := 14, ground := Ground.chain }, { on := 0, ground := Ground.phase }, { on := 1, ground := Ground.phase }, { on := 2, ground := Ground.phase }, { on := 3, ground := Ground.phase }, { on := 4, ground := Ground.phase }, { on := 5, ground := Ground.phase }, { on := 6, ground := Ground.phase }, { on := 7, ground := Ground.phase }, { on := 8, ground := Ground.phase }, { on := 9, ground := Ground.phase }, { on := 10, ground := Ground.phase }, { on := 11, ground := Ground.phase }, { on := 12, ground := Ground.phase }, { on := 13, ground := Ground.phase }, { on := 14, ground := Ground.phase }], guard := none }) (v := ?_) rfl (by kernel_rfl) (by kernel_rfl) (by kernel_rfl) (fun _ _ _ h => h) (Or.inl ⟨by rfl, ?_⟩) hHeld ?_
    rotate_left
    · intro W hSw
      have c0 : W.cell? ⟨w.heap.size, 0, none⟩ = some (.int .i64 ph) := by rw [Rw.cell hSw 0, HC.out]; rfl
      clear hSw
      first | (go_simp; done) | (go_simp; with_reducible rfl)
    (try simp only [Act.put, List.setIfInBounds_toArray, List.set_cons_zero, List.set_cons_succ])
    refine wpAnyH_done (by kernel_rfl) ?_ _
    go_wp2
    (try simp only [Exit.inBlock, Exit.then])
    refine bodyPost_ret (results_cell_tmp rfl _ _ (w.heap.size + 1 + 1) 25 bs (0, 0) _ rfl ZF.out Try.underlying25 rfl (by rw [HZB.out]; exact i12)) rfl ?_
    exact ⟨by rw [HE.out, HBS.out]; rfl, BF.out⟩
  by_cases m2 : ph = 7
  case pos =>
    have s0_v0 := (BV_v0.out.cell (p := ⟨w.heap.size, 0, none⟩) HLA).trans s0
    have s1_v0 := (BV_v0.out.cell (p := ⟨w.heap.size, 1, none⟩) HLA).trans s1
    have s9_v0 := (BV_v0.out.cell (p := ⟨w.heap.size, 9, none⟩) HLA).trans s9
    have s10_v0 := (BV_v0.out.cell (p := ⟨w.heap.size, 10, none⟩) HLA).trans s10
    have q0_v0 := (BV_v0.out.cell (p := ⟨w.heap.size + 1, 0, none⟩) HLB).trans q0
    have q1_v0 := (BV_v0.out.cell (p := ⟨w.heap.size + 1, 1, none⟩) HLB).trans q1
    have q2_v0 := (BV_v0.out.cell (p := ⟨w.heap.size + 1, 2, none⟩) HLB).trans q2
    have q3_v0 := (BV_v0.out.cell (p := ⟨w.heap.size + 1, 3, none⟩) HLB).trans q3
    have q4_v0 := (BV_v0.out.cell (p := ⟨w.heap.size + 1, 4, none⟩) HLB).trans q4
    have q5_v0 := (BV_v0.out.cell (p := ⟨w.heap.size + 1, 5, none⟩) HLB).trans q5
    have q6_v0 := (BV_v0.out.cell (p := ⟨w.heap.size + 1, 6, none⟩) HLB).trans q6
    have RAc := Lib.hid (RA1.out.under BV_v0.out HLA)
    have RZc := Lib.hid (RZ1.out.under BV_v0.out RZ1.out.lt)
    have BTc := Lib.hid (BT1.out.trans (BV_v0.out.mono BT1.out.size))
    have HE : Hid (step10 (⟨ph, ac, r0, r1, w0, w1, p0, p1, dl, gn, sw, fl⟩ : St) = (blankS (⟨ph, ac, r0, r1, w0, w1, p0, p1, dl, gn, sw, fl⟩ : St), true)) := Lib.hid (by unfold step10; exact pick_yes _ _ (Or.inr m2))
    have f1 : (ph == 5) = false := by simpa using m1
    have f2 : (ph == 7) = true := by simpa using m2
    clear m1 m2
    have HPN := Lib.hid (HPK.out (blankS (⟨ph, ac, r0, r1, w0, w1, p0, p1, dl, gn, sw, fl⟩ : St)))
    rw [← HBS.out] at HPN
    go_upto_region 56 with (fail)
    clear s0_v0 s1_v0 s9_v0 s10_v0 q0_v0 q1_v0 q2_v0 q3_v0 q4_v0 q5_v0 q6_v0
    refine wp_region_held_drew (S := fun W => Rw W w.heap.size cs 25) (by kernel_rfl) RAc.out (fun hHeld => ?_)
    refine wpAnyH_take (i := 0) (oi := { dst := some 298, op := Op.load 25 (Operand.tmp 2), type := 25, pos := "ref.go:110", after := #[], guard := none }) (v := .agg cs) rfl (by kernel_rfl) (by kernel_rfl) (by kernel_rfl) (fun _ _ _ h => h) (Or.inl ⟨by rfl, fun W hS => exec_load_row 25 (.tmp 2) rfl w.heap.size rfl 25 cs (0, 0) _ hS Try.underlying25 rfl (by rw [HZC.out]; exact i12)⟩) hHeld ?_
    (try simp only [Act.put, List.setIfInBounds_toArray, List.set_cons_zero, List.set_cons_succ])
    refine wpAnyH_take (i := 1) (oi := { dst := some 299, op := Op.load 25 (Operand.tmp 2), type := 25, pos := "ref.go:110", after := #[], guard := none }) (v := .agg cs) rfl (by kernel_rfl) (by kernel_rfl) (by kernel_rfl) (fun _ _ _ h => h) (Or.inl ⟨by rfl, fun W hS => exec_load_row 25 (.tmp 2) rfl w.heap.size rfl 25 cs (0, 0) _ hS Try.underlying25 rfl (by rw [HZC.out]; exact i12)⟩) hHeld ?_
    (try simp only [Act.put, List.setIfInBounds_toArray, List.set_cons_zero, List.set_cons_succ])
    refine wpAnyH_take (i := 3) (oi := { dst := some 301, op := Op.fieldAddr 25 (Operand.tmp 2) 0, type := 0, pos := "ref.go:110", after := #[], guard := none }) (v := ?_) rfl (by kernel_rfl) (by kernel_rfl) (by kernel_rfl) (fun _ _ _ h => h) (Or.inl ⟨by rfl, ?_⟩) hHeld ?_
    rotate_left
    · intro W hSw
      have c0 : W.cell? ⟨w.heap.size, 0, none⟩ = some (.int .i64 ph) := by rw [Rw.cell hSw 0, HC.out]; rfl
      clear hSw
      first | (go_simp; done) | (go_simp; with_reducible rfl)
    (try simp only [Act.put, List.setIfInBounds_toArray, List.set_cons_zero, List.set_cons_succ])
    refine wpAnyH_take (i := 4) (oi := { dst := some 302, op := Op.load 3 (Operand.tmp 301), type := 3, pos := "ref.go:110", after := #[{ on := 3, ground := Ground.data }], guard := none }) (v := ?_) rfl (by kernel_rfl) (by kernel_rfl) (by kernel_rfl) (fun _ _ _ h => h) (Or.inl ⟨by rfl, ?_⟩) hHeld ?_
    rotate_left
    · intro W hSw
      have c0 : W.cell? ⟨w.heap.size, 0, none⟩ = some (.int .i64 ph) := by rw [Rw.cell hSw 0, HC.out]; rfl
      clear hSw
      first | (go_simp; done) | (go_simp; with_reducible rfl)
    (try simp only [Act.put, List.setIfInBounds_toArray, List.set_cons_zero, List.set_cons_succ])
    refine wpAnyH_take (i := 5) (oi := { dst := some 303, op := Op.binOp BinOp.eql 3 (Operand.tmp 302) (Operand.const (Value.int IntKind.i64 5)) 3, type := 4, pos := "ref.go:110", after := #[{ on := 4, ground := Ground.data }], guard := none }) (v := ?_) rfl (by kernel_rfl) (by kernel_rfl) (by kernel_rfl) (fun _ _ _ h => h) (Or.inl ⟨by rfl, ?_⟩) hHeld ?_
    rotate_left
    · intro W hSw
      have c0 : W.cell? ⟨w.heap.size, 0, none⟩ = some (.int .i64 ph) := by rw [Rw.cell hSw 0, HC.out]; rfl
      clear hSw
      first | (go_simp; done) | (go_simp; with_reducible rfl)
    (try simp only [Act.put, List.setIfInBounds_toArray, List.set_cons_zero, List.set_cons_succ])
    refine wpAnyH_ready (rs := [2]) (by kernel_rfl) (by simp) ?_
    refine AllReadyH.cons (o := { dst := some 300, op := Op.call { callee := Callee.value (Operand.func 18), args := #[Operand.tmp 299], argTypes := #[25] }, type := 25, pos := "ref.go:110", after := #[{ on := 1, ground := Ground.data }], guard := none }) rfl (fun K hK => ?_) AllReadyH.nil
    go_simp
    refine (HBL.out _).mono ?_
    rintro e u8 ⟨rfl, hb⟩
    have RA8 := Lib.hid (Rw.under (W := v0.drew) RAc.out hb RAc.out.lt)
    have RZ8 := Lib.hid (Rw.under (W := v0.drew) RZc.out hb RZc.out.lt)
    have BT8 := Lib.hid ((below_drew BTc.out).trans (hb.mono BTc.out.size))
    clear hb
    refine hK.out _ _ ?_ (fun hHeld => ?_)
    · exact RA8.out
    clear hK K
    (try simp only [Act.put, List.setIfInBounds_toArray, List.set_cons_zero, List.set_cons_succ])
    refine wpAnyH_take (i := 6) (oi := { dst := some 304, op := Op.move (Operand.tmp 303), type := 4, pos := "ref.go:110", after := #[{ on := 5, ground := Ground.data }, { on := 2, ground := Ground.chain }], guard := none }) (v := ?_) rfl (by kernel_rfl) (by kernel_rfl) (by kernel_rfl) (fun _ _ _ h => h) (Or.inl ⟨by rfl, ?_⟩) hHeld ?_
    rotate_left
    · intro W hSw
      have c0 : W.cell? ⟨w.heap.size, 0, none⟩ = some (.int .i64 ph) := by rw [Rw.cell hSw 0, HC.out]; rfl
      clear hSw
      first | (go_simp; done) | (go_simp; with_reducible rfl)
    (try simp only [Act.put, List.setIfInBounds_toArray, List.set_cons_zero, List.set_cons_succ])
    refine wpAnyH_take (i := 7) (oi := { dst := some 305, op := Op.fieldAddr 25 (Operand.tmp 2) 0, type := 0, pos := "ref.go:110", after := #[{ on := 6, ground := Ground.guard }], guard := some (6, false) }) (v := ?_) rfl (by kernel_rfl) (by kernel_rfl) (by kernel_rfl) (fun _ _ _ h => h) (Or.inl ⟨by rfl, ?_⟩) hHeld ?_
    rotate_left
    · intro W hSw
      have c0 : W.cell? ⟨w.heap.size, 0, none⟩ = some (.int .i64 ph) := by rw [Rw.cell hSw 0, HC.out]; rfl
      clear hSw
      first | (go_simp; done) | (go_simp; with_reducible rfl)
    (try simp only [Act.put, List.setIfInBounds_toArray, List.set_cons_zero, List.set_cons_succ])
    refine wpAnyH_take (i := 8) (oi := { dst := some 306, op := Op.load 3 (Operand.tmp 305), type := 3, pos := "ref.go:110", after := #[{ on := 7, ground := Ground.data }, { on := 6, ground := Ground.guard }], guard := some (6, false) }) (v := ?_) rfl (by kernel_rfl) (by kernel_rfl) (by kernel_rfl) (fun _ _ _ h => h) (Or.inl ⟨by rfl, ?_⟩) hHeld ?_
    rotate_left
    · intro W hSw
      have c0 : W.cell? ⟨w.heap.size, 0, none⟩ = some (.int .i64 ph) := by rw [Rw.cell hSw 0, HC.out]; rfl
      clear hSw
      first | (go_simp; done) | (go_simp; with_reducible rfl)
    (try simp only [Act.put, List.setIfInBounds_toArray, List.set_cons_zero, List.set_cons_succ])
    refine wpAnyH_take (i := 9) (oi := { dst := some 307, op := Op.binOp BinOp.eql 3 (Operand.tmp 306) (Operand.const (Value.int IntKind.i64 7)) 3, type := 4, pos := "ref.go:110", after := #[{ on := 8, ground := Ground.data }, { on := 6, ground := Ground.guard }], guard := some (6, false) }) (v := ?_) rfl (by kernel_rfl) (by kernel_rfl) (by kernel_rfl) (fun _ _ _ h => h) (Or.inl ⟨by rfl, ?_⟩) hHeld ?_
    rotate_left
    · intro W hSw
      have c0 : W.cell? ⟨w.heap.size, 0, none⟩ = some (.int .i64 ph) := by rw [Rw.cell hSw 0, HC.out]; rfl
      clear hSw
      first | (go_simp; done) | (go_simp; with_reducible rfl)
    (try simp only [Act.put, List.setIfInBounds_toArray, List.set_cons_zero, List.set_cons_succ])
    refine wpAnyH_take (i := 10) (oi := { dst := some 308, op := Op.pick (Operand.tmp 304) (Operand.const (Value.bool true)) (Operand.tmp 307), type := 4, pos := "ref.go:110", after := #[{ on := 6, ground := Ground.data }, { on := 9, ground := Ground.data }], guard := none }) (v := ?_) rfl (by kernel_rfl) (by kernel_rfl) (by kernel_rfl) (fun _ _ _ h => h) (Or.inl ⟨by rfl, ?_⟩) hHeld ?_
    rotate_left
    · intro W hSw
      have c0 : W.cell? ⟨w.heap.size, 0, none⟩ = some (.int .i64 ph) := by rw [Rw.cell hSw 0, HC.out]; rfl
      clear hSw
      first | (go_simp; done) | (go_simp; with_reducible rfl)
    (try simp only [Act.put, List.setIfInBounds_toArray, List.set_cons_zero, List.set_cons_succ])
    refine wpAnyH_ready (rs := [11]) (by kernel_rfl) (by simp) ?_
    refine AllReadyH.cons (o := { dst := some 309, op := Op.call { callee := Callee.value (Operand.func 21), args := #[Operand.tmp 298, Operand.tmp 300, Operand.tmp 308], argTypes := #[25, 25, 4] }, type := 28, pos := "ref.go:110", after := #[{ on := 0, ground := Ground.data }, { on := 2, ground := Ground.data }, { on := 10, ground := Ground.data }, { on := 6, ground := Ground.chain }], guard := none }) rfl (fun K hK => ?_) AllReadyH.nil
    go_simp
    refine ((HPN.out _).1).mono ?_
    rintro e u9 ⟨rfl, hb⟩
    have RA9 := Lib.hid (RA8.out.under hb RA8.out.lt)
    have RZ9 := Lib.hid (RZ8.out.under hb RZ8.out.lt)
    have BT9 := Lib.hid (BT8.out.trans (hb.mono BT8.out.size))
    clear hb
    refine hK.out _ _ ?_ (fun hHeld => ?_)
    · exact RA9.out
    clear hK K
    (try simp only [Act.put, List.setIfInBounds_toArray, List.set_cons_zero, List.set_cons_succ])
    refine wpAnyH_take (i := 12) (oi := { dst := some 310, op := Op.extract (Operand.tmp 309) 0, type := 25, pos := "ref.go:110", after := #[{ on := 11, ground := Ground.data }], guard := none }) (v := ?_) rfl (by kernel_rfl) (by kernel_rfl) (by kernel_rfl) (fun _ _ _ h => h) (Or.inl ⟨by rfl, ?_⟩) hHeld ?_
    rotate_left
    · intro W hSw
      have c0 : W.cell? ⟨w.heap.size, 0, none⟩ = some (.int .i64 ph) := by rw [Rw.cell hSw 0, HC.out]; rfl
      clear hSw
      first | (go_simp; done) | (go_simp; with_reducible rfl)
    (try simp only [Act.put, List.setIfInBounds_toArray, List.set_cons_zero, List.set_cons_succ])
    refine wpAnyH_take (i := 13) (oi := { dst := some 311, op := Op.extract (Operand.tmp 309) 1, type := 4, pos := "ref.go:110", after := #[{ on := 11, ground := Ground.data }], guard := none }) (v := ?_) rfl (by kernel_rfl) (by kernel_rfl) (by kernel_rfl) (fun _ _ _ h => h) (Or.inl ⟨by rfl, ?_⟩) hHeld ?_
    rotate_left
    · intro W hSw
      have c0 : W.cell? ⟨w.heap.size, 0, none⟩ = some (.int .i64 ph) := by rw [Rw.cell hSw 0, HC.out]; rfl
      clear hSw
      first | (go_simp; done) | (go_simp; with_reducible rfl)
    (try simp only [Act.put, List.setIfInBounds_toArray, List.set_cons_zero, List.set_cons_succ])
    have ZF := Lib.hid (RZ9.out.set bs)
    have BF := Lib.hid (below_setRow BT9.out (by omega) (b := w.heap.size + 1 + 1) bs)
    have RAF : Hid (Rw (u9.setRow (w.heap.size + 1 + 1) bs) w.heap.size cs 25) := Lib.hid ((setRow_block _ _ _ _ (by omega)).trans RA9.out)
    refine wpAnyH_ready (rs := [14]) (by kernel_rfl) (by simp) ?_
    refine AllReadyH.cons (o := { dst := none, op := Op.store 25 (Operand.tmp 4) (Operand.tmp 310), type := 0, pos := "ref.go:110", after := #[{ on := 12, ground := Ground.data }, { on := 11, ground := Ground.chain }, { on := 0, ground := Ground.phase }, { on := 1, ground := Ground.phase }, { on := 2, ground := Ground.phase }, { on := 3, ground := Ground.phase }, { on := 4, ground := Ground.phase }, { on := 5, ground := Ground.phase }, { on := 6, ground := Ground.phase }, { on := 7, ground := Ground.phase }, { on := 8, ground := Ground.phase }, { on := 9, ground := Ground.phase }, { on := 10, ground := Ground.phase }, { on := 11, ground := Ground.phase }, { on := 12, ground := Ground.phase }, { on := 13, ground := Ground.phase }], guard := none }) rfl (fun K hK => ?_) AllReadyH.nil
    rw [if_pos (by rfl)]
    refine wp_store_row 25 (.tmp 4) (.tmp 310) rfl (w.heap.size + 1 + 1) bs rfl rfl 25 _ RZ9.out (by rw [HZB.out]; exact i12) (by rw [HZB.out]; rfl) H1B.out ?_
    refine hK.out _ _ ?_ (fun hHeld => ?_)
    · exact RAF.out
    clear hK K
    (try simp only [Act.put])
    refine wpAnyH_take (i := 15) (oi := { dst := some 5, op := Op.assign (Operand.tmp 311), type := 4, pos := "ref.go:110", after := #[{ on := 13, ground := Ground.data }, { on := 14, ground := Ground.chain }, { on := 0, ground := Ground.phase }, { on := 1, ground := Ground.phase }, { on := 2, ground := Ground.phase }, { on := 3, ground := Ground.phase }, { on := 4, ground := Ground.phase }, { on := 5, ground := Ground.phase }, { on := 6, ground := Ground.phase }, { on := 7, ground := Ground.phase }, { on := 8, ground := Ground.phase }, { on := 9, ground := Ground.phase }, { on := 10, ground := Ground.phase }, { on := 11, ground := Ground.phase }, { on := 12, ground := Ground.phase }, { on := 13, ground := Ground.phase }, { on := 14, ground := Ground.phase }], guard := none }) (v := ?_) rfl (by kernel_rfl) (by kernel_rfl) (by kernel_rfl) (fun _ _ _ h => h) (Or.inl ⟨by rfl, ?_⟩) hHeld ?_
    rotate_left
    · intro W hSw
      have c0 : W.cell? ⟨w.heap.size, 0, none⟩ = some (.int .i64 ph) := by rw [Rw.cell hSw 0, HC.out]; rfl
      clear hSw
      first | (go_simp; done) | (go_simp; with_reducible rfl)
    (try simp only [Act.put, List.setIfInBounds_toArray, List.set_cons_zero, List.set_cons_succ])
    refine wpAnyH_done (by kernel_rfl) ?_ _
    go_wp2
    (try simp only [Exit.inBlock, Exit.then])
    refine bodyPost_ret (results_cell_tmp rfl _ _ (w.heap.size + 1 + 1) 25 bs (0, 0) _ rfl ZF.out Try.underlying25 rfl (by rw [HZB.out]; exact i12)) rfl ?_
    exact ⟨by rw [HE.out, HBS.out]; rfl, BF.out⟩
  have s0_v0 := (BV_v0.out.cell (p := ⟨w.heap.size, 0, none⟩) HLA).trans s0
  have s1_v0 := (BV_v0.out.cell (p := ⟨w.heap.size, 1, none⟩) HLA).trans s1
  have s9_v0 := (BV_v0.out.cell (p := ⟨w.heap.size, 9, none⟩) HLA).trans s9
  have s10_v0 := (BV_v0.out.cell (p := ⟨w.heap.size, 10, none⟩) HLA).trans s10
  have q0_v0 := (BV_v0.out.cell (p := ⟨w.heap.size + 1, 0, none⟩) HLB).trans q0
  have q1_v0 := (BV_v0.out.cell (p := ⟨w.heap.size + 1, 1, none⟩) HLB).trans q1
  have q2_v0 := (BV_v0.out.cell (p := ⟨w.heap.size + 1, 2, none⟩) HLB).trans q2
  have q3_v0 := (BV_v0.out.cell (p := ⟨w.heap.size + 1, 3, none⟩) HLB).trans q3
  have q4_v0 := (BV_v0.out.cell (p := ⟨w.heap.size + 1, 4, none⟩) HLB).trans q4
  have q5_v0 := (BV_v0.out.cell (p := ⟨w.heap.size + 1, 5, none⟩) HLB).trans q5
  have q6_v0 := (BV_v0.out.cell (p := ⟨w.heap.size + 1, 6, none⟩) HLB).trans q6
  have RAc := Lib.hid (RA1.out.under BV_v0.out HLA)
  have RZc := Lib.hid (RZ1.out.under BV_v0.out RZ1.out.lt)
  have BTc := Lib.hid (BT1.out.trans (BV_v0.out.mono BT1.out.size))
  have HE : Hid (step10 (⟨ph, ac, r0, r1, w0, w1, p0, p1, dl, gn, sw, fl⟩ : St) = ((⟨ph, ac, r0, r1, w0, w1, p0, p1, dl, gn, sw, fl⟩ : St), false)) := Lib.hid (by unfold step10; exact pick_no _ _ (fun h => h.elim m1 m2))
  have f1 : (ph == 5) = false := by simpa using m1
  have f2 : (ph == 7) = false := by simpa using m2
  clear m1 m2
  have HPN := Lib.hid (HPK.out (blankS (⟨ph, ac, r0, r1, w0, w1, p0, p1, dl, gn, sw, fl⟩ : St)))
  rw [← HBS.out] at HPN
  go_upto_region 56 with (fail)
  clear s0_v0 s1_v0 s9_v0 s10_v0 q0_v0 q1_v0 q2_v0 q3_v0 q4_v0 q5_v0 q6_v0
  refine wp_region_held_drew (S := fun W => Rw W w.heap.size cs 25) (by kernel_rfl) RAc.out (fun hHeld => ?_)
  refine wpAnyH_take (i := 0) (oi := { dst := some 298, op := Op.load 25 (Operand.tmp 2), type := 25, pos := "ref.go:110", after := #[], guard := none }) (v := .agg cs) rfl (by kernel_rfl) (by kernel_rfl) (by kernel_rfl) (fun _ _ _ h => h) (Or.inl ⟨by rfl, fun W hS => exec_load_row 25 (.tmp 2) rfl w.heap.size rfl 25 cs (0, 0) _ hS Try.underlying25 rfl (by rw [HZC.out]; exact i12)⟩) hHeld ?_
  (try simp only [Act.put, List.setIfInBounds_toArray, List.set_cons_zero, List.set_cons_succ])
  refine wpAnyH_take (i := 1) (oi := { dst := some 299, op := Op.load 25 (Operand.tmp 2), type := 25, pos := "ref.go:110", after := #[], guard := none }) (v := .agg cs) rfl (by kernel_rfl) (by kernel_rfl) (by kernel_rfl) (fun _ _ _ h => h) (Or.inl ⟨by rfl, fun W hS => exec_load_row 25 (.tmp 2) rfl w.heap.size rfl 25 cs (0, 0) _ hS Try.underlying25 rfl (by rw [HZC.out]; exact i12)⟩) hHeld ?_
  (try simp only [Act.put, List.setIfInBounds_toArray, List.set_cons_zero, List.set_cons_succ])
  refine wpAnyH_take (i := 3) (oi := { dst := some 301, op := Op.fieldAddr 25 (Operand.tmp 2) 0, type := 0, pos := "ref.go:110", after := #[], guard := none }) (v := ?_) rfl (by kernel_rfl) (by kernel_rfl) (by kernel_rfl) (fun _ _ _ h => h) (Or.inl ⟨by rfl, ?_⟩) hHeld ?_
  rotate_left
  · intro W hSw
    have c0 : W.cell? ⟨w.heap.size, 0, none⟩ = some (.int .i64 ph) := by rw [Rw.cell hSw 0, HC.out]; rfl
    clear hSw
    first | (go_simp; done) | (go_simp; with_reducible rfl)
  (try simp only [Act.put, List.setIfInBounds_toArray, List.set_cons_zero, List.set_cons_succ])
  refine wpAnyH_take (i := 4) (oi := { dst := some 302, op := Op.load 3 (Operand.tmp 301), type := 3, pos := "ref.go:110", after := #[{ on := 3, ground := Ground.data }], guard := none }) (v := ?_) rfl (by kernel_rfl) (by kernel_rfl) (by kernel_rfl) (fun _ _ _ h => h) (Or.inl ⟨by rfl, ?_⟩) hHeld ?_
  rotate_left
  · intro W hSw
    have c0 : W.cell? ⟨w.heap.size, 0, none⟩ = some (.int .i64 ph) := by rw [Rw.cell hSw 0, HC.out]; rfl
    clear hSw
    first | (go_simp; done) | (go_simp; with_reducible rfl)
  (try simp only [Act.put, List.setIfInBounds_toArray, List.set_cons_zero, List.set_cons_succ])
  refine wpAnyH_take (i := 5) (oi := { dst := some 303, op := Op.binOp BinOp.eql 3 (Operand.tmp 302) (Operand.const (Value.int IntKind.i64 5)) 3, type := 4, pos := "ref.go:110", after := #[{ on := 4, ground := Ground.data }], guard := none }) (v := ?_) rfl (by kernel_rfl) (by kernel_rfl) (by kernel_rfl) (fun _ _ _ h => h) (Or.inl ⟨by rfl, ?_⟩) hHeld ?_
  rotate_left
  · intro W hSw
    have c0 : W.cell? ⟨w.heap.size, 0, none⟩ = some (.int .i64 ph) := by rw [Rw.cell hSw 0, HC.out]; rfl
    clear hSw
    first | (go_simp; done) | (go_simp; with_reducible rfl)
  (try simp only [Act.put, List.setIfInBounds_toArray, List.set_cons_zero, List.set_cons_succ])
  refine wpAnyH_ready (rs := [2]) (by kernel_rfl) (by simp) ?_
  refine AllReadyH.cons (o := { dst := some 300, op := Op.call { callee := Callee.value (Operand.func 18), args := #[Operand.tmp 299], argTypes := #[25] }, type := 25, pos := "ref.go:110", after := #[{ on := 1, ground := Ground.data }], guard := none }) rfl (fun K hK => ?_) AllReadyH.nil
  go_simp
  refine (HBL.out _).mono ?_
  rintro e u8 ⟨rfl, hb⟩
  have RA8 := Lib.hid (Rw.under (W := v0.drew) RAc.out hb RAc.out.lt)
  have RZ8 := Lib.hid (Rw.under (W := v0.drew) RZc.out hb RZc.out.lt)
  have BT8 := Lib.hid ((below_drew BTc.out).trans (hb.mono BTc.out.size))
  clear hb
  refine hK.out _ _ ?_ (fun hHeld => ?_)
  · exact RA8.out
  clear hK K
  (try simp only [Act.put, List.setIfInBounds_toArray, List.set_cons_zero, List.set_cons_succ])
  refine wpAnyH_take (i := 6) (oi := { dst := some 304, op := Op.move (Operand.tmp 303), type := 4, pos := "ref.go:110", after := #[{ on := 5, ground := Ground.data }, { on := 2, ground := Ground.chain }], guard := none }) (v := ?_) rfl (by kernel_rfl) (by kernel_rfl) (by kernel_rfl) (fun _ _ _ h => h) (Or.inl ⟨by rfl, ?_⟩) hHeld ?_
  rotate_left
  · intro W hSw
    have c0 : W.cell? ⟨w.heap.size, 0, none⟩ = some (.int .i64 ph) := by rw [Rw.cell hSw 0, HC.out]; rfl
    clear hSw
    first | (go_simp; done) | (go_simp; with_reducible rfl)
  (try simp only [Act.put, List.setIfInBounds_toArray, List.set_cons_zero, List.set_cons_succ])
  refine wpAnyH_take (i := 7) (oi := { dst := some 305, op := Op.fieldAddr 25 (Operand.tmp 2) 0, type := 0, pos := "ref.go:110", after := #[{ on := 6, ground := Ground.guard }], guard := some (6, false) }) (v := ?_) rfl (by kernel_rfl) (by kernel_rfl) (by kernel_rfl) (fun _ _ _ h => h) (Or.inl ⟨by rfl, ?_⟩) hHeld ?_
  rotate_left
  · intro W hSw
    have c0 : W.cell? ⟨w.heap.size, 0, none⟩ = some (.int .i64 ph) := by rw [Rw.cell hSw 0, HC.out]; rfl
    clear hSw
    first | (go_simp; done) | (go_simp; with_reducible rfl)
  (try simp only [Act.put, List.setIfInBounds_toArray, List.set_cons_zero, List.set_cons_succ])
  refine wpAnyH_take (i := 8) (oi := { dst := some 306, op := Op.load 3 (Operand.tmp 305), type := 3, pos := "ref.go:110", after := #[{ on := 7, ground := Ground.data }, { on := 6, ground := Ground.guard }], guard := some (6, false) }) (v := ?_) rfl (by kernel_rfl) (by kernel_rfl) (by kernel_rfl) (fun _ _ _ h => h) (Or.inl ⟨by rfl, ?_⟩) hHeld ?_
  rotate_left
  · intro W hSw
    have c0 : W.cell? ⟨w.heap.size, 0, none⟩ = some (.int .i64 ph) := by rw [Rw.cell hSw 0, HC.out]; rfl
    clear hSw
    first | (go_simp; done) | (go_simp; with_reducible rfl)
  (try simp only [Act.put, List.setIfInBounds_toArray, List.set_cons_zero, List.set_cons_succ])
  refine wpAnyH_take (i := 9) (oi := { dst := some 307, op := Op.binOp BinOp.eql 3 (Operand.tmp 306) (Operand.const (Value.int IntKind.i64 7)) 3, type := 4, pos := "ref.go:110", after := #[{ on := 8, ground := Ground.data }, { on := 6, ground := Ground.guard }], guard := some (6, false) }) (v := ?_) rfl (by kernel_rfl) (by kernel_rfl) (by kernel_rfl) (fun _ _ _ h => h) (Or.inl ⟨by rfl, ?_⟩) hHeld ?_
  rotate_left
  · intro W hSw
    have c0 : W.cell? ⟨w.heap.size, 0, none⟩ = some (.int .i64 ph) := by rw [Rw.cell hSw 0, HC.out]; rfl
    clear hSw
    first | (go_simp; done) | (go_simp; with_reducible rfl)
  (try simp only [Act.put, List.setIfInBounds_toArray, List.set_cons_zero, List.set_cons_succ])
  refine wpAnyH_take (i := 10) (oi := { dst := some 308, op := Op.pick (Operand.tmp 304) (Operand.const (Value.bool true)) (Operand.tmp 307), type := 4, pos := "ref.go:110", after := #[{ on := 6, ground := Ground.data }, { on := 9, ground := Ground.data }], guard := none }) (v := ?_) rfl (by kernel_rfl) (by kernel_rfl) (by kernel_rfl) (fun _ _ _ h => h) (Or.inl ⟨by rfl, ?_⟩) hHeld ?_
  rotate_left
  · intro W hSw
    have c0 : W.cell? ⟨w.heap.size, 0, none⟩ = some (.int .i64 ph) := by rw [Rw.cell hSw 0, HC.out]; rfl
    clear hSw
    first | (go_simp; done) | (go_simp; with_reducible rfl)
  (try simp only [Act.put, List.setIfInBounds_toArray, List.set_cons_zero, List.set_cons_succ])
  refine wpAnyH_ready (rs := [11]) (by kernel_rfl) (by simp) ?_
  refine AllReadyH.cons (o := { dst := some 309, op := Op.call { callee := Callee.value (Operand.func 21), args := #[Operand.tmp 298, Operand.tmp 300, Operand.tmp 308], argTypes := #[25, 25, 4] }, type := 28, pos := "ref.go:110", after := #[{ on := 0, ground := Ground.data }, { on := 2, ground := Ground.data }, { on := 10, ground := Ground.data }, { on := 6, ground := Ground.chain }], guard := none }) rfl (fun K hK => ?_) AllReadyH.nil
  go_simp
  refine ((HPN.out _).2).mono ?_
  rintro e u9 ⟨rfl, hb⟩
  have RA9 := Lib.hid (RA8.out.under hb RA8.out.lt)
  have RZ9 := Lib.hid (RZ8.out.under hb RZ8.out.lt)
  have BT9 := Lib.hid (BT8.out.trans (hb.mono BT8.out.size))
  clear hb
  refine hK.out _ _ ?_ (fun hHeld => ?_)
  · exact RA9.out
  clear hK K
  (try simp only [Act.put, List.setIfInBounds_toArray, List.set_cons_zero, List.set_cons_succ])
  refine wpAnyH_take (i := 12) (oi := { dst := some 310, op := Op.extract (Operand.tmp 309) 0, type := 25, pos := "ref.go:110", after := #[{ on := 11, ground := Ground.data }], guard := none }) (v := ?_) rfl (by kernel_rfl) (by kernel_rfl) (by kernel_rfl) (fun _ _ _ h => h) (Or.inl ⟨by rfl, ?_⟩) hHeld ?_
  rotate_left
  · intro W hSw
    have c0 : W.cell? ⟨w.heap.size, 0, none⟩ = some (.int .i64 ph) := by rw [Rw.cell hSw 0, HC.out]; rfl
    clear hSw
    first | (go_simp; done) | (go_simp; with_reducible rfl)
  (try simp only [Act.put, List.setIfInBounds_toArray, List.set_cons_zero, List.set_cons_succ])
  refine wpAnyH_take (i := 13) (oi := { dst := some 311, op := Op.extract (Operand.tmp 309) 1, type := 4, pos := "ref.go:110", after := #[{ on := 11, ground := Ground.data }], guard := none }) (v := ?_) rfl (by kernel_rfl) (by kernel_rfl) (by kernel_rfl) (fun _ _ _ h => h) (Or.inl ⟨by rfl, ?_⟩) hHeld ?_
  rotate_left
  · intro W hSw
    have c0 : W.cell? ⟨w.heap.size, 0, none⟩ = some (.int .i64 ph) := by rw [Rw.cell hSw 0, HC.out]; rfl
    clear hSw
    first | (go_simp; done) | (go_simp; with_reducible rfl)
  (try simp only [Act.put, List.setIfInBounds_toArray, List.set_cons_zero, List.set_cons_succ])
  have ZF := Lib.hid (RZ9.out.set cs)
  have BF := Lib.hid (below_setRow BT9.out (by omega) (b := w.heap.size + 1 + 1) cs)
  have RAF : Hid (Rw (u9.setRow (w.heap.size + 1 + 1) cs) w.heap.size cs 25) := Lib.hid ((setRow_block _ _ _ _ (by omega)).trans RA9.out)
  refine wpAnyH_ready (rs := [14]) (by kernel_rfl) (by simp) ?_
  refine AllReadyH.cons (o := { dst := none, op := Op.store 25 (Operand.tmp 4) (Operand.tmp 310), type := 0, pos := "ref.go:110", after := #[{ on := 12, ground := Ground.data }, { on := 11, ground := Ground.chain }, { on := 0, ground := Ground.phase }, { on := 1, ground := Ground.phase }, { on := 2, ground := Ground.phase }, { on := 3, ground := Ground.phase }, { on := 4, ground := Ground.phase }, { on := 5, ground := Ground.phase }, { on := 6, ground := Ground.phase }, { on := 7, ground := Ground.phase }, { on := 8, ground := Ground.phase }, { on := 9, ground := Ground.phase }, { on := 10, ground := Ground.phase }, { on := 11, ground := Ground.phase }, { on := 12, ground := Ground.phase }, { on := 13, ground := Ground.phase }], guard := none }) rfl (fun K hK => ?_) AllReadyH.nil
  rw [if_pos (by rfl)]
  refine wp_store_row 25 (.tmp 4) (.tmp 310) rfl (w.heap.size + 1 + 1) cs rfl rfl 25 _ RZ9.out (by rw [HZC.out]; exact i12) (by rw [HZC.out]; rfl) H1C.out ?_
  refine hK.out _ _ ?_ (fun hHeld => ?_)
  · exact RAF.out
  clear hK K
  (try simp only [Act.put])
  refine wpAnyH_take (i := 15) (oi := { dst := some 5, op := Op.assign (Operand.tmp 311), type := 4, pos := "ref.go:110", after := #[{ on := 13, ground := Ground.data }, { on := 14, ground := Ground.chain }, { on := 0, ground := Ground.phase }, { on := 1, ground := Ground.phase }, { on := 2, ground := Ground.phase }, { on := 3, ground := Ground.phase }, { on := 4, ground := Ground.phase }, { on := 5, ground := Ground.phase }, { on := 6, ground := Ground.phase }, { on := 7, ground := Ground.phase }, { on := 8, ground := Ground.phase }, { on := 9, ground := Ground.phase }, { on := 10, ground := Ground.phase }, { on := 11, ground := Ground.phase }, { on := 12, ground := Ground.phase }, { on := 13, ground := Ground.phase }, { on := 14, ground := Ground.phase }], guard := none }) (v := ?_) rfl (by kernel_rfl) (by kernel_rfl) (by kernel_rfl) (fun _ _ _ h => h) (Or.inl ⟨by rfl, ?_⟩) hHeld ?_
  rotate_left
  · intro W hSw
    have c0 : W.cell? ⟨w.heap.size, 0, none⟩ = some (.int .i64 ph) := by rw [Rw.cell hSw 0, HC.out]; rfl
    clear hSw
    first | (go_simp; done) | (go_simp; with_reducible rfl)
  (try simp only [Act.put, List.setIfInBounds_toArray, List.set_cons_zero, List.set_cons_succ])
  refine wpAnyH_done (by kernel_rfl) ?_ _
  go_wp2
  (try simp only [Exit.inBlock, Exit.then])
  refine bodyPost_ret (results_cell_tmp rfl _ _ (w.heap.size + 1 + 1) 25 cs (0, 0) _ rfl ZF.out Try.underlying25 rfl (by rw [HZC.out]; exact i12)) rfl ?_
  exact ⟨by rw [HE.out, HC.out]; rfl, BF.out⟩
end Go.Proofs.Ytoeelglmdnhknaa
