/-
  Package model's Step.
  Package model's New; its calls as a bundle.
-/
import Derived.Test.YtchaeidmjoelnaaGreatMdX
import Derived.Test.YtchaeidmjoelnaaGreatDcB
import Derived.Deep.LoopGhost
import Derived.WalkMore
import Derived.Deep.CutRange
import Derived.Test.YtchaeidmjoelnaaGreatFirst
namespace Go.Proofs.YtchaeidmjoelnaaGreat
open Go.RowKit

theorem set_at {O : Nat → Prop} {W : World} {rb n : Nat} {m : Md} (h : RoO O W rb (m.ro, m.fu)) (hd : Bd n m.ro m.fu) (hn : n + 8 < 100000) :
    Calls Tryz.prog 70 #[.pointer (some ⟨rb, 0, none⟩), .agg #[.int .i64 (1 - m.s.ac), .int .i64 m.s.gn], .int .i64 m.tries] W fun e w' => e = .returned (.tuple #[.int .i64 (toldM m), .int .i64 (setJ m.s.gn (1 - m.s.ac) m.ro m.fu m.tries : Int)]) ∧ TurnO RoO O W w' rb (st m.s.gn (1 - m.s.ac) m.ro m.fu (setJ m.s.gn (1 - m.s.ac) m.ro m.fu m.tries)) :=
  (roo_set n m.s.gn (1 - m.s.ac) m.tries h hd hn).mono fun e w' ⟨j, hj, he, ht⟩ => by
    obtain rfl := hj.uniq (setJ_is m.s.gn (1 - m.s.ac) m.ro m.fu m.tries)
    exact ⟨he, ht⟩
/-- The plan's Next is what the document says. -/
def NextIs : Prop := ∀ (s : St) (v : Vw) (now : Int) (W : World), rightS s = true → Fits now → Calls Tryz.prog 45 #[stV s, vwV v, .int .i64 now] W fun e w' => e = .returned (.tuple #[.int .i64 (nextS s v now).1, recV (nextS s v now).2]) ∧ Below W.heap.size W w'
/-- A record that changes no numbers: the fleet stands as it stood. -/
theorem put_bec {m : Md} (h : SetI m) {r : Rc} (h0 : (stepS m.s r).1.w0 = m.s.w0) (h1 : (stepS m.s r).1.w1 = m.s.w1) : putM m r = becM m r := by
  show (fleetM m (stepS m.s r).1, (stepS m.s r).2) = ({ m with s := (stepS m.s r).1 }, (stepS m.s r).2)
  rw [fleet_w h h0 h1]
theorem put_same {m : Md} (h : SetI m) {a : Int} {r : Rc} (h1 : (nextS m.s (viewM m) m.tick).1 = a) (h2 : (nextS m.s (viewM m) m.tick).2 = r) (ha : a = 2 ∨ a = 3) : putM m r = becM m r := by
  rcases ha with ha | ha
  · obtain ⟨g1, g2, g3⟩ := next_prep h.right (h1.trans ha)
    rw [h2] at g3
    subst g3
    by_cases hg : m.s.gn < 1048576
    · exact put_bec h (by rw [stp_prep h.right g1 g2 hg]) (by rw [stp_prep h.right g1 g2 hg])
    · exact put_bec h (by rw [stp_prep_no h.right (by omega)]) (by rw [stp_prep_no h.right (by omega)])
  · obtain ⟨g1, g2, g3⟩ := next_com (h1.trans ha)
    rw [h2] at g3
    subst g3
    exact put_bec h (by rw [stp_commit h.right g2]) (by rw [stp_commit h.right g2])
section
set_option maxRecDepth 100000 in
set_option maxHeartbeats 8000000 in
theorem proute_any {O : Nat → Prop} {w : World} {b fb rb n : Nat} {m : Md} (h : MdX fb rb O w b m) (hs : SetI m) (hd : Bd n m.ro m.fu) (hn : n + 8 < 100000) : Calls Tryz.prog 46 #[ptr b] w fun e w' => e = .returned (.int .i64 (routeM m).2) ∧ TurnO (MdX fb rb) O w w' b (routeM m).1 := by
  obtain ⟨O0, hO0⟩ : ∃ X, X = O := ⟨_, rfl⟩
  rw [← hO0]
  have HH : Hid (Hold (MdX fb rb) O0 w w [] b m) := Lib.hid (Hold.start (by rw [hO0]; exact h))
  have wac : wrap64 (1 - m.s.ac) = 1 - m.s.ac := by unfold wrap64; have := (right_in hs.right).1; omega
  have wac2 : IntKind.i64.wrap (1 - m.s.ac) = 1 - m.s.ac := IntWalk.i64_in _ (by have := (right_in hs.right).1; omega)
  obtain ⟨tm, htm⟩ : ∃ x, x = toldM m := ⟨_, rfl⟩
  obtain ⟨jj, hjj⟩ : ∃ x, x = setJ m.s.gn (1 - m.s.ac) m.ro m.fu m.tries := ⟨_, rfl⟩
  have HTM := Lib.hid htm
  have HSET : Hid (∀ W L, Hold (MdX fb rb) O0 w W L b m → Calls Tryz.prog 70 #[ptr rb, .agg #[.int .i64 (1 - m.s.ac), .int .i64 m.s.gn], .int .i64 m.tries] W fun e w' => e = .returned (.tuple #[.int .i64 tm, .int .i64 (jj : Int)]) ∧ Hold (MdX fb rb) O0 w w' L b (callM m)) := Lib.hid (fun W L h => by
    rw [htm, hjj]
    exact h.router (fun _ h => set_at h hd hn))
  clear h hO0 hs hd hn htm hjj
  go_enter Tryz.func46, Tryz.ntmps46
  go_upto_region 1 with (fail)
  have HD0 := Lib.hid (HH.out.drew (mdx_keeps fb rb))
  clear HH
  refine wp_region_held_drew (S := fun Wx => Wx.cell? ⟨b, 1, none⟩ = some (.int .i64 m.s.ac) ∧ Wx.cell? ⟨b, 9, none⟩ = some (.int .i64 m.s.gn)) (by kernel_rfl) ⟨(HD0.out.mrow.cell 1).trans rfl, (HD0.out.mrow.cell 9).trans rfl⟩ (fun hHeld => ?_)
  refine wpAnyH_take (i := 0) (oi := { dst := some 6, op := Op.move (Operand.tmp 0), type := 26, pos := "model.go:102", after := #[], guard := none }) (v := ?_) rfl (by kernel_rfl) (by kernel_rfl) (by kernel_rfl) (fun _ _ _ h => h) (Or.inl ⟨by rfl, ?_⟩) hHeld ?_
  rotate_left
  · rintro Wx ⟨hS0, hS1⟩
    first | (go_simp; done) | (go_simp; with_reducible rfl)
  (try simp only [Act.put, List.setIfInBounds_toArray, List.set_cons_zero, List.set_cons_succ])
  refine wpAnyH_take (i := 1) (oi := { dst := some 7, op := Op.nilCheck (Operand.tmp 6), type := 0, pos := "model.go:102", after := #[{ on := 0, ground := Ground.data }], guard := none }) (v := ?_) rfl (by kernel_rfl) (by kernel_rfl) (by kernel_rfl) (fun _ _ _ h => h) (Or.inl ⟨by rfl, ?_⟩) hHeld ?_
  rotate_left
  · rintro Wx ⟨hS0, hS1⟩
    first | (go_simp; done) | (go_simp; with_reducible rfl)
  (try simp only [Act.put, List.setIfInBounds_toArray, List.set_cons_zero, List.set_cons_succ])
  refine wpAnyH_take (i := 2) (oi := { dst := some 8, op := Op.fieldAddr 74 (Operand.tmp 7) 0, type := 0, pos := "model.go:102", after := #[{ on := 1, ground := Ground.data }], guard := none }) (v := ?_) rfl (by kernel_rfl) (by kernel_rfl) (by kernel_rfl) (fun _ _ _ h => h) (Or.inl ⟨by rfl, ?_⟩) hHeld ?_
  rotate_left
  · rintro Wx ⟨hS0, hS1⟩
    first | (go_simp; done) | (go_simp; with_reducible rfl)
  (try simp only [Act.put, List.setIfInBounds_toArray, List.set_cons_zero, List.set_cons_succ])
  refine wpAnyH_take (i := 3) (oi := { dst := some 9, op := Op.fieldAddr 33 (Operand.tmp 8) 1, type := 0, pos := "model.go:102", after := #[{ on := 2, ground := Ground.data }], guard := none }) (v := ?_) rfl (by kernel_rfl) (by kernel_rfl) (by kernel_rfl) (fun _ _ _ h => h) (Or.inl ⟨by rfl, ?_⟩) hHeld ?_
  rotate_left
  · rintro Wx ⟨hS0, hS1⟩
    first | (go_simp; done) | (go_simp; with_reducible rfl)
  (try simp only [Act.put, List.setIfInBounds_toArray, List.set_cons_zero, List.set_cons_succ])
  refine wpAnyH_take (i := 4) (oi := { dst := some 10, op := Op.load 3 (Operand.tmp 9), type := 3, pos := "model.go:102", after := #[{ on := 3, ground := Ground.data }], guard := none }) (v := ?_) rfl (by kernel_rfl) (by kernel_rfl) (by kernel_rfl) (fun _ _ _ h => h) (Or.inl ⟨by rfl, ?_⟩) hHeld ?_
  rotate_left
  · rintro Wx ⟨hS0, hS1⟩
    first | (go_simp; done) | (go_simp; with_reducible rfl)
  (try simp only [Act.put, List.setIfInBounds_toArray, List.set_cons_zero, List.set_cons_succ])
  refine wpAnyH_take (i := 5) (oi := { dst := some 11, op := Op.binOp BinOp.sub 3 (Operand.const (Value.int IntKind.i64 1)) (Operand.tmp 10) 3, type := 3, pos := "model.go:102", after := #[{ on := 4, ground := Ground.data }], guard := none }) (v := ?_) rfl (by kernel_rfl) (by kernel_rfl) (by kernel_rfl) (fun _ _ _ h => h) (Or.inl ⟨by rfl, ?_⟩) hHeld ?_
  rotate_left
  · rintro Wx ⟨hS0, hS1⟩
    first | (go_simp; done) | (go_simp; with_reducible rfl)
  (try simp only [Act.put, List.setIfInBounds_toArray, List.set_cons_zero, List.set_cons_succ])
  refine wpAnyH_take (i := 6) (oi := { dst := some 12, op := Op.move (Operand.tmp 0), type := 26, pos := "model.go:102", after := #[], guard := none }) (v := ?_) rfl (by kernel_rfl) (by kernel_rfl) (by kernel_rfl) (fun _ _ _ h => h) (Or.inl ⟨by rfl, ?_⟩) hHeld ?_
  rotate_left
  · rintro Wx ⟨hS0, hS1⟩
    first | (go_simp; done) | (go_simp; with_reducible rfl)
  (try simp only [Act.put, List.setIfInBounds_toArray, List.set_cons_zero, List.set_cons_succ])
  refine wpAnyH_take (i := 7) (oi := { dst := some 13, op := Op.nilCheck (Operand.tmp 12), type := 0, pos := "model.go:102", after := #[{ on := 6, ground := Ground.data }], guard := none }) (v := ?_) rfl (by kernel_rfl) (by kernel_rfl) (by kernel_rfl) (fun _ _ _ h => h) (Or.inl ⟨by rfl, ?_⟩) hHeld ?_
  rotate_left
  · rintro Wx ⟨hS0, hS1⟩
    first | (go_simp; done) | (go_simp; with_reducible rfl)
  (try simp only [Act.put, List.setIfInBounds_toArray, List.set_cons_zero, List.set_cons_succ])
  refine wpAnyH_take (i := 8) (oi := { dst := some 14, op := Op.fieldAddr 74 (Operand.tmp 13) 0, type := 0, pos := "model.go:102", after := #[{ on := 7, ground := Ground.data }], guard := none }) (v := ?_) rfl (by kernel_rfl) (by kernel_rfl) (by kernel_rfl) (fun _ _ _ h => h) (Or.inl ⟨by rfl, ?_⟩) hHeld ?_
  rotate_left
  · rintro Wx ⟨hS0, hS1⟩
    first | (go_simp; done) | (go_simp; with_reducible rfl)
  (try simp only [Act.put, List.setIfInBounds_toArray, List.set_cons_zero, List.set_cons_succ])
  refine wpAnyH_take (i := 9) (oi := { dst := some 15, op := Op.fieldAddr 33 (Operand.tmp 14) 6, type := 0, pos := "model.go:102", after := #[{ on := 8, ground := Ground.data }], guard := none }) (v := ?_) rfl (by kernel_rfl) (by kernel_rfl) (by kernel_rfl) (fun _ _ _ h => h) (Or.inl ⟨by rfl, ?_⟩) hHeld ?_
  rotate_left
  · rintro Wx ⟨hS0, hS1⟩
    first | (go_simp; done) | (go_simp; with_reducible rfl)
  (try simp only [Act.put, List.setIfInBounds_toArray, List.set_cons_zero, List.set_cons_succ])
  refine wpAnyH_take (i := 10) (oi := { dst := some 16, op := Op.load 3 (Operand.tmp 15), type := 3, pos := "model.go:102", after := #[{ on := 9, ground := Ground.data }], guard := none }) (v := ?_) rfl (by kernel_rfl) (by kernel_rfl) (by kernel_rfl) (fun _ _ _ h => h) (Or.inl ⟨by rfl, ?_⟩) hHeld ?_
  rotate_left
  · rintro Wx ⟨hS0, hS1⟩
    first | (go_simp; done) | (go_simp; with_reducible rfl)
  (try simp only [Act.put, List.setIfInBounds_toArray, List.set_cons_zero, List.set_cons_succ])
  refine wpAnyH_take (i := 11) (oi := { dst := some 17, op := Op.build 55 #[(0, Operand.tmp 11), (1, Operand.tmp 16)], type := 55, pos := "model.go:102", after := #[{ on := 5, ground := Ground.data }, { on := 10, ground := Ground.data }], guard := none }) (v := ?_) rfl (by kernel_rfl) (by kernel_rfl) (by kernel_rfl) (fun _ _ _ h => h) (Or.inl ⟨by rfl, ?_⟩) hHeld ?_
  rotate_left
  · rintro Wx ⟨hS0, hS1⟩
    first | (go_simp; done) | (go_simp; with_reducible rfl)
  (try simp only [Act.put, List.setIfInBounds_toArray, List.set_cons_zero, List.set_cons_succ])
  refine wpAnyH_ready (rs := [12]) (by kernel_rfl) (by simp) ?_
  refine AllReadyH.cons (o := { dst := some 3, op := Op.alloc 55, type := 0, pos := "model.go:102", after := #[], guard := none }) rfl (fun K hK => ?_) AllReadyH.nil
  go_simp
  have h : Hold (MdX fb rb) O0 w _ ((w.heap.size, #[.int .i64 0, .int .i64 0], 55) :: []) b m := HD0.out.alloc (mdx_keeps fb rb) #[.int .i64 0, .int .i64 0] 55
  obtain ⟨X1, hX⟩ : ∃ X, X = w.heap.size := ⟨_, rfl⟩
  rw [← hX] at h ⊢
  have HX1 := Lib.hid h
  clear h hX
  refine hK.out _ _ ?_ (fun hHeld => ?_)
  · exact ⟨(HX1.out.mrow.cell 1).trans rfl, (HX1.out.mrow.cell 9).trans rfl⟩
  clear hK K
  (try simp only [Act.put, List.setIfInBounds_toArray, List.set_cons_zero, List.set_cons_succ])
  refine wpAnyH_ready (rs := [13]) (by kernel_rfl) (by simp) ?_
  refine AllReadyH.cons (o := { dst := none, op := Op.store 55 (Operand.tmp 3) (Operand.tmp 17), type := 0, pos := "model.go:102", after := #[{ on := 12, ground := Ground.data }, { on := 11, ground := Ground.data }, { on := 0, ground := Ground.phase }, { on := 1, ground := Ground.phase }, { on := 2, ground := Ground.phase }, { on := 3, ground := Ground.phase }, { on := 4, ground := Ground.phase }, { on := 5, ground := Ground.phase }, { on := 6, ground := Ground.phase }, { on := 7, ground := Ground.phase }, { on := 8, ground := Ground.phase }, { on := 9, ground := Ground.phase }, { on := 10, ground := Ground.phase }, { on := 11, ground := Ground.phase }, { on := 12, ground := Ground.phase }], guard := none }) rfl (fun K hK => ?_) AllReadyH.nil
  rw [if_pos (by rfl)]
  refine wp_store_row 55 (.tmp 3) (.tmp 17) rfl X1 #[.int .i64 (1 - m.s.ac), .int .i64 m.s.gn] rfl rfl 55 _ HX1.out.row1 i2c rfl (by simp [Value.oneCell']) ?_
  have h := HX1.out.setRow (mdx_keeps fb rb) #[.int .i64 (1 - m.s.ac), .int .i64 m.s.gn]
  have HX2 := Lib.hid h
  clear h
  refine hK.out _ _ ?_ (fun hHeld => ?_)
  · exact ⟨(HX2.out.mrow.cell 1).trans rfl, (HX2.out.mrow.cell 9).trans rfl⟩
  clear hK K
  (try simp only [Act.put])
  refine wpAnyH_done (by kernel_rfl) ?_ _
  go_upto_region 2 with (fail)
  have HD1 := Lib.hid (HX2.out.drew (mdx_keeps fb rb))
  clear HX2
  refine wp_region_held_drew (S := fun Wx => Wx.cell? ⟨b, 13, none⟩ = some (ptr rb) ∧ Wx.cell? ⟨b, 14, none⟩ = some (.int .i64 m.tries) ∧ Rw Wx X1 #[.int .i64 (1 - m.s.ac), .int .i64 m.s.gn] 55) (by kernel_rfl) ⟨(HD1.out.mrow.cell 13).trans rfl, (HD1.out.mrow.cell 14).trans rfl, HD1.out.row1⟩ (fun hHeld => ?_)
  refine wpAnyH_take (i := 0) (oi := { dst := some 19, op := Op.move (Operand.tmp 0), type := 26, pos := "model.go:103", after := #[], guard := none }) (v := ?_) rfl (by kernel_rfl) (by kernel_rfl) (by kernel_rfl) (fun _ _ _ h => h) (Or.inl ⟨by rfl, ?_⟩) hHeld ?_
  rotate_left
  · rintro Wx ⟨hS0, hS1, hS2⟩
    clear hS2
    first | (go_simp; done) | (go_simp; with_reducible rfl)
  (try simp only [Act.put, List.setIfInBounds_toArray, List.set_cons_zero, List.set_cons_succ])
  refine wpAnyH_take (i := 1) (oi := { dst := some 20, op := Op.nilCheck (Operand.tmp 19), type := 0, pos := "model.go:103", after := #[{ on := 0, ground := Ground.data }], guard := none }) (v := ?_) rfl (by kernel_rfl) (by kernel_rfl) (by kernel_rfl) (fun _ _ _ h => h) (Or.inl ⟨by rfl, ?_⟩) hHeld ?_
  rotate_left
  · rintro Wx ⟨hS0, hS1, hS2⟩
    clear hS2
    first | (go_simp; done) | (go_simp; with_reducible rfl)
  (try simp only [Act.put, List.setIfInBounds_toArray, List.set_cons_zero, List.set_cons_succ])
  refine wpAnyH_take (i := 2) (oi := { dst := some 21, op := Op.fieldAddr 74 (Operand.tmp 20) 2, type := 0, pos := "model.go:103", after := #[{ on := 1, ground := Ground.data }], guard := none }) (v := ?_) rfl (by kernel_rfl) (by kernel_rfl) (by kernel_rfl) (fun _ _ _ h => h) (Or.inl ⟨by rfl, ?_⟩) hHeld ?_
  rotate_left
  · rintro Wx ⟨hS0, hS1, hS2⟩
    clear hS2
    first | (go_simp; done) | (go_simp; with_reducible rfl)
  (try simp only [Act.put, List.setIfInBounds_toArray, List.set_cons_zero, List.set_cons_succ])
  refine wpAnyH_take (i := 3) (oi := { dst := some 22, op := Op.load 69 (Operand.tmp 21), type := 69, pos := "model.go:103", after := #[{ on := 2, ground := Ground.data }], guard := none }) (v := ?_) rfl (by kernel_rfl) (by kernel_rfl) (by kernel_rfl) (fun _ _ _ h => h) (Or.inl ⟨by rfl, ?_⟩) hHeld ?_
  rotate_left
  · rintro Wx ⟨hS0, hS1, hS2⟩
    clear hS2
    first | (go_simp; done) | (go_simp; with_reducible rfl)
  (try simp only [Act.put, List.setIfInBounds_toArray, List.set_cons_zero, List.set_cons_succ])
  refine wpAnyH_take (i := 4) (oi := { dst := some 23, op := Op.load 55 (Operand.tmp 3), type := 55, pos := "model.go:103", after := #[], guard := none }) (v := .agg #[.int .i64 (1 - m.s.ac), .int .i64 m.s.gn]) rfl (by kernel_rfl) (by kernel_rfl) (by kernel_rfl) (fun _ _ _ h => h) (Or.inl ⟨by rfl, fun Wx hS => exec_load_row 55 (.tmp 3) rfl X1 rfl 55 #[.int .i64 (1 - m.s.ac), .int .i64 m.s.gn] (0, 0) _ hS.2.2 Tryz.underlying55 rfl i2c⟩) hHeld ?_
  (try simp only [Act.put, List.setIfInBounds_toArray, List.set_cons_zero, List.set_cons_succ])
  refine wpAnyH_take (i := 5) (oi := { dst := some 24, op := Op.move (Operand.tmp 0), type := 26, pos := "model.go:103", after := #[], guard := none }) (v := ?_) rfl (by kernel_rfl) (by kernel_rfl) (by kernel_rfl) (fun _ _ _ h => h) (Or.inl ⟨by rfl, ?_⟩) hHeld ?_
  rotate_left
  · rintro Wx ⟨hS0, hS1, hS2⟩
    clear hS2
    first | (go_simp; done) | (go_simp; with_reducible rfl)
  (try simp only [Act.put, List.setIfInBounds_toArray, List.set_cons_zero, List.set_cons_succ])
  refine wpAnyH_take (i := 6) (oi := { dst := some 25, op := Op.nilCheck (Operand.tmp 24), type := 0, pos := "model.go:103", after := #[{ on := 5, ground := Ground.data }], guard := none }) (v := ?_) rfl (by kernel_rfl) (by kernel_rfl) (by kernel_rfl) (fun _ _ _ h => h) (Or.inl ⟨by rfl, ?_⟩) hHeld ?_
  rotate_left
  · rintro Wx ⟨hS0, hS1, hS2⟩
    clear hS2
    first | (go_simp; done) | (go_simp; with_reducible rfl)
  (try simp only [Act.put, List.setIfInBounds_toArray, List.set_cons_zero, List.set_cons_succ])
  refine wpAnyH_take (i := 7) (oi := { dst := some 26, op := Op.fieldAddr 74 (Operand.tmp 25) 3, type := 0, pos := "model.go:103", after := #[{ on := 6, ground := Ground.data }], guard := none }) (v := ?_) rfl (by kernel_rfl) (by kernel_rfl) (by kernel_rfl) (fun _ _ _ h => h) (Or.inl ⟨by rfl, ?_⟩) hHeld ?_
  rotate_left
  · rintro Wx ⟨hS0, hS1, hS2⟩
    clear hS2
    first | (go_simp; done) | (go_simp; with_reducible rfl)
  (try simp only [Act.put, List.setIfInBounds_toArray, List.set_cons_zero, List.set_cons_succ])
  refine wpAnyH_take (i := 8) (oi := { dst := some 27, op := Op.load 3 (Operand.tmp 26), type := 3, pos := "model.go:103", after := #[{ on := 7, ground := Ground.data }], guard := none }) (v := ?_) rfl (by kernel_rfl) (by kernel_rfl) (by kernel_rfl) (fun _ _ _ h => h) (Or.inl ⟨by rfl, ?_⟩) hHeld ?_
  rotate_left
  · rintro Wx ⟨hS0, hS1, hS2⟩
    clear hS2
    first | (go_simp; done) | (go_simp; with_reducible rfl)
  (try simp only [Act.put, List.setIfInBounds_toArray, List.set_cons_zero, List.set_cons_succ])
  refine wpAnyH_ready (rs := [9]) (by kernel_rfl) (by simp) ?_
  refine AllReadyH.cons (o := { dst := some 28, op := Op.call { callee := Callee.value (Operand.func 70), args := #[Operand.tmp 22, Operand.tmp 23, Operand.tmp 27], argTypes := #[69, 55, 3] }, type := 122, pos := "model.go:103", after := #[{ on := 3, ground := Ground.data }, { on := 4, ground := Ground.data }, { on := 8, ground := Ground.data }], guard := none }) rfl (fun K hK => ?_) AllReadyH.nil
  go_simp
  refine (HSET.out _ _ HD1.out).mono ?_
  rintro e x3 ⟨rfl, h⟩
  have HX3 := Lib.hid h
  clear h
  refine hK.out _ _ ?_ (fun hHeld => ?_)
  · exact ⟨(HX3.out.mrow.cell 13).trans rfl, (HX3.out.mrow.cell 14).trans rfl, HX3.out.row1⟩
  clear hK K
  (try simp only [Act.put, List.setIfInBounds_toArray, List.set_cons_zero, List.set_cons_succ])
  refine wpAnyH_take (i := 10) (oi := { dst := some 18, op := Op.move (Operand.tmp 28), type := 122, pos := "model.go:103", after := #[{ on := 9, ground := Ground.data }], guard := none }) (v := ?_) rfl (by kernel_rfl) (by kernel_rfl) (by kernel_rfl) (fun _ _ _ h => h) (Or.inl ⟨by rfl, ?_⟩) hHeld ?_
  rotate_left
  · rintro Wx ⟨hS0, hS1, hS2⟩
    clear hS2
    first | (go_simp; done) | (go_simp; with_reducible rfl)
  (try simp only [Act.put, List.setIfInBounds_toArray, List.set_cons_zero, List.set_cons_succ])
  refine wpAnyH_take (i := 11) (oi := { dst := some 29, op := Op.extract (Operand.tmp 18) 0, type := 27, pos := "model.go:103", after := #[{ on := 10, ground := Ground.data }], guard := none }) (v := ?_) rfl (by kernel_rfl) (by kernel_rfl) (by kernel_rfl) (fun _ _ _ h => h) (Or.inl ⟨by rfl, ?_⟩) hHeld ?_
  rotate_left
  · rintro Wx ⟨hS0, hS1, hS2⟩
    clear hS2
    first | (go_simp; done) | (go_simp; with_reducible rfl)
  (try simp only [Act.put, List.setIfInBounds_toArray, List.set_cons_zero, List.set_cons_succ])
  refine wpAnyH_take (i := 12) (oi := { dst := some 30, op := Op.extract (Operand.tmp 18) 1, type := 3, pos := "model.go:103", after := #[{ on := 10, ground := Ground.data }, { on := 13, ground := Ground.gcOnly Departure.lateStores }], guard := none }) (v := ?_) rfl (by kernel_rfl) (by kernel_rfl) (by kernel_rfl) (fun _ _ _ h => h) (Or.inl ⟨by rfl, ?_⟩) hHeld ?_
  rotate_left
  · rintro Wx ⟨hS0, hS1, hS2⟩
    clear hS2
    first | (go_simp; done) | (go_simp; with_reducible rfl)
  (try simp only [Act.put, List.setIfInBounds_toArray, List.set_cons_zero, List.set_cons_succ])
  refine wpAnyH_take (i := 13) (oi := { dst := some 4, op := Op.assign (Operand.tmp 29), type := 27, pos := "model.go:103", after := #[{ on := 11, ground := Ground.data }, { on := 9, ground := Ground.chain }, { on := 0, ground := Ground.phase }, { on := 1, ground := Ground.phase }, { on := 2, ground := Ground.phase }, { on := 3, ground := Ground.phase }, { on := 4, ground := Ground.phase }, { on := 5, ground := Ground.phase }, { on := 6, ground := Ground.phase }, { on := 7, ground := Ground.phase }, { on := 8, ground := Ground.phase }, { on := 9, ground := Ground.phase }, { on := 10, ground := Ground.phase }, { on := 11, ground := Ground.phase }, { on := 12, ground := Ground.textOnly Departure.lateStores }], guard := none }) (v := ?_) rfl (by kernel_rfl) (by kernel_rfl) (by kernel_rfl) (fun _ _ _ h => h) (Or.inl ⟨by rfl, ?_⟩) hHeld ?_
  rotate_left
  · rintro Wx ⟨hS0, hS1, hS2⟩
    clear hS2
    first | (go_simp; done) | (go_simp; with_reducible rfl)
  (try simp only [Act.put, List.setIfInBounds_toArray, List.set_cons_zero, List.set_cons_succ])
  refine wpAnyH_take (i := 14) (oi := { dst := some 5, op := Op.assign (Operand.tmp 30), type := 3, pos := "model.go:103", after := #[{ on := 12, ground := Ground.data }, { on := 13, ground := Ground.chain }, { on := 0, ground := Ground.phase }, { on := 1, ground := Ground.phase }, { on := 2, ground := Ground.phase }, { on := 3, ground := Ground.phase }, { on := 4, ground := Ground.phase }, { on := 5, ground := Ground.phase }, { on := 6, ground := Ground.phase }, { on := 7, ground := Ground.phase }, { on := 8, ground := Ground.phase }, { on := 9, ground := Ground.phase }, { on := 10, ground := Ground.phase }, { on := 11, ground := Ground.phase }, { on := 12, ground := Ground.phase }, { on := 13, ground := Ground.phase }], guard := none }) (v := ?_) rfl (by kernel_rfl) (by kernel_rfl) (by kernel_rfl) (fun _ _ _ h => h) (Or.inl ⟨by rfl, ?_⟩) hHeld ?_
  rotate_left
  · rintro Wx ⟨hS0, hS1, hS2⟩
    clear hS2
    first | (go_simp; done) | (go_simp; with_reducible rfl)
  (try simp only [Act.put, List.setIfInBounds_toArray, List.set_cons_zero, List.set_cons_succ])
  refine wpAnyH_done (by kernel_rfl) ?_ _
  by_cases ht : tm = 0
  case neg =>
    have t1 : (tm == 0) = false := beq_eq_false_iff_ne.2 ht
    have HNE : Hid (¬ toldM m = 0) := Lib.hid (by rw [← HTM.out]; exact ht)
    clear ht
    go_wp2
    go_ret
    exact ⟨by unfold routeM; rw [if_neg HNE.out, HTM.out]; rfl, by unfold routeM; rw [if_neg HNE.out]; exact HX3.out.nil.fin⟩
  subst ht
  go_upto_region 5 with (fail)
  have HD2 := Lib.hid (HX3.out.drew (mdx_keeps fb rb))
  clear HX3
  refine wp_region_held_drew (S := fun Wx => Wx.cell? ⟨X1, 1, none⟩ = some (.int .i64 m.s.gn) ∧ Wx.cell? ⟨b, 15, none⟩ = some (.int .i64 m.tick)) (by kernel_rfl) ⟨(HD2.out.row1.cell 1).trans rfl, (HD2.out.mrow.cell 15).trans rfl⟩ (fun hHeld => ?_)
  refine wpAnyH_take (i := 0) (oi := { dst := some 34, op := Op.move (Operand.tmp 0), type := 26, pos := "model.go:106", after := #[], guard := none }) (v := ?_) rfl (by kernel_rfl) (by kernel_rfl) (by kernel_rfl) (fun _ _ _ h => h) (Or.inl ⟨by rfl, ?_⟩) hHeld ?_
  rotate_left
  · rintro Wx ⟨hS0, hS1⟩
    first | (go_simp; done) | (go_simp; with_reducible rfl)
  (try simp only [Act.put, List.setIfInBounds_toArray, List.set_cons_zero, List.set_cons_succ])
  refine wpAnyH_take (i := 1) (oi := { dst := some 35, op := Op.fieldAddr 55 (Operand.tmp 3) 1, type := 0, pos := "model.go:106", after := #[], guard := none }) (v := ?_) rfl (by kernel_rfl) (by kernel_rfl) (by kernel_rfl) (fun _ _ _ h => h) (Or.inl ⟨by rfl, ?_⟩) hHeld ?_
  rotate_left
  · rintro Wx ⟨hS0, hS1⟩
    first | (go_simp; done) | (go_simp; with_reducible rfl)
  (try simp only [Act.put, List.setIfInBounds_toArray, List.set_cons_zero, List.set_cons_succ])
  refine wpAnyH_take (i := 2) (oi := { dst := some 36, op := Op.load 3 (Operand.tmp 35), type := 3, pos := "model.go:106", after := #[{ on := 1, ground := Ground.data }], guard := none }) (v := ?_) rfl (by kernel_rfl) (by kernel_rfl) (by kernel_rfl) (fun _ _ _ h => h) (Or.inl ⟨by rfl, ?_⟩) hHeld ?_
  rotate_left
  · rintro Wx ⟨hS0, hS1⟩
    first | (go_simp; done) | (go_simp; with_reducible rfl)
  (try simp only [Act.put, List.setIfInBounds_toArray, List.set_cons_zero, List.set_cons_succ])
  refine wpAnyH_take (i := 3) (oi := { dst := some 37, op := Op.move (Operand.tmp 0), type := 26, pos := "model.go:106", after := #[], guard := none }) (v := ?_) rfl (by kernel_rfl) (by kernel_rfl) (by kernel_rfl) (fun _ _ _ h => h) (Or.inl ⟨by rfl, ?_⟩) hHeld ?_
  rotate_left
  · rintro Wx ⟨hS0, hS1⟩
    first | (go_simp; done) | (go_simp; with_reducible rfl)
  (try simp only [Act.put, List.setIfInBounds_toArray, List.set_cons_zero, List.set_cons_succ])
  refine wpAnyH_take (i := 4) (oi := { dst := some 38, op := Op.nilCheck (Operand.tmp 37), type := 0, pos := "model.go:106", after := #[{ on := 3, ground := Ground.data }], guard := none }) (v := ?_) rfl (by kernel_rfl) (by kernel_rfl) (by kernel_rfl) (fun _ _ _ h => h) (Or.inl ⟨by rfl, ?_⟩) hHeld ?_
  rotate_left
  · rintro Wx ⟨hS0, hS1⟩
    first | (go_simp; done) | (go_simp; with_reducible rfl)
  (try simp only [Act.put, List.setIfInBounds_toArray, List.set_cons_zero, List.set_cons_succ])
  refine wpAnyH_take (i := 5) (oi := { dst := some 39, op := Op.fieldAddr 74 (Operand.tmp 38) 4, type := 0, pos := "model.go:106", after := #[{ on := 4, ground := Ground.data }], guard := none }) (v := ?_) rfl (by kernel_rfl) (by kernel_rfl) (by kernel_rfl) (fun _ _ _ h => h) (Or.inl ⟨by rfl, ?_⟩) hHeld ?_
  rotate_left
  · rintro Wx ⟨hS0, hS1⟩
    first | (go_simp; done) | (go_simp; with_reducible rfl)
  (try simp only [Act.put, List.setIfInBounds_toArray, List.set_cons_zero, List.set_cons_succ])
  refine wpAnyH_take (i := 6) (oi := { dst := some 40, op := Op.load 3 (Operand.tmp 39), type := 3, pos := "model.go:106", after := #[{ on := 5, ground := Ground.data }], guard := none }) (v := ?_) rfl (by kernel_rfl) (by kernel_rfl) (by kernel_rfl) (fun _ _ _ h => h) (Or.inl ⟨by rfl, ?_⟩) hHeld ?_
  rotate_left
  · rintro Wx ⟨hS0, hS1⟩
    first | (go_simp; done) | (go_simp; with_reducible rfl)
  (try simp only [Act.put, List.setIfInBounds_toArray, List.set_cons_zero, List.set_cons_succ])
  refine wpAnyH_take (i := 7) (oi := { dst := some 41, op := Op.build 85 #[(0, Operand.const (Value.int IntKind.i64 8)), (4, Operand.tmp 36), (5, Operand.tmp 40)], type := 85, pos := "model.go:106", after := #[{ on := 2, ground := Ground.data }, { on := 6, ground := Ground.data }], guard := none }) (v := ?_) rfl (by kernel_rfl) (by kernel_rfl) (by kernel_rfl) (fun _ _ _ h => h) (Or.inl ⟨by rfl, ?_⟩) hHeld ?_
  rotate_left
  · rintro Wx ⟨hS0, hS1⟩
    first | (go_simp; done) | (go_simp; with_reducible rfl)
  (try simp only [Act.put, List.setIfInBounds_toArray, List.set_cons_zero, List.set_cons_succ])
  refine wpAnyH_ready (rs := [8]) (by kernel_rfl) (by simp) ?_
  refine AllReadyH.cons (o := { dst := some 42, op := Op.call { callee := Callee.value (Operand.func 42), args := #[Operand.tmp 34, Operand.tmp 41], argTypes := #[26, 85] }, type := 4, pos := "model.go:106", after := #[{ on := 0, ground := Ground.data }, { on := 7, ground := Ground.data }], guard := none }) rfl (fun K hK => ?_) AllReadyH.nil
  go_simp
  refine (HD2.out.turn (fun _ h => pbec_any (rec8 m.s.gn m.tick) h (fin _ (by show -100 ≤ (8 : Int) ∧ (8 : Int) ≤ 100; omega)))).mono ?_
  rintro e x4 ⟨rfl, h⟩
  have HX4 := Lib.hid h
  clear h
  refine hK.out _ _ ?_ (fun hHeld => ?_)
  · exact ⟨(HX4.out.row1.cell 1).trans rfl, (HX4.out.mrow.cell 15).trans rfl⟩
  clear hK K
  (try simp only [Act.put, List.setIfInBounds_toArray, List.set_cons_zero, List.set_cons_succ])
  refine wpAnyH_done (by kernel_rfl) ?_ _
  go_wp2_with fail
  refine (HX4.out.turn (fun _ h => pflt_any h)).mono ?_
  rintro e z1 ⟨rfl, h⟩
  have HZ1 := Lib.hid h
  clear h HX4
  go_wp2
  go_ret
  exact ⟨by unfold routeM; rw [if_pos HTM.out.symm]; rfl, by unfold routeM; rw [if_pos HTM.out.symm]; exact HZ1.out.nil.fin⟩
set_option maxRecDepth 100000 in
set_option maxHeartbeats 8000000 in
theorem pstep_m {O : Nat → Prop} {w : World} {b fb rb : Nat} {m : Md} (hpl : NextIs) (n : Nat) (v : Value) (xs : List Int) (h : MdX fb rb O w b m) (hI : MdI m) (hd : Bd n m.ro m.fu) (hn : n + 10 < 100000) (hv : IntsI w v xs) (hx : xs.length ≤ 100) : Calls Tryz.prog 19 #[ptr b, v] w fun e w' => e = .returned (.int .i64 (stepM m xs).2) ∧ TurnO (MdX fb rb) O w w' b (stepM m xs).1 := by
  obtain ⟨O0, hO0⟩ : ∃ X, X = O := ⟨_, rfl⟩
  rw [← hO0]
  have HH : Hid (Hold (MdX fb rb) O0 w w [] b m) := Lib.hid (Hold.start (by rw [hO0]; exact h))
  have HPL := Lib.hid hpl
  obtain ⟨ms, hms⟩ : ∃ x, x = scriptM m xs := ⟨_, rfl⟩
  have HSM : Hid (stepM m xs = goM 4 ms) := Lib.hid (by rw [hms]; rfl)
  have HMS : Hid (MdI ms) := Lib.hid (by rw [hms, script_is hI.set xs]; exact script_inv hI xs)
  have HBD : Hid (Bd (n + 1) ms.ro ms.fu) := Lib.hid (by rw [hms]; exact hd.script xs hx)
  have HN := Lib.hid hn
  have HSC : Hid (∀ W L, Hold (MdX fb rb) O0 w W L b m → IntsI W v xs → Calls Tryz.prog 44 #[ptr rb, v] W fun e w' => e = .returned (.tuple #[]) ∧ Hold (MdX fb rb) O0 w w' L b { m with ro := { m.ro with outs := m.ro.outs ++ xs }, fu := m.fu }) := Lib.hid (fun W L h hv => h.router (fun _ h => roo_script v xs h hv (by have := hd.outs; omega)))
  have HV := Lib.hid hv
  have c13 : w.cell? ⟨b, 13, none⟩ = some (ptr rb) := by rw [HH.out.mrow.cell]; rfl
  obtain ⟨m1, hm1⟩ : ∃ x : Md, x = { m with ro := { m.ro with outs := m.ro.outs ++ xs }, fu := m.fu } := ⟨_, rfl⟩
  rw [← hm1] at HSC
  have HM1 : Hid (fleetM m1 m1.s = ms) := Lib.hid (by rw [hm1, hms]; rfl)
  clear h hO0 hpl hms hI hd hn hv hx hm1
  go_enter Tryz.func19, Tryz.ntmps19
  go_wp2
  go_step3
  go_wp2_with fail
  refine (HSC.out _ _ HH.out HV.out).mono ?_
  rintro e u1 ⟨rfl, h⟩
  have HU1 := Lib.hid h
  clear h HH HSC HV c13
  go_wp2_with fail
  refine (HU1.out.turn (fun _ h => pflt_any h)).mono ?_
  rintro e u2 ⟨rfl, h⟩
  have HL0 : Hid (Hold (MdX fb rb) O0 w u2 [] b ms) := Lib.hid (by rw [HM1.out] at h; exact h)
  clear h HU1 HM1
  go_wp2
  go_step3
  go_wp2
  go_loopg [5] (3 - ms.s.sw).toNat (fun m' tv wr => ∃ (mi : Md) (ni : Nat), Hid ((m' : Int) = 3 - mi.s.sw) ∧ tv = .int .i64 0 ∧ Hid (Far ms ni mi) ∧ Hid (Hold (MdX fb rb) O0 w wr [] b mi))
  case atStart => exact ⟨ms, 4, Lib.hid (by have := right_in HMS.out.right; omega), rfl, Lib.hid ⟨rfl, by have := right_in HMS.out.right; omega, HMS.out.set, rfl, rfl, rfl⟩, HL0⟩
  case round =>
    obtain ⟨mi, ni, HG, rfl, HFR, HO⟩ := hrel
    clear HL0
    obtain ⟨a, ha⟩ : ∃ x, x = (nextS mi.s (viewM mi) mi.tick).1 := ⟨_, rfl⟩
    obtain ⟨r, hr⟩ : ∃ x, x = (nextS mi.s (viewM mi) mi.tick).2 := ⟨_, rfl⟩
    have HAA := Lib.hid ha
    have HRR := Lib.hid hr
    have HKF : Hid (Fits r.kind) := Lib.hid (by rw [hr]; exact next_kind _ _ _)
    have har := next_range mi.s (viewM mi) mi.tick
    rw [← ha] at har
    have HAR := Lib.hid har
    obtain ⟨rs, hrs⟩ : ∃ c, c = recC r := ⟨_, rfl⟩
    have HRS := Lib.hid hrs
    have HZ_rs : Hid (rs.size = 19) := Lib.hid (by rw [hrs]; rfl)
    have H1_rs : Hid (rs.all (·.oneCell') = true) := Lib.hid (by rw [hrs]; simp [recC, Value.oneCell'])
    have HNX : Hid (∀ W, Calls Tryz.prog 45 #[.agg (stC mi.s), .agg #[.int .i64 (mi.k.length : Int), .int .i64 (mi.l.length : Int), .int .i64 (cntL mi.k : Int), .int .i64 (cntL mi.l : Int)], .int .i64 mi.tick] W fun e w' => e = .returned (.tuple #[.int .i64 a, .agg rs]) ∧ Below W.heap.size W w') := Lib.hid (fun W => by
      have h1 := HPL.out mi.s (viewM mi) mi.tick W HFR.out.set.right (by rw [HFR.out.tick]; exact HMS.out.fits.tick)
      rw [← ha, ← hr] at h1
      unfold recV at h1
      rw [← hrs] at h1
      exact h1)
    have HBEC : Hid (∀ W L, Hold (MdX fb rb) O0 w W L b mi → Calls Tryz.prog 42 #[ptr b, .agg rs] W fun e w' => e = .returned (.bool (becM mi r).2) ∧ Hold (MdX fb rb) O0 w w' L b (becM mi r).1) := Lib.hid (fun W L h => by rw [hrs]; exact h.turn (fun _ h => pbec_any r h HKF.out))
    have HEQ := Lib.hid (far_act HFR.out ha.symm hr.symm)
    clear ha hr har hrs
    go_upto_region 4 with (fail)
    go_cut [6, 7] from 16 to 53 (fun sa sp W => ∃ Y, sa = .int .i64 a ∧ sp = ptr Y ∧ Hold (MdX fb rb) O0 w W [(Y, rs, 85)] b mi)
    case first =>
      have HD0 := Lib.hid (HO.out.drew (mdx_keeps fb rb))
      clear HO
      refine wp_region_held_drew (S := fun Wx => Wx.rangeAt b 0 (stC mi.s).toList ∧ Wx.cell? ⟨b, 12, none⟩ = some (ptr fb) ∧ Wx.cell? ⟨b, 15, none⟩ = some (.int .i64 mi.tick)) (by kernel_rfl) ⟨HD0.out.mst, (HD0.out.mrow.cell 12).trans rfl, (HD0.out.mrow.cell 15).trans rfl⟩ (fun hHeld => ?_)
      refine wpAnyH_take (i := 0) (oi := { dst := some 17, op := Op.move (Operand.tmp 0), type := 26, pos := "model.go:54", after := #[], guard := none }) (v := ?_) rfl (by kernel_rfl) (by kernel_rfl) (by kernel_rfl) (fun _ _ _ h => h) (Or.inl ⟨by rfl, ?_⟩) hHeld ?_
      rotate_left
      · rintro Wx ⟨hS0, hS1, hS2⟩
        clear hS0
        first | (go_simp; done) | (go_simp; with_reducible rfl)
      (try simp only [Act.put, List.setIfInBounds_toArray, List.set_cons_zero, List.set_cons_succ])
      refine wpAnyH_take (i := 1) (oi := { dst := some 18, op := Op.nilCheck (Operand.tmp 17), type := 0, pos := "model.go:54", after := #[{ on := 0, ground := Ground.data }], guard := none }) (v := ?_) rfl (by kernel_rfl) (by kernel_rfl) (by kernel_rfl) (fun _ _ _ h => h) (Or.inl ⟨by rfl, ?_⟩) hHeld ?_
      rotate_left
      · rintro Wx ⟨hS0, hS1, hS2⟩
        clear hS0
        first | (go_simp; done) | (go_simp; with_reducible rfl)
      (try simp only [Act.put, List.setIfInBounds_toArray, List.set_cons_zero, List.set_cons_succ])
      refine wpAnyH_take (i := 2) (oi := { dst := some 19, op := Op.fieldAddr 74 (Operand.tmp 18) 0, type := 0, pos := "model.go:54", after := #[{ on := 1, ground := Ground.data }], guard := none }) (v := ?_) rfl (by kernel_rfl) (by kernel_rfl) (by kernel_rfl) (fun _ _ _ h => h) (Or.inl ⟨by rfl, ?_⟩) hHeld ?_
      rotate_left
      · rintro Wx ⟨hS0, hS1, hS2⟩
        clear hS0
        first | (go_simp; done) | (go_simp; with_reducible rfl)
      (try simp only [Act.put, List.setIfInBounds_toArray, List.set_cons_zero, List.set_cons_succ])
      refine wpAnyH_take (i := 3) (oi := { dst := some 20, op := Op.load 33 (Operand.tmp 19), type := 33, pos := "model.go:54", after := #[{ on := 2, ground := Ground.data }], guard := none }) (v := .agg (stC mi.s)) rfl (by kernel_rfl) (by kernel_rfl) (by kernel_rfl) (fun _ _ _ h => h) (Or.inl ⟨by rfl, fun Wx hS => exec_load_mid 33 (.tmp 19) rfl b 0 rfl (stC mi.s) _ hS.1 Tryz.underlying33 rfl i12⟩) hHeld ?_
      (try simp only [Act.put, List.setIfInBounds_toArray, List.set_cons_zero, List.set_cons_succ])
      refine wpAnyH_take (i := 4) (oi := { dst := some 21, op := Op.move (Operand.tmp 0), type := 26, pos := "model.go:54", after := #[], guard := none }) (v := ?_) rfl (by kernel_rfl) (by kernel_rfl) (by kernel_rfl) (fun _ _ _ h => h) (Or.inl ⟨by rfl, ?_⟩) hHeld ?_
      rotate_left
      · rintro Wx ⟨hS0, hS1, hS2⟩
        clear hS0
        first | (go_simp; done) | (go_simp; with_reducible rfl)
      (try simp only [Act.put, List.setIfInBounds_toArray, List.set_cons_zero, List.set_cons_succ])
      refine wpAnyH_take (i := 5) (oi := { dst := some 22, op := Op.nilCheck (Operand.tmp 21), type := 0, pos := "model.go:54", after := #[{ on := 4, ground := Ground.data }], guard := none }) (v := ?_) rfl (by kernel_rfl) (by kernel_rfl) (by kernel_rfl) (fun _ _ _ h => h) (Or.inl ⟨by rfl, ?_⟩) hHeld ?_
      rotate_left
      · rintro Wx ⟨hS0, hS1, hS2⟩
        clear hS0
        first | (go_simp; done) | (go_simp; with_reducible rfl)
      (try simp only [Act.put, List.setIfInBounds_toArray, List.set_cons_zero, List.set_cons_succ])
      refine wpAnyH_take (i := 6) (oi := { dst := some 23, op := Op.fieldAddr 74 (Operand.tmp 22) 1, type := 0, pos := "model.go:54", after := #[{ on := 5, ground := Ground.data }], guard := none }) (v := ?_) rfl (by kernel_rfl) (by kernel_rfl) (by kernel_rfl) (fun _ _ _ h => h) (Or.inl ⟨by rfl, ?_⟩) hHeld ?_
      rotate_left
      · rintro Wx ⟨hS0, hS1, hS2⟩
        clear hS0
        first | (go_simp; done) | (go_simp; with_reducible rfl)
      (try simp only [Act.put, List.setIfInBounds_toArray, List.set_cons_zero, List.set_cons_succ])
      refine wpAnyH_take (i := 7) (oi := { dst := some 24, op := Op.load 67 (Operand.tmp 23), type := 67, pos := "model.go:54", after := #[{ on := 6, ground := Ground.data }], guard := none }) (v := ?_) rfl (by kernel_rfl) (by kernel_rfl) (by kernel_rfl) (fun _ _ _ h => h) (Or.inl ⟨by rfl, ?_⟩) hHeld ?_
      rotate_left
      · rintro Wx ⟨hS0, hS1, hS2⟩
        clear hS0
        first | (go_simp; done) | (go_simp; with_reducible rfl)
      (try simp only [Act.put, List.setIfInBounds_toArray, List.set_cons_zero, List.set_cons_succ])
      refine wpAnyH_take (i := 9) (oi := { dst := some 26, op := Op.move (Operand.tmp 0), type := 26, pos := "model.go:54", after := #[], guard := none }) (v := ?_) rfl (by kernel_rfl) (by kernel_rfl) (by kernel_rfl) (fun _ _ _ h => h) (Or.inl ⟨by rfl, ?_⟩) hHeld ?_
      rotate_left
      · rintro Wx ⟨hS0, hS1, hS2⟩
        clear hS0
        first | (go_simp; done) | (go_simp; with_reducible rfl)
      (try simp only [Act.put, List.setIfInBounds_toArray, List.set_cons_zero, List.set_cons_succ])
      refine wpAnyH_take (i := 10) (oi := { dst := some 27, op := Op.nilCheck (Operand.tmp 26), type := 0, pos := "model.go:54", after := #[{ on := 9, ground := Ground.data }], guard := none }) (v := ?_) rfl (by kernel_rfl) (by kernel_rfl) (by kernel_rfl) (fun _ _ _ h => h) (Or.inl ⟨by rfl, ?_⟩) hHeld ?_
      rotate_left
      · rintro Wx ⟨hS0, hS1, hS2⟩
        clear hS0
        first | (go_simp; done) | (go_simp; with_reducible rfl)
      (try simp only [Act.put, List.setIfInBounds_toArray, List.set_cons_zero, List.set_cons_succ])
      refine wpAnyH_take (i := 11) (oi := { dst := some 28, op := Op.fieldAddr 74 (Operand.tmp 27) 4, type := 0, pos := "model.go:54", after := #[{ on := 10, ground := Ground.data }], guard := none }) (v := ?_) rfl (by kernel_rfl) (by kernel_rfl) (by kernel_rfl) (fun _ _ _ h => h) (Or.inl ⟨by rfl, ?_⟩) hHeld ?_
      rotate_left
      · rintro Wx ⟨hS0, hS1, hS2⟩
        clear hS0
        first | (go_simp; done) | (go_simp; with_reducible rfl)
      (try simp only [Act.put, List.setIfInBounds_toArray, List.set_cons_zero, List.set_cons_succ])
      refine wpAnyH_take (i := 12) (oi := { dst := some 29, op := Op.load 3 (Operand.tmp 28), type := 3, pos := "model.go:54", after := #[{ on := 11, ground := Ground.data }], guard := none }) (v := ?_) rfl (by kernel_rfl) (by kernel_rfl) (by kernel_rfl) (fun _ _ _ h => h) (Or.inl ⟨by rfl, ?_⟩) hHeld ?_
      rotate_left
      · rintro Wx ⟨hS0, hS1, hS2⟩
        clear hS0
        first | (go_simp; done) | (go_simp; with_reducible rfl)
      (try simp only [Act.put, List.setIfInBounds_toArray, List.set_cons_zero, List.set_cons_succ])
      refine wpAnyH_ready (rs := [8, 17]) (by kernel_rfl) (by simp) ?_
      refine AllReadyH.cons (o := { dst := some 25, op := Op.call { callee := Callee.value (Operand.func 40), args := #[Operand.tmp 24], argTypes := #[67] }, type := 57, pos := "model.go:54", after := #[{ on := 7, ground := Ground.data }], guard := none }) rfl (fun K hK => ?_) (AllReadyH.cons (o := { dst := some 7, op := Op.alloc 85, type := 0, pos := "model.go:54", after := #[], guard := none }) rfl (fun K hK => ?_) AllReadyH.nil)
      · go_simp
        refine (HD0.out.look (mdx_keeps fb rb) (fun _ ⟨_, _, h⟩ => by have h2 := pkgf_is.view h.fl; rw [view_is] at h2; exact h2)).mono ?_
        rintro e x5 ⟨rfl, h⟩
        have HX5 := Lib.hid h
        clear h
        refine hK.out _ _ ?_ (fun hHeld => ?_)
        · exact ⟨HX5.out.mst, (HX5.out.mrow.cell 12).trans rfl, (HX5.out.mrow.cell 15).trans rfl⟩
        clear hK K
        (try simp only [Act.put, List.setIfInBounds_toArray, List.set_cons_zero, List.set_cons_succ])
        refine wpAnyH_ready (rs := [13, 17]) (by kernel_rfl) (by simp) ?_
        refine AllReadyH.cons (o := { dst := some 30, op := Op.call { callee := Callee.value (Operand.func 45), args := #[Operand.tmp 20, Operand.tmp 25, Operand.tmp 29], argTypes := #[33, 57, 3] }, type := 88, pos := "model.go:54", after := #[{ on := 3, ground := Ground.data }, { on := 8, ground := Ground.data }, { on := 12, ground := Ground.data }, { on := 8, ground := Ground.chain }], guard := none }) rfl (fun K hK => ?_) (AllReadyH.cons (o := { dst := some 7, op := Op.alloc 85, type := 0, pos := "model.go:54", after := #[], guard := none }) rfl (fun K hK => ?_) AllReadyH.nil)
        · go_simp
          refine (HX5.out.aside (mdx_keeps fb rb) (HNX.out _)).mono ?_
          rintro e x6 ⟨rfl, h⟩
          have HX6 := Lib.hid h
          clear h
          refine hK.out _ _ ?_ (fun hHeld => ?_)
          · exact ⟨HX6.out.mst, (HX6.out.mrow.cell 12).trans rfl, (HX6.out.mrow.cell 15).trans rfl⟩
          clear hK K
          (try simp only [Act.put, List.setIfInBounds_toArray, List.set_cons_zero, List.set_cons_succ])
          refine wpAnyH_take (i := 14) (oi := { dst := some 16, op := Op.move (Operand.tmp 30), type := 88, pos := "model.go:54", after := #[{ on := 13, ground := Ground.data }], guard := none }) (v := ?_) rfl (by kernel_rfl) (by kernel_rfl) (by kernel_rfl) (fun _ _ _ h => h) (Or.inl ⟨by rfl, ?_⟩) hHeld ?_
          rotate_left
          · rintro Wx ⟨hS0, hS1, hS2⟩
            clear hS0
            first | (go_simp; done) | (go_simp; with_reducible rfl)
          (try simp only [Act.put, List.setIfInBounds_toArray, List.set_cons_zero, List.set_cons_succ])
          refine wpAnyH_take (i := 15) (oi := { dst := some 31, op := Op.extract (Operand.tmp 16) 0, type := 3, pos := "model.go:54", after := #[{ on := 14, ground := Ground.data }], guard := none }) (v := ?_) rfl (by kernel_rfl) (by kernel_rfl) (by kernel_rfl) (fun _ _ _ h => h) (Or.inl ⟨by rfl, ?_⟩) hHeld ?_
          rotate_left
          · rintro Wx ⟨hS0, hS1, hS2⟩
            clear hS0
            first | (go_simp; done) | (go_simp; with_reducible rfl)
          (try simp only [Act.put, List.setIfInBounds_toArray, List.set_cons_zero, List.set_cons_succ])
          refine wpAnyH_take (i := 16) (oi := { dst := some 32, op := Op.extract (Operand.tmp 16) 1, type := 85, pos := "model.go:54", after := #[{ on := 14, ground := Ground.data }, { on := 18, ground := Ground.gcOnly Departure.lateStores }], guard := none }) (v := ?_) rfl (by kernel_rfl) (by kernel_rfl) (by kernel_rfl) (fun _ _ _ h => h) (Or.inl ⟨by rfl, ?_⟩) hHeld ?_
          rotate_left
          · rintro Wx ⟨hS0, hS1, hS2⟩
            clear hS0
            first | (go_simp; done) | (go_simp; with_reducible rfl)
          (try simp only [Act.put, List.setIfInBounds_toArray, List.set_cons_zero, List.set_cons_succ])
          refine wpAnyH_ready (rs := [17]) (by kernel_rfl) (by simp) ?_
          refine AllReadyH.cons (o := { dst := some 7, op := Op.alloc 85, type := 0, pos := "model.go:54", after := #[], guard := none }) rfl (fun K hK => ?_) AllReadyH.nil
          go_simp
          have h : Hold (MdX fb rb) O0 w _ ((x6.heap.size, #[.int .i64 0, .int .i64 0, .int .i64 0, .int .i64 0, .int .i64 0, .int .i64 0, .bool false, .int .i64 0, .int .i64 0, .int .i64 0, .int .i64 0, .int .i64 0, .int .i64 0, .bool false, .bool false, .int .i64 0, .int .i64 0, .int .i64 0, .int .i64 0], 85) :: []) b mi := HX6.out.alloc (mdx_keeps fb rb) #[.int .i64 0, .int .i64 0, .int .i64 0, .int .i64 0, .int .i64 0, .int .i64 0, .bool false, .int .i64 0, .int .i64 0, .int .i64 0, .int .i64 0, .int .i64 0, .int .i64 0, .bool false, .bool false, .int .i64 0, .int .i64 0, .int .i64 0, .int .i64 0] 85
          obtain ⟨X7, hX⟩ : ∃ X, X = x6.heap.size := ⟨_, rfl⟩
          rw [← hX] at h ⊢
          have HX7 := Lib.hid h
          clear h hX
          refine hK.out _ _ ?_ (fun hHeld => ?_)
          · exact ⟨HX7.out.mst, (HX7.out.mrow.cell 12).trans rfl, (HX7.out.mrow.cell 15).trans rfl⟩
          clear hK K
          (try simp only [Act.put, List.setIfInBounds_toArray, List.set_cons_zero, List.set_cons_succ])
          refine wpAnyH_take (i := 18) (oi := { dst := some 6, op := Op.assign (Operand.tmp 31), type := 3, pos := "model.go:54", after := #[{ on := 15, ground := Ground.data }, { on := 13, ground := Ground.chain }, { on := 0, ground := Ground.phase }, { on := 1, ground := Ground.phase }, { on := 2, ground := Ground.phase }, { on := 3, ground := Ground.phase }, { on := 4, ground := Ground.phase }, { on := 5, ground := Ground.phase }, { on := 6, ground := Ground.phase }, { on := 7, ground := Ground.phase }, { on := 8, ground := Ground.phase }, { on := 9, ground := Ground.phase }, { on := 10, ground := Ground.phase }, { on := 11, ground := Ground.phase }, { on := 12, ground := Ground.phase }, { on := 13, ground := Ground.phase }, { on := 14, ground := Ground.phase }, { on := 15, ground := Ground.phase }, { on := 16, ground := Ground.textOnly Departure.lateStores }, { on := 17, ground := Ground.phase }], guard := none }) (v := ?_) rfl (by kernel_rfl) (by kernel_rfl) (by kernel_rfl) (fun _ _ _ h => h) (Or.inl ⟨by rfl, ?_⟩) hHeld ?_
          rotate_left
          · rintro Wx ⟨hS0, hS1, hS2⟩
            clear hS0
            first | (go_simp; done) | (go_simp; with_reducible rfl)
          (try simp only [Act.put, List.setIfInBounds_toArray, List.set_cons_zero, List.set_cons_succ])
          refine wpAnyH_ready (rs := [19]) (by kernel_rfl) (by simp) ?_
          refine AllReadyH.cons (o := { dst := none, op := Op.store 85 (Operand.tmp 7) (Operand.tmp 32), type := 0, pos := "model.go:54", after := #[{ on := 17, ground := Ground.data }, { on := 16, ground := Ground.data }, { on := 18, ground := Ground.chain }, { on := 0, ground := Ground.phase }, { on := 1, ground := Ground.phase }, { on := 2, ground := Ground.phase }, { on := 3, ground := Ground.phase }, { on := 4, ground := Ground.phase }, { on := 5, ground := Ground.phase }, { on := 6, ground := Ground.phase }, { on := 7, ground := Ground.phase }, { on := 8, ground := Ground.phase }, { on := 9, ground := Ground.phase }, { on := 10, ground := Ground.phase }, { on := 11, ground := Ground.phase }, { on := 12, ground := Ground.phase }, { on := 13, ground := Ground.phase }, { on := 14, ground := Ground.phase }, { on := 15, ground := Ground.phase }, { on := 16, ground := Ground.phase }, { on := 17, ground := Ground.phase }, { on := 18, ground := Ground.phase }], guard := none }) rfl (fun K hK => ?_) AllReadyH.nil
          rw [if_pos (by rfl)]
          refine wp_store_row 85 (.tmp 7) (.tmp 32) rfl X7 rs rfl rfl 85 _ HX7.out.row1 (by rw [HZ_rs.out]; exact i19) (by rw [HZ_rs.out]; rfl) H1_rs.out ?_
          have h := HX7.out.setRow (mdx_keeps fb rb) rs
          have HX8 := Lib.hid h
          clear h
          refine hK.out _ _ ?_ (fun hHeld => ?_)
          · exact ⟨HX8.out.mst, (HX8.out.mrow.cell 12).trans rfl, (HX8.out.mrow.cell 15).trans rfl⟩
          clear hK K
          (try simp only [Act.put])
          refine wpAnyH_done (by kernel_rfl) ?_ _
          go_wp2
          go_meet
          case rel => exact ⟨X7, rfl, rfl, HX8.out⟩
        · go_simp
          have h : Hold (MdX fb rb) O0 w _ ((x5.heap.size, #[.int .i64 0, .int .i64 0, .int .i64 0, .int .i64 0, .int .i64 0, .int .i64 0, .bool false, .int .i64 0, .int .i64 0, .int .i64 0, .int .i64 0, .int .i64 0, .int .i64 0, .bool false, .bool false, .int .i64 0, .int .i64 0, .int .i64 0, .int .i64 0], 85) :: []) b mi := HX5.out.alloc (mdx_keeps fb rb) #[.int .i64 0, .int .i64 0, .int .i64 0, .int .i64 0, .int .i64 0, .int .i64 0, .bool false, .int .i64 0, .int .i64 0, .int .i64 0, .int .i64 0, .int .i64 0, .int .i64 0, .bool false, .bool false, .int .i64 0, .int .i64 0, .int .i64 0, .int .i64 0] 85
          obtain ⟨X9, hX⟩ : ∃ X, X = x5.heap.size := ⟨_, rfl⟩
          rw [← hX] at h ⊢
          have HX9 := Lib.hid h
          clear h hX
          refine hK.out _ _ ?_ (fun hHeld => ?_)
          · exact ⟨HX9.out.mst, (HX9.out.mrow.cell 12).trans rfl, (HX9.out.mrow.cell 15).trans rfl⟩
          clear hK K
          (try simp only [Act.put, List.setIfInBounds_toArray, List.set_cons_zero, List.set_cons_succ])
          refine wpAnyH_ready (rs := [13]) (by kernel_rfl) (by simp) ?_
          refine AllReadyH.cons (o := { dst := some 30, op := Op.call { callee := Callee.value (Operand.func 45), args := #[Operand.tmp 20, Operand.tmp 25, Operand.tmp 29], argTypes := #[33, 57, 3] }, type := 88, pos := "model.go:54", after := #[{ on := 3, ground := Ground.data }, { on := 8, ground := Ground.data }, { on := 12, ground := Ground.data }, { on := 8, ground := Ground.chain }], guard := none }) rfl (fun K hK => ?_) AllReadyH.nil
          go_simp
          refine (HX9.out.aside (mdx_keeps fb rb) (HNX.out _)).mono ?_
          rintro e x10 ⟨rfl, h⟩
          have HX10 := Lib.hid h
          clear h
          refine hK.out _ _ ?_ (fun hHeld => ?_)
          · exact ⟨HX10.out.mst, (HX10.out.mrow.cell 12).trans rfl, (HX10.out.mrow.cell 15).trans rfl⟩
          clear hK K
          (try simp only [Act.put, List.setIfInBounds_toArray, List.set_cons_zero, List.set_cons_succ])
          refine wpAnyH_take (i := 14) (oi := { dst := some 16, op := Op.move (Operand.tmp 30), type := 88, pos := "model.go:54", after := #[{ on := 13, ground := Ground.data }], guard := none }) (v := ?_) rfl (by kernel_rfl) (by kernel_rfl) (by kernel_rfl) (fun _ _ _ h => h) (Or.inl ⟨by rfl, ?_⟩) hHeld ?_
          rotate_left
          · rintro Wx ⟨hS0, hS1, hS2⟩
            clear hS0
            first | (go_simp; done) | (go_simp; with_reducible rfl)
          (try simp only [Act.put, List.setIfInBounds_toArray, List.set_cons_zero, List.set_cons_succ])
          refine wpAnyH_take (i := 15) (oi := { dst := some 31, op := Op.extract (Operand.tmp 16) 0, type := 3, pos := "model.go:54", after := #[{ on := 14, ground := Ground.data }], guard := none }) (v := ?_) rfl (by kernel_rfl) (by kernel_rfl) (by kernel_rfl) (fun _ _ _ h => h) (Or.inl ⟨by rfl, ?_⟩) hHeld ?_
          rotate_left
          · rintro Wx ⟨hS0, hS1, hS2⟩
            clear hS0
            first | (go_simp; done) | (go_simp; with_reducible rfl)
          (try simp only [Act.put, List.setIfInBounds_toArray, List.set_cons_zero, List.set_cons_succ])
          refine wpAnyH_take (i := 16) (oi := { dst := some 32, op := Op.extract (Operand.tmp 16) 1, type := 85, pos := "model.go:54", after := #[{ on := 14, ground := Ground.data }, { on := 18, ground := Ground.gcOnly Departure.lateStores }], guard := none }) (v := ?_) rfl (by kernel_rfl) (by kernel_rfl) (by kernel_rfl) (fun _ _ _ h => h) (Or.inl ⟨by rfl, ?_⟩) hHeld ?_
          rotate_left
          · rintro Wx ⟨hS0, hS1, hS2⟩
            clear hS0
            first | (go_simp; done) | (go_simp; with_reducible rfl)
          (try simp only [Act.put, List.setIfInBounds_toArray, List.set_cons_zero, List.set_cons_succ])
          refine wpAnyH_take (i := 18) (oi := { dst := some 6, op := Op.assign (Operand.tmp 31), type := 3, pos := "model.go:54", after := #[{ on := 15, ground := Ground.data }, { on := 13, ground := Ground.chain }, { on := 0, ground := Ground.phase }, { on := 1, ground := Ground.phase }, { on := 2, ground := Ground.phase }, { on := 3, ground := Ground.phase }, { on := 4, ground := Ground.phase }, { on := 5, ground := Ground.phase }, { on := 6, ground := Ground.phase }, { on := 7, ground := Ground.phase }, { on := 8, ground := Ground.phase }, { on := 9, ground := Ground.phase }, { on := 10, ground := Ground.phase }, { on := 11, ground := Ground.phase }, { on := 12, ground := Ground.phase }, { on := 13, ground := Ground.phase }, { on := 14, ground := Ground.phase }, { on := 15, ground := Ground.phase }, { on := 16, ground := Ground.textOnly Departure.lateStores }, { on := 17, ground := Ground.phase }], guard := none }) (v := ?_) rfl (by kernel_rfl) (by kernel_rfl) (by kernel_rfl) (fun _ _ _ h => h) (Or.inl ⟨by rfl, ?_⟩) hHeld ?_
          rotate_left
          · rintro Wx ⟨hS0, hS1, hS2⟩
            clear hS0
            first | (go_simp; done) | (go_simp; with_reducible rfl)
          (try simp only [Act.put, List.setIfInBounds_toArray, List.set_cons_zero, List.set_cons_succ])
          refine wpAnyH_ready (rs := [19]) (by kernel_rfl) (by simp) ?_
          refine AllReadyH.cons (o := { dst := none, op := Op.store 85 (Operand.tmp 7) (Operand.tmp 32), type := 0, pos := "model.go:54", after := #[{ on := 17, ground := Ground.data }, { on := 16, ground := Ground.data }, { on := 18, ground := Ground.chain }, { on := 0, ground := Ground.phase }, { on := 1, ground := Ground.phase }, { on := 2, ground := Ground.phase }, { on := 3, ground := Ground.phase }, { on := 4, ground := Ground.phase }, { on := 5, ground := Ground.phase }, { on := 6, ground := Ground.phase }, { on := 7, ground := Ground.phase }, { on := 8, ground := Ground.phase }, { on := 9, ground := Ground.phase }, { on := 10, ground := Ground.phase }, { on := 11, ground := Ground.phase }, { on := 12, ground := Ground.phase }, { on := 13, ground := Ground.phase }, { on := 14, ground := Ground.phase }, { on := 15, ground := Ground.phase }, { on := 16, ground := Ground.phase }, { on := 17, ground := Ground.phase }, { on := 18, ground := Ground.phase }], guard := none }) rfl (fun K hK => ?_) AllReadyH.nil
          rw [if_pos (by rfl)]
          refine wp_store_row 85 (.tmp 7) (.tmp 32) rfl X9 rs rfl rfl 85 _ HX10.out.row1 (by rw [HZ_rs.out]; exact i19) (by rw [HZ_rs.out]; rfl) H1_rs.out ?_
          have h := HX10.out.setRow (mdx_keeps fb rb) rs
          have HX11 := Lib.hid h
          clear h
          refine hK.out _ _ ?_ (fun hHeld => ?_)
          · exact ⟨HX11.out.mst, (HX11.out.mrow.cell 12).trans rfl, (HX11.out.mrow.cell 15).trans rfl⟩
          clear hK K
          (try simp only [Act.put])
          refine wpAnyH_done (by kernel_rfl) ?_ _
          go_wp2
          go_meet
          case rel => exact ⟨X9, rfl, rfl, HX11.out⟩
      · go_simp
        have h : Hold (MdX fb rb) O0 w _ ((wr.heap.size, #[.int .i64 0, .int .i64 0, .int .i64 0, .int .i64 0, .int .i64 0, .int .i64 0, .bool false, .int .i64 0, .int .i64 0, .int .i64 0, .int .i64 0, .int .i64 0, .int .i64 0, .bool false, .bool false, .int .i64 0, .int .i64 0, .int .i64 0, .int .i64 0], 85) :: []) b mi := HD0.out.alloc (mdx_keeps fb rb) #[.int .i64 0, .int .i64 0, .int .i64 0, .int .i64 0, .int .i64 0, .int .i64 0, .bool false, .int .i64 0, .int .i64 0, .int .i64 0, .int .i64 0, .int .i64 0, .int .i64 0, .bool false, .bool false, .int .i64 0, .int .i64 0, .int .i64 0, .int .i64 0] 85
        obtain ⟨X12, hX⟩ : ∃ X, X = wr.heap.size := ⟨_, rfl⟩
        rw [← hX] at h ⊢
        have HX12 := Lib.hid h
        clear h hX
        refine hK.out _ _ ?_ (fun hHeld => ?_)
        · exact ⟨HX12.out.mst, (HX12.out.mrow.cell 12).trans rfl, (HX12.out.mrow.cell 15).trans rfl⟩
        clear hK K
        (try simp only [Act.put, List.setIfInBounds_toArray, List.set_cons_zero, List.set_cons_succ])
        refine wpAnyH_ready (rs := [8]) (by kernel_rfl) (by simp) ?_
        refine AllReadyH.cons (o := { dst := some 25, op := Op.call { callee := Callee.value (Operand.func 40), args := #[Operand.tmp 24], argTypes := #[67] }, type := 57, pos := "model.go:54", after := #[{ on := 7, ground := Ground.data }], guard := none }) rfl (fun K hK => ?_) AllReadyH.nil
        go_simp
        refine (HX12.out.look (mdx_keeps fb rb) (fun _ ⟨_, _, h⟩ => by have h2 := pkgf_is.view h.fl; rw [view_is] at h2; exact h2)).mono ?_
        rintro e x13 ⟨rfl, h⟩
        have HX13 := Lib.hid h
        clear h
        refine hK.out _ _ ?_ (fun hHeld => ?_)
        · exact ⟨HX13.out.mst, (HX13.out.mrow.cell 12).trans rfl, (HX13.out.mrow.cell 15).trans rfl⟩
        clear hK K
        (try simp only [Act.put, List.setIfInBounds_toArray, List.set_cons_zero, List.set_cons_succ])
        refine wpAnyH_ready (rs := [13]) (by kernel_rfl) (by simp) ?_
        refine AllReadyH.cons (o := { dst := some 30, op := Op.call { callee := Callee.value (Operand.func 45), args := #[Operand.tmp 20, Operand.tmp 25, Operand.tmp 29], argTypes := #[33, 57, 3] }, type := 88, pos := "model.go:54", after := #[{ on := 3, ground := Ground.data }, { on := 8, ground := Ground.data }, { on := 12, ground := Ground.data }, { on := 8, ground := Ground.chain }], guard := none }) rfl (fun K hK => ?_) AllReadyH.nil
        go_simp
        refine (HX13.out.aside (mdx_keeps fb rb) (HNX.out _)).mono ?_
        rintro e x14 ⟨rfl, h⟩
        have HX14 := Lib.hid h
        clear h
        refine hK.out _ _ ?_ (fun hHeld => ?_)
        · exact ⟨HX14.out.mst, (HX14.out.mrow.cell 12).trans rfl, (HX14.out.mrow.cell 15).trans rfl⟩
        clear hK K
        (try simp only [Act.put, List.setIfInBounds_toArray, List.set_cons_zero, List.set_cons_succ])
        refine wpAnyH_take (i := 14) (oi := { dst := some 16, op := Op.move (Operand.tmp 30), type := 88, pos := "model.go:54", after := #[{ on := 13, ground := Ground.data }], guard := none }) (v := ?_) rfl (by kernel_rfl) (by kernel_rfl) (by kernel_rfl) (fun _ _ _ h => h) (Or.inl ⟨by rfl, ?_⟩) hHeld ?_
        rotate_left
        · rintro Wx ⟨hS0, hS1, hS2⟩
          clear hS0
          first | (go_simp; done) | (go_simp; with_reducible rfl)
        (try simp only [Act.put, List.setIfInBounds_toArray, List.set_cons_zero, List.set_cons_succ])
        refine wpAnyH_take (i := 15) (oi := { dst := some 31, op := Op.extract (Operand.tmp 16) 0, type := 3, pos := "model.go:54", after := #[{ on := 14, ground := Ground.data }], guard := none }) (v := ?_) rfl (by kernel_rfl) (by kernel_rfl) (by kernel_rfl) (fun _ _ _ h => h) (Or.inl ⟨by rfl, ?_⟩) hHeld ?_
        rotate_left
        · rintro Wx ⟨hS0, hS1, hS2⟩
          clear hS0
          first | (go_simp; done) | (go_simp; with_reducible rfl)
        (try simp only [Act.put, List.setIfInBounds_toArray, List.set_cons_zero, List.set_cons_succ])
        refine wpAnyH_take (i := 16) (oi := { dst := some 32, op := Op.extract (Operand.tmp 16) 1, type := 85, pos := "model.go:54", after := #[{ on := 14, ground := Ground.data }, { on := 18, ground := Ground.gcOnly Departure.lateStores }], guard := none }) (v := ?_) rfl (by kernel_rfl) (by kernel_rfl) (by kernel_rfl) (fun _ _ _ h => h) (Or.inl ⟨by rfl, ?_⟩) hHeld ?_
        rotate_left
        · rintro Wx ⟨hS0, hS1, hS2⟩
          clear hS0
          first | (go_simp; done) | (go_simp; with_reducible rfl)
        (try simp only [Act.put, List.setIfInBounds_toArray, List.set_cons_zero, List.set_cons_succ])
        refine wpAnyH_take (i := 18) (oi := { dst := some 6, op := Op.assign (Operand.tmp 31), type := 3, pos := "model.go:54", after := #[{ on := 15, ground := Ground.data }, { on := 13, ground := Ground.chain }, { on := 0, ground := Ground.phase }, { on := 1, ground := Ground.phase }, { on := 2, ground := Ground.phase }, { on := 3, ground := Ground.phase }, { on := 4, ground := Ground.phase }, { on := 5, ground := Ground.phase }, { on := 6, ground := Ground.phase }, { on := 7, ground := Ground.phase }, { on := 8, ground := Ground.phase }, { on := 9, ground := Ground.phase }, { on := 10, ground := Ground.phase }, { on := 11, ground := Ground.phase }, { on := 12, ground := Ground.phase }, { on := 13, ground := Ground.phase }, { on := 14, ground := Ground.phase }, { on := 15, ground := Ground.phase }, { on := 16, ground := Ground.textOnly Departure.lateStores }, { on := 17, ground := Ground.phase }], guard := none }) (v := ?_) rfl (by kernel_rfl) (by kernel_rfl) (by kernel_rfl) (fun _ _ _ h => h) (Or.inl ⟨by rfl, ?_⟩) hHeld ?_
        rotate_left
        · rintro Wx ⟨hS0, hS1, hS2⟩
          clear hS0
          first | (go_simp; done) | (go_simp; with_reducible rfl)
        (try simp only [Act.put, List.setIfInBounds_toArray, List.set_cons_zero, List.set_cons_succ])
        refine wpAnyH_ready (rs := [19]) (by kernel_rfl) (by simp) ?_
        refine AllReadyH.cons (o := { dst := none, op := Op.store 85 (Operand.tmp 7) (Operand.tmp 32), type := 0, pos := "model.go:54", after := #[{ on := 17, ground := Ground.data }, { on := 16, ground := Ground.data }, { on := 18, ground := Ground.chain }, { on := 0, ground := Ground.phase }, { on := 1, ground := Ground.phase }, { on := 2, ground := Ground.phase }, { on := 3, ground := Ground.phase }, { on := 4, ground := Ground.phase }, { on := 5, ground := Ground.phase }, { on := 6, ground := Ground.phase }, { on := 7, ground := Ground.phase }, { on := 8, ground := Ground.phase }, { on := 9, ground := Ground.phase }, { on := 10, ground := Ground.phase }, { on := 11, ground := Ground.phase }, { on := 12, ground := Ground.phase }, { on := 13, ground := Ground.phase }, { on := 14, ground := Ground.phase }, { on := 15, ground := Ground.phase }, { on := 16, ground := Ground.phase }, { on := 17, ground := Ground.phase }, { on := 18, ground := Ground.phase }], guard := none }) rfl (fun K hK => ?_) AllReadyH.nil
        rw [if_pos (by rfl)]
        refine wp_store_row 85 (.tmp 7) (.tmp 32) rfl X12 rs rfl rfl 85 _ HX14.out.row1 (by rw [HZ_rs.out]; exact i19) (by rw [HZ_rs.out]; rfl) H1_rs.out ?_
        have h := HX14.out.setRow (mdx_keeps fb rb) rs
        have HX15 := Lib.hid h
        clear h
        refine hK.out _ _ ?_ (fun hHeld => ?_)
        · exact ⟨HX15.out.mst, (HX15.out.mrow.cell 12).trans rfl, (HX15.out.mrow.cell 15).trans rfl⟩
        clear hK K
        (try simp only [Act.put])
        refine wpAnyH_done (by kernel_rfl) ?_ _
        go_wp2
        go_meet
        case rel => exact ⟨X12, rfl, rfl, HX15.out⟩
    case rest =>
      clear HO HNX
      obtain ⟨Y, rfl, rfl, h⟩ := hcut
      have HC1 := Lib.hid h
      clear h
      rcases HAR.out with rfl | rfl | rfl | rfl | rfl | rfl | rfl
      · go_wp2
        (try rw [Exit.noGoto_ret])
        go_ret
        exact ⟨by rw [HSM.out, HEQ.out]; rfl, by rw [HSM.out, HEQ.out]; exact HC1.out.nil.fin⟩
      · go_wp2_with (first | (refine wpList_load_any (by rfl) 85 (.tmp 7) rfl Y rfl 85 rs (0, 0) _ HC1.out.row1 Tryz.underlying85 rfl (by rw [HZ_rs.out]; exact i19) ?_))
        refine (HBEC.out _ _ HC1.out).mono ?_
        rintro e y1 ⟨rfl, h⟩
        have HY1 := Lib.hid h
        clear h HC1 HBEC
        go_wp2_with fail
        refine (HY1.out.turn (fun _ h => pflt_any h)).mono ?_
        rintro e y2 ⟨rfl, h⟩
        have HY2 := Lib.hid h
        clear h HY1
        go_wp2
        (try rw [Exit.noGoto_ret])
        go_ret
        exact ⟨by rw [HSM.out, HEQ.out]; rfl, by rw [HSM.out, HEQ.out]; exact HY2.out.nil.fin⟩
      · rw [← put_same HFR.out.set HAA.out.symm HRR.out.symm (by omega)] at HBEC
        obtain ⟨pk, hpk⟩ : ∃ x, x = (putM mi r).2 := ⟨_, rfl⟩
        have HPK := Lib.hid hpk
        rw [← hpk] at HBEC
        go_wp2_with (first | (refine wpList_load_any (by rfl) 85 (.tmp 7) rfl Y rfl 85 rs (0, 0) _ HC1.out.row1 Tryz.underlying85 rfl (by rw [HZ_rs.out]; exact i19) ?_))
        refine (HBEC.out _ _ HC1.out).mono ?_
        rintro e y1 ⟨rfl, h⟩
        have HY1 := Lib.hid h
        clear h HC1 HBEC hpk
        cases pk with
        | false =>
          go_wp2
          (try rw [Exit.noGoto_ret])
          go_ret
          exact ⟨by rw [HSM.out, HEQ.out, if_neg (by decide), if_neg (by decide), if_neg (by decide), if_pos HPK.out.symm]; rfl, by rw [HSM.out, HEQ.out, if_neg (by decide), if_neg (by decide), if_neg (by decide), if_pos HPK.out.symm]; exact HY1.out.nil.fin⟩
        | true =>
          have HFG := Lib.hid (far_go HFR.out HAA.out.symm HRR.out.symm (by omega) HPK.out.symm)
          go_wp2
          go_roundg ((3 - (putM mi r).1.s.sw).toNat)
          case measure => have := HFG.out.2; have := HG.out; omega
          case rel => exact ⟨(putM mi r).1, ni - 1, Lib.hid (by have := HFG.out.2; omega), rfl, Lib.hid HFG.out.1, Lib.hid HY1.out.nil⟩
      · rw [← put_same HFR.out.set HAA.out.symm HRR.out.symm (by omega)] at HBEC
        obtain ⟨pk, hpk⟩ : ∃ x, x = (putM mi r).2 := ⟨_, rfl⟩
        have HPK := Lib.hid hpk
        rw [← hpk] at HBEC
        go_wp2_with (first | (refine wpList_load_any (by rfl) 85 (.tmp 7) rfl Y rfl 85 rs (0, 0) _ HC1.out.row1 Tryz.underlying85 rfl (by rw [HZ_rs.out]; exact i19) ?_))
        refine (HBEC.out _ _ HC1.out).mono ?_
        rintro e y1 ⟨rfl, h⟩
        have HY1 := Lib.hid h
        clear h HC1 HBEC hpk
        cases pk with
        | false =>
          go_wp2
          (try rw [Exit.noGoto_ret])
          go_ret
          exact ⟨by rw [HSM.out, HEQ.out, if_neg (by decide), if_neg (by decide), if_neg (by decide), if_pos HPK.out.symm]; rfl, by rw [HSM.out, HEQ.out, if_neg (by decide), if_neg (by decide), if_neg (by decide), if_pos HPK.out.symm]; exact HY1.out.nil.fin⟩
        | true =>
          have HFG := Lib.hid (far_go HFR.out HAA.out.symm HRR.out.symm (by omega) HPK.out.symm)
          go_wp2
          go_roundg ((3 - (putM mi r).1.s.sw).toNat)
          case measure => have := HFG.out.2; have := HG.out; omega
          case rel => exact ⟨(putM mi r).1, ni - 1, Lib.hid (by have := HFG.out.2; omega), rfl, Lib.hid HFG.out.1, Lib.hid HY1.out.nil⟩
      · go_wp2_with (first | (refine wpList_load_any (by rfl) 85 (.tmp 7) rfl Y rfl 85 rs (0, 0) _ HC1.out.row1 Tryz.underlying85 rfl (by rw [HZ_rs.out]; exact i19) ?_))
        refine (HBEC.out _ _ HC1.out).mono ?_
        rintro e y1 ⟨rfl, h⟩
        have HY1 := Lib.hid h
        clear h HC1 HBEC
        go_wp2_with fail
        refine (HY1.out.turn (fun _ h => pflt_any h)).mono ?_
        rintro e y2 ⟨rfl, h⟩
        have HY2 := Lib.hid h
        clear h HY1
        go_wp2
        (try rw [Exit.noGoto_ret])
        go_ret
        exact ⟨by rw [HSM.out, HEQ.out]; rfl, by rw [HSM.out, HEQ.out]; exact HY2.out.nil.fin⟩
      · have HROU : Hid (∀ W L, Hold (MdX fb rb) O0 w W L b mi → Calls Tryz.prog 46 #[ptr b] W fun e w' => e = .returned (.int .i64 (routeM mi).2) ∧ Hold (MdX fb rb) O0 w w' L b (routeM mi).1) := Lib.hid (fun W L h => h.turn (fun _ h => proute_any (n := n + 1) h HFR.out.set (by rw [HFR.out.ro, HFR.out.fu]; exact HBD.out) (by have := HN.out; omega)))
        go_wp2_with fail
        refine (HROU.out _ _ HC1.out).mono ?_
        rintro e y1 ⟨rfl, h⟩
        have HY1 := Lib.hid h
        clear h HC1 HBEC HROU
        go_wp2
        (try rw [Exit.noGoto_ret])
        go_ret
        exact ⟨by rw [HSM.out, HEQ.out]; rfl, by rw [HSM.out, HEQ.out]; exact HY1.out.nil.fin⟩
      · go_wp2_with (first | (refine wpList_load_any (by rfl) 85 (.tmp 7) rfl Y rfl 85 rs (0, 0) _ HC1.out.row1 Tryz.underlying85 rfl (by rw [HZ_rs.out]; exact i19) ?_))
        refine (HBEC.out _ _ HC1.out).mono ?_
        rintro e y1 ⟨rfl, h⟩
        have HY1 := Lib.hid h
        clear h HC1 HBEC
        go_wp2_with fail
        refine (HY1.out.turn (fun _ h => pflt_any h)).mono ?_
        rintro e y2 ⟨rfl, h⟩
        have HY2 := Lib.hid h
        clear h HY1
        go_wp2
        (try rw [Exit.noGoto_ret])
        go_ret
        exact ⟨by rw [HSM.out, HEQ.out]; rfl, by rw [HSM.out, HEQ.out]; exact HY2.out.nil.fin⟩
end
end Go.Proofs.YtchaeidmjoelnaaGreat
namespace Go.Proofs.YtchaeidmjoelnaaGreat
open Go.RowKit

def noO : Nat → Prop := fun _ => False
/-- The parts of a model just made: its fleet, its fuse, its router; X: a row of the function's own. -/
structure Made (w W : World) (X fb g rb b : Nat) (OF : Nat → Prop) : Prop where
  fl : FlP OF W fb [] []
  of : ∀ j, OF j → w.heap.size ≤ j ∧ j ≠ X ∧ j ≠ g ∧ j ≠ rb ∧ j ≠ b
  fz : Fz W g 111 ⟨false, 0, false, 0⟩
  ro : RoP W rb g (.slice none 0 0) ⟨0, 0, [], 0⟩
  low : Below w.heap.size w W
  ge : w.heap.size ≤ X ∧ w.heap.size ≤ g ∧ w.heap.size ≤ rb ∧ w.heap.size ≤ b
  ne : X ≠ g ∧ X ≠ rb ∧ X ≠ b ∧ b ≠ g ∧ b ≠ rb
theorem Made.hold {w W : World} {X fb g rb b : Nat} {OF : Nat → Prop} {cs : Array Value} {m : Md} (h : Made w W X fb g rb b OF) (hx : Rw W X cs 33) (hr : Rw W b (mdC m fb rb) 74) (h1 : m.k = []) (h2 : m.l = []) (h3 : m.ro = ⟨0, 0, [], 0⟩) (h4 : m.fu = ⟨false, 0, false, 0⟩) : Hold (MdX fb rb) noO w W [(X, cs, 33)] b m := by
  obtain ⟨ne1, ne2, ne3, ne4, ne5⟩ := h.ne
  obtain ⟨ge1, ge2, ge3, ge4⟩ := h.ge
  have hmem : ∀ r ∈ ([(X, cs, 33)] : List Row), r = (X, cs, 33) := fun r hr => by simpa using hr
  refine ⟨⟨fun j => OF j ∨ j = g ∨ j = rb ∨ j = b, ⟨OF, fun j => j = g ∨ j = rb, ⟨hr, by rw [h1, h2]; exact h.fl, ⟨g, .slice none 0 0, by rw [h3]; exact h.ro, by rw [h4]; exact h.fz, .inr rfl, .inl rfl, fun k hk => by simp [Value.ownBlock] at hk, fun j hj => ?_⟩, fun ho => (h.of b ho).2.2.2.2 rfl, fun ho => ?_, fun j hj ho => ?_, .inr (.inr (.inr rfl)), fun j hj => .inl hj, fun j hj => ?_, fun j hj => ?_⟩⟩, fun j hj => .inr ?_, fun r hr ho => ?_⟩, ⟨h.low.os, h.low.tape, h.low.output, h.low.size, fun j hj _ => h.low.block j hj⟩, fun r hr => ?_, fun r hr => ?_, ?_⟩
  · rcases hj with rfl | rfl
    · exact h.fz.lt
    · exact lt_of_block h.ro.row
  · rcases ho with e | e
    · exact ne4 e
    · exact ne5 e
  · have := h.of j hj
    rcases ho with e | e
    · exact this.2.2.1 e
    · exact this.2.2.2.1 e
  · rcases hj with e | e
    · exact .inr (.inl e)
    · exact .inr (.inr (.inl e))
  · rcases hj with e | rfl | rfl | rfl
    · exact flp_keeps.lt h.fl j e
    · exact h.fz.lt
    · exact lt_of_block h.ro.row
    · exact hr.lt
  · rcases hj with e | rfl | rfl | rfl
    · exact (h.of j e).1
    · exact ge2
    · exact ge3
    · exact ge4
  · rw [hmem r hr] at ho
    rcases ho with e | e | e | e
    · exact (h.of X e).2.1 rfl
    · exact ne1 e
    · exact ne2 e
    · exact ne3 e
  · rw [hmem r hr]; exact hx
  · rw [hmem r hr]; exact ge1
  · simp
section
set_option maxRecDepth 100000 in
set_option maxHeartbeats 8000000 in
theorem pnew_m (rev n tries : Int) (w : World) : Calls Tryz.prog 6 #[.int .i64 rev, .int .i64 n, .int .i64 tries] w fun e w' =>
    (rightS (firstS rev n) = true ∧ ∃ b, e = .returned (.tuple #[ptr b, .int .i64 0]) ∧ NewO MdP w w' b (newM (firstS rev n) tries)) ∨ (rightS (firstS rev n) = false ∧ e = .returned (.tuple #[.pointer none, .int .i64 1]) ∧ Below w.heap.size w w') := by
  obtain ⟨rt, hrt⟩ : ∃ x, x = rightS (firstS rev n) := ⟨_, rfl⟩
  have HRT := Lib.hid hrt
  obtain ⟨sf, hsf⟩ : ∃ c, c = stC (firstR rev n).1 := ⟨_, rfl⟩
  have HZ_sf : Hid (sf.size = 12) := Lib.hid (by rw [hsf]; rfl)
  have H1_sf : Hid (sf.all (·.oneCell') = true) := Lib.hid (by rw [hsf]; exact stC_one _)
  have HFS : Hid (rt = true → sf = stC (firstS rev n)) := Lib.hid (fun h => by rw [hsf]; unfold firstR; rw [if_pos (by rw [← hrt]; exact h)])
  have HFI : Hid (∀ W, Calls Tryz.prog 21 #[.int .i64 rev, .int .i64 n] W fun e w' => e = .returned (.tuple #[.agg sf, .bool rt]) ∧ Below W.heap.size W w') := Lib.hid (fun W => by
    have h := first_any rev n W
    unfold StepR stV at h
    rw [← hsf, show (firstR rev n).2 = rt by unfold firstR; rw [hrt]; split <;> simp_all] at h
    exact h)
  clear hrt hsf
  go_enter Tryz.func6, Tryz.ntmps6
  go_wp2_with fail
  refine (HFI.out _).mono ?_
  rintro e u1 ⟨rfl, h⟩
  have HB1 := Lib.hid h
  clear h HFI
  go_upto_region 2 with (first | (refine wpList_plain rfl fun _ hK => wp_store_row 33 (.tmp 8) (.tmp 15) rfl u1.heap.size sf rfl rfl 33 _ (Rw.new u1 _ 33) (by rw [HZ_sf.out]; exact i12) (by rw [HZ_sf.out]; rfl) H1_sf.out (hK _ _ ?_); clear hK))
  obtain ⟨X, hX⟩ : ∃ X, X = u1.heap.size := ⟨_, rfl⟩
  rw [← hX]
  refine name_w (fun V => Rw V X sf 33 ∧ Below w.heap.size w V ∧ w.heap.size ≤ X) ?_ ?_
  · rw [hX]
    have ba := (Below.refl u1.heap.size u1).alloc (Nat.le_refl _) (.cells zeroSC 33)
    have bb := below_setRow ba (Nat.le_refl _) (b := u1.heap.size) sf
    exact ⟨(Rw.new u1 _ 33).set sf, HB1.out.trans (bb.mono HB1.out.size), HB1.out.size⟩
  clear hX HB1
  rintro u2 ⟨h1, h2, h3⟩
  have HX0 := Lib.hid h1
  have HB0 := Lib.hid h2
  have HXG := Lib.hid h3
  clear h1 h2 h3
  cases rt with
  | false =>
    go_wp2
    go_ret2
    exact .inr ⟨HRT.out.symm, rfl, HB0.out⟩
  | true =>
  have HRI : Hid (rightS (firstS rev n) = true) := Lib.hid HRT.out.symm
  obtain ⟨mz, hmz⟩ : ∃ m : Md, m = ⟨firstS rev n, [], [], ⟨0, 0, [], 0⟩, ⟨false, 0, false, 0⟩, tries, 0⟩ := ⟨_, rfl⟩
  have HMZ := Lib.hid hmz
  have HD0 : Hid (Rw u2.drew X (stC (firstS rev n)) 33) := Lib.hid (by rw [← HFS.out rfl]; exact HX0.out.drew)
  have HBB : Hid (Below w.heap.size w u2.drew) := Lib.hid (below_drew HB0.out)
  clear hmz HX0 HB0 HFS HRT
  go_upto_region 4 with (fail)
  refine wp_region_held_drew (S := fun Wx => Rw Wx X (stC (firstS rev n)) 33) (by kernel_rfl) (HD0.out) (fun hHeld => ?_)
  refine wpAnyH_take (i := 0) (oi := { dst := some 19, op := Op.load 33 (Operand.tmp 8), type := 33, pos := "model.go:31", after := #[], guard := none }) (v := .agg #[.int .i64 0, .int .i64 0, .int .i64 rev, .int .i64 0, .int .i64 n, .int .i64 0, .bool true, .bool false, .int .i64 0, .int .i64 0, .int .i64 0, .int .i64 0]) rfl (by kernel_rfl) (by kernel_rfl) (by kernel_rfl) (fun _ _ _ h => h) (Or.inl ⟨by rfl, fun Wx hS => exec_load_row 33 (.tmp 8) rfl X rfl 33 (stC (firstS rev n)) (0, 0) _ hS Tryz.underlying33 rfl i12⟩) hHeld ?_
  (try simp only [Act.put, List.setIfInBounds_toArray, List.set_cons_zero, List.set_cons_succ])
  refine wpAnyH_take (i := 4) (oi := { dst := some 23, op := Op.move (Operand.tmp 2), type := 3, pos := "model.go:31", after := #[], guard := none }) (v := ?_) rfl (by kernel_rfl) (by kernel_rfl) (by kernel_rfl) (fun _ _ _ h => h) (Or.inl ⟨by rfl, ?_⟩) hHeld ?_
  rotate_left
  · intro Wx hS0
    clear hS0
    first | (go_simp; done) | (go_simp; with_reducible rfl)
  (try simp only [Act.put, List.setIfInBounds_toArray, List.set_cons_zero, List.set_cons_succ])
  refine wpAnyH_ready (rs := [1]) (by kernel_rfl) (by simp) ?_
  refine AllReadyH.cons (o := { dst := some 20, op := Op.call { callee := Callee.value (Operand.func 22), args := #[], argTypes := #[] }, type := 67, pos := "model.go:31", after := #[], guard := none }) rfl (fun K hK => ?_) AllReadyH.nil
  go_simp
  refine (pnew2_any _).mono ?_
  rintro e x1 ⟨fb, rfl, OF, hf, ho, hb⟩
  have HX1 := Lib.hid (HD0.out.under hb HD0.out.lt)
  have HB1 := Lib.hid (HBB.out.trans (hb.mono HBB.out.size))
  have HF1 : Hid (FlP OF x1 fb [] []) := Lib.hid hf
  have HO1 : Hid (∀ j, OF j → w.heap.size ≤ j ∧ j < x1.heap.size ∧ j ≠ X) := Lib.hid (fun j hj => ⟨Nat.le_trans HBB.out.size (ho j hj), flp_keeps.lt hf j hj, fun e => by have h1 := ho j hj; have h2 := HD0.out.lt; omega⟩)
  clear hf ho hb HD0 HBB
  refine hK.out _ _ ?_ (fun hHeld => ?_)
  · exact HX1.out
  clear hK K
  (try simp only [Act.put, List.setIfInBounds_toArray, List.set_cons_zero, List.set_cons_succ])
  refine wpAnyH_ready (rs := [2]) (by kernel_rfl) (by simp) ?_
  refine AllReadyH.cons (o := { dst := some 21, op := Op.call { callee := Callee.value (Operand.func 24), args := #[], argTypes := #[] }, type := 71, pos := "model.go:31", after := #[{ on := 1, ground := Ground.chain }], guard := none }) rfl (fun K hK => ?_) AllReadyH.nil
  go_simp
  refine (new_any _).mono ?_
  rintro e x2 ⟨g, rfl, hg, hz, hb⟩
  have HX2 := Lib.hid (HX1.out.under hb HX1.out.lt)
  have HB2 := Lib.hid (HB1.out.trans (hb.mono HB1.out.size))
  have HF2 : Hid (FlP OF x2 fb [] []) := Lib.hid (flp_keeps.keep HF1.out (fun j hj => hb.block j (HO1.out j hj).2.1))
  have HG2 : Hid (Fz x2 g 111 ⟨false, 0, false, 0⟩) := Lib.hid hz
  have HO2 : Hid ((∀ j, OF j → w.heap.size ≤ j ∧ j ≠ X ∧ j < g) ∧ w.heap.size ≤ g ∧ X < g ∧ g < x2.heap.size) := Lib.hid ⟨fun j hj => ⟨(HO1.out j hj).1, (HO1.out j hj).2.2, by have := (HO1.out j hj).2.1; omega⟩, by have := HB1.out.size; omega, by have := HX1.out.lt; omega, hz.lt⟩
  clear hg hz hb HX1 HB1 HF1 HO1
  refine hK.out _ _ ?_ (fun hHeld => ?_)
  · exact HX2.out
  clear hK K
  (try simp only [Act.put, List.setIfInBounds_toArray, List.set_cons_zero, List.set_cons_succ])
  refine wpAnyH_ready (rs := [3]) (by kernel_rfl) (by simp) ?_
  refine AllReadyH.cons (o := { dst := some 22, op := Op.call { callee := Callee.value (Operand.func 23), args := #[Operand.tmp 21], argTypes := #[71] }, type := 69, pos := "model.go:31", after := #[{ on := 2, ground := Ground.data }, { on := 2, ground := Ground.chain }], guard := none }) rfl (fun K hK => ?_) AllReadyH.nil
  go_simp
  refine (rnew_any g _).mono ?_
  rintro e x3 ⟨rfl, hr, hb, hs⟩
  obtain ⟨rb, hrb⟩ : ∃ x, x = x2.heap.size := ⟨_, rfl⟩
  rw [← hrb] at hr ⊢
  have HX3 := Lib.hid (HX2.out.under hb HX2.out.lt)
  have HB3 := Lib.hid (HB2.out.trans (hb.mono HB2.out.size))
  have HF3 : Hid (FlP OF x3 fb [] []) := Lib.hid (flp_keeps.keep HF2.out (fun j hj => hb.block j (by have := (HO2.out.1 j hj).2.2; have := HO2.out.2.2.2; omega)))
  have HG3 : Hid (Fz x3 g 111 ⟨false, 0, false, 0⟩) := Lib.hid ((hb.block g HG2.out.lt).trans HG2.out)
  have HR3 := Lib.hid hr
  have HO3 : Hid (g < rb ∧ rb < x3.heap.size) := Lib.hid ⟨by have := HO2.out.2.2.2; omega, lt_of_block hr.row⟩
  clear hr hb hs hrb HX2 HB2 HF2 HG2
  refine hK.out _ _ ?_ (fun hHeld => ?_)
  · exact HX3.out
  clear hK K
  (try simp only [Act.put, List.setIfInBounds_toArray, List.set_cons_zero, List.set_cons_succ])
  refine wpAnyH_take (i := 5) (oi := { dst := some 24, op := Op.build 74 #[(0, Operand.tmp 19), (1, Operand.tmp 20), (2, Operand.tmp 22), (3, Operand.tmp 23)], type := 74, pos := "model.go:31", after := #[{ on := 0, ground := Ground.data }, { on := 1, ground := Ground.data }, { on := 3, ground := Ground.data }, { on := 4, ground := Ground.data }], guard := none }) (v := ?_) rfl (by kernel_rfl) (by kernel_rfl) (by kernel_rfl) (fun _ _ _ h => h) (Or.inl ⟨by rfl, ?_⟩) hHeld ?_
  rotate_left
  · intro Wx hS0
    clear hS0
    first | (go_simp; done) | (go_simp; with_reducible rfl)
  (try simp only [Act.put, List.setIfInBounds_toArray, List.set_cons_zero, List.set_cons_succ])
  refine wpAnyH_ready (rs := [6]) (by kernel_rfl) (by simp) ?_
  refine AllReadyH.cons (o := { dst := some 25, op := Op.box 74 (Operand.tmp 24), type := 26, pos := "model.go:31", after := #[{ on := 5, ground := Ground.data }], guard := none }) rfl (fun K hK => ?_) AllReadyH.nil
  go_simp
  obtain ⟨b, hbe⟩ : ∃ x, x = x3.heap.size := ⟨_, rfl⟩
  rw [← hbe]
  have hal : Below x3.heap.size x3 (x3.alloc (.cells (mdC mz fb rb) 74)) := (Below.refl _ _).alloc (Nat.le_refl _) _
  have HX4 := Lib.hid (HX3.out.under hal HX3.out.lt)
  have HMD : Hid (Made w (x3.alloc (.cells (mdC mz fb rb) 74)) X fb g rb b OF) := Lib.hid (by
    have h1 := HO2.out
    have h2 := HO3.out
    have h3 := HB3.out.size
    have h4 := HX3.out.lt
    exact ⟨flp_keeps.keep HF3.out (fun j hj => hal.block j (by have := (h1.1 j hj).2.2; omega)), fun j hj => ⟨(h1.1 j hj).1, (h1.1 j hj).2.1, by have := (h1.1 j hj).2.2; omega, by have := (h1.1 j hj).2.2; omega, by have := (h1.1 j hj).2.2; omega⟩, (hal.block g (by omega)).trans HG3.out, HR3.out.but (hal.block rb h2.2) (fun k hk => by simp [Value.ownBlock] at hk), HB3.out.trans (hal.mono h3), ⟨HXG.out, h1.2.1, by omega, by omega⟩, ⟨by omega, by omega, by omega, by omega, by omega⟩⟩)
  have HMR : Hid (Rw (x3.alloc (.cells (mdC mz fb rb) 74)) b (mdC mz fb rb) 74) := Lib.hid (by rw [hbe]; exact Rw.new _ _ _)
  have HH4 : Hid (Hold (MdX fb rb) noO w (x3.alloc (.cells (mdC mz fb rb) 74)) [(X, stC (firstS rev n), 33)] b mz) := Lib.hid (HMD.out.hold HX4.out HMR.out (by rw [HMZ.out]) (by rw [HMZ.out]) (by rw [HMZ.out]) (by rw [HMZ.out]))
  clear hal hbe HX3 HB3 HF3 HG3 HR3 HO2 HO3 HMD HMR
  rw [show #[.int .i64 0, .int .i64 0, .int .i64 rev, .int .i64 0, .int .i64 n, .int .i64 0, .bool true, .bool false, .int .i64 0, .int .i64 0, .int .i64 0, .int .i64 0, ptr fb, ptr rb, .int .i64 tries, .int .i64 0] = mdC mz fb rb by rw [HMZ.out]; rfl]
  refine hK.out _ _ ?_ (fun hHeld => ?_)
  · exact HX4.out
  clear hK K
  (try simp only [Act.put, List.setIfInBounds_toArray, List.set_cons_zero, List.set_cons_succ])
  refine wpAnyH_take (i := 7) (oi := { dst := some 10, op := Op.assign (Operand.tmp 25), type := 26, pos := "model.go:31", after := #[{ on := 6, ground := Ground.data }, { on := 3, ground := Ground.chain }, { on := 0, ground := Ground.phase }, { on := 1, ground := Ground.phase }, { on := 2, ground := Ground.phase }, { on := 3, ground := Ground.phase }, { on := 4, ground := Ground.phase }, { on := 5, ground := Ground.phase }, { on := 6, ground := Ground.phase }], guard := none }) (v := ?_) rfl (by kernel_rfl) (by kernel_rfl) (by kernel_rfl) (fun _ _ _ h => h) (Or.inl ⟨by rfl, ?_⟩) hHeld ?_
  rotate_left
  · intro Wx hS0
    clear hS0
    first | (go_simp; done) | (go_simp; with_reducible rfl)
  (try simp only [Act.put, List.setIfInBounds_toArray, List.set_cons_zero, List.set_cons_succ])
  refine wpAnyH_done (by kernel_rfl) ?_ _
  clear HX4
  go_wp2_with fail
  refine (HH4.out.turn (fun _ h => pflt_any h)).mono ?_
  rintro e x5 ⟨rfl, h⟩
  have HX5 := Lib.hid h
  clear h HH4
  have c12 : x5.cell? ⟨b, 12, none⟩ = some (ptr fb) := (HX5.out.mrow.cell 12).trans rfl
  go_wp2_with fail
  refine (HX5.out.fleet (fun _ h => pkgf_is.fill h)).mono ?_
  rintro e x6 ⟨rfl, h⟩
  have HX6 := Lib.hid h
  clear h HX5 c12
  go_wp2
  go_ret2
  refine .inl ⟨HRI.out, b, rfl, ?_⟩
  have h := HX6.out.mfin
  rw [show ({ fleetM mz mz.s with k := fillL (fleetM mz mz.s).k, l := fillL (fleetM mz mz.s).l } : Md) = newM (firstS rev n) tries by rw [HMZ.out]; rfl] at h
  obtain ⟨O, g1, g2, g3⟩ := h
  exact ⟨O, g1, fun j hj => (g2 j hj).elim (fun h => h.elim) id, ⟨g3.os, g3.tape, g3.output, g3.size, fun j hj => g3.block j hj (fun h => h)⟩⟩
theorem lift_p {O : Nat → Prop} {W : World} {b : Nat} {m m' : Md} {f : FuncId} {args : Array Value} {Pe : Ending → Prop} (h : MdP O W b m) (hc : ∀ fb rb, MdX fb rb O W b m → Calls Tryz.prog f args W fun e w' => Pe e ∧ TurnO (MdX fb rb) O W w' b m') : Calls Tryz.prog f args W fun e w' => Pe e ∧ TurnO MdP O W w' b m' := by
  obtain ⟨fb, rb, h1⟩ := h
  exact (hc fb rb h1).mono fun e w' ⟨he, O', g1, g2⟩ => ⟨he, O', ⟨fb, rb, g1⟩, g2⟩
/-- The package's calls are what the document says, as soon as the plan's Next is. -/
theorem pkgmd_is (hpl : NextIs) : PkgMd MdP where
  ks := mdp_keeps
  new := fun rev n tries W _ _ _ => pnew_m rev n tries W
  op := fun o h hI ho => lift_p h (fun _ _ h => pop_m o h hI ho)
  step := fun n v xs h hI hd hn hv hx => lift_p h (fun _ _ h => pstep_m hpl n v xs h hI hd hn hv hx)
  ready := fun s i on h _ => lift_p h (fun _ _ h => pready_m s i on h)
  tick := fun n h hI hn => lift_p h (fun _ _ h => ptick_m n h hI.tick hn)
  reply := fun h _ => lift_p h (fun _ _ h => preply_any h)
end
end Go.Proofs.YtchaeidmjoelnaaGreat
