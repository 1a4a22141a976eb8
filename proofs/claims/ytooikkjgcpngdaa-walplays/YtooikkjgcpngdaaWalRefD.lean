/-
  The document's own log: Checkpoint.
-/
import Derived.Test.YtooikkjgcpngdaaWalRefC
import Derived.Deep.RegionHeld3
namespace Go.Proofs.Ytooikkjgcpngdaa
open Go.RowKit
open Fr (Rec secB valL lenV)

variable {P Q R V : Nat → Prop} {w w' : World} {B m g v : Nat} {fu : Fu} {s : Dk} {l : Lg} {lv : Value}

set_option maxHeartbeats 400000 in
theorem mchk_broken (t : ByteArray) (hV : InvV w B V v m l lv) (hb : l.broken = true) : Calls Try.prog 18 #[.pointer (some ⟨v, 0, none⟩), .string t] w fun e w' => e = .returned (.int .i64 2) ∧ w = w' := by
  have c4 := hV.c4
  rw [hb] at c4
  clear hV hb
  go_enter Try.func18, Try.ntmps18
  go_wp2
  go_ret
  exact ⟨rfl, rfl⟩
set_option maxHeartbeats 1000000 in
theorem mchk_long (t : ByteArray) (_hts : t.size ≤ maxLen) (h : DskR w B R m g s fu) (hV : InvV w B V v m l lv) (hb : l.broken = false) (hbig : s.Big) (hl : s.size < t.size + 14) : Calls Try.prog 18 #[.pointer (some ⟨v, 0, none⟩), .string t] w fun e w' => e = .returned (.int .i64 5) ∧ w = w' := by
  unfold maxLen at _hts
  have c4 := hV.c4
  rw [hb] at c4
  have c0 := hV.c0
  have d0 := h.c0
  have hsz := h.good.sz
  have hb1 := hbig.size
  obtain ⟨sz, hsz'⟩ : ∃ sz, sz = s.size := ⟨_, rfl⟩
  rw [← hsz'] at d0 hsz hb1 hl
  have e7 : decide ((sz : Int) - 14 < (t.size : Int)) = true := by simp; omega
  clear hsz' h hV hb hbig
  go_enter Try.func18, Try.ntmps18
  go_wp2_with fail
  refine (mroom_in sz _ hb1 hsz).mono ?_
  rintro e w' ⟨rfl, rfl⟩
  go_wp2
  go_ret
  exact ⟨rfl, rfl⟩
set_option maxHeartbeats 1000000 in
theorem mchk_over (t : ByteArray) (h : DskR w B R m g s fu) (hV : InvV w B V v m l lv) (hb : l.broken = false) (hbig : s.Big) (hl : t.size + 14 ≤ s.size) (hg : 4294967295 ≤ l.gen) : Calls Try.prog 18 #[.pointer (some ⟨v, 0, none⟩), .string t] w fun e w' => e = .returned (.int .i64 9) ∧ w = w' := by
  have c4 := hV.c4
  rw [hb] at c4
  have c0 := hV.c0
  have c2 := hV.c2
  have d0 := h.c0
  have hsz := h.good.sz
  have hb1 := hbig.size
  obtain ⟨sz, hsz'⟩ : ∃ sz, sz = s.size := ⟨_, rfl⟩
  rw [← hsz'] at d0 hsz hb1 hl
  have e7 : decide ((sz : Int) - 14 < (t.size : Int)) = false := by simp; omega
  obtain ⟨G, hG⟩ : ∃ G, G = l.gen := ⟨_, rfl⟩
  rw [← hG] at c2 hg
  have e9 : decide (4294967295 ≤ (G : Int)) = true := by simp; omega
  clear hsz' h hV hb hbig hG
  go_enter Try.func18, Try.ntmps18
  go_wp2_with fail
  refine (mroom_in sz _ hb1 hsz).mono ?_
  rintro e w' ⟨rfl, rfl⟩
  go_wp2
  go_ret
  exact ⟨rfl, rfl⟩

/-- What a checkpoint leaves that was told OK. -/
def Marked (w : World) (B : Nat) (R V : Nat → Prop) (m g : Nat) (s' : Dk) (fu' : Fu) (v : Nat) (l' : Lg) (w' : World) : Prop :=
  ∃ R' V' lv', DskR w' B R' m g s' fu' ∧ InvV w' B V' v m l' lv' ∧ (∀ k, R' k → R k ∨ w.heap.size ≤ k) ∧ (∀ k, V' k → V k ∨ w.heap.size ≤ k) ∧ (∀ k, R' k → ¬ V' k) ∧ Kept (fun k => R k ∨ V k) w w'
theorem own_single (w : World) (x : ByteArray) (hB : B ≤ w.heap.size) : (w.alloc (.cells #[.string x] 9)).ownsRow B 9 1 (.slice (some ⟨w.heap.size, 0, none⟩) 1 1) [x].length (strs [x]) :=
  ⟨rfl, .inr ⟨w.heap.size, 1, #[.string x], rfl, hB, heap_alloc_new w _, by simp, by unfold maxLen; omega, rfl, rfl⟩⟩

set_option maxRecDepth 20000 in
set_option maxHeartbeats 4000000 in
theorem mchk_no1 (t : ByteArray) (h : DskR w B R m g s fu) (hV : InvV w B V v m l lv) (hdis : ∀ k, R k → ¬ V k) (hb : l.broken = false) (hbig : s.Big) (hl : t.size + 14 ≤ s.size) (hg : l.gen < 4294967295) (ha : l.area ≤ 1) (hc : fu.count < 800000) (hln : s.opn.length < 800000) (hBw : B ≤ w.heap.size) (hok : layOk fu = false) :
    Calls Try.prog 18 #[.pointer (some ⟨v, 0, none⟩), .string t] w fun e w' => e = .returned (.int .i64 2) ∧ ∃ R', DskR w' B R' m g (layS s fu ((1 - l.area) * s.half + 1) (secB (l.gen + 1) 1 t s.size)) (layF fu) ∧ InvV w' B V v m { l with broken := true } lv ∧ (∀ k, R' k → R k ∨ w.heap.size ≤ k) ∧ Kept (fun k => R k ∨ V k) w w' := by
  have hn1 := h.good.n1
  have hf5 : s.half ≤ 512 := by unfold Dk.half; omega
  have h2h : 2 * s.half ≤ s.now.length := by unfold Dk.half; omega
  have hb4 := hbig.len
  have hf2 : 2 ≤ s.half := by unfold Dk.half; omega
  have hah : (1 - l.area) * s.half ≤ s.half := by rcases (by omega : l.area = 0 ∨ l.area = 1) with e | e <;> rw [e] <;> omega
  have c4 := hV.c4
  rw [hb] at c4
  have c0 := hV.c0
  have c1 := hV.c1
  have c2 := hV.c2
  have d0 := h.c0
  have hsz := h.good.sz
  have hb1 := hbig.size
  obtain ⟨A, hA⟩ : ∃ A, A = l.area := ⟨_, rfl⟩
  obtain ⟨G, hG⟩ : ∃ G, G = l.gen := ⟨_, rfl⟩
  obtain ⟨A1, hA1⟩ : ∃ A, A = 1 - l.area := ⟨_, rfl⟩
  obtain ⟨G1, hG1⟩ : ∃ G, G = l.gen + 1 := ⟨_, rfl⟩
  obtain ⟨S1, hS1⟩ : ∃ S, S = layS s fu ((1 - l.area) * s.half + 1) (secB (l.gen + 1) 1 t s.size) := ⟨_, rfl⟩
  have HL : Hid (∀ wd, Alike wd w → Calls Try.prog 40 #[.pointer (some ⟨v, 0, none⟩), .int .i64 (A1 : Int), .int .i64 (G1 : Int), .int .i64 1, .string t] wd fun e w' => e = .returned (.bool false) ∧
      ∃ R', Hid (DskR w' B R' m g S1 (layF fu) ∧ InvV w' B V v m { l with broken := true } lv ∧ (∀ k, R' k → R k ∨ w.heap.size ≤ k) ∧ Kept (fun k => R k ∨ V k) w w')) := Lib.hid (fun wd hd => by
    rw [hA1, hG1, hS1]
    have hh := lay_here hd (1 - l.area) (l.gen + 1) 1 _ t h hV hdis hbig (by omega) (by omega) hl (by omega) rfl (by omega) (by omega) (by omega) hBw
    rw [hok] at hh
    exact hh)
  rw [← hS1]
  obtain ⟨sz, hsz'⟩ : ∃ sz, sz = s.size := ⟨_, rfl⟩
  rw [← hsz'] at d0 hsz hb1 hl
  have e7 : decide ((sz : Int) - 14 < (t.size : Int)) = false := by simp; omega
  have e9 : decide (4294967295 ≤ (G : Int)) = false := by simp; omega
  have eA : (1 : Int) - (A : Int) = (A1 : Int) := by omega
  have eA2 : IntKind.i64.wrap (A1 : Int) = (A1 : Int) := IntWalk.i64_in _ (by omega)
  have eG : (G : Int) + 1 = (G1 : Int) := by omega
  have eG2 : IntKind.i64.wrap (G1 : Int) = (G1 : Int) := IntWalk.i64_in _ (by omega)
  have hG0 : G < 4294967295 := by omega
  have hA0 : A ≤ 1 := by omega
  rw [← hA] at c1
  rw [← hG] at c2
  have HAE := Lib.hid hA1
  have HGE := Lib.hid hG1
  have HA0 := Lib.hid hA
  have HG0 := Lib.hid hG
  have HBW := Lib.hid hBw
  have HV := Lib.hid hV
  have HDIS := Lib.hid hdis
  clear h hV hdis hb hbig hg ha hc hln hBw hok hA hG hA1 hG1 hS1 hf5 h2h hb4 hf2 hah hn1 hsz' 
  go_enter Try.func18, Try.ntmps18
  go_wp2_with fail
  refine (mroom_in sz _ hb1 hsz).mono ?_
  rintro e w' ⟨rfl, rfl⟩
  go_wp2_with fail
  refine wp_region_held_drew (S := (fun wx => wx.cell? ⟨v, 1, none⟩ = some (.int .i64 (A : Int)) ∧ wx.cell? ⟨v, 2, none⟩ = some (.int .i64 (G : Int)))) (by kernel_rfl) ?_ (fun hHeld => ?_)
  · exact ⟨c1, c2⟩
  refine wpAnyH_take (i := 0) (oi := { dst := some 25, op := Op.move (Operand.tmp 0), type := 40, pos := "ref.go:103", after := #[], guard := none }) (v := ?_) rfl (by kernel_rfl) (by kernel_rfl) (by kernel_rfl) (fun _ _ _ h => h) (Or.inl ⟨by rfl, ?_⟩) hHeld ?_
  rotate_left
  · intro w hSw
    (try dsimp only at hSw)
    first | (go_simp; done) | (go_simp; with_reducible rfl)
  (try simp only [Act.put, List.setIfInBounds_toArray, List.set_cons_zero, List.set_cons_succ])
  refine wpAnyH_take (i := 1) (oi := { dst := some 26, op := Op.move (Operand.tmp 0), type := 40, pos := "ref.go:103", after := #[], guard := none }) (v := ?_) rfl (by kernel_rfl) (by kernel_rfl) (by kernel_rfl) (fun _ _ _ h => h) (Or.inl ⟨by rfl, ?_⟩) hHeld ?_
  rotate_left
  · intro w hSw
    (try dsimp only at hSw)
    first | (go_simp; done) | (go_simp; with_reducible rfl)
  (try simp only [Act.put, List.setIfInBounds_toArray, List.set_cons_zero, List.set_cons_succ])
  refine wpAnyH_take (i := 2) (oi := { dst := some 27, op := Op.nilCheck (Operand.tmp 26), type := 0, pos := "ref.go:103", after := #[{ on := 1, ground := Ground.data }], guard := none }) (v := ?_) rfl (by kernel_rfl) (by kernel_rfl) (by kernel_rfl) (fun _ _ _ h => h) (Or.inl ⟨by rfl, ?_⟩) hHeld ?_
  rotate_left
  · intro w hSw
    (try dsimp only at hSw)
    first | (go_simp; done) | (go_simp; with_reducible rfl)
  (try simp only [Act.put, List.setIfInBounds_toArray, List.set_cons_zero, List.set_cons_succ])
  refine wpAnyH_take (i := 3) (oi := { dst := some 28, op := Op.fieldAddr 52 (Operand.tmp 27) 1, type := 0, pos := "ref.go:103", after := #[{ on := 2, ground := Ground.data }], guard := none }) (v := ?_) rfl (by kernel_rfl) (by kernel_rfl) (by kernel_rfl) (fun _ _ _ h => h) (Or.inl ⟨by rfl, ?_⟩) hHeld ?_
  rotate_left
  · intro w hSw
    (try dsimp only at hSw)
    first | (go_simp; done) | (go_simp; with_reducible rfl)
  (try simp only [Act.put, List.setIfInBounds_toArray, List.set_cons_zero, List.set_cons_succ])
  refine wpAnyH_take (i := 4) (oi := { dst := some 29, op := Op.load 3 (Operand.tmp 28), type := 3, pos := "ref.go:103", after := #[{ on := 3, ground := Ground.data }], guard := none }) (v := ?_) rfl (by kernel_rfl) (by kernel_rfl) (by kernel_rfl) (fun _ _ _ h => h) (Or.inl ⟨by rfl, ?_⟩) hHeld ?_
  rotate_left
  · intro w hSw
    (try dsimp only at hSw)
    first | (go_simp; done) | (go_simp; with_reducible rfl)
  (try simp only [Act.put, List.setIfInBounds_toArray, List.set_cons_zero, List.set_cons_succ])
  refine wpAnyH_take (i := 5) (oi := { dst := some 30, op := Op.binOp BinOp.sub 3 (Operand.const (Value.int IntKind.i64 1)) (Operand.tmp 29) 3, type := 3, pos := "ref.go:103", after := #[{ on := 4, ground := Ground.data }], guard := none }) (v := ?_) rfl (by kernel_rfl) (by kernel_rfl) (by kernel_rfl) (fun _ _ _ h => h) (Or.inl ⟨by rfl, ?_⟩) hHeld ?_
  rotate_left
  · intro w hSw
    (try dsimp only at hSw)
    first | (go_simp; done) | (go_simp; with_reducible rfl)
  (try simp only [Act.put, List.setIfInBounds_toArray, List.set_cons_zero, List.set_cons_succ])
  refine wpAnyH_take (i := 6) (oi := { dst := some 31, op := Op.move (Operand.tmp 0), type := 40, pos := "ref.go:103", after := #[], guard := none }) (v := ?_) rfl (by kernel_rfl) (by kernel_rfl) (by kernel_rfl) (fun _ _ _ h => h) (Or.inl ⟨by rfl, ?_⟩) hHeld ?_
  rotate_left
  · intro w hSw
    (try dsimp only at hSw)
    first | (go_simp; done) | (go_simp; with_reducible rfl)
  (try simp only [Act.put, List.setIfInBounds_toArray, List.set_cons_zero, List.set_cons_succ])
  refine wpAnyH_take (i := 7) (oi := { dst := some 32, op := Op.nilCheck (Operand.tmp 31), type := 0, pos := "ref.go:103", after := #[{ on := 6, ground := Ground.data }], guard := none }) (v := ?_) rfl (by kernel_rfl) (by kernel_rfl) (by kernel_rfl) (fun _ _ _ h => h) (Or.inl ⟨by rfl, ?_⟩) hHeld ?_
  rotate_left
  · intro w hSw
    (try dsimp only at hSw)
    first | (go_simp; done) | (go_simp; with_reducible rfl)
  (try simp only [Act.put, List.setIfInBounds_toArray, List.set_cons_zero, List.set_cons_succ])
  refine wpAnyH_take (i := 8) (oi := { dst := some 33, op := Op.fieldAddr 52 (Operand.tmp 32) 2, type := 0, pos := "ref.go:103", after := #[{ on := 7, ground := Ground.data }], guard := none }) (v := ?_) rfl (by kernel_rfl) (by kernel_rfl) (by kernel_rfl) (fun _ _ _ h => h) (Or.inl ⟨by rfl, ?_⟩) hHeld ?_
  rotate_left
  · intro w hSw
    (try dsimp only at hSw)
    first | (go_simp; done) | (go_simp; with_reducible rfl)
  (try simp only [Act.put, List.setIfInBounds_toArray, List.set_cons_zero, List.set_cons_succ])
  refine wpAnyH_take (i := 9) (oi := { dst := some 34, op := Op.load 3 (Operand.tmp 33), type := 3, pos := "ref.go:103", after := #[{ on := 8, ground := Ground.data }], guard := none }) (v := ?_) rfl (by kernel_rfl) (by kernel_rfl) (by kernel_rfl) (fun _ _ _ h => h) (Or.inl ⟨by rfl, ?_⟩) hHeld ?_
  rotate_left
  · intro w hSw
    (try dsimp only at hSw)
    first | (go_simp; done) | (go_simp; with_reducible rfl)
  (try simp only [Act.put, List.setIfInBounds_toArray, List.set_cons_zero, List.set_cons_succ])
  refine wpAnyH_take (i := 10) (oi := { dst := some 35, op := Op.binOp BinOp.add 3 (Operand.tmp 34) (Operand.const (Value.int IntKind.i64 1)) 3, type := 3, pos := "ref.go:103", after := #[{ on := 9, ground := Ground.data }], guard := none }) (v := ?_) rfl (by kernel_rfl) (by kernel_rfl) (by kernel_rfl) (fun _ _ _ h => h) (Or.inl ⟨by rfl, ?_⟩) hHeld ?_
  rotate_left
  · intro w hSw
    (try dsimp only at hSw)
    first | (go_simp; done) | (go_simp; with_reducible rfl)
  (try simp only [Act.put, List.setIfInBounds_toArray, List.set_cons_zero, List.set_cons_succ])
  refine wpAnyH_take (i := 11) (oi := { dst := some 36, op := Op.move (Operand.tmp 1), type := 9, pos := "ref.go:103", after := #[], guard := none }) (v := ?_) rfl (by kernel_rfl) (by kernel_rfl) (by kernel_rfl) (fun _ _ _ h => h) (Or.inl ⟨by rfl, ?_⟩) hHeld ?_
  rotate_left
  · intro w hSw
    (try dsimp only at hSw)
    first | (go_simp; done) | (go_simp; with_reducible rfl)
  (try simp only [Act.put, List.setIfInBounds_toArray, List.set_cons_zero, List.set_cons_succ])
  refine wpAnyH_ready (rs := [12]) (by kernel_rfl) (by simp) ?_
  refine AllReadyH.cons (o := { dst := some 37, op := Op.call { callee := Callee.value (Operand.func 40), args := #[Operand.tmp 25, Operand.tmp 30, Operand.tmp 35, Operand.const (Value.int IntKind.i64 1), Operand.tmp 36], argTypes := #[40, 3, 3, 3, 9] }, type := 4, pos := "ref.go:103", after := #[{ on := 0, ground := Ground.data }, { on := 5, ground := Ground.data }, { on := 10, ground := Ground.data }, { on := 11, ground := Ground.data }], guard := none }) rfl (fun K hK => ?_) AllReadyH.nil
  go_simp
  refine (HL.out _ ?_).mono ?_
  · exact ⟨rfl, rfl, rfl, rfl⟩
  rintro e w2 ⟨rfl, R2, H2⟩
  have q1 := H2.out.2.1.c1
  have q2 := H2.out.2.1.c2
  simp only [← HA0.out] at q1
  simp only [← HG0.out] at q2
  refine hK.out _ _ ?_ (fun hHeld => ?_)
  · exact ⟨q1, q2⟩
  clear hK K
  (try simp only [Act.put, List.setIfInBounds_toArray, List.set_cons_zero, List.set_cons_succ])
  refine wpAnyH_take (i := 13) (oi := { dst := some 38, op := Op.unOp UnOp.not 4 (Operand.tmp 37), type := 4, pos := "ref.go:103", after := #[{ on := 12, ground := Ground.data }], guard := none }) (v := ?_) rfl (by kernel_rfl) (by kernel_rfl) (by kernel_rfl) (fun _ _ _ h => h) (Or.inl ⟨by rfl, ?_⟩) hHeld ?_
  rotate_left
  · intro w hSw
    (try dsimp only at hSw)
    first | (go_simp; done) | (go_simp; with_reducible rfl)
  (try simp only [Act.put, List.setIfInBounds_toArray, List.set_cons_zero, List.set_cons_succ])
  refine wpAnyH_take (i := 14) (oi := { dst := some 39, op := Op.move (Operand.tmp 38), type := 4, pos := "ref.go:103", after := #[{ on := 13, ground := Ground.data }, { on := 12, ground := Ground.chain }], guard := none }) (v := ?_) rfl (by kernel_rfl) (by kernel_rfl) (by kernel_rfl) (fun _ _ _ h => h) (Or.inl ⟨by rfl, ?_⟩) hHeld ?_
  rotate_left
  · intro w hSw
    (try dsimp only at hSw)
    first | (go_simp; done) | (go_simp; with_reducible rfl)
  (try simp only [Act.put, List.setIfInBounds_toArray, List.set_cons_zero, List.set_cons_succ])
  refine wpAnyH_take (i := 15) (oi := { dst := some 40, op := Op.move (Operand.tmp 0), type := 40, pos := "ref.go:103", after := #[{ on := 14, ground := Ground.guard }], guard := some (14, false) }) (v := undef) rfl (by kernel_rfl) (by kernel_rfl) (by kernel_rfl) (fun _ _ _ h => h) (Or.inr ⟨by rfl, rfl⟩) hHeld ?_
  (try simp only [Act.put, List.setIfInBounds_toArray, List.set_cons_zero, List.set_cons_succ])
  refine wpAnyH_take (i := 16) (oi := { dst := some 41, op := Op.move (Operand.tmp 0), type := 40, pos := "ref.go:103", after := #[{ on := 14, ground := Ground.guard }], guard := some (14, false) }) (v := undef) rfl (by kernel_rfl) (by kernel_rfl) (by kernel_rfl) (fun _ _ _ h => h) (Or.inr ⟨by rfl, rfl⟩) hHeld ?_
  (try simp only [Act.put, List.setIfInBounds_toArray, List.set_cons_zero, List.set_cons_succ])
  refine wpAnyH_take (i := 17) (oi := { dst := some 42, op := Op.nilCheck (Operand.tmp 41), type := 0, pos := "ref.go:103", after := #[{ on := 16, ground := Ground.data }, { on := 14, ground := Ground.guard }], guard := some (14, false) }) (v := undef) rfl (by kernel_rfl) (by kernel_rfl) (by kernel_rfl) (fun _ _ _ h => h) (Or.inr ⟨by rfl, rfl⟩) hHeld ?_
  (try simp only [Act.put, List.setIfInBounds_toArray, List.set_cons_zero, List.set_cons_succ])
  refine wpAnyH_take (i := 18) (oi := { dst := some 43, op := Op.fieldAddr 52 (Operand.tmp 42) 1, type := 0, pos := "ref.go:103", after := #[{ on := 17, ground := Ground.data }, { on := 14, ground := Ground.guard }], guard := some (14, false) }) (v := undef) rfl (by kernel_rfl) (by kernel_rfl) (by kernel_rfl) (fun _ _ _ h => h) (Or.inr ⟨by rfl, rfl⟩) hHeld ?_
  (try simp only [Act.put, List.setIfInBounds_toArray, List.set_cons_zero, List.set_cons_succ])
  refine wpAnyH_take (i := 19) (oi := { dst := some 44, op := Op.load 3 (Operand.tmp 43), type := 3, pos := "ref.go:103", after := #[{ on := 18, ground := Ground.data }, { on := 14, ground := Ground.guard }], guard := some (14, false) }) (v := undef) rfl (by kernel_rfl) (by kernel_rfl) (by kernel_rfl) (fun _ _ _ h => h) (Or.inr ⟨by rfl, rfl⟩) hHeld ?_
  (try simp only [Act.put, List.setIfInBounds_toArray, List.set_cons_zero, List.set_cons_succ])
  refine wpAnyH_take (i := 20) (oi := { dst := some 45, op := Op.binOp BinOp.sub 3 (Operand.const (Value.int IntKind.i64 1)) (Operand.tmp 44) 3, type := 3, pos := "ref.go:103", after := #[{ on := 19, ground := Ground.data }, { on := 14, ground := Ground.guard }], guard := some (14, false) }) (v := undef) rfl (by kernel_rfl) (by kernel_rfl) (by kernel_rfl) (fun _ _ _ h => h) (Or.inr ⟨by rfl, rfl⟩) hHeld ?_
  (try simp only [Act.put, List.setIfInBounds_toArray, List.set_cons_zero, List.set_cons_succ])
  refine wpAnyH_take (i := 21) (oi := { dst := some 46, op := Op.move (Operand.tmp 0), type := 40, pos := "ref.go:103", after := #[{ on := 14, ground := Ground.guard }], guard := some (14, false) }) (v := undef) rfl (by kernel_rfl) (by kernel_rfl) (by kernel_rfl) (fun _ _ _ h => h) (Or.inr ⟨by rfl, rfl⟩) hHeld ?_
  (try simp only [Act.put, List.setIfInBounds_toArray, List.set_cons_zero, List.set_cons_succ])
  refine wpAnyH_take (i := 22) (oi := { dst := some 47, op := Op.nilCheck (Operand.tmp 46), type := 0, pos := "ref.go:103", after := #[{ on := 21, ground := Ground.data }, { on := 14, ground := Ground.guard }], guard := some (14, false) }) (v := undef) rfl (by kernel_rfl) (by kernel_rfl) (by kernel_rfl) (fun _ _ _ h => h) (Or.inr ⟨by rfl, rfl⟩) hHeld ?_
  (try simp only [Act.put, List.setIfInBounds_toArray, List.set_cons_zero, List.set_cons_succ])
  refine wpAnyH_take (i := 23) (oi := { dst := some 48, op := Op.fieldAddr 52 (Operand.tmp 47) 2, type := 0, pos := "ref.go:103", after := #[{ on := 22, ground := Ground.data }, { on := 14, ground := Ground.guard }], guard := some (14, false) }) (v := undef) rfl (by kernel_rfl) (by kernel_rfl) (by kernel_rfl) (fun _ _ _ h => h) (Or.inr ⟨by rfl, rfl⟩) hHeld ?_
  (try simp only [Act.put, List.setIfInBounds_toArray, List.set_cons_zero, List.set_cons_succ])
  refine wpAnyH_take (i := 24) (oi := { dst := some 49, op := Op.load 3 (Operand.tmp 48), type := 3, pos := "ref.go:103", after := #[{ on := 23, ground := Ground.data }, { on := 14, ground := Ground.guard }], guard := some (14, false) }) (v := undef) rfl (by kernel_rfl) (by kernel_rfl) (by kernel_rfl) (fun _ _ _ h => h) (Or.inr ⟨by rfl, rfl⟩) hHeld ?_
  (try simp only [Act.put, List.setIfInBounds_toArray, List.set_cons_zero, List.set_cons_succ])
  refine wpAnyH_take (i := 25) (oi := { dst := some 50, op := Op.binOp BinOp.add 3 (Operand.tmp 49) (Operand.const (Value.int IntKind.i64 1)) 3, type := 3, pos := "ref.go:103", after := #[{ on := 24, ground := Ground.data }, { on := 14, ground := Ground.guard }], guard := some (14, false) }) (v := undef) rfl (by kernel_rfl) (by kernel_rfl) (by kernel_rfl) (fun _ _ _ h => h) (Or.inr ⟨by rfl, rfl⟩) hHeld ?_
  (try simp only [Act.put, List.setIfInBounds_toArray, List.set_cons_zero, List.set_cons_succ])
  refine wpAnyH_take (i := 26) (oi := { dst := some 51, op := Op.call { callee := Callee.value (Operand.func 40), args := #[Operand.tmp 40, Operand.tmp 45, Operand.tmp 50, Operand.const (Value.int IntKind.i64 0), Operand.const (Value.string { data := #[104, 101, 97, 100] })], argTypes := #[40, 3, 3, 3, 9] }, type := 4, pos := "ref.go:103", after := #[{ on := 15, ground := Ground.data }, { on := 20, ground := Ground.data }, { on := 25, ground := Ground.data }, { on := 14, ground := Ground.chain }, { on := 14, ground := Ground.guard }], guard := some (14, false) }) (v := undef) rfl (by kernel_rfl) (by kernel_rfl) (by kernel_rfl) (fun _ _ _ h => h) (Or.inr ⟨by rfl, rfl⟩) hHeld ?_
  (try simp only [Act.put, List.setIfInBounds_toArray, List.set_cons_zero, List.set_cons_succ])
  refine wpAnyH_take (i := 27) (oi := { dst := some 52, op := Op.unOp UnOp.not 4 (Operand.tmp 51), type := 4, pos := "ref.go:103", after := #[{ on := 26, ground := Ground.data }, { on := 14, ground := Ground.guard }], guard := some (14, false) }) (v := undef) rfl (by kernel_rfl) (by kernel_rfl) (by kernel_rfl) (fun _ _ _ h => h) (Or.inr ⟨by rfl, rfl⟩) hHeld ?_
  (try simp only [Act.put, List.setIfInBounds_toArray, List.set_cons_zero, List.set_cons_succ])
  refine wpAnyH_take (i := 28) (oi := { dst := some 53, op := Op.pick (Operand.tmp 39) (Operand.const (Value.bool true)) (Operand.tmp 52), type := 4, pos := "ref.go:103", after := #[{ on := 14, ground := Ground.data }, { on := 27, ground := Ground.data }], guard := none }) (v := ?_) rfl (by kernel_rfl) (by kernel_rfl) (by kernel_rfl) (fun _ _ _ h => h) (Or.inl ⟨by rfl, ?_⟩) hHeld ?_
  rotate_left
  · intro w hSw
    (try dsimp only at hSw)
    first | (go_simp; done) | (go_simp; with_reducible rfl)
  (try simp only [Act.put, List.setIfInBounds_toArray, List.set_cons_zero, List.set_cons_succ])
  refine wpAnyH_done (by kernel_rfl) ?_ _
  clear c0 c1 c2 c4 d0 q1 q2 hHeld
  go_wp2
  go_ret
  exact ⟨rfl, R2, H2.out.1, H2.out.2.1, H2.out.2.2.1, H2.out.2.2.2⟩

set_option maxRecDepth 20000 in
set_option maxHeartbeats 4000000 in
theorem mchk_no2 (t : ByteArray) (h : DskR w B R m g s fu) (hV : InvV w B V v m l lv) (hdis : ∀ k, R k → ¬ V k) (hb : l.broken = false) (hbig : s.Big) (hl : t.size + 14 ≤ s.size) (hg : l.gen < 4294967295) (ha : l.area ≤ 1) (hc : fu.count < 800000) (hln : s.opn.length < 800000) (hBw : B ≤ w.heap.size) (hok : layOk fu = true) (hok2 : layOk (layF fu) = false) :
    Calls Try.prog 18 #[.pointer (some ⟨v, 0, none⟩), .string t] w fun e w' => e = .returned (.int .i64 2) ∧ ∃ R', DskR w' B R' m g (layS (layS s fu ((1 - l.area) * s.half + 1) (secB (l.gen + 1) 1 t s.size)) (layF fu) ((1 - l.area) * s.half + 0) (secB (l.gen + 1) 0 headT s.size)) (layF (layF fu)) ∧ InvV w' B V v m { l with broken := true } lv ∧ (∀ k, R' k → R k ∨ w.heap.size ≤ k) ∧ Kept (fun k => R k ∨ V k) w w' := by
  have hn1 := h.good.n1
  have hf5 : s.half ≤ 512 := by unfold Dk.half; omega
  have h2h : 2 * s.half ≤ s.now.length := by unfold Dk.half; omega
  have hb4 := hbig.len
  have hf2 : 2 ≤ s.half := by unfold Dk.half; omega
  have hah : (1 - l.area) * s.half ≤ s.half := by rcases (by omega : l.area = 0 ∨ l.area = 1) with e | e <;> rw [e] <;> omega
  have c4 := hV.c4
  rw [hb] at c4
  have c0 := hV.c0
  have c1 := hV.c1
  have c2 := hV.c2
  have d0 := h.c0
  have hsz := h.good.sz
  have hb1 := hbig.size
  obtain ⟨A, hA⟩ : ∃ A, A = l.area := ⟨_, rfl⟩
  obtain ⟨G, hG⟩ : ∃ G, G = l.gen := ⟨_, rfl⟩
  obtain ⟨A1, hA1⟩ : ∃ A, A = 1 - l.area := ⟨_, rfl⟩
  obtain ⟨G1, hG1⟩ : ∃ G, G = l.gen + 1 := ⟨_, rfl⟩
  obtain ⟨S1, hS1⟩ : ∃ S, S = layS s fu ((1 - l.area) * s.half + 1) (secB (l.gen + 1) 1 t s.size) := ⟨_, rfl⟩
  have HL : Hid (∀ wd, Alike wd w → Calls Try.prog 40 #[.pointer (some ⟨v, 0, none⟩), .int .i64 (A1 : Int), .int .i64 (G1 : Int), .int .i64 1, .string t] wd fun e w' => e = .returned (.bool true) ∧
      ∃ R', Hid (DskR w' B R' m g S1 (layF fu) ∧ InvV w' B V v m { l with broken := l.broken } lv ∧ (∀ k, R' k → R k ∨ w.heap.size ≤ k) ∧ Kept (fun k => R k ∨ V k) w w')) := Lib.hid (fun wd hd => by
    rw [hA1, hG1, hS1]
    have hh := lay_here hd (1 - l.area) (l.gen + 1) 1 _ t h hV hdis hbig (by omega) (by omega) hl (by omega) rfl (by omega) (by omega) (by omega) hBw
    rw [hok] at hh
    exact hh)
  obtain ⟨S2, hS2⟩ : ∃ S, S = layS S1 (layF fu) ((1 - l.area) * s.half + 0) (secB (l.gen + 1) 0 headT s.size) := ⟨_, rfl⟩
  obtain ⟨k1, k2⟩ := layS_len s fu ((1 - l.area) * s.half + 1) (secB (l.gen + 1) 1 t s.size)
  have k3 := layS_half s fu ((1 - l.area) * s.half + 1) (secB (l.gen + 1) 1 t s.size)
  have k4 := layS_opn s fu ((1 - l.area) * s.half + 1) (secB (l.gen + 1) 1 t s.size)
  have k5 := layS_big fu ((1 - l.area) * s.half + 1) (secB (l.gen + 1) 1 t s.size) hbig
  have k6 := layF_count fu
  rw [← hS1] at k1 k2 k3 k4 k5
  have HL2 : Hid (∀ w2 R2 wd, DskR w2 B R2 m g S1 (layF fu) → InvV w2 B V v m l lv → (∀ k, R2 k → ¬ V k) → B ≤ w2.heap.size → Alike wd w2 → Calls Try.prog 40 #[.pointer (some ⟨v, 0, none⟩), .int .i64 (A1 : Int), .int .i64 (G1 : Int), .int .i64 0, .string headT] wd fun e w' => e = .returned (.bool false) ∧
      ∃ R', Hid (DskR w' B R' m g S2 (layF (layF fu)) ∧ InvV w' B V v m { l with broken := true } lv ∧ (∀ k, R' k → R2 k ∨ w2.heap.size ≤ k) ∧ Kept (fun k => R2 k ∨ V k) w2 w')) := Lib.hid (fun w2 R2 wd h2 hV2 hd2 hB2 hd => by
    rw [hA1, hG1, hS2]
    have hh := lay_here hd (1 - l.area) (l.gen + 1) 0 ((1 - l.area) * s.half + 0) headT h2 hV2 hd2 k5 (by omega) (by omega) (by rw [k2, headT_size]; have := hbig.size; omega) (by omega) (by rw [k3]) (by rw [k1]; omega) (by omega) (by omega) hB2
    rw [hok2, k2] at hh
    exact hh)
  rw [← hS1, ← hS2]
  obtain ⟨sz, hsz'⟩ : ∃ sz, sz = s.size := ⟨_, rfl⟩
  rw [← hsz'] at d0 hsz hb1 hl
  have e7 : decide ((sz : Int) - 14 < (t.size : Int)) = false := by simp; omega
  have e9 : decide (4294967295 ≤ (G : Int)) = false := by simp; omega
  have eA : (1 : Int) - (A : Int) = (A1 : Int) := by omega
  have eA2 : IntKind.i64.wrap (A1 : Int) = (A1 : Int) := IntWalk.i64_in _ (by omega)
  have eG : (G : Int) + 1 = (G1 : Int) := by omega
  have eG2 : IntKind.i64.wrap (G1 : Int) = (G1 : Int) := IntWalk.i64_in _ (by omega)
  have hG0 : G < 4294967295 := by omega
  have hA0 : A ≤ 1 := by omega
  rw [← hA] at c1
  rw [← hG] at c2
  have HAE := Lib.hid hA1
  have HGE := Lib.hid hG1
  have HA0 := Lib.hid hA
  have HG0 := Lib.hid hG
  have HBW := Lib.hid hBw
  have HV := Lib.hid hV
  have HDIS := Lib.hid hdis
  clear h hV hdis hb hbig hg ha hc hln hBw hok hA hG hA1 hG1 hS1 hf5 h2h hb4 hf2 hah hn1 hsz' hS2 k1 k2 k3 k4 k5 k6 hok2
  go_enter Try.func18, Try.ntmps18
  go_wp2_with fail
  refine (mroom_in sz _ hb1 hsz).mono ?_
  rintro e w' ⟨rfl, rfl⟩
  go_wp2_with fail
  refine wp_region_held_drew (S := (fun wx => wx.cell? ⟨v, 1, none⟩ = some (.int .i64 (A : Int)) ∧ wx.cell? ⟨v, 2, none⟩ = some (.int .i64 (G : Int)))) (by kernel_rfl) ?_ (fun hHeld => ?_)
  · exact ⟨c1, c2⟩
  refine wpAnyH_take (i := 0) (oi := { dst := some 25, op := Op.move (Operand.tmp 0), type := 40, pos := "ref.go:103", after := #[], guard := none }) (v := ?_) rfl (by kernel_rfl) (by kernel_rfl) (by kernel_rfl) (fun _ _ _ h => h) (Or.inl ⟨by rfl, ?_⟩) hHeld ?_
  rotate_left
  · intro w hSw
    (try dsimp only at hSw)
    first | (go_simp; done) | (go_simp; with_reducible rfl)
  (try simp only [Act.put, List.setIfInBounds_toArray, List.set_cons_zero, List.set_cons_succ])
  refine wpAnyH_take (i := 1) (oi := { dst := some 26, op := Op.move (Operand.tmp 0), type := 40, pos := "ref.go:103", after := #[], guard := none }) (v := ?_) rfl (by kernel_rfl) (by kernel_rfl) (by kernel_rfl) (fun _ _ _ h => h) (Or.inl ⟨by rfl, ?_⟩) hHeld ?_
  rotate_left
  · intro w hSw
    (try dsimp only at hSw)
    first | (go_simp; done) | (go_simp; with_reducible rfl)
  (try simp only [Act.put, List.setIfInBounds_toArray, List.set_cons_zero, List.set_cons_succ])
  refine wpAnyH_take (i := 2) (oi := { dst := some 27, op := Op.nilCheck (Operand.tmp 26), type := 0, pos := "ref.go:103", after := #[{ on := 1, ground := Ground.data }], guard := none }) (v := ?_) rfl (by kernel_rfl) (by kernel_rfl) (by kernel_rfl) (fun _ _ _ h => h) (Or.inl ⟨by rfl, ?_⟩) hHeld ?_
  rotate_left
  · intro w hSw
    (try dsimp only at hSw)
    first | (go_simp; done) | (go_simp; with_reducible rfl)
  (try simp only [Act.put, List.setIfInBounds_toArray, List.set_cons_zero, List.set_cons_succ])
  refine wpAnyH_take (i := 3) (oi := { dst := some 28, op := Op.fieldAddr 52 (Operand.tmp 27) 1, type := 0, pos := "ref.go:103", after := #[{ on := 2, ground := Ground.data }], guard := none }) (v := ?_) rfl (by kernel_rfl) (by kernel_rfl) (by kernel_rfl) (fun _ _ _ h => h) (Or.inl ⟨by rfl, ?_⟩) hHeld ?_
  rotate_left
  · intro w hSw
    (try dsimp only at hSw)
    first | (go_simp; done) | (go_simp; with_reducible rfl)
  (try simp only [Act.put, List.setIfInBounds_toArray, List.set_cons_zero, List.set_cons_succ])
  refine wpAnyH_take (i := 4) (oi := { dst := some 29, op := Op.load 3 (Operand.tmp 28), type := 3, pos := "ref.go:103", after := #[{ on := 3, ground := Ground.data }], guard := none }) (v := ?_) rfl (by kernel_rfl) (by kernel_rfl) (by kernel_rfl) (fun _ _ _ h => h) (Or.inl ⟨by rfl, ?_⟩) hHeld ?_
  rotate_left
  · intro w hSw
    (try dsimp only at hSw)
    first | (go_simp; done) | (go_simp; with_reducible rfl)
  (try simp only [Act.put, List.setIfInBounds_toArray, List.set_cons_zero, List.set_cons_succ])
  refine wpAnyH_take (i := 5) (oi := { dst := some 30, op := Op.binOp BinOp.sub 3 (Operand.const (Value.int IntKind.i64 1)) (Operand.tmp 29) 3, type := 3, pos := "ref.go:103", after := #[{ on := 4, ground := Ground.data }], guard := none }) (v := ?_) rfl (by kernel_rfl) (by kernel_rfl) (by kernel_rfl) (fun _ _ _ h => h) (Or.inl ⟨by rfl, ?_⟩) hHeld ?_
  rotate_left
  · intro w hSw
    (try dsimp only at hSw)
    first | (go_simp; done) | (go_simp; with_reducible rfl)
  (try simp only [Act.put, List.setIfInBounds_toArray, List.set_cons_zero, List.set_cons_succ])
  refine wpAnyH_take (i := 6) (oi := { dst := some 31, op := Op.move (Operand.tmp 0), type := 40, pos := "ref.go:103", after := #[], guard := none }) (v := ?_) rfl (by kernel_rfl) (by kernel_rfl) (by kernel_rfl) (fun _ _ _ h => h) (Or.inl ⟨by rfl, ?_⟩) hHeld ?_
  rotate_left
  · intro w hSw
    (try dsimp only at hSw)
    first | (go_simp; done) | (go_simp; with_reducible rfl)
  (try simp only [Act.put, List.setIfInBounds_toArray, List.set_cons_zero, List.set_cons_succ])
  refine wpAnyH_take (i := 7) (oi := { dst := some 32, op := Op.nilCheck (Operand.tmp 31), type := 0, pos := "ref.go:103", after := #[{ on := 6, ground := Ground.data }], guard := none }) (v := ?_) rfl (by kernel_rfl) (by kernel_rfl) (by kernel_rfl) (fun _ _ _ h => h) (Or.inl ⟨by rfl, ?_⟩) hHeld ?_
  rotate_left
  · intro w hSw
    (try dsimp only at hSw)
    first | (go_simp; done) | (go_simp; with_reducible rfl)
  (try simp only [Act.put, List.setIfInBounds_toArray, List.set_cons_zero, List.set_cons_succ])
  refine wpAnyH_take (i := 8) (oi := { dst := some 33, op := Op.fieldAddr 52 (Operand.tmp 32) 2, type := 0, pos := "ref.go:103", after := #[{ on := 7, ground := Ground.data }], guard := none }) (v := ?_) rfl (by kernel_rfl) (by kernel_rfl) (by kernel_rfl) (fun _ _ _ h => h) (Or.inl ⟨by rfl, ?_⟩) hHeld ?_
  rotate_left
  · intro w hSw
    (try dsimp only at hSw)
    first | (go_simp; done) | (go_simp; with_reducible rfl)
  (try simp only [Act.put, List.setIfInBounds_toArray, List.set_cons_zero, List.set_cons_succ])
  refine wpAnyH_take (i := 9) (oi := { dst := some 34, op := Op.load 3 (Operand.tmp 33), type := 3, pos := "ref.go:103", after := #[{ on := 8, ground := Ground.data }], guard := none }) (v := ?_) rfl (by kernel_rfl) (by kernel_rfl) (by kernel_rfl) (fun _ _ _ h => h) (Or.inl ⟨by rfl, ?_⟩) hHeld ?_
  rotate_left
  · intro w hSw
    (try dsimp only at hSw)
    first | (go_simp; done) | (go_simp; with_reducible rfl)
  (try simp only [Act.put, List.setIfInBounds_toArray, List.set_cons_zero, List.set_cons_succ])
  refine wpAnyH_take (i := 10) (oi := { dst := some 35, op := Op.binOp BinOp.add 3 (Operand.tmp 34) (Operand.const (Value.int IntKind.i64 1)) 3, type := 3, pos := "ref.go:103", after := #[{ on := 9, ground := Ground.data }], guard := none }) (v := ?_) rfl (by kernel_rfl) (by kernel_rfl) (by kernel_rfl) (fun _ _ _ h => h) (Or.inl ⟨by rfl, ?_⟩) hHeld ?_
  rotate_left
  · intro w hSw
    (try dsimp only at hSw)
    first | (go_simp; done) | (go_simp; with_reducible rfl)
  (try simp only [Act.put, List.setIfInBounds_toArray, List.set_cons_zero, List.set_cons_succ])
  refine wpAnyH_take (i := 11) (oi := { dst := some 36, op := Op.move (Operand.tmp 1), type := 9, pos := "ref.go:103", after := #[], guard := none }) (v := ?_) rfl (by kernel_rfl) (by kernel_rfl) (by kernel_rfl) (fun _ _ _ h => h) (Or.inl ⟨by rfl, ?_⟩) hHeld ?_
  rotate_left
  · intro w hSw
    (try dsimp only at hSw)
    first | (go_simp; done) | (go_simp; with_reducible rfl)
  (try simp only [Act.put, List.setIfInBounds_toArray, List.set_cons_zero, List.set_cons_succ])
  refine wpAnyH_ready (rs := [12]) (by kernel_rfl) (by simp) ?_
  refine AllReadyH.cons (o := { dst := some 37, op := Op.call { callee := Callee.value (Operand.func 40), args := #[Operand.tmp 25, Operand.tmp 30, Operand.tmp 35, Operand.const (Value.int IntKind.i64 1), Operand.tmp 36], argTypes := #[40, 3, 3, 3, 9] }, type := 4, pos := "ref.go:103", after := #[{ on := 0, ground := Ground.data }, { on := 5, ground := Ground.data }, { on := 10, ground := Ground.data }, { on := 11, ground := Ground.data }], guard := none }) rfl (fun K hK => ?_) AllReadyH.nil
  go_simp
  refine (HL.out _ ?_).mono ?_
  · exact ⟨rfl, rfl, rfl, rfl⟩
  rintro e w2 ⟨rfl, R2, H2⟩
  have q1 := H2.out.2.1.c1
  have q2 := H2.out.2.1.c2
  simp only [← HA0.out] at q1
  simp only [← HG0.out] at q2
  have HN2 : Hid (∀ k, R2 k → ¬ V k) := Lib.hid (fun k hr hv => (H2.out.2.2.1 k hr).elim (fun h => HDIS.out k h hv) (fun h => by have := (HV.out.lt k hv).2; omega))
  refine hK.out _ _ ?_ (fun hHeld => ?_)
  · exact ⟨q1, q2⟩
  clear hK K
  (try simp only [Act.put, List.setIfInBounds_toArray, List.set_cons_zero, List.set_cons_succ])
  refine wpAnyH_take (i := 13) (oi := { dst := some 38, op := Op.unOp UnOp.not 4 (Operand.tmp 37), type := 4, pos := "ref.go:103", after := #[{ on := 12, ground := Ground.data }], guard := none }) (v := ?_) rfl (by kernel_rfl) (by kernel_rfl) (by kernel_rfl) (fun _ _ _ h => h) (Or.inl ⟨by rfl, ?_⟩) hHeld ?_
  rotate_left
  · intro w hSw
    (try dsimp only at hSw)
    first | (go_simp; done) | (go_simp; with_reducible rfl)
  (try simp only [Act.put, List.setIfInBounds_toArray, List.set_cons_zero, List.set_cons_succ])
  refine wpAnyH_take (i := 14) (oi := { dst := some 39, op := Op.move (Operand.tmp 38), type := 4, pos := "ref.go:103", after := #[{ on := 13, ground := Ground.data }, { on := 12, ground := Ground.chain }], guard := none }) (v := ?_) rfl (by kernel_rfl) (by kernel_rfl) (by kernel_rfl) (fun _ _ _ h => h) (Or.inl ⟨by rfl, ?_⟩) hHeld ?_
  rotate_left
  · intro w hSw
    (try dsimp only at hSw)
    first | (go_simp; done) | (go_simp; with_reducible rfl)
  (try simp only [Act.put, List.setIfInBounds_toArray, List.set_cons_zero, List.set_cons_succ])
  refine wpAnyH_take (i := 15) (oi := { dst := some 40, op := Op.move (Operand.tmp 0), type := 40, pos := "ref.go:103", after := #[{ on := 14, ground := Ground.guard }], guard := some (14, false) }) (v := ?_) rfl (by kernel_rfl) (by kernel_rfl) (by kernel_rfl) (fun _ _ _ h => h) (Or.inl ⟨by rfl, ?_⟩) hHeld ?_
  rotate_left
  · intro w hSw
    (try dsimp only at hSw)
    first | (go_simp; done) | (go_simp; with_reducible rfl)
  (try simp only [Act.put, List.setIfInBounds_toArray, List.set_cons_zero, List.set_cons_succ])
  refine wpAnyH_take (i := 16) (oi := { dst := some 41, op := Op.move (Operand.tmp 0), type := 40, pos := "ref.go:103", after := #[{ on := 14, ground := Ground.guard }], guard := some (14, false) }) (v := ?_) rfl (by kernel_rfl) (by kernel_rfl) (by kernel_rfl) (fun _ _ _ h => h) (Or.inl ⟨by rfl, ?_⟩) hHeld ?_
  rotate_left
  · intro w hSw
    (try dsimp only at hSw)
    first | (go_simp; done) | (go_simp; with_reducible rfl)
  (try simp only [Act.put, List.setIfInBounds_toArray, List.set_cons_zero, List.set_cons_succ])
  refine wpAnyH_take (i := 17) (oi := { dst := some 42, op := Op.nilCheck (Operand.tmp 41), type := 0, pos := "ref.go:103", after := #[{ on := 16, ground := Ground.data }, { on := 14, ground := Ground.guard }], guard := some (14, false) }) (v := ?_) rfl (by kernel_rfl) (by kernel_rfl) (by kernel_rfl) (fun _ _ _ h => h) (Or.inl ⟨by rfl, ?_⟩) hHeld ?_
  rotate_left
  · intro w hSw
    (try dsimp only at hSw)
    first | (go_simp; done) | (go_simp; with_reducible rfl)
  (try simp only [Act.put, List.setIfInBounds_toArray, List.set_cons_zero, List.set_cons_succ])
  refine wpAnyH_take (i := 18) (oi := { dst := some 43, op := Op.fieldAddr 52 (Operand.tmp 42) 1, type := 0, pos := "ref.go:103", after := #[{ on := 17, ground := Ground.data }, { on := 14, ground := Ground.guard }], guard := some (14, false) }) (v := ?_) rfl (by kernel_rfl) (by kernel_rfl) (by kernel_rfl) (fun _ _ _ h => h) (Or.inl ⟨by rfl, ?_⟩) hHeld ?_
  rotate_left
  · intro w hSw
    (try dsimp only at hSw)
    first | (go_simp; done) | (go_simp; with_reducible rfl)
  (try simp only [Act.put, List.setIfInBounds_toArray, List.set_cons_zero, List.set_cons_succ])
  refine wpAnyH_take (i := 19) (oi := { dst := some 44, op := Op.load 3 (Operand.tmp 43), type := 3, pos := "ref.go:103", after := #[{ on := 18, ground := Ground.data }, { on := 14, ground := Ground.guard }], guard := some (14, false) }) (v := ?_) rfl (by kernel_rfl) (by kernel_rfl) (by kernel_rfl) (fun _ _ _ h => h) (Or.inl ⟨by rfl, ?_⟩) hHeld ?_
  rotate_left
  · intro w hSw
    (try dsimp only at hSw)
    first | (go_simp; done) | (go_simp; with_reducible rfl)
  (try simp only [Act.put, List.setIfInBounds_toArray, List.set_cons_zero, List.set_cons_succ])
  refine wpAnyH_take (i := 20) (oi := { dst := some 45, op := Op.binOp BinOp.sub 3 (Operand.const (Value.int IntKind.i64 1)) (Operand.tmp 44) 3, type := 3, pos := "ref.go:103", after := #[{ on := 19, ground := Ground.data }, { on := 14, ground := Ground.guard }], guard := some (14, false) }) (v := ?_) rfl (by kernel_rfl) (by kernel_rfl) (by kernel_rfl) (fun _ _ _ h => h) (Or.inl ⟨by rfl, ?_⟩) hHeld ?_
  rotate_left
  · intro w hSw
    (try dsimp only at hSw)
    first | (go_simp; done) | (go_simp; with_reducible rfl)
  (try simp only [Act.put, List.setIfInBounds_toArray, List.set_cons_zero, List.set_cons_succ])
  refine wpAnyH_take (i := 21) (oi := { dst := some 46, op := Op.move (Operand.tmp 0), type := 40, pos := "ref.go:103", after := #[{ on := 14, ground := Ground.guard }], guard := some (14, false) }) (v := ?_) rfl (by kernel_rfl) (by kernel_rfl) (by kernel_rfl) (fun _ _ _ h => h) (Or.inl ⟨by rfl, ?_⟩) hHeld ?_
  rotate_left
  · intro w hSw
    (try dsimp only at hSw)
    first | (go_simp; done) | (go_simp; with_reducible rfl)
  (try simp only [Act.put, List.setIfInBounds_toArray, List.set_cons_zero, List.set_cons_succ])
  refine wpAnyH_take (i := 22) (oi := { dst := some 47, op := Op.nilCheck (Operand.tmp 46), type := 0, pos := "ref.go:103", after := #[{ on := 21, ground := Ground.data }, { on := 14, ground := Ground.guard }], guard := some (14, false) }) (v := ?_) rfl (by kernel_rfl) (by kernel_rfl) (by kernel_rfl) (fun _ _ _ h => h) (Or.inl ⟨by rfl, ?_⟩) hHeld ?_
  rotate_left
  · intro w hSw
    (try dsimp only at hSw)
    first | (go_simp; done) | (go_simp; with_reducible rfl)
  (try simp only [Act.put, List.setIfInBounds_toArray, List.set_cons_zero, List.set_cons_succ])
  refine wpAnyH_take (i := 23) (oi := { dst := some 48, op := Op.fieldAddr 52 (Operand.tmp 47) 2, type := 0, pos := "ref.go:103", after := #[{ on := 22, ground := Ground.data }, { on := 14, ground := Ground.guard }], guard := some (14, false) }) (v := ?_) rfl (by kernel_rfl) (by kernel_rfl) (by kernel_rfl) (fun _ _ _ h => h) (Or.inl ⟨by rfl, ?_⟩) hHeld ?_
  rotate_left
  · intro w hSw
    (try dsimp only at hSw)
    first | (go_simp; done) | (go_simp; with_reducible rfl)
  (try simp only [Act.put, List.setIfInBounds_toArray, List.set_cons_zero, List.set_cons_succ])
  refine wpAnyH_take (i := 24) (oi := { dst := some 49, op := Op.load 3 (Operand.tmp 48), type := 3, pos := "ref.go:103", after := #[{ on := 23, ground := Ground.data }, { on := 14, ground := Ground.guard }], guard := some (14, false) }) (v := ?_) rfl (by kernel_rfl) (by kernel_rfl) (by kernel_rfl) (fun _ _ _ h => h) (Or.inl ⟨by rfl, ?_⟩) hHeld ?_
  rotate_left
  · intro w hSw
    (try dsimp only at hSw)
    first | (go_simp; done) | (go_simp; with_reducible rfl)
  (try simp only [Act.put, List.setIfInBounds_toArray, List.set_cons_zero, List.set_cons_succ])
  refine wpAnyH_take (i := 25) (oi := { dst := some 50, op := Op.binOp BinOp.add 3 (Operand.tmp 49) (Operand.const (Value.int IntKind.i64 1)) 3, type := 3, pos := "ref.go:103", after := #[{ on := 24, ground := Ground.data }, { on := 14, ground := Ground.guard }], guard := some (14, false) }) (v := ?_) rfl (by kernel_rfl) (by kernel_rfl) (by kernel_rfl) (fun _ _ _ h => h) (Or.inl ⟨by rfl, ?_⟩) hHeld ?_
  rotate_left
  · intro w hSw
    (try dsimp only at hSw)
    first | (go_simp; done) | (go_simp; with_reducible rfl)
  (try simp only [Act.put, List.setIfInBounds_toArray, List.set_cons_zero, List.set_cons_succ])
  refine wpAnyH_ready (rs := [26]) (by kernel_rfl) (by simp) ?_
  refine AllReadyH.cons (o := { dst := some 51, op := Op.call { callee := Callee.value (Operand.func 40), args := #[Operand.tmp 40, Operand.tmp 45, Operand.tmp 50, Operand.const (Value.int IntKind.i64 0), Operand.const (Value.string { data := #[104, 101, 97, 100] })], argTypes := #[40, 3, 3, 3, 9] }, type := 4, pos := "ref.go:103", after := #[{ on := 15, ground := Ground.data }, { on := 20, ground := Ground.data }, { on := 25, ground := Ground.data }, { on := 14, ground := Ground.chain }, { on := 14, ground := Ground.guard }], guard := some (14, false) }) rfl (fun K hK => ?_) AllReadyH.nil
  go_simp
  refine (HL2.out w2 R2 _ H2.out.1 H2.out.2.1 HN2.out (Nat.le_trans HBW.out H2.out.2.2.2.size) ?_).mono ?_
  · exact ⟨rfl, rfl, rfl, rfl⟩
  rintro e w3 ⟨rfl, R3, H3⟩
  have p1 := H3.out.2.1.c1
  have p2 := H3.out.2.1.c2
  simp only [← HA0.out] at p1
  simp only [← HG0.out] at p2
  refine hK.out _ _ ?_ (fun hHeld => ?_)
  · exact ⟨p1, p2⟩
  clear hK K
  (try simp only [Act.put, List.setIfInBounds_toArray, List.set_cons_zero, List.set_cons_succ])
  refine wpAnyH_take (i := 27) (oi := { dst := some 52, op := Op.unOp UnOp.not 4 (Operand.tmp 51), type := 4, pos := "ref.go:103", after := #[{ on := 26, ground := Ground.data }, { on := 14, ground := Ground.guard }], guard := some (14, false) }) (v := ?_) rfl (by kernel_rfl) (by kernel_rfl) (by kernel_rfl) (fun _ _ _ h => h) (Or.inl ⟨by rfl, ?_⟩) hHeld ?_
  rotate_left
  · intro w hSw
    (try dsimp only at hSw)
    first | (go_simp; done) | (go_simp; with_reducible rfl)
  (try simp only [Act.put, List.setIfInBounds_toArray, List.set_cons_zero, List.set_cons_succ])
  refine wpAnyH_take (i := 28) (oi := { dst := some 53, op := Op.pick (Operand.tmp 39) (Operand.const (Value.bool true)) (Operand.tmp 52), type := 4, pos := "ref.go:103", after := #[{ on := 14, ground := Ground.data }, { on := 27, ground := Ground.data }], guard := none }) (v := ?_) rfl (by kernel_rfl) (by kernel_rfl) (by kernel_rfl) (fun _ _ _ h => h) (Or.inl ⟨by rfl, ?_⟩) hHeld ?_
  rotate_left
  · intro w hSw
    (try dsimp only at hSw)
    first | (go_simp; done) | (go_simp; with_reducible rfl)
  (try simp only [Act.put, List.setIfInBounds_toArray, List.set_cons_zero, List.set_cons_succ])
  refine wpAnyH_done (by kernel_rfl) ?_ _
  clear hHeld
  clear c0 c1 c2 c4 d0 q1 q2 p1 p2
  have HR3 : Hid (∀ k, R3 k → R k ∨ w.heap.size ≤ k) := Lib.hid (fun k hk => (H3.out.2.2.1 k hk).elim (H2.out.2.2.1 k) (fun h => .inr (Nat.le_trans H2.out.2.2.2.size h)))
  have HK3 : Hid (Kept (fun k => R k ∨ V k) w w3) := Lib.hid (H2.out.2.2.2.trans H3.out.2.2.2 (fun k hk h => h.elim (fun h1 => (H2.out.2.2.1 k h1).elim .inl (fun h2 => absurd hk (by omega))) .inr))
  go_wp2
  go_ret
  exact ⟨rfl, R3, H3.out.1, H3.out.2.1, HR3.out, HK3.out⟩

set_option maxRecDepth 20000 in
set_option maxHeartbeats 4000000 in
theorem mchk_ok (t : ByteArray) (h : DskR w B R m g s fu) (hV : InvV w B V v m l lv) (hdis : ∀ k, R k → ¬ V k) (hb : l.broken = false) (hbig : s.Big) (hl : t.size + 14 ≤ s.size) (hg : l.gen < 4294967295) (ha : l.area ≤ 1) (hc : fu.count < 800000) (hln : s.opn.length < 800000) (hBw : B ≤ w.heap.size) (hok : layOk fu = true) (hok2 : layOk (layF fu) = true) :
    Calls Try.prog 18 #[.pointer (some ⟨v, 0, none⟩), .string t] w fun e w' => e = .returned (.int .i64 0) ∧ Marked w B R V m g (layS (layS s fu ((1 - l.area) * s.half + 1) (secB (l.gen + 1) 1 t s.size)) (layF fu) ((1 - l.area) * s.half + 0) (secB (l.gen + 1) 0 headT s.size)) (layF (layF fu)) v ⟨1 - l.area, l.gen + 1, [t], l.broken⟩ w' := by
  have hn1 := h.good.n1
  have hf5 : s.half ≤ 512 := by unfold Dk.half; omega
  have h2h : 2 * s.half ≤ s.now.length := by unfold Dk.half; omega
  have hb4 := hbig.len
  have hf2 : 2 ≤ s.half := by unfold Dk.half; omega
  have hah : (1 - l.area) * s.half ≤ s.half := by rcases (by omega : l.area = 0 ∨ l.area = 1) with e | e <;> rw [e] <;> omega
  have c4 := hV.c4
  rw [hb] at c4
  have c0 := hV.c0
  have c1 := hV.c1
  have c2 := hV.c2
  have d0 := h.c0
  have hsz := h.good.sz
  have hb1 := hbig.size
  obtain ⟨A, hA⟩ : ∃ A, A = l.area := ⟨_, rfl⟩
  obtain ⟨G, hG⟩ : ∃ G, G = l.gen := ⟨_, rfl⟩
  obtain ⟨A1, hA1⟩ : ∃ A, A = 1 - l.area := ⟨_, rfl⟩
  obtain ⟨G1, hG1⟩ : ∃ G, G = l.gen + 1 := ⟨_, rfl⟩
  obtain ⟨S1, hS1⟩ : ∃ S, S = layS s fu ((1 - l.area) * s.half + 1) (secB (l.gen + 1) 1 t s.size) := ⟨_, rfl⟩
  have HL : Hid (∀ wd, Alike wd w → Calls Try.prog 40 #[.pointer (some ⟨v, 0, none⟩), .int .i64 (A1 : Int), .int .i64 (G1 : Int), .int .i64 1, .string t] wd fun e w' => e = .returned (.bool true) ∧
      ∃ R', Hid (DskR w' B R' m g S1 (layF fu) ∧ InvV w' B V v m { l with broken := l.broken } lv ∧ (∀ k, R' k → R k ∨ w.heap.size ≤ k) ∧ Kept (fun k => R k ∨ V k) w w')) := Lib.hid (fun wd hd => by
    rw [hA1, hG1, hS1]
    have hh := lay_here hd (1 - l.area) (l.gen + 1) 1 _ t h hV hdis hbig (by omega) (by omega) hl (by omega) rfl (by omega) (by omega) (by omega) hBw
    rw [hok] at hh
    exact hh)
  obtain ⟨S2, hS2⟩ : ∃ S, S = layS S1 (layF fu) ((1 - l.area) * s.half + 0) (secB (l.gen + 1) 0 headT s.size) := ⟨_, rfl⟩
  obtain ⟨k1, k2⟩ := layS_len s fu ((1 - l.area) * s.half + 1) (secB (l.gen + 1) 1 t s.size)
  have k3 := layS_half s fu ((1 - l.area) * s.half + 1) (secB (l.gen + 1) 1 t s.size)
  have k4 := layS_opn s fu ((1 - l.area) * s.half + 1) (secB (l.gen + 1) 1 t s.size)
  have k5 := layS_big fu ((1 - l.area) * s.half + 1) (secB (l.gen + 1) 1 t s.size) hbig
  have k6 := layF_count fu
  rw [← hS1] at k1 k2 k3 k4 k5
  have HL2 : Hid (∀ w2 R2 wd, DskR w2 B R2 m g S1 (layF fu) → InvV w2 B V v m l lv → (∀ k, R2 k → ¬ V k) → B ≤ w2.heap.size → Alike wd w2 → Calls Try.prog 40 #[.pointer (some ⟨v, 0, none⟩), .int .i64 (A1 : Int), .int .i64 (G1 : Int), .int .i64 0, .string headT] wd fun e w' => e = .returned (.bool true) ∧
      ∃ R', Hid (DskR w' B R' m g S2 (layF (layF fu)) ∧ InvV w' B V v m { l with broken := l.broken } lv ∧ (∀ k, R' k → R2 k ∨ w2.heap.size ≤ k) ∧ Kept (fun k => R2 k ∨ V k) w2 w')) := Lib.hid (fun w2 R2 wd h2 hV2 hd2 hB2 hd => by
    rw [hA1, hG1, hS2]
    have hh := lay_here hd (1 - l.area) (l.gen + 1) 0 ((1 - l.area) * s.half + 0) headT h2 hV2 hd2 k5 (by omega) (by omega) (by rw [k2, headT_size]; have := hbig.size; omega) (by omega) (by rw [k3]) (by rw [k1]; omega) (by omega) (by omega) hB2
    rw [hok2, k2] at hh
    exact hh)
  rw [← hS1, ← hS2]
  obtain ⟨sz, hsz'⟩ : ∃ sz, sz = s.size := ⟨_, rfl⟩
  rw [← hsz'] at d0 hsz hb1 hl
  have e7 : decide ((sz : Int) - 14 < (t.size : Int)) = false := by simp; omega
  have e9 : decide (4294967295 ≤ (G : Int)) = false := by simp; omega
  have eA : (1 : Int) - (A : Int) = (A1 : Int) := by omega
  have eA2 : IntKind.i64.wrap (A1 : Int) = (A1 : Int) := IntWalk.i64_in _ (by omega)
  have eG : (G : Int) + 1 = (G1 : Int) := by omega
  have eG2 : IntKind.i64.wrap (G1 : Int) = (G1 : Int) := IntWalk.i64_in _ (by omega)
  have hG0 : G < 4294967295 := by omega
  have hA0 : A ≤ 1 := by omega
  rw [← hA] at c1
  rw [← hG] at c2
  have HAE := Lib.hid hA1
  have HGE := Lib.hid hG1
  have HA0 := Lib.hid hA
  have HG0 := Lib.hid hG
  have HBW := Lib.hid hBw
  have HV := Lib.hid hV
  have HDIS := Lib.hid hdis
  clear h hV hdis hb hbig hg ha hc hln hBw hok hA hG hA1 hG1 hS1 hf5 h2h hb4 hf2 hah hn1 hsz' hS2 k1 k2 k3 k4 k5 k6 hok2
  go_enter Try.func18, Try.ntmps18
  go_wp2_with fail
  refine (mroom_in sz _ hb1 hsz).mono ?_
  rintro e w' ⟨rfl, rfl⟩
  go_wp2_with fail
  refine wp_region_held_drew (S := (fun wx => wx.cell? ⟨v, 1, none⟩ = some (.int .i64 (A : Int)) ∧ wx.cell? ⟨v, 2, none⟩ = some (.int .i64 (G : Int)))) (by kernel_rfl) ?_ (fun hHeld => ?_)
  · exact ⟨c1, c2⟩
  refine wpAnyH_take (i := 0) (oi := { dst := some 25, op := Op.move (Operand.tmp 0), type := 40, pos := "ref.go:103", after := #[], guard := none }) (v := ?_) rfl (by kernel_rfl) (by kernel_rfl) (by kernel_rfl) (fun _ _ _ h => h) (Or.inl ⟨by rfl, ?_⟩) hHeld ?_
  rotate_left
  · intro w hSw
    (try dsimp only at hSw)
    first | (go_simp; done) | (go_simp; with_reducible rfl)
  (try simp only [Act.put, List.setIfInBounds_toArray, List.set_cons_zero, List.set_cons_succ])
  refine wpAnyH_take (i := 1) (oi := { dst := some 26, op := Op.move (Operand.tmp 0), type := 40, pos := "ref.go:103", after := #[], guard := none }) (v := ?_) rfl (by kernel_rfl) (by kernel_rfl) (by kernel_rfl) (fun _ _ _ h => h) (Or.inl ⟨by rfl, ?_⟩) hHeld ?_
  rotate_left
  · intro w hSw
    (try dsimp only at hSw)
    first | (go_simp; done) | (go_simp; with_reducible rfl)
  (try simp only [Act.put, List.setIfInBounds_toArray, List.set_cons_zero, List.set_cons_succ])
  refine wpAnyH_take (i := 2) (oi := { dst := some 27, op := Op.nilCheck (Operand.tmp 26), type := 0, pos := "ref.go:103", after := #[{ on := 1, ground := Ground.data }], guard := none }) (v := ?_) rfl (by kernel_rfl) (by kernel_rfl) (by kernel_rfl) (fun _ _ _ h => h) (Or.inl ⟨by rfl, ?_⟩) hHeld ?_
  rotate_left
  · intro w hSw
    (try dsimp only at hSw)
    first | (go_simp; done) | (go_simp; with_reducible rfl)
  (try simp only [Act.put, List.setIfInBounds_toArray, List.set_cons_zero, List.set_cons_succ])
  refine wpAnyH_take (i := 3) (oi := { dst := some 28, op := Op.fieldAddr 52 (Operand.tmp 27) 1, type := 0, pos := "ref.go:103", after := #[{ on := 2, ground := Ground.data }], guard := none }) (v := ?_) rfl (by kernel_rfl) (by kernel_rfl) (by kernel_rfl) (fun _ _ _ h => h) (Or.inl ⟨by rfl, ?_⟩) hHeld ?_
  rotate_left
  · intro w hSw
    (try dsimp only at hSw)
    first | (go_simp; done) | (go_simp; with_reducible rfl)
  (try simp only [Act.put, List.setIfInBounds_toArray, List.set_cons_zero, List.set_cons_succ])
  refine wpAnyH_take (i := 4) (oi := { dst := some 29, op := Op.load 3 (Operand.tmp 28), type := 3, pos := "ref.go:103", after := #[{ on := 3, ground := Ground.data }], guard := none }) (v := ?_) rfl (by kernel_rfl) (by kernel_rfl) (by kernel_rfl) (fun _ _ _ h => h) (Or.inl ⟨by rfl, ?_⟩) hHeld ?_
  rotate_left
  · intro w hSw
    (try dsimp only at hSw)
    first | (go_simp; done) | (go_simp; with_reducible rfl)
  (try simp only [Act.put, List.setIfInBounds_toArray, List.set_cons_zero, List.set_cons_succ])
  refine wpAnyH_take (i := 5) (oi := { dst := some 30, op := Op.binOp BinOp.sub 3 (Operand.const (Value.int IntKind.i64 1)) (Operand.tmp 29) 3, type := 3, pos := "ref.go:103", after := #[{ on := 4, ground := Ground.data }], guard := none }) (v := ?_) rfl (by kernel_rfl) (by kernel_rfl) (by kernel_rfl) (fun _ _ _ h => h) (Or.inl ⟨by rfl, ?_⟩) hHeld ?_
  rotate_left
  · intro w hSw
    (try dsimp only at hSw)
    first | (go_simp; done) | (go_simp; with_reducible rfl)
  (try simp only [Act.put, List.setIfInBounds_toArray, List.set_cons_zero, List.set_cons_succ])
  refine wpAnyH_take (i := 6) (oi := { dst := some 31, op := Op.move (Operand.tmp 0), type := 40, pos := "ref.go:103", after := #[], guard := none }) (v := ?_) rfl (by kernel_rfl) (by kernel_rfl) (by kernel_rfl) (fun _ _ _ h => h) (Or.inl ⟨by rfl, ?_⟩) hHeld ?_
  rotate_left
  · intro w hSw
    (try dsimp only at hSw)
    first | (go_simp; done) | (go_simp; with_reducible rfl)
  (try simp only [Act.put, List.setIfInBounds_toArray, List.set_cons_zero, List.set_cons_succ])
  refine wpAnyH_take (i := 7) (oi := { dst := some 32, op := Op.nilCheck (Operand.tmp 31), type := 0, pos := "ref.go:103", after := #[{ on := 6, ground := Ground.data }], guard := none }) (v := ?_) rfl (by kernel_rfl) (by kernel_rfl) (by kernel_rfl) (fun _ _ _ h => h) (Or.inl ⟨by rfl, ?_⟩) hHeld ?_
  rotate_left
  · intro w hSw
    (try dsimp only at hSw)
    first | (go_simp; done) | (go_simp; with_reducible rfl)
  (try simp only [Act.put, List.setIfInBounds_toArray, List.set_cons_zero, List.set_cons_succ])
  refine wpAnyH_take (i := 8) (oi := { dst := some 33, op := Op.fieldAddr 52 (Operand.tmp 32) 2, type := 0, pos := "ref.go:103", after := #[{ on := 7, ground := Ground.data }], guard := none }) (v := ?_) rfl (by kernel_rfl) (by kernel_rfl) (by kernel_rfl) (fun _ _ _ h => h) (Or.inl ⟨by rfl, ?_⟩) hHeld ?_
  rotate_left
  · intro w hSw
    (try dsimp only at hSw)
    first | (go_simp; done) | (go_simp; with_reducible rfl)
  (try simp only [Act.put, List.setIfInBounds_toArray, List.set_cons_zero, List.set_cons_succ])
  refine wpAnyH_take (i := 9) (oi := { dst := some 34, op := Op.load 3 (Operand.tmp 33), type := 3, pos := "ref.go:103", after := #[{ on := 8, ground := Ground.data }], guard := none }) (v := ?_) rfl (by kernel_rfl) (by kernel_rfl) (by kernel_rfl) (fun _ _ _ h => h) (Or.inl ⟨by rfl, ?_⟩) hHeld ?_
  rotate_left
  · intro w hSw
    (try dsimp only at hSw)
    first | (go_simp; done) | (go_simp; with_reducible rfl)
  (try simp only [Act.put, List.setIfInBounds_toArray, List.set_cons_zero, List.set_cons_succ])
  refine wpAnyH_take (i := 10) (oi := { dst := some 35, op := Op.binOp BinOp.add 3 (Operand.tmp 34) (Operand.const (Value.int IntKind.i64 1)) 3, type := 3, pos := "ref.go:103", after := #[{ on := 9, ground := Ground.data }], guard := none }) (v := ?_) rfl (by kernel_rfl) (by kernel_rfl) (by kernel_rfl) (fun _ _ _ h => h) (Or.inl ⟨by rfl, ?_⟩) hHeld ?_
  rotate_left
  · intro w hSw
    (try dsimp only at hSw)
    first | (go_simp; done) | (go_simp; with_reducible rfl)
  (try simp only [Act.put, List.setIfInBounds_toArray, List.set_cons_zero, List.set_cons_succ])
  refine wpAnyH_take (i := 11) (oi := { dst := some 36, op := Op.move (Operand.tmp 1), type := 9, pos := "ref.go:103", after := #[], guard := none }) (v := ?_) rfl (by kernel_rfl) (by kernel_rfl) (by kernel_rfl) (fun _ _ _ h => h) (Or.inl ⟨by rfl, ?_⟩) hHeld ?_
  rotate_left
  · intro w hSw
    (try dsimp only at hSw)
    first | (go_simp; done) | (go_simp; with_reducible rfl)
  (try simp only [Act.put, List.setIfInBounds_toArray, List.set_cons_zero, List.set_cons_succ])
  refine wpAnyH_ready (rs := [12]) (by kernel_rfl) (by simp) ?_
  refine AllReadyH.cons (o := { dst := some 37, op := Op.call { callee := Callee.value (Operand.func 40), args := #[Operand.tmp 25, Operand.tmp 30, Operand.tmp 35, Operand.const (Value.int IntKind.i64 1), Operand.tmp 36], argTypes := #[40, 3, 3, 3, 9] }, type := 4, pos := "ref.go:103", after := #[{ on := 0, ground := Ground.data }, { on := 5, ground := Ground.data }, { on := 10, ground := Ground.data }, { on := 11, ground := Ground.data }], guard := none }) rfl (fun K hK => ?_) AllReadyH.nil
  go_simp
  refine (HL.out _ ?_).mono ?_
  · exact ⟨rfl, rfl, rfl, rfl⟩
  rintro e w2 ⟨rfl, R2, H2⟩
  have q1 := H2.out.2.1.c1
  have q2 := H2.out.2.1.c2
  simp only [← HA0.out] at q1
  simp only [← HG0.out] at q2
  have HN2 : Hid (∀ k, R2 k → ¬ V k) := Lib.hid (fun k hr hv => (H2.out.2.2.1 k hr).elim (fun h => HDIS.out k h hv) (fun h => by have := (HV.out.lt k hv).2; omega))
  refine hK.out _ _ ?_ (fun hHeld => ?_)
  · exact ⟨q1, q2⟩
  clear hK K
  (try simp only [Act.put, List.setIfInBounds_toArray, List.set_cons_zero, List.set_cons_succ])
  refine wpAnyH_take (i := 13) (oi := { dst := some 38, op := Op.unOp UnOp.not 4 (Operand.tmp 37), type := 4, pos := "ref.go:103", after := #[{ on := 12, ground := Ground.data }], guard := none }) (v := ?_) rfl (by kernel_rfl) (by kernel_rfl) (by kernel_rfl) (fun _ _ _ h => h) (Or.inl ⟨by rfl, ?_⟩) hHeld ?_
  rotate_left
  · intro w hSw
    (try dsimp only at hSw)
    first | (go_simp; done) | (go_simp; with_reducible rfl)
  (try simp only [Act.put, List.setIfInBounds_toArray, List.set_cons_zero, List.set_cons_succ])
  refine wpAnyH_take (i := 14) (oi := { dst := some 39, op := Op.move (Operand.tmp 38), type := 4, pos := "ref.go:103", after := #[{ on := 13, ground := Ground.data }, { on := 12, ground := Ground.chain }], guard := none }) (v := ?_) rfl (by kernel_rfl) (by kernel_rfl) (by kernel_rfl) (fun _ _ _ h => h) (Or.inl ⟨by rfl, ?_⟩) hHeld ?_
  rotate_left
  · intro w hSw
    (try dsimp only at hSw)
    first | (go_simp; done) | (go_simp; with_reducible rfl)
  (try simp only [Act.put, List.setIfInBounds_toArray, List.set_cons_zero, List.set_cons_succ])
  refine wpAnyH_take (i := 15) (oi := { dst := some 40, op := Op.move (Operand.tmp 0), type := 40, pos := "ref.go:103", after := #[{ on := 14, ground := Ground.guard }], guard := some (14, false) }) (v := ?_) rfl (by kernel_rfl) (by kernel_rfl) (by kernel_rfl) (fun _ _ _ h => h) (Or.inl ⟨by rfl, ?_⟩) hHeld ?_
  rotate_left
  · intro w hSw
    (try dsimp only at hSw)
    first | (go_simp; done) | (go_simp; with_reducible rfl)
  (try simp only [Act.put, List.setIfInBounds_toArray, List.set_cons_zero, List.set_cons_succ])
  refine wpAnyH_take (i := 16) (oi := { dst := some 41, op := Op.move (Operand.tmp 0), type := 40, pos := "ref.go:103", after := #[{ on := 14, ground := Ground.guard }], guard := some (14, false) }) (v := ?_) rfl (by kernel_rfl) (by kernel_rfl) (by kernel_rfl) (fun _ _ _ h => h) (Or.inl ⟨by rfl, ?_⟩) hHeld ?_
  rotate_left
  · intro w hSw
    (try dsimp only at hSw)
    first | (go_simp; done) | (go_simp; with_reducible rfl)
  (try simp only [Act.put, List.setIfInBounds_toArray, List.set_cons_zero, List.set_cons_succ])
  refine wpAnyH_take (i := 17) (oi := { dst := some 42, op := Op.nilCheck (Operand.tmp 41), type := 0, pos := "ref.go:103", after := #[{ on := 16, ground := Ground.data }, { on := 14, ground := Ground.guard }], guard := some (14, false) }) (v := ?_) rfl (by kernel_rfl) (by kernel_rfl) (by kernel_rfl) (fun _ _ _ h => h) (Or.inl ⟨by rfl, ?_⟩) hHeld ?_
  rotate_left
  · intro w hSw
    (try dsimp only at hSw)
    first | (go_simp; done) | (go_simp; with_reducible rfl)
  (try simp only [Act.put, List.setIfInBounds_toArray, List.set_cons_zero, List.set_cons_succ])
  refine wpAnyH_take (i := 18) (oi := { dst := some 43, op := Op.fieldAddr 52 (Operand.tmp 42) 1, type := 0, pos := "ref.go:103", after := #[{ on := 17, ground := Ground.data }, { on := 14, ground := Ground.guard }], guard := some (14, false) }) (v := ?_) rfl (by kernel_rfl) (by kernel_rfl) (by kernel_rfl) (fun _ _ _ h => h) (Or.inl ⟨by rfl, ?_⟩) hHeld ?_
  rotate_left
  · intro w hSw
    (try dsimp only at hSw)
    first | (go_simp; done) | (go_simp; with_reducible rfl)
  (try simp only [Act.put, List.setIfInBounds_toArray, List.set_cons_zero, List.set_cons_succ])
  refine wpAnyH_take (i := 19) (oi := { dst := some 44, op := Op.load 3 (Operand.tmp 43), type := 3, pos := "ref.go:103", after := #[{ on := 18, ground := Ground.data }, { on := 14, ground := Ground.guard }], guard := some (14, false) }) (v := ?_) rfl (by kernel_rfl) (by kernel_rfl) (by kernel_rfl) (fun _ _ _ h => h) (Or.inl ⟨by rfl, ?_⟩) hHeld ?_
  rotate_left
  · intro w hSw
    (try dsimp only at hSw)
    first | (go_simp; done) | (go_simp; with_reducible rfl)
  (try simp only [Act.put, List.setIfInBounds_toArray, List.set_cons_zero, List.set_cons_succ])
  refine wpAnyH_take (i := 20) (oi := { dst := some 45, op := Op.binOp BinOp.sub 3 (Operand.const (Value.int IntKind.i64 1)) (Operand.tmp 44) 3, type := 3, pos := "ref.go:103", after := #[{ on := 19, ground := Ground.data }, { on := 14, ground := Ground.guard }], guard := some (14, false) }) (v := ?_) rfl (by kernel_rfl) (by kernel_rfl) (by kernel_rfl) (fun _ _ _ h => h) (Or.inl ⟨by rfl, ?_⟩) hHeld ?_
  rotate_left
  · intro w hSw
    (try dsimp only at hSw)
    first | (go_simp; done) | (go_simp; with_reducible rfl)
  (try simp only [Act.put, List.setIfInBounds_toArray, List.set_cons_zero, List.set_cons_succ])
  refine wpAnyH_take (i := 21) (oi := { dst := some 46, op := Op.move (Operand.tmp 0), type := 40, pos := "ref.go:103", after := #[{ on := 14, ground := Ground.guard }], guard := some (14, false) }) (v := ?_) rfl (by kernel_rfl) (by kernel_rfl) (by kernel_rfl) (fun _ _ _ h => h) (Or.inl ⟨by rfl, ?_⟩) hHeld ?_
  rotate_left
  · intro w hSw
    (try dsimp only at hSw)
    first | (go_simp; done) | (go_simp; with_reducible rfl)
  (try simp only [Act.put, List.setIfInBounds_toArray, List.set_cons_zero, List.set_cons_succ])
  refine wpAnyH_take (i := 22) (oi := { dst := some 47, op := Op.nilCheck (Operand.tmp 46), type := 0, pos := "ref.go:103", after := #[{ on := 21, ground := Ground.data }, { on := 14, ground := Ground.guard }], guard := some (14, false) }) (v := ?_) rfl (by kernel_rfl) (by kernel_rfl) (by kernel_rfl) (fun _ _ _ h => h) (Or.inl ⟨by rfl, ?_⟩) hHeld ?_
  rotate_left
  · intro w hSw
    (try dsimp only at hSw)
    first | (go_simp; done) | (go_simp; with_reducible rfl)
  (try simp only [Act.put, List.setIfInBounds_toArray, List.set_cons_zero, List.set_cons_succ])
  refine wpAnyH_take (i := 23) (oi := { dst := some 48, op := Op.fieldAddr 52 (Operand.tmp 47) 2, type := 0, pos := "ref.go:103", after := #[{ on := 22, ground := Ground.data }, { on := 14, ground := Ground.guard }], guard := some (14, false) }) (v := ?_) rfl (by kernel_rfl) (by kernel_rfl) (by kernel_rfl) (fun _ _ _ h => h) (Or.inl ⟨by rfl, ?_⟩) hHeld ?_
  rotate_left
  · intro w hSw
    (try dsimp only at hSw)
    first | (go_simp; done) | (go_simp; with_reducible rfl)
  (try simp only [Act.put, List.setIfInBounds_toArray, List.set_cons_zero, List.set_cons_succ])
  refine wpAnyH_take (i := 24) (oi := { dst := some 49, op := Op.load 3 (Operand.tmp 48), type := 3, pos := "ref.go:103", after := #[{ on := 23, ground := Ground.data }, { on := 14, ground := Ground.guard }], guard := some (14, false) }) (v := ?_) rfl (by kernel_rfl) (by kernel_rfl) (by kernel_rfl) (fun _ _ _ h => h) (Or.inl ⟨by rfl, ?_⟩) hHeld ?_
  rotate_left
  · intro w hSw
    (try dsimp only at hSw)
    first | (go_simp; done) | (go_simp; with_reducible rfl)
  (try simp only [Act.put, List.setIfInBounds_toArray, List.set_cons_zero, List.set_cons_succ])
  refine wpAnyH_take (i := 25) (oi := { dst := some 50, op := Op.binOp BinOp.add 3 (Operand.tmp 49) (Operand.const (Value.int IntKind.i64 1)) 3, type := 3, pos := "ref.go:103", after := #[{ on := 24, ground := Ground.data }, { on := 14, ground := Ground.guard }], guard := some (14, false) }) (v := ?_) rfl (by kernel_rfl) (by kernel_rfl) (by kernel_rfl) (fun _ _ _ h => h) (Or.inl ⟨by rfl, ?_⟩) hHeld ?_
  rotate_left
  · intro w hSw
    (try dsimp only at hSw)
    first | (go_simp; done) | (go_simp; with_reducible rfl)
  (try simp only [Act.put, List.setIfInBounds_toArray, List.set_cons_zero, List.set_cons_succ])
  refine wpAnyH_ready (rs := [26]) (by kernel_rfl) (by simp) ?_
  refine AllReadyH.cons (o := { dst := some 51, op := Op.call { callee := Callee.value (Operand.func 40), args := #[Operand.tmp 40, Operand.tmp 45, Operand.tmp 50, Operand.const (Value.int IntKind.i64 0), Operand.const (Value.string { data := #[104, 101, 97, 100] })], argTypes := #[40, 3, 3, 3, 9] }, type := 4, pos := "ref.go:103", after := #[{ on := 15, ground := Ground.data }, { on := 20, ground := Ground.data }, { on := 25, ground := Ground.data }, { on := 14, ground := Ground.chain }, { on := 14, ground := Ground.guard }], guard := some (14, false) }) rfl (fun K hK => ?_) AllReadyH.nil
  go_simp
  refine (HL2.out w2 R2 _ H2.out.1 H2.out.2.1 HN2.out (Nat.le_trans HBW.out H2.out.2.2.2.size) ?_).mono ?_
  · exact ⟨rfl, rfl, rfl, rfl⟩
  rintro e w3 ⟨rfl, R3, H3⟩
  have p1 := H3.out.2.1.c1
  have p2 := H3.out.2.1.c2
  simp only [← HA0.out] at p1
  simp only [← HG0.out] at p2
  refine hK.out _ _ ?_ (fun hHeld => ?_)
  · exact ⟨p1, p2⟩
  clear hK K
  (try simp only [Act.put, List.setIfInBounds_toArray, List.set_cons_zero, List.set_cons_succ])
  refine wpAnyH_take (i := 27) (oi := { dst := some 52, op := Op.unOp UnOp.not 4 (Operand.tmp 51), type := 4, pos := "ref.go:103", after := #[{ on := 26, ground := Ground.data }, { on := 14, ground := Ground.guard }], guard := some (14, false) }) (v := ?_) rfl (by kernel_rfl) (by kernel_rfl) (by kernel_rfl) (fun _ _ _ h => h) (Or.inl ⟨by rfl, ?_⟩) hHeld ?_
  rotate_left
  · intro w hSw
    (try dsimp only at hSw)
    first | (go_simp; done) | (go_simp; with_reducible rfl)
  (try simp only [Act.put, List.setIfInBounds_toArray, List.set_cons_zero, List.set_cons_succ])
  refine wpAnyH_take (i := 28) (oi := { dst := some 53, op := Op.pick (Operand.tmp 39) (Operand.const (Value.bool true)) (Operand.tmp 52), type := 4, pos := "ref.go:103", after := #[{ on := 14, ground := Ground.data }, { on := 27, ground := Ground.data }], guard := none }) (v := ?_) rfl (by kernel_rfl) (by kernel_rfl) (by kernel_rfl) (fun _ _ _ h => h) (Or.inl ⟨by rfl, ?_⟩) hHeld ?_
  rotate_left
  · intro w hSw
    (try dsimp only at hSw)
    first | (go_simp; done) | (go_simp; with_reducible rfl)
  (try simp only [Act.put, List.setIfInBounds_toArray, List.set_cons_zero, List.set_cons_succ])
  refine wpAnyH_done (by kernel_rfl) ?_ _
  clear hHeld
  clear c0 c1 c2 c4 d0 q1 q2 p1 p2
  have HR3 : Hid (∀ k, R3 k → R k ∨ w.heap.size ≤ k) := Lib.hid (fun k hk => (H3.out.2.2.1 k hk).elim (H2.out.2.2.1 k) (fun h => .inr (Nat.le_trans H2.out.2.2.2.size h)))
  have HK3 : Hid (Kept (fun k => R k ∨ V k) w w3) := Lib.hid (H2.out.2.2.2.trans H3.out.2.2.2 (fun k hk h => h.elim (fun h1 => (H2.out.2.2.1 k h1).elim .inl (fun h2 => absurd hk (by omega))) .inr))
  have HN3 : Hid (∀ k, R3 k → ¬ V k) := Lib.hid (fun k hr hv => (HR3.out k hr).elim (fun h => HDIS.out k h hv) (fun h => by have := (HV.out.lt k hv).2; omega))
  have HV3 := Lib.hid H3.out.2.1
  have f1 := HV3.out.fr 1
  have f2 := HV3.out.fr 2
  have f3 := HV3.out.fr 3
  have g1 := HV3.out.c1
  have g2 := HV3.out.c2
  have g3 := HV3.out.c3
  simp only [← HA0.out] at g1
  simp only [← HG0.out] at g2
  have HI3 := Lib.hid (((HV3.out.set1 A1).set2 G1).alloc (.cells #[.string t] 9))
  have g4 := HI3.out.c3
  have f4 := HI3.out.fr 3
  go_wp2
  go_ret
  have i3 := HI3.out
  have hsz3 : ((w3.setCell ⟨v, 1, none⟩ (.int .i64 (A1 : Int))).setCell ⟨v, 2, none⟩ (.int .i64 (G1 : Int))).heap.size = w3.heap.size := by simp [World.setCell]
  have hBw3 : B ≤ w3.heap.size := Nat.le_trans HBW.out HK3.out.size
  have i4 := (i3.mono (Q := fun k => V k ∨ k = w3.heap.size) (fun k hk => .inl hk) (by
    rintro k (hk | rfl)
    · exact i3.lt k hk
    · exact ⟨hBw3, by simp [World.setCell]⟩)).set3 (.slice (some ⟨w3.heap.size, 0, none⟩) 1 1) [t] (by
      have ho := own_single (B := B) ((w3.setCell ⟨v, 1, none⟩ (.int .i64 (A1 : Int))).setCell ⟨v, 2, none⟩ (.int .i64 (G1 : Int))) t (by rw [hsz3]; exact hBw3)
      rw [hsz3] at ho
      exact ho) (fun k hk => .inr (by simpa [Value.ownBlock] using hk.symm)) (fun h => by cases h)
  have hnv : ¬ R3 v := fun hr => HN3.out v hr HV3.out.pv
  refine ⟨rfl, R3, fun k => V k ∨ k = w3.heap.size, .slice (some ⟨w3.heap.size, 0, none⟩) 1 1, (((H3.out.1.beside hnv 1 _).beside hnv 2 _).alloc _).beside hnv 3 _, ?_, HR3.out, ?_, ?_, ?_⟩
  · rw [← HAE.out, ← HGE.out]
    exact i4
  · rintro k (hk | rfl)
    · exact .inl hk
    · exact .inr HK3.out.size
  · rintro k hr (hv | rfl)
    · exact HN3.out k hr hv
    · have := (H3.out.1.lt _ hr).2; omega
  · have hp : ∀ i u W, Kept (fun k => R k ∨ V k) w W → Kept (fun k => R k ∨ V k) w (W.setCell ⟨v, i, none⟩ u) := fun i u W hK => hK.setCell (a := ⟨v, i, none⟩) (fun _ => .inr HV3.out.pv) u
    exact hp 3 _ _ ((hp 2 _ _ (hp 1 _ _ HK3.out)).alloc _)

/-- The document's Checkpoint, all ways. -/
theorem mcheck_W {U : Nat → Prop} (t : ByteArray) (hts : t.size ≤ maxLen) (hW : WalR w B U m g s fu v l) (hbig : s.Big) (ha : l.area ≤ 1) (hc : fu.count < 800000) (hln : s.opn.length < 800000) (hBw : B ≤ w.heap.size) :
    Calls Try.prog 18 #[.pointer (some ⟨v, 0, none⟩), .string t] w fun e w' => e = .returned (.int .i64 (checkR s fu l t).1) ∧ ∃ U', WalR w' B U' m g (checkR s fu l t).2.1 (checkR s fu l t).2.2.1 v (checkR s fu l t).2.2.2 ∧ Kept U w w' ∧ (∀ k, U' k → U k ∨ w.heap.size ≤ k) := by
  obtain ⟨R, V, lv, hD, hV, hdis, hRU, hVU, hU⟩ := hW
  have same : ∀ (c : Int), Calls Try.prog 18 #[.pointer (some ⟨v, 0, none⟩), .string t] w (fun e w' => e = .returned (.int .i64 c) ∧ w = w') → Calls Try.prog 18 #[.pointer (some ⟨v, 0, none⟩), .string t] w fun e w' => e = .returned (.int .i64 c) ∧ ∃ U', WalR w' B U' m g s fu v l ∧ Kept U w w' ∧ (∀ k, U' k → U k ∨ w.heap.size ≤ k) := by
    intro c hcall
    refine hcall.mono ?_
    rintro e w' ⟨rfl, rfl⟩
    exact ⟨rfl, U, ⟨R, V, lv, hD, hV, hdis, hRU, hVU, hU⟩, Kept.refl _ _, fun k hk => .inl hk⟩
  have key : ∀ {w' : World} {R' V' : Nat → Prop} {lv' : Value} {s' : Dk} {fu' : Fu} {l' : Lg}, DskR w' B R' m g s' fu' → InvV w' B V' v m l' lv' → (∀ k, R' k → R k ∨ w.heap.size ≤ k) → (∀ k, V' k → V k ∨ w.heap.size ≤ k) → (∀ k, R' k → ¬ V' k) → Kept (fun k => R k ∨ V k) w w' → ∃ U', WalR w' B U' m g s' fu' v l' ∧ Kept U w w' ∧ (∀ k, U' k → U k ∨ w.heap.size ≤ k) := by
    intro w' R' V' lv' s' fu' l' h1 h2 h3 h4 h5 h6
    refine ⟨fun k => R' k ∨ V' k, ⟨R', V', lv', h1, h2, h5, fun k hk => .inl hk, fun k hk => .inr hk, ?_⟩, ⟨h6.os, h6.tape, h6.output, h6.size, fun k hk hn => h6.block k hk (fun h => hn (h.elim (hRU k) (hVU k)))⟩, ?_⟩
    · rintro k (hk | hk)
      · exact h1.lt k hk
      · exact h2.lt k hk
    · rintro k (hk | hk)
      · exact (h3 k hk).imp (hRU k) id
      · exact (h4 k hk).imp (hVU k) id
  have dis : ∀ R' : Nat → Prop, (∀ k, R' k → R k ∨ w.heap.size ≤ k) → ∀ k, R' k → ¬ V k := fun R' h3 k hr hv => by
    rcases h3 k hr with h | h
    · exact hdis k h hv
    · have := (hV.lt k hv).2; omega
  by_cases hb : l.broken = true
  · have e : checkR s fu l t = (2, s, fu, l) := by unfold checkR; rw [if_pos hb]
    rw [e]
    exact same 2 (mchk_broken t hV hb)
  have hb' : l.broken = false := by simpa using hb
  by_cases hl : s.size < t.size + 14
  · have e : checkR s fu l t = (5, s, fu, l) := by unfold checkR; rw [if_neg hb, if_pos hl]
    rw [e]
    exact same 5 (mchk_long t hts hD hV hb' hbig hl)
  by_cases hg : 4294967295 ≤ l.gen
  · have e : checkR s fu l t = (9, s, fu, l) := by unfold checkR; rw [if_neg hb, if_neg hl, if_pos hg]
    rw [e]
    exact same 9 (mchk_over t hD hV hb' hbig (by omega) hg)
  cases hok : layOk fu with
  | false =>
    have e : checkR s fu l t = (2, layS s fu ((1 - l.area) * s.half + 1) (secB (l.gen + 1) 1 t s.size), layF fu, { l with broken := true }) := by unfold checkR; rw [if_neg hb, if_neg hl, if_neg hg, hok]; rfl
    rw [e]
    refine (mchk_no1 t hD hV hdis hb' hbig (by omega) (by omega) ha hc hln hBw hok).mono ?_
    rintro e w' ⟨rfl, R', h1, h2, h3, h4⟩
    exact ⟨rfl, key h1 h2 h3 (fun k hk => .inl hk) (dis R' h3) h4⟩
  | true =>
    cases hok2 : layOk (layF fu) with
    | false =>
      have e : checkR s fu l t = (2, layS (layS s fu ((1 - l.area) * s.half + 1) (secB (l.gen + 1) 1 t s.size)) (layF fu) ((1 - l.area) * s.half + 0) (secB (l.gen + 1) 0 headT s.size), layF (layF fu), { l with broken := true }) := by unfold checkR; rw [if_neg hb, if_neg hl, if_neg hg, hok, hok2]; rfl
      rw [e]
      refine (mchk_no2 t hD hV hdis hb' hbig (by omega) (by omega) ha hc hln hBw hok hok2).mono ?_
      rintro e w' ⟨rfl, R', h1, h2, h3, h4⟩
      exact ⟨rfl, key h1 h2 h3 (fun k hk => .inl hk) (dis R' h3) h4⟩
    | true =>
      have e : checkR s fu l t = (0, layS (layS s fu ((1 - l.area) * s.half + 1) (secB (l.gen + 1) 1 t s.size)) (layF fu) ((1 - l.area) * s.half + 0) (secB (l.gen + 1) 0 headT s.size), layF (layF fu), ⟨1 - l.area, l.gen + 1, [t], l.broken⟩) := by unfold checkR; rw [if_neg hb, if_neg hl, if_neg hg, hok, hok2]; rfl
      rw [e]
      refine (mchk_ok t hD hV hdis hb' hbig (by omega) (by omega) ha hc hln hBw hok hok2).mono ?_
      rintro e w' ⟨rfl, R', V', lv', h1, h2, h3, h4, h5, h6⟩
      exact ⟨rfl, key h1 h2 h3 h4 h5 h6⟩
end Go.Proofs.Ytooikkjgcpngdaa
