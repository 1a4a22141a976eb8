/-
  The program's own log: lay, where the write is not borne.
-/
import Derived.Test.YtooikkjgcpngdaaWalE
namespace Go.Proofs.Ytooikkjgcpngdaa
open Go.RowKit
open Fr (Rec secB valL lenV)

variable {P Q : Nat → Prop} {w w' : World} {B d f v : Nat} {fu : Fu} {s : Dk} {l : Lg}


set_option maxRecDepth 20000 in
set_option maxHeartbeats 40000000 in
theorem play_no (area gen seq i : Nat) (t : ByteArray) (h : WalP w B P d f s fu v l) (hbk : l.broken = false) (hbig : s.Big) (hgen : gen < 4294967296) (hseq : seq < 1024) (ht : t.size + 14 ≤ s.size) (ha : area ≤ 1) (hi : i = area * s.half + seq) (hil : i < s.now.length) (hc : fu.count < 900000) (hl : s.opn.length < 900000) (hBw : B ≤ w.heap.size) (hok : fu.ok = false) :
    Calls Try.prog 36 #[.pointer (some ⟨v, 0, none⟩), .int .i64 (area : Int), .int .i64 (gen : Int), .int .i64 (seq : Int), .string t] w fun e w' => e = .returned (.bool false) ∧
      ∃ P', WalP w' B P' d f (s) fu.spent v { l with broken := true } ∧ (∀ k, P' k → P k ∨ w.heap.size ≤ k) ∧ Kept (fun k => P k ∨ k = v) w w' := by
  have hsz := h.dsk.good.sz
  have hn1 := h.dsk.good.n1
  have c0 := h.log.c0
  obtain ⟨sz, hsz'⟩ : ∃ sz, sz = s.size := ⟨_, rfl⟩
  have hb128 := hbig.size
  have HZ := Lib.hid (size_D h.dsk)
  rw [← hsz'] at hsz hb128 ht HZ
  have HP : Hid (∀ W, Calls Try.prog 53 #[.int .i64 (gen : Int), .int .i64 (seq : Int), .string t, .int .i64 (sz : Int)] W fun e w' => e = .returned (.tuple #[.string (secB gen seq t sz), .int .i64 0]) ∧ Below W.heap.size W w') := Lib.hid (fun W => Fr.put_ok gen seq sz t W (by omega) (by omega) hb128 hsz ht)
  have HBS : Hid ((secB gen seq t sz).size = sz) := Lib.hid (Fr.sec_size gen seq t sz ht)
  obtain ⟨b, hb⟩ : ∃ b, b = secB gen seq t sz := ⟨_, rfl⟩
  rw [← hb] at HP HBS
  have HBZ : Hid (b.size = s.size) := Lib.hid (HBS.out.trans hsz')
  have HIL := Lib.hid hil
  have HI := Lib.hid hi
  have HH := Lib.hid h
  have HA := Lib.hid ha
  have HBK := Lib.hid hbk
  clear hsz' hb h hbig hi hil hb128 hbk
  go_enter Try.func36, Try.ntmps36
  go_wp2_with fail
  refine HZ.out.mono ?_
  rintro e w' ⟨rfl, rfl⟩
  go_wp2_with fail
  refine (HP.out _).mono ?_
  rintro e w1 ⟨rfl, hb1⟩
  have HH1 := Lib.hid (HH.out.under hb1)
  have HK1 : Hid (Kept (fun k => P k ∨ k = v) w w1) := Lib.hid (Kept.ofBelow hb1)
  have HS1 : Hid (w.heap.size ≤ w1.heap.size) := Lib.hid hb1.size
  have HBW1 : Hid (B ≤ w1.heap.size) := Lib.hid (Nat.le_trans hBw hb1.size)
  have HSE : Hid (∀ wd, Alike wd w1 → Calls Try.prog 56 #[.pointer (some ⟨v, 0, none⟩), .int .i64 (area : Int), .int .i64 (seq : Int)] wd fun e w' => e = .returned (.int .i64 (i : Int)) ∧ wd = w') := Lib.hid (fun wd hd => sector_any area seq i (HH1.out.alike hd) HA.out (by omega) HI.out)
  have HW : Hid (∀ wd, Alike wd w1 → Calls Try.prog 55 #[.pointer (some ⟨d, 0, none⟩), .int .i64 (i : Int), .string b] wd fun e w' => e = .returned (.int .i64 2) ∧ ∃ P', Hid (Dsk w' B P' d f (s) fu.spent ∧ Kept P w1 w' ∧ (∀ k, P' k → P k ∨ w1.heap.size ≤ k))) := Lib.hid (fun wd hd => by
    have h := write_here hd i b HH1.out.dsk HIL.out HBZ.out (by omega) (by omega) HBW1.out
    rw [hok] at h
    exact h)
  clear hb1 c0
  have c0 := HH1.out.log.c0
  have HC := Lib.hid hc
  have HLN := Lib.hid hl
  clear hok hc hl hBw hn1 hsz hseq ha hgen
  go_wp2_with fail
  refine wp_region_held_drew (S := fun wx => wx.cell? ⟨v, 0, none⟩ = some (.pointer (some ⟨d, 0, none⟩))) (by kernel_rfl) ?_ (fun hHeld => ?_)
  · exact c0
  refine wpAnyH_take (i := 0) (oi := { dst := some 25, op := Op.move (Operand.tmp 12), type := 37, pos := "wal.go:145", after := #[], guard := none }) (v := ?_) rfl (by kernel_rfl) (by kernel_rfl) (by kernel_rfl) (fun _ _ _ h => h) (Or.inl ⟨by rfl, ?_⟩) hHeld ?_
  rotate_left
  · intro w hSw
    (try dsimp only at hSw)
    first | (go_simp; done) | (go_simp; with_reducible rfl)
  (try simp only [Act.put, List.setIfInBounds_toArray, List.set_cons_zero, List.set_cons_succ])
  refine wpAnyH_take (i := 1) (oi := { dst := some 26, op := Op.binOp BinOp.neq 37 (Operand.tmp 25) (Operand.const (Value.int IntKind.i64 0)) 37, type := 4, pos := "wal.go:145", after := #[{ on := 0, ground := Ground.data }], guard := none }) (v := ?_) rfl (by kernel_rfl) (by kernel_rfl) (by kernel_rfl) (fun _ _ _ h => h) (Or.inl ⟨by rfl, ?_⟩) hHeld ?_
  rotate_left
  · intro w hSw
    (try dsimp only at hSw)
    first | (go_simp; done) | (go_simp; with_reducible rfl)
  (try simp only [Act.put, List.setIfInBounds_toArray, List.set_cons_zero, List.set_cons_succ])
  refine wpAnyH_take (i := 2) (oi := { dst := some 27, op := Op.move (Operand.tmp 26), type := 4, pos := "wal.go:145", after := #[{ on := 1, ground := Ground.data }], guard := none }) (v := ?_) rfl (by kernel_rfl) (by kernel_rfl) (by kernel_rfl) (fun _ _ _ h => h) (Or.inl ⟨by rfl, ?_⟩) hHeld ?_
  rotate_left
  · intro w hSw
    (try dsimp only at hSw)
    first | (go_simp; done) | (go_simp; with_reducible rfl)
  (try simp only [Act.put, List.setIfInBounds_toArray, List.set_cons_zero, List.set_cons_succ])
  refine wpAnyH_take (i := 3) (oi := { dst := some 28, op := Op.move (Operand.tmp 0), type := 35, pos := "wal.go:145", after := #[{ on := 2, ground := Ground.guard }], guard := some (2, false) }) (v := ?_) rfl (by kernel_rfl) (by kernel_rfl) (by kernel_rfl) (fun _ _ _ h => h) (Or.inl ⟨by rfl, ?_⟩) hHeld ?_
  rotate_left
  · intro w hSw
    (try dsimp only at hSw)
    first | (go_simp; done) | (go_simp; with_reducible rfl)
  (try simp only [Act.put, List.setIfInBounds_toArray, List.set_cons_zero, List.set_cons_succ])
  refine wpAnyH_take (i := 4) (oi := { dst := some 29, op := Op.nilCheck (Operand.tmp 28), type := 0, pos := "wal.go:145", after := #[{ on := 3, ground := Ground.data }, { on := 2, ground := Ground.guard }], guard := some (2, false) }) (v := ?_) rfl (by kernel_rfl) (by kernel_rfl) (by kernel_rfl) (fun _ _ _ h => h) (Or.inl ⟨by rfl, ?_⟩) hHeld ?_
  rotate_left
  · intro w hSw
    (try dsimp only at hSw)
    first | (go_simp; done) | (go_simp; with_reducible rfl)
  (try simp only [Act.put, List.setIfInBounds_toArray, List.set_cons_zero, List.set_cons_succ])
  refine wpAnyH_take (i := 5) (oi := { dst := some 30, op := Op.fieldAddr 70 (Operand.tmp 29) 0, type := 0, pos := "wal.go:145", after := #[{ on := 4, ground := Ground.data }, { on := 2, ground := Ground.guard }], guard := some (2, false) }) (v := ?_) rfl (by kernel_rfl) (by kernel_rfl) (by kernel_rfl) (fun _ _ _ h => h) (Or.inl ⟨by rfl, ?_⟩) hHeld ?_
  rotate_left
  · intro w hSw
    (try dsimp only at hSw)
    first | (go_simp; done) | (go_simp; with_reducible rfl)
  (try simp only [Act.put, List.setIfInBounds_toArray, List.set_cons_zero, List.set_cons_succ])
  refine wpAnyH_take (i := 6) (oi := { dst := some 31, op := Op.load 31 (Operand.tmp 30), type := 31, pos := "wal.go:145", after := #[{ on := 5, ground := Ground.data }, { on := 2, ground := Ground.guard }], guard := some (2, false) }) (v := ?_) rfl (by kernel_rfl) (by kernel_rfl) (by kernel_rfl) (fun _ _ _ h => h) (Or.inl ⟨by rfl, ?_⟩) hHeld ?_
  rotate_left
  · intro w hSw
    (try dsimp only at hSw)
    first | (go_simp; done) | (go_simp; with_reducible rfl)
  (try simp only [Act.put, List.setIfInBounds_toArray, List.set_cons_zero, List.set_cons_succ])
  refine wpAnyH_take (i := 7) (oi := { dst := some 32, op := Op.move (Operand.tmp 0), type := 35, pos := "wal.go:145", after := #[{ on := 2, ground := Ground.guard }], guard := some (2, false) }) (v := ?_) rfl (by kernel_rfl) (by kernel_rfl) (by kernel_rfl) (fun _ _ _ h => h) (Or.inl ⟨by rfl, ?_⟩) hHeld ?_
  rotate_left
  · intro w hSw
    (try dsimp only at hSw)
    first | (go_simp; done) | (go_simp; with_reducible rfl)
  (try simp only [Act.put, List.setIfInBounds_toArray, List.set_cons_zero, List.set_cons_succ])
  refine wpAnyH_take (i := 8) (oi := { dst := some 33, op := Op.move (Operand.tmp 1), type := 3, pos := "wal.go:145", after := #[{ on := 2, ground := Ground.guard }], guard := some (2, false) }) (v := ?_) rfl (by kernel_rfl) (by kernel_rfl) (by kernel_rfl) (fun _ _ _ h => h) (Or.inl ⟨by rfl, ?_⟩) hHeld ?_
  rotate_left
  · intro w hSw
    (try dsimp only at hSw)
    first | (go_simp; done) | (go_simp; with_reducible rfl)
  (try simp only [Act.put, List.setIfInBounds_toArray, List.set_cons_zero, List.set_cons_succ])
  refine wpAnyH_take (i := 9) (oi := { dst := some 34, op := Op.move (Operand.tmp 3), type := 3, pos := "wal.go:145", after := #[{ on := 2, ground := Ground.guard }], guard := some (2, false) }) (v := ?_) rfl (by kernel_rfl) (by kernel_rfl) (by kernel_rfl) (fun _ _ _ h => h) (Or.inl ⟨by rfl, ?_⟩) hHeld ?_
  rotate_left
  · intro w hSw
    (try dsimp only at hSw)
    first | (go_simp; done) | (go_simp; with_reducible rfl)
  (try simp only [Act.put, List.setIfInBounds_toArray, List.set_cons_zero, List.set_cons_succ])
  refine wpAnyH_take (i := 11) (oi := { dst := some 36, op := Op.move (Operand.tmp 11), type := 9, pos := "wal.go:145", after := #[{ on := 2, ground := Ground.guard }], guard := some (2, false) }) (v := ?_) rfl (by kernel_rfl) (by kernel_rfl) (by kernel_rfl) (fun _ _ _ h => h) (Or.inl ⟨by rfl, ?_⟩) hHeld ?_
  rotate_left
  · intro w hSw
    (try dsimp only at hSw)
    first | (go_simp; done) | (go_simp; with_reducible rfl)
  (try simp only [Act.put, List.setIfInBounds_toArray, List.set_cons_zero, List.set_cons_succ])
  refine wpAnyH_ready (rs := [10]) (by kernel_rfl) (by simp) ?_
  refine AllReadyH.cons (o := { dst := some 35, op := Op.call { callee := Callee.value (Operand.func 56), args := #[Operand.tmp 32, Operand.tmp 33, Operand.tmp 34], argTypes := #[35, 3, 3] }, type := 3, pos := "wal.go:145", after := #[{ on := 7, ground := Ground.data }, { on := 8, ground := Ground.data }, { on := 9, ground := Ground.data }, { on := 2, ground := Ground.chain }, { on := 2, ground := Ground.guard }], guard := some (2, false) }) rfl (fun K hK => ?_) AllReadyH.nil
  go_simp
  refine (HSE.out _ ?_).mono ?_
  · exact ⟨rfl, rfl, rfl, rfl⟩
  rintro e w' ⟨rfl, rfl⟩
  refine hK.out _ _ ?_ (fun hHeld => ?_)
  · exact c0
  clear hK K
  (try simp only [Act.put, List.setIfInBounds_toArray, List.set_cons_zero, List.set_cons_succ])
  refine wpAnyH_ready (rs := [12]) (by kernel_rfl) (by simp) ?_
  refine AllReadyH.cons (o := { dst := some 37, op := Op.call { callee := Callee.value (Operand.func 55), args := #[Operand.tmp 31, Operand.tmp 35, Operand.tmp 36], argTypes := #[31, 3, 9] }, type := 37, pos := "wal.go:145", after := #[{ on := 6, ground := Ground.data }, { on := 10, ground := Ground.data }, { on := 11, ground := Ground.data }, { on := 10, ground := Ground.chain }, { on := 2, ground := Ground.guard }], guard := some (2, false) }) rfl (fun K hK => ?_) AllReadyH.nil
  go_simp
  refine (HW.out _ ?_).mono ?_
  · exact ⟨rfl, rfl, rfl, rfl⟩
  rintro e w2 ⟨rfl, P2, H2⟩
  have HV2 := Lib.hid (WalP.mk H2.out.1 ((H2.out.2.1.block v HH1.out.log.lt HH1.out.pv).trans HH1.out.log) (new_not H2.out.2.2 HH1.out.pv HH1.out.log.lt) HH1.out.bv)
  have q0 := HV2.out.log.c0
  refine hK.out _ _ ?_ (fun hHeld => ?_)
  · exact q0
  clear hK K
  (try simp only [Act.put, List.setIfInBounds_toArray, List.set_cons_zero, List.set_cons_succ])
  refine wpAnyH_take (i := 13) (oi := { dst := some 38, op := Op.binOp BinOp.neq 37 (Operand.tmp 37) (Operand.const (Value.int IntKind.i64 0)) 37, type := 4, pos := "wal.go:145", after := #[{ on := 12, ground := Ground.data }, { on := 2, ground := Ground.guard }], guard := some (2, false) }) (v := ?_) rfl (by kernel_rfl) (by kernel_rfl) (by kernel_rfl) (fun _ _ _ h => h) (Or.inl ⟨by rfl, ?_⟩) hHeld ?_
  rotate_left
  · intro w hSw
    (try dsimp only at hSw)
    first | (go_simp; done) | (go_simp; with_reducible rfl)
  (try simp only [Act.put, List.setIfInBounds_toArray, List.set_cons_zero, List.set_cons_succ])
  refine wpAnyH_take (i := 14) (oi := { dst := some 39, op := Op.pick (Operand.tmp 27) (Operand.const (Value.bool true)) (Operand.tmp 38), type := 4, pos := "wal.go:145", after := #[{ on := 2, ground := Ground.data }, { on := 13, ground := Ground.data }], guard := none }) (v := ?_) rfl (by kernel_rfl) (by kernel_rfl) (by kernel_rfl) (fun _ _ _ h => h) (Or.inl ⟨by rfl, ?_⟩) hHeld ?_
  rotate_left
  · intro w hSw
    (try dsimp only at hSw)
    first | (go_simp; done) | (go_simp; with_reducible rfl)
  (try simp only [Act.put, List.setIfInBounds_toArray, List.set_cons_zero, List.set_cons_succ])
  refine wpAnyH_take (i := 15) (oi := { dst := some 40, op := Op.move (Operand.tmp 39), type := 4, pos := "wal.go:145", after := #[{ on := 14, ground := Ground.data }, { on := 12, ground := Ground.chain }], guard := none }) (v := ?_) rfl (by kernel_rfl) (by kernel_rfl) (by kernel_rfl) (fun _ _ _ h => h) (Or.inl ⟨by rfl, ?_⟩) hHeld ?_
  rotate_left
  · intro w hSw
    (try dsimp only at hSw)
    first | (go_simp; done) | (go_simp; with_reducible rfl)
  (try simp only [Act.put, List.setIfInBounds_toArray, List.set_cons_zero, List.set_cons_succ])
  refine wpAnyH_take (i := 16) (oi := { dst := some 41, op := Op.move (Operand.tmp 0), type := 35, pos := "wal.go:145", after := #[{ on := 15, ground := Ground.guard }], guard := some (15, false) }) (v := undef) rfl (by kernel_rfl) (by kernel_rfl) (by kernel_rfl) (fun _ _ _ h => h) (Or.inr ⟨by rfl, rfl⟩) hHeld ?_
  (try simp only [Act.put, List.setIfInBounds_toArray, List.set_cons_zero, List.set_cons_succ])
  refine wpAnyH_take (i := 17) (oi := { dst := some 42, op := Op.nilCheck (Operand.tmp 41), type := 0, pos := "wal.go:145", after := #[{ on := 16, ground := Ground.data }, { on := 15, ground := Ground.guard }], guard := some (15, false) }) (v := undef) rfl (by kernel_rfl) (by kernel_rfl) (by kernel_rfl) (fun _ _ _ h => h) (Or.inr ⟨by rfl, rfl⟩) hHeld ?_
  (try simp only [Act.put, List.setIfInBounds_toArray, List.set_cons_zero, List.set_cons_succ])
  refine wpAnyH_take (i := 18) (oi := { dst := some 43, op := Op.fieldAddr 70 (Operand.tmp 42) 0, type := 0, pos := "wal.go:145", after := #[{ on := 17, ground := Ground.data }, { on := 15, ground := Ground.guard }], guard := some (15, false) }) (v := undef) rfl (by kernel_rfl) (by kernel_rfl) (by kernel_rfl) (fun _ _ _ h => h) (Or.inr ⟨by rfl, rfl⟩) hHeld ?_
  (try simp only [Act.put, List.setIfInBounds_toArray, List.set_cons_zero, List.set_cons_succ])
  refine wpAnyH_take (i := 19) (oi := { dst := some 44, op := Op.load 31 (Operand.tmp 43), type := 31, pos := "wal.go:145", after := #[{ on := 18, ground := Ground.data }, { on := 15, ground := Ground.guard }], guard := some (15, false) }) (v := undef) rfl (by kernel_rfl) (by kernel_rfl) (by kernel_rfl) (fun _ _ _ h => h) (Or.inr ⟨by rfl, rfl⟩) hHeld ?_
  (try simp only [Act.put, List.setIfInBounds_toArray, List.set_cons_zero, List.set_cons_succ])
  refine wpAnyH_take (i := 20) (oi := { dst := some 45, op := Op.call { callee := Callee.value (Operand.func 34), args := #[Operand.tmp 44], argTypes := #[31] }, type := 37, pos := "wal.go:145", after := #[{ on := 19, ground := Ground.data }, { on := 15, ground := Ground.chain }, { on := 15, ground := Ground.guard }], guard := some (15, false) }) (v := undef) rfl (by kernel_rfl) (by kernel_rfl) (by kernel_rfl) (fun _ _ _ h => h) (Or.inr ⟨by rfl, rfl⟩) hHeld ?_
  (try simp only [Act.put, List.setIfInBounds_toArray, List.set_cons_zero, List.set_cons_succ])
  refine wpAnyH_take (i := 21) (oi := { dst := some 46, op := Op.binOp BinOp.neq 37 (Operand.tmp 45) (Operand.const (Value.int IntKind.i64 0)) 37, type := 4, pos := "wal.go:145", after := #[{ on := 20, ground := Ground.data }, { on := 15, ground := Ground.guard }], guard := some (15, false) }) (v := undef) rfl (by kernel_rfl) (by kernel_rfl) (by kernel_rfl) (fun _ _ _ h => h) (Or.inr ⟨by rfl, rfl⟩) hHeld ?_
  (try simp only [Act.put, List.setIfInBounds_toArray, List.set_cons_zero, List.set_cons_succ])
  refine wpAnyH_take (i := 22) (oi := { dst := some 47, op := Op.pick (Operand.tmp 40) (Operand.const (Value.bool true)) (Operand.tmp 46), type := 4, pos := "wal.go:145", after := #[{ on := 15, ground := Ground.data }, { on := 21, ground := Ground.data }], guard := none }) (v := ?_) rfl (by kernel_rfl) (by kernel_rfl) (by kernel_rfl) (fun _ _ _ h => h) (Or.inl ⟨by rfl, ?_⟩) hHeld ?_
  rotate_left
  · intro w hSw
    (try dsimp only at hSw)
    first | (go_simp; done) | (go_simp; with_reducible rfl)
  (try simp only [Act.put, List.setIfInBounds_toArray, List.set_cons_zero, List.set_cons_succ])
  refine wpAnyH_done (by kernel_rfl) ?_ _
  all_goals
    (try clear c0 q0 hHeld)
    have f4 := HV2.out.log.fr 4
    have c4 := HV2.out.log.c4
    go_wp2
    go_ret
    exact ⟨rfl, P2, ⟨HV2.out.dsk.beside HV2.out.pv 4 _, HV2.out.log.set4 true, HV2.out.pv, HV2.out.bv⟩, fun k hk => (H2.out.2.2 k hk).imp id (Nat.le_trans HS1.out), (HK1.out.trans H2.out.2.1 (fun k _ h => .inl h)).setCell (fun _ => .inr rfl) _⟩
end Go.Proofs.Ytooikkjgcpngdaa
