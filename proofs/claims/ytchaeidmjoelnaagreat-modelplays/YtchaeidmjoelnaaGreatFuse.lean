/-
  What package fuse's functions, and the document's own, do to a fuse's block: New, Arm, Spend, Blown, Reset, Count. Nothing beside that block turns.
-/
import Derived.Test.YtchaeidmjoelnaaGreatRows
import Derived.WalkKit
import Derived.Below
import Derived.Lib.Hide
namespace Go.Proofs.YtchaeidmjoelnaaGreat
open Go.RowKit

/-- What a fuse is: armed, how many calls are left, blown, how many were borne. -/
structure Fu where
  armed : Bool
  left : Int
  blown : Bool
  count : Int

/-- Block b is just the cells of that fuse, as a struct of type t. -/
def Fz (w : World) (b : Nat) (t : TypeId) (s : Fu) : Prop := w.heap[b]? = some (.cells #[.bool s.armed, .int .i64 s.left, .bool s.blown, .int .i64 s.count] t (0, 0))

/-- Nothing but block b turned. -/
structure Only (b : Nat) (w w' : World) : Prop where
  os : w'.os = w.os
  tape : w'.tape = w.tape
  output : w'.output = w.output
  size : w'.heap.size = w.heap.size
  block : ∀ k, k ≠ b → w'.heap[k]? = w.heap[k]?

theorem Only.refl (b : Nat) (w : World) : Only b w w := ⟨rfl, rfl, rfl, rfl, fun _ _ => rfl⟩
theorem Only.trans {b : Nat} {w w' w'' : World} (h : Only b w w') (k : Only b w' w'') : Only b w w'' :=
  ⟨k.os.trans h.os, k.tape.trans h.tape, k.output.trans h.output, k.size.trans h.size, fun j hj => (k.block j hj).trans (h.block j hj)⟩
theorem Only.set {b : Nat} {w w' : World} (h : Only b w w') (i : Nat) (u : Value) : Only b w (w'.setCell ⟨b, i, none⟩ u) :=
  ⟨h.os, h.tape, h.output, by simpa [World.setCell] using h.size, fun k hk => (Below.heap_setCell w' ⟨b, i, none⟩ u k hk).trans (h.block k hk)⟩
theorem Only.below {b B : Nat} {a w w' : World} (h : Only b w w') (hb : Below B a w) (hB : B ≤ b) : Below B a w' :=
  ⟨h.os.trans hb.os, h.tape.trans hb.tape, h.output.trans hb.output, by rw [h.size]; exact hb.size, fun k hk => (h.block k (by omega)).trans (hb.block k hk)⟩

theorem Fz.lt {w : World} {b : Nat} {t : TypeId} {s : Fu} (h : Fz w b t s) : b < w.heap.size := by
  rcases Nat.lt_or_ge b w.heap.size with hlt | hge
  · exact hlt
  · unfold Fz at h; rw [Array.getElem?_eq_none hge] at h; cases h
theorem Fz.only {w w' : World} {b c : Nat} {t : TypeId} {s : Fu} (h : Fz w b t s) (ho : Only c w w') (hc : b ≠ c) : Fz w' b t s := (ho.block b hc).trans h
theorem Fz.under {w w' : World} {b B : Nat} {t : TypeId} {s : Fu} (h : Fz w b t s) (hb : Below B w w') (hB : b < B) : Fz w' b t s := (hb.block b hB).trans h
theorem Fz.c0 {w : World} {b : Nat} {t : TypeId} {s : Fu} (h : Fz w b t s) : w.cell? ⟨b, 0, none⟩ = some (.bool s.armed) := by rw [cell_of_row w b 0 _ _ _ h]; rfl
theorem Fz.c1 {w : World} {b : Nat} {t : TypeId} {s : Fu} (h : Fz w b t s) : w.cell? ⟨b, 1, none⟩ = some (.int .i64 s.left) := by rw [cell_of_row w b 1 _ _ _ h]; rfl
theorem Fz.c2 {w : World} {b : Nat} {t : TypeId} {s : Fu} (h : Fz w b t s) : w.cell? ⟨b, 2, none⟩ = some (.bool s.blown) := by rw [cell_of_row w b 2 _ _ _ h]; rfl
theorem Fz.c3 {w : World} {b : Nat} {t : TypeId} {s : Fu} (h : Fz w b t s) : w.cell? ⟨b, 3, none⟩ = some (.int .i64 s.count) := by rw [cell_of_row w b 3 _ _ _ h]; rfl
theorem Fz.fr {w : World} {b : Nat} {t : TypeId} {s : Fu} (h : Fz w b t s) (i : Nat) : w.frozen? ⟨b, i, none⟩ = false := by
  unfold Fz at h
  simp [World.frozen?, h]
theorem Fz.s0 {w : World} {b : Nat} {t : TypeId} {s : Fu} (h : Fz w b t s) (x : Bool) : Fz (w.setCell ⟨b, 0, none⟩ (.bool x)) b t { s with armed := x } := by
  unfold Fz at h ⊢
  simp [World.setCell, Array.getElem?_modify, h]
theorem Fz.s1 {w : World} {b : Nat} {t : TypeId} {s : Fu} (h : Fz w b t s) (x : Int) : Fz (w.setCell ⟨b, 1, none⟩ (.int .i64 x)) b t { s with left := x } := by
  unfold Fz at h ⊢
  simp [World.setCell, Array.getElem?_modify, h]
theorem Fz.s2 {w : World} {b : Nat} {t : TypeId} {s : Fu} (h : Fz w b t s) (x : Bool) : Fz (w.setCell ⟨b, 2, none⟩ (.bool x)) b t { s with blown := x } := by
  unfold Fz at h ⊢
  simp [World.setCell, Array.getElem?_modify, h]
theorem Fz.s3 {w : World} {b : Nat} {t : TypeId} {s : Fu} (h : Fz w b t s) (x : Int) : Fz (w.setCell ⟨b, 3, none⟩ (.int .i64 x)) b t { s with count := x } := by
  unfold Fz at h ⊢
  simp [World.setCell, Array.getElem?_modify, h]
theorem Fz.new (w : World) (t : TypeId) (a : Bool) (l : Int) (bl : Bool) (c : Int) : Fz (w.alloc (.cells #[.bool a, .int .i64 l, .bool bl, .int .i64 c] t)) w.heap.size t ⟨a, l, bl, c⟩ := heap_alloc_new w _

set_option maxHeartbeats 400000 in
theorem new_any (w : World) : Calls Tryz.prog 24 #[] w fun e w' => ∃ b, e = .returned (.pointer (some ⟨b, 0, none⟩)) ∧ w.heap.size = b ∧ Fz w' b 111 ⟨false, 0, false, 0⟩ ∧ Below w.heap.size w w' := by
  go_enter Tryz.func24, Tryz.ntmps24
  go_wp2
  go_ret
  exact ⟨_, rfl, rfl, Fz.new _ _ _ _ _ _, (Below.refl _ _).alloc (Nat.le_refl _) _⟩

set_option maxHeartbeats 400000 in
theorem spend_no (b : Nat) (bl : Bool) (c : Int) (w : World) (h : Fz w b 111 ⟨true, 0, bl, c⟩) : Calls Tryz.prog 101 #[.pointer (some ⟨b, 0, none⟩)] w fun e w' => e = .returned (.bool false) ∧ Fz w' b 111 ⟨true, 0, true, c⟩ ∧ Only b w w' := by
  have h0 : w.cell? ⟨b, 0, none⟩ = some (.bool true) := h.c0
  have h1 : w.cell? ⟨b, 1, none⟩ = some (.int .i64 0) := h.c1
  have h2 : w.cell? ⟨b, 2, none⟩ = some (.bool bl) := h.c2
  have f2 := h.fr 2
  have HZ := Lib.hid h
  clear h
  go_enter Tryz.func101, Tryz.ntmps101
  go_wp2
  go_ret
  exact ⟨rfl, HZ.out.s2 true, (Only.refl _ _).set _ _⟩

set_option maxHeartbeats 400000 in
theorem spend_some (b : Nat) (l : Int) (bl : Bool) (c : Int) (w : World) (hl : 1 ≤ l) (hl' : l ≤ 9223372036854775807) (hc : 0 ≤ c) (hc' : c < 1000000) (h : Fz w b 111 ⟨true, l, bl, c⟩) : Calls Tryz.prog 101 #[.pointer (some ⟨b, 0, none⟩)] w fun e w' => e = .returned (.bool true) ∧ Fz w' b 111 ⟨true, l - 1, bl, c + 1⟩ ∧ Only b w w' := by
  have h0 : w.cell? ⟨b, 0, none⟩ = some (.bool true) := h.c0
  have h1 : w.cell? ⟨b, 1, none⟩ = some (.int .i64 l) := h.c1
  have h3 : w.cell? ⟨b, 3, none⟩ = some (.int .i64 c) := h.c3
  have f1 := h.fr 1
  have f3 := h.fr 3
  have hn : (l == 0) = false := by rw [beq_eq_false_iff_ne]; omega
  have HZ := Lib.hid h
  clear h
  go_enter Tryz.func101, Tryz.ntmps101
  go_wp2
  go_ret
  exact ⟨rfl, (HZ.out.s1 (l - 1)).s3 (c + 1), ((Only.refl _ _).set _ _).set _ _⟩

set_option maxHeartbeats 400000 in
theorem spend_free (b : Nat) (l : Int) (bl : Bool) (c : Int) (w : World) (hc : 0 ≤ c) (hc' : c < 1000000) (h : Fz w b 111 ⟨false, l, bl, c⟩) : Calls Tryz.prog 101 #[.pointer (some ⟨b, 0, none⟩)] w fun e w' => e = .returned (.bool true) ∧ Fz w' b 111 ⟨false, l, bl, c + 1⟩ ∧ Only b w w' := by
  have h0 : w.cell? ⟨b, 0, none⟩ = some (.bool false) := h.c0
  have h3 : w.cell? ⟨b, 3, none⟩ = some (.int .i64 c) := h.c3
  have f3 := h.fr 3
  have HZ := Lib.hid h
  clear h
  go_enter Tryz.func101, Tryz.ntmps101
  go_wp2
  go_ret
  exact ⟨rfl, HZ.out.s3 (c + 1), (Only.refl _ _).set _ _⟩

/-! The document's own fuse. -/
set_option maxHeartbeats 400000 in
theorem mspend_no (b : Nat) (bl : Bool) (c : Int) (w : World) (h : Fz w b 78 ⟨true, 0, bl, c⟩) : Calls Tryz.prog 79 #[.pointer (some ⟨b, 0, none⟩)] w fun e w' => e = .returned (.bool false) ∧ Fz w' b 78 ⟨true, 0, true, c⟩ ∧ Only b w w' := by
  have h0 : w.cell? ⟨b, 0, none⟩ = some (.bool true) := h.c0
  have h1 : w.cell? ⟨b, 1, none⟩ = some (.int .i64 0) := h.c1
  have h2 : w.cell? ⟨b, 2, none⟩ = some (.bool bl) := h.c2
  have f2 := h.fr 2
  have HZ := Lib.hid h
  clear h
  go_enter Tryz.func79, Tryz.ntmps79
  go_wp2
  go_ret
  exact ⟨rfl, HZ.out.s2 true, (Only.refl _ _).set _ _⟩

set_option maxHeartbeats 400000 in
theorem mspend_some (b : Nat) (l : Int) (c : Int) (w : World) (hl : 1 ≤ l) (hl' : l ≤ 9223372036854775807) (hc : 0 ≤ c) (hc' : c < 1000000) (h : Fz w b 78 ⟨true, l, false, c⟩) : Calls Tryz.prog 79 #[.pointer (some ⟨b, 0, none⟩)] w fun e w' => e = .returned (.bool true) ∧ Fz w' b 78 ⟨true, l - 1, false, c + 1⟩ ∧ Only b w w' := by
  have h0 : w.cell? ⟨b, 0, none⟩ = some (.bool true) := h.c0
  have h1 : w.cell? ⟨b, 1, none⟩ = some (.int .i64 l) := h.c1
  have h2 : w.cell? ⟨b, 2, none⟩ = some (.bool false) := h.c2
  have h3 : w.cell? ⟨b, 3, none⟩ = some (.int .i64 c) := h.c3
  have f1 := h.fr 1
  have f3 := h.fr 3
  have hn : (l == 0) = false := by rw [beq_eq_false_iff_ne]; omega
  have HZ := Lib.hid h
  clear h
  go_enter Tryz.func79, Tryz.ntmps79
  go_wp2
  go_ret
  exact ⟨rfl, (HZ.out.s1 (l - 1)).s3 (c + 1), ((Only.refl _ _).set _ _).set _ _⟩

set_option maxHeartbeats 400000 in
theorem mspend_free (b : Nat) (l : Int) (c : Int) (w : World) (hc : 0 ≤ c) (hc' : c < 1000000) (h : Fz w b 78 ⟨false, l, false, c⟩) : Calls Tryz.prog 79 #[.pointer (some ⟨b, 0, none⟩)] w fun e w' => e = .returned (.bool true) ∧ Fz w' b 78 ⟨false, l, false, c + 1⟩ ∧ Only b w w' := by
  have h0 : w.cell? ⟨b, 0, none⟩ = some (.bool false) := h.c0
  have h2 : w.cell? ⟨b, 2, none⟩ = some (.bool false) := h.c2
  have h3 : w.cell? ⟨b, 3, none⟩ = some (.int .i64 c) := h.c3
  have f3 := h.fr 3
  have HZ := Lib.hid h
  clear h
  go_enter Tryz.func79, Tryz.ntmps79
  go_wp2
  go_ret
  exact ⟨rfl, HZ.out.s3 (c + 1), (Only.refl _ _).set _ _⟩

end Go.Proofs.YtchaeidmjoelnaaGreat
