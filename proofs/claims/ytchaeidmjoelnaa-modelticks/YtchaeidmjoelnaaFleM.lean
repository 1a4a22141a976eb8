/-
  What calls leave of several blocks (ButO, Turn); the document's fleet in memory: its block, its two Sets.
-/
import Derived.Test.YtchaeidmjoelnaaRepMB
import Derived.Test.YtchaeidmjoelnaaFleS
namespace Go.Proofs.Ytchaeidmjoelnaa
open Go.RowKit

/-- Nothing turned but blocks of O, of those that were. -/
structure ButO (O : Nat → Prop) (w w' : World) : Prop where
  os : w'.os = w.os
  tape : w'.tape = w.tape
  output : w'.output = w.output
  size : w.heap.size ≤ w'.heap.size
  block : ∀ j, j < w.heap.size → ¬ O j → w'.heap[j]? = w.heap[j]?
theorem ButO.refl (O : Nat → Prop) (w : World) : ButO O w w := ⟨rfl, rfl, rfl, Nat.le_refl _, fun _ _ _ => rfl⟩
theorem ButO.of_below {O : Nat → Prop} {w w' : World} (h : Below w.heap.size w w') : ButO O w w' := ⟨h.os, h.tape, h.output, h.size, fun k hk _ => h.block k hk⟩
theorem ButO.of_one {O : Nat → Prop} {b : Nat} {w w' : World} (h : But1 b w w') (hb : O b) : ButO O w w' := ⟨h.os, h.tape, h.output, h.size, fun k hk hn => h.block k hk (fun e => hn (e ▸ hb))⟩
theorem ButO.trans {O O' : Nat → Prop} {a w w' : World} (h1 : ButO O a w) (h2 : ButO O' w w') (ho : ∀ j, O' j → O j ∨ a.heap.size ≤ j) : ButO O a w' := ⟨h2.os.trans h1.os, h2.tape.trans h1.tape, h2.output.trans h1.output, Nat.le_trans h1.size h2.size, fun k hk hn => (h2.block k (Nat.lt_of_lt_of_le hk h1.size) (fun h => (ho k h).elim hn (fun h => by omega))).trans (h1.block k hk hn)⟩
theorem ButO.below {O : Nat → Prop} {B : Nat} {a w w' : World} (h : ButO O w w') (hb : Below B a w) (h1 : ∀ j, O j → B ≤ j) (hB : B ≤ w.heap.size) : Below B a w' :=
  ⟨h.os.trans hb.os, h.tape.trans hb.tape, h.output.trans hb.output, Nat.le_trans hb.size h.size, fun k hk => (h.block k (by omega) (fun h2 => by have := h1 k h2; omega)).trans (hb.block k hk)⟩
/-- What a call leaves of a fleet (F: how it lies in memory, in blocks of O): its lists, in blocks that it had or that are new; nothing else turned. -/
def Turn (F : (Nat → Prop) → World → Nat → List Bool → List Bool → Prop) (O : Nat → Prop) (W W' : World) (b : Nat) (k l : List Bool) : Prop :=
  ∃ O' : Nat → Prop, F O' W' b k l ∧ (∀ j, O' j → O j ∨ W.heap.size ≤ j) ∧ ButO O W W'
/-- O, and what is new. -/
def more (O : Nat → Prop) (W W' : World) : Nat → Prop := fun j => O j ∨ (W.heap.size ≤ j ∧ j < W'.heap.size)
section
variable {O : Nat → Prop} {W W' : World} {b a c : Nat} {va vc v' : Value} {k l k' l' : List Bool}
theorem ne_type {W : World} {k j : Nat} {c d : Array Value} {t u : TypeId} (h1 : W.heap[k]? = some (.cells c t (0, 0))) (h2 : W.heap[j]? = some (.cells d u (0, 0))) (ht : t ≠ u) : k ≠ j := fun e => by
  rw [e, h2] at h1
  simp at h1
  exact ht h1.2.symm
theorem more_sub (O : Nat → Prop) (W W' : World) : ∀ j, more O W W' j → O j ∨ W.heap.size ≤ j := fun _ h => h.imp id And.left
theorem newv_more {hv : ∀ j, va.ownBlock = some j → O j} (hn : NewV W va v') (hlt : ∀ j, v'.ownBlock = some j → j < W'.heap.size) : ∀ j, v'.ownBlock = some j → more O W W' j := fun j hj => (hn j hj).elim (fun h => .inl (hv j h)) (fun h => .inr ⟨h, hlt j hj⟩)
end
end Go.Proofs.Ytchaeidmjoelnaa
