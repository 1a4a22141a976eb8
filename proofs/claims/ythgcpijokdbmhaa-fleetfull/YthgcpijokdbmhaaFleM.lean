/-
  What calls leave of several blocks (ButO, Turn); the document's fleet in memory: its block, its two Sets.
-/
import Derived.Test.YthgcpijokdbmhaaRepMB
import Derived.Test.YthgcpijokdbmhaaFleS
namespace Go.Proofs.Ythgcpijokdbmhaa
open Go.RowKit

/-- Nothing turned but blocks of O, of those that were. -/
structure ButO (O : Nat → Prop) (w w' : World) : Prop where
  os : w'.os = w.os
  tape : w'.tape = w.tape
  output : w'.output = w.output
  size : w.heap.size ≤ w'.heap.size
  block : ∀ j, j < w.heap.size → ¬ O j → w'.heap[j]? = w.heap[j]?
theorem ButO.refl (O : Nat → Prop) (w : World) : ButO O w w := ⟨rfl, rfl, rfl, Nat.le_refl _, fun _ _ _ => rfl⟩
theorem ButO.of_below {O : Nat → Prop} {w w' : World} (h : Below w.heap.size w w') : ButO O w w' := ⟨h.os, h.tape, h.output, h.size, fun k hk _ => h.block k hk⟩
theorem ButO.of_one {O : Nat → Prop} {b : Nat} {w w' : World} (h : But1 b w w') (hb : O b) : ButO O w w' := ⟨h.os, h.tape, h.output, h.size, fun k hk hn => h.block k hk (fun e => hn (e ▸ hb))⟩
theorem ButO.trans {O O' : Nat → Prop} {a w w' : World} (h1 : ButO O a w) (h2 : ButO O' w w') (ho : ∀ j, O' j → O j ∨ a.heap.size ≤ j) : ButO O a w' := ⟨h2.os.trans h1.os, h2.tape.trans h1.tape, h2.output.trans h1.output, Nat.le_trans h1.size h2.size, fun k hk hn => (h2.block k (Nat.lt_of_lt_of_le hk h1.size) (fun h => (ho k h).elim hn (fun h => by omega))).trans (h1.block k hk hn)⟩
theorem ButO.below {O : Nat → Prop} {B : Nat} {a w w' : World} (h : ButO O w w') (hb : Below B a w) (h1 : ∀ j, O j → B ≤ j) (hB : B ≤ w.heap.size) : Below B a w' :=
  ⟨h.os.trans hb.os, h.tape.trans hb.tape, h.output.trans hb.output, Nat.le_trans hb.size h.size, fun k hk => (h.block k (by omega) (fun h2 => by have := h1 k h2; omega)).trans (hb.block k hk)⟩
/-- What a call leaves of a fleet (F: how it lies in memory, in blocks of O): its lists, in blocks that it had or that are new; nothing else turned. -/
def Turn (F : (Nat → Prop) → World → Nat → List Bool → List Bool → Prop) (O : Nat → Prop) (W W' : World) (b : Nat) (k l : List Bool) : Prop :=
  ∃ O' : Nat → Prop, F O' W' b k l ∧ (∀ j, O' j → O j ∨ W.heap.size ≤ j) ∧ ButO O W W'
/-- The document's fleet: block b, the Sets a and c. -/
structure Fm (O : Nat → Prop) (W : World) (b a c : Nat) (va vc : Value) (k l : List Bool) : Prop where
  row : W.heap[b]? = some (.cells #[.pointer (some ⟨a, 0, none⟩), .pointer (some ⟨c, 0, none⟩)] 52 (0, 0))
  ra : RsM W a va k
  rc : RsM W c vc l
  ne : a ≠ c
  ob : O b
  oa : O a
  oc : O c
  ova : ∀ j, va.ownBlock = some j → O j
  ovc : ∀ j, vc.ownBlock = some j → O j
  lt : ∀ j, O j → j < W.heap.size
def FlM (O : Nat → Prop) (W : World) (b : Nat) (k l : List Bool) : Prop := ∃ a c va vc, Fm O W b a c va vc k l
/-- O, and what is new. -/
def more (O : Nat → Prop) (W W' : World) : Nat → Prop := fun j => O j ∨ (W.heap.size ≤ j ∧ j < W'.heap.size)
section
variable {O : Nat → Prop} {W W' : World} {b a c : Nat} {va vc v' : Value} {k l k' l' : List Bool}
theorem ne_type {W : World} {k j : Nat} {c d : Array Value} {t u : TypeId} (h1 : W.heap[k]? = some (.cells c t (0, 0))) (h2 : W.heap[j]? = some (.cells d u (0, 0))) (ht : t ≠ u) : k ≠ j := fun e => by
  rw [e, h2] at h1
  simp at h1
  exact ht h1.2.symm
theorem own_lt {W : World} {b : Nat} {v : Value} {l : List Bool} (h : RsM W b v l) : ∀ j, v.ownBlock = some j → j < W.heap.size := fun j hj => (h.own.own j hj).2.1
/-- A Set stays, where another one turned. -/
theorem RsM.beside (h : RsM W c vc l) (hb : But1 a W W') (hac : a ≠ c) {cu : Array Value} (ha : W.heap[a]? = some (.cells cu 50 (0, 0))) : RsM W' c vc l :=
  ⟨(hb.block c (lt_of_block h.row) (Ne.symm hac)).trans h.row, h.own.block fun j hj => by
    obtain ⟨_, h4, c4, h5⟩ := h.own.own j hj
    exact hb.block j h4 (ne_type h5 ha (by decide)), h.le⟩
theorem more_sub (O : Nat → Prop) (W W' : World) : ∀ j, more O W W' j → O j ∨ W.heap.size ≤ j := fun _ h => h.imp id And.left
theorem newv_more {hv : ∀ j, va.ownBlock = some j → O j} (hn : NewV W va v') (hlt : ∀ j, v'.ownBlock = some j → j < W'.heap.size) : ∀ j, v'.ownBlock = some j → more O W W' j := fun j hj => (hn j hj).elim (fun h => .inl (hv j h)) (fun h => .inr ⟨h, hlt j hj⟩)
/-- Slot 0's Set turned. -/
theorem Fm.turnA (h : Fm O W b a c va vc k l) (hr : RsM W' a v' k') (hn : NewV W va v') (hb : But1 a W W') : Fm (more O W W') W' b a c v' vc k' l where
  row := (hb.block b (h.lt b h.ob) (ne_type h.row h.ra.row (by decide))).trans h.row
  ra := hr
  rc := h.rc.beside hb h.ne h.ra.row
  ne := h.ne
  ob := .inl h.ob
  oa := .inl h.oa
  oc := .inl h.oc
  ova := newv_more (hv := h.ova) hn (own_lt hr)
  ovc := fun j hj => .inl (h.ovc j hj)
  lt := fun j hj => hj.elim (fun h2 => Nat.lt_of_lt_of_le (h.lt j h2) hb.size) And.right
theorem Fm.turnB (h : Fm O W b a c va vc k l) (hr : RsM W' c v' l') (hn : NewV W vc v') (hb : But1 c W W') : Fm (more O W W') W' b a c va v' k l' where
  row := (hb.block b (h.lt b h.ob) (ne_type h.row h.rc.row (by decide))).trans h.row
  ra := h.ra.beside hb (Ne.symm h.ne) h.rc.row
  rc := hr
  ne := h.ne
  ob := .inl h.ob
  oa := .inl h.oa
  oc := .inl h.oc
  ova := fun j hj => .inl (h.ova j hj)
  ovc := newv_more (hv := h.ovc) hn (own_lt hr)
  lt := fun j hj => hj.elim (fun h2 => Nat.lt_of_lt_of_le (h.lt j h2) hb.size) And.right
theorem Fm.keep (h : Fm O W b a c va vc k l) (hk : ∀ j, O j → W'.heap[j]? = W.heap[j]?) : Fm O W' b a c va vc k l where
  row := (hk b h.ob).trans h.row
  ra := ⟨(hk a h.oa).trans h.ra.row, h.ra.own.block fun j hj => hk j (h.ova j hj), h.ra.le⟩
  rc := ⟨(hk c h.oc).trans h.rc.row, h.rc.own.block fun j hj => hk j (h.ovc j hj), h.rc.le⟩
  ne := h.ne
  ob := h.ob
  oa := h.oa
  oc := h.oc
  ova := h.ova
  ovc := h.ovc
  lt := fun j hj => by
    rcases Nat.lt_or_ge j W'.heap.size with h2 | h2
    · exact h2
    · have h3 := hk j hj
      rw [Array.getElem?_eq_none h2, Array.getElem?_eq_getElem (h.lt j hj)] at h3
      cases h3
theorem Fm.below (h : Fm O W b a c va vc k l) (hb : Below W.heap.size W W') : Fm O W' b a c va vc k l := h.keep fun j hj => hb.block j (h.lt j hj)
theorem Fm.c0 (h : Fm O W b a c va vc k l) : W.cell? ⟨b, 0, none⟩ = some (.pointer (some ⟨a, 0, none⟩)) := by rw [cell_of_row W b 0 _ _ _ h.row]; rfl
theorem Fm.c1 (h : Fm O W b a c va vc k l) : W.cell? ⟨b, 1, none⟩ = some (.pointer (some ⟨c, 0, none⟩)) := by rw [cell_of_row W b 1 _ _ _ h.row]; rfl
end
end Go.Proofs.Ythgcpijokdbmhaa
