/-
  What the laws over acts share: the k-th act, an act's block, what a call may leave.
-/
import Derived.Test.YtdhonbgladenpaaLaw
namespace Go.Proofs.Ytdhonbgladenpaa
open Go.RowKit

/-- The k-th act, in a world that is as it was below; its outcomes as they came in. -/
theorem ActsI.kth2 {w w' : World} {A : Option Addr} {c k : Nat} {xs : List Ac} (h : ActsI w (.slice A xs.length c) xs) (hb : Below w.heap.size w w') (hk : k < xs.length) :
    ∃ b off v, A = some ⟨b, off, none⟩ ∧ w'.cell? ⟨b, off + k * 4, none⟩ = some (.int .i64 xs[k].kind) ∧ w'.cell? ⟨b, off + k * 4 + 1, none⟩ = some (.int .i64 xs[k].gen) ∧ w'.cell? ⟨b, off + k * 4 + 2, none⟩ = some (.int .i64 xs[k].slot) ∧ w'.cell? ⟨b, off + k * 4 + 3, none⟩ = some v ∧ IntsI w v xs[k].outs ∧ Fits xs[k].gen := by
  obtain ⟨b, off, hA, hlt, ⟨h0, h1, h2, ⟨v, h3, h4⟩, h5⟩⟩ := h.kth (Below.refl _ _) hk
  exact ⟨b, off, v, hA, (hb.cell (p := ⟨b, _, none⟩) hlt).trans h0, (hb.cell (p := ⟨b, _, none⟩) hlt).trans h1, (hb.cell (p := ⟨b, _, none⟩) hlt).trans h2, (hb.cell (p := ⟨b, _, none⟩) hlt).trans h3, h4, h5.2.1⟩
/-- An act of its own in memory. -/
def ActB (W : World) (k : Nat) (kd gn sl : Int) (v : Value) : Prop := W.heap[k]? = some (.cells #[.int .i64 kd, .int .i64 gn, .int .i64 sl, v] 39 (0, 0))
theorem ActB.lt {W : World} {k : Nat} {kd gn sl : Int} {v : Value} (h : ActB W k kd gn sl v) : k < W.heap.size := lt_of_block h
theorem ActB.c0 {W : World} {k : Nat} {kd gn sl : Int} {v : Value} (h : ActB W k kd gn sl v) : W.cell? ⟨k, 0, none⟩ = some (.int .i64 kd) := by rw [cell_of_row W k 0 _ _ _ h]; rfl
theorem ActB.c1 {W : World} {k : Nat} {kd gn sl : Int} {v : Value} (h : ActB W k kd gn sl v) : W.cell? ⟨k, 1, none⟩ = some (.int .i64 gn) := by rw [cell_of_row W k 1 _ _ _ h]; rfl
theorem ActB.c2 {W : World} {k : Nat} {kd gn sl : Int} {v : Value} (h : ActB W k kd gn sl v) : W.cell? ⟨k, 2, none⟩ = some (.int .i64 sl) := by rw [cell_of_row W k 2 _ _ _ h]; rfl
theorem ActB.c3 {W : World} {k : Nat} {kd gn sl : Int} {v : Value} (h : ActB W k kd gn sl v) : W.cell? ⟨k, 3, none⟩ = some v := by rw [cell_of_row W k 3 _ _ _ h]; rfl
theorem ActB.turn {B : Nat} {W W' : World} {k : Nat} {kd gn sl : Int} {v : Value} (h : ActB W k kd gn sl v) (ht : Turn B W W') : ActB W' k kd gn sl v := ht.kind k _ 39 (by decide) (by decide) (by decide) h
theorem ActB.below {W W' : World} {k : Nat} {kd gn sl : Int} {v : Value} (h : ActB W k kd gn sl v) (hb : Below W.heap.size W W') : ActB W' k kd gn sl v := (hb.block k h.lt).trans h
theorem ActB.new (W : World) (kd gn sl : Int) (v : Value) : ActB (W.alloc (.cells #[.int .i64 kd, .int .i64 gn, .int .i64 sl, v] 39)) W.heap.size kd gn sl v := heap_alloc_new W _
/-- A call, by what it tells and leaves. -/
theorem fence_cases (s : Ro) (f : Fu) (g sl : Int) :
    (toldC s f g sl = 0 ∧ (leftC s f g sl).slot = sl ∧ (leftC s f g sl).gen = g ∧ s.slot = sl ∧ s.gen = g) ∨
    ((toldC s f g sl == 0) = false ∧ (leftC s f g sl).slot = s.slot ∧ (leftC s f g sl).gen = s.gen) ∨
    (s.gen < g ∧ (leftC s f g sl).slot = sl ∧ (leftC s f g sl).gen = g ∧ (sl = 0 ∨ sl = 1)) := by
  rcases left_cases s f g sl with ⟨a1, a2, a3⟩ | ⟨a0, a1, a2, a3, a4⟩
  · by_cases h : toldC s f g sl = 0
    · obtain ⟨b1, b2⟩ := told_ok h
      exact .inl ⟨h, b1, b2, a1.symm.trans b1, a2.symm.trans b2⟩
    · exact .inr (.inl ⟨by simpa using h, a1, a2⟩)
  · refine .inr (.inr ⟨a1, a2, a3, ?_⟩)
    unfold inRange at a0
    omega
end Go.Proofs.Ytdhonbgladenpaa
