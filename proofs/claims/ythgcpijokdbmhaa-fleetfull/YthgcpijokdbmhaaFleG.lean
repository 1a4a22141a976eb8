/-
  What the laws share: an act of its own in memory.
-/
import Derived.Test.YthgcpijokdbmhaaLift
namespace Go.Proofs.Ythgcpijokdbmhaa
open Go.RowKit

/-- An act of its own in memory. -/
def ActA (W : World) (A : Nat) (kd sl nm : Int) (on : Bool) (p q : Int) : Prop := W.heap[A]? = some (.cells #[.int .i64 kd, .int .i64 sl, .int .i64 nm, .bool on, .int .i64 p, .int .i64 q] 30 (0, 0))
section
variable {W W' : World} {A : Nat} {kd sl nm : Int} {on : Bool} {p q : Int}
theorem ActA.c0 (h : ActA W A kd sl nm on p q) : W.cell? ⟨A, 0, none⟩ = some (.int .i64 kd) := by rw [cell_of_row W A 0 _ _ _ h]; rfl
theorem ActA.c1 (h : ActA W A kd sl nm on p q) : W.cell? ⟨A, 1, none⟩ = some (.int .i64 sl) := by rw [cell_of_row W A 1 _ _ _ h]; rfl
theorem ActA.c2 (h : ActA W A kd sl nm on p q) : W.cell? ⟨A, 2, none⟩ = some (.int .i64 nm) := by rw [cell_of_row W A 2 _ _ _ h]; rfl
theorem ActA.c3 (h : ActA W A kd sl nm on p q) : W.cell? ⟨A, 3, none⟩ = some (.bool on) := by rw [cell_of_row W A 3 _ _ _ h]; rfl
theorem ActA.c4 (h : ActA W A kd sl nm on p q) : W.cell? ⟨A, 4, none⟩ = some (.int .i64 p) := by rw [cell_of_row W A 4 _ _ _ h]; rfl
theorem ActA.c5 (h : ActA W A kd sl nm on p q) : W.cell? ⟨A, 5, none⟩ = some (.int .i64 q) := by rw [cell_of_row W A 5 _ _ _ h]; rfl
theorem ActA.fr (h : ActA W A kd sl nm on p q) (i : Nat) : W.frozen? ⟨A, i, none⟩ = false := by simp [World.frozen?, show W.heap[A]? = _ from h]
theorem ActA.same (h : ActA W A kd sl nm on p q) {X : List Nat} (hs : SameX X W W') (hA : A ∈ X) : ActA W' A kd sl nm on p q := (hs A hA).trans h
theorem ActA.set4 (h : ActA W A kd sl nm on p q) (x : Int) : ActA (W.setCell ⟨A, 4, none⟩ (.int .i64 x)) A kd sl nm on x q := heap_setCell_same W A 4 _ 30 _ h
theorem ActA.set5 (h : ActA W A kd sl nm on p q) (x : Int) : ActA (W.setCell ⟨A, 5, none⟩ (.int .i64 x)) A kd sl nm on p x := heap_setCell_same W A 5 _ 30 _ h
end
theorem full_is (l : List Bool) : fullL l = true ↔ 0 < l.length ∧ cntL l = l.length := by unfold fullL; simp
end Go.Proofs.Ythgcpijokdbmhaa
