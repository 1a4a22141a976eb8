/-
  The document's fleet: View.
-/
import Derived.Test.YtchaeidmjoelnaaFleMC
import Derived.Laws.StructEq
namespace Go.Proofs.Ytchaeidmjoelnaa
open Go.RowKit

theorem u37 : Try.prog.underlying 42 = some (.struct (Try.prog.fieldsOf 42)) := by kernel_rfl
theorem i37 : (Try.prog.info? 42).map (·.size) = some 4 := by kernel_rfl
/-- A view: four numbers. -/
def viewV (a b c d : Nat) : Value := .agg #[.int .i64 (a : Int), .int .i64 (b : Int), .int .i64 (c : Int), .int .i64 (d : Int)]
def viewK (k l : List Bool) : Value := viewV k.length l.length (cntL k) (cntL l)
def Row4 (W : World) (A : Nat) (a b c d : Int) : Prop := W.heap[A]? = some (.cells #[.int .i64 a, .int .i64 b, .int .i64 c, .int .i64 d] 42 (0, 0))
section
variable {O : Nat → Prop} {W W' : World} {b a c x : Nat} {va vc v' : Value} {k l k' l' : List Bool} {s : Int}
theorem Row4.c0 {A : Nat} {p q r s : Int} (h : Row4 W A p q r s) : W.cell? ⟨A, 0, none⟩ = some (.int .i64 p) := by rw [cell_of_row W A 0 _ _ _ h]; rfl
theorem Row4.c1 {A : Nat} {p q r s : Int} (h : Row4 W A p q r s) : W.cell? ⟨A, 1, none⟩ = some (.int .i64 q) := by rw [cell_of_row W A 1 _ _ _ h]; rfl
theorem Row4.c2 {A : Nat} {p q r s : Int} (h : Row4 W A p q r s) : W.cell? ⟨A, 2, none⟩ = some (.int .i64 r) := by rw [cell_of_row W A 2 _ _ _ h]; rfl
theorem Row4.c3 {A : Nat} {p q r s : Int} (h : Row4 W A p q r s) : W.cell? ⟨A, 3, none⟩ = some (.int .i64 s) := by rw [cell_of_row W A 3 _ _ _ h]; rfl
theorem Row4.fr {A : Nat} {p q r s : Int} (h : Row4 W A p q r s) (i : Nat) : W.frozen? ⟨A, i, none⟩ = false := by simp [World.frozen?, show W.heap[A]? = _ from h]
theorem Row4.set01 {A : Nat} {p q r s : Int} (h : Row4 W A p q r s) (x y : Int) : Row4 ((W.setCell ⟨A, 0, none⟩ (.int .i64 x)).setCell ⟨A, 1, none⟩ (.int .i64 y)) A x y r s := heap_setCell_same _ A 1 _ 42 _ (heap_setCell_same W A 0 _ 42 _ h)
theorem Row4.set23 {A : Nat} {p q r s : Int} (h : Row4 W A p q r s) (x y : Int) : Row4 ((W.setCell ⟨A, 2, none⟩ (.int .i64 x)).setCell ⟨A, 3, none⟩ (.int .i64 y)) A p q x y := heap_setCell_same _ A 3 _ 42 _ (heap_setCell_same W A 2 _ 42 _ h)
/-- A new block is written: all older ones stay. -/
theorem below_setNew {B : Nat} {w W : World} (h : Below B w W) (A i : Nat) (u : Value) (hA : B ≤ A) : Below B w (W.setCell ⟨A, i, none⟩ u) :=
  ⟨h.os, h.tape, h.output, by simpa [World.setCell] using h.size, fun k hk => (Below.heap_setCell W ⟨A, i, none⟩ u k (by show k ≠ A; omega)).trans (h.block k hk)⟩
end
end Go.Proofs.Ytchaeidmjoelnaa
