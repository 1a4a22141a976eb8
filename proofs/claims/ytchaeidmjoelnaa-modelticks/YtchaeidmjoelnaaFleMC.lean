/-
  The document's fleet: Apply, Fill.
-/
import Derived.Test.YtchaeidmjoelnaaFleMB
import Derived.Deep.Cut
namespace Go.Proofs.Ytchaeidmjoelnaa
open Go.RowKit

section
variable {O : Nat → Prop} {W W' : World} {b a c x : Nat} {va vc v' : Value} {k l k' l' : List Bool} {s : Int}
/-- Two numbers in a block of the call's own. -/
def Box2 (W : World) (A : Nat) (p q : Int) : Prop := W.heap[A]? = some (.cells #[.int .i64 p, .int .i64 q] 35 (0, 0))
theorem Box2.c0 {A : Nat} {p q : Int} (h : Box2 W A p q) : W.cell? ⟨A, 0, none⟩ = some (.int .i64 p) := by rw [cell_of_row W A 0 _ _ _ h]; rfl
theorem Box2.c1 {A : Nat} {p q : Int} (h : Box2 W A p q) : W.cell? ⟨A, 1, none⟩ = some (.int .i64 q) := by rw [cell_of_row W A 1 _ _ _ h]; rfl
end
end Go.Proofs.Ytchaeidmjoelnaa
