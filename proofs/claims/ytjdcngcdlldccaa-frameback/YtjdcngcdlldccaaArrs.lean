/-
  Arrays that came in and lie in memory of the call's own.
-/
import Derived.Test.YtjdcngcdlldccaaLift
namespace Go.Proofs.Ytjdcngcdlldccaa
open Go.RowKit

/-- An array of three ints lies there. -/
structure Arr3 (w : World) (B : Nat) (x y z : Int) : Prop where
  c0 : w.cell? ⟨B, 0, none⟩ = some (.int .i64 x)
  c1 : w.cell? ⟨B, 1, none⟩ = some (.int .i64 y)
  c2 : w.cell? ⟨B, 2, none⟩ = some (.int .i64 z)
  lt : B < w.heap.size
theorem Arr3.new (w : World) (x y z : Int) (t : TypeId) : Arr3 (w.alloc (.cells #[.int .i64 x, .int .i64 y, .int .i64 z] t)) w.heap.size x y z :=
  ⟨by simp, by simp, by simp, by simp⟩
theorem Arr3.under {w w' : World} {B : Nat} {x y z : Int} (h : Arr3 w B x y z) (hb : Below w.heap.size w w') : Arr3 w' B x y z :=
  ⟨(hb.cell (p := ⟨B, 0, none⟩) h.lt).trans h.c0, (hb.cell (p := ⟨B, 1, none⟩) h.lt).trans h.c1, (hb.cell (p := ⟨B, 2, none⟩) h.lt).trans h.c2, Nat.lt_of_lt_of_le h.lt hb.size⟩
/-- Two values lie there. -/
structure Arr2 (w : World) (B : Nat) (u v : Value) : Prop where
  c0 : w.cell? ⟨B, 0, none⟩ = some u
  c1 : w.cell? ⟨B, 1, none⟩ = some v
  lt : B < w.heap.size
theorem Arr2.new (w : World) (u v : Value) (t : TypeId) : Arr2 (w.alloc (.cells #[u, v] t)) w.heap.size u v :=
  ⟨by simp, by simp, by simp⟩
theorem Arr2.under {w w' : World} {B : Nat} {u v : Value} (h : Arr2 w B u v) (hb : Below w.heap.size w w') : Arr2 w' B u v :=
  ⟨(hb.cell (p := ⟨B, 0, none⟩) h.lt).trans h.c0, (hb.cell (p := ⟨B, 1, none⟩) h.lt).trans h.c1, Nat.lt_of_lt_of_le h.lt hb.size⟩
theorem below_new (w : World) (o : Obj) : Below w.heap.size w (w.alloc o) := (Below.refl _ _).alloc (Nat.le_refl _) _
end Go.Proofs.Ytjdcngcdlldccaa
