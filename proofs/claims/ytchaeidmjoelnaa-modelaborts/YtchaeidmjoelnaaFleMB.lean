/-
  The document's fleet: New, Slot, a slot's Ready and Full, Apply.
-/
import Derived.Test.YtchaeidmjoelnaaFleM
import Derived.Deep.LoopGhost
import Derived.Deep.QuietTactic
import Derived.Deep.RegionHeld3
import Derived.BigQuiet
namespace Go.Proofs.Ytchaeidmjoelnaa
open Go.RowKit

def NewF (F : (Nat → Prop) → World → Nat → List Bool → List Bool → Prop) (w w' : World) (b : Nat) : Prop := ∃ O : Nat → Prop, F O w' b [] [] ∧ (∀ j, O j → w.heap.size ≤ j) ∧ Below w.heap.size w w'
section
variable {O : Nat → Prop} {W W' : World} {b a c x : Nat} {va vc v' : Value} {k l k' l' : List Bool} {s : Int}
theorem below_drew1 (W : World) : Below W.heap.size W W.drew := ⟨rfl, rfl, rfl, Nat.le_refl _, fun _ _ => rfl⟩
end
end Go.Proofs.Ytchaeidmjoelnaa
