/-
  The document's own router in memory: Call, all ways joined.
-/
import Derived.Test.YtchaeidmjoelnaaRouB
namespace Go.Proofs.Ytchaeidmjoelnaa
open Go.RowKit

/-- A fuse as it comes to be. -/
structure Fine (f : Fu) : Prop where
  left : f.armed = true → 0 ≤ f.left ∧ f.left ≤ 9223372036854775807
  blown : f.blown = true → f.armed = true ∧ f.left = 0
  count : 0 ≤ f.count ∧ f.count < 1000000
def bears (f : Fu) : Bool := !(f.armed && f.left == 0)
def spent (f : Fu) : Fu := if bears f = true then ⟨f.armed, if f.armed then f.left - 1 else f.left, f.blown, f.count + 1⟩ else ⟨f.armed, f.left, true, f.count⟩
/-- What a call tells, and leaves of the router and of its fuse. -/
instance (gen slot : Int) : Decidable (inRange gen slot) := by unfold inRange; infer_instance
def toldC (s : Ro) (f : Fu) (gen slot : Int) : Int := if inRange gen slot then (if bears f = true then callE s gen slot else 2) else 1
def leftC (s : Ro) (f : Fu) (gen slot : Int) : Ro := if inRange gen slot then (if bears f = true then callS s gen slot else s) else s
def fuseC (f : Fu) (gen slot : Int) : Fu := if inRange gen slot then spent f else f
end Go.Proofs.Ytchaeidmjoelnaa
