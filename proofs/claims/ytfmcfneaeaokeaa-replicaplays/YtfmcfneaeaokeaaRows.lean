/-
  No cell of these rows narrows 'for every input' (looked for: loops, veiled, ifaces, maps, wideKeys, modest, calm, conditions, laid).
  DERIVED. THE GIVEN ROWS OF THIS SEAT. 4 by the template 'for every input the law returns true; each argument reads behind the call as it read before'; 0 by the template 'total and deterministic' (their statements: YtfmcfneaeaokeaaTotals.lean).
  GIVEN WITH THE SEED: the statements are not yours to turn. If you find one false, say at which input.
  Laid BY PROGRAM, IN A SANDBOX (cutbox-rows.mjs): the forced cells as the released guide's own fill.sh prints them over the translation af1ff802a5d11f9b… (all of the seat's roots in one cut). By AI agents, Wed Nov 11 2026. No macro, syntax, notation, axiom, sorry.
-/
import Derived.Test.YtfmcfneaeaokeaaChecked
import GoSem.Claim
import GoSem.ClaimJoined
import GoSem.ClaimMapViews
import Derived.JoinedTies
import Derived.KernelRfl
namespace Go.Proofs.Ytfmcfneaeaokeaa
/- THE CELL 'sum', in the pinned program and in every row, IS THE sha256 OF THE DUMP (.gsa) THAT YtfmcfneaeaokeaaProg.lean LOADS. Nothing in Lean hashes anything: it is a label: what it is worth is what the hold of that sum in a sandbox is worth. -/
noncomputable def Try.pinned : Pinned := { name := "ytfmcfneaeaokeaa", sum := "af1ff802a5d11f9ba3ecfe8c8116a6c640ae1af429691e1305d262a5d06c656b", checked := Try.checked }
namespace Rows
def none {H : Type} : Left H := { results := [], args := [] }

/-- 'switchbacklaw13.ReplicaPlays': WHATEVER THE INPUT: true; the input reads as it did. -/
def replicaPlaysSpec : ChangeSpec := { name := "replicaPlays", fn := fun _ => fun
  | [d] => { results := [.lit (.bool true)], args := [d] }
  | _ => none }
def replicaPlaysRow : OpenClaim := { program := "ytfmcfneaeaokeaa", sum := "af1ff802a5d11f9ba3ecfe8c8116a6c640ae1af429691e1305d262a5d06c656b", func := "switchback/switchbacklaw13.ReplicaPlays", spec := "replicaPlays", apart := false }
def ReplicaPlaysSaid : Prop := replicaPlaysRow.holds Try.pinned (OpenSpec.ofChange replicaPlaysSpec)

/-- ITS FALSE NEIGHBOUR: 'it returns false'. Refute it at one input. -/
def replicaPlaysWrong : ChangeSpec := { name := "replicaPlays", fn := fun _ => fun
  | [d] => { results := [.lit (.bool false)], args := [d] }
  | _ => none }
def ReplicaPlaysWrongFalsely : Prop := replicaPlaysRow.holds Try.pinned (OpenSpec.ofChange replicaPlaysWrong)

/-- 'switchbacklaw13.ReplicaFull': WHATEVER THE INPUT: true; the input reads as it did. -/
def replicaFullSpec : ChangeSpec := { name := "replicaFull", fn := fun _ => fun
  | [d1, d2, d3] => { results := [.lit (.bool true)], args := [d1, d2, d3] }
  | _ => none }
def replicaFullRow : OpenClaim := { program := "ytfmcfneaeaokeaa", sum := "af1ff802a5d11f9ba3ecfe8c8116a6c640ae1af429691e1305d262a5d06c656b", func := "switchback/switchbacklaw13.ReplicaFull", spec := "replicaFull", apart := false }
def ReplicaFullSaid : Prop := replicaFullRow.holds Try.pinned (OpenSpec.ofChange replicaFullSpec)

/-- ITS FALSE NEIGHBOUR: 'it returns false'. Refute it at one input. -/
def replicaFullWrong : ChangeSpec := { name := "replicaFull", fn := fun _ => fun
  | [d1, d2, d3] => { results := [.lit (.bool false)], args := [d1, d2, d3] }
  | _ => none }
def ReplicaFullWrongFalsely : Prop := replicaFullRow.holds Try.pinned (OpenSpec.ofChange replicaFullWrong)

/-- 'switchbacklaw13.ReplicaScales': WHATEVER THE INPUT: true; the input reads as it did. -/
def replicaScalesSpec : ChangeSpec := { name := "replicaScales", fn := fun _ => fun
  | [d1, d2] => { results := [.lit (.bool true)], args := [d1, d2] }
  | _ => none }
def replicaScalesRow : OpenClaim := { program := "ytfmcfneaeaokeaa", sum := "af1ff802a5d11f9ba3ecfe8c8116a6c640ae1af429691e1305d262a5d06c656b", func := "switchback/switchbacklaw13.ReplicaScales", spec := "replicaScales", apart := false }
def ReplicaScalesSaid : Prop := replicaScalesRow.holds Try.pinned (OpenSpec.ofChange replicaScalesSpec)

/-- ITS FALSE NEIGHBOUR: 'it returns false'. Refute it at one input. -/
def replicaScalesWrong : ChangeSpec := { name := "replicaScales", fn := fun _ => fun
  | [d1, d2] => { results := [.lit (.bool false)], args := [d1, d2] }
  | _ => none }
def ReplicaScalesWrongFalsely : Prop := replicaScalesRow.holds Try.pinned (OpenSpec.ofChange replicaScalesWrong)

/-- 'switchbacklaw13.ReplicaOrder': WHATEVER THE INPUT: true; the input reads as it did. -/
def replicaOrderSpec : ChangeSpec := { name := "replicaOrder", fn := fun _ => fun
  | [d1, d2] => { results := [.lit (.bool true)], args := [d1, d2] }
  | _ => none }
def replicaOrderRow : OpenClaim := { program := "ytfmcfneaeaokeaa", sum := "af1ff802a5d11f9ba3ecfe8c8116a6c640ae1af429691e1305d262a5d06c656b", func := "switchback/switchbacklaw13.ReplicaOrder", spec := "replicaOrder", apart := false }
def ReplicaOrderSaid : Prop := replicaOrderRow.holds Try.pinned (OpenSpec.ofChange replicaOrderSpec)

/-- ITS FALSE NEIGHBOUR: 'it returns false'. Refute it at one input. -/
def replicaOrderWrong : ChangeSpec := { name := "replicaOrder", fn := fun _ => fun
  | [d1, d2] => { results := [.lit (.bool false)], args := [d1, d2] }
  | _ => none }
def ReplicaOrderWrongFalsely : Prop := replicaOrderRow.holds Try.pinned (OpenSpec.ofChange replicaOrderWrong)

/- THE SECOND FORM. 'bulk': how many values and letters a reading holds, each counted each time it is reached (what is shared counts as often as it is met; a slice's spare places count too). A statement '..UptoSaid' is the law's where the arguments, and the package variables that the reading takes, are together of bulk at most 1048576: NARROWER than '..Said'. Prove '..Said' where nothing that the law and all that it calls make is longer than what came in: it says more and counts as full. Else prove '..UptoSaid'. A law counts once. -/
mutual
def uptoBulk {H : Type} : DataW H → Nat
  | .lit (.string bytes) => bytes.length + 1
  | .lit _ => 1
  | .nil => 1
  | .ptr d => uptoBulk d + 1
  | .slice elems spare => uptoBulkAll elems + uptoBulkAll spare + 1
  | .agg parts => uptoBulkAll parts + 1
  | .iface _ d => uptoBulk d + 1
  | .map entries => uptoBulkEntries entries + 1
  | .held _ => 1
def uptoBulkAll {H : Type} : List (DataW H) → Nat
  | [] => 0
  | d :: r => uptoBulk d + uptoBulkAll r
def uptoBulkEntries {H : Type} : List (Lit × DataW H) → Nat
  | [] => 0
  | x :: r => uptoBulkEntry x + uptoBulkEntries r
def uptoBulkEntry {H : Type} : Lit × DataW H → Nat
  | (.string bytes, d) => bytes.length + uptoBulk d + 1
  | (_, d) => uptoBulk d + 1
 end
def uptoSmall : (H : Type) → List (DataW H) → Bool := fun _ ds => decide (uptoBulkAll ds ≤ 1048576)
def OpenSpec.upto (s : _root_.Go.ChangeSpec) : _root_.Go.OpenSpec := { _root_.Go.OpenSpec.ofChange s with cond := some uptoSmall }

/-- 'switchbacklaw13.ReplicaPlays', WHERE WHAT IT READS IS OF BULK AT MOST 1048576: true; the input reads as it did. -/
def replicaPlaysUptoRow : OpenClaim := { program := "ytfmcfneaeaokeaa", sum := "af1ff802a5d11f9ba3ecfe8c8116a6c640ae1af429691e1305d262a5d06c656b", func := "switchback/switchbacklaw13.ReplicaPlays", spec := "replicaPlays", apart := false, narrowed := true }
def ReplicaPlaysUptoSaid : Prop := replicaPlaysUptoRow.holds Try.pinned (OpenSpec.upto replicaPlaysSpec)

/-- 'switchbacklaw13.ReplicaFull', WHERE WHAT IT READS IS OF BULK AT MOST 1048576: true; the input reads as it did. -/
def replicaFullUptoRow : OpenClaim := { program := "ytfmcfneaeaokeaa", sum := "af1ff802a5d11f9ba3ecfe8c8116a6c640ae1af429691e1305d262a5d06c656b", func := "switchback/switchbacklaw13.ReplicaFull", spec := "replicaFull", apart := false, narrowed := true }
def ReplicaFullUptoSaid : Prop := replicaFullUptoRow.holds Try.pinned (OpenSpec.upto replicaFullSpec)

/-- 'switchbacklaw13.ReplicaScales', WHERE WHAT IT READS IS OF BULK AT MOST 1048576: true; the input reads as it did. -/
def replicaScalesUptoRow : OpenClaim := { program := "ytfmcfneaeaokeaa", sum := "af1ff802a5d11f9ba3ecfe8c8116a6c640ae1af429691e1305d262a5d06c656b", func := "switchback/switchbacklaw13.ReplicaScales", spec := "replicaScales", apart := false, narrowed := true }
def ReplicaScalesUptoSaid : Prop := replicaScalesUptoRow.holds Try.pinned (OpenSpec.upto replicaScalesSpec)

/-- 'switchbacklaw13.ReplicaOrder', WHERE WHAT IT READS IS OF BULK AT MOST 1048576: true; the input reads as it did. -/
def replicaOrderUptoRow : OpenClaim := { program := "ytfmcfneaeaokeaa", sum := "af1ff802a5d11f9ba3ecfe8c8116a6c640ae1af429691e1305d262a5d06c656b", func := "switchback/switchbacklaw13.ReplicaOrder", spec := "replicaOrder", apart := false, narrowed := true }
def ReplicaOrderUptoSaid : Prop := replicaOrderUptoRow.holds Try.pinned (OpenSpec.upto replicaOrderSpec)

end Rows
end Go.Proofs.Ytfmcfneaeaokeaa
