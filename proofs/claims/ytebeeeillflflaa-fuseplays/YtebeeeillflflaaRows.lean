/-
  No cell of these rows narrows 'for every input' (looked for: loops, veiled, ifaces, maps, wideKeys, modest, calm, conditions, laid).
  DERIVED. THE GIVEN ROWS OF THIS SEAT. 4 by the template 'for every input the law returns true; each argument reads behind the call as it read before'; 0 by the template 'total and deterministic' (their statements: YtebeeeillflflaaTotals.lean).
  GIVEN WITH THE SEED: the statements are not yours to turn. If you find one false, say at which input.
  Laid BY PROGRAM, IN A SANDBOX (cutbox-rows.mjs): the forced cells as the released guide's own fill.sh prints them over the translation 1b27d80d708431d2… (all of the seat's roots in one cut). By AI agents, Wed Nov 11 2026. No macro, syntax, notation, axiom, sorry.
-/
import Derived.Test.YtebeeeillflflaaChecked
import GoSem.Claim
import GoSem.ClaimJoined
import GoSem.ClaimMapViews
import Derived.JoinedTies
import Derived.KernelRfl
namespace Go.Proofs.Ytebeeeillflflaa
/- THE CELL 'sum', in the pinned program and in every row, IS THE sha256 OF THE DUMP (.gsa) THAT YtebeeeillflflaaProg.lean LOADS. Nothing in Lean hashes anything: it is a label: what it is worth is what the hold of that sum in a sandbox is worth. -/
noncomputable def Try.pinned : Pinned := { name := "ytebeeeillflflaa", sum := "1b27d80d708431d22938e900c6779ba2ea0b35632d93861baa71ffe21c4a66ca", checked := Try.checked }
namespace Rows
def none {H : Type} : Left H := { results := [], args := [] }

/-- 'switchbacklaw04.FusePlays': WHATEVER THE INPUT: true; the input reads as it did. -/
def fusePlaysSpec : ChangeSpec := { name := "fusePlays", fn := fun _ => fun
  | [d] => { results := [.lit (.bool true)], args := [d] }
  | _ => none }
def fusePlaysRow : OpenClaim := { program := "ytebeeeillflflaa", sum := "1b27d80d708431d22938e900c6779ba2ea0b35632d93861baa71ffe21c4a66ca", func := "switchback/switchbacklaw04.FusePlays", spec := "fusePlays", apart := false }
def FusePlaysSaid : Prop := fusePlaysRow.holds Try.pinned (OpenSpec.ofChange fusePlaysSpec)

/-- ITS FALSE NEIGHBOUR: 'it returns false'. Refute it at one input. -/
def fusePlaysWrong : ChangeSpec := { name := "fusePlays", fn := fun _ => fun
  | [d] => { results := [.lit (.bool false)], args := [d] }
  | _ => none }
def FusePlaysWrongFalsely : Prop := fusePlaysRow.holds Try.pinned (OpenSpec.ofChange fusePlaysWrong)

/-- 'switchbacklaw04.FuseCounts': WHATEVER THE INPUT: true; the input reads as it did. -/
def fuseCountsSpec : ChangeSpec := { name := "fuseCounts", fn := fun _ => fun
  | [d1, d2, d3] => { results := [.lit (.bool true)], args := [d1, d2, d3] }
  | _ => none }
def fuseCountsRow : OpenClaim := { program := "ytebeeeillflflaa", sum := "1b27d80d708431d22938e900c6779ba2ea0b35632d93861baa71ffe21c4a66ca", func := "switchback/switchbacklaw04.FuseCounts", spec := "fuseCounts", apart := false }
def FuseCountsSaid : Prop := fuseCountsRow.holds Try.pinned (OpenSpec.ofChange fuseCountsSpec)

/-- ITS FALSE NEIGHBOUR: 'it returns false'. Refute it at one input. -/
def fuseCountsWrong : ChangeSpec := { name := "fuseCounts", fn := fun _ => fun
  | [d1, d2, d3] => { results := [.lit (.bool false)], args := [d1, d2, d3] }
  | _ => none }
def FuseCountsWrongFalsely : Prop := fuseCountsRow.holds Try.pinned (OpenSpec.ofChange fuseCountsWrong)

/-- 'switchbacklaw04.FuseAnew': WHATEVER THE INPUT: true; the input reads as it did. -/
def fuseAnewSpec : ChangeSpec := { name := "fuseAnew", fn := fun _ => fun
  | [d1, d2, d3] => { results := [.lit (.bool true)], args := [d1, d2, d3] }
  | _ => none }
def fuseAnewRow : OpenClaim := { program := "ytebeeeillflflaa", sum := "1b27d80d708431d22938e900c6779ba2ea0b35632d93861baa71ffe21c4a66ca", func := "switchback/switchbacklaw04.FuseAnew", spec := "fuseAnew", apart := false }
def FuseAnewSaid : Prop := fuseAnewRow.holds Try.pinned (OpenSpec.ofChange fuseAnewSpec)

/-- ITS FALSE NEIGHBOUR: 'it returns false'. Refute it at one input. -/
def fuseAnewWrong : ChangeSpec := { name := "fuseAnew", fn := fun _ => fun
  | [d1, d2, d3] => { results := [.lit (.bool false)], args := [d1, d2, d3] }
  | _ => none }
def FuseAnewWrongFalsely : Prop := fuseAnewRow.holds Try.pinned (OpenSpec.ofChange fuseAnewWrong)

/-- 'switchbacklaw04.FuseAll': WHATEVER THE INPUT: true; the input reads as it did. -/
def fuseAllSpec : ChangeSpec := { name := "fuseAll", fn := fun _ => fun
  | [d] => { results := [.lit (.bool true)], args := [d] }
  | _ => none }
def fuseAllRow : OpenClaim := { program := "ytebeeeillflflaa", sum := "1b27d80d708431d22938e900c6779ba2ea0b35632d93861baa71ffe21c4a66ca", func := "switchback/switchbacklaw04.FuseAll", spec := "fuseAll", apart := false }
def FuseAllSaid : Prop := fuseAllRow.holds Try.pinned (OpenSpec.ofChange fuseAllSpec)

/-- ITS FALSE NEIGHBOUR: 'it returns false'. Refute it at one input. -/
def fuseAllWrong : ChangeSpec := { name := "fuseAll", fn := fun _ => fun
  | [d] => { results := [.lit (.bool false)], args := [d] }
  | _ => none }
def FuseAllWrongFalsely : Prop := fuseAllRow.holds Try.pinned (OpenSpec.ofChange fuseAllWrong)

/- THE SECOND FORM. 'bulk': how many values and letters a reading holds, each counted each time it is reached (what is shared counts as often as it is met; a slice's spare places count too). A statement '..UptoSaid' is the law's where the arguments, and the package variables that the reading takes, are together of bulk at most 1048576: NARROWER than '..Said'. Prove '..Said' where nothing that the law and all that it calls make is longer than what came in: it says more and counts as full. Else prove '..UptoSaid'. A law counts once. -/
mutual
def uptoBulk {H : Type} : DataW H → Nat
  | .lit (.string bytes) => bytes.length + 1
  | .lit _ => 1
  | .nil => 1
  | .ptr d => uptoBulk d + 1
  | .slice elems spare => uptoBulkAll elems + uptoBulkAll spare + 1
  | .agg parts => uptoBulkAll parts + 1
  | .iface _ d => uptoBulk d + 1
  | .map entries => uptoBulkEntries entries + 1
  | .held _ => 1
def uptoBulkAll {H : Type} : List (DataW H) → Nat
  | [] => 0
  | d :: r => uptoBulk d + uptoBulkAll r
def uptoBulkEntries {H : Type} : List (Lit × DataW H) → Nat
  | [] => 0
  | x :: r => uptoBulkEntry x + uptoBulkEntries r
def uptoBulkEntry {H : Type} : Lit × DataW H → Nat
  | (.string bytes, d) => bytes.length + uptoBulk d + 1
  | (_, d) => uptoBulk d + 1
 end
def uptoSmall : (H : Type) → List (DataW H) → Bool := fun _ ds => decide (uptoBulkAll ds ≤ 1048576)
def OpenSpec.upto (s : _root_.Go.ChangeSpec) : _root_.Go.OpenSpec := { _root_.Go.OpenSpec.ofChange s with cond := some uptoSmall }

/-- 'switchbacklaw04.FusePlays', WHERE WHAT IT READS IS OF BULK AT MOST 1048576: true; the input reads as it did. -/
def fusePlaysUptoRow : OpenClaim := { program := "ytebeeeillflflaa", sum := "1b27d80d708431d22938e900c6779ba2ea0b35632d93861baa71ffe21c4a66ca", func := "switchback/switchbacklaw04.FusePlays", spec := "fusePlays", apart := false, narrowed := true }
def FusePlaysUptoSaid : Prop := fusePlaysUptoRow.holds Try.pinned (OpenSpec.upto fusePlaysSpec)

/-- 'switchbacklaw04.FuseCounts', WHERE WHAT IT READS IS OF BULK AT MOST 1048576: true; the input reads as it did. -/
def fuseCountsUptoRow : OpenClaim := { program := "ytebeeeillflflaa", sum := "1b27d80d708431d22938e900c6779ba2ea0b35632d93861baa71ffe21c4a66ca", func := "switchback/switchbacklaw04.FuseCounts", spec := "fuseCounts", apart := false, narrowed := true }
def FuseCountsUptoSaid : Prop := fuseCountsUptoRow.holds Try.pinned (OpenSpec.upto fuseCountsSpec)

/-- 'switchbacklaw04.FuseAnew', WHERE WHAT IT READS IS OF BULK AT MOST 1048576: true; the input reads as it did. -/
def fuseAnewUptoRow : OpenClaim := { program := "ytebeeeillflflaa", sum := "1b27d80d708431d22938e900c6779ba2ea0b35632d93861baa71ffe21c4a66ca", func := "switchback/switchbacklaw04.FuseAnew", spec := "fuseAnew", apart := false, narrowed := true }
def FuseAnewUptoSaid : Prop := fuseAnewUptoRow.holds Try.pinned (OpenSpec.upto fuseAnewSpec)

/-- 'switchbacklaw04.FuseAll', WHERE WHAT IT READS IS OF BULK AT MOST 1048576: true; the input reads as it did. -/
def fuseAllUptoRow : OpenClaim := { program := "ytebeeeillflflaa", sum := "1b27d80d708431d22938e900c6779ba2ea0b35632d93861baa71ffe21c4a66ca", func := "switchback/switchbacklaw04.FuseAll", spec := "fuseAll", apart := false, narrowed := true }
def FuseAllUptoSaid : Prop := fuseAllUptoRow.holds Try.pinned (OpenSpec.upto fuseAllSpec)

end Rows
end Go.Proofs.Ytebeeeillflflaa
