/-
  NARROWER THAN 'FOR EVERY INPUT', by the rows' own cells (each row's printed sentence says how): IntentPuts: laid · IntentGets: laid · IntentBack: laid · IntentOne: laid · IntentSizes: laid · IntentApart: laid.
  DERIVED. THE GIVEN ROWS OF THIS SEAT. 6 by the template 'for every input the law returns true; each argument reads behind the call as it read before'; 0 by the template 'total and deterministic' (their statements: YthombepmlepgfaaDoorTotals.lean).
  GIVEN WITH THE SEED: the statements are not yours to turn. If you find one false, say at which input.
  Laid BY PROGRAM, IN A SANDBOX (cutbox-rows.mjs): the forced cells as the released guide's own fill.sh prints them over the translation 88e4e2101e465d35… (all of the seat's roots in one cut). By AI agents, Wed Nov 11 2026. No macro, syntax, notation, axiom, sorry.
-/
import Derived.Test.YthombepmlepgfaaDoorChecked
import GoSem.Claim
import GoSem.ClaimJoined
import GoSem.ClaimMapViews
import Derived.JoinedTies
import Derived.KernelRfl
namespace Go.Proofs.YthombepmlepgfaaDoor
/- THE CELL 'sum', in the pinned program and in every row, IS THE sha256 OF THE DUMP (.gsa) THAT YthombepmlepgfaaDoorProg.lean LOADS. Nothing in Lean hashes anything: it is a label: what it is worth is what the hold of that sum in a sandbox is worth. -/
noncomputable def Tryd.pinned : Pinned := { name := "ythombepmlepgfaadoor", sum := "88e4e2101e465d353f47a3a15918f365ab6d9333a00a54edee3a03c051b3b582", checked := Tryd.checked }
namespace Rows
def none {H : Type} : Left H := { results := [], args := [] }

/- WHAT THE LISTED PACKAGE-LEVEL VARIABLES READ AS WHEN THE CALL BEGINS. Each datum BY PROGRAM (the guide's laid-datum.mjs) off the statement by which the dump's own 'gosem.cut.vars' lays the variable. In a bare row this is a premise. The card (YthombepmlepgfaaDoorCards.lean) ties it to the program's text. -/
def laid_switchback_intent_reaches {H : Type} : DataW H := .agg [.agg [.lit (.int .i64 1), .lit (.int .i64 1073741824)], .agg [.lit (.int .i64 1), .lit (.int .i64 32)], .agg [.lit (.int .i64 0), .lit (.int .i64 65536)], .agg [.lit (.int .i64 1), .lit (.int .i64 1048576)], .agg [.lit (.int .i64 0), .lit (.int .i64 1073741824)], .agg [.lit (.int .i64 0), .lit (.int .i64 1)], .agg [.lit (.int .i64 0), .lit (.int .i64 7)], .agg [.lit (.int .i64 0), .lit (.int .i64 1)], .agg [.lit (.int .i64 0), .lit (.int .i64 1073741824)], .agg [.lit (.int .i64 0), .lit (.int .i64 1073741824)], .agg [.lit (.int .i64 0), .lit (.int .i64 32)], .agg [.lit (.int .i64 0), .lit (.int .i64 32)], .agg [.lit (.int .i64 0), .lit (.int .i64 1)], .agg [.lit (.int .i64 0), .lit (.int .i64 1)], .agg [.lit (.int .i64 0), .lit (.int .i64 65536)], .agg [.lit (.int .i64 0), .lit (.int .i64 1048576)], .agg [.lit (.int .i64 0), .lit (.int .i64 2)], .agg [.lit (.int .i64 0), .lit (.int .i64 1073741824)]]

/-- 'switchbacklaw09.IntentPuts': WHATEVER THE INPUT: true; the input reads as it did. -/
def intentPutsSpec : ChangeSpec := { name := "intentPuts", fn := fun _ => fun
  | [d] => { results := [.lit (.bool true)], args := [d] }
  | _ => none }
def intentPutsRow : OpenClaim := { program := "ythombepmlepgfaadoor", sum := "88e4e2101e465d353f47a3a15918f365ab6d9333a00a54edee3a03c051b3b582", func := "switchback/switchbacklaw09.IntentPuts", spec := "intentPuts", recurses := true, named := ["switchback/intent.reaches"], apart := false, laid := [("switchback/intent.reaches", laid_switchback_intent_reaches)] }
def IntentPutsSaid : Prop := intentPutsRow.holds Tryd.pinned (OpenSpec.ofChange intentPutsSpec)

/-- ITS FALSE NEIGHBOUR: 'it returns false'. Refute it at one input. -/
def intentPutsWrong : ChangeSpec := { name := "intentPuts", fn := fun _ => fun
  | [d] => { results := [.lit (.bool false)], args := [d] }
  | _ => none }
def IntentPutsWrongFalsely : Prop := intentPutsRow.holds Tryd.pinned (OpenSpec.ofChange intentPutsWrong)

/-- 'switchbacklaw09.IntentGets': WHATEVER THE INPUT: true; the input reads as it did. -/
def intentGetsSpec : ChangeSpec := { name := "intentGets", fn := fun _ => fun
  | [d] => { results := [.lit (.bool true)], args := [d] }
  | _ => none }
def intentGetsRow : OpenClaim := { program := "ythombepmlepgfaadoor", sum := "88e4e2101e465d353f47a3a15918f365ab6d9333a00a54edee3a03c051b3b582", func := "switchback/switchbacklaw09.IntentGets", spec := "intentGets", named := ["switchback/intent.reaches"], apart := false, laid := [("switchback/intent.reaches", laid_switchback_intent_reaches)] }
def IntentGetsSaid : Prop := intentGetsRow.holds Tryd.pinned (OpenSpec.ofChange intentGetsSpec)

/-- ITS FALSE NEIGHBOUR: 'it returns false'. Refute it at one input. -/
def intentGetsWrong : ChangeSpec := { name := "intentGets", fn := fun _ => fun
  | [d] => { results := [.lit (.bool false)], args := [d] }
  | _ => none }
def IntentGetsWrongFalsely : Prop := intentGetsRow.holds Tryd.pinned (OpenSpec.ofChange intentGetsWrong)

/-- 'switchbacklaw09.IntentBack': WHATEVER THE INPUT: true; the input reads as it did. -/
def intentBackSpec : ChangeSpec := { name := "intentBack", fn := fun _ => fun
  | [d] => { results := [.lit (.bool true)], args := [d] }
  | _ => none }
def intentBackRow : OpenClaim := { program := "ythombepmlepgfaadoor", sum := "88e4e2101e465d353f47a3a15918f365ab6d9333a00a54edee3a03c051b3b582", func := "switchback/switchbacklaw09.IntentBack", spec := "intentBack", named := ["switchback/intent.reaches"], apart := false, laid := [("switchback/intent.reaches", laid_switchback_intent_reaches)] }
def IntentBackSaid : Prop := intentBackRow.holds Tryd.pinned (OpenSpec.ofChange intentBackSpec)

/-- ITS FALSE NEIGHBOUR: 'it returns false'. Refute it at one input. -/
def intentBackWrong : ChangeSpec := { name := "intentBack", fn := fun _ => fun
  | [d] => { results := [.lit (.bool false)], args := [d] }
  | _ => none }
def IntentBackWrongFalsely : Prop := intentBackRow.holds Tryd.pinned (OpenSpec.ofChange intentBackWrong)

/-- 'switchbacklaw09.IntentOne': WHATEVER THE INPUT: true; the input reads as it did. -/
def intentOneSpec : ChangeSpec := { name := "intentOne", fn := fun _ => fun
  | [d] => { results := [.lit (.bool true)], args := [d] }
  | _ => none }
def intentOneRow : OpenClaim := { program := "ythombepmlepgfaadoor", sum := "88e4e2101e465d353f47a3a15918f365ab6d9333a00a54edee3a03c051b3b582", func := "switchback/switchbacklaw09.IntentOne", spec := "intentOne", named := ["switchback/intent.reaches"], apart := false, laid := [("switchback/intent.reaches", laid_switchback_intent_reaches)] }
def IntentOneSaid : Prop := intentOneRow.holds Tryd.pinned (OpenSpec.ofChange intentOneSpec)

/-- ITS FALSE NEIGHBOUR: 'it returns false'. Refute it at one input. -/
def intentOneWrong : ChangeSpec := { name := "intentOne", fn := fun _ => fun
  | [d] => { results := [.lit (.bool false)], args := [d] }
  | _ => none }
def IntentOneWrongFalsely : Prop := intentOneRow.holds Tryd.pinned (OpenSpec.ofChange intentOneWrong)

/-- 'switchbacklaw09.IntentSizes': WHATEVER THE INPUT: true; the input reads as it did. -/
def intentSizesSpec : ChangeSpec := { name := "intentSizes", fn := fun _ => fun
  | [d1, d2] => { results := [.lit (.bool true)], args := [d1, d2] }
  | _ => none }
def intentSizesRow : OpenClaim := { program := "ythombepmlepgfaadoor", sum := "88e4e2101e465d353f47a3a15918f365ab6d9333a00a54edee3a03c051b3b582", func := "switchback/switchbacklaw09.IntentSizes", spec := "intentSizes", named := ["switchback/intent.reaches"], apart := false, laid := [("switchback/intent.reaches", laid_switchback_intent_reaches)] }
def IntentSizesSaid : Prop := intentSizesRow.holds Tryd.pinned (OpenSpec.ofChange intentSizesSpec)

/-- ITS FALSE NEIGHBOUR: 'it returns false'. Refute it at one input. -/
def intentSizesWrong : ChangeSpec := { name := "intentSizes", fn := fun _ => fun
  | [d1, d2] => { results := [.lit (.bool false)], args := [d1, d2] }
  | _ => none }
def IntentSizesWrongFalsely : Prop := intentSizesRow.holds Tryd.pinned (OpenSpec.ofChange intentSizesWrong)

/-- 'switchbacklaw09.IntentApart': WHATEVER THE INPUT: true; the input reads as it did. -/
def intentApartSpec : ChangeSpec := { name := "intentApart", fn := fun _ => fun
  | [d1, d2] => { results := [.lit (.bool true)], args := [d1, d2] }
  | _ => none }
def intentApartRow : OpenClaim := { program := "ythombepmlepgfaadoor", sum := "88e4e2101e465d353f47a3a15918f365ab6d9333a00a54edee3a03c051b3b582", func := "switchback/switchbacklaw09.IntentApart", spec := "intentApart", named := ["switchback/intent.reaches"], apart := false, laid := [("switchback/intent.reaches", laid_switchback_intent_reaches)] }
def IntentApartSaid : Prop := intentApartRow.holds Tryd.pinned (OpenSpec.ofChange intentApartSpec)

/-- ITS FALSE NEIGHBOUR: 'it returns false'. Refute it at one input. -/
def intentApartWrong : ChangeSpec := { name := "intentApart", fn := fun _ => fun
  | [d1, d2] => { results := [.lit (.bool false)], args := [d1, d2] }
  | _ => none }
def IntentApartWrongFalsely : Prop := intentApartRow.holds Tryd.pinned (OpenSpec.ofChange intentApartWrong)

/- THE SECOND FORM. 'bulk': how many values and letters a reading holds, each counted each time it is reached (what is shared counts as often as it is met; a slice's spare places count too). A statement '..UptoSaid' is the law's where the arguments, and the package variables that the reading takes, are together of bulk at most 1048576: NARROWER than '..Said'. Prove '..Said' where nothing that the law and all that it calls make is longer than what came in: it says more and counts as full. Else prove '..UptoSaid'. A law counts once. -/
mutual
def uptoBulk {H : Type} : DataW H → Nat
  | .lit (.string bytes) => bytes.length + 1
  | .lit _ => 1
  | .nil => 1
  | .ptr d => uptoBulk d + 1
  | .slice elems spare => uptoBulkAll elems + uptoBulkAll spare + 1
  | .agg parts => uptoBulkAll parts + 1
  | .iface _ d => uptoBulk d + 1
  | .map entries => uptoBulkEntries entries + 1
  | .held _ => 1
def uptoBulkAll {H : Type} : List (DataW H) → Nat
  | [] => 0
  | d :: r => uptoBulk d + uptoBulkAll r
def uptoBulkEntries {H : Type} : List (Lit × DataW H) → Nat
  | [] => 0
  | x :: r => uptoBulkEntry x + uptoBulkEntries r
def uptoBulkEntry {H : Type} : Lit × DataW H → Nat
  | (.string bytes, d) => bytes.length + uptoBulk d + 1
  | (_, d) => uptoBulk d + 1
 end
def uptoSmall : (H : Type) → List (DataW H) → Bool := fun _ ds => decide (uptoBulkAll ds ≤ 1048576)
def OpenSpec.upto (s : _root_.Go.ChangeSpec) : _root_.Go.OpenSpec := { _root_.Go.OpenSpec.ofChange s with cond := some uptoSmall }

/-- 'switchbacklaw09.IntentPuts', WHERE WHAT IT READS IS OF BULK AT MOST 1048576: true; the input reads as it did. -/
def intentPutsUptoRow : OpenClaim := { program := "ythombepmlepgfaadoor", sum := "88e4e2101e465d353f47a3a15918f365ab6d9333a00a54edee3a03c051b3b582", func := "switchback/switchbacklaw09.IntentPuts", spec := "intentPuts", recurses := true, named := ["switchback/intent.reaches"], apart := false, laid := [("switchback/intent.reaches", laid_switchback_intent_reaches)], narrowed := true }
def IntentPutsUptoSaid : Prop := intentPutsUptoRow.holds Tryd.pinned (OpenSpec.upto intentPutsSpec)

/-- 'switchbacklaw09.IntentGets', WHERE WHAT IT READS IS OF BULK AT MOST 1048576: true; the input reads as it did. -/
def intentGetsUptoRow : OpenClaim := { program := "ythombepmlepgfaadoor", sum := "88e4e2101e465d353f47a3a15918f365ab6d9333a00a54edee3a03c051b3b582", func := "switchback/switchbacklaw09.IntentGets", spec := "intentGets", named := ["switchback/intent.reaches"], apart := false, laid := [("switchback/intent.reaches", laid_switchback_intent_reaches)], narrowed := true }
def IntentGetsUptoSaid : Prop := intentGetsUptoRow.holds Tryd.pinned (OpenSpec.upto intentGetsSpec)

/-- 'switchbacklaw09.IntentBack', WHERE WHAT IT READS IS OF BULK AT MOST 1048576: true; the input reads as it did. -/
def intentBackUptoRow : OpenClaim := { program := "ythombepmlepgfaadoor", sum := "88e4e2101e465d353f47a3a15918f365ab6d9333a00a54edee3a03c051b3b582", func := "switchback/switchbacklaw09.IntentBack", spec := "intentBack", named := ["switchback/intent.reaches"], apart := false, laid := [("switchback/intent.reaches", laid_switchback_intent_reaches)], narrowed := true }
def IntentBackUptoSaid : Prop := intentBackUptoRow.holds Tryd.pinned (OpenSpec.upto intentBackSpec)

/-- 'switchbacklaw09.IntentOne', WHERE WHAT IT READS IS OF BULK AT MOST 1048576: true; the input reads as it did. -/
def intentOneUptoRow : OpenClaim := { program := "ythombepmlepgfaadoor", sum := "88e4e2101e465d353f47a3a15918f365ab6d9333a00a54edee3a03c051b3b582", func := "switchback/switchbacklaw09.IntentOne", spec := "intentOne", named := ["switchback/intent.reaches"], apart := false, laid := [("switchback/intent.reaches", laid_switchback_intent_reaches)], narrowed := true }
def IntentOneUptoSaid : Prop := intentOneUptoRow.holds Tryd.pinned (OpenSpec.upto intentOneSpec)

/-- 'switchbacklaw09.IntentSizes', WHERE WHAT IT READS IS OF BULK AT MOST 1048576: true; the input reads as it did. -/
def intentSizesUptoRow : OpenClaim := { program := "ythombepmlepgfaadoor", sum := "88e4e2101e465d353f47a3a15918f365ab6d9333a00a54edee3a03c051b3b582", func := "switchback/switchbacklaw09.IntentSizes", spec := "intentSizes", named := ["switchback/intent.reaches"], apart := false, laid := [("switchback/intent.reaches", laid_switchback_intent_reaches)], narrowed := true }
def IntentSizesUptoSaid : Prop := intentSizesUptoRow.holds Tryd.pinned (OpenSpec.upto intentSizesSpec)

/-- 'switchbacklaw09.IntentApart', WHERE WHAT IT READS IS OF BULK AT MOST 1048576: true; the input reads as it did. -/
def intentApartUptoRow : OpenClaim := { program := "ythombepmlepgfaadoor", sum := "88e4e2101e465d353f47a3a15918f365ab6d9333a00a54edee3a03c051b3b582", func := "switchback/switchbacklaw09.IntentApart", spec := "intentApart", named := ["switchback/intent.reaches"], apart := false, laid := [("switchback/intent.reaches", laid_switchback_intent_reaches)], narrowed := true }
def IntentApartUptoSaid : Prop := intentApartUptoRow.holds Tryd.pinned (OpenSpec.upto intentApartSpec)

end Rows
end Go.Proofs.YthombepmlepgfaaDoor
