/-
  DERIVED. GIVEN WITH THE SEED: THE CARDS: each row of YthombepmlepgfaaDoorRows.lean that lists a variable, with what it lists TIED to the program's text (the seventh form; the later family's looks); each row that meets fmt, with fmt's text TOLD by the authors' own Lean function (tested against real Go, not proved from fmt's source: count such statements apart). THE CARD IS WHAT COUNTS. Prove the row's statement (the work); the ties are given (YthombepmlepgfaaDoorTie.lean); close each card by the builder's one call (the guide's Derived/Test/ToyasCard.lean, 'card_holds'). Laid BY PROGRAM, IN A SANDBOX (cutbox-door.mjs). By AI agents, Wed Nov 11 2026. No macro, syntax, notation, axiom, sorry.
-/
import Derived.Test.YthombepmlepgfaaDoorRows
import GoSem.ClaimSeven
namespace Go.Proofs.YthombepmlepgfaaDoor
namespace Rows

/-- THE TIED CARD OF 'switchbacklaw09.IntentPuts'. -/
def intentPutsCard : Claim7 := { stood := { row := intentPutsRow, standIns := [], harness := (true, "365df40b4b06091b173e89a3fcd023001c63cb50760d75e96657b72a7a900189"), looks := false }, kinds := [], alts := [], laidByText := true, laidKinds := [.data], laidTests := true, laidLooks := .later }
def IntentPutsCardSaid : Prop := Claim7.holds Tryd.pinned (.plain (OpenSpec.ofChange intentPutsSpec)) intentPutsCard

/-- THE TIED CARD OF 'switchbacklaw09.IntentGets'. -/
def intentGetsCard : Claim7 := { stood := { row := intentGetsRow, standIns := [], harness := (true, "365df40b4b06091b173e89a3fcd023001c63cb50760d75e96657b72a7a900189"), looks := false }, kinds := [], alts := [], laidByText := true, laidKinds := [.data], laidTests := true, laidLooks := .later }
def IntentGetsCardSaid : Prop := Claim7.holds Tryd.pinned (.plain (OpenSpec.ofChange intentGetsSpec)) intentGetsCard

/-- THE TIED CARD OF 'switchbacklaw09.IntentBack'. -/
def intentBackCard : Claim7 := { stood := { row := intentBackRow, standIns := [], harness := (true, "365df40b4b06091b173e89a3fcd023001c63cb50760d75e96657b72a7a900189"), looks := false }, kinds := [], alts := [], laidByText := true, laidKinds := [.data], laidTests := true, laidLooks := .later }
def IntentBackCardSaid : Prop := Claim7.holds Tryd.pinned (.plain (OpenSpec.ofChange intentBackSpec)) intentBackCard

/-- THE TIED CARD OF 'switchbacklaw09.IntentOne'. -/
def intentOneCard : Claim7 := { stood := { row := intentOneRow, standIns := [], harness := (true, "365df40b4b06091b173e89a3fcd023001c63cb50760d75e96657b72a7a900189"), looks := false }, kinds := [], alts := [], laidByText := true, laidKinds := [.data], laidTests := true, laidLooks := .later }
def IntentOneCardSaid : Prop := Claim7.holds Tryd.pinned (.plain (OpenSpec.ofChange intentOneSpec)) intentOneCard

/-- THE TIED CARD OF 'switchbacklaw09.IntentSizes'. -/
def intentSizesCard : Claim7 := { stood := { row := intentSizesRow, standIns := [], harness := (true, "365df40b4b06091b173e89a3fcd023001c63cb50760d75e96657b72a7a900189"), looks := false }, kinds := [], alts := [], laidByText := true, laidKinds := [.data], laidTests := true, laidLooks := .later }
def IntentSizesCardSaid : Prop := Claim7.holds Tryd.pinned (.plain (OpenSpec.ofChange intentSizesSpec)) intentSizesCard

/-- THE TIED CARD OF 'switchbacklaw09.IntentApart'. -/
def intentApartCard : Claim7 := { stood := { row := intentApartRow, standIns := [], harness := (true, "365df40b4b06091b173e89a3fcd023001c63cb50760d75e96657b72a7a900189"), looks := false }, kinds := [], alts := [], laidByText := true, laidKinds := [.data], laidTests := true, laidLooks := .later }
def IntentApartCardSaid : Prop := Claim7.holds Tryd.pinned (.plain (OpenSpec.ofChange intentApartSpec)) intentApartCard

/-- THE SECOND FORM's CARD OF 'switchbacklaw09.IntentPuts'. -/
def intentPutsUptoCard : Claim7 := { stood := { row := intentPutsUptoRow, standIns := [], harness := (true, "365df40b4b06091b173e89a3fcd023001c63cb50760d75e96657b72a7a900189"), looks := false }, kinds := [], alts := [], laidByText := true, laidKinds := [.data], laidTests := true, laidLooks := .later }
def IntentPutsUptoCardSaid : Prop := Claim7.holds Tryd.pinned (.plain (OpenSpec.upto intentPutsSpec)) intentPutsUptoCard

/-- THE SECOND FORM's CARD OF 'switchbacklaw09.IntentGets'. -/
def intentGetsUptoCard : Claim7 := { stood := { row := intentGetsUptoRow, standIns := [], harness := (true, "365df40b4b06091b173e89a3fcd023001c63cb50760d75e96657b72a7a900189"), looks := false }, kinds := [], alts := [], laidByText := true, laidKinds := [.data], laidTests := true, laidLooks := .later }
def IntentGetsUptoCardSaid : Prop := Claim7.holds Tryd.pinned (.plain (OpenSpec.upto intentGetsSpec)) intentGetsUptoCard

/-- THE SECOND FORM's CARD OF 'switchbacklaw09.IntentBack'. -/
def intentBackUptoCard : Claim7 := { stood := { row := intentBackUptoRow, standIns := [], harness := (true, "365df40b4b06091b173e89a3fcd023001c63cb50760d75e96657b72a7a900189"), looks := false }, kinds := [], alts := [], laidByText := true, laidKinds := [.data], laidTests := true, laidLooks := .later }
def IntentBackUptoCardSaid : Prop := Claim7.holds Tryd.pinned (.plain (OpenSpec.upto intentBackSpec)) intentBackUptoCard

/-- THE SECOND FORM's CARD OF 'switchbacklaw09.IntentOne'. -/
def intentOneUptoCard : Claim7 := { stood := { row := intentOneUptoRow, standIns := [], harness := (true, "365df40b4b06091b173e89a3fcd023001c63cb50760d75e96657b72a7a900189"), looks := false }, kinds := [], alts := [], laidByText := true, laidKinds := [.data], laidTests := true, laidLooks := .later }
def IntentOneUptoCardSaid : Prop := Claim7.holds Tryd.pinned (.plain (OpenSpec.upto intentOneSpec)) intentOneUptoCard

/-- THE SECOND FORM's CARD OF 'switchbacklaw09.IntentSizes'. -/
def intentSizesUptoCard : Claim7 := { stood := { row := intentSizesUptoRow, standIns := [], harness := (true, "365df40b4b06091b173e89a3fcd023001c63cb50760d75e96657b72a7a900189"), looks := false }, kinds := [], alts := [], laidByText := true, laidKinds := [.data], laidTests := true, laidLooks := .later }
def IntentSizesUptoCardSaid : Prop := Claim7.holds Tryd.pinned (.plain (OpenSpec.upto intentSizesSpec)) intentSizesUptoCard

/-- THE SECOND FORM's CARD OF 'switchbacklaw09.IntentApart'. -/
def intentApartUptoCard : Claim7 := { stood := { row := intentApartUptoRow, standIns := [], harness := (true, "365df40b4b06091b173e89a3fcd023001c63cb50760d75e96657b72a7a900189"), looks := false }, kinds := [], alts := [], laidByText := true, laidKinds := [.data], laidTests := true, laidLooks := .later }
def IntentApartUptoCardSaid : Prop := Claim7.holds Tryd.pinned (.plain (OpenSpec.upto intentApartSpec)) intentApartUptoCard
end Rows
end Go.Proofs.YthombepmlepgfaaDoor
