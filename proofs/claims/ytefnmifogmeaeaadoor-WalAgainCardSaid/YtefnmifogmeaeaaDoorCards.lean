/-
  DERIVED. GIVEN WITH THE SEED: THE CARDS: each row of YtefnmifogmeaeaaDoorRows.lean that lists a variable, with what it lists TIED to the program's text (the seventh form; the later family's looks); each row that meets fmt, with fmt's text TOLD by the authors' own Lean function (tested against real Go, not proved from fmt's source: count such statements apart). THE CARD IS WHAT COUNTS. Prove the row's statement (the work); the ties are given (YtefnmifogmeaeaaDoorTie.lean); close each card by the builder's one call (the guide's Derived/Test/ToyasCard.lean, 'card_holds'). Laid BY PROGRAM, IN A SANDBOX (cutbox-door.mjs). By AI agents, Wed Nov 11 2026. No macro, syntax, notation, axiom, sorry.
-/
import Derived.Test.YtefnmifogmeaeaaDoorRows
import GoSem.ClaimSeven
namespace Go.Proofs.YtefnmifogmeaeaaDoor
namespace Rows

/-- THE TIED CARD OF 'lapstonelaw08.WalAgain'. -/
def walAgainCard : Claim7 := { stood := { row := walAgainRow, standIns := [], harness := (true, "c97155909270d2556ab2ec12c0f423d449f4f902fad9c8964b654a953ab91ca2"), looks := true }, kinds := [], alts := [], laidByText := true, laidKinds := [.data], laidTests := true, laidLooks := .later }
def WalAgainCardSaid : Prop := Claim7.holds Tryd.pinned (.plain (OpenSpec.ofChange walAgainSpec)) walAgainCard

/-- THE TIED CARD OF 'lapstonelaw08.WalPlaces'. -/
def walPlacesCard : Claim7 := { stood := { row := walPlacesRow, standIns := [], harness := (true, "c97155909270d2556ab2ec12c0f423d449f4f902fad9c8964b654a953ab91ca2"), looks := true }, kinds := [], alts := [], laidByText := true, laidKinds := [.data], laidTests := true, laidLooks := .later }
def WalPlacesCardSaid : Prop := Claim7.holds Tryd.pinned (.plain (OpenSpec.ofChange walPlacesSpec)) walPlacesCard

/-- THE SECOND FORM's CARD OF 'lapstonelaw08.WalAgain'. -/
def walAgainUptoCard : Claim7 := { stood := { row := walAgainUptoRow, standIns := [], harness := (true, "c97155909270d2556ab2ec12c0f423d449f4f902fad9c8964b654a953ab91ca2"), looks := true }, kinds := [], alts := [], laidByText := true, laidKinds := [.data], laidTests := true, laidLooks := .later }
def WalAgainUptoCardSaid : Prop := Claim7.holds Tryd.pinned (.plain (OpenSpec.upto walAgainSpec)) walAgainUptoCard

/-- THE SECOND FORM's CARD OF 'lapstonelaw08.WalPlaces'. -/
def walPlacesUptoCard : Claim7 := { stood := { row := walPlacesUptoRow, standIns := [], harness := (true, "c97155909270d2556ab2ec12c0f423d449f4f902fad9c8964b654a953ab91ca2"), looks := true }, kinds := [], alts := [], laidByText := true, laidKinds := [.data], laidTests := true, laidLooks := .later }
def WalPlacesUptoCardSaid : Prop := Claim7.holds Tryd.pinned (.plain (OpenSpec.upto walPlacesSpec)) walPlacesUptoCard
end Rows
end Go.Proofs.YtefnmifogmeaeaaDoor
