/-
  DERIVED. GIVEN WITH THE SEED: THE CARDS: each row of YtngclmjefadokaaDoorRows.lean that lists a variable, with what it lists TIED to the program's text (the seventh form; the later family's looks); each row that meets fmt, with fmt's text TOLD by the authors' own Lean function (tested against real Go, not proved from fmt's source: count such statements apart). THE CARD IS WHAT COUNTS. Prove the row's statement (the work); the ties are given (YtngclmjefadokaaDoorTie.lean); close each card by the builder's one call (the guide's Derived/Test/ToyasCard.lean, 'card_holds'). Laid BY PROGRAM, IN A SANDBOX (cutbox-door.mjs). By AI agents, Wed Nov 11 2026. No macro, syntax, notation, axiom, sorry.
-/
import Derived.Test.YtngclmjefadokaaDoorRows
import GoSem.ClaimSeven
namespace Go.Proofs.YtngclmjefadokaaDoor
namespace Rows

/-- THE TIED CARD OF 'lapstonelaw12.MetaPlays'. -/
def metaPlaysCard : Claim7 := { stood := { row := metaPlaysRow, standIns := [], harness := (true, "cf949ab0ca537e02f1240fb067dbda8a595e8401f24a9f63c908789b79c327a1"), looks := true }, kinds := [], alts := [], laidByText := true, laidKinds := [.data], laidTests := true, laidLooks := .later }
def MetaPlaysCardSaid : Prop := Claim7.holds Tryd.pinned (.plain (OpenSpec.ofChange metaPlaysSpec)) metaPlaysCard

/-- THE TIED CARD OF 'lapstonelaw12.MetaKeeps'. -/
def metaKeepsCard : Claim7 := { stood := { row := metaKeepsRow, standIns := [], harness := (true, "cf949ab0ca537e02f1240fb067dbda8a595e8401f24a9f63c908789b79c327a1"), looks := true }, kinds := [], alts := [], laidByText := true, laidKinds := [.data], laidTests := true, laidLooks := .later }
def MetaKeepsCardSaid : Prop := Claim7.holds Tryd.pinned (.plain (OpenSpec.ofChange metaKeepsSpec)) metaKeepsCard

/-- THE TIED CARD OF 'lapstonelaw12.MetaWrites'. -/
def metaWritesCard : Claim7 := { stood := { row := metaWritesRow, standIns := [], harness := (true, "cf949ab0ca537e02f1240fb067dbda8a595e8401f24a9f63c908789b79c327a1"), looks := true }, kinds := [], alts := [], laidByText := true, laidKinds := [.data], laidTests := true, laidLooks := .later }
def MetaWritesCardSaid : Prop := Claim7.holds Tryd.pinned (.plain (OpenSpec.ofChange metaWritesSpec)) metaWritesCard

/-- THE SECOND FORM's CARD OF 'lapstonelaw12.MetaPlays'. -/
def metaPlaysUptoCard : Claim7 := { stood := { row := metaPlaysUptoRow, standIns := [], harness := (true, "cf949ab0ca537e02f1240fb067dbda8a595e8401f24a9f63c908789b79c327a1"), looks := true }, kinds := [], alts := [], laidByText := true, laidKinds := [.data], laidTests := true, laidLooks := .later }
def MetaPlaysUptoCardSaid : Prop := Claim7.holds Tryd.pinned (.plain (OpenSpec.upto metaPlaysSpec)) metaPlaysUptoCard

/-- THE SECOND FORM's CARD OF 'lapstonelaw12.MetaKeeps'. -/
def metaKeepsUptoCard : Claim7 := { stood := { row := metaKeepsUptoRow, standIns := [], harness := (true, "cf949ab0ca537e02f1240fb067dbda8a595e8401f24a9f63c908789b79c327a1"), looks := true }, kinds := [], alts := [], laidByText := true, laidKinds := [.data], laidTests := true, laidLooks := .later }
def MetaKeepsUptoCardSaid : Prop := Claim7.holds Tryd.pinned (.plain (OpenSpec.upto metaKeepsSpec)) metaKeepsUptoCard

/-- THE SECOND FORM's CARD OF 'lapstonelaw12.MetaWrites'. -/
def metaWritesUptoCard : Claim7 := { stood := { row := metaWritesUptoRow, standIns := [], harness := (true, "cf949ab0ca537e02f1240fb067dbda8a595e8401f24a9f63c908789b79c327a1"), looks := true }, kinds := [], alts := [], laidByText := true, laidKinds := [.data], laidTests := true, laidLooks := .later }
def MetaWritesUptoCardSaid : Prop := Claim7.holds Tryd.pinned (.plain (OpenSpec.upto metaWritesSpec)) metaWritesUptoCard
end Rows
end Go.Proofs.YtngclmjefadokaaDoor
