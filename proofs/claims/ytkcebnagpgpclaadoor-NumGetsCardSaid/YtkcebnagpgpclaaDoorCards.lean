/-
  DERIVED. GIVEN WITH THE SEED: THE CARDS: each row of YtkcebnagpgpclaaDoorRows.lean that lists a variable, with what it lists TIED to the program's text (the seventh form; the later family's looks); each row that meets fmt, with fmt's text TOLD by the authors' own Lean function (tested against real Go, not proved from fmt's source: count such statements apart). THE CARD IS WHAT COUNTS. Prove the row's statement (the work); the ties are given (YtkcebnagpgpclaaDoorTie.lean); close each card by the builder's one call (the guide's Derived/Test/ToyasCard.lean, 'card_holds'). Laid BY PROGRAM, IN A SANDBOX (cutbox-door.mjs). By AI agents, Wed Nov 11 2026. No macro, syntax, notation, axiom, sorry.
-/
import Derived.Test.YtkcebnagpgpclaaDoorRows
import GoSem.ClaimSeven
namespace Go.Proofs.YtkcebnagpgpclaaDoor
namespace Rows

/-- THE TIED CARD OF 'lapstonelaw01.NumPuts'. -/
def numPutsCard : Claim7 := { stood := { row := numPutsRow, standIns := [], harness := (true, "aeb1eafacf88f5a54b65c01d6063a54e78acb1ec66b624a56031849f1c971051"), looks := false }, kinds := [], alts := [], laidByText := true, laidKinds := [.data], laidTests := true, laidLooks := .later }
def NumPutsCardSaid : Prop := Claim7.holds Tryd.pinned (.plain (OpenSpec.ofChange numPutsSpec)) numPutsCard

/-- THE TIED CARD OF 'lapstonelaw01.NumGets'. -/
def numGetsCard : Claim7 := { stood := { row := numGetsRow, standIns := [], harness := (true, "aeb1eafacf88f5a54b65c01d6063a54e78acb1ec66b624a56031849f1c971051"), looks := false }, kinds := [], alts := [], laidByText := true, laidKinds := [.data], laidTests := true, laidLooks := .later }
def NumGetsCardSaid : Prop := Claim7.holds Tryd.pinned (.plain (OpenSpec.ofChange numGetsSpec)) numGetsCard

/-- THE TIED CARD OF 'lapstonelaw01.NumVars'. -/
def numVarsCard : Claim7 := { stood := { row := numVarsRow, standIns := [], harness := (true, "aeb1eafacf88f5a54b65c01d6063a54e78acb1ec66b624a56031849f1c971051"), looks := false }, kinds := [], alts := [], laidByText := true, laidKinds := [.data], laidTests := true, laidLooks := .later }
def NumVarsCardSaid : Prop := Claim7.holds Tryd.pinned (.plain (OpenSpec.ofChange numVarsSpec)) numVarsCard

/-- THE TIED CARD OF 'lapstonelaw01.NumReads'. -/
def numReadsCard : Claim7 := { stood := { row := numReadsRow, standIns := [], harness := (true, "aeb1eafacf88f5a54b65c01d6063a54e78acb1ec66b624a56031849f1c971051"), looks := false }, kinds := [], alts := [], laidByText := true, laidKinds := [.data], laidTests := true, laidLooks := .later }
def NumReadsCardSaid : Prop := Claim7.holds Tryd.pinned (.plain (OpenSpec.ofChange numReadsSpec)) numReadsCard

/-- THE TIED CARD OF 'lapstonelaw01.NumBack'. -/
def numBackCard : Claim7 := { stood := { row := numBackRow, standIns := [], harness := (true, "aeb1eafacf88f5a54b65c01d6063a54e78acb1ec66b624a56031849f1c971051"), looks := false }, kinds := [], alts := [], laidByText := true, laidKinds := [.data], laidTests := true, laidLooks := .later }
def NumBackCardSaid : Prop := Claim7.holds Tryd.pinned (.plain (OpenSpec.ofChange numBackSpec)) numBackCard

/-- THE TIED CARD OF 'lapstonelaw01.NumOnly'. -/
def numOnlyCard : Claim7 := { stood := { row := numOnlyRow, standIns := [], harness := (true, "aeb1eafacf88f5a54b65c01d6063a54e78acb1ec66b624a56031849f1c971051"), looks := false }, kinds := [], alts := [], laidByText := true, laidKinds := [.data], laidTests := true, laidLooks := .later }
def NumOnlyCardSaid : Prop := Claim7.holds Tryd.pinned (.plain (OpenSpec.ofChange numOnlySpec)) numOnlyCard

/-- THE TIED CARD OF 'lapstonelaw01.NumOrder'. -/
def numOrderCard : Claim7 := { stood := { row := numOrderRow, standIns := [], harness := (true, "aeb1eafacf88f5a54b65c01d6063a54e78acb1ec66b624a56031849f1c971051"), looks := false }, kinds := [], alts := [], laidByText := true, laidKinds := [.data], laidTests := true, laidLooks := .later }
def NumOrderCardSaid : Prop := Claim7.holds Tryd.pinned (.plain (OpenSpec.ofChange numOrderSpec)) numOrderCard

/-- THE TIED CARD OF 'lapstonelaw01.NumCmps'. -/
def numCmpsCard : Claim7 := { stood := { row := numCmpsRow, standIns := [], harness := (true, "aeb1eafacf88f5a54b65c01d6063a54e78acb1ec66b624a56031849f1c971051"), looks := false }, kinds := [], alts := [], laidByText := true, laidKinds := [.data], laidTests := true, laidLooks := .later }
def NumCmpsCardSaid : Prop := Claim7.holds Tryd.pinned (.plain (OpenSpec.ofChange numCmpsSpec)) numCmpsCard

/-- THE SECOND FORM's CARD OF 'lapstonelaw01.NumPuts'. -/
def numPutsUptoCard : Claim7 := { stood := { row := numPutsUptoRow, standIns := [], harness := (true, "aeb1eafacf88f5a54b65c01d6063a54e78acb1ec66b624a56031849f1c971051"), looks := false }, kinds := [], alts := [], laidByText := true, laidKinds := [.data], laidTests := true, laidLooks := .later }
def NumPutsUptoCardSaid : Prop := Claim7.holds Tryd.pinned (.plain (OpenSpec.upto numPutsSpec)) numPutsUptoCard

/-- THE SECOND FORM's CARD OF 'lapstonelaw01.NumGets'. -/
def numGetsUptoCard : Claim7 := { stood := { row := numGetsUptoRow, standIns := [], harness := (true, "aeb1eafacf88f5a54b65c01d6063a54e78acb1ec66b624a56031849f1c971051"), looks := false }, kinds := [], alts := [], laidByText := true, laidKinds := [.data], laidTests := true, laidLooks := .later }
def NumGetsUptoCardSaid : Prop := Claim7.holds Tryd.pinned (.plain (OpenSpec.upto numGetsSpec)) numGetsUptoCard

/-- THE SECOND FORM's CARD OF 'lapstonelaw01.NumVars'. -/
def numVarsUptoCard : Claim7 := { stood := { row := numVarsUptoRow, standIns := [], harness := (true, "aeb1eafacf88f5a54b65c01d6063a54e78acb1ec66b624a56031849f1c971051"), looks := false }, kinds := [], alts := [], laidByText := true, laidKinds := [.data], laidTests := true, laidLooks := .later }
def NumVarsUptoCardSaid : Prop := Claim7.holds Tryd.pinned (.plain (OpenSpec.upto numVarsSpec)) numVarsUptoCard

/-- THE SECOND FORM's CARD OF 'lapstonelaw01.NumReads'. -/
def numReadsUptoCard : Claim7 := { stood := { row := numReadsUptoRow, standIns := [], harness := (true, "aeb1eafacf88f5a54b65c01d6063a54e78acb1ec66b624a56031849f1c971051"), looks := false }, kinds := [], alts := [], laidByText := true, laidKinds := [.data], laidTests := true, laidLooks := .later }
def NumReadsUptoCardSaid : Prop := Claim7.holds Tryd.pinned (.plain (OpenSpec.upto numReadsSpec)) numReadsUptoCard

/-- THE SECOND FORM's CARD OF 'lapstonelaw01.NumBack'. -/
def numBackUptoCard : Claim7 := { stood := { row := numBackUptoRow, standIns := [], harness := (true, "aeb1eafacf88f5a54b65c01d6063a54e78acb1ec66b624a56031849f1c971051"), looks := false }, kinds := [], alts := [], laidByText := true, laidKinds := [.data], laidTests := true, laidLooks := .later }
def NumBackUptoCardSaid : Prop := Claim7.holds Tryd.pinned (.plain (OpenSpec.upto numBackSpec)) numBackUptoCard

/-- THE SECOND FORM's CARD OF 'lapstonelaw01.NumOnly'. -/
def numOnlyUptoCard : Claim7 := { stood := { row := numOnlyUptoRow, standIns := [], harness := (true, "aeb1eafacf88f5a54b65c01d6063a54e78acb1ec66b624a56031849f1c971051"), looks := false }, kinds := [], alts := [], laidByText := true, laidKinds := [.data], laidTests := true, laidLooks := .later }
def NumOnlyUptoCardSaid : Prop := Claim7.holds Tryd.pinned (.plain (OpenSpec.upto numOnlySpec)) numOnlyUptoCard

/-- THE SECOND FORM's CARD OF 'lapstonelaw01.NumOrder'. -/
def numOrderUptoCard : Claim7 := { stood := { row := numOrderUptoRow, standIns := [], harness := (true, "aeb1eafacf88f5a54b65c01d6063a54e78acb1ec66b624a56031849f1c971051"), looks := false }, kinds := [], alts := [], laidByText := true, laidKinds := [.data], laidTests := true, laidLooks := .later }
def NumOrderUptoCardSaid : Prop := Claim7.holds Tryd.pinned (.plain (OpenSpec.upto numOrderSpec)) numOrderUptoCard

/-- THE SECOND FORM's CARD OF 'lapstonelaw01.NumCmps'. -/
def numCmpsUptoCard : Claim7 := { stood := { row := numCmpsUptoRow, standIns := [], harness := (true, "aeb1eafacf88f5a54b65c01d6063a54e78acb1ec66b624a56031849f1c971051"), looks := false }, kinds := [], alts := [], laidByText := true, laidKinds := [.data], laidTests := true, laidLooks := .later }
def NumCmpsUptoCardSaid : Prop := Claim7.holds Tryd.pinned (.plain (OpenSpec.upto numCmpsSpec)) numCmpsUptoCard
end Rows
end Go.Proofs.YtkcebnagpgpclaaDoor
