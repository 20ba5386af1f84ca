/-
  DERIVED. GIVEN WITH THE SEED: THE CARDS: each row of YtignjgjoejimcaaDoorRows.lean that lists a variable, with what it lists TIED to the program's text (the seventh form; the later family's looks); each row that meets fmt, with fmt's text TOLD by the authors' own Lean function (tested against real Go, not proved from fmt's source: count such statements apart). THE CARD IS WHAT COUNTS. Prove the row's statement (the work); the ties are given (YtignjgjoejimcaaDoorTie.lean); close each card by the builder's one call (the guide's Derived/Test/ToyasCard.lean, 'card_holds'). Laid BY PROGRAM, IN A SANDBOX (cutbox-door.mjs). By AI agents, Wed Nov 11 2026. No macro, syntax, notation, axiom, sorry.
-/
import Derived.Test.YtignjgjoejimcaaDoorRows
import GoSem.ClaimSeven
namespace Go.Proofs.YtignjgjoejimcaaDoor
namespace Rows

/-- THE TIED CARD OF 'lapstonelaw02.SumOf'. -/
def sumOfCard : Claim7 := { stood := { row := sumOfRow, standIns := [], harness := (true, "4655863ad95d1d5977dc2ebdd6849905184b37ed8dc8934bd4f89dd8f1630ed6"), looks := false }, kinds := [], alts := [], laidByText := true, laidKinds := [.data], laidTests := true, laidLooks := .later }
def SumOfCardSaid : Prop := Claim7.holds Tryd.pinned (.plain (OpenSpec.ofChange sumOfSpec)) sumOfCard

/-- THE TIED CARD OF 'lapstonelaw02.SumMore'. -/
def sumMoreCard : Claim7 := { stood := { row := sumMoreRow, standIns := [], harness := (true, "4655863ad95d1d5977dc2ebdd6849905184b37ed8dc8934bd4f89dd8f1630ed6"), looks := false }, kinds := [], alts := [], laidByText := true, laidKinds := [.data], laidTests := true, laidLooks := .later }
def SumMoreCardSaid : Prop := Claim7.holds Tryd.pinned (.plain (OpenSpec.ofChange sumMoreSpec)) sumMoreCard

/-- THE TIED CARD OF 'lapstonelaw02.SumSteps'. -/
def sumStepsCard : Claim7 := { stood := { row := sumStepsRow, standIns := [], harness := (true, "4655863ad95d1d5977dc2ebdd6849905184b37ed8dc8934bd4f89dd8f1630ed6"), looks := false }, kinds := [], alts := [], laidByText := true, laidKinds := [.data], laidTests := true, laidLooks := .later }
def SumStepsCardSaid : Prop := Claim7.holds Tryd.pinned (.plain (OpenSpec.ofChange sumStepsSpec)) sumStepsCard

/-- THE TIED CARD OF 'lapstonelaw02.SumOpens'. -/
def sumOpensCard : Claim7 := { stood := { row := sumOpensRow, standIns := [], harness := (true, "4655863ad95d1d5977dc2ebdd6849905184b37ed8dc8934bd4f89dd8f1630ed6"), looks := false }, kinds := [], alts := [], laidByText := true, laidKinds := [.data], laidTests := true, laidLooks := .later }
def SumOpensCardSaid : Prop := Claim7.holds Tryd.pinned (.plain (OpenSpec.ofChange sumOpensSpec)) sumOpensCard

/-- THE TIED CARD OF 'lapstonelaw02.SumSeals'. -/
def sumSealsCard : Claim7 := { stood := { row := sumSealsRow, standIns := [], harness := (true, "4655863ad95d1d5977dc2ebdd6849905184b37ed8dc8934bd4f89dd8f1630ed6"), looks := false }, kinds := [], alts := [], laidByText := true, laidKinds := [.data], laidTests := true, laidLooks := .later }
def SumSealsCardSaid : Prop := Claim7.holds Tryd.pinned (.plain (OpenSpec.ofChange sumSealsSpec)) sumSealsCard

/-- THE TIED CARD OF 'lapstonelaw02.SumBursts'. -/
def sumBurstsCard : Claim7 := { stood := { row := sumBurstsRow, standIns := [], harness := (true, "4655863ad95d1d5977dc2ebdd6849905184b37ed8dc8934bd4f89dd8f1630ed6"), looks := false }, kinds := [], alts := [], laidByText := true, laidKinds := [.data], laidTests := true, laidLooks := .later }
def SumBurstsCardSaid : Prop := Claim7.holds Tryd.pinned (.plain (OpenSpec.ofChange sumBurstsSpec)) sumBurstsCard

/-- THE SECOND FORM's CARD OF 'lapstonelaw02.SumOf'. -/
def sumOfUptoCard : Claim7 := { stood := { row := sumOfUptoRow, standIns := [], harness := (true, "4655863ad95d1d5977dc2ebdd6849905184b37ed8dc8934bd4f89dd8f1630ed6"), looks := false }, kinds := [], alts := [], laidByText := true, laidKinds := [.data], laidTests := true, laidLooks := .later }
def SumOfUptoCardSaid : Prop := Claim7.holds Tryd.pinned (.plain (OpenSpec.upto sumOfSpec)) sumOfUptoCard

/-- THE SECOND FORM's CARD OF 'lapstonelaw02.SumMore'. -/
def sumMoreUptoCard : Claim7 := { stood := { row := sumMoreUptoRow, standIns := [], harness := (true, "4655863ad95d1d5977dc2ebdd6849905184b37ed8dc8934bd4f89dd8f1630ed6"), looks := false }, kinds := [], alts := [], laidByText := true, laidKinds := [.data], laidTests := true, laidLooks := .later }
def SumMoreUptoCardSaid : Prop := Claim7.holds Tryd.pinned (.plain (OpenSpec.upto sumMoreSpec)) sumMoreUptoCard

/-- THE SECOND FORM's CARD OF 'lapstonelaw02.SumSteps'. -/
def sumStepsUptoCard : Claim7 := { stood := { row := sumStepsUptoRow, standIns := [], harness := (true, "4655863ad95d1d5977dc2ebdd6849905184b37ed8dc8934bd4f89dd8f1630ed6"), looks := false }, kinds := [], alts := [], laidByText := true, laidKinds := [.data], laidTests := true, laidLooks := .later }
def SumStepsUptoCardSaid : Prop := Claim7.holds Tryd.pinned (.plain (OpenSpec.upto sumStepsSpec)) sumStepsUptoCard

/-- THE SECOND FORM's CARD OF 'lapstonelaw02.SumOpens'. -/
def sumOpensUptoCard : Claim7 := { stood := { row := sumOpensUptoRow, standIns := [], harness := (true, "4655863ad95d1d5977dc2ebdd6849905184b37ed8dc8934bd4f89dd8f1630ed6"), looks := false }, kinds := [], alts := [], laidByText := true, laidKinds := [.data], laidTests := true, laidLooks := .later }
def SumOpensUptoCardSaid : Prop := Claim7.holds Tryd.pinned (.plain (OpenSpec.upto sumOpensSpec)) sumOpensUptoCard

/-- THE SECOND FORM's CARD OF 'lapstonelaw02.SumSeals'. -/
def sumSealsUptoCard : Claim7 := { stood := { row := sumSealsUptoRow, standIns := [], harness := (true, "4655863ad95d1d5977dc2ebdd6849905184b37ed8dc8934bd4f89dd8f1630ed6"), looks := false }, kinds := [], alts := [], laidByText := true, laidKinds := [.data], laidTests := true, laidLooks := .later }
def SumSealsUptoCardSaid : Prop := Claim7.holds Tryd.pinned (.plain (OpenSpec.upto sumSealsSpec)) sumSealsUptoCard

/-- THE SECOND FORM's CARD OF 'lapstonelaw02.SumBursts'. -/
def sumBurstsUptoCard : Claim7 := { stood := { row := sumBurstsUptoRow, standIns := [], harness := (true, "4655863ad95d1d5977dc2ebdd6849905184b37ed8dc8934bd4f89dd8f1630ed6"), looks := false }, kinds := [], alts := [], laidByText := true, laidKinds := [.data], laidTests := true, laidLooks := .later }
def SumBurstsUptoCardSaid : Prop := Claim7.holds Tryd.pinned (.plain (OpenSpec.upto sumBurstsSpec)) sumBurstsUptoCard
end Rows
end Go.Proofs.YtignjgjoejimcaaDoor
