/-
  DERIVED. GIVEN WITH THE SEED: THE CARDS: each row of YticdlmdkjdfmbaaDoorRows.lean that lists a variable, with what it lists TIED to the program's text (the seventh form; the later family's looks); each row that meets fmt, with fmt's text TOLD by the authors' own Lean function (tested against real Go, not proved from fmt's source: count such statements apart). THE CARD IS WHAT COUNTS. Prove the row's statement (the work); the ties are given (YticdlmdkjdfmbaaDoorTie.lean); close each card by the builder's one call (the guide's Derived/Test/ToyasCard.lean, 'card_holds'). Laid BY PROGRAM, IN A SANDBOX (cutbox-door.mjs). By AI agents, Wed Nov 11 2026. No macro, syntax, notation, axiom, sorry.
-/
import Derived.Test.YticdlmdkjdfmbaaDoorRows
import GoSem.ClaimSeven
namespace Go.Proofs.YticdlmdkjdfmbaaDoor
namespace Rows

/-- THE TIED CARD OF 'lapstonelaw04.KeysPuts'. -/
def keysPutsCard : Claim7 := { stood := { row := keysPutsRow, standIns := [], harness := (true, "483e66597a5f6293c4f2677b8bb8d4ec5d5bceede03335657de2a91e07a14d9d"), looks := false }, kinds := [], alts := [], laidByText := true, laidKinds := [.data], laidTests := true, laidLooks := .later }
def KeysPutsCardSaid : Prop := Claim7.holds Tryd.pinned (.plain (OpenSpec.ofChange keysPutsSpec)) keysPutsCard

/-- THE TIED CARD OF 'lapstonelaw04.KeysGets'. -/
def keysGetsCard : Claim7 := { stood := { row := keysGetsRow, standIns := [], harness := (true, "483e66597a5f6293c4f2677b8bb8d4ec5d5bceede03335657de2a91e07a14d9d"), looks := false }, kinds := [], alts := [], laidByText := true, laidKinds := [.data], laidTests := true, laidLooks := .later }
def KeysGetsCardSaid : Prop := Claim7.holds Tryd.pinned (.plain (OpenSpec.ofChange keysGetsSpec)) keysGetsCard

/-- THE TIED CARD OF 'lapstonelaw04.KeysBack'. -/
def keysBackCard : Claim7 := { stood := { row := keysBackRow, standIns := [], harness := (true, "483e66597a5f6293c4f2677b8bb8d4ec5d5bceede03335657de2a91e07a14d9d"), looks := false }, kinds := [], alts := [], laidByText := true, laidKinds := [.data], laidTests := true, laidLooks := .later }
def KeysBackCardSaid : Prop := Claim7.holds Tryd.pinned (.plain (OpenSpec.ofChange keysBackSpec)) keysBackCard

/-- THE TIED CARD OF 'lapstonelaw04.KeysOrder'. -/
def keysOrderCard : Claim7 := { stood := { row := keysOrderRow, standIns := [], harness := (true, "483e66597a5f6293c4f2677b8bb8d4ec5d5bceede03335657de2a91e07a14d9d"), looks := false }, kinds := [], alts := [], laidByText := true, laidKinds := [.data], laidTests := true, laidLooks := .later }
def KeysOrderCardSaid : Prop := Claim7.holds Tryd.pinned (.plain (OpenSpec.ofChange keysOrderSpec)) keysOrderCard

/-- THE TIED CARD OF 'lapstonelaw04.KeysFirst'. -/
def keysFirstCard : Claim7 := { stood := { row := keysFirstRow, standIns := [], harness := (true, "483e66597a5f6293c4f2677b8bb8d4ec5d5bceede03335657de2a91e07a14d9d"), looks := false }, kinds := [], alts := [], laidByText := true, laidKinds := [.data], laidTests := true, laidLooks := .later }
def KeysFirstCardSaid : Prop := Claim7.holds Tryd.pinned (.plain (OpenSpec.ofChange keysFirstSpec)) keysFirstCard

/-- THE TIED CARD OF 'lapstonelaw04.KeysPrefix'. -/
def keysPrefixCard : Claim7 := { stood := { row := keysPrefixRow, standIns := [], harness := (true, "483e66597a5f6293c4f2677b8bb8d4ec5d5bceede03335657de2a91e07a14d9d"), looks := false }, kinds := [], alts := [], laidByText := true, laidKinds := [.data], laidTests := true, laidLooks := .later }
def KeysPrefixCardSaid : Prop := Claim7.holds Tryd.pinned (.plain (OpenSpec.ofChange keysPrefixSpec)) keysPrefixCard

/-- THE TIED CARD OF 'lapstonelaw04.KeysNext'. -/
def keysNextCard : Claim7 := { stood := { row := keysNextRow, standIns := [], harness := (true, "483e66597a5f6293c4f2677b8bb8d4ec5d5bceede03335657de2a91e07a14d9d"), looks := false }, kinds := [], alts := [], laidByText := true, laidKinds := [.data], laidTests := true, laidLooks := .later }
def KeysNextCardSaid : Prop := Claim7.holds Tryd.pinned (.plain (OpenSpec.ofChange keysNextSpec)) keysNextCard

/-- THE TIED CARD OF 'lapstonelaw04.KeysIn'. -/
def keysInCard : Claim7 := { stood := { row := keysInRow, standIns := [], harness := (true, "483e66597a5f6293c4f2677b8bb8d4ec5d5bceede03335657de2a91e07a14d9d"), looks := false }, kinds := [], alts := [], laidByText := true, laidKinds := [.data], laidTests := true, laidLooks := .later }
def KeysInCardSaid : Prop := Claim7.holds Tryd.pinned (.plain (OpenSpec.ofChange keysInSpec)) keysInCard

/-- THE SECOND FORM's CARD OF 'lapstonelaw04.KeysPuts'. -/
def keysPutsUptoCard : Claim7 := { stood := { row := keysPutsUptoRow, standIns := [], harness := (true, "483e66597a5f6293c4f2677b8bb8d4ec5d5bceede03335657de2a91e07a14d9d"), looks := false }, kinds := [], alts := [], laidByText := true, laidKinds := [.data], laidTests := true, laidLooks := .later }
def KeysPutsUptoCardSaid : Prop := Claim7.holds Tryd.pinned (.plain (OpenSpec.upto keysPutsSpec)) keysPutsUptoCard

/-- THE SECOND FORM's CARD OF 'lapstonelaw04.KeysGets'. -/
def keysGetsUptoCard : Claim7 := { stood := { row := keysGetsUptoRow, standIns := [], harness := (true, "483e66597a5f6293c4f2677b8bb8d4ec5d5bceede03335657de2a91e07a14d9d"), looks := false }, kinds := [], alts := [], laidByText := true, laidKinds := [.data], laidTests := true, laidLooks := .later }
def KeysGetsUptoCardSaid : Prop := Claim7.holds Tryd.pinned (.plain (OpenSpec.upto keysGetsSpec)) keysGetsUptoCard

/-- THE SECOND FORM's CARD OF 'lapstonelaw04.KeysBack'. -/
def keysBackUptoCard : Claim7 := { stood := { row := keysBackUptoRow, standIns := [], harness := (true, "483e66597a5f6293c4f2677b8bb8d4ec5d5bceede03335657de2a91e07a14d9d"), looks := false }, kinds := [], alts := [], laidByText := true, laidKinds := [.data], laidTests := true, laidLooks := .later }
def KeysBackUptoCardSaid : Prop := Claim7.holds Tryd.pinned (.plain (OpenSpec.upto keysBackSpec)) keysBackUptoCard

/-- THE SECOND FORM's CARD OF 'lapstonelaw04.KeysOrder'. -/
def keysOrderUptoCard : Claim7 := { stood := { row := keysOrderUptoRow, standIns := [], harness := (true, "483e66597a5f6293c4f2677b8bb8d4ec5d5bceede03335657de2a91e07a14d9d"), looks := false }, kinds := [], alts := [], laidByText := true, laidKinds := [.data], laidTests := true, laidLooks := .later }
def KeysOrderUptoCardSaid : Prop := Claim7.holds Tryd.pinned (.plain (OpenSpec.upto keysOrderSpec)) keysOrderUptoCard

/-- THE SECOND FORM's CARD OF 'lapstonelaw04.KeysFirst'. -/
def keysFirstUptoCard : Claim7 := { stood := { row := keysFirstUptoRow, standIns := [], harness := (true, "483e66597a5f6293c4f2677b8bb8d4ec5d5bceede03335657de2a91e07a14d9d"), looks := false }, kinds := [], alts := [], laidByText := true, laidKinds := [.data], laidTests := true, laidLooks := .later }
def KeysFirstUptoCardSaid : Prop := Claim7.holds Tryd.pinned (.plain (OpenSpec.upto keysFirstSpec)) keysFirstUptoCard

/-- THE SECOND FORM's CARD OF 'lapstonelaw04.KeysPrefix'. -/
def keysPrefixUptoCard : Claim7 := { stood := { row := keysPrefixUptoRow, standIns := [], harness := (true, "483e66597a5f6293c4f2677b8bb8d4ec5d5bceede03335657de2a91e07a14d9d"), looks := false }, kinds := [], alts := [], laidByText := true, laidKinds := [.data], laidTests := true, laidLooks := .later }
def KeysPrefixUptoCardSaid : Prop := Claim7.holds Tryd.pinned (.plain (OpenSpec.upto keysPrefixSpec)) keysPrefixUptoCard

/-- THE SECOND FORM's CARD OF 'lapstonelaw04.KeysNext'. -/
def keysNextUptoCard : Claim7 := { stood := { row := keysNextUptoRow, standIns := [], harness := (true, "483e66597a5f6293c4f2677b8bb8d4ec5d5bceede03335657de2a91e07a14d9d"), looks := false }, kinds := [], alts := [], laidByText := true, laidKinds := [.data], laidTests := true, laidLooks := .later }
def KeysNextUptoCardSaid : Prop := Claim7.holds Tryd.pinned (.plain (OpenSpec.upto keysNextSpec)) keysNextUptoCard

/-- THE SECOND FORM's CARD OF 'lapstonelaw04.KeysIn'. -/
def keysInUptoCard : Claim7 := { stood := { row := keysInUptoRow, standIns := [], harness := (true, "483e66597a5f6293c4f2677b8bb8d4ec5d5bceede03335657de2a91e07a14d9d"), looks := false }, kinds := [], alts := [], laidByText := true, laidKinds := [.data], laidTests := true, laidLooks := .later }
def KeysInUptoCardSaid : Prop := Claim7.holds Tryd.pinned (.plain (OpenSpec.upto keysInSpec)) keysInUptoCard
end Rows
end Go.Proofs.YticdlmdkjdfmbaaDoor
