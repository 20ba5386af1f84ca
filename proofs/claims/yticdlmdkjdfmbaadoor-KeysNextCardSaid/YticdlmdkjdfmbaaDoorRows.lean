/-
  NARROWER THAN 'FOR EVERY INPUT', by the rows' own cells (each row's printed sentence says how): KeysPuts: laid · KeysGets: laid · KeysBack: laid · KeysOrder: laid · KeysFirst: laid · KeysPrefix: laid · KeysNext: laid · KeysIn: laid.
  DERIVED. THE GIVEN ROWS OF THIS SEAT. 8 by the template 'for every input the law returns true; each argument reads behind the call as it read before'; 0 by the template 'total and deterministic' (their statements: YticdlmdkjdfmbaaDoorTotals.lean).
  GIVEN WITH THE SEED: the statements are not yours to turn. If you find one false, say at which input.
  Laid BY PROGRAM, IN A SANDBOX (cutbox-rows.mjs): the forced cells as the released guide's own fill.sh prints them over the translation b576406862060a17… (all of the seat's roots in one cut). By AI agents, Wed Nov 11 2026. No macro, syntax, notation, axiom, sorry.
-/
import Derived.Test.YticdlmdkjdfmbaaDoorChecked
import GoSem.Claim
import GoSem.ClaimJoined
import GoSem.ClaimMapViews
import Derived.JoinedTies
import Derived.KernelRfl
namespace Go.Proofs.YticdlmdkjdfmbaaDoor
/- THE CELL 'sum', in the pinned program and in every row, IS THE sha256 OF THE DUMP (.gsa) THAT YticdlmdkjdfmbaaDoorProg.lean LOADS. Nothing in Lean hashes anything: it is a label: what it is worth is what the hold of that sum in a sandbox is worth. -/
noncomputable def Tryd.pinned : Pinned := { name := "yticdlmdkjdfmbaadoor", sum := "b576406862060a17ff05924f6337444aa4653579eeb4f5ecf2524cc03917aef7", checked := Tryd.checked }
namespace Rows
def none {H : Type} : Left H := { results := [], args := [] }

/- WHAT THE LISTED PACKAGE-LEVEL VARIABLES READ AS WHEN THE CALL BEGINS. Each datum BY PROGRAM (the guide's laid-datum.mjs) off the statement by which the dump's own 'gosem.cut.vars' lays the variable. In a bare row this is a premise. The card (YticdlmdkjdfmbaaDoorCards.lean) ties it to the program's text. -/
def laid_lapstone_num_widthBits {H : Type} : DataW H := .agg [.lit (.int .u64 0), .lit (.int .u64 8), .lit (.int .u64 16), .lit (.int .u64 24), .lit (.int .u64 32), .lit (.int .u64 40), .lit (.int .u64 48), .lit (.int .u64 56), .lit (.int .u64 64)]

/-- 'lapstonelaw04.KeysPuts': WHATEVER THE INPUT: true; the input reads as it did. -/
def keysPutsSpec : ChangeSpec := { name := "keysPuts", fn := fun _ => fun
  | [d1, d2] => { results := [.lit (.bool true)], args := [d1, d2] }
  | _ => none }
def keysPutsRow : OpenClaim := { program := "yticdlmdkjdfmbaadoor", sum := "b576406862060a17ff05924f6337444aa4653579eeb4f5ecf2524cc03917aef7", func := "lapstone/lapstonelaw04.KeysPuts", spec := "keysPuts", unfollowed := true, recurses := true, named := ["lapstone/num.widthBits"], apart := false, laid := [("lapstone/num.widthBits", laid_lapstone_num_widthBits)] }
def KeysPutsSaid : Prop := keysPutsRow.holds Tryd.pinned (OpenSpec.ofChange keysPutsSpec)

/-- ITS FALSE NEIGHBOUR: 'it returns false'. Refute it at one input. -/
def keysPutsWrong : ChangeSpec := { name := "keysPuts", fn := fun _ => fun
  | [d1, d2] => { results := [.lit (.bool false)], args := [d1, d2] }
  | _ => none }
def KeysPutsWrongFalsely : Prop := keysPutsRow.holds Tryd.pinned (OpenSpec.ofChange keysPutsWrong)

/-- 'lapstonelaw04.KeysGets': WHATEVER THE INPUT: true; the input reads as it did. -/
def keysGetsSpec : ChangeSpec := { name := "keysGets", fn := fun _ => fun
  | [d] => { results := [.lit (.bool true)], args := [d] }
  | _ => none }
def keysGetsRow : OpenClaim := { program := "yticdlmdkjdfmbaadoor", sum := "b576406862060a17ff05924f6337444aa4653579eeb4f5ecf2524cc03917aef7", func := "lapstone/lapstonelaw04.KeysGets", spec := "keysGets", unfollowed := true, recurses := true, named := ["lapstone/num.widthBits"], apart := false, laid := [("lapstone/num.widthBits", laid_lapstone_num_widthBits)] }
def KeysGetsSaid : Prop := keysGetsRow.holds Tryd.pinned (OpenSpec.ofChange keysGetsSpec)

/-- ITS FALSE NEIGHBOUR: 'it returns false'. Refute it at one input. -/
def keysGetsWrong : ChangeSpec := { name := "keysGets", fn := fun _ => fun
  | [d] => { results := [.lit (.bool false)], args := [d] }
  | _ => none }
def KeysGetsWrongFalsely : Prop := keysGetsRow.holds Tryd.pinned (OpenSpec.ofChange keysGetsWrong)

/-- 'lapstonelaw04.KeysBack': WHATEVER THE INPUT: true; the input reads as it did. -/
def keysBackSpec : ChangeSpec := { name := "keysBack", fn := fun _ => fun
  | [d1, d2, d3] => { results := [.lit (.bool true)], args := [d1, d2, d3] }
  | _ => none }
def keysBackRow : OpenClaim := { program := "yticdlmdkjdfmbaadoor", sum := "b576406862060a17ff05924f6337444aa4653579eeb4f5ecf2524cc03917aef7", func := "lapstone/lapstonelaw04.KeysBack", spec := "keysBack", unfollowed := true, recurses := true, named := ["lapstone/num.widthBits"], apart := false, laid := [("lapstone/num.widthBits", laid_lapstone_num_widthBits)] }
def KeysBackSaid : Prop := keysBackRow.holds Tryd.pinned (OpenSpec.ofChange keysBackSpec)

/-- ITS FALSE NEIGHBOUR: 'it returns false'. Refute it at one input. -/
def keysBackWrong : ChangeSpec := { name := "keysBack", fn := fun _ => fun
  | [d1, d2, d3] => { results := [.lit (.bool false)], args := [d1, d2, d3] }
  | _ => none }
def KeysBackWrongFalsely : Prop := keysBackRow.holds Tryd.pinned (OpenSpec.ofChange keysBackWrong)

/-- 'lapstonelaw04.KeysOrder': WHATEVER THE INPUT: true; the input reads as it did. -/
def keysOrderSpec : ChangeSpec := { name := "keysOrder", fn := fun _ => fun
  | [d1, d2, d3] => { results := [.lit (.bool true)], args := [d1, d2, d3] }
  | _ => none }
def keysOrderRow : OpenClaim := { program := "yticdlmdkjdfmbaadoor", sum := "b576406862060a17ff05924f6337444aa4653579eeb4f5ecf2524cc03917aef7", func := "lapstone/lapstonelaw04.KeysOrder", spec := "keysOrder", unfollowed := true, recurses := true, named := ["lapstone/num.widthBits"], apart := false, laid := [("lapstone/num.widthBits", laid_lapstone_num_widthBits)] }
def KeysOrderSaid : Prop := keysOrderRow.holds Tryd.pinned (OpenSpec.ofChange keysOrderSpec)

/-- ITS FALSE NEIGHBOUR: 'it returns false'. Refute it at one input. -/
def keysOrderWrong : ChangeSpec := { name := "keysOrder", fn := fun _ => fun
  | [d1, d2, d3] => { results := [.lit (.bool false)], args := [d1, d2, d3] }
  | _ => none }
def KeysOrderWrongFalsely : Prop := keysOrderRow.holds Tryd.pinned (OpenSpec.ofChange keysOrderWrong)

/-- 'lapstonelaw04.KeysFirst': WHATEVER THE INPUT: true; the input reads as it did. -/
def keysFirstSpec : ChangeSpec := { name := "keysFirst", fn := fun _ => fun
  | [d1, d2, d3] => { results := [.lit (.bool true)], args := [d1, d2, d3] }
  | _ => none }
def keysFirstRow : OpenClaim := { program := "yticdlmdkjdfmbaadoor", sum := "b576406862060a17ff05924f6337444aa4653579eeb4f5ecf2524cc03917aef7", func := "lapstone/lapstonelaw04.KeysFirst", spec := "keysFirst", unfollowed := true, recurses := true, named := ["lapstone/num.widthBits"], apart := false, laid := [("lapstone/num.widthBits", laid_lapstone_num_widthBits)] }
def KeysFirstSaid : Prop := keysFirstRow.holds Tryd.pinned (OpenSpec.ofChange keysFirstSpec)

/-- ITS FALSE NEIGHBOUR: 'it returns false'. Refute it at one input. -/
def keysFirstWrong : ChangeSpec := { name := "keysFirst", fn := fun _ => fun
  | [d1, d2, d3] => { results := [.lit (.bool false)], args := [d1, d2, d3] }
  | _ => none }
def KeysFirstWrongFalsely : Prop := keysFirstRow.holds Tryd.pinned (OpenSpec.ofChange keysFirstWrong)

/-- 'lapstonelaw04.KeysPrefix': WHATEVER THE INPUT: true; the input reads as it did. -/
def keysPrefixSpec : ChangeSpec := { name := "keysPrefix", fn := fun _ => fun
  | [d1, d2] => { results := [.lit (.bool true)], args := [d1, d2] }
  | _ => none }
def keysPrefixRow : OpenClaim := { program := "yticdlmdkjdfmbaadoor", sum := "b576406862060a17ff05924f6337444aa4653579eeb4f5ecf2524cc03917aef7", func := "lapstone/lapstonelaw04.KeysPrefix", spec := "keysPrefix", unfollowed := true, recurses := true, named := ["lapstone/num.widthBits"], apart := false, laid := [("lapstone/num.widthBits", laid_lapstone_num_widthBits)] }
def KeysPrefixSaid : Prop := keysPrefixRow.holds Tryd.pinned (OpenSpec.ofChange keysPrefixSpec)

/-- ITS FALSE NEIGHBOUR: 'it returns false'. Refute it at one input. -/
def keysPrefixWrong : ChangeSpec := { name := "keysPrefix", fn := fun _ => fun
  | [d1, d2] => { results := [.lit (.bool false)], args := [d1, d2] }
  | _ => none }
def KeysPrefixWrongFalsely : Prop := keysPrefixRow.holds Tryd.pinned (OpenSpec.ofChange keysPrefixWrong)

/-- 'lapstonelaw04.KeysNext': WHATEVER THE INPUT: true; the input reads as it did. -/
def keysNextSpec : ChangeSpec := { name := "keysNext", fn := fun _ => fun
  | [d1, d2] => { results := [.lit (.bool true)], args := [d1, d2] }
  | _ => none }
def keysNextRow : OpenClaim := { program := "yticdlmdkjdfmbaadoor", sum := "b576406862060a17ff05924f6337444aa4653579eeb4f5ecf2524cc03917aef7", func := "lapstone/lapstonelaw04.KeysNext", spec := "keysNext", unfollowed := true, recurses := true, named := ["lapstone/num.widthBits"], apart := false, laid := [("lapstone/num.widthBits", laid_lapstone_num_widthBits)] }
def KeysNextSaid : Prop := keysNextRow.holds Tryd.pinned (OpenSpec.ofChange keysNextSpec)

/-- ITS FALSE NEIGHBOUR: 'it returns false'. Refute it at one input. -/
def keysNextWrong : ChangeSpec := { name := "keysNext", fn := fun _ => fun
  | [d1, d2] => { results := [.lit (.bool false)], args := [d1, d2] }
  | _ => none }
def KeysNextWrongFalsely : Prop := keysNextRow.holds Tryd.pinned (OpenSpec.ofChange keysNextWrong)

/-- 'lapstonelaw04.KeysIn': WHATEVER THE INPUT: true; the input reads as it did. -/
def keysInSpec : ChangeSpec := { name := "keysIn", fn := fun _ => fun
  | [d1, d2, d3] => { results := [.lit (.bool true)], args := [d1, d2, d3] }
  | _ => none }
def keysInRow : OpenClaim := { program := "yticdlmdkjdfmbaadoor", sum := "b576406862060a17ff05924f6337444aa4653579eeb4f5ecf2524cc03917aef7", func := "lapstone/lapstonelaw04.KeysIn", spec := "keysIn", unfollowed := true, recurses := true, named := ["lapstone/num.widthBits"], apart := false, laid := [("lapstone/num.widthBits", laid_lapstone_num_widthBits)] }
def KeysInSaid : Prop := keysInRow.holds Tryd.pinned (OpenSpec.ofChange keysInSpec)

/-- ITS FALSE NEIGHBOUR: 'it returns false'. Refute it at one input. -/
def keysInWrong : ChangeSpec := { name := "keysIn", fn := fun _ => fun
  | [d1, d2, d3] => { results := [.lit (.bool false)], args := [d1, d2, d3] }
  | _ => none }
def KeysInWrongFalsely : Prop := keysInRow.holds Tryd.pinned (OpenSpec.ofChange keysInWrong)

/- THE SECOND FORM. 'bulk': how many values and letters a reading holds, each counted each time it is reached (what is shared counts as often as it is met; a slice's spare places count too). A statement '..UptoSaid' is the law's where the arguments, and the package variables that the reading takes, are together of bulk at most 1048576: NARROWER than '..Said'. Prove '..Said' where nothing that the law and all that it calls make is longer than what came in: it says more and counts as full. Else prove '..UptoSaid'. A law counts once. -/
mutual
def uptoBulk {H : Type} : DataW H → Nat
  | .lit (.string bytes) => bytes.length + 1
  | .lit _ => 1
  | .nil => 1
  | .ptr d => uptoBulk d + 1
  | .slice elems spare => uptoBulkAll elems + uptoBulkAll spare + 1
  | .agg parts => uptoBulkAll parts + 1
  | .iface _ d => uptoBulk d + 1
  | .map entries => uptoBulkEntries entries + 1
  | .held _ => 1
def uptoBulkAll {H : Type} : List (DataW H) → Nat
  | [] => 0
  | d :: r => uptoBulk d + uptoBulkAll r
def uptoBulkEntries {H : Type} : List (Lit × DataW H) → Nat
  | [] => 0
  | x :: r => uptoBulkEntry x + uptoBulkEntries r
def uptoBulkEntry {H : Type} : Lit × DataW H → Nat
  | (.string bytes, d) => bytes.length + uptoBulk d + 1
  | (_, d) => uptoBulk d + 1
 end
def uptoSmall : (H : Type) → List (DataW H) → Bool := fun _ ds => decide (uptoBulkAll ds ≤ 1048576)
def OpenSpec.upto (s : _root_.Go.ChangeSpec) : _root_.Go.OpenSpec := { _root_.Go.OpenSpec.ofChange s with cond := some uptoSmall }

/-- 'lapstonelaw04.KeysPuts', WHERE WHAT IT READS IS OF BULK AT MOST 1048576: true; the input reads as it did. -/
def keysPutsUptoRow : OpenClaim := { program := "yticdlmdkjdfmbaadoor", sum := "b576406862060a17ff05924f6337444aa4653579eeb4f5ecf2524cc03917aef7", func := "lapstone/lapstonelaw04.KeysPuts", spec := "keysPuts", unfollowed := true, recurses := true, named := ["lapstone/num.widthBits"], apart := false, laid := [("lapstone/num.widthBits", laid_lapstone_num_widthBits)], narrowed := true }
def KeysPutsUptoSaid : Prop := keysPutsUptoRow.holds Tryd.pinned (OpenSpec.upto keysPutsSpec)

/-- 'lapstonelaw04.KeysGets', WHERE WHAT IT READS IS OF BULK AT MOST 1048576: true; the input reads as it did. -/
def keysGetsUptoRow : OpenClaim := { program := "yticdlmdkjdfmbaadoor", sum := "b576406862060a17ff05924f6337444aa4653579eeb4f5ecf2524cc03917aef7", func := "lapstone/lapstonelaw04.KeysGets", spec := "keysGets", unfollowed := true, recurses := true, named := ["lapstone/num.widthBits"], apart := false, laid := [("lapstone/num.widthBits", laid_lapstone_num_widthBits)], narrowed := true }
def KeysGetsUptoSaid : Prop := keysGetsUptoRow.holds Tryd.pinned (OpenSpec.upto keysGetsSpec)

/-- 'lapstonelaw04.KeysBack', WHERE WHAT IT READS IS OF BULK AT MOST 1048576: true; the input reads as it did. -/
def keysBackUptoRow : OpenClaim := { program := "yticdlmdkjdfmbaadoor", sum := "b576406862060a17ff05924f6337444aa4653579eeb4f5ecf2524cc03917aef7", func := "lapstone/lapstonelaw04.KeysBack", spec := "keysBack", unfollowed := true, recurses := true, named := ["lapstone/num.widthBits"], apart := false, laid := [("lapstone/num.widthBits", laid_lapstone_num_widthBits)], narrowed := true }
def KeysBackUptoSaid : Prop := keysBackUptoRow.holds Tryd.pinned (OpenSpec.upto keysBackSpec)

/-- 'lapstonelaw04.KeysOrder', WHERE WHAT IT READS IS OF BULK AT MOST 1048576: true; the input reads as it did. -/
def keysOrderUptoRow : OpenClaim := { program := "yticdlmdkjdfmbaadoor", sum := "b576406862060a17ff05924f6337444aa4653579eeb4f5ecf2524cc03917aef7", func := "lapstone/lapstonelaw04.KeysOrder", spec := "keysOrder", unfollowed := true, recurses := true, named := ["lapstone/num.widthBits"], apart := false, laid := [("lapstone/num.widthBits", laid_lapstone_num_widthBits)], narrowed := true }
def KeysOrderUptoSaid : Prop := keysOrderUptoRow.holds Tryd.pinned (OpenSpec.upto keysOrderSpec)

/-- 'lapstonelaw04.KeysFirst', WHERE WHAT IT READS IS OF BULK AT MOST 1048576: true; the input reads as it did. -/
def keysFirstUptoRow : OpenClaim := { program := "yticdlmdkjdfmbaadoor", sum := "b576406862060a17ff05924f6337444aa4653579eeb4f5ecf2524cc03917aef7", func := "lapstone/lapstonelaw04.KeysFirst", spec := "keysFirst", unfollowed := true, recurses := true, named := ["lapstone/num.widthBits"], apart := false, laid := [("lapstone/num.widthBits", laid_lapstone_num_widthBits)], narrowed := true }
def KeysFirstUptoSaid : Prop := keysFirstUptoRow.holds Tryd.pinned (OpenSpec.upto keysFirstSpec)

/-- 'lapstonelaw04.KeysPrefix', WHERE WHAT IT READS IS OF BULK AT MOST 1048576: true; the input reads as it did. -/
def keysPrefixUptoRow : OpenClaim := { program := "yticdlmdkjdfmbaadoor", sum := "b576406862060a17ff05924f6337444aa4653579eeb4f5ecf2524cc03917aef7", func := "lapstone/lapstonelaw04.KeysPrefix", spec := "keysPrefix", unfollowed := true, recurses := true, named := ["lapstone/num.widthBits"], apart := false, laid := [("lapstone/num.widthBits", laid_lapstone_num_widthBits)], narrowed := true }
def KeysPrefixUptoSaid : Prop := keysPrefixUptoRow.holds Tryd.pinned (OpenSpec.upto keysPrefixSpec)

/-- 'lapstonelaw04.KeysNext', WHERE WHAT IT READS IS OF BULK AT MOST 1048576: true; the input reads as it did. -/
def keysNextUptoRow : OpenClaim := { program := "yticdlmdkjdfmbaadoor", sum := "b576406862060a17ff05924f6337444aa4653579eeb4f5ecf2524cc03917aef7", func := "lapstone/lapstonelaw04.KeysNext", spec := "keysNext", unfollowed := true, recurses := true, named := ["lapstone/num.widthBits"], apart := false, laid := [("lapstone/num.widthBits", laid_lapstone_num_widthBits)], narrowed := true }
def KeysNextUptoSaid : Prop := keysNextUptoRow.holds Tryd.pinned (OpenSpec.upto keysNextSpec)

/-- 'lapstonelaw04.KeysIn', WHERE WHAT IT READS IS OF BULK AT MOST 1048576: true; the input reads as it did. -/
def keysInUptoRow : OpenClaim := { program := "yticdlmdkjdfmbaadoor", sum := "b576406862060a17ff05924f6337444aa4653579eeb4f5ecf2524cc03917aef7", func := "lapstone/lapstonelaw04.KeysIn", spec := "keysIn", unfollowed := true, recurses := true, named := ["lapstone/num.widthBits"], apart := false, laid := [("lapstone/num.widthBits", laid_lapstone_num_widthBits)], narrowed := true }
def KeysInUptoSaid : Prop := keysInUptoRow.holds Tryd.pinned (OpenSpec.upto keysInSpec)

end Rows
end Go.Proofs.YticdlmdkjdfmbaaDoor
