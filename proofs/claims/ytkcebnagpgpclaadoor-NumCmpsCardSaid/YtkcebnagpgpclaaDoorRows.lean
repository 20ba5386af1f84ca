/-
  NARROWER THAN 'FOR EVERY INPUT', by the rows' own cells (each row's printed sentence says how): NumPuts: laid · NumGets: laid · NumVars: laid · NumReads: laid · NumBack: laid · NumOnly: laid · NumOrder: laid · NumCmps: laid.
  DERIVED. THE GIVEN ROWS OF THIS SEAT. 8 by the template 'for every input the law returns true; each argument reads behind the call as it read before'; 0 by the template 'total and deterministic' (their statements: YtkcebnagpgpclaaDoorTotals.lean).
  GIVEN WITH THE SEED: the statements are not yours to turn. If you find one false, say at which input.
  Laid BY PROGRAM, IN A SANDBOX (cutbox-rows.mjs): the forced cells as the released guide's own fill.sh prints them over the translation ca7147e28ada51f3… (all of the seat's roots in one cut). By AI agents, Wed Nov 11 2026. No macro, syntax, notation, axiom, sorry.
-/
import Derived.Test.YtkcebnagpgpclaaDoorChecked
import GoSem.Claim
import GoSem.ClaimJoined
import GoSem.ClaimMapViews
import Derived.JoinedTies
import Derived.KernelRfl
namespace Go.Proofs.YtkcebnagpgpclaaDoor
/- THE CELL 'sum', in the pinned program and in every row, IS THE sha256 OF THE DUMP (.gsa) THAT YtkcebnagpgpclaaDoorProg.lean LOADS. Nothing in Lean hashes anything: it is a label: what it is worth is what the hold of that sum in a sandbox is worth. -/
noncomputable def Tryd.pinned : Pinned := { name := "ytkcebnagpgpclaadoor", sum := "ca7147e28ada51f39442251bbc45dc7067e87e52f8b7903e84f9f529cf3c9cfa", checked := Tryd.checked }
namespace Rows
def none {H : Type} : Left H := { results := [], args := [] }

/- WHAT THE LISTED PACKAGE-LEVEL VARIABLES READ AS WHEN THE CALL BEGINS. Each datum BY PROGRAM (the guide's laid-datum.mjs) off the statement by which the dump's own 'gosem.cut.vars' lays the variable. In a bare row this is a premise. The card (YtkcebnagpgpclaaDoorCards.lean) ties it to the program's text. -/
def laid_lapstone_num_widthBits {H : Type} : DataW H := .agg [.lit (.int .u64 0), .lit (.int .u64 8), .lit (.int .u64 16), .lit (.int .u64 24), .lit (.int .u64 32), .lit (.int .u64 40), .lit (.int .u64 48), .lit (.int .u64 56), .lit (.int .u64 64)]

/-- 'lapstonelaw01.NumPuts': WHATEVER THE INPUT: true; the input reads as it did. -/
def numPutsSpec : ChangeSpec := { name := "numPuts", fn := fun _ => fun
  | [d1, d2, d3] => { results := [.lit (.bool true)], args := [d1, d2, d3] }
  | _ => none }
def numPutsRow : OpenClaim := { program := "ytkcebnagpgpclaadoor", sum := "ca7147e28ada51f39442251bbc45dc7067e87e52f8b7903e84f9f529cf3c9cfa", func := "lapstone/lapstonelaw01.NumPuts", spec := "numPuts", unfollowed := true, recurses := true, named := ["lapstone/num.widthBits"], apart := false, laid := [("lapstone/num.widthBits", laid_lapstone_num_widthBits)] }
def NumPutsSaid : Prop := numPutsRow.holds Tryd.pinned (OpenSpec.ofChange numPutsSpec)

/-- ITS FALSE NEIGHBOUR: 'it returns false'. Refute it at one input. -/
def numPutsWrong : ChangeSpec := { name := "numPuts", fn := fun _ => fun
  | [d1, d2, d3] => { results := [.lit (.bool false)], args := [d1, d2, d3] }
  | _ => none }
def NumPutsWrongFalsely : Prop := numPutsRow.holds Tryd.pinned (OpenSpec.ofChange numPutsWrong)

/-- 'lapstonelaw01.NumGets': WHATEVER THE INPUT: true; the input reads as it did. -/
def numGetsSpec : ChangeSpec := { name := "numGets", fn := fun _ => fun
  | [d1, d2] => { results := [.lit (.bool true)], args := [d1, d2] }
  | _ => none }
def numGetsRow : OpenClaim := { program := "ytkcebnagpgpclaadoor", sum := "ca7147e28ada51f39442251bbc45dc7067e87e52f8b7903e84f9f529cf3c9cfa", func := "lapstone/lapstonelaw01.NumGets", spec := "numGets", unfollowed := true, recurses := true, named := ["lapstone/num.widthBits"], apart := false, laid := [("lapstone/num.widthBits", laid_lapstone_num_widthBits)] }
def NumGetsSaid : Prop := numGetsRow.holds Tryd.pinned (OpenSpec.ofChange numGetsSpec)

/-- ITS FALSE NEIGHBOUR: 'it returns false'. Refute it at one input. -/
def numGetsWrong : ChangeSpec := { name := "numGets", fn := fun _ => fun
  | [d1, d2] => { results := [.lit (.bool false)], args := [d1, d2] }
  | _ => none }
def NumGetsWrongFalsely : Prop := numGetsRow.holds Tryd.pinned (OpenSpec.ofChange numGetsWrong)

/-- 'lapstonelaw01.NumVars': WHATEVER THE INPUT: true; the input reads as it did. -/
def numVarsSpec : ChangeSpec := { name := "numVars", fn := fun _ => fun
  | [d1, d2] => { results := [.lit (.bool true)], args := [d1, d2] }
  | _ => none }
def numVarsRow : OpenClaim := { program := "ytkcebnagpgpclaadoor", sum := "ca7147e28ada51f39442251bbc45dc7067e87e52f8b7903e84f9f529cf3c9cfa", func := "lapstone/lapstonelaw01.NumVars", spec := "numVars", unfollowed := true, recurses := true, named := ["lapstone/num.widthBits"], apart := false, laid := [("lapstone/num.widthBits", laid_lapstone_num_widthBits)] }
def NumVarsSaid : Prop := numVarsRow.holds Tryd.pinned (OpenSpec.ofChange numVarsSpec)

/-- ITS FALSE NEIGHBOUR: 'it returns false'. Refute it at one input. -/
def numVarsWrong : ChangeSpec := { name := "numVars", fn := fun _ => fun
  | [d1, d2] => { results := [.lit (.bool false)], args := [d1, d2] }
  | _ => none }
def NumVarsWrongFalsely : Prop := numVarsRow.holds Tryd.pinned (OpenSpec.ofChange numVarsWrong)

/-- 'lapstonelaw01.NumReads': WHATEVER THE INPUT: true; the input reads as it did. -/
def numReadsSpec : ChangeSpec := { name := "numReads", fn := fun _ => fun
  | [d] => { results := [.lit (.bool true)], args := [d] }
  | _ => none }
def numReadsRow : OpenClaim := { program := "ytkcebnagpgpclaadoor", sum := "ca7147e28ada51f39442251bbc45dc7067e87e52f8b7903e84f9f529cf3c9cfa", func := "lapstone/lapstonelaw01.NumReads", spec := "numReads", unfollowed := true, recurses := true, named := ["lapstone/num.widthBits"], apart := false, laid := [("lapstone/num.widthBits", laid_lapstone_num_widthBits)] }
def NumReadsSaid : Prop := numReadsRow.holds Tryd.pinned (OpenSpec.ofChange numReadsSpec)

/-- ITS FALSE NEIGHBOUR: 'it returns false'. Refute it at one input. -/
def numReadsWrong : ChangeSpec := { name := "numReads", fn := fun _ => fun
  | [d] => { results := [.lit (.bool false)], args := [d] }
  | _ => none }
def NumReadsWrongFalsely : Prop := numReadsRow.holds Tryd.pinned (OpenSpec.ofChange numReadsWrong)

/-- 'lapstonelaw01.NumBack': WHATEVER THE INPUT: true; the input reads as it did. -/
def numBackSpec : ChangeSpec := { name := "numBack", fn := fun _ => fun
  | [d1, d2, d3] => { results := [.lit (.bool true)], args := [d1, d2, d3] }
  | _ => none }
def numBackRow : OpenClaim := { program := "ytkcebnagpgpclaadoor", sum := "ca7147e28ada51f39442251bbc45dc7067e87e52f8b7903e84f9f529cf3c9cfa", func := "lapstone/lapstonelaw01.NumBack", spec := "numBack", unfollowed := true, recurses := true, named := ["lapstone/num.widthBits"], apart := false, laid := [("lapstone/num.widthBits", laid_lapstone_num_widthBits)] }
def NumBackSaid : Prop := numBackRow.holds Tryd.pinned (OpenSpec.ofChange numBackSpec)

/-- ITS FALSE NEIGHBOUR: 'it returns false'. Refute it at one input. -/
def numBackWrong : ChangeSpec := { name := "numBack", fn := fun _ => fun
  | [d1, d2, d3] => { results := [.lit (.bool false)], args := [d1, d2, d3] }
  | _ => none }
def NumBackWrongFalsely : Prop := numBackRow.holds Tryd.pinned (OpenSpec.ofChange numBackWrong)

/-- 'lapstonelaw01.NumOnly': WHATEVER THE INPUT: true; the input reads as it did. -/
def numOnlySpec : ChangeSpec := { name := "numOnly", fn := fun _ => fun
  | [d] => { results := [.lit (.bool true)], args := [d] }
  | _ => none }
def numOnlyRow : OpenClaim := { program := "ytkcebnagpgpclaadoor", sum := "ca7147e28ada51f39442251bbc45dc7067e87e52f8b7903e84f9f529cf3c9cfa", func := "lapstone/lapstonelaw01.NumOnly", spec := "numOnly", unfollowed := true, recurses := true, named := ["lapstone/num.widthBits"], apart := false, laid := [("lapstone/num.widthBits", laid_lapstone_num_widthBits)] }
def NumOnlySaid : Prop := numOnlyRow.holds Tryd.pinned (OpenSpec.ofChange numOnlySpec)

/-- ITS FALSE NEIGHBOUR: 'it returns false'. Refute it at one input. -/
def numOnlyWrong : ChangeSpec := { name := "numOnly", fn := fun _ => fun
  | [d] => { results := [.lit (.bool false)], args := [d] }
  | _ => none }
def NumOnlyWrongFalsely : Prop := numOnlyRow.holds Tryd.pinned (OpenSpec.ofChange numOnlyWrong)

/-- 'lapstonelaw01.NumOrder': WHATEVER THE INPUT: true; the input reads as it did. -/
def numOrderSpec : ChangeSpec := { name := "numOrder", fn := fun _ => fun
  | [d1, d2, d3] => { results := [.lit (.bool true)], args := [d1, d2, d3] }
  | _ => none }
def numOrderRow : OpenClaim := { program := "ytkcebnagpgpclaadoor", sum := "ca7147e28ada51f39442251bbc45dc7067e87e52f8b7903e84f9f529cf3c9cfa", func := "lapstone/lapstonelaw01.NumOrder", spec := "numOrder", unfollowed := true, recurses := true, named := ["lapstone/num.widthBits"], apart := false, laid := [("lapstone/num.widthBits", laid_lapstone_num_widthBits)] }
def NumOrderSaid : Prop := numOrderRow.holds Tryd.pinned (OpenSpec.ofChange numOrderSpec)

/-- ITS FALSE NEIGHBOUR: 'it returns false'. Refute it at one input. -/
def numOrderWrong : ChangeSpec := { name := "numOrder", fn := fun _ => fun
  | [d1, d2, d3] => { results := [.lit (.bool false)], args := [d1, d2, d3] }
  | _ => none }
def NumOrderWrongFalsely : Prop := numOrderRow.holds Tryd.pinned (OpenSpec.ofChange numOrderWrong)

/-- 'lapstonelaw01.NumCmps': WHATEVER THE INPUT: true; the input reads as it did. -/
def numCmpsSpec : ChangeSpec := { name := "numCmps", fn := fun _ => fun
  | [d1, d2, d3] => { results := [.lit (.bool true)], args := [d1, d2, d3] }
  | _ => none }
def numCmpsRow : OpenClaim := { program := "ytkcebnagpgpclaadoor", sum := "ca7147e28ada51f39442251bbc45dc7067e87e52f8b7903e84f9f529cf3c9cfa", func := "lapstone/lapstonelaw01.NumCmps", spec := "numCmps", unfollowed := true, recurses := true, named := ["lapstone/num.widthBits"], apart := false, laid := [("lapstone/num.widthBits", laid_lapstone_num_widthBits)] }
def NumCmpsSaid : Prop := numCmpsRow.holds Tryd.pinned (OpenSpec.ofChange numCmpsSpec)

/-- ITS FALSE NEIGHBOUR: 'it returns false'. Refute it at one input. -/
def numCmpsWrong : ChangeSpec := { name := "numCmps", fn := fun _ => fun
  | [d1, d2, d3] => { results := [.lit (.bool false)], args := [d1, d2, d3] }
  | _ => none }
def NumCmpsWrongFalsely : Prop := numCmpsRow.holds Tryd.pinned (OpenSpec.ofChange numCmpsWrong)

/- THE SECOND FORM. 'bulk': how many values and letters a reading holds, each counted each time it is reached (what is shared counts as often as it is met; a slice's spare places count too). A statement '..UptoSaid' is the law's where the arguments, and the package variables that the reading takes, are together of bulk at most 1048576: NARROWER than '..Said'. Prove '..Said' where nothing that the law and all that it calls make is longer than what came in: it says more and counts as full. Else prove '..UptoSaid'. A law counts once. -/
mutual
def uptoBulk {H : Type} : DataW H → Nat
  | .lit (.string bytes) => bytes.length + 1
  | .lit _ => 1
  | .nil => 1
  | .ptr d => uptoBulk d + 1
  | .slice elems spare => uptoBulkAll elems + uptoBulkAll spare + 1
  | .agg parts => uptoBulkAll parts + 1
  | .iface _ d => uptoBulk d + 1
  | .map entries => uptoBulkEntries entries + 1
  | .held _ => 1
def uptoBulkAll {H : Type} : List (DataW H) → Nat
  | [] => 0
  | d :: r => uptoBulk d + uptoBulkAll r
def uptoBulkEntries {H : Type} : List (Lit × DataW H) → Nat
  | [] => 0
  | x :: r => uptoBulkEntry x + uptoBulkEntries r
def uptoBulkEntry {H : Type} : Lit × DataW H → Nat
  | (.string bytes, d) => bytes.length + uptoBulk d + 1
  | (_, d) => uptoBulk d + 1
 end
def uptoSmall : (H : Type) → List (DataW H) → Bool := fun _ ds => decide (uptoBulkAll ds ≤ 1048576)
def OpenSpec.upto (s : _root_.Go.ChangeSpec) : _root_.Go.OpenSpec := { _root_.Go.OpenSpec.ofChange s with cond := some uptoSmall }

/-- 'lapstonelaw01.NumPuts', WHERE WHAT IT READS IS OF BULK AT MOST 1048576: true; the input reads as it did. -/
def numPutsUptoRow : OpenClaim := { program := "ytkcebnagpgpclaadoor", sum := "ca7147e28ada51f39442251bbc45dc7067e87e52f8b7903e84f9f529cf3c9cfa", func := "lapstone/lapstonelaw01.NumPuts", spec := "numPuts", unfollowed := true, recurses := true, named := ["lapstone/num.widthBits"], apart := false, laid := [("lapstone/num.widthBits", laid_lapstone_num_widthBits)], narrowed := true }
def NumPutsUptoSaid : Prop := numPutsUptoRow.holds Tryd.pinned (OpenSpec.upto numPutsSpec)

/-- 'lapstonelaw01.NumGets', WHERE WHAT IT READS IS OF BULK AT MOST 1048576: true; the input reads as it did. -/
def numGetsUptoRow : OpenClaim := { program := "ytkcebnagpgpclaadoor", sum := "ca7147e28ada51f39442251bbc45dc7067e87e52f8b7903e84f9f529cf3c9cfa", func := "lapstone/lapstonelaw01.NumGets", spec := "numGets", unfollowed := true, recurses := true, named := ["lapstone/num.widthBits"], apart := false, laid := [("lapstone/num.widthBits", laid_lapstone_num_widthBits)], narrowed := true }
def NumGetsUptoSaid : Prop := numGetsUptoRow.holds Tryd.pinned (OpenSpec.upto numGetsSpec)

/-- 'lapstonelaw01.NumVars', WHERE WHAT IT READS IS OF BULK AT MOST 1048576: true; the input reads as it did. -/
def numVarsUptoRow : OpenClaim := { program := "ytkcebnagpgpclaadoor", sum := "ca7147e28ada51f39442251bbc45dc7067e87e52f8b7903e84f9f529cf3c9cfa", func := "lapstone/lapstonelaw01.NumVars", spec := "numVars", unfollowed := true, recurses := true, named := ["lapstone/num.widthBits"], apart := false, laid := [("lapstone/num.widthBits", laid_lapstone_num_widthBits)], narrowed := true }
def NumVarsUptoSaid : Prop := numVarsUptoRow.holds Tryd.pinned (OpenSpec.upto numVarsSpec)

/-- 'lapstonelaw01.NumReads', WHERE WHAT IT READS IS OF BULK AT MOST 1048576: true; the input reads as it did. -/
def numReadsUptoRow : OpenClaim := { program := "ytkcebnagpgpclaadoor", sum := "ca7147e28ada51f39442251bbc45dc7067e87e52f8b7903e84f9f529cf3c9cfa", func := "lapstone/lapstonelaw01.NumReads", spec := "numReads", unfollowed := true, recurses := true, named := ["lapstone/num.widthBits"], apart := false, laid := [("lapstone/num.widthBits", laid_lapstone_num_widthBits)], narrowed := true }
def NumReadsUptoSaid : Prop := numReadsUptoRow.holds Tryd.pinned (OpenSpec.upto numReadsSpec)

/-- 'lapstonelaw01.NumBack', WHERE WHAT IT READS IS OF BULK AT MOST 1048576: true; the input reads as it did. -/
def numBackUptoRow : OpenClaim := { program := "ytkcebnagpgpclaadoor", sum := "ca7147e28ada51f39442251bbc45dc7067e87e52f8b7903e84f9f529cf3c9cfa", func := "lapstone/lapstonelaw01.NumBack", spec := "numBack", unfollowed := true, recurses := true, named := ["lapstone/num.widthBits"], apart := false, laid := [("lapstone/num.widthBits", laid_lapstone_num_widthBits)], narrowed := true }
def NumBackUptoSaid : Prop := numBackUptoRow.holds Tryd.pinned (OpenSpec.upto numBackSpec)

/-- 'lapstonelaw01.NumOnly', WHERE WHAT IT READS IS OF BULK AT MOST 1048576: true; the input reads as it did. -/
def numOnlyUptoRow : OpenClaim := { program := "ytkcebnagpgpclaadoor", sum := "ca7147e28ada51f39442251bbc45dc7067e87e52f8b7903e84f9f529cf3c9cfa", func := "lapstone/lapstonelaw01.NumOnly", spec := "numOnly", unfollowed := true, recurses := true, named := ["lapstone/num.widthBits"], apart := false, laid := [("lapstone/num.widthBits", laid_lapstone_num_widthBits)], narrowed := true }
def NumOnlyUptoSaid : Prop := numOnlyUptoRow.holds Tryd.pinned (OpenSpec.upto numOnlySpec)

/-- 'lapstonelaw01.NumOrder', WHERE WHAT IT READS IS OF BULK AT MOST 1048576: true; the input reads as it did. -/
def numOrderUptoRow : OpenClaim := { program := "ytkcebnagpgpclaadoor", sum := "ca7147e28ada51f39442251bbc45dc7067e87e52f8b7903e84f9f529cf3c9cfa", func := "lapstone/lapstonelaw01.NumOrder", spec := "numOrder", unfollowed := true, recurses := true, named := ["lapstone/num.widthBits"], apart := false, laid := [("lapstone/num.widthBits", laid_lapstone_num_widthBits)], narrowed := true }
def NumOrderUptoSaid : Prop := numOrderUptoRow.holds Tryd.pinned (OpenSpec.upto numOrderSpec)

/-- 'lapstonelaw01.NumCmps', WHERE WHAT IT READS IS OF BULK AT MOST 1048576: true; the input reads as it did. -/
def numCmpsUptoRow : OpenClaim := { program := "ytkcebnagpgpclaadoor", sum := "ca7147e28ada51f39442251bbc45dc7067e87e52f8b7903e84f9f529cf3c9cfa", func := "lapstone/lapstonelaw01.NumCmps", spec := "numCmps", unfollowed := true, recurses := true, named := ["lapstone/num.widthBits"], apart := false, laid := [("lapstone/num.widthBits", laid_lapstone_num_widthBits)], narrowed := true }
def NumCmpsUptoSaid : Prop := numCmpsUptoRow.holds Tryd.pinned (OpenSpec.upto numCmpsSpec)

end Rows
end Go.Proofs.YtkcebnagpgpclaaDoor
