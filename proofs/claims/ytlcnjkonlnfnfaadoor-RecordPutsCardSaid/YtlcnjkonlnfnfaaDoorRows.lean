/-
  NARROWER THAN 'FOR EVERY INPUT', by the rows' own cells (each row's printed sentence says how): RecordPuts: laid · RecordGets: laid · RecordScans: laid · RecordBack: laid · RecordCuts: laid.
  DERIVED. THE GIVEN ROWS OF THIS SEAT. 5 by the template 'for every input the law returns true; each argument reads behind the call as it read before'; 0 by the template 'total and deterministic' (their statements: YtlcnjkonlnfnfaaDoorTotals.lean).
  GIVEN WITH THE SEED: the statements are not yours to turn. If you find one false, say at which input.
  Laid BY PROGRAM, IN A SANDBOX (cutbox-rows.mjs): the forced cells as the released guide's own fill.sh prints them over the translation c8ff4251a7d16f7f… (all of the seat's roots in one cut). By AI agents, Wed Nov 11 2026. No macro, syntax, notation, axiom, sorry.
-/
import Derived.Test.YtlcnjkonlnfnfaaDoorChecked
import GoSem.Claim
import GoSem.ClaimJoined
import GoSem.ClaimMapViews
import Derived.JoinedTies
import Derived.KernelRfl
namespace Go.Proofs.YtlcnjkonlnfnfaaDoor
/- THE CELL 'sum', in the pinned program and in every row, IS THE sha256 OF THE DUMP (.gsa) THAT YtlcnjkonlnfnfaaDoorProg.lean LOADS. Nothing in Lean hashes anything: it is a label: what it is worth is what the hold of that sum in a sandbox is worth. -/
noncomputable def Tryd.pinned : Pinned := { name := "ytlcnjkonlnfnfaadoor", sum := "c8ff4251a7d16f7f7b463f3e5b65ad1c477ea171ab51a2e47257df0ec6b0fe12", checked := Tryd.checked }
namespace Rows
def none {H : Type} : Left H := { results := [], args := [] }

/- WHAT THE LISTED PACKAGE-LEVEL VARIABLES READ AS WHEN THE CALL BEGINS. Each datum BY PROGRAM (the guide's laid-datum.mjs) off the statement by which the dump's own 'gosem.cut.vars' lays the variable. In a bare row this is a premise. The card (YtlcnjkonlnfnfaaDoorCards.lean) ties it to the program's text. -/
def laid_lapstone_num_widthBits {H : Type} : DataW H := .agg [.lit (.int .u64 0), .lit (.int .u64 8), .lit (.int .u64 16), .lit (.int .u64 24), .lit (.int .u64 32), .lit (.int .u64 40), .lit (.int .u64 48), .lit (.int .u64 56), .lit (.int .u64 64)]

/-- 'lapstonelaw07.RecordPuts': WHATEVER THE INPUT: true; the input reads as it did. -/
def recordPutsSpec : ChangeSpec := { name := "recordPuts", fn := fun _ => fun
  | [d] => { results := [.lit (.bool true)], args := [d] }
  | _ => none }
def recordPutsRow : OpenClaim := { program := "ytlcnjkonlnfnfaadoor", sum := "c8ff4251a7d16f7f7b463f3e5b65ad1c477ea171ab51a2e47257df0ec6b0fe12", func := "lapstone/lapstonelaw07.RecordPuts", spec := "recordPuts", unfollowed := true, recurses := true, named := ["lapstone/num.widthBits"], apart := false, laid := [("lapstone/num.widthBits", laid_lapstone_num_widthBits)] }
def RecordPutsSaid : Prop := recordPutsRow.holds Tryd.pinned (OpenSpec.ofChange recordPutsSpec)

/-- ITS FALSE NEIGHBOUR: 'it returns false'. Refute it at one input. -/
def recordPutsWrong : ChangeSpec := { name := "recordPuts", fn := fun _ => fun
  | [d] => { results := [.lit (.bool false)], args := [d] }
  | _ => none }
def RecordPutsWrongFalsely : Prop := recordPutsRow.holds Tryd.pinned (OpenSpec.ofChange recordPutsWrong)

/-- 'lapstonelaw07.RecordGets': WHATEVER THE INPUT: true; the input reads as it did. -/
def recordGetsSpec : ChangeSpec := { name := "recordGets", fn := fun _ => fun
  | [d] => { results := [.lit (.bool true)], args := [d] }
  | _ => none }
def recordGetsRow : OpenClaim := { program := "ytlcnjkonlnfnfaadoor", sum := "c8ff4251a7d16f7f7b463f3e5b65ad1c477ea171ab51a2e47257df0ec6b0fe12", func := "lapstone/lapstonelaw07.RecordGets", spec := "recordGets", unfollowed := true, recurses := true, named := ["lapstone/num.widthBits"], apart := false, laid := [("lapstone/num.widthBits", laid_lapstone_num_widthBits)] }
def RecordGetsSaid : Prop := recordGetsRow.holds Tryd.pinned (OpenSpec.ofChange recordGetsSpec)

/-- ITS FALSE NEIGHBOUR: 'it returns false'. Refute it at one input. -/
def recordGetsWrong : ChangeSpec := { name := "recordGets", fn := fun _ => fun
  | [d] => { results := [.lit (.bool false)], args := [d] }
  | _ => none }
def RecordGetsWrongFalsely : Prop := recordGetsRow.holds Tryd.pinned (OpenSpec.ofChange recordGetsWrong)

/-- 'lapstonelaw07.RecordScans': WHATEVER THE INPUT: true; the input reads as it did. -/
def recordScansSpec : ChangeSpec := { name := "recordScans", fn := fun _ => fun
  | [d1, d2] => { results := [.lit (.bool true)], args := [d1, d2] }
  | _ => none }
def recordScansRow : OpenClaim := { program := "ytlcnjkonlnfnfaadoor", sum := "c8ff4251a7d16f7f7b463f3e5b65ad1c477ea171ab51a2e47257df0ec6b0fe12", func := "lapstone/lapstonelaw07.RecordScans", spec := "recordScans", unfollowed := true, recurses := true, named := ["lapstone/num.widthBits"], apart := false, laid := [("lapstone/num.widthBits", laid_lapstone_num_widthBits)] }
def RecordScansSaid : Prop := recordScansRow.holds Tryd.pinned (OpenSpec.ofChange recordScansSpec)

/-- ITS FALSE NEIGHBOUR: 'it returns false'. Refute it at one input. -/
def recordScansWrong : ChangeSpec := { name := "recordScans", fn := fun _ => fun
  | [d1, d2] => { results := [.lit (.bool false)], args := [d1, d2] }
  | _ => none }
def RecordScansWrongFalsely : Prop := recordScansRow.holds Tryd.pinned (OpenSpec.ofChange recordScansWrong)

/-- 'lapstonelaw07.RecordBack': WHATEVER THE INPUT: true; the input reads as it did. -/
def recordBackSpec : ChangeSpec := { name := "recordBack", fn := fun _ => fun
  | [d1, d2] => { results := [.lit (.bool true)], args := [d1, d2] }
  | _ => none }
def recordBackRow : OpenClaim := { program := "ytlcnjkonlnfnfaadoor", sum := "c8ff4251a7d16f7f7b463f3e5b65ad1c477ea171ab51a2e47257df0ec6b0fe12", func := "lapstone/lapstonelaw07.RecordBack", spec := "recordBack", unfollowed := true, recurses := true, named := ["lapstone/num.widthBits"], apart := false, laid := [("lapstone/num.widthBits", laid_lapstone_num_widthBits)] }
def RecordBackSaid : Prop := recordBackRow.holds Tryd.pinned (OpenSpec.ofChange recordBackSpec)

/-- ITS FALSE NEIGHBOUR: 'it returns false'. Refute it at one input. -/
def recordBackWrong : ChangeSpec := { name := "recordBack", fn := fun _ => fun
  | [d1, d2] => { results := [.lit (.bool false)], args := [d1, d2] }
  | _ => none }
def RecordBackWrongFalsely : Prop := recordBackRow.holds Tryd.pinned (OpenSpec.ofChange recordBackWrong)

/-- 'lapstonelaw07.RecordCuts': WHATEVER THE INPUT: true; the input reads as it did. -/
def recordCutsSpec : ChangeSpec := { name := "recordCuts", fn := fun _ => fun
  | [d1, d2, d3] => { results := [.lit (.bool true)], args := [d1, d2, d3] }
  | _ => none }
def recordCutsRow : OpenClaim := { program := "ytlcnjkonlnfnfaadoor", sum := "c8ff4251a7d16f7f7b463f3e5b65ad1c477ea171ab51a2e47257df0ec6b0fe12", func := "lapstone/lapstonelaw07.RecordCuts", spec := "recordCuts", unfollowed := true, recurses := true, named := ["lapstone/num.widthBits"], apart := false, laid := [("lapstone/num.widthBits", laid_lapstone_num_widthBits)] }
def RecordCutsSaid : Prop := recordCutsRow.holds Tryd.pinned (OpenSpec.ofChange recordCutsSpec)

/-- ITS FALSE NEIGHBOUR: 'it returns false'. Refute it at one input. -/
def recordCutsWrong : ChangeSpec := { name := "recordCuts", fn := fun _ => fun
  | [d1, d2, d3] => { results := [.lit (.bool false)], args := [d1, d2, d3] }
  | _ => none }
def RecordCutsWrongFalsely : Prop := recordCutsRow.holds Tryd.pinned (OpenSpec.ofChange recordCutsWrong)

/- THE SECOND FORM. 'bulk': how many values and letters a reading holds, each counted each time it is reached (what is shared counts as often as it is met; a slice's spare places count too). A statement '..UptoSaid' is the law's where the arguments, and the package variables that the reading takes, are together of bulk at most 1048576: NARROWER than '..Said'. Prove '..Said' where nothing that the law and all that it calls make is longer than what came in: it says more and counts as full. Else prove '..UptoSaid'. A law counts once. -/
mutual
def uptoBulk {H : Type} : DataW H → Nat
  | .lit (.string bytes) => bytes.length + 1
  | .lit _ => 1
  | .nil => 1
  | .ptr d => uptoBulk d + 1
  | .slice elems spare => uptoBulkAll elems + uptoBulkAll spare + 1
  | .agg parts => uptoBulkAll parts + 1
  | .iface _ d => uptoBulk d + 1
  | .map entries => uptoBulkEntries entries + 1
  | .held _ => 1
def uptoBulkAll {H : Type} : List (DataW H) → Nat
  | [] => 0
  | d :: r => uptoBulk d + uptoBulkAll r
def uptoBulkEntries {H : Type} : List (Lit × DataW H) → Nat
  | [] => 0
  | x :: r => uptoBulkEntry x + uptoBulkEntries r
def uptoBulkEntry {H : Type} : Lit × DataW H → Nat
  | (.string bytes, d) => bytes.length + uptoBulk d + 1
  | (_, d) => uptoBulk d + 1
 end
def uptoSmall : (H : Type) → List (DataW H) → Bool := fun _ ds => decide (uptoBulkAll ds ≤ 1048576)
def OpenSpec.upto (s : _root_.Go.ChangeSpec) : _root_.Go.OpenSpec := { _root_.Go.OpenSpec.ofChange s with cond := some uptoSmall }

/-- 'lapstonelaw07.RecordPuts', WHERE WHAT IT READS IS OF BULK AT MOST 1048576: true; the input reads as it did. -/
def recordPutsUptoRow : OpenClaim := { program := "ytlcnjkonlnfnfaadoor", sum := "c8ff4251a7d16f7f7b463f3e5b65ad1c477ea171ab51a2e47257df0ec6b0fe12", func := "lapstone/lapstonelaw07.RecordPuts", spec := "recordPuts", unfollowed := true, recurses := true, named := ["lapstone/num.widthBits"], apart := false, laid := [("lapstone/num.widthBits", laid_lapstone_num_widthBits)], narrowed := true }
def RecordPutsUptoSaid : Prop := recordPutsUptoRow.holds Tryd.pinned (OpenSpec.upto recordPutsSpec)

/-- 'lapstonelaw07.RecordGets', WHERE WHAT IT READS IS OF BULK AT MOST 1048576: true; the input reads as it did. -/
def recordGetsUptoRow : OpenClaim := { program := "ytlcnjkonlnfnfaadoor", sum := "c8ff4251a7d16f7f7b463f3e5b65ad1c477ea171ab51a2e47257df0ec6b0fe12", func := "lapstone/lapstonelaw07.RecordGets", spec := "recordGets", unfollowed := true, recurses := true, named := ["lapstone/num.widthBits"], apart := false, laid := [("lapstone/num.widthBits", laid_lapstone_num_widthBits)], narrowed := true }
def RecordGetsUptoSaid : Prop := recordGetsUptoRow.holds Tryd.pinned (OpenSpec.upto recordGetsSpec)

/-- 'lapstonelaw07.RecordScans', WHERE WHAT IT READS IS OF BULK AT MOST 1048576: true; the input reads as it did. -/
def recordScansUptoRow : OpenClaim := { program := "ytlcnjkonlnfnfaadoor", sum := "c8ff4251a7d16f7f7b463f3e5b65ad1c477ea171ab51a2e47257df0ec6b0fe12", func := "lapstone/lapstonelaw07.RecordScans", spec := "recordScans", unfollowed := true, recurses := true, named := ["lapstone/num.widthBits"], apart := false, laid := [("lapstone/num.widthBits", laid_lapstone_num_widthBits)], narrowed := true }
def RecordScansUptoSaid : Prop := recordScansUptoRow.holds Tryd.pinned (OpenSpec.upto recordScansSpec)

/-- 'lapstonelaw07.RecordBack', WHERE WHAT IT READS IS OF BULK AT MOST 1048576: true; the input reads as it did. -/
def recordBackUptoRow : OpenClaim := { program := "ytlcnjkonlnfnfaadoor", sum := "c8ff4251a7d16f7f7b463f3e5b65ad1c477ea171ab51a2e47257df0ec6b0fe12", func := "lapstone/lapstonelaw07.RecordBack", spec := "recordBack", unfollowed := true, recurses := true, named := ["lapstone/num.widthBits"], apart := false, laid := [("lapstone/num.widthBits", laid_lapstone_num_widthBits)], narrowed := true }
def RecordBackUptoSaid : Prop := recordBackUptoRow.holds Tryd.pinned (OpenSpec.upto recordBackSpec)

/-- 'lapstonelaw07.RecordCuts', WHERE WHAT IT READS IS OF BULK AT MOST 1048576: true; the input reads as it did. -/
def recordCutsUptoRow : OpenClaim := { program := "ytlcnjkonlnfnfaadoor", sum := "c8ff4251a7d16f7f7b463f3e5b65ad1c477ea171ab51a2e47257df0ec6b0fe12", func := "lapstone/lapstonelaw07.RecordCuts", spec := "recordCuts", unfollowed := true, recurses := true, named := ["lapstone/num.widthBits"], apart := false, laid := [("lapstone/num.widthBits", laid_lapstone_num_widthBits)], narrowed := true }
def RecordCutsUptoSaid : Prop := recordCutsUptoRow.holds Tryd.pinned (OpenSpec.upto recordCutsSpec)

end Rows
end Go.Proofs.YtlcnjkonlnfnfaaDoor
