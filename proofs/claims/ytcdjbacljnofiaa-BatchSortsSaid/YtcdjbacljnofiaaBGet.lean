/-
  What bytes tell as a batch: plain functions.
-/
import Derived.Test.YtcdjbacljnofiaaWt
import Derived.Test.YtcdjbacljnofiaaTk
namespace Go.Proofs.Ytcdjbacljnofiaa
open Go Go.RowKit

/-- the writes that the rest tells, behind those that are read -/
def bgL (c r s : Nat) : Nat → List Wt → List UInt8 → Option Bt
  | 0, acc, l => if l = [] ∧ chk acc = 0 then some ⟨c, r, s, acc⟩ else none
  | j + 1, acc, l =>
    if (rtext l).2.2 ≠ 0 then none
    else if (rflag (rtext l).2.1).2.2 ≠ 0 then none
    else if (rflag (rtext l).2.1).1 = true then bgL c r s j (acc ++ [⟨(rtext l).1, [], true⟩]) (rflag (rtext l).2.1).2.1
    else if (rtext (rflag (rtext l).2.1).2.1).2.2 ≠ 0 then none
    else bgL c r s j (acc ++ [⟨(rtext l).1, (rtext (rflag (rtext l).2.1).2.1).1, false⟩]) (rtext (rflag (rtext l).2.1).2.1).2.1
def bgW : List Nat → List UInt8 → Option Bt
  | [c, r, s, m], l => if 8 < m then none else bgL c r s m [] l
  | _, _ => none
/-- the numbers that the rest tells, behind those that are read -/
def bgN : Nat → List Nat → List UInt8 → Option Bt
  | 0, ns, l => bgW ns l
  | j + 1, ns, l => if (rnum l).2.2 ≠ 0 then none else bgN j (ns ++ [(rnum l).1]) (rnum l).2.1
def bget (s : List UInt8) : Option Bt := bgN 4 [] s

end Go.Proofs.Ytcdjbacljnofiaa
