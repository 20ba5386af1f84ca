/-
  What the laws' walks take of package record, shown of its code.
-/
import Derived.Test.YtlcnjkonlnfnfaaDoorRPutF
import Derived.Test.YtlcnjkonlnfnfaaDoorRSizeF
import Derived.Test.YtlcnjkonlnfnfaaDoorRScanF
namespace Go.Proofs.YtlcnjkonlnfnfaaDoor
open Go Go.RowKit

theorem rface : RFace where
  putNo := fun h3 h4 => rput_no h3 h4
  putYes := fun hq hb hT => rput_yes hq hb hT
  size := fun hq hb _ => rsize_any hq hb
  get := fun hA hm hc hB hl _ => rget_any.get hA hm hc hB hl
  scan := fun hA hm hc hB hl hq _ => (rscan_any hA hm hc hB hl hq).mono fun _ _ ⟨A, m, c, e1, hr, hb⟩ => ⟨A, m, c, e1, hr.at_, hr.1, hr.cap, hb⟩

end Go.Proofs.YtlcnjkonlnfnfaaDoor
