/-
  The document's Text: by its contract.
-/
import Derived.Test.YtlcnjkonlnfnfaaDoorRefVar
namespace Go.Proofs.YtlcnjkonlnfnfaaDoor
open Go Go.RowKit

set_option maxHeartbeats 1000000 in
theorem refText_any (s : List UInt8) (w : World) (hs : s.length ≤ 65536) :
    Calls Tryd.prog 25 #[.string (bst s)] w fun e w' => e = .returned (.string (bst (vbytes s.length ++ s))) ∧ Below w.heap.size w w' := by
  have hz := bst_size s
  have hz2 := bst_size (vbytes s.length)
  have hv := vlen_le s.length
  rw [vbytes_length] at hz2
  have hns : ¬ (9223372036854775807 < vlen s.length + s.length) := by omega
  have happ := bst_append (vbytes s.length) s
  have HS := hid hs
  clear hs
  go_enter Tryd.func25, Tryd.ntmps25
  go_wp2_with fail
  go_fit (refVar_any s.length w (by have := HS.out; omega))
  rintro e w1 ⟨rfl, hb⟩
  have HB := hid hb
  clear hb
  go_wp2_with fail
  go_ret
  exact ⟨rfl, HB.out⟩

end Go.Proofs.YtlcnjkonlnfnfaaDoor
