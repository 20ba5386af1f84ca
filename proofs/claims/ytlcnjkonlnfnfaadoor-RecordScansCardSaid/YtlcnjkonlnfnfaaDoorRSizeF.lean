/-
  record.Size: two lengths of numbers, in the text's order.
-/
import Derived.Test.YtlcnjkonlnfnfaaDoorRec
import Derived.Test.YtlcnjkonlnfnfaaDoorJBytes
import Derived.Test.YtlcnjkonlnfnfaaDoorJVars
namespace Go.Proofs.YtlcnjkonlnfnfaaDoor
open Go Go.RowKit

set_option maxHeartbeats 800000 in
set_option maxRecDepth 100000 in
theorem rsize_any {q : Nat} {b : List UInt8} {w : World} (hq : q < 18446744073709551616) (h4 : b.length ≤ 40000) :
    Calls Tryd.prog 11 #[.agg #[.int .u64 (q : Int), .string (bst b)]] w fun e w' => e = .returned (.int .i64 ((renc q b).length : Int)) ∧ Below w.heap.size w w' := by
  have z := bst_size b
  have HQ := hid hq
  have HL := hid (show b.length < 18446744073709551616 by omega)
  have hb1 : Below w.heap.size w (w.alloc (.cells #[.int .u64 (q : Int), .string (bst b)] 24)) := (Below.refl _ _).alloc (Nat.le_refl _) _
  have HB1 := hid hb1
  have HX1 := hid (Blk.new w 24 #[.int .u64 (q : Int), .string (bst b)])
  have hv1 := vlen_le q
  have hv2 := vlen_le b.length
  have hr := renc_length q b
  have hs1 := fun (W : World) => size_any q W HQ.out
  have hs2 := fun (W : World) => size_any b.length W HL.out
  generalize vlen q = V at *
  generalize vlen b.length = U at *
  generalize (renc q b).length = R at *
  have HS1 := hid hs1
  have HS2 := hid hs2
  have HSUM := hid (show 4 + (V : Int) + (U : Int) + (b.length : Int) + 4 = (R : Int) by omega)
  clear hq hb1 hs1 hs2 hr
  go_enter Tryd.func11, Tryd.ntmps11
  go_wp2_with fail
  generalize w.alloc (.cells #[.int .u64 (q : Int), .string (bst b)] 24) = w1 at *
  have x0 := HX1.out.cell 0
  have x1 := HX1.out.cell 1
  go_wp2_with fail
  go_fit (HS1.out w1)
  rintro e w2 ⟨rfl, rfl⟩
  go_wp2_with fail
  go_fit (HS2.out w1)
  rintro e w2 ⟨rfl, rfl⟩
  go_wp2_with fail
  rw [HSUM.out]
  go_ret
  exact ⟨rfl, HB1.out⟩

end Go.Proofs.YtlcnjkonlnfnfaaDoor
