/-
  keys.Put of a key that is too long; keys.First: by their contracts.
-/
import Derived.Test.YticdlmdkjdfmbaaDoorKPut
namespace Go.Proofs.YticdlmdkjdfmbaaDoor
open Go Go.RowKit

set_option maxHeartbeats 400000 in
theorem kput_long (k : List UInt8) (t : Int) (w : World) (hk : 64 < k.length) :
    Calls Tryd.prog 12 #[.string (bst k), .int .u64 t] w fun e w' => e = .returned (.tuple #[.slice none 0 0, .int .i64 41]) ∧ w = w' := by
  have hsz := bst_size k
  go_enter Tryd.func12, Tryd.ntmps12
  go_wp2_with fail
  go_ret2
  exact ⟨rfl, rfl⟩

set_option maxHeartbeats 400000 in
theorem kfirst_any (k : List UInt8) (w : World) (hk : k.length ≤ 64) (hT : Table w) :
    Calls Tryd.prog 14 #[.string (bst k)] w fun e w' =>
      ∃ A' m' c', e = .returned (.tuple #[.slice A' m' c', .int .i64 0]) ∧ Row w' w.heap.size 5 A' m' c' (kput k 18446744073709551615) ∧ Below w.heap.size w w' := by
  have HT := hid hT
  have HK := hid hk
  clear hT hk
  go_enter Tryd.func14, Tryd.ntmps14
  go_wp2_with fail
  go_fit (kput_any k 18446744073709551615 w HK.out (Nat.le_refl _) HT.out)
  rintro e w1 ⟨A1, m1, c1, rfl, hr1, hb1⟩
  go_wp2_with fail
  go_ret2
  exact ⟨A1, m1, c1, rfl, hr1, hb1⟩
set_option maxHeartbeats 400000 in
theorem kfirst_long (k : List UInt8) (w : World) (hk : 64 < k.length) :
    Calls Tryd.prog 14 #[.string (bst k)] w fun e w' => e = .returned (.tuple #[.slice none 0 0, .int .i64 41]) ∧ w = w' := by
  have HK := hid hk
  clear hk
  go_enter Tryd.func14, Tryd.ntmps14
  go_wp2_with fail
  go_fit (kput_long k 18446744073709551615 w HK.out)
  rintro e w1 ⟨rfl, rfl⟩
  go_wp2_with fail
  go_ret2
  exact ⟨rfl, rfl⟩

end Go.Proofs.YticdlmdkjdfmbaaDoor
