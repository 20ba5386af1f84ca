/-
  torn: what a write leaves of which so many bytes survive.
-/
import Derived.Test.YtlemoaigcakmcaaDisk
import Derived.Test.YtlemoaigcakmcaaStrCut
import Derived.Lib.MinMax
import Derived.BigQuiet
import Derived.Deep.QuietTactic
namespace Go.Proofs.Ytlemoaigcakmcaa
open Go Go.RowKit

set_option maxHeartbeats 1000000 in
set_option maxRecDepth 100000 in
theorem torn_is (b old : List UInt8) (n : Int) (w : World) (hb : b.length ≤ 512) (ho : old.length ≤ 512) :
    Calls Try.prog 27 #[.string (bst b), .string (bst old), .int .i64 n] w fun e w' => e = .returned (.string (bst (torn b (some old) n))) ∧ Below w.heap.size w w' := by
  have zb := bst_size b
  have zo := bst_size old
  unfold torn
  by_cases h : (b.length : Int) ≤ n
  · rw [if_pos h]
    go_enter Try.func27, Try.ntmps27
    go_wp2_with fail
    go_ret
    exact ⟨rfl, Below.refl _ _⟩
  · rw [if_neg h]
    obtain ⟨k, hk, hkb⟩ : ∃ k : Nat, max n 0 = (k : Int) ∧ k < b.length + 1 := ⟨n.toNat, by omega, by omega⟩
    have hkn : n.toNat = k := by omega
    rw [hkn]
    obtain ⟨j, hj, hjo⟩ : ∃ j : Nat, min (k : Int) (old.length : Int) = (j : Int) ∧ j ≤ old.length := ⟨min k old.length, by omega, by omega⟩
    have hdr : old.drop j = old.drop k := by
      by_cases hc : k ≤ old.length
      · rw [show j = k by omega]
      · rw [List.drop_of_length_le (by omega), List.drop_of_length_le (by omega)]
    rw [show ((some old).getD [] : List UInt8) = old from rfl, ← hdr]
    have e1 := bstTake b k
    have e2 := bstDrop old j
    have e3 := bst_append (b.take k) (old.drop j)
    clear hkn hdr
    go_enter Try.func27, Try.ntmps27
    go_wp2_with fail
    clear hk h
    have hkb2 : k ≤ b.length := by omega
    clear hkb
    have hsum : ¬ 9223372036854775807 < (bst (b.take k)).size + (bst (old.drop j)).size := by
      rw [bst_size, bst_size, List.length_take, List.length_drop]; omega
    go_quiet (fail)
    go_wp2_with fail
    go_ret
    exact ⟨rfl, below_drewN (Below.refl _ _) _⟩

end Go.Proofs.Ytlemoaigcakmcaa
