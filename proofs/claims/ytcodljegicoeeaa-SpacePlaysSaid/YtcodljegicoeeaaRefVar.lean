/-
  The document's varint, by its contract.
-/
import Derived.Test.YtcodljegicoeeaaPutVar
import Derived.Test.YtcodljegicoeeaaConv
namespace Go.Proofs.Ytcodljegicoeeaa
open Go Go.RowKit

theorem vbytes_prefix (v k : Nat) (h : k < vlen v) : (vbytes v).take (k + 1) = (vbytes v).take k ++ [vbyte v k] := vbytes_take v k h

set_option maxHeartbeats 400000 in
theorem refVar_any (v : Nat) (w : World) (hv : v < 18446744073709551616) :
    Calls Try.prog 36 #[.int .u64 (v : Int)] w fun e w' => e = .returned (.string (bst (vbytes v))) ∧ Below w.heap.size w w' := by
  have hL := hid (vlen_isLen v hv)
  have hle := vlen_le v
  go_enter Try.func36, Try.ntmps36
  go_wp2_with fail
  go_loopw [0, 3] (fun u s wr => ∃ k q : Nat, k < vlen v ∧ q = v / 128 ^ k ∧ u = .int .u64 (q : Int) ∧ s = .string (bst ((vbytes v).take k)) ∧ Below w.heap.size w wr) (fun u _ _ => (intOf u).toNat)
  case atStart => exact ⟨0, v, vlen_pos v, by simp, rfl, by simp [bst], Below.refl _ _⟩
  case round =>
    obtain ⟨k, q, hk, hq, rfl, rfl, hb⟩ := hrel
    have HQ := hid hq
    have hqb : q < 18446744073709551616 := Nat.lt_of_le_of_lt (by rw [hq]; exact Nat.div_le_self _ _) hv
    clear hq
    have hex : ∃ x : UInt8, x = vbyte v k := ⟨_, rfl⟩
    obtain ⟨x, hx⟩ := hex
    have HX := hid hx
    have HT := hid (vbytes_take v k hk)
    have hsz : (bst ((vbytes v).take k)).size + (bst [x]).size ≤ 16 := by rw [bst_size, bst_size, List.length_take]; simp; omega
    by_cases hlt : 128 ≤ q
    · have hk1 : k + 1 < vlen v := by
        refine Classical.byContradiction fun hne => ?_
        have h0 := div_zero_mono v (vlen v) (k + 1) hL.out.2.1 (by omega)
        rw [div_pow_succ, ← HQ.out] at h0
        omega
      have hv1 := vbyte_more hk1 HQ.out
      rw [← hx] at hv1
      have hbyte : (q : Int) % 128 + 128 = (x.toNat : Int) := by rw [hv1]; omega
      have hconv := conv_one x
      clear hv1 hx
      go_wp2_with fail
      go_roundw
      case rel => exact ⟨k + 1, q / 128, hk1, by rw [HQ.out, ← div_pow_succ], by go_num, by rw [bst_append, HT.out, HX.out], hb.alloc hb.size _⟩
      case measure => simp [intOf]; omega
    · have hk1 : k + 1 = vlen v := by
        refine Classical.byContradiction fun hne => ?_
        have h0 := hL.out.2.2 (by omega)
        have h1 := div_zero_mono v (k + 1) (vlen v - 1) (by rw [div_pow_succ, ← HQ.out]; omega) (by omega)
        exact h0 h1
      have hv1 := vbyte_last hk1 HQ.out hL.out
      rw [← hx] at hv1
      have hconv := conv_num q x (by rw [hv1]; omega)
      have HE := hid (show bst ((vbytes v).take k) ++ bst [x] = bst (vbytes v) by rw [bst_append, hx, ← HT.out, List.take_of_length_le (by rw [vbytes_length]; omega)])
      clear hv1 hx
      go_wp2_with fail
      go_ret
      exact ⟨by rw [← HE.out]; rfl, hb.alloc hb.size _⟩

end Go.Proofs.Ytcodljegicoeeaa
