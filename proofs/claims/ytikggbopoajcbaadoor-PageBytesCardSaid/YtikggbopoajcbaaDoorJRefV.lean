/-
  string([]byte{x}). The document's varint, by its contract. The document's Text: by its contract.
-/
import Derived.Test.YtikggbopoajcbaaDoorWords
import Derived.Test.YtikggbopoajcbaaDoorJVars
namespace Go.Proofs.YtikggbopoajcbaaDoor
open Go Go.RowKit

theorem conv_one (x : UInt8) (W : World) :
    (convert 27 9 (.slice (some ⟨W.heap.size, 0, none⟩) 1 1)).run Tryd.prog (W.alloc (.cells #[.int .u8 (x.toNat : Int)] 5)) = .ok (.string (bst [x])) (W.alloc (.cells #[.int .u8 (x.toNat : Int)] 5)) := by
  refine run_convert_bytes_back _ _ _ _ ⟨W.heap.size, 0, none⟩ 1 [x] Tryd.underlying27 Tryd.underlying5 Tryd.underlying9 ?_
  intro j hj
  obtain rfl : j = 0 := by simp at hj; omega
  have e1 : (⟨W.heap.size, 0, none⟩ : Addr).add 0 = ⟨W.heap.size, 0, none⟩ := by unfold Addr.add; simp
  rw [e1]
  exact cell_of_one (heap_alloc_new W _)

theorem conv_num (n : Int) (x : UInt8) (h : n = (x.toNat : Int)) (W : World) :
    (convert 27 9 (.slice (some ⟨W.heap.size, 0, none⟩) 1 1)).run Tryd.prog (W.alloc (.cells #[.int .u8 n] 5)) = .ok (.string (bst [x])) (W.alloc (.cells #[.int .u8 n] 5)) := by
  subst h
  exact conv_one x W

end Go.Proofs.YtikggbopoajcbaaDoor

namespace Go.Proofs.YtikggbopoajcbaaDoor
open Go Go.RowKit

theorem vbytes_prefix (v k : Nat) (h : k < vlen v) : (vbytes v).take (k + 1) = (vbytes v).take k ++ [vbyte v k] := vbytes_take v k h

set_option maxHeartbeats 400000 in
theorem refVar_any (v : Nat) (w : World) (hv : v < 18446744073709551616) :
    Calls Tryd.prog 42 #[.int .u64 (v : Int)] w fun e w' => e = .returned (.string (bst (vbytes v))) ∧ Below w.heap.size w w' := by
  have hL := hid (vlen_isLen v hv)
  have hle := vlen_le v
  go_enter Tryd.func42, Tryd.ntmps42
  go_wp2_with fail
  go_loopw [0, 3] (fun u s wr => ∃ k q : Nat, k < vlen v ∧ q = v / 128 ^ k ∧ u = .int .u64 (q : Int) ∧ s = .string (bst ((vbytes v).take k)) ∧ Below w.heap.size w wr) (fun u _ _ => (intOf u).toNat)
  case atStart => exact ⟨0, v, vlen_pos v, by simp, rfl, by simp [bst], Below.refl _ _⟩
  case round =>
    obtain ⟨k, q, hk, hq, rfl, rfl, hb⟩ := hrel
    have HQ := hid hq
    have hqb : q < 18446744073709551616 := Nat.lt_of_le_of_lt (by rw [hq]; exact Nat.div_le_self _ _) hv
    clear hq
    have hex : ∃ x : UInt8, x = vbyte v k := ⟨_, rfl⟩
    obtain ⟨x, hx⟩ := hex
    have HX := hid hx
    have HT := hid (vbytes_take v k hk)
    have hsz : (bst ((vbytes v).take k)).size + (bst [x]).size ≤ 16 := by rw [bst_size, bst_size, List.length_take]; simp; omega
    by_cases hlt : 128 ≤ q
    · have hk1 : k + 1 < vlen v := by
        refine Classical.byContradiction fun hne => ?_
        have h0 := div_zero_mono v (vlen v) (k + 1) hL.out.2.1 (by omega)
        rw [div_pow_succ, ← HQ.out] at h0
        omega
      have hv1 := vbyte_more hk1 HQ.out
      rw [← hx] at hv1
      have hbyte : (q : Int) % 128 + 128 = (x.toNat : Int) := by rw [hv1]; omega
      have hconv := conv_one x
      clear hv1 hx
      go_wp2_with fail
      go_roundw
      case rel => exact ⟨k + 1, q / 128, hk1, by rw [HQ.out, ← div_pow_succ], by go_num, by rw [bst_append, HT.out, HX.out], hb.alloc hb.size _⟩
      case measure => simp [intOf]; omega
    · have hk1 : k + 1 = vlen v := by
        refine Classical.byContradiction fun hne => ?_
        have h0 := hL.out.2.2 (by omega)
        have h1 := div_zero_mono v (k + 1) (vlen v - 1) (by rw [div_pow_succ, ← HQ.out]; omega) (by omega)
        exact h0 h1
      have hv1 := vbyte_last hk1 HQ.out hL.out
      rw [← hx] at hv1
      have hconv := conv_num q x (by rw [hv1]; omega)
      have HE := hid (show bst ((vbytes v).take k) ++ bst [x] = bst (vbytes v) by rw [bst_append, hx, ← HT.out, List.take_of_length_le (by rw [vbytes_length]; omega)])
      clear hv1 hx
      go_wp2_with fail
      go_ret
      exact ⟨by rw [← HE.out]; rfl, hb.alloc hb.size _⟩

end Go.Proofs.YtikggbopoajcbaaDoor

namespace Go.Proofs.YtikggbopoajcbaaDoor
open Go Go.RowKit

set_option maxHeartbeats 1000000 in
theorem refText_any (s : List UInt8) (w : World) (hs : s.length ≤ 65536) :
    Calls Tryd.prog 43 #[.string (bst s)] w fun e w' => e = .returned (.string (bst (vbytes s.length ++ s))) ∧ Below w.heap.size w w' := by
  have hz := bst_size s
  have hz2 := bst_size (vbytes s.length)
  have hv := vlen_le s.length
  rw [vbytes_length] at hz2
  have hns : ¬ (9223372036854775807 < vlen s.length + s.length) := by omega
  have happ := bst_append (vbytes s.length) s
  have HS := hid hs
  clear hs
  go_enter Tryd.func43, Tryd.ntmps43
  go_wp2_with fail
  go_fit (refVar_any s.length w (by have := HS.out; omega))
  rintro e w1 ⟨rfl, hb⟩
  have HB := hid hb
  clear hb
  go_wp2_with fail
  go_ret
  exact ⟨rfl, HB.out⟩

end Go.Proofs.YtikggbopoajcbaaDoor
