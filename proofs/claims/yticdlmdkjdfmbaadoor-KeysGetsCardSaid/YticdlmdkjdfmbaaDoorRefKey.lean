/-
  The document's Key and Put, by their contracts.
-/
import Derived.Test.YticdlmdkjdfmbaaDoorFns
import Derived.Test.YticdlmdkjdfmbaaDoorRefNum
namespace Go.Proofs.YticdlmdkjdfmbaaDoor
open Go Go.RowKit

theorem ext_one {s : ByteArray} {l : List UInt8} {k : Nat} {x : UInt8} (hs : s = bst l) (hx : l[k]? = some x) : s.extract k (k + 1) = bst [x] := by
  subst hs
  obtain ⟨h1, h2⟩ := List.getElem?_eq_some_iff.1 hx
  apply ByteArray.ext
  simp only [ByteArray.data_extract, bst]
  apply Array.toList_inj.1
  rw [Array.toList_extract]
  simp only [List.extract_eq_take_drop, Nat.add_sub_cancel_left]
  rw [List.drop_eq_getElem_cons h1, List.take_succ_cons, List.take_zero, h2]

set_option maxHeartbeats 1000000 in
theorem refKey_any (k : List UInt8) (w : World) (hk : k.length ≤ 1000) :
    Calls Tryd.prog 25 #[.string (bst k)] w fun e w' => e = .returned (.string (bst (esc k ++ [0, 1]))) ∧ w = w' := by
  obtain ⟨s, hs⟩ : ∃ s, s = bst k := ⟨_, rfl⟩
  have hsz : s.size = k.length := by rw [hs, bst_size]
  have hle : s.size ≤ 1000 := by omega
  have HS := hid hs
  have HZ := hid hsz
  have HK := hid hk
  rw [← hs]
  clear hs hsz hk
  go_enter Tryd.func25, Tryd.ntmps25
  go_wp2_with fail
  go_loop [3, 4] (fun u i => ∃ n : Nat, n ≤ s.size ∧ u = .string (bst (esc (k.take n))) ∧ i = .int .i64 (n : Int)) (fun _ i => s.size - (intOf i).toNat)
  case atStart => exact ⟨0, Nat.zero_le _, rfl, rfl⟩
  case round =>
    obtain ⟨n, hn, rfl, rfl⟩ := hrel
    have hel : (bst (esc (k.take n))).size ≤ 2000 := by rw [bst_size]; have := esc_length (k.take n); have := HZ.out; simp at *; omega
    by_cases hlt : n < s.size
    · have hex : ∃ x, k[n]? = some x := ⟨_, List.getElem?_eq_getElem (by rw [← HZ.out]; exact hlt)⟩
      obtain ⟨x, hx⟩ := hex
      have hsk := bst_get HS.out hx hlt
      have hext := ext_one HS.out hx
      have HTK := hid (show k.take (n + 1) = k.take n ++ [x] by rw [List.take_succ_eq_append_getElem (by rw [← HZ.out]; exact hlt), (List.getElem?_eq_some_iff.1 hx).2])
      have hone : (bst [x]).size = 1 := rfl
      clear hx
      by_cases hx0 : x = 0
      · subst hx0
        go_wp2_with fail
        go_round
        case rel => exact ⟨n + 1, by omega, by rw [HTK.out, esc_snoc_zero, ← bst_append, ← bst_append]; rfl, by go_num⟩
        case measure => simp [intOf]; omega
      · have hz : ((x.toNat : Int) == 0) = false := by
          have := u8_ne hx0
          simp at *; omega
        have HX := hid hx0
        clear hx0
        go_wp2_with fail
        go_round
        case rel => exact ⟨n + 1, by omega, by rw [HTK.out, esc_snoc _ HX.out, ← bst_append], by go_num⟩
        case measure => simp [intOf]; omega
    · obtain rfl : n = s.size := by omega
      have hfull : k.take s.size = k := List.take_of_length_le (by rw [HZ.out]; exact Nat.le_refl _)
      rw [hfull] at hel ⊢
      have HA := hid (bst_append (esc k) [0, 1])
      clear hfull
      go_wp2_with fail
      go_ret
      exact ⟨by rw [← HA.out]; rfl, rfl⟩

set_option maxHeartbeats 400000 in
theorem refKPut_any (k : List UInt8) (t : Nat) (w : World) (hk : k.length ≤ 64) (ht : t ≤ 18446744073709551615) :
    Calls Tryd.prog 13 #[.string (bst k), .int .u64 (t : Int)] w fun e w' =>
      e = .returned (.tuple #[.string (bst (kput k t)), .int .i64 0]) ∧ Below w.heap.size w w' := by
  have hsz := bst_size k
  have HK := hid hk
  have hsub : (18446744073709551615 : Int) - (t : Int) = ((18446744073709551615 - t : Nat) : Int) := by omega
  have hs1 : (bst (esc k ++ [0, 1])).size ≤ 200 := by rw [bst_size]; have := esc_length k; simp; omega
  have hs2 : (bst (be (18446744073709551615 - t) 8)).size = 8 := by rw [bst_size, be_length]
  have HE := hid (bst_append (esc k ++ [0, 1]) (be (18446744073709551615 - t) 8))
  go_enter Tryd.func13, Tryd.ntmps13
  go_wp2_with fail
  go_fit (refPut_yes (18446744073709551615 - t) 8 w (by decide) (by decide) (by omega))
  rintro e w1 ⟨rfl, hb1⟩
  go_wp2_with fail
  go_fit (refKey_any k w1 (by have := HK.out; omega))
  rintro e w2 ⟨rfl, rfl⟩
  go_wp2_with fail
  go_ret2
  exact ⟨by rw [HE.out]; rfl, hb1⟩
set_option maxHeartbeats 400000 in
theorem refKPut_long (k : List UInt8) (t : Int) (w : World) (hk : 64 < k.length) :
    Calls Tryd.prog 13 #[.string (bst k), .int .u64 t] w fun e w' => e = .returned (.tuple #[.string (bst []), .int .i64 41]) ∧ w = w' := by
  have hsz := bst_size k
  go_enter Tryd.func13, Tryd.ntmps13
  go_wp2_with fail
  go_ret2
  exact ⟨rfl, rfl⟩

end Go.Proofs.YticdlmdkjdfmbaaDoor
