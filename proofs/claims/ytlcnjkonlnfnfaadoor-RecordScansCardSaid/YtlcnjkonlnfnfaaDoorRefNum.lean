/-
  The document's numbers in n bytes, by their contracts.
-/
import Derived.Test.YtlcnjkonlnfnfaaDoorJNum
import Derived.Test.YtlcnjkonlnfnfaaDoorConv
namespace Go.Proofs.YtlcnjkonlnfnfaaDoor
open Go Go.RowKit

theorem mul_add_wrap (q : Nat) (x : UInt8) (h : q < 72057594037927936) : IntKind.u64.wrap (IntKind.u64.wrap (256 * (q : Int)) + IntKind.u64.wrap (x.toNat : Int)) = ((256 * q + x.toNat : Nat) : Int) := by
  have := x.toNat_lt
  rw [IntKind.wrap_u64, IntKind.wrap_u64, IntKind.wrap_u64]; omega

set_option maxHeartbeats 400000 in
theorem refPut_no (v n : Int) (w : World) (h : ¬ (1 ≤ n ∧ n ≤ 8)) :
    Calls Tryd.prog 26 #[.int .u64 v, .int .i64 n] w fun e w' => e = .returned (.tuple #[.string (bst []), .bool false]) ∧ w = w' := by
  have h2 : n < 1 ∨ (1 ≤ n ∧ 8 < n) := by omega
  rcases h2 with h2 | ⟨h2, h3⟩
  all_goals
    clear h
    go_enter Tryd.func26, Tryd.ntmps26
    go_wp2
    go_ret2
    exact ⟨rfl, rfl⟩

set_option maxHeartbeats 400000 in
theorem refPut_yes (v n : Nat) (w : World) (h1 : 1 ≤ n) (h8 : n ≤ 8) (hv : v < 18446744073709551616) :
    Calls Tryd.prog 26 #[.int .u64 (v : Int), .int .i64 (n : Int)] w fun e w' => e = .returned (.tuple #[.string (bst (be v n)), .bool (v / 256 ^ n == 0)]) ∧ Below w.heap.size w w' := by
  go_enter Tryd.func26, Tryd.ntmps26
  go_wp2_with fail
  go_loopw [0, 6, 7] (fun u s i wr => ∃ k q : Nat, k ≤ n ∧ q = v / 256 ^ k ∧ u = .int .u64 (q : Int) ∧ s = .string (bst (be v k)) ∧ i = .int .i64 (k : Int) ∧ Below w.heap.size w wr) (fun _ _ i _ => n - (intOf i).toNat)
  case atStart => exact ⟨0, v, by omega, by simp, rfl, rfl, rfl, Below.refl _ _⟩
  case round =>
    obtain ⟨k, q, hk, hq, rfl, rfl, rfl, hb⟩ := hrel
    have HQ := hid hq
    clear hq
    by_cases hlt : k < n
    · have hex : ∃ x : UInt8, x = UInt8.ofNat q := ⟨_, rfl⟩
      obtain ⟨x, hx⟩ := hex
      have hbyte : (q : Int) % 256 = (x.toNat : Int) := by rw [hx, UInt8.toNat_ofNat']; omega
      have HX := hid hx
      have hconv := conv_one x
      clear hx
      have hsz : (bst [x]).size + (bst (be v k)).size ≤ 16 := by rw [bst_size, bst_size, be_length]; simp; omega
      have hqb : q < 18446744073709551616 := Nat.lt_of_le_of_lt (by rw [HQ.out]; exact Nat.div_le_self _ _) hv
      go_wp2_with fail
      go_roundw
      case rel => exact ⟨k + 1, q / 256, by omega, by rw [HQ.out, Nat.pow_succ, Nat.div_div_eq_div_mul], by go_num, by rw [bst_append, be_succ, HX.out, HQ.out]; rfl, by go_num, hb.alloc hb.size _⟩
      case measure => simp [intOf]; omega
    · obtain rfl : k = n := by omega
      have e2 : ((q : Int) == 0) = (v / 256 ^ k == 0) := by rw [← HQ.out, Bool.eq_iff_iff]; simp
      go_wp2_with fail
      go_ret2
      exact ⟨rfl, hb⟩

set_option maxHeartbeats 400000 in
theorem refGet_any (l : List UInt8) (w : World) (hl : l.length ≤ 8) :
    Calls Tryd.prog 34 #[.string (bst l)] w fun e w' => e = .returned (.int .u64 (ofBe l : Int)) ∧ w = w' := by
  obtain ⟨s, hs⟩ : ∃ s, s = bst l := ⟨_, rfl⟩
  have hsz : s.size = l.length := by rw [hs, bst_size]
  have hle : s.size ≤ 8 := by omega
  have HS := hid hs
  have HZ := hid hsz
  rw [← hs]
  clear hs hsz
  go_enter Tryd.func34, Tryd.ntmps34
  go_wp2_with fail
  go_loop [3, 4] (fun u i => ∃ k q : Nat, k ≤ s.size ∧ q = ofBe (l.take k) ∧ u = .int .u64 (q : Int) ∧ i = .int .i64 (k : Int)) (fun _ i => s.size - (intOf i).toNat)
  case atStart => exact ⟨0, 0, by omega, by simp [ofBe], rfl, rfl⟩
  case round =>
    obtain ⟨k, q, hk, hq, rfl, rfl⟩ := hrel
    have HQ := hid hq
    clear hq
    by_cases hlt : k < s.size
    · have hqb : q < 256 ^ k := by
        have := ofBe_lt (l.take k)
        rw [← HQ.out, List.length_take, ← HZ.out, Nat.min_eq_left (by omega)] at this
        exact this
      have hqs : q < 72057594037927936 := Nat.lt_of_lt_of_le hqb (Nat.pow_le_pow_right (n := 256) (i := k) (j := 7) (by decide) (by omega))
      have hex : ∃ x, l[k]? = some x := ⟨_, List.getElem?_eq_getElem (by rw [← HZ.out]; exact hlt)⟩
      obtain ⟨x, hx⟩ := hex
      have hsk := bst_get HS.out hx hlt
      have HV := hid (mul_add_wrap q x hqs)
      have HN := hid (ofBe_take_succ hx)
      clear hqb hx hqs
      go_wp2_with fail
      go_round
      case rel => exact ⟨k + 1, _, by omega, by rw [HN.out, ← HQ.out], congrArg (Value.int .u64) HV.out, by go_num⟩
      case measure => simp [intOf]; omega
    · obtain rfl : k = s.size := by omega
      have HE := hid (show q = ofBe l by rw [HQ.out, List.take_of_length_le (by rw [HZ.out]; exact Nat.le_refl _)])
      go_wp2_with fail
      go_ret
      exact ⟨by rw [← HE.out]; rfl, rfl⟩

end Go.Proofs.YtlcnjkonlnfnfaaDoor
