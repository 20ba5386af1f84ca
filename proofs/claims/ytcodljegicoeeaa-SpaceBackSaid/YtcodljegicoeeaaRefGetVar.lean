/-
  The document's reading of a varint, by its contract.
-/
import Derived.Test.YtcodljegicoeeaaGetVar
namespace Go.Proofs.Ytcodljegicoeeaa
open Go Go.RowKit

theorem sum_wrap {q k p : Nat} {x : UInt8} (hp : p = 128 ^ k) (hq : q < 128 ^ k) (hk : k ≤ 8 ∨ k ≤ 9 ∧ x.toNat ≤ 1) :
    IntKind.u64.wrap ((q : Int) + IntKind.u64.wrap ((x.toNat : Int) % 128 * (p : Int))) = ((q + x.toNat % 128 * 128 ^ k : Nat) : Int) := by
  rw [← hp] at hq ⊢
  have hm : x.toNat % 128 * p ≤ 9223372036854775808 := by
    rcases hk with h | ⟨h, h1⟩
    · have h8 : p ≤ 128 ^ 8 := by rw [hp]; exact Nat.pow_le_pow_right (by decide) h
      have : x.toNat % 128 * p ≤ 127 * 128 ^ 8 := Nat.mul_le_mul (by omega) h8
      omega
    · have h8 : p ≤ 128 ^ 9 := by rw [hp]; exact Nat.pow_le_pow_right (by decide) h
      have : x.toNat % 128 * p ≤ 1 * 128 ^ 9 := Nat.mul_le_mul (by omega) h8
      omega
  have h9 : p ≤ 9223372036854775808 := by
    have : p ≤ 128 ^ 9 := by rw [hp]; exact Nat.pow_le_pow_right (by decide) (by omega)
    omega
  have e : (x.toNat : Int) % 128 * (p : Int) = ((x.toNat % 128 * p : Nat) : Int) := by simp
  rw [e, IntKind.wrap_u64, IntKind.wrap_u64]
  omega
theorem power_wrap {k p : Nat} (hp : p = 128 ^ k) (hk : k ≤ 8) : IntKind.u64.wrap ((p : Int) * 128) = ((128 ^ (k + 1) : Nat) : Int) := by
  have h8 : p ≤ 128 ^ 8 := by rw [hp]; exact Nat.pow_le_pow_right (by decide) hk
  rw [Nat.pow_succ, ← hp, IntKind.wrap_u64]
  omega
theorem ret3i {a b c d : Int} {e : Value} (h : a = b) (h2 : c = d) : Ending.returned (.tuple #[.int .u64 a, .int .i64 c, e]) = Ending.returned (.tuple #[.int .u64 b, .int .i64 d, e]) := by rw [h, h2]

set_option maxRecDepth 100000 in
set_option maxHeartbeats 1000000 in
theorem refGetVar_any (l : List UInt8) (w : World) (hl : l.length ≤ 70000) :
    Calls Try.prog 41 #[.string (bst l)] w fun e w' =>
      e = .returned (.tuple #[.int .u64 ((rdv 0 0 l).1 : Int), .int .i64 ((rdv 0 0 l).2.1 : Int), .int .i64 ((rdv 0 0 l).2.2 : Int)]) ∧ w = w' := by
  obtain ⟨o, ho⟩ : ∃ o, o = rdv 0 0 l := ⟨_, rfl⟩
  rw [← ho]
  have HR := hid ho
  clear ho
  obtain ⟨s, hs⟩ : ∃ s, s = bst l := ⟨_, rfl⟩
  have hsz : s.size = l.length := by rw [hs, bst_size]
  have hle : s.size ≤ 70000 := by omega
  have HS := hid hs
  have HZ := hid hsz
  rw [← hs]
  clear hs hsz
  go_enter Try.func41, Try.ntmps41
  go_wp2_with fail
  go_loop [5, 6, 7] (fun u p i => ∃ k q : Nat, k ≤ 9 ∧ k ≤ s.size ∧ q < 128 ^ k ∧ o = rdv k q (l.drop k) ∧ u = .int .u64 (q : Int) ∧ p = .int .u64 ((128 ^ k : Nat) : Int) ∧ i = .int .i64 (k : Int)) (fun _ _ i => 20 - (intOf i).toNat)
  case atStart => exact ⟨0, 0, by omega, by omega, by simp, by simpa using HR.out, rfl, rfl, rfl⟩
  case round =>
    obtain ⟨k, q, hk9, hk, hq, hrd, rfl, rfl, rfl⟩ := hrel
    have HQ := hid hq
    have HD := hid hrd
    clear hq hrd
    obtain ⟨p, hp⟩ : ∃ p, p = 128 ^ k := ⟨_, rfl⟩
    rw [← hp]
    have HP := hid hp
    clear hp
    by_cases hlt : k < s.size
    · have hex : ∃ x, l[k]? = some x := ⟨_, List.getElem?_eq_getElem (by rw [← HZ.out]; exact hlt)⟩
      obtain ⟨x, hx⟩ := hex
      have hsk := bst_get HS.out hx hlt
      have hdrop := hid (drop_cons hx)
      clear hx
      by_cases h128 : x.toNat < 128
      · by_cases hf : k = 9 ∧ 1 < x.toNat ∨ x.toNat = 0 ∧ 0 < k
        · have HF := hid (HD.out.trans (by rw [hdrop.out, rdv_form hf]))
          have hways : (9 ≤ k ∧ 2 ≤ x.toNat) ∨ (k ≤ 8 ∧ 1 ≤ k ∧ x.toNat ≤ 0) ∨ (9 ≤ k ∧ x.toNat ≤ 0) := by omega
          clear hf
          rcases hways with ⟨h1, h2⟩ | ⟨h1, h2, h3⟩ | ⟨h1, h2⟩
          · have hx0 : ((x.toNat : Int) == 0) = false := by simp; omega
            go_wp2_with fail
            go_ret3
            exact ⟨by rw [HF.out]; rfl, rfl⟩
          · have hx0 : ((x.toNat : Int) == 0) = true := by simp; omega
            go_wp2_with fail
            go_ret3
            exact ⟨by rw [HF.out]; rfl, rfl⟩
          · have hx0 : ((x.toNat : Int) == 0) = true := by simp; omega
            go_wp2_with fail
            go_ret3
            exact ⟨by rw [HF.out]; rfl, rfl⟩
        · have HV := hid (HD.out.trans (by rw [hdrop.out, rdv_last hf h128]))
          have hways : (9 ≤ k ∧ 1 ≤ x.toNat ∧ x.toNat ≤ 1) ∨ (k ≤ 0 ∧ x.toNat ≤ 0) ∨ (k ≤ 8 ∧ 1 ≤ x.toNat) := by omega
          clear hf
          rcases hways with ⟨h1, h2, h3⟩ | ⟨h1, h2⟩ | ⟨h1, h2⟩
          · have hx0 : ((x.toNat : Int) == 0) = false := by simp; omega
            have hval := hid (sum_wrap (x := x) HP.out HQ.out (by omega))
            rw [Nat.mod_eq_of_lt h128] at hval
            have hk10 : (10 : Int) = ((k + 1 : Nat) : Int) := by omega
            have HK := hid hk10
            clear hk10
            go_wp2_with fail
            all_goals
              go_ret3
              refine ⟨?_, rfl⟩
              rw [HV.out]
              exact ret3i hval.out HK.out
          · have hx0 : ((x.toNat : Int) == 0) = true := by simp; omega
            have hval := hid (sum_wrap (x := x) HP.out HQ.out (by omega))
            rw [Nat.mod_eq_of_lt h128] at hval
            have hk10 : ((k : Int) + 1 : Int) = ((k + 1 : Nat) : Int) := by omega
            have HK := hid hk10
            clear hk10
            go_wp2_with fail
            all_goals
              go_ret3
              refine ⟨?_, rfl⟩
              rw [HV.out]
              exact ret3i hval.out HK.out
          · have hx0 : ((x.toNat : Int) == 0) = false := by simp; omega
            have hval := hid (sum_wrap (x := x) HP.out HQ.out (by omega))
            rw [Nat.mod_eq_of_lt h128] at hval
            have hk10 : ((k : Int) + 1 : Int) = ((k + 1 : Nat) : Int) := by omega
            have HK := hid hk10
            clear hk10
            go_wp2_with fail
            all_goals
              go_ret3
              refine ⟨?_, rfl⟩
              rw [HV.out]
              exact ret3i hval.out HK.out
      · by_cases h9 : 9 ≤ k
        · have HF := hid (HD.out.trans (by rw [hdrop.out, rdv_form (by omega)]))
          go_wp2_with fail
          go_ret3
          exact ⟨by rw [HF.out]; rfl, rfl⟩
        · have HF := hid (HD.out.trans (by rw [hdrop.out, rdv_more (by omega) h128]))
          have hval := hid (sum_wrap (x := x) HP.out HQ.out (by omega))
          have hx := x.toNat_lt
          rw [show x.toNat % 128 = x.toNat - 128 by omega] at hval
          clear hx
          have hx0 : ((x.toNat : Int) == 0) = false := by simp; omega
          go_wp2_with fail
          all_goals
            go_round
            case rel => exact ⟨k + 1, _, by omega, by omega, more_lt HQ.out, HF.out, congrArg (Value.int .u64) hval.out, congrArg (Value.int .u64) (power_wrap HP.out (by omega)), by go_num⟩
            case measure => simp [intOf]; omega
    · have HF := hid (HD.out.trans (by rw [List.drop_eq_nil_of_le (by rw [← HZ.out]; omega)]))
      go_wp2_with fail
      go_ret3
      exact ⟨by rw [HF.out]; rfl, rfl⟩

theorem refGetVar_is {s : List UInt8} {v n e0 : Nat} {w : World} (hr : rdv 0 0 s = (v, n, e0)) (hl : s.length ≤ 70000) :
    Calls Try.prog 41 #[.string (bst s)] w fun e w' => e = .returned (.tuple #[.int .u64 (v : Int), .int .i64 (n : Int), .int .i64 (e0 : Int)]) ∧ w = w' := by
  have h := refGetVar_any s w hl
  rw [hr] at h
  exact h

end Go.Proofs.Ytcodljegicoeeaa
