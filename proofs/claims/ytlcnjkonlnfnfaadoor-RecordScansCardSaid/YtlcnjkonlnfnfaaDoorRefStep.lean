/-
  The document's step of a register, by its contract.
-/
import Derived.Test.YtlcnjkonlnfnfaaDoorJSum
import Derived.Test.YtlcnjkonlnfnfaaDoorJBytes
import Derived.Deep.DeepFit
namespace Go.Proofs.YtlcnjkonlnfnfaaDoor
open Go Go.RowKit

theorem xor_mod (a b k : Nat) : (a ^^^ b) % 2 ^ (k + 1) = (a ^^^ b) % 2 ^ k + (if a / 2 ^ k % 2 = b / 2 ^ k % 2 then 0 else 2 ^ k) := by
  have e : (a ^^^ b) / 2 ^ k % 2 = if a / 2 ^ k % 2 = b / 2 ^ k % 2 then 0 else 1 := by
    rw [Nat.xor_div_two_pow]
    have h1 := Nat.mod_two_eq_zero_or_one (a / 2 ^ k)
    have h2 := Nat.mod_two_eq_zero_or_one (b / 2 ^ k)
    have h3 := Nat.xor_mod_two_pow (a := a / 2 ^ k) (b := b / 2 ^ k) (n := 1)
    rw [Nat.pow_one] at h3
    rw [h3]
    rcases h1 with h1 | h1 <;> rcases h2 with h2 | h2 <;> rw [h1, h2] <;> rfl
  rw [Nat.mod_pow_succ, e]
  congr 1
  split <;> simp

set_option maxHeartbeats 400000 in
theorem turned_any (a b : BitVec 32) (w : World) :
    Calls Tryd.prog 64 #[.int .u64 (v32 a), .int .u64 (v32 b)] w fun e w' => e = .returned (.int .u64 (v32 (a ^^^ b))) ∧ w = w' := by
  have ha := a.isLt
  have hb := b.isLt
  obtain ⟨A, hA⟩ : ∃ A, A = a.toNat := ⟨_, rfl⟩
  obtain ⟨B, hB⟩ : ∃ B, B = b.toNat := ⟨_, rfl⟩
  have e1 : v32 a = (A : Int) := by rw [hA]; rfl
  have e2 : v32 b = (B : Int) := by rw [hB]; rfl
  have e3 : v32 (a ^^^ b) = ((A ^^^ B : Nat) : Int) := by unfold v32; rw [BitVec.toNat_xor, hA, hB]
  rw [e1, e2, e3]
  rw [← hA] at ha
  rw [← hB] at hb
  have HX := hid (Nat.mod_eq_of_lt (Nat.xor_lt_two_pow ha hb))
  have HA := hid ha
  have HB := hid hb
  clear e1 e2 e3 hA hB ha hb
  go_enter Tryd.func64, Tryd.ntmps64
  go_wp2
  go_loop [0, 1, 5, 6, 7] (fun u v o p i => ∃ k : Nat, k ≤ 32 ∧ i = .int .i64 (k : Int) ∧ u = .int .u64 ((A / 2 ^ k : Nat) : Int) ∧ v = .int .u64 ((B / 2 ^ k : Nat) : Int) ∧ p = .int .u64 ((2 ^ k : Nat) : Int) ∧ o = .int .u64 (((A ^^^ B) % 2 ^ k : Nat) : Int)) (fun _ _ _ _ i => 32 - (intOf i).toNat)
  case atStart => exact ⟨0, Nat.zero_le _, rfl, by simp, by simp, rfl, by simp [Nat.mod_one]⟩
  case round =>
    obtain ⟨k, hk, rfl, rfl, rfl, rfl, rfl⟩ := hrel
    by_cases hlt : k < 32
    · have hu := Nat.div_le_self A (2 ^ k)
      have hv := Nat.div_le_self B (2 ^ k)
      have hp : 2 ^ k ≤ 2 ^ 31 := Nat.pow_le_pow_right (by decide) (by omega)
      have ho := Nat.mod_lt (A ^^^ B) (Nat.pow_pos (by decide) : 0 < 2 ^ k)
      have hm := xor_mod A B k
      have d1 := Nat.div_div_eq_div_mul A (2 ^ k) 2
      have d2 := Nat.div_div_eq_div_mul B (2 ^ k) 2
      rw [← Nat.pow_succ] at d1 d2
      have d3 := Nat.pow_succ 2 k
      obtain ⟨u, hu'⟩ : ∃ u, u = A / 2 ^ k := ⟨_, rfl⟩
      obtain ⟨v, hv'⟩ : ∃ v, v = B / 2 ^ k := ⟨_, rfl⟩
      obtain ⟨p, hp'⟩ : ∃ p, p = 2 ^ k := ⟨_, rfl⟩
      obtain ⟨o, ho'⟩ : ∃ o, o = (A ^^^ B) % 2 ^ k := ⟨_, rfl⟩
      rw [← ho', ← hu', ← hv', ← hp'] at hm
      rw [← hu'] at d1 hu
      rw [← hv'] at d2 hv
      rw [← ho', ← hp'] at ho
      rw [← hp'] at d3 hp
      rw [← ho', ← hu', ← hv', ← hp']
      have hu2 : u < 4294967296 := Nat.lt_of_le_of_lt hu HA.out
      have hv2 : v < 4294967296 := Nat.lt_of_le_of_lt hv HB.out
      have D1 := hid d1
      have D2 := hid d2
      have D3 := hid d3
      clear d1 d2 d3 hu hv hu' hv' hp' ho'
      by_cases hq : u % 2 = v % 2
      · rw [if_pos hq] at hm
        have HM := hid hm
        have hq1 : (((u : Int) % 2) != ((v : Int) % 2)) = false := by simp; omega
        have hq2 : (((u : Int) % 2) == ((v : Int) % 2)) = true := by simp; omega
        clear hm hq
        go_wp2
        go_round
        case rel => exact ⟨k + 1, by omega, by go_num, by rw [← D1.out]; go_num, by rw [← D2.out]; go_num, by rw [D3.out]; go_num, by rw [HM.out]; go_num⟩
        case measure => simp [intOf]; omega
      · rw [if_neg hq] at hm
        have HM := hid hm
        have hq1 : (((u : Int) % 2) != ((v : Int) % 2)) = true := by simp; omega
        have hq2 : (((u : Int) % 2) == ((v : Int) % 2)) = false := by simp; omega
        clear hm hq
        go_wp2
        go_round
        case rel => exact ⟨k + 1, by omega, by go_num, by rw [← D1.out]; go_num, by rw [← D2.out]; go_num, by rw [D3.out]; go_num, by rw [HM.out]; go_num⟩
        case measure => simp [intOf]; omega
    · have hk32 : k = 32 := by omega
      subst hk32
      rw [HX.out]
      go_wp2
      go_ret
      exact ⟨rfl, rfl⟩

end Go.Proofs.YtlcnjkonlnfnfaaDoor
