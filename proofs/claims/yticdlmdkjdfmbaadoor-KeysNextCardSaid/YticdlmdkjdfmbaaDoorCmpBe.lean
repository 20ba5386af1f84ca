/-
  Numbers in as many bytes are ordered as they are: plain.
-/
import Derived.Test.YticdlmdkjdfmbaaDoorBe
import Derived.Test.YticdlmdkjdfmbaaDoorCmpL
namespace Go.Proofs.YticdlmdkjdfmbaaDoor
open Go Go.RowKit

theorem cmp_be : ∀ (n v w : Nat), v < 256 ^ n → w < 256 ^ n → cmpL (be v n) (be w n) = ordI v w
  | 0, v, w, hv, hw => by
    have h1 : v = 0 := by simpa using hv
    have h2 : w = 0 := by simpa using hw
    subst h1 h2
    rfl
  | n + 1, v, w, hv, hw => by
    have hp : 0 < 256 ^ n := Nat.pow_pos (by decide)
    rw [be_succ, be_succ, ← be_mod v n, ← be_mod w n]
    have hdv : v / 256 ^ n < 256 := by rw [Nat.div_lt_iff_lt_mul hp, Nat.mul_comm]; rw [Nat.pow_succ] at hv; exact hv
    have hdw : w / 256 ^ n < 256 := by rw [Nat.div_lt_iff_lt_mul hp, Nat.mul_comm]; rw [Nat.pow_succ] at hw; exact hw
    have ev := Nat.div_add_mod v (256 ^ n)
    have ew := Nat.div_add_mod w (256 ^ n)
    have mv := Nat.mod_lt v hp
    have mw := Nat.mod_lt w hp
    by_cases h : UInt8.ofNat (v / 256 ^ n) = UInt8.ofNat (w / 256 ^ n)
    · rw [cmpL_same h, cmp_be n _ _ mv mw]
      have hq : v / 256 ^ n = w / 256 ^ n := by
        have := congrArg UInt8.toNat h
        rw [UInt8.toNat_ofNat', UInt8.toNat_ofNat'] at this
        exact (Nat.mod_eq_of_lt hdv).symm.trans (this.trans (Nat.mod_eq_of_lt hdw))
      rw [ordI_nat, ordI_nat]
      rw [hq] at ev
      generalize 256 ^ n * (w / 256 ^ n) = z at ev ew
      have e1 : v % 256 ^ n < w % 256 ^ n ↔ v < w := by omega
      have e2 : w % 256 ^ n < v % 256 ^ n ↔ w < v := by omega
      simp only [e1, e2]
    · rw [cmpL_ne h, UInt8.toNat_ofNat', UInt8.toNat_ofNat']
      have hq : v / 256 ^ n ≠ w / 256 ^ n := fun e => h (by rw [e])
      rw [ordI_nat, ordI_nat, Nat.mod_eq_of_lt hdv, Nat.mod_eq_of_lt hdw]
      have e1 : v / 256 ^ n < w / 256 ^ n ↔ v < w := by
        constructor
        · intro hl
          have := Nat.mul_le_mul_left (256 ^ n) (show v / 256 ^ n + 1 ≤ w / 256 ^ n by omega)
          rw [Nat.mul_add] at this
          omega
        · intro hl
          rcases Nat.lt_or_gt_of_ne hq with h1 | h1
          · exact h1
          · exfalso
            have := Nat.mul_le_mul_left (256 ^ n) (show w / 256 ^ n + 1 ≤ v / 256 ^ n by omega)
            rw [Nat.mul_add] at this
            omega
      have e2 : w / 256 ^ n < v / 256 ^ n ↔ w < v := by
        constructor
        · intro hl
          have := Nat.mul_le_mul_left (256 ^ n) (show w / 256 ^ n + 1 ≤ v / 256 ^ n by omega)
          rw [Nat.mul_add] at this
          omega
        · intro hl
          rcases Nat.lt_or_gt_of_ne hq with h1 | h1
          · exfalso
            have := Nat.mul_le_mul_left (256 ^ n) (show v / 256 ^ n + 1 ≤ w / 256 ^ n by omega)
            rw [Nat.mul_add] at this
            omega
          · exact h1
      simp only [e1, e2]

end Go.Proofs.YticdlmdkjdfmbaaDoor
