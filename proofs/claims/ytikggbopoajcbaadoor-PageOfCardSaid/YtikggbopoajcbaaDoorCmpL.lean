/-
  Which bytes come ahead: plain functions, no program.
-/
import Derived.Test.YtikggbopoajcbaaDoorBase
namespace Go.Proofs.YtikggbopoajcbaaDoor
open Go Go.RowKit

/-- the order of two numbers, as Go code has it -/
def ordI (x y : Int) : Int := if x < y then -1 else if y < x then 1 else 0

/-- which bytes come ahead -/
def cmpL : List UInt8 → List UInt8 → Int
  | [], [] => 0
  | [], _ :: _ => -1
  | _ :: _, [] => 1
  | x :: a, y :: b => if x = y then cmpL a b else if x.toNat < y.toNat then -1 else 1

theorem cmpL_same {x y : UInt8} {a b : List UInt8} (h : x = y) : cmpL (x :: a) (y :: b) = cmpL a b := by simp [cmpL, h]
theorem cmpL_ne {x y : UInt8} {a b : List UInt8} (h : x ≠ y) : cmpL (x :: a) (y :: b) = ordI x.toNat y.toNat := by
  have : x.toNat ≠ y.toNat := fun e => h (UInt8.toNat_inj.1 e)
  simp only [cmpL, if_neg h, ordI]
  split
  · rw [if_pos (by omega)]
  · rw [if_neg (by omega), if_pos (by omega)]
theorem cmpL_end {a b : List UInt8} (h : a = [] ∨ b = []) : cmpL a b = ordI a.length b.length := by
  rcases a with _ | ⟨x, a⟩ <;> rcases b with _ | ⟨y, b⟩
  · rfl
  · simp only [cmpL, ordI, List.length_nil, List.length_cons]; rw [if_pos (by omega)]
  · simp only [cmpL, ordI, List.length_nil, List.length_cons]; rw [if_neg (by omega), if_pos (by omega)]
  · simp at h

theorem ordI_sub {a b k : Nat} (ha : k ≤ a) (hb : k ≤ b) : ordI ((a - k : Nat) : Int) ((b - k : Nat) : Int) = ordI a b := by
  have e1 : (((a - k : Nat) : Int) < ((b - k : Nat) : Int)) ↔ ((a : Int) < (b : Int)) := by omega
  have e2 : (((b - k : Nat) : Int) < ((a - k : Nat) : Int)) ↔ ((b : Int) < (a : Int)) := by omega
  unfold ordI
  simp only [e1, e2]
theorem bytesLess_cmpL : ∀ a b : List UInt8, Op.bytesLess a b = decide (cmpL a b = -1)
  | [], [] => by simp [Op.bytesLess, cmpL]
  | [], y :: b => by simp [Op.bytesLess, cmpL]
  | x :: a, [] => by simp [Op.bytesLess, cmpL]
  | x :: a, y :: b => by
    unfold Op.bytesLess cmpL
    rw [bytesLess_cmpL a b]
    by_cases h : x = y
    · subst h; simp
    · have hn : x.toNat ≠ y.toNat := fun e => h (UInt8.toNat_inj.1 e)
      rw [if_neg h]
      by_cases hl : x.toNat < y.toNat
      · simp [hl, UInt8.lt_iff_toNat_lt]
      · simp [hl, h, UInt8.lt_iff_toNat_lt]
theorem cmpL_zero : ∀ a b : List UInt8, cmpL a b = 0 ↔ a = b
  | [], [] => by simp [cmpL]
  | [], y :: b => by simp [cmpL]
  | x :: a, [] => by simp [cmpL]
  | x :: a, y :: b => by
    unfold cmpL
    by_cases h : x = y
    · subst h; simp [cmpL_zero a b]
    · rw [if_neg h]
      split <;> simp [h]
theorem cmpL_three : ∀ a b : List UInt8, cmpL a b = -1 ∨ cmpL a b = 0 ∨ cmpL a b = 1
  | [], [] => by simp [cmpL]
  | [], y :: b => by simp [cmpL]
  | x :: a, [] => by simp [cmpL]
  | x :: a, y :: b => by
    unfold cmpL
    split
    · exact cmpL_three a b
    · split <;> simp
theorem cmpL_neg : ∀ a b : List UInt8, cmpL b a = - cmpL a b
  | [], [] => by simp [cmpL]
  | [], y :: b => by simp [cmpL]
  | x :: a, [] => by simp [cmpL]
  | x :: a, y :: b => by
    unfold cmpL
    by_cases h : x = y
    · subst h; simp [cmpL_neg a b]
    · have hn : x.toNat ≠ y.toNat := fun e => h (UInt8.toNat_inj.1 e)
      rw [if_neg h, if_neg (fun e => h e.symm)]
      by_cases hl : x.toNat < y.toNat
      · rw [if_pos hl, if_neg (by omega)]; rfl
      · rw [if_neg hl, if_pos (by omega)]
theorem cmpL_prefix : ∀ c a b : List UInt8, cmpL (c ++ a) (c ++ b) = cmpL a b
  | [], a, b => rfl
  | x :: c, a, b => by rw [List.cons_append, List.cons_append, cmpL_same rfl, cmpL_prefix c a b]
theorem ordI_nat (a b : Nat) : ordI a b = if a < b then -1 else if b < a then 1 else 0 := by
  have e1 : ((a : Int) < (b : Int)) ↔ a < b := by omega
  have e2 : ((b : Int) < (a : Int)) ↔ b < a := by omega
  unfold ordI
  simp only [e1, e2]

end Go.Proofs.YtikggbopoajcbaaDoor
