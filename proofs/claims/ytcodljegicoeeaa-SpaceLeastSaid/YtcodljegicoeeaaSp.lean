/-
  A space as plain functions, and in memory.
-/
import Derived.Test.YtcodljegicoeeaaBlk
import Derived.Laws.BitsAllLaws
namespace Go.Proofs.Ytcodljegicoeeaa
open Go Go.RowKit

/-- is page i taken? -/
def hasB (l : List Bool) (i : Int) : Bool := decide (0 ≤ i) && l.getD i.toNat false
theorem hasB_nat (l : List Bool) (i : Nat) : hasB l (i : Int) = l.getD i false := by simp [hasB]
theorem hasB_neg {l : List Bool} {i : Int} (h : i < 0) : hasB l i = false := by simp [hasB]; omega
theorem hasB_far {l : List Bool} {i : Int} (h : (l.length : Int) ≤ i) : hasB l i = false := by
  unfold hasB
  rw [List.getD_eq_getElem?_getD, List.getElem?_eq_none (by omega)]
  simp

/-- a number of 64 bits -/
def w64 (r : BitVec 64) : Int := (r.toNat : Int)
theorem w64_lo (r : BitVec 64) : 0 ≤ w64 r := Int.natCast_nonneg _
/-- the words of a space -/
structure Bits (a : Nat → BitVec 64) (l : List Bool) : Prop where
  bit : ∀ i, i < 256 → (a (i / 64)).getLsbD (i % 64) = l.getD i false
theorem Bits.zero (n : Nat) : Bits (fun _ => 0#64) (List.replicate n false) := ⟨fun i _ => by
  rw [List.getD_eq_getElem?_getD, List.getElem?_replicate]
  by_cases h : i < n
  · rw [if_pos h]; simp
  · rw [if_neg h]; simp⟩
def turnW (a : Nat → BitVec 64) (p : Nat) : Nat → BitVec 64 := fun k => if k = p / 64 then a k ^^^ (1#64 <<< (p % 64)) else a k
theorem Bits.turn {a : Nat → BitVec 64} {l : List Bool} (h : Bits a l) {p : Nat} (hp : p < l.length) : Bits (turnW a p) (l.set p (!(l.getD p false))) := ⟨fun i hi => by
  have h0 := h.bit i hi
  unfold turnW
  rw [List.getD_eq_getElem?_getD, List.getElem?_set]
  by_cases hw : i / 64 = p / 64
  · rw [if_pos hw, BitVec.getLsbD_xor, h0]
    by_cases hpi : p = i
    · subst hpi
      rw [if_pos rfl, if_pos hp]
      have : (1#64 <<< (p % 64)).getLsbD (p % 64) = true := by
        have : p % 64 < 64 := Nat.mod_lt _ (by decide)
        simp [this]
      rw [this]
      simp
    · rw [if_neg hpi]
      have : (1#64 <<< (p % 64)).getLsbD (i % 64) = false := by
        have hd : i % 64 ≠ p % 64 := by omega
        rw [BitVec.getLsbD_shiftLeft]
        by_cases hlt : i % 64 < p % 64
        · simp [hlt]
        · have h1 : ∃ k, i % 64 - p % 64 = k + 1 := ⟨i % 64 - p % 64 - 1, by omega⟩
          obtain ⟨k, hk⟩ := h1
          rw [hk]
          simp [BitVec.getLsbD_one]
      rw [this, List.getD_eq_getElem?_getD]
      simp
  · rw [if_neg hw, h0]
    have hpi : p ≠ i := fun e => hw (by rw [e])
    rw [if_neg hpi, List.getD_eq_getElem?_getD]⟩

/-- block p is this space -/
structure SpIn (w : World) (p : Nat) (l : List Bool) : Prop where
  out : ∃ a : Nat → BitVec 64, Blk w p 54 #[.int .i64 (l.length : Int), .int .u64 (w64 (a 0)), .int .u64 (w64 (a 1)), .int .u64 (w64 (a 2)), .int .u64 (w64 (a 3))] ∧ Bits a l ∧ 1 ≤ l.length ∧ l.length ≤ 256
theorem SpIn.lt {w : World} {p : Nat} {l : List Bool} (h : SpIn w p l) : p < w.heap.size := by
  obtain ⟨a, hb, _⟩ := h.out
  exact hb.lt
theorem SpIn.few {w : World} {p : Nat} {l : List Bool} (h : SpIn w p l) : 1 ≤ l.length ∧ l.length ≤ 256 := by
  obtain ⟨a, _, _, h⟩ := h.out
  exact h
theorem SpIn.step {w w' : World} {p : Nat} {l : List Bool} (h : SpIn w p l) (hb : Below w.heap.size w w') : SpIn w' p l := by
  obtain ⟨a, h1, h2⟩ := h.out
  exact ⟨a, h1.below hb h1.lt, h2⟩
theorem SpIn.only {w w' : World} {p r : Nat} {l : List Bool} (h : SpIn w p l) (hb : Only r w w') (hne : p ≠ r) : SpIn w' p l := by
  obtain ⟨a, h1, h2⟩ := h.out
  exact ⟨a, h1.grown hb (fun e => by injection e with e; exact hne e), h2⟩
theorem SpIn.c0 {w : World} {p : Nat} {l : List Bool} (h : SpIn w p l) : w.cell? ⟨p, 0, none⟩ = some (.int .i64 (l.length : Int)) := by
  obtain ⟨a, h1, _⟩ := h.out
  exact h1.cell 0
/-- the word of a page -/
theorem SpIn.word {w : World} {p i : Nat} {l : List Bool} (h : SpIn w p l) (hi : i < l.length) : ∃ r : BitVec 64, w.cell? ⟨p, 1 + i / 64, none⟩ = some (.int .u64 (w64 r)) ∧ w.frozen? ⟨p, 1 + i / 64, none⟩ = false ∧ r.getLsbD (i % 64) = l.getD i false ∧
    SpIn (w.setCell ⟨p, 1 + i / 64, none⟩ (.int .u64 (w64 (r ^^^ (1#64 <<< (i % 64)))))) p (l.set i (!(l.getD i false))) := by
  obtain ⟨a, h1, h2, h3, h4⟩ := h.out
  refine ⟨a (i / 64), ?_, h1.free _, h2.bit i (by omega), turnW a i, ?_, h2.turn hi, by rw [List.length_set]; exact h3, by rw [List.length_set]; exact h4⟩
  · have hk : i / 64 = 0 ∨ i / 64 = 1 ∨ i / 64 = 2 ∨ i / 64 = 3 := by omega
    rw [h1.cell]
    rcases hk with e | e | e | e <;> rw [e] <;> rfl
  · have hs := h1.set (1 + i / 64) (.int .u64 (w64 (a (i / 64) ^^^ (1#64 <<< (i % 64)))))
    have hk : i / 64 = 0 ∨ i / 64 = 1 ∨ i / 64 = 2 ∨ i / 64 = 3 := by omega
    unfold Blk at hs ⊢
    rw [hs, List.length_set]
    unfold turnW
    rcases hk with e | e | e | e <;> rw [e] <;> simp

end Go.Proofs.Ytcodljegicoeeaa
