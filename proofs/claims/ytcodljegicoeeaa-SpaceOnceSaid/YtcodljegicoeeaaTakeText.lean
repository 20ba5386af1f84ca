/-
  takeText, takeFlag, Count's closure: by their contracts.
-/
import Derived.Test.YtcodljegicoeeaaTakeNum
namespace Go.Proofs.Ytcodljegicoeeaa
open Go Go.RowKit

/-- what a step leaves: the reader somewhere, with what is wrong; where nothing is wrong, behind the field -/
structure Took (w w' : World) (r : Nat) (l' : List UInt8) (e : Nat) : Prop where
  some : ∃ l'', Rd w' r l'' e ∧ (e = 0 → l'' = l')
  only : Only r w w'

theorem QB.only {w w' : World} {q r r' : Nat} (h : QB w q r) (hb : Only r' w w') (hne : r' ≠ q) : QB w' q r := Blk.grown h hb (fun e => hne (by injection e with e; exact e.symm))
theorem Rd.ne {w : World} {r q r' e : Nat} {l : List UInt8} (h : Rd w r l e) (h' : QB w q r') : r ≠ q := by
  obtain ⟨A, m, c, h1, _⟩ := h.out
  exact RB.ne h1 h'

/-- what is known of a text -/
inductive Txt (l : List UInt8) (n : Nat) (l1 : List UInt8) (e1 : Nat) : List UInt8 × List UInt8 × Nat → Prop
  | take (h1 : n ≤ 65536) (h2 : n ≤ l1.length) (s l' : List UInt8) (hs : s = l1.take n) (hl : e1 = 0 → l' = l1.drop n) : Txt l n l1 e1 (s, l', e1)
  | long (h0 : e1 = 0) (h1 : 65536 < n) : Txt l n l1 e1 ([], l, 32)
  | short (h0 : e1 = 0) (h1 : n ≤ 65536) (h2 : l1.length < n) : Txt l n l1 e1 ([], l, 30)
theorem rtext_all (l : List UInt8) : Txt l (rnum l).1 (rnum l).2.1 (rnum l).2.2 (rtext l) := by
  unfold rtext
  by_cases h0 : (rnum l).2.2 = 0
  · rw [if_neg (by simpa using h0)]
    by_cases h1 : 65536 < (rnum l).1
    · rw [if_pos h1]; exact .long h0 h1
    · rw [if_neg h1]
      by_cases h2 : (rnum l).2.1.length < (rnum l).1
      · rw [if_pos h2]; exact .short h0 (by omega) h2
      · rw [if_neg h2]
        have h := Txt.take (l := l) (e1 := (rnum l).2.2) (Nat.le_of_not_lt h1) (Nat.le_of_not_lt h2) _ ((rnum l).2.1.drop (rnum l).1) rfl (fun _ => rfl)
        rw [h0] at h
        rw [h0]
        exact h
  · rw [if_pos (by simpa using h0)]
    obtain ⟨h1, h2⟩ := rnum_bad l h0
    exact .take (by omega) (by omega) _ _ (by rw [h1]; rfl) (fun h => absurd h h0)

theorem bst_nil : bst [] = ⟨#[]⟩ := rfl

end Go.Proofs.Ytcodljegicoeeaa
