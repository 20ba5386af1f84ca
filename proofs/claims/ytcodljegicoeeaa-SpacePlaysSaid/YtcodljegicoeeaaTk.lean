/-
  What a reader takes: plain functions.
-/
import Derived.Test.YtcodljegicoeeaaVarIs
namespace Go.Proofs.Ytcodljegicoeeaa

/-- a number: its value, what is left, what is wrong -/
def rnum (l : List UInt8) : Nat × List UInt8 × Nat :=
  if (rdv 0 0 l).2.2 = 0 then ((rdv 0 0 l).1, l.drop (rdv 0 0 l).2.1, 0) else (0, l, if (rdv 0 0 l).2.2 = 10 then 30 else 12)
theorem rnum_ok {l : List UInt8} {v n : Nat} (h : rdv 0 0 l = (v, n, 0)) : rnum l = (v, l.drop n, 0) := by unfold rnum; rw [h]; rfl
theorem rnum_short {l : List UInt8} {v n : Nat} (h : rdv 0 0 l = (v, n, 10)) : rnum l = (0, l, 30) := by unfold rnum; rw [h]; rfl
theorem rnum_form {l : List UInt8} {v n : Nat} (h : rdv 0 0 l = (v, n, 12)) : rnum l = (0, l, 12) := by unfold rnum; rw [h]; rfl
/-- what is known of it -/
inductive Num (l : List UInt8) : Nat × List UInt8 × Nat → Prop
  | good (v n : Nat) (h : rdv 0 0 l = (v, n, 0)) (hn : n = vlen v) (hl : n ≤ l.length) (hv : v < 18446744073709551616) (hb : l = vbytes v ++ l.drop n) : Num l (v, l.drop n, 0)
  | short (h : rdv 0 0 l = (0, 0, 10)) : Num l (0, l, 30)
  | form (h : rdv 0 0 l = (0, 0, 12)) : Num l (0, l, 12)
theorem rnum_all (l : List UInt8) : Num l (rnum l) := by
  obtain ⟨⟨v, n, e⟩, ho⟩ : ∃ o, rdv 0 0 l = o := ⟨_, rfl⟩
  by_cases he : e = 0
  · subst he
    obtain ⟨h1, h2, h3, h4⟩ := rdv_ok ho
    rw [rnum_ok ho]
    exact .good v n ho h1 h2 h3 h4
  · obtain ⟨rfl, rfl, h⟩ := rdv_err ho he
    rcases h with rfl | rfl
    · rw [rnum_short ho]; exact .short ho
    · rw [rnum_form ho]; exact .form ho
theorem rnum_len (l : List UInt8) : (rnum l).2.1.length ≤ l.length := by
  have h := rnum_all l
  generalize rnum l = o at h
  cases h <;> simp
theorem rnum_lt (l : List UInt8) : (rnum l).1 < 18446744073709551616 := by
  have h := rnum_all l
  generalize rnum l = o at h
  cases h <;> simp; assumption
theorem rnum_bad (l : List UInt8) (h : (rnum l).2.2 ≠ 0) : (rnum l).1 = 0 ∧ (rnum l).2.1 = l := by
  have h1 := rnum_all l
  generalize rnum l = o at h h1
  cases h1
  · exact absurd rfl h
  · exact ⟨rfl, rfl⟩
  · exact ⟨rfl, rfl⟩

/-- a text -/
def rtext (l : List UInt8) : List UInt8 × List UInt8 × Nat :=
  if (rnum l).2.2 ≠ 0 then ([], l, (rnum l).2.2)
  else if 65536 < (rnum l).1 then ([], l, 32)
  else if (rnum l).2.1.length < (rnum l).1 then ([], l, 30)
  else ((rnum l).2.1.take (rnum l).1, (rnum l).2.1.drop (rnum l).1, 0)
/-- a flag -/
def rflag : List UInt8 → Bool × List UInt8 × Nat
  | [] => (false, [], 30)
  | x :: r => if 1 < x.toNat then (false, x :: r, 33) else (x.toNat == 1, r, 0)
/-- a count -/
def rcount (most : Int) (l : List UInt8) : Nat × List UInt8 × Nat :=
  if (rnum l).2.2 ≠ 0 then (0, l, (rnum l).2.2)
  else if most < 0 ∨ most < ((rnum l).1 : Int) then (0, l, 32)
  else ((rnum l).1, (rnum l).2.1, 0)

end Go.Proofs.Ytcodljegicoeeaa
