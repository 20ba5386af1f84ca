/-
  A cache as a list, the last used one first: plain functions.
-/
import Derived.Test.YtdhjjjagjkencaaBase
namespace Go.Proofs.Ytdhjjjagjkencaa
open Go Go.RowKit

/-- an entry: its number, its bytes, whether they are not written yet -/
structure En where
  i : Int
  b : List UInt8
  d : Bool
deriving DecidableEq

/-- the place of a number (the length if it is not there) -/
def posE (k : Int) : List En → Nat
  | [] => 0
  | x :: l => if x.i = k then 0 else posE k l + 1
theorem posE_le (k : Int) (l : List En) : posE k l ≤ l.length := by
  induction l with
  | nil => exact Nat.le_refl _
  | cons x l ih => unfold posE; split <;> simp; exact ih
theorem posE_at {k : Int} {l : List En} (h : posE k l < l.length) : ∃ x, l[posE k l]? = some x ∧ x.i = k := by
  induction l with
  | nil => simp at h
  | cons x l ih =>
    unfold posE at h ⊢
    by_cases e : x.i = k
    · simp only [if_pos e]; exact ⟨x, rfl, e⟩
    · simp only [if_neg e, List.length_cons] at h ⊢
      obtain ⟨y, hy, e2⟩ := ih (by omega)
      exact ⟨y, by simpa using hy, e2⟩
theorem posE_front {k : Int} : ∀ {l : List En} {j : Nat} {x : En}, j < posE k l → l[j]? = some x → x.i ≠ k
  | [], j, x, h, _ => by simp [posE] at h
  | y :: l, j, x, h, hx => by
    unfold posE at h
    by_cases e : y.i = k
    · simp [if_pos e] at h
    · rw [if_neg e] at h
      match j with
      | 0 => obtain rfl : y = x := by simpa using hx
             exact e
      | j + 1 => exact posE_front (l := l) (j := j) (by omega) (by simpa using hx)
/-- it is there at j, and not ahead of j -/
theorem posE_is {k : Int} {l : List En} {j : Nat} {x : En} (hx : l[j]? = some x) (hk : x.i = k) (hf : j ≤ posE k l) : posE k l = j := by
  rcases Nat.lt_or_ge j (posE k l) with h | h
  · exact absurd hk (posE_front h hx)
  · omega
theorem posE_next {k : Int} {l : List En} {j : Nat} {x : En} (hx : l[j]? = some x) (hk : ¬ x.i = k) (hf : j ≤ posE k l) : j + 1 ≤ posE k l := by
  rcases Nat.lt_or_ge j (posE k l) with h | h
  · exact h
  · have e : posE k l = j := by omega
    obtain ⟨y, hy, e2⟩ := posE_at (k := k) (l := l) (by rw [e]; exact (List.getElem?_eq_some_iff.1 hx).1)
    rw [e, hx] at hy
    injection hy with hy
    subst hy
    exact absurd e2 hk
theorem posE_none {k : Int} {l : List En} (h : l.length ≤ posE k l) : posE k l = l.length := Nat.le_antisymm (posE_le k l) h
def hasE (k : Int) (l : List En) : Bool := decide (posE k l < l.length)
/-- a list without a place -/
def outE (j : Nat) (l : List En) : List En := l.take j ++ l.drop (j + 1)
theorem outE_all {l : List En} {j : Nat} (h : l.length ≤ j) : outE j l = l := by
  unfold outE
  rw [List.take_of_length_le h, List.drop_of_length_le (by omega), List.append_nil]
theorem outE_len {l : List En} {j : Nat} (h : j < l.length) : (outE j l).length + 1 = l.length := by
  unfold outE
  rw [List.length_append, List.length_take, List.length_drop]; omega
theorem outE_le (l : List En) (j : Nat) : (outE j l).length ≤ l.length := by
  unfold outE
  rw [List.length_append, List.length_take, List.length_drop]; omega
/-- is a number there, its bytes not written yet? -/
def dE (k : Int) (l : List En) : Bool := ((l[posE k l]?).map (·.d)).getD false
/-- the list behind a Put, ahead of what goes -/
def inE (k : Int) (b : List UInt8) (d : Bool) (l : List En) : List En := ⟨k, b, d || dE k l⟩ :: outE (posE k l) l
theorem inE_len (k : Int) (b : List UInt8) (d : Bool) (l : List En) : (inE k b d l).length ≤ l.length + 1 := by
  unfold inE
  have := outE_le l (posE k l)
  simp only [List.length_cons]; omega
def putE (room : Nat) (k : Int) (b : List UInt8) (d : Bool) (l : List En) : List En := (inE k b d l).take room
/-- what goes by a Put -/
def goE (room : Nat) (k : Int) (b : List UInt8) (d : Bool) (l : List En) : Option En := (inE k b d l)[room]?
/-- the list behind a Get -/
def getE (k : Int) (l : List En) : List En := match l[posE k l]? with
  | none => l
  | some x => x :: outE (posE k l) l
def dropE1 (k : Int) (l : List En) : List En := outE (posE k l) l
def dropE : List Int → List En → List En
  | [], l => l
  | k :: ks, l => dropE ks (dropE1 k l)
def dropN : List Int → List En → Nat
  | [], _ => 0
  | k :: ks, l => (if hasE k l then 1 else 0) + dropN ks (dropE1 k l)
def cleanE (l : List En) : List En := l.map fun x => { x with d := false }
/-- the place from behind at which a number belongs, k of the entries being looked at -/
def backE (k : Int) (was : List En) : Nat → Nat
  | 0 => 0
  | j + 1 => match was[j]? with
    | none => j + 1
    | some x => if k < x.i then backE k was j else j + 1
theorem backE_le (k : Int) (was : List En) : ∀ j, backE k was j ≤ j
  | 0 => Nat.le_refl _
  | j + 1 => by
    unfold backE
    split
    · exact Nat.le_refl _
    · split
      · exact Nat.le_succ_of_le (backE_le k was j)
      · exact Nat.le_refl _
def insE (x : En) (was : List En) : List En := was.take (backE x.i was was.length) ++ x :: was.drop (backE x.i was was.length)
def dirtyE (was : List En) : List En → List En
  | [] => was
  | x :: l => dirtyE (if x.d then insE x was else was) l
theorem dirtyE_take {l was : List En} {j : Nat} {x : En} (h : l[j]? = some x) : dirtyE was (l.take (j + 1)) = if x.d then insE x (dirtyE was (l.take j)) else dirtyE was (l.take j) := by
  induction l generalizing was j with
  | nil => simp at h
  | cons y l ih =>
    match j with
    | 0 => obtain rfl : y = x := by simpa using h
           rfl
    | j + 1 =>
      simp only [List.take_succ_cons, dirtyE]
      exact ih (by simpa using h)
theorem insE_len (x : En) (was : List En) : (insE x was).length = was.length + 1 := by
  unfold insE
  have := backE_le x.i was was.length
  rw [List.length_append, List.length_take, List.length_cons, List.length_drop]; omega
theorem dirtyE_len (was l : List En) : (dirtyE was l).length ≤ was.length + l.length := by
  induction l generalizing was with
  | nil => simp [dirtyE]
  | cons x l ih =>
    unfold dirtyE
    rw [List.length_cons]
    cases x.d with
    | false => exact Nat.le_trans (ih was) (by omega)
    | true => exact Nat.le_trans (ih (insE x was)) (by rw [insE_len]; omega)

end Go.Proofs.Ytdhjjjagjkencaa
