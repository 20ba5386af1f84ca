/-
  A page read off its fields: plain functions, the landed way and the document's.
-/
import Derived.Test.YtikggbopoajcbaaDoorPgFn
import Derived.Test.YtikggbopoajcbaaDoorJVars
import Derived.Test.YtikggbopoajcbaaDoorJCode
namespace Go.Proofs.YtikggbopoajcbaaDoor
open Go Go.RowKit

/-- a text, unless something went wrong already -/
def stext (l : List UInt8) (e : Nat) : List UInt8 × List UInt8 × Nat := if e = 0 then rtext l else ([], l, e)
/-- n cells, whatever goes wrong -/
def rcells : Nat → List UInt8 → Nat → List Cl × List UInt8 × Nat
  | 0, l, e => ([], l, e)
  | n + 1, l, e =>
    (⟨(stext l e).1, (stext (stext l e).2.1 (stext l e).2.2).1⟩ :: (rcells n (stext (stext l e).2.1 (stext l e).2.2).2.1 (stext (stext l e).2.1 (stext l e).2.2).2.2).1,
      (rcells n (stext (stext l e).2.1 (stext l e).2.2).2.1 (stext (stext l e).2.1 (stext l e).2.2).2.2).2)
theorem rcells_len : ∀ (n : Nat) (l : List UInt8) (e : Nat), (rcells n l e).1.length = n
  | 0, _, _ => rfl
  | n + 1, l, e => by
    unfold rcells
    rw [List.length_cons, rcells_len n]
/-- n cells, or something is wrong -/
def dcells : Nat → List UInt8 → Option (List Cl × List UInt8)
  | 0, l => some ([], l)
  | n + 1, l => if (rtext l).2.2 ≠ 0 ∨ (rtext (rtext l).2.1).2.2 ≠ 0 then none else (dcells n (rtext (rtext l).2.1).2.1).map fun r => (⟨(rtext l).1, (rtext (rtext l).2.1).1⟩ :: r.1, r.2)
theorem dcells_len : ∀ (n : Nat) (l : List UInt8) (r : List Cl × List UInt8), dcells n l = some r → r.1.length = n
  | 0, l, r, h => by injection h with h; subst h; rfl
  | n + 1, l, r, h => by
    unfold dcells at h
    split at h
    · cases h
    · obtain ⟨q, hq, rfl⟩ := Option.map_eq_some_iff.1 h
      rw [List.length_cons, dcells_len n _ q hq]
theorem rcells_bad : ∀ (n : Nat) (l : List UInt8) (e : Nat), e ≠ 0 → (rcells n l e).2.2 = e
  | 0, _, _, _ => rfl
  | n + 1, l, e, h => by
    unfold rcells
    have h1 : stext l e = ([], l, e) := by unfold stext; rw [if_neg h]
    simp only [h1]
    exact rcells_bad n _ _ h
theorem rcells_is : ∀ (n : Nat) (l : List UInt8), (∀ r, dcells n l = some r → rcells n l 0 = (r.1, r.2, 0)) ∧ (dcells n l = none → (rcells n l 0).2.2 ≠ 0)
  | 0, l => ⟨fun r h => by injection h with h; subst h; rfl, fun h => by cases h⟩
  | n + 1, l => by
    have h1 : stext l 0 = rtext l := by unfold stext; rw [if_pos rfl]
    unfold dcells rcells
    rw [h1]
    by_cases e1 : (rtext l).2.2 = 0
    · rw [e1]
      have h2 : stext (rtext l).2.1 0 = rtext (rtext l).2.1 := by unfold stext; rw [if_pos rfl]
      rw [h2]
      by_cases e2 : (rtext (rtext l).2.1).2.2 = 0
      · rw [e2]
        obtain ⟨i1, i2⟩ := rcells_is n (rtext (rtext l).2.1).2.1
        constructor
        · intro r h
          rw [if_neg (by simp)] at h
          obtain ⟨q, hq, rfl⟩ := Option.map_eq_some_iff.1 h
          rw [i1 q hq]
        · intro h
          rw [if_neg (by simp)] at h
          exact i2 (by simpa using h)
      · constructor
        · intro r h
          rw [if_pos (.inr e2)] at h
          cases h
        · intro _
          rw [rcells_bad n _ _ e2]
          exact e2
    · constructor
      · intro r h
        rw [if_pos (.inl e1)] at h
        cases h
      · intro _
        have h2 : stext (rtext l).2.1 (rtext l).2.2 = ([], (rtext l).2.1, (rtext l).2.2) := by unfold stext; rw [if_neg e1]
        rw [h2]
        rw [rcells_bad n _ _ e1]
        exact e1

/-- a page off its fields: the document's way -/
def pof (f : List UInt8) : Option (Bool × Nat × List Cl) :=
  if (rflag f).2.2 ≠ 0 ∨ (rcount 256 (rflag f).2.1).2.2 ≠ 0 ∨ (rcount 2048 (rcount 256 (rflag f).2.1).2.1).2.2 ≠ 0 then none
  else (dcells (rcount 2048 (rcount 256 (rflag f).2.1).2.1).1 (rcount 2048 (rcount 256 (rflag f).2.1).2.1).2.1).bind fun r =>
    if r.2 ≠ [] ∨ pchk ((rcount 256 (rflag f).2.1).1 : Int) r.1 ≠ 0 then none else some ((rflag f).1, (rcount 256 (rflag f).2.1).1, r.1)
/-- a count, unless something went wrong already -/
def scount (most : Int) (l : List UInt8) (e : Nat) : Nat × List UInt8 × Nat := if e = 0 then rcount most l else (0, l, e)
/-- what the landed code has behind its last cell -/
def lcnt (f : List UInt8) : Nat × List UInt8 × Nat := scount 256 (rflag f).2.1 (rflag f).2.2
def lnum (f : List UInt8) : Nat × List UInt8 × Nat := scount 1024 (lcnt f).2.1 (lcnt f).2.2
def lcel (f : List UInt8) : List Cl × List UInt8 × Nat := rcells (lnum f).1 (lnum f).2.1 (lnum f).2.2
theorem lof_is (f : List UInt8) : pof f = if endOf (lcel f).2.1 (lcel f).2.2 ≠ 0 ∨ pchk ((lcnt f).1 : Int) (lcel f).1 ≠ 0 then none else some ((rflag f).1, (lcnt f).1, (lcel f).1) := by
  have bad : ∀ e : Nat, (lcel f).2.2 = e → e ≠ 0 → (if endOf (lcel f).2.1 (lcel f).2.2 ≠ 0 ∨ pchk ((lcnt f).1 : Int) (lcel f).1 ≠ 0 then none else some ((rflag f).1, (lcnt f).1, (lcel f).1)) = (none : Option (Bool × Nat × List Cl)) := fun e h1 h2 => by
    rw [if_pos (.inl (by unfold endOf; rw [h1, if_neg (by omega)]; exact h2))]
  by_cases e1 : (rflag f).2.2 = 0
  · have c1 : lcnt f = rcount 256 (rflag f).2.1 := by unfold lcnt scount; rw [if_pos e1]
    by_cases e2 : (rcount 256 (rflag f).2.1).2.2 = 0
    · have c2 : lnum f = rcount 1024 (rcount 256 (rflag f).2.1).2.1 := by unfold lnum scount; rw [c1, if_pos e2]
      generalize hm : (rcount 256 (rflag f).2.1).2.1 = m at *
      by_cases e3 : (rnum m).2.2 = 0
      · by_cases h1024 : (rnum m).1 ≤ 1024
        · have r1 : rcount 1024 m = ((rnum m).1, (rnum m).2.1, 0) := by unfold rcount; rw [if_neg (by simpa using e3), if_neg (by omega)]
          have r2 : rcount 2048 m = ((rnum m).1, (rnum m).2.1, 0) := by unfold rcount; rw [if_neg (by simpa using e3), if_neg (by omega)]
          have c3 : lcel f = rcells (rnum m).1 (rnum m).2.1 0 := by unfold lcel; rw [c2, r1]
          obtain ⟨i1, i2⟩ := rcells_is (rnum m).1 (rnum m).2.1
          unfold pof
          rw [hm, r2, if_neg (by simp [e1, e2])]
          dsimp only
          cases hd : dcells (rnum m).1 (rnum m).2.1 with
          | none => rw [bad _ rfl (by rw [c3]; exact i2 hd)]; rfl
          | some r =>
            rw [c3, i1 r hd, c1]
            dsimp only [Option.bind]
            have he : (endOf r.2 0 ≠ 0) ↔ r.2 ≠ [] := by
              unfold endOf
              cases hr : r.2 with
              | nil => simp
              | cons x q => simp
            by_cases hq : r.2 ≠ [] ∨ pchk ((rcount 256 (rflag f).2.1).1 : Int) r.1 ≠ 0
            · rw [if_pos hq, if_pos (hq.imp he.2 id)]
            · rw [if_neg hq, if_neg (fun h => hq (h.imp he.1 id))]
        · have r1 : (rcount 1024 m).2.2 = 32 := by unfold rcount; rw [if_neg (by simpa using e3), if_pos (by omega)]
          rw [bad 32 (by unfold lcel; rw [c2, rcells_bad _ _ _ (by rw [r1]; decide), r1]) (by decide)]
          unfold pof
          rw [hm]
          by_cases h2048 : (rnum m).1 ≤ 2048
          · have r2 : rcount 2048 m = ((rnum m).1, (rnum m).2.1, 0) := by unfold rcount; rw [if_neg (by simpa using e3), if_neg (by omega)]
            rw [r2, if_neg (by simp [e1, e2])]
            dsimp only
            cases hd : dcells (rnum m).1 (rnum m).2.1 with
            | none => rfl
            | some r =>
              dsimp only [Option.bind]
              have hl := dcells_len _ _ _ hd
              rw [if_pos (.inr (fun hz => by
                obtain ⟨_, _, _, h4⟩ := pchk_ok hz
                have := csum_two r.1
                unfold psize at h4
                omega))]
          · have r2 : (rcount 2048 m).2.2 = 32 := by unfold rcount; rw [if_neg (by simpa using e3), if_pos (by omega)]
            rw [if_pos (.inr (.inr (by rw [r2]; decide)))]
      · have r1 : (rcount 1024 m).2.2 = (rnum m).2.2 := by unfold rcount; rw [if_pos (by simpa using e3)]
        have r2 : (rcount 2048 m).2.2 = (rnum m).2.2 := by unfold rcount; rw [if_pos (by simpa using e3)]
        rw [bad _ (by unfold lcel; rw [c2, rcells_bad _ _ _ (by rw [r1]; exact e3), r1]) e3]
        unfold pof
        rw [hm, if_pos (.inr (.inr (by rw [r2]; exact e3)))]
    · have c2 : lnum f = (0, (rcount 256 (rflag f).2.1).2.1, (rcount 256 (rflag f).2.1).2.2) := by unfold lnum scount; rw [c1, if_neg e2]
      rw [bad _ (by unfold lcel; rw [c2]; rfl) e2]
      unfold pof
      rw [if_pos (.inr (.inl e2))]
  · have c1 : lcnt f = (0, (rflag f).2.1, (rflag f).2.2) := by unfold lcnt scount; rw [if_neg e1]
    have c2 : lnum f = (0, (rflag f).2.1, (rflag f).2.2) := by unfold lnum scount; rw [c1, if_neg e1]
    rw [bad _ (by unfold lcel; rw [c2]; rfl) e1]
    unfold pof
    rw [if_pos (.inl e1)]

/-- a page off any bytes -/
def pofB (b : List UInt8) (sum : List UInt8 → List UInt8) : Option (Bool × Nat × List Cl) :=
  if b.length < 4 ∨ b.drop (b.length - 4) ≠ sum (b.take (b.length - 4)) then none else pof (b.take (b.length - 4))

theorem rcells_go {n k : Nat} {b : List UInt8} {e0 : Nat} {acc : List Cl} {l : List UInt8} {e : Nat} (hk : k < n) (h : rcells n b e0 = (acc ++ (rcells (n - k) l e).1, (rcells (n - k) l e).2)) :
    rcells n b e0 = ((acc ++ [⟨(stext l e).1, (stext (stext l e).2.1 (stext l e).2.2).1⟩]) ++ (rcells (n - (k + 1)) (stext (stext l e).2.1 (stext l e).2.2).2.1 (stext (stext l e).2.1 (stext l e).2.2).2.2).1, (rcells (n - (k + 1)) (stext (stext l e).2.1 (stext l e).2.2).2.1 (stext (stext l e).2.1 (stext l e).2.2).2.2).2) := by
  rw [h, show n - k = (n - (k + 1)) + 1 by omega]
  conv => lhs; unfold rcells
  rw [List.append_assoc]
  rfl

set_option maxHeartbeats 1000000 in
theorem gtext_any (r e0 : Nat) (l : List UInt8) (w : World) (hr : Rd w r l e0) :
    Calls Tryd.prog 50 #[.pointer (some ⟨r, 0, none⟩)] w fun e w' => e = .returned (.string (bst (stext l e0).1)) ∧ Rd w' r (stext l e0).2.1 (stext l e0).2.2 ∧ Only r w w' := by
  unfold stext
  by_cases h : e0 = 0
  · subst h
    rw [if_pos rfl]
    exact get_text r l w hr
  · rw [if_neg h]
    exact get_text_not r e0 l w hr h
theorem gcount_any (r e0 : Nat) (most : Int) (hmost : -9223372036854775808 ≤ most ∧ most ≤ 9223372036854775807) (l : List UInt8) (w : World) (hr : Rd w r l e0) :
    Calls Tryd.prog 48 #[.pointer (some ⟨r, 0, none⟩), .int .i64 most] w fun e w' => e = .returned (.int .i64 ((scount most l e0).1 : Int)) ∧ Rd w' r (scount most l e0).2.1 (scount most l e0).2.2 ∧ Only r w w' := by
  unfold scount
  by_cases h : e0 = 0
  · subst h
    rw [if_pos rfl]
    exact get_count r most hmost l w hr
  · rw [if_neg h]
    exact get_count_not r e0 most l w hr h

end Go.Proofs.YtikggbopoajcbaaDoor
