/-
  Keys and timestamps as bytes: plain functions, no program.
-/
import Derived.Test.YticdlmdkjdfmbaaDoorCmpBe
namespace Go.Proofs.YticdlmdkjdfmbaaDoor
open Go Go.RowKit

/-- a key's bytes, without what ends them -/
def esc : List UInt8 → List UInt8
  | [] => []
  | x :: l => if x = 0 then 0 :: 255 :: esc l else x :: esc l
theorem esc_zero (l : List UInt8) : esc (0 :: l) = 0 :: 255 :: esc l := by simp [esc]
theorem esc_plain {x : UInt8} (l : List UInt8) (h : x ≠ 0) : esc (x :: l) = x :: esc l := by simp [esc, h]
theorem esc_append : ∀ a b : List UInt8, esc (a ++ b) = esc a ++ esc b
  | [], _ => rfl
  | x :: a, b => by
    by_cases h : x = 0
    · subst h; rw [List.cons_append, esc_zero, esc_zero, esc_append a b]; rfl
    · rw [List.cons_append, esc_plain _ h, esc_plain _ h, esc_append a b]; rfl
theorem esc_snoc_zero (l : List UInt8) : esc (l ++ [0]) = esc l ++ [0] ++ [255] := by rw [esc_append, esc_zero, List.append_assoc]; rfl
theorem esc_snoc (l : List UInt8) {x : UInt8} (h : x ≠ 0) : esc (l ++ [x]) = esc l ++ [x] := by rw [esc_append, esc_plain _ h]; rfl
theorem esc_length : ∀ l : List UInt8, (esc l).length ≤ 2 * l.length
  | [] => by simp [esc]
  | x :: l => by
    have := esc_length l
    by_cases h : x = 0
    · subst h; rw [esc_zero]; simp; omega
    · rw [esc_plain _ h]; simp; omega
theorem esc_iff {k r : List UInt8} {x : UInt8} : esc k = x :: r ↔ ∃ z k', k = z :: k' ∧ ((z ≠ 0 ∧ z = x ∧ esc k' = r) ∨ (z = 0 ∧ x = 0 ∧ r = 255 :: esc k')) := by
  rcases k with _ | ⟨z, k⟩
  · simp [esc]
  · by_cases h : z = 0
    · subst h
      rw [esc_zero]
      constructor
      · intro e
        injection e with e1 e2
        exact ⟨0, k, rfl, .inr ⟨rfl, e1.symm, e2.symm⟩⟩
      · rintro ⟨z', k', e, h⟩
        injection e with e1 e2
        subst e1 e2
        rcases h with h | ⟨_, rfl, rfl⟩
        · exact absurd rfl h.1
        · rfl
    · rw [esc_plain _ h]
      constructor
      · intro e
        injection e with e1 e2
        exact ⟨z, k, rfl, .inl ⟨h, e1, e2⟩⟩
      · rintro ⟨z', k', e, h'⟩
        injection e with e1 e2
        subst e1 e2
        rcases h' with ⟨_, rfl, rfl⟩ | h'
        · rfl
        · exact absurd h'.1 h
theorem esc_nil {k : List UInt8} : esc k = [] ↔ k = [] := by
  rcases k with _ | ⟨z, k⟩
  · simp [esc]
  · by_cases h : z = 0 <;> simp [esc, h]

/-- a key's bytes at a timestamp -/
def kput (k : List UInt8) (t : Nat) : List UInt8 := esc k ++ [0, 1] ++ be (18446744073709551615 - t) 8
theorem kput_length (k : List UInt8) (t : Nat) : (kput k t).length = (esc k).length + 10 := by simp [kput, be_length]

/-- the key that the rest tells, behind what is read -/
def dk : List UInt8 → List UInt8 → Option (List UInt8)
  | acc, [] => some acc
  | acc, [x] => if 64 < acc.length + 1 then none else if x = 0 then none else some (acc ++ [x])
  | acc, x :: y :: r => if 64 < acc.length + 1 then none else if x ≠ 0 then dk (acc ++ [x]) (y :: r) else if y = 255 then dk (acc ++ [0]) r else none
theorem dk_long {acc : List UInt8} (x : UInt8) (r : List UInt8) (h : 64 < acc.length + 1) : dk acc (x :: r) = none := by
  rcases r with _ | ⟨y, r⟩ <;> simp [dk, h]
theorem dk_plain {acc r : List UInt8} {x : UInt8} (h : ¬ 64 < acc.length + 1) (hx : x ≠ 0) : dk acc (x :: r) = dk (acc ++ [x]) r := by
  rcases r with _ | ⟨y, r⟩ <;> simp [dk, h, hx]
theorem dk_end {acc : List UInt8} : dk acc [0] = none := by simp [dk]
theorem dk_no {acc r : List UInt8} {y : UInt8} (h : y ≠ 255) : dk acc (0 :: y :: r) = none := by simp [dk, h]
theorem dk_zero {acc r : List UInt8} (h : ¬ 64 < acc.length + 1) : dk acc (0 :: 255 :: r) = dk (acc ++ [0]) r := by simp [dk, h]

theorem dk_iff : ∀ (r acc k : List UInt8), acc.length ≤ 64 → (dk acc r = some k ↔ ∃ k', k = acc ++ k' ∧ r = esc k' ∧ k.length ≤ 64)
  | [], acc, k, h => by
    rw [show dk acc [] = some acc by simp [dk]]
    constructor
    · intro e
      injection e with e
      subst e
      exact ⟨[], by simp, rfl, h⟩
    · rintro ⟨k', rfl, e, _⟩
      rw [esc_nil.1 e.symm, List.append_nil]
  | x :: r, acc, k, h => by
    by_cases hl : 64 < acc.length + 1
    · rw [dk_long x r hl]
      constructor
      · intro e; cases e
      · rintro ⟨k', rfl, e, h2⟩
        obtain ⟨z, k2, rfl, _⟩ := esc_iff.1 e.symm
        simp at h2
        omega
    · by_cases hx : x = 0
      · subst hx
        rcases r with _ | ⟨y, r⟩
        · rw [dk_end]
          constructor
          · intro e; cases e
          · rintro ⟨k', rfl, e, h2⟩
            obtain ⟨z, k2, rfl, h3 | h3⟩ := esc_iff.1 e.symm
            · exact absurd h3.2.1 h3.1
            · simp at h3
        · by_cases hy : y = 255
          · subst hy
            rw [dk_zero hl, dk_iff r _ _ (by simp; omega)]
            constructor
            · rintro ⟨k', rfl, rfl, h2⟩
              exact ⟨0 :: k', by simp, by rw [esc_zero], h2⟩
            · rintro ⟨k', rfl, e, h2⟩
              obtain ⟨z, k2, rfl, h3 | ⟨rfl, _, h4⟩⟩ := esc_iff.1 e.symm
              · exact absurd h3.2.1 h3.1
              · injection h4 with _ h4
                exact ⟨k2, by simp, h4, h2⟩
          · rw [dk_no hy]
            constructor
            · intro e; cases e
            · rintro ⟨k', rfl, e, h2⟩
              obtain ⟨z, k2, rfl, h3 | ⟨rfl, _, h4⟩⟩ := esc_iff.1 e.symm
              · exact absurd h3.2.1 h3.1
              · injection h4 with h4 _
                exact absurd h4 hy
      · rw [dk_plain hl hx, dk_iff r _ _ (by simp; omega)]
        constructor
        · rintro ⟨k', rfl, rfl, h2⟩
          exact ⟨x :: k', by simp, by rw [esc_plain _ hx], h2⟩
        · rintro ⟨k', rfl, e, h2⟩
          obtain ⟨z, k2, rfl, ⟨_, rfl, h4⟩ | h3⟩ := esc_iff.1 e.symm
          · exact ⟨k2, by simp, h4.symm, h2⟩
          · exact absurd h3.2.1 hx
termination_by r => r.length

/-- the key that bytes are, without a timestamp -/
def kdec (b : List UInt8) : Option (List UInt8) := if 2 ≤ b.length ∧ b.drop (b.length - 2) = [0, 1] then dk [] (b.take (b.length - 2)) else none
theorem kdec_iff {b k : List UInt8} : kdec b = some k ↔ b = esc k ++ [0, 1] ∧ k.length ≤ 64 := by
  unfold kdec
  by_cases h : 2 ≤ b.length ∧ b.drop (b.length - 2) = [0, 1]
  · rw [if_pos h, dk_iff _ _ _ (by simp)]
    constructor
    · rintro ⟨k', e, e2, h2⟩
      rw [List.nil_append] at e
      subst e
      refine ⟨?_, h2⟩
      rw [← e2, ← h.2, List.take_append_drop]
    · rintro ⟨e, h2⟩
      refine ⟨k, by simp, ?_, h2⟩
      rw [e]
      simp
  · rw [if_neg h]
    constructor
    · intro e; cases e
    · rintro ⟨e, _⟩
      refine absurd ?_ h
      rw [e]
      simp

/-- the key and the timestamp that bytes are -/
def kget (s : List UInt8) : Option (List UInt8 × Nat) :=
  if s.length < 8 then none else match kdec (s.take (s.length - 8)) with
    | none => none
    | some k => some (k, 18446744073709551615 - ofBe (s.drop (s.length - 8)))
/-- bytes are a key's at a timestamp -/
def IsKey (s k : List UInt8) (t : Nat) : Prop := s = kput k t ∧ k.length ≤ 64 ∧ t ≤ 18446744073709551615

theorem ofBe_8 {l : List UInt8} (h : l.length = 8) : ofBe l ≤ 18446744073709551615 := by
  have := ofBe_lt l
  rw [h] at this
  exact Nat.le_of_lt_succ this
theorem be_back {T : List UInt8} {t : Nat} (h : T.length = 8) (e : t = 18446744073709551615 - ofBe T) : be (18446744073709551615 - t) 8 = T := by
  have := ofBe_8 h
  rw [e, show 18446744073709551615 - (18446744073709551615 - ofBe T) = ofBe T by omega]
  exact be_ofBe T 8 h
theorem back_be {t : Nat} (h : t ≤ 18446744073709551615) : 18446744073709551615 - ofBe (be (18446744073709551615 - t) 8) = t := by
  rw [ofBe_be 8 _ (show 18446744073709551615 - t < 18446744073709551616 by omega)]
  omega

theorem kget_iff {s k : List UInt8} {t : Nat} : kget s = some (k, t) ↔ IsKey s k t := by
  unfold kget IsKey
  by_cases h : s.length < 8
  · rw [if_pos h]
    constructor
    · intro e; cases e
    · rintro ⟨e, _⟩
      have := kput_length k t
      rw [← e] at this
      omega
  · rw [if_neg h]
    constructor
    · intro e
      split at e
      · cases e
      · rename_i k' hk
        injection e with e
        injection e with e1 e2
        subst e1
        obtain ⟨e3, h3⟩ := kdec_iff.1 hk
        refine ⟨?_, h3, by omega⟩
        unfold kput
        rw [← e3, be_back (by simp; omega) e2.symm, List.take_append_drop]
    · rintro ⟨e, h2, h3⟩
      have hl : s.length - 8 = (esc k ++ [0, 1]).length := by rw [e, kput_length]; simp
      have e1 : s.take (s.length - 8) = esc k ++ [0, 1] := by rw [hl, e, kput, List.take_left]
      have e2 : s.drop (s.length - 8) = be (18446744073709551615 - t) 8 := by rw [hl, e, kput, List.drop_left]
      rw [e1, e2, kdec_iff.2 ⟨rfl, h2⟩, back_be h3]

/-- the document's way: the key and the timestamp that the rest tells, behind what is read -/
def rg : List UInt8 → List UInt8 → Option (List UInt8 × Nat)
  | _, [] => none
  | _, [_] => none
  | acc, x :: y :: r => if x ≠ 0 then rg (acc ++ [x]) (y :: r) else if y = 255 then rg (acc ++ [0]) r else if y = 1 ∧ r.length = 8 ∧ acc.length ≤ 64 then some (acc, 18446744073709551615 - ofBe r) else none
theorem rg_plain {acc r : List UInt8} {x : UInt8} (hx : x ≠ 0) : rg acc (x :: r) = rg (acc ++ [x]) r := by
  rcases r with _ | ⟨y, r⟩ <;> simp [rg, hx]
theorem rg_zero {acc r : List UInt8} : rg acc (0 :: 255 :: r) = rg (acc ++ [0]) r := by simp [rg]
theorem rg_yes {acc r : List UInt8} (h : r.length = 8) (h2 : acc.length ≤ 64) : rg acc (0 :: 1 :: r) = some (acc, 18446744073709551615 - ofBe r) := by simp [rg, h, h2]
theorem rg_no {acc r : List UInt8} {y : UInt8} (hy : y ≠ 255) (h : ¬ (y = 1 ∧ r.length = 8 ∧ acc.length ≤ 64)) : rg acc (0 :: y :: r) = none := by simp only [rg, ne_eq, not_true_eq_false, if_false, if_neg hy, if_neg h]
theorem rg_end {acc : List UInt8} {x : UInt8} : rg acc [x] = none := by simp [rg]

theorem rg_iff : ∀ (r acc k : List UInt8) (t : Nat), rg acc r = some (k, t) ↔ ∃ k', k = acc ++ k' ∧ r = esc k' ++ [0, 1] ++ be (18446744073709551615 - t) 8 ∧ k.length ≤ 64 ∧ t ≤ 18446744073709551615
  | [], acc, k, t => by
    constructor
    · intro e; simp [rg] at e
    · rintro ⟨k', _, e, _⟩
      simp at e
  | [x], acc, k, t => by
    constructor
    · intro e; simp [rg] at e
    · rintro ⟨k', _, e, _⟩
      have := congrArg List.length e
      simp [be_length] at this
  | x :: y :: r, acc, k, t => by
    by_cases hx : x = 0
    · subst hx
      by_cases hy : y = 255
      · subst hy
        rw [rg_zero, rg_iff r]
        constructor
        · rintro ⟨k', rfl, rfl, h⟩
          exact ⟨0 :: k', by simp, by rw [esc_zero]; rfl, h⟩
        · rintro ⟨k', rfl, e, h⟩
          rcases k' with _ | ⟨z, k'⟩
          · simp [esc] at e
          · by_cases hz : z = 0
            · subst hz
              rw [esc_zero] at e
              injection e with _ e
              injection e with _ e
              exact ⟨k', by simp, e, h⟩
            · rw [esc_plain _ hz] at e
              injection e with e _
              exact absurd e.symm hz
      · by_cases h1 : y = 1 ∧ r.length = 8 ∧ acc.length ≤ 64
        · obtain ⟨rfl, h8, h64⟩ := h1
          rw [rg_yes h8 h64]
          constructor
          · intro e
            injection e with e
            injection e with e1 e2
            subst e1
            exact ⟨[], by simp, by rw [be_back h8 e2.symm]; rfl, h64, by omega⟩
          · rintro ⟨k', rfl, e, h⟩
            rcases k' with _ | ⟨z, k'⟩
            · have e3 : r = be (18446744073709551615 - t) 8 := by simpa [esc] using e
              rw [e3, back_be h.2, List.append_nil]
            · by_cases hz : z = 0
              · subst hz
                rw [esc_zero] at e
                injection e with _ e
                injection e with e _
                exact absurd e hy
              · rw [esc_plain _ hz] at e
                injection e with e _
                exact absurd e.symm hz
        · rw [rg_no hy h1]
          constructor
          · intro e; cases e
          · rintro ⟨k', rfl, e, h⟩
            refine absurd ?_ h1
            rcases k' with _ | ⟨z, k'⟩
            · have e3 : y = 1 ∧ r = be (18446744073709551615 - t) 8 := by simpa [esc] using e
              exact ⟨e3.1, by rw [e3.2, be_length], by simpa using h.1⟩
            · by_cases hz : z = 0
              · subst hz
                rw [esc_zero] at e
                injection e with _ e
                injection e with e _
                exact absurd e hy
              · rw [esc_plain _ hz] at e
                injection e with e _
                exact absurd e.symm hz
    · rw [rg_plain hx, rg_iff (y :: r)]
      constructor
      · rintro ⟨k', rfl, e, h⟩
        exact ⟨x :: k', by simp, by rw [esc_plain _ hx, e]; rfl, h⟩
      · rintro ⟨k', rfl, e, h⟩
        rcases k' with _ | ⟨z, k'⟩
        · simp [esc] at e
          exact absurd e.1 hx
        · by_cases hz : z = 0
          · subst hz
            rw [esc_zero] at e
            injection e with e _
            exact absurd e hx
          · rw [esc_plain _ hz] at e
            injection e with e1 e2
            subst e1
            exact ⟨k', by simp, e2, h⟩
termination_by r => r.length

theorem rg_kget (s : List UInt8) : rg [] s = kget s := by
  apply Option.ext
  rintro ⟨k, t⟩
  rw [kget_iff, rg_iff]
  unfold IsKey kput
  constructor
  · rintro ⟨k', e, h⟩
    rw [List.nil_append] at e
    subst e
    exact h
  · intro h
    exact ⟨k, by simp, h⟩

theorem kget_kput {k : List UInt8} {t : Nat} (h : k.length ≤ 64) (ht : t ≤ 18446744073709551615) : kget (kput k t) = some (k, t) := kget_iff.2 ⟨rfl, h, ht⟩

/-- in order -/
theorem cmp_esc : ∀ (a b T U : List UInt8), cmpL (esc a ++ [0, 1] ++ T) (esc b ++ [0, 1] ++ U) = if a = b then cmpL T U else cmpL a b
  | [], [], T, U => by simp only [if_true]; exact cmpL_prefix [0, 1] T U
  | [], y :: b, T, U => by
    rw [if_neg (by simp)]
    by_cases hy : y = 0
    · subst hy; rw [esc_zero]; rfl
    · rw [esc_plain _ hy]
      have hn : (0 : UInt8) ≠ y := fun e => hy e.symm
      have h0 : y.toNat ≠ 0 := fun e => hy (UInt8.toNat_inj.1 e)
      show cmpL (0 :: _) (y :: _) = -1
      rw [cmpL_ne hn, ordI, if_pos (by simp; omega)]
  | x :: a, [], T, U => by
    rw [if_neg (by simp)]
    by_cases hx : x = 0
    · subst hx; rw [esc_zero]; rfl
    · rw [esc_plain _ hx]
      have h0 : x.toNat ≠ 0 := fun e => hx (UInt8.toNat_inj.1 e)
      show cmpL (x :: _) (0 :: _) = 1
      rw [cmpL_ne hx, ordI, if_neg (by simp), if_pos (by simp; omega)]
  | x :: a, y :: b, T, U => by
    by_cases h : x = y
    · subst h
      have ih := cmp_esc a b T U
      rw [cmpL_same rfl]
      have e : (x :: a = x :: b) = (a = b) := by simp
      simp only [e]
      rw [← ih]
      by_cases hx : x = 0
      · subst hx; rw [esc_zero, esc_zero]; exact cmpL_prefix [0, 255] _ _
      · rw [esc_plain _ hx, esc_plain _ hx]; exact cmpL_prefix [x] _ _
    · rw [if_neg (by intro e; injection e with e; exact h e), cmpL_ne h]
      by_cases hx : x = 0
      · subst hx
        rw [esc_zero, esc_plain _ (fun e => h e.symm)]
        exact cmpL_ne h
      · rw [esc_plain _ hx]
        by_cases hy : y = 0
        · subst hy; rw [esc_zero]; exact cmpL_ne h
        · rw [esc_plain _ hy]; exact cmpL_ne h
theorem cmp_kput {a b : List UInt8} {x y : Nat} : cmpL (kput a x) (kput b y) = if a = b then ordI (18446744073709551615 - x : Nat) (18446744073709551615 - y : Nat) else cmpL a b := by
  unfold kput
  rw [cmp_esc, cmp_be 8 _ _ (show 18446744073709551615 - x < 18446744073709551616 by omega) (show 18446744073709551615 - y < 18446744073709551616 by omega)]

/-- the least key that is greater than all that begin so -/
def endL : List UInt8 → Option (List UInt8)
  | [] => none
  | x :: r => match endL r with
    | some e => some (x :: e)
    | none => if x = 255 then none else some [x + 1]
theorem endL_cons (x : UInt8) (r : List UInt8) : endL (x :: r) = match endL r with
    | some e => some (x :: e)
    | none => if x = 255 then none else some [x + 1] := rfl
theorem endL_last (l : List UInt8) : endL (l ++ [255]) = endL l := by
  induction l with
  | nil => rfl
  | cons x l ih => simp only [List.cons_append, endL, ih]
theorem endL_snoc (l : List UInt8) {x : UInt8} (h : x ≠ 255) : endL (l ++ [x]) = some (l ++ [x + 1]) := by
  induction l with
  | nil => simp [endL, h]
  | cons y l ih => simp only [List.cons_append, endL, ih]

theorem bl_nil (a : List UInt8) : Op.bytesLess a [] = false := by cases a <;> rfl
theorem bl_same (x : UInt8) (a b : List UInt8) : Op.bytesLess (x :: a) (x :: b) = Op.bytesLess a b := by simp [Op.bytesLess]
theorem bl_irrefl : ∀ a : List UInt8, Op.bytesLess a a = false
  | [] => rfl
  | x :: a => by rw [bl_same, bl_irrefl a]
theorem bl_cons (x y : UInt8) (a b : List UInt8) : Op.bytesLess (x :: a) (y :: b) = if x = y then Op.bytesLess a b else decide (x < y) := by
  by_cases h : x = y
  · subst h; simp [Op.bytesLess]
  · simp [Op.bytesLess, h]

theorem u8_ne {x y : UInt8} (h : x ≠ y) : x.toNat ≠ y.toNat := fun e => h (UInt8.toNat_inj.1 e)
theorem u8_succ {x : UInt8} (h : x ≠ 255) : (x + 1).toNat = x.toNat + 1 := by
  have h1 : x.toNat ≠ 255 := fun e => h (UInt8.toNat_inj.1 e)
  have := x.toNat_lt
  rw [UInt8.toNat_add, show (1 : UInt8).toNat = 1 from rfl, Nat.mod_eq_of_lt (by omega)]

/-- the keys that begin so are those of the range -/
theorem endL_range : ∀ (p k : List UInt8), ((!Op.bytesLess k p) && (match endL p with | none => true | some e => Op.bytesLess k e)) = p.isPrefixOf k
  | [], k => by rw [bl_nil]; rfl
  | x :: p, [] => by
    have e : Op.bytesLess [] (x :: p) = true := rfl
    rw [e]
    rfl
  | x :: p, y :: k => by
    have ih := endL_range p k
    rw [bl_cons]
    by_cases h : y = x
    · subst h
      rw [if_pos rfl]
      have e0 : (y :: p).isPrefixOf (y :: k) = p.isPrefixOf k := by simp [List.isPrefixOf]
      rw [e0, ← ih, endL_cons]
      congr 1
      cases endL p with
      | some e => simp only [bl_same]
      | none =>
        simp only
        by_cases hx : y = 255
        · rw [if_pos hx]
        · rw [if_neg hx]
          simp only
          have hs := u8_succ hx
          have hne : y ≠ y + 1 := fun e => by have := congrArg UInt8.toNat e; omega
          have hlt : y < y + 1 := UInt8.lt_iff_toNat_lt.2 (by omega)
          rw [bl_cons, if_neg hne]
          exact decide_eq_true hlt
    · rw [if_neg h]
      have e0 : (x :: p).isPrefixOf (y :: k) = false := by simp [List.isPrefixOf]; intro e; exact absurd e.symm h
      rw [e0]
      have hn := u8_ne h
      by_cases hlt : y < x
      · rw [decide_eq_true hlt]; rfl
      · rw [decide_eq_false hlt]
        have hgt : x.toNat < y.toNat := by
          have hnl : ¬ y.toNat < x.toNat := fun e => hlt (UInt8.lt_iff_toNat_lt.2 e)
          omega
        rw [endL_cons]
        cases endL p with
        | some e =>
          simp only [bl_cons, if_neg h, decide_eq_false hlt]
          rfl
        | none =>
          simp only
          by_cases hx : x = 255
          · subst hx
            have := y.toNat_lt
            have e255 : (255 : UInt8).toNat = 255 := rfl
            omega
          · rw [if_neg hx]
            simp only
            have hs := u8_succ hx
            rw [bl_cons]
            by_cases he : y = x + 1
            · rw [if_pos he, bl_nil]; rfl
            · rw [if_neg he, decide_eq_false (fun e => by have := UInt8.lt_iff_toNat_lt.1 e; omega)]; rfl
theorem endL_more : ∀ (p e : List UInt8), endL p = some e → Op.bytesLess p e = true
  | [], e, h => by cases h
  | x :: p, e, h => by
    rw [endL_cons] at h
    split at h
    · rename_i e' he
      injection h with h
      subst h
      rw [bl_same]
      exact endL_more p e' he
    · by_cases hx : x = 255
      · rw [if_pos hx] at h; cases h
      · rw [if_neg hx] at h
        injection h with h
        subst h
        have hs := u8_succ hx
        have hne : x ≠ x + 1 := fun e => by have := congrArg UInt8.toNat e; omega
        have hlt : x < x + 1 := UInt8.lt_iff_toNat_lt.2 (by omega)
        rw [bl_cons, if_neg hne]
        exact decide_eq_true hlt

/-- there is none between a key and the next one -/
theorem next_more : ∀ k : List UInt8, Op.bytesLess k (k ++ [0]) = true
  | [] => rfl
  | x :: k => by rw [List.cons_append, bl_same, next_more k]
theorem next_least : ∀ k o : List UInt8, Op.bytesLess k o = true → Op.bytesLess o (k ++ [0]) = false
  | [], [], h => by cases h
  | [], y :: o, _ => by
    rw [List.nil_append, bl_cons]
    by_cases hy : y = 0
    · rw [if_pos hy, bl_nil]
    · rw [if_neg hy]
      exact decide_eq_false (fun e => by have := UInt8.lt_iff_toNat_lt.1 e; simp at this)
  | x :: k, [], h => by cases h
  | x :: k, y :: o, h => by
    rw [bl_cons] at h
    rw [List.cons_append, bl_cons]
    by_cases hxy : x = y
    · subst hxy
      rw [if_pos rfl] at h ⊢
      exact next_least k o h
    · rw [if_neg hxy] at h
      rw [if_neg (fun e => hxy e.symm)]
      have := UInt8.lt_iff_toNat_lt.1 (of_decide_eq_true h)
      exact decide_eq_false (fun e => by have := UInt8.lt_iff_toNat_lt.1 e; omega)

end Go.Proofs.YticdlmdkjdfmbaaDoor
