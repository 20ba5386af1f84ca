/-
  Where a key is, what a cell put or taken out makes of cells, where a page is halved: plain functions.
-/
import Derived.Test.YtikggbopoajcbaaDoorPg
namespace Go.Proofs.YtikggbopoajcbaaDoor
open Go Go.RowKit

theorem pgless_cons (x y : UInt8) (a b : List UInt8) : Op.bytesLess (x :: a) (y :: b) = (decide (x < y) || (x == y && Op.bytesLess a b)) := rfl
theorem pgless_trans : ∀ {a b c : List UInt8}, Op.bytesLess a b = true → Op.bytesLess b c = true → Op.bytesLess a c = true
  | _, [], _, h, _ => by unfold Op.bytesLess at h; cases h
  | _, _ :: _, [], _, h => by unfold Op.bytesLess at h; cases h
  | [], _ :: _, _ :: _, _, _ => rfl
  | x :: a, y :: b, z :: c, h1, h2 => by
    rw [pgless_cons] at h1 h2 ⊢
    simp only [Bool.or_eq_true, Bool.and_eq_true, decide_eq_true_eq, beq_iff_eq] at h1 h2 ⊢
    rcases h1 with h1 | ⟨rfl, h1⟩
    · rcases h2 with h2 | ⟨rfl, h2⟩
      · exact .inl (UInt8.lt_trans h1 h2)
      · exact .inl h1
    · rcases h2 with h2 | ⟨rfl, h2⟩
      · exact .inl h2
      · exact .inr ⟨rfl, pgless_trans h1 h2⟩
theorem pgless_self : ∀ a : List UInt8, Op.bytesLess a a = false
  | [] => rfl
  | x :: a => by
    rw [pgless_cons, pgless_self a]
    simp
theorem pgless_tri : ∀ {a b : List UInt8}, Op.bytesLess a b = false → Op.bytesLess b a = false → a = b
  | [], [], _, _ => rfl
  | [], y :: b, h, _ => by cases h
  | x :: a, [], _, h => by cases h
  | x :: a, y :: b, h1, h2 => by
    rw [pgless_cons] at h1 h2
    simp only [Bool.or_eq_false_iff, decide_eq_false_iff_not] at h1 h2
    have hxy : x = y := by
      have n1 : ¬ x.toNat < y.toNat := fun e => h1.1 (UInt8.lt_iff_toNat_lt.2 e)
      have n2 : ¬ y.toNat < x.toNat := fun e => h2.1 (UInt8.lt_iff_toNat_lt.2 e)
      exact UInt8.toNat_inj.1 (by omega)
    subst hxy
    simp at h1 h2
    rw [pgless_tri h1 h2]

/-- the keys rise -/
abbrev Ris (l : List Cl) : Prop := l.Pairwise fun x y => Op.bytesLess x.k y.k = true
theorem ris_go : ∀ {l : List Cl} {p : Option (List UInt8)}, risesO p l = true → Ris l ∧ ∀ q, p = some q → ∀ x ∈ l, Op.bytesLess q x.k = true
  | [], _, _ => ⟨List.Pairwise.nil, fun _ _ x hx => by cases hx⟩
  | x :: l, p, h => by
    simp only [risesO, Bool.and_eq_true] at h
    obtain ⟨i1, i2⟩ := ris_go h.2
    refine ⟨List.Pairwise.cons (fun y hy => i2 _ rfl y hy) i1, fun q hq y hy => ?_⟩
    subst hq
    have h0 : Op.bytesLess q x.k = true := h.1
    rcases List.mem_cons.1 hy with rfl | hy
    · exact h0
    · exact pgless_trans h0 (i2 _ rfl y hy)
theorem ris_of {l : List Cl} (h : risesC l = true) : Ris l := (ris_go h).1

/-- is a cell ahead of a key? -/
def ltk (K : List UInt8) (x : Cl) : Bool := Op.bytesLess x.k K
/-- how many cells are ahead of a key -/
def fnd (K : List UInt8) (l : List Cl) : Nat := (l.takeWhile (ltk K)).length
def hasK (K : List UInt8) (l : List Cl) : Bool := (l[fnd K l]?).any fun x => x.k == K
theorem fnd_nil (K : List UInt8) : fnd K [] = 0 := rfl
theorem fnd_yes {K : List UInt8} {x : Cl} (l : List Cl) (h : ltk K x = true) : fnd K (x :: l) = fnd K l + 1 := by simp [fnd, h]
theorem fnd_no {K : List UInt8} {x : Cl} (l : List Cl) (h : ltk K x = false) : fnd K (x :: l) = 0 := by simp [fnd, h]
theorem fnd_le (K : List UInt8) (l : List Cl) : fnd K l ≤ l.length := by
  induction l with
  | nil => simp [fnd]
  | cons x l ih =>
    cases h : ltk K x with
    | true => rw [fnd_yes l h, List.length_cons]; omega
    | false => rw [fnd_no l h]; omega
theorem fnd_lo (K : List UInt8) : ∀ (l : List Cl) (t : Nat) (x : Cl), t < fnd K l → l[t]? = some x → ltk K x = true
  | [], t, x, h, _ => by simp [fnd] at h
  | y :: l, 0, x, h, hx => by
    obtain rfl : y = x := by simpa using hx
    cases hy : ltk K y with
    | true => rfl
    | false => rw [fnd_no l hy] at h; omega
  | y :: l, t + 1, x, h, hx => by
    cases hy : ltk K y with
    | true => rw [fnd_yes l hy] at h; exact fnd_lo K l t x (by omega) (by simpa using hx)
    | false => rw [fnd_no l hy] at h; omega
theorem fnd_at (K : List UInt8) : ∀ (l : List Cl) (x : Cl), l[fnd K l]? = some x → ltk K x = false
  | [], x, h => by simp at h
  | y :: l, x, h => by
    cases hy : ltk K y with
    | true => rw [fnd_yes l hy] at h; exact fnd_at K l x (by simpa using h)
    | false =>
      rw [fnd_no l hy] at h
      obtain rfl : y = x := by simpa using h
      exact hy
/-- behind it none is ahead of the key -/
def Mono (K : List UInt8) (l : List Cl) : Prop := ∀ (t : Nat) (x : Cl), fnd K l ≤ t → l[t]? = some x → ltk K x = false
theorem mono_of {l : List Cl} (h : Ris l) (K : List UInt8) : Mono K l := fun t x ht hx => by
  by_cases e : t = fnd K l
  · subst e; exact fnd_at K l x hx
  · obtain ⟨h2, e2⟩ := List.getElem?_eq_some_iff.1 hx
    have h1 : fnd K l < l.length := by omega
    have hy : l[fnd K l]? = some l[fnd K l] := List.getElem?_eq_getElem h1
    have h3 := List.pairwise_iff_getElem.1 h _ _ h1 h2 (by omega)
    rw [e2] at h3
    have h4 := fnd_at K l _ hy
    cases h5 : ltk K x with
    | false => rfl
    | true =>
      have h6 : ltk K l[fnd K l] = true := pgless_trans h3 h5
      rw [h6] at h4
      cases h4
/-- where a search by halves ends -/
theorem fnd_is {K : List UInt8} {l : List Cl} {i : Nat} (hi : i ≤ l.length) (h1 : ∀ t x, t < i → l[t]? = some x → ltk K x = true) (h2 : ∀ x, l[i]? = some x → ltk K x = false) : i = fnd K l := by
  rcases Nat.lt_trichotomy i (fnd K l) with h | h | h
  · have hl := fnd_le K l
    have hx : l[i]? = some l[i] := List.getElem?_eq_getElem (by omega)
    have a := fnd_lo K l i _ h hx
    rw [h2 _ hx] at a
    cases a
  · exact h
  · have hx : l[fnd K l]? = some l[fnd K l] := List.getElem?_eq_getElem (by omega)
    have a := fnd_at K l _ hx
    rw [h1 _ _ h hx] at a
    cases a

/-- a cell put -/
def putC (c : Cl) (l : List Cl) : List Cl := l.take (fnd c.k l) ++ (c :: l.drop (fnd c.k l + if hasK c.k l then 1 else 0))
/-- a cell taken out -/
def delC (K : List UInt8) (l : List Cl) : List Cl := l.take (fnd K l) ++ l.drop (fnd K l + 1)
/-- the document's way, from a cell on -/
def putG (c : Cl) : Bool → List Cl → List Cl
  | true, [] => []
  | false, [] => [c]
  | d, y :: r => (if !d && !ltk c.k y then [c] else []) ++ ((if y.k = c.k then [] else [y]) ++ putG c (d || !ltk c.k y) r)
theorem putG_done (c : Cl) : ∀ l : List Cl, (∀ x ∈ l, x.k ≠ c.k) → putG c true l = l
  | [], _ => rfl
  | y :: r, h => by
    unfold putG
    rw [if_neg (by simp), if_neg (h y (by simp)), Bool.true_or, putG_done c r (fun x hx => h x (by simp [hx]))]
    rfl
theorem putG_is (c : Cl) : ∀ l : List Cl, Ris l → putG c false l = putC c l
  | [], _ => by simp [putG, putC, fnd, hasK]
  | y :: r, h => by
    obtain ⟨h1, h2⟩ := List.pairwise_cons.1 h
    unfold putG
    cases hy : ltk c.k y with
    | true =>
      have hne : y.k ≠ c.k := fun e => by
        unfold ltk at hy
        rw [e, pgless_self] at hy
        cases hy
      have hh : hasK c.k (y :: r) = hasK c.k r := by unfold hasK; rw [fnd_yes r hy, List.getElem?_cons_succ]
      have e := putG_is c r h2
      unfold putC at e ⊢
      rw [hh, fnd_yes r hy, if_neg (by simp), if_neg hne]
      simp only [Bool.not_true, Bool.or_false, List.nil_append, List.take_succ_cons, List.cons_append]
      rw [e, show fnd c.k r + 1 + (if hasK c.k r = true then 1 else 0) = (fnd c.k r + (if hasK c.k r = true then 1 else 0)) + 1 by omega, List.drop_succ_cons]
    | false =>
      have hr : ∀ x ∈ r, x.k ≠ c.k := fun x hx e => by
        have a := h1 x hx
        rw [e] at a
        unfold ltk at hy
        rw [a] at hy
        cases hy
      have hh : hasK c.k (y :: r) = (y.k == c.k) := by unfold hasK; rw [fnd_no r hy]; rfl
      rw [if_pos (by simp), Bool.not_false, Bool.or_true, putG_done c r hr]
      unfold putC
      rw [hh, fnd_no r hy]
      by_cases e : y.k = c.k
      · simp [e]
      · rw [if_neg e, if_neg (by simpa using e)]
        rfl
theorem putG_drop {c : Cl} {d : Bool} {l : List Cl} {k : Nat} {y : Cl} (h : l[k]? = some y) : putG c d (l.drop k) = (if !d && !ltk c.k y then [c] else []) ++ ((if y.k = c.k then [] else [y]) ++ putG c (d || !ltk c.k y) (l.drop (k + 1))) := by
  obtain ⟨hk, hx⟩ := List.getElem?_eq_some_iff.1 h
  rw [List.drop_eq_getElem_cons hk, hx]
  cases d <;> rfl

theorem fnd_append {K : List UInt8} {a : List Cl} {x : Cl} {r : List Cl} (h1 : ∀ y ∈ a, ltk K y = true) (h2 : ltk K x = false) : fnd K (a ++ x :: r) = a.length := by
  induction a with
  | nil => exact fnd_no r h2
  | cons y a ih =>
    rw [List.cons_append, fnd_yes _ (h1 y (by simp)), ih (fun z hz => h1 z (by simp [hz])), List.length_cons]
theorem take_lo (K : List UInt8) (l : List Cl) : ∀ y ∈ l.take (fnd K l), ltk K y = true := fun y hy => by
  obtain ⟨t, ht⟩ := List.mem_iff_getElem?.1 hy
  rw [List.getElem?_take] at ht
  split at ht
  · exact fnd_lo K l t y (by assumption) ht
  · cases ht
theorem ltk_self (c : Cl) : ltk c.k c = false := pgless_self c.k
theorem fnd_put (c : Cl) (l : List Cl) : fnd c.k (putC c l) = fnd c.k l := by
  unfold putC
  rw [fnd_append (take_lo c.k l) (ltk_self c), List.length_take, Nat.min_eq_left (fnd_le _ _)]
theorem get_put (c : Cl) (l : List Cl) : (putC c l)[fnd c.k l]? = some c := by
  unfold putC
  have e : (l.take (fnd c.k l)).length = fnd c.k l := by rw [List.length_take, Nat.min_eq_left (fnd_le _ _)]
  rw [List.getElem?_append_right (by omega), e, Nat.sub_self]
  rfl
theorem has_put (c : Cl) (l : List Cl) : hasK c.k (putC c l) = true := by
  unfold hasK
  rw [fnd_put, get_put]
  simp
theorem mono_put {c : Cl} {l : List Cl} (h : Mono c.k l) : Mono c.k (putC c l) := fun t x ht hx => by
  rw [fnd_put] at ht
  have e : (l.take (fnd c.k l)).length = fnd c.k l := by rw [List.length_take, Nat.min_eq_left (fnd_le _ _)]
  unfold putC at hx
  rw [List.getElem?_append_right (by omega), e] at hx
  rcases hd : t - fnd c.k l with _ | d
  · rw [hd] at hx
    obtain rfl : c = x := by simpa using hx
    exact ltk_self c
  · rw [hd, List.getElem?_cons_succ, List.getElem?_drop] at hx
    exact h _ x (by omega) hx
theorem del_put (c : Cl) (l : List Cl) : delC c.k (putC c l) = if hasK c.k l then delC c.k l else l := by
  unfold delC
  rw [fnd_put]
  unfold putC
  have e : (l.take (fnd c.k l)).length = fnd c.k l := by rw [List.length_take, Nat.min_eq_left (fnd_le _ _)]
  rw [List.take_append_of_le_length (by omega), List.take_of_length_le (by omega), List.drop_append, List.drop_eq_nil_of_le (by omega), e, Nat.add_sub_cancel_left, List.nil_append, List.drop_succ_cons, List.drop_zero]
  cases hasK c.k l with
  | true => rfl
  | false => simp
theorem hasK_lt {K : List UInt8} {l : List Cl} (h : hasK K l = true) : fnd K l < l.length := by
  unfold hasK at h
  by_cases hl : fnd K l < l.length
  · exact hl
  · rw [List.getElem?_eq_none (by omega)] at h
    cases h
theorem putC_len (c : Cl) (l : List Cl) : (putC c l).length ≤ l.length + 1 := by
  unfold putC
  have := fnd_le c.k l
  simp only [List.length_append, List.length_take, List.length_cons, List.length_drop]
  omega
theorem putC_mem {c x : Cl} {l : List Cl} (h : x ∈ putC c l) : x = c ∨ x ∈ l := by
  unfold putC at h
  rcases List.mem_append.1 h with h | h
  · exact .inr (List.mem_of_mem_take h)
  · rcases List.mem_cons.1 h with h | h
    · exact .inl h
    · exact .inr (List.mem_of_mem_drop h)

/-- how many cells the first half has -/
def halfG (all : Nat) : Nat → List Cl → Nat
  | _, [] => 0
  | n, x :: l => if all ≤ 2 * (n + clen x) then 1 else 1 + halfG all (n + clen x) l
def halfC (l : List Cl) : Nat := halfG (csum l) 0 (l.take (l.length - 1))
theorem halfG_drop {all n : Nat} {l : List Cl} {k : Nat} {x : Cl} (h : l[k]? = some x) : halfG all n (l.drop k) = if all ≤ 2 * (n + clen x) then 1 else 1 + halfG all (n + clen x) (l.drop (k + 1)) := by
  obtain ⟨hk, hx⟩ := List.getElem?_eq_some_iff.1 h
  rw [List.drop_eq_getElem_cons hk, hx]
  rfl
theorem halfG_le (all : Nat) : ∀ (n : Nat) (l : List Cl), halfG all n l ≤ l.length
  | _, [] => Nat.le_refl _
  | n, x :: l => by
    unfold halfG
    have := halfG_le all (n + clen x) l
    rw [List.length_cons]
    split <;> omega
theorem halfG_pos (all n : Nat) {l : List Cl} (h : 0 < l.length) : 1 ≤ halfG all n l := by
  cases l with
  | nil => simp at h
  | cons x l => unfold halfG; split <;> omega
/-- what it says: the least number of cells with at least half of the bytes -/
theorem halfG_is (all : Nat) : ∀ (n : Nat) (l : List Cl), 0 < l.length → (halfG all n l = 1 ∨ 2 * (n + csum (l.take (halfG all n l - 1))) < all) ∧ (all ≤ 2 * (n + csum (l.take (halfG all n l))) ∨ halfG all n l = l.length)
  | _, [], h => by simp at h
  | n, x :: l, _ => by
    unfold halfG
    by_cases h : all ≤ 2 * (n + clen x)
    · rw [if_pos h]
      exact ⟨.inl rfl, .inl (by simpa [csum] using h)⟩
    · rw [if_neg h]
      rcases l with _ | ⟨y, r⟩
      · exact ⟨.inl rfl, .inr rfl⟩
      · have hp := halfG_pos all (n + clen x) (l := y :: r) (by simp)
        obtain ⟨i1, i2⟩ := halfG_is all (n + clen x) (y :: r) (by simp)
        generalize halfG all (n + clen x) (y :: r) = k at *
        obtain ⟨j, rfl⟩ : ∃ j, k = j + 1 := ⟨k - 1, by omega⟩
        refine ⟨.inr ?_, ?_⟩
        · rw [Nat.add_sub_cancel_left, List.take_succ_cons]
          simp only [csum]
          rcases i1 with i1 | i1
          · have : j = 0 := by omega
            subst this
            simp only [List.take_zero, csum]
            omega
          · rw [Nat.add_sub_cancel] at i1
            omega
        · rcases i2 with i2 | i2
          · refine .inl ?_
            rw [Nat.add_comm 1, List.take_succ_cons]
            simp only [csum] at i2 ⊢
            omega
          · refine .inr ?_
            rw [i2]
            simp only [List.length_cons]
            omega

theorem vlen_two {v : Nat} (h : v < 16384) : vlen v ≤ 2 := by
  unfold vlen vl
  split
  · omega
  · unfold vl
    rw [if_pos (by omega)]
    exact Nat.le_refl _
theorem clen_short {x : Cl} (h : x.k.length + x.v.length ≤ 480) : clen x ≤ 484 := by
  have := vlen_two (v := x.k.length) (by omega)
  have := vlen_two (v := x.v.length) (by omega)
  unfold clen; omega
theorem chkC_ok {p : Option (List UInt8)} {x : Cl} {l : List Cl} (h : chkC p (x :: l) = 0) : x.k.length + x.v.length ≤ 480 ∧ riseO p x.k = true ∧ chkC (some x.k) l = 0 := by
  rw [chkC_cons] at h
  by_cases h1 : 480 < x.k.length + x.v.length
  · rw [if_pos h1] at h; cases h
  · rw [if_neg h1] at h
    cases hr : riseO p x.k with
    | false => rw [hr] at h; simp at h
    | true => rw [hr] at h; exact ⟨by omega, rfl, by simpa using h⟩
theorem chkC_mk {p : Option (List UInt8)} {x : Cl} {l : List Cl} (h1 : x.k.length + x.v.length ≤ 480) (h2 : riseO p x.k = true) (h3 : chkC (some x.k) l = 0) : chkC p (x :: l) = 0 := by
  rw [chkC_cons, if_neg (by omega), h2, if_pos rfl, h3]
theorem chkC_take : ∀ {l : List Cl} {p : Option (List UInt8)} (k : Nat), chkC p l = 0 → chkC p (l.take k) = 0
  | [], p, k, _ => by simp [chkC]
  | x :: l, p, 0, _ => by simp [chkC]
  | x :: l, p, k + 1, h => by
    obtain ⟨h1, h2, h3⟩ := chkC_ok h
    exact chkC_mk h1 h2 (chkC_take k h3)
theorem chkC_free {l : List Cl} {p : Option (List UInt8)} (h : chkC p l = 0) : chkC none l = 0 := by
  cases l with
  | nil => simp [chkC]
  | cons x l =>
    obtain ⟨h1, _, h3⟩ := chkC_ok h
    exact chkC_mk h1 rfl h3
theorem chkC_behind : ∀ {l : List Cl} {p : Option (List UInt8)} (k : Nat), chkC p l = 0 → chkC none (l.drop k) = 0
  | [], p, k, _ => by simp [chkC]
  | x :: l, p, 0, h => chkC_free h
  | x :: l, p, k + 1, h => chkC_behind k (chkC_ok h).2.2
theorem chkC_short : ∀ {l : List Cl} {p : Option (List UInt8)}, chkC p l = 0 → ∀ x ∈ l, x.k.length + x.v.length ≤ 480
  | [], _, _, x, hx => by cases hx
  | y :: l, p, h, x, hx => by
    obtain ⟨h1, _, h3⟩ := chkC_ok h
    rcases List.mem_cons.1 hx with rfl | hx
    · exact h1
    · exact chkC_short h3 x hx
theorem chkC_rises : ∀ {l : List Cl} {p : Option (List UInt8)}, chkC p l = 0 → risesO p l = true
  | [], _, _ => rfl
  | y :: l, p, h => by
    obtain ⟨_, h2, h3⟩ := chkC_ok h
    simp [risesO, h2, chkC_rises h3]

theorem pchk_ok {next : Int} {l : List Cl} (h : pchk next l = 0) : 0 ≤ next ∧ next ≤ 256 ∧ chkC none l = 0 ∧ psize next.toNat l ≤ 2048 := by
  unfold pchk at h
  by_cases h1 : next < 0 ∨ 256 < next
  · rw [if_pos h1] at h; cases h
  · rw [if_neg h1] at h
    by_cases h2 : chkC none l ≠ 0
    · rw [if_pos h2] at h; exact absurd h h2
    · rw [if_neg h2] at h
      by_cases h3 : 2048 < psize next.toNat l
      · rw [if_pos h3] at h; cases h
      · exact ⟨by omega, by omega, Classical.byContradiction h2, by omega⟩
theorem pchk_mk {next : Int} {l : List Cl} (h1 : 0 ≤ next ∧ next ≤ 256) (h2 : chkC none l = 0) (h3 : psize next.toNat l ≤ 2048) : pchk next l = 0 := by
  unfold pchk
  rw [if_neg (by omega), if_neg (by rw [h2]; simp), if_neg (by omega)]
theorem psize_le {next : Nat} {l : List Cl} {s : Nat} (hn : next ≤ 256) (hl : l.length ≤ 16383) (hs : csum l ≤ s) : psize next l ≤ s + 9 := by
  have := vlen_two (v := next) (by omega)
  have := vlen_two (v := l.length) (by omega)
  unfold psize; omega

/-- the halves of a page that may be -/
theorem halves_are {next : Int} {l : List Cl} (h : pchk next l = 0) (h2 : 2 ≤ l.length) :
    1 ≤ halfC l ∧ halfC l < l.length ∧ pchk next (l.take (halfC l)) = 0 ∧ pchk next (l.drop (halfC l)) = 0 ∧ psize next.toNat (l.take (halfC l)) + 490 ≤ 2048 ∧ psize next.toNat (l.drop (halfC l)) + 490 ≤ 2048 ∧
      ∀ x y, l[halfC l - 1]? = some x → l[halfC l]? = some y → Op.bytesLess x.k y.k = true := by
  obtain ⟨n1, n2, hc, hs⟩ := pchk_ok h
  have hm : (l.take (l.length - 1)).length = l.length - 1 := by rw [List.length_take]; omega
  have hk1 := halfG_pos (csum l) 0 (l := l.take (l.length - 1)) (by omega)
  have hk2 := halfG_le (csum l) 0 (l.take (l.length - 1))
  obtain ⟨i1, i2⟩ := halfG_is (csum l) 0 (l.take (l.length - 1)) (by omega)
  have hall : csum l ≤ 2041 := by
    have := vlen_pos next.toNat
    have := vlen_pos l.length
    unfold psize at hs; omega
  have h2l := csum_two l
  unfold halfC
  generalize halfG (csum l) 0 (l.take (l.length - 1)) = k at *
  rw [hm] at hk2 i2
  obtain ⟨X, hkx⟩ : ∃ X, l[k - 1]? = some X := ⟨_, List.getElem?_eq_getElem (by omega)⟩
  have hx := clen_short (chkC_short hc _ (List.mem_of_getElem? hkx))
  have ht := csum_take hkx
  rw [show k - 1 + 1 = k by omega] at ht
  have q1 : (l.take (l.length - 1)).take (k - 1) = l.take (k - 1) := by rw [List.take_take, Nat.min_eq_left (by omega)]
  have q2 : (l.take (l.length - 1)).take k = l.take k := by rw [List.take_take, Nat.min_eq_left (by omega)]
  rw [q1] at i1
  rw [q2] at i2
  have hsp := csum_split l k
  have hsp1 := csum_split l (k - 1)
  have f1 : csum (l.take k) ≤ 1504 := by
    rcases i1 with i1 | i1
    · subst i1
      simp only [Nat.sub_self, List.take_zero, csum] at ht
      omega
    · omega
  have f2 : csum (l.drop k) ≤ 1504 := by
    rcases i2 with i2 | i2
    · omega
    · obtain ⟨Y, hky⟩ : ∃ Y, l[k]? = some Y := ⟨_, List.getElem?_eq_getElem (by omega)⟩
      have hy := clen_short (chkC_short hc _ (List.mem_of_getElem? hky))
      have hd := csum_drop hky
      rw [show l.drop (k + 1) = [] from List.drop_eq_nil_of_le (by omega)] at hd
      simp only [csum] at hd
      omega
  have p1 := psize_le (next := next.toNat) (l := l.take k) (by omega) (by rw [List.length_take]; omega) f1
  have p2 := psize_le (next := next.toNat) (l := l.drop k) (by omega) (by rw [List.length_drop]; omega) f2
  refine ⟨hk1, by omega, pchk_mk ⟨n1, n2⟩ (chkC_take k hc) (by omega), pchk_mk ⟨n1, n2⟩ (chkC_behind k hc) (by omega), by omega, by omega, fun x y hx hy => ?_⟩
  obtain ⟨a1, a2⟩ := List.getElem?_eq_some_iff.1 hx
  obtain ⟨b1, b2⟩ := List.getElem?_eq_some_iff.1 hy
  have := List.pairwise_iff_getElem.1 (ris_of (chkC_rises hc)) _ _ a1 b1 (by omega)
  rwa [a2, b2] at this

end Go.Proofs.YtikggbopoajcbaaDoor
