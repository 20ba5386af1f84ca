/-
  The segments that follow one another: the landed way is the document's (plain functions).
-/
import Derived.Test.YtobmdmbjmjdfjaaGreatDoorWValid
namespace Go.Proofs.YtobmdmbjmjdfjaaGreatDoor
open Go Go.RowKit

abbrev Tr := Nat × Nat × Nat
def er (x : Vr) : Tr := (x.i, x.base, x.m)
def ev (x : Vs) : Tr := (x.i, x.base, x.rs.length)
def firstE (last : Nat) (x : Tr) : Bool := decide (x.2.1 ≤ m64 (last + 1)) && decide (m64 (last + 1) ≤ m64 (x.2.1 + x.2.2))
def nextE (last : Nat) (used : List En) (x : Tr) : Bool := decide (x.2.1 = m64 (last + 1)) && !(used.any fun y => ((x.1, x.2.1) : En) == y)
def estep (p : Tr → Bool) (a : Option Tr) (x : Tr) : Option Tr := if p x && (match a with | none => true | some y => decide (y.2.1 < x.2.1)) then some x else a
def grtE (p : Tr → Bool) (l : List Tr) : Option Tr := l.foldl (estep p) none
theorem grtE_snoc (p : Tr → Bool) (l : List Tr) (x : Tr) : grtE p (l ++ [x]) = estep p (grtE p l) x := by unfold grtE; rw [List.foldl_append]; rfl
theorem fold_er {p : Vr → Bool} {pe : Tr → Bool} (h : ∀ x, p x = pe (er x)) : ∀ (l : List Vr) (a : Option Vr), (l.foldl (gstep p) a).map er = (l.map er).foldl (estep pe) (a.map er)
  | [], _ => rfl
  | x :: l, a => by
    have hs : (gstep p a x).map er = estep pe (a.map er) (er x) := by
      unfold gstep estep
      rw [h x]
      cases a with
      | none => dsimp only [Option.map_none]; split <;> rfl
      | some y =>
        show Option.map er (if (pe (er x) && decide (y.base < x.base)) = true then some x else some y) = if (pe (er x) && decide (y.base < x.base)) = true then some (er x) else some (er y)
        split <;> rfl
    rw [List.foldl_cons, List.map_cons, List.foldl_cons, fold_er h l, hs]
theorem grt_er {p : Vr → Bool} {pe : Tr → Bool} (h : ∀ x, p x = pe (er x)) (l : List Vr) : (grt p l).map er = grtE pe (l.map er) := fold_er h l none
theorem gstep_or (p : Vr → Bool) (a : Option Vr) (x : Vr) : gstep p a x = some x ∨ gstep p a x = a := by
  unfold gstep
  by_cases h : (p x && (match a with | none => true | some y => decide (y.base < x.base))) = true
  · exact .inl (if_pos h)
  · exact .inr (if_neg h)
theorem fold_mem {p : Vr → Bool} : ∀ (l : List Vr) (a : Option Vr) (r : Vr), l.foldl (gstep p) a = some r → r ∈ l ∨ a = some r
  | [], _, _, h => .inr h
  | x :: l, a, r, h => by
    rw [List.foldl_cons] at h
    rcases fold_mem l _ r h with h | h
    · exact .inl (by simp [h])
    · rcases gstep_or p a x with e | e
      · rw [e] at h
        injection h with h
        exact .inl (by simp [h])
      · exact .inr (e ▸ h)
theorem grt_mem {p : Vr → Bool} {l : List Vr} {r : Vr} (h : grt p l = some r) : r ∈ l := (fold_mem l none r h).elim id (fun h => by cases h)
def encO : Option Tr → Int × Nat
  | none => (-1, 0)
  | some x => ((x.1 : Int), x.2.1)
theorem Wl.valid_mem (l : Wl) (m : Secs) : ∀ {k : Nat} {v : Vs}, v ∈ l.valid m k → v.i < k ∧ l.look m v.i = some (v.base, v.rs)
  | 0, _, h => by cases h
  | k + 1, v, h => by
    unfold valid at h
    rw [List.mem_append] at h
    rcases h with h | h
    · obtain ⟨h1, h2⟩ := l.valid_mem m h
      exact ⟨by omega, h2⟩
    · unfold vsOf at h
      cases ho : l.look m k with
      | none => rw [ho] at h; cases h
      | some x =>
        rw [ho] at h
        simp at h
        subst h
        exact ⟨by show k < k + 1; omega, ho⟩
theorem pick_is (l : Wl) (m : Secs) (fr : Nat) : ∀ k, l.pick m fr k = encO (grtE (firstE fr) ((l.valid m k).map ev))
  | 0 => rfl
  | k + 1 => by
    have ih := pick_is l m fr k
    show pick1 (l.look m k) fr k (l.pick m fr k) = _
    unfold Wl.valid vsOf
    cases ho : l.look m k with
    | none => rw [List.append_nil, ← ih]; rfl
    | some x =>
      obtain ⟨q, rs⟩ := x
      dsimp only
      rw [List.map_append, List.map_cons, List.map_nil, grtE_snoc, ih]
      generalize grtE (firstE fr) ((l.valid m k).map ev) = o
      unfold pick1 estep firstE ev
      dsimp only
      cases o with
      | none =>
        by_cases h1 : q ≤ m64 (fr + 1) <;> by_cases h2 : m64 (fr + 1) ≤ m64 (q + rs.length) <;> simp [h1, h2, encO]
      | some y =>
        have hy : ¬ ((y.1 : Nat) : Int) < 0 := by omega
        by_cases h1 : q ≤ m64 (fr + 1) <;> by_cases h2 : m64 (fr + 1) ≤ m64 (q + rs.length) <;> by_cases h3 : y.2.1 < q <;> simp [h1, h2, h3, encO, hy]
def Known (l : Wl) (m : Secs) (live : List Sg) : Prop := ∀ x ∈ live, ∃ rs, l.look m x.i = some (x.base, rs)
theorem used_same {l : Wl} {m : Secs} {live : List Sg} {i q : Nat} {rs : List Rc} (h : Known l m live) (ho : l.look m i = some (q, rs)) : ((live.map (·.en)).any fun y => ((i, q) : En) == y) = usedBy live i := by
  unfold usedBy
  rw [List.any_map, Bool.eq_iff_iff, List.any_eq_true, List.any_eq_true]
  constructor
  · rintro ⟨x, hx, he⟩
    refine ⟨x, hx, ?_⟩
    simp [Sg.en] at he ⊢
    exact he.1.symm
  · rintro ⟨x, hx, he⟩
    refine ⟨x, hx, ?_⟩
    simp at he
    obtain ⟨rs', h2⟩ := h x hx
    rw [he, ho] at h2
    injection h2 with h2
    injection h2 with h2 _
    simp [Sg.en, he, h2]
theorem next_spec {l : Wl} {m : Secs} {live : List Sg} {last : Nat} (h : Known l m live) : ∀ k,
    (grtE (nextE last (live.map (·.en))) ((l.valid m k).map ev) = none ∧ ∀ j, j < k → fits (l.look m j) (m64 (last + 1)) (usedBy live j) = false) ∨
    (∃ j t, j < k ∧ fits (l.look m j) (m64 (last + 1)) (usedBy live j) = true ∧ (∀ i, i < j → fits (l.look m i) (m64 (last + 1)) (usedBy live i) = false) ∧ grtE (nextE last (live.map (·.en))) ((l.valid m k).map ev) = some (j, m64 (last + 1), t))
  | 0 => .inl ⟨rfl, fun j hj => absurd hj (Nat.not_lt_zero _)⟩
  | k + 1 => by
    have ih := next_spec (last := last) h k
    unfold Wl.valid vsOf
    cases ho : l.look m k with
    | none =>
      rw [List.append_nil]
      rcases ih with ⟨h1, h2⟩ | ⟨j, t, h1, h2, h3, h4⟩
      · refine .inl ⟨h1, fun j hj => ?_⟩
        by_cases e : j = k
        · rw [e, ho]; rfl
        · exact h2 j (by omega)
      · exact .inr ⟨j, t, by omega, h2, h3, h4⟩
    | some x =>
      obtain ⟨q, rs⟩ := x
      have hu := used_same h ho
      dsimp only
      rw [List.map_append, List.map_cons, List.map_nil, grtE_snoc]
      have hf : fits (l.look m k) (m64 (last + 1)) (usedBy live k) = nextE last (live.map (·.en)) (ev ⟨k, q, rs⟩) := by
        rw [ho]
        unfold fits nextE ev
        dsimp only
        rw [hu]
      rcases ih with ⟨h1, h2⟩ | ⟨j, t, h1, h2, h3, h4⟩
      · rw [h1]
        unfold estep
        dsimp only
        rw [Bool.and_true, ← hf]
        cases hb : fits (l.look m k) (m64 (last + 1)) (usedBy live k) with
        | false =>
          refine .inl ⟨by simp, fun j hj => ?_⟩
          by_cases e : j = k
          · rw [e]; exact hb
          · exact h2 j (by omega)
        | true =>
          have hq : q = m64 (last + 1) := by
            rw [hf] at hb
            unfold nextE ev at hb
            simp at hb
            exact hb.1
          refine .inr ⟨k, rs.length, by omega, hb, h2, ?_⟩
          rw [if_pos rfl, ← hq]
          rfl
      · refine .inr ⟨j, t, by omega, h2, h3, ?_⟩
        rw [h4]
        unfold estep
        rw [if_neg]
        intro hc
        simp only [Bool.and_eq_true, nextE, ev] at hc
        have h5 : q = m64 (last + 1) := of_decide_eq_true hc.1.1
        have h6 : m64 (last + 1) < q := of_decide_eq_true hc.2
        omega
theorem next_pick {l : Wl} {m : Secs} {live : List Sg} {last : Nat} (h : Known l m live) : nextI (fun i => fits (l.look m i) (m64 (last + 1)) (usedBy live i)) l.n l.n = (encO (grtE (nextE last (live.map (·.en))) ((l.valid m l.n).map ev))).1 := by
  rcases next_spec (last := last) h l.n with ⟨h1, h2⟩ | ⟨j, t, h1, h2, h3, h4⟩
  · rw [h1, nextI_all h2 _ (Nat.le_refl _)]; rfl
  · rw [h4, nextI_first (i := j) h1 h2 h3 _ (Nat.le_refl _) (by omega)]; rfl
theorem VsIs.er {w : World} {base : Nat} {rows : List Vr} {vs : List Vs} (h : VsIs w base rows vs) : rows.map er = vs.map ev := by
  refine List.ext_getElem? fun k => ?_
  rw [List.getElem?_map, List.getElem?_map]
  by_cases hk : k < rows.length
  · have hk2 : k < vs.length := by rw [← h.1]; exact hk
    obtain ⟨a, b, c⟩ := h.2 k _ _ (List.getElem?_eq_getElem hk) (List.getElem?_eq_getElem hk2)
    rw [List.getElem?_eq_getElem hk, List.getElem?_eq_getElem hk2]
    show some (_, _, _) = some (_, _, _)
    rw [a, b, c.1]
  · rw [List.getElem?_eq_none (by omega), List.getElem?_eq_none (by rw [← h.1]; omega)]
    rfl
theorem VsIs.get {w : World} {base : Nat} {rows : List Vr} {l : Wl} {m : Secs} {n : Nat} {r : Vr} (h : VsIs w base rows (l.valid m n)) (hr : r ∈ rows) : ∃ rs, r.i < n ∧ l.look m r.i = some (r.base, rs) ∧ GRow eRc 70 w base r.A r.m r.c rs := by
  obtain ⟨k, hk, rfl⟩ := List.mem_iff_getElem.1 hr
  have hk2 : k < (l.valid m n).length := by rw [← h.1]; exact hk
  obtain ⟨a, b, c⟩ := h.2 k _ _ (List.getElem?_eq_getElem hk) (List.getElem?_eq_getElem hk2)
  obtain ⟨d, e⟩ := l.valid_mem m (List.getElem_mem hk2)
  exact ⟨_, by rw [a]; exact d, by rw [a, b]; exact e, c⟩
theorem chStep_eq {l : Wl} {m : Secs} {fr : Nat} {c : Ch} {i q : Nat} {rs : List Rc} (hi : c.next = (i : Int)) (ho : l.look m i = some (q, rs)) :
    l.chStep m fr c = ⟨c.live ++ [⟨i, q, rs.length⟩], m64 (q + rs.length + 18446744073709551615), c.out ++ rs.filter (fun r => decide (fr < r.1)), nextI (fun j => fits (l.look m j) (m64 (m64 (q + rs.length + 18446744073709551615) + 1)) (usedBy (c.live ++ [⟨i, q, rs.length⟩]) j)) l.n l.n⟩ := by
  unfold Wl.chStep
  rw [hi, show ((i : Int)).toNat = i by simp, ho]
  rfl

end Go.Proofs.YtobmdmbjmjdfjaaGreatDoor
