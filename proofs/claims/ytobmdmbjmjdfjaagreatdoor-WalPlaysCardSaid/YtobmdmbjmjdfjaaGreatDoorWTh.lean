/-
  What was appended is found again (plain functions): the segments that follow one another.
-/
import Derived.Test.YtobmdmbjmjdfjaaGreatDoorWPl
namespace Go.Proofs.YtobmdmbjmjdfjaaGreatDoor
open Go Go.RowKit

def Linked : Nat → List Vs → Nat → Prop
  | q, [], e => q = e
  | q, x :: S, e => x.base = q ∧ 1 ≤ x.rs.length ∧ (∀ r ∈ x.rs, q ≤ r.1 ∧ r.1 < q + x.rs.length) ∧ Linked (q + x.rs.length) S e
theorem Linked.le : ∀ {q : Nat} {S : List Vs} {e : Nat}, Linked q S e → q ≤ e
  | q, [], e, h => Nat.le_of_eq h
  | q, x :: S, e, h => by
    have := Linked.le h.2.2.2
    omega
theorem Linked.mem : ∀ {q : Nat} {S : List Vs} {e : Nat}, Linked q S e → ∀ x ∈ S, q ≤ x.base ∧ x.base + x.rs.length ≤ e ∧ 1 ≤ x.rs.length ∧ ∀ r ∈ x.rs, r.1 < x.base + x.rs.length
  | q, [], e, _, x, hx => by cases hx
  | q, y :: S, e, h, x, hx => by
    obtain ⟨h1, h2, h3, h4⟩ := h
    rcases List.mem_cons.1 hx with e1 | hx
    · subst e1
      have := h4.le
      exact ⟨Nat.le_of_eq h1.symm, by omega, h2, fun r hr => by have := (h3 r hr).2; omega⟩
    · have := h4.mem x hx
      exact ⟨by omega, this.2.1, this.2.2.1, this.2.2.2⟩
theorem Linked.uniq : ∀ {q : Nat} {S : List Vs} {e : Nat}, Linked q S e → ∀ x ∈ S, ∀ y ∈ S, x.base = y.base → x = y
  | q, [], e, _, x, hx, _, _, _ => by cases hx
  | q, z :: S, e, h, x, hx, y, hy, he => by
    obtain ⟨h1, h2, h3, h4⟩ := h
    rcases List.mem_cons.1 hx with e1 | hx' <;> rcases List.mem_cons.1 hy with e2 | hy'
    · rw [e1, e2]
    · have := (h4.mem y hy').1
      rw [e1] at he
      omega
    · have := (h4.mem x hx').1
      rw [e2] at he
      omega
    · exact h4.uniq x hx' y hy' he
theorem Linked.split : ∀ {q : Nat} {A B : List Vs} {e : Nat}, Linked q (A ++ B) e → ∃ m, Linked q A m ∧ Linked m B e
  | q, [], B, e, h => ⟨q, rfl, h⟩
  | q, x :: A, B, e, h => by
    obtain ⟨m, h1, h2⟩ := Linked.split (A := A) (B := B) h.2.2.2
    exact ⟨m, ⟨h.1, h.2.1, h.2.2.1, h1⟩, h2⟩
theorem Linked.cover : ∀ {q : Nat} {S : List Vs} {e f : Nat}, Linked q S e → S ≠ [] → q ≤ f → f ≤ e → ∃ A x B, S = A ++ x :: B ∧ x.base ≤ f ∧ f ≤ x.base + x.rs.length ∧ ∀ y ∈ B, f < y.base
  | q, [], e, f, _, h0, _, _ => absurd rfl h0
  | q, x :: S, e, f, h, _, h1, h2 => by
    obtain ⟨a1, a2, a3, a4⟩ := h
    by_cases hf : f < q + x.rs.length
    · exact ⟨[], x, S, rfl, by omega, by omega, fun y hy => by have := (a4.mem y hy).1; omega⟩
    · by_cases hS : S = []
      · subst hS
        have : q + x.rs.length = e := a4
        exact ⟨[], x, [], rfl, by omega, by omega, fun y hy => by cases hy⟩
      · obtain ⟨A, y, B, e1, e2, e3, e4⟩ := a4.cover (f := f) hS (by omega) h2
        exact ⟨x :: A, y, B, by rw [e1]; rfl, e2, e3, e4⟩

structure Holds8 (l : Wl) (m : Secs) (S : List Vs) (e : Nat) : Prop where
  link : Linked 1 S e
  lt : ∀ x ∈ S, x.i < l.n
  nodup : (S.map (·.i)).Nodup
  yes : ∀ x ∈ S, l.look m x.i = some (x.base, x.rs)
  no : ∀ i, i < l.n → (∀ x ∈ S, x.i ≠ i) → l.look m i = none
  small : e ≤ 4611686018427387904
theorem Holds8.some_ {l : Wl} {m : Secs} {S : List Vs} {e : Nat} (h : Holds8 l m S e) {i q : Nat} {rs : List Rc} (hi : i < l.n) (ho : l.look m i = some (q, rs)) : ∃ x ∈ S, x.i = i ∧ x.base = q ∧ x.rs = rs := by
  by_cases hx : ∃ x ∈ S, x.i = i
  · obtain ⟨x, hx, e1⟩ := hx
    have := h.yes x hx
    rw [e1, ho] at this
    injection this with this
    injection this with a b
    exact ⟨x, hx, e1, a.symm, b.symm⟩
  · have := h.no i hi (fun x hm e1 => hx ⟨x, hm, e1⟩)
    rw [ho] at this
    cases this
def Match (fr : Nat) (q : Nat) (rs : List Rc) : Prop := q ≤ m64 (fr + 1) ∧ m64 (fr + 1) ≤ m64 (q + rs.length)
theorem pick_spec (l : Wl) (m : Secs) (fr : Nat) : ∀ k, ((l.pick m fr k).1 = -1 ∧ ∀ i, i < k → ∀ q rs, l.look m i = some (q, rs) → ¬ Match fr q rs) ∨
    (∃ i q rs, i < k ∧ l.pick m fr k = ((i : Int), q) ∧ l.look m i = some (q, rs) ∧ Match fr q rs ∧ ∀ j, j < k → ∀ q' rs', l.look m j = some (q', rs') → Match fr q' rs' → q' ≤ q)
  | 0 => .inl ⟨rfl, fun i hi => absurd hi (Nat.not_lt_zero _)⟩
  | k + 1 => by
    have ih := pick_spec l m fr k
    show ((pick1 (l.look m k) fr k (l.pick m fr k)).1 = -1 ∧ _) ∨ (∃ i q rs, i < k + 1 ∧ pick1 (l.look m k) fr k (l.pick m fr k) = _ ∧ _)
    cases ho : l.look m k with
    | none =>
      unfold pick1
      dsimp only
      rcases ih with ⟨h1, h2⟩ | ⟨i, q, rs, h1, h2, h3, h4, h5⟩
      · refine .inl ⟨h1, fun i hi q rs hq => ?_⟩
        by_cases e : i = k
        · subst e; rw [ho] at hq; cases hq
        · exact h2 i (by omega) q rs hq
      · refine .inr ⟨i, q, rs, by omega, h2, h3, h4, fun j hj q' rs' hq => ?_⟩
        by_cases e : j = k
        · subst e; rw [ho] at hq; cases hq
        · exact h5 j (by omega) q' rs' hq
    | some x =>
      obtain ⟨q0, rs0⟩ := x
      unfold pick1
      dsimp only
      by_cases hm : Match fr q0 rs0
      · rcases ih with ⟨h1, h2⟩ | ⟨i, q, rs, h1, h2, h3, h4, h5⟩
        · rw [if_pos ⟨hm.1, hm.2, .inl (by rw [h1]; omega)⟩]
          refine .inr ⟨k, q0, rs0, by omega, rfl, ho, hm, fun j hj q' rs' hq hm' => ?_⟩
          by_cases e : j = k
          · subst e; rw [ho] at hq; injection hq with hq; injection hq with a _; omega
          · exact absurd hm' (h2 j (by omega) q' rs' hq)
        · by_cases hq0 : q < q0
          · rw [if_pos ⟨hm.1, hm.2, .inr (by rw [h2]; exact hq0)⟩]
            refine .inr ⟨k, q0, rs0, by omega, rfl, ho, hm, fun j hj q' rs' hq hm' => ?_⟩
            by_cases e : j = k
            · subst e; rw [ho] at hq; injection hq with hq; injection hq with a _; omega
            · have := h5 j (by omega) q' rs' hq hm'; omega
          · rw [if_neg (fun y => y.2.2.elim (fun z => by rw [h2] at z; dsimp only at z; omega) (fun z => hq0 (by rw [h2] at z; exact z)))]
            refine .inr ⟨i, q, rs, by omega, h2, h3, h4, fun j hj q' rs' hq hm' => ?_⟩
            by_cases e : j = k
            · subst e; rw [ho] at hq; injection hq with hq; injection hq with a _; omega
            · exact h5 j (by omega) q' rs' hq hm'
      · rw [if_neg (fun y => hm ⟨y.1, y.2.1⟩)]
        rcases ih with ⟨h1, h2⟩ | ⟨i, q, rs, h1, h2, h3, h4, h5⟩
        · refine .inl ⟨h1, fun i hi q rs hq => ?_⟩
          by_cases e : i = k
          · subst e; rw [ho] at hq; injection hq with hq; injection hq with a b; subst a b; exact hm
          · exact h2 i (by omega) q rs hq
        · refine .inr ⟨i, q, rs, by omega, h2, h3, h4, fun j hj q' rs' hq hm' => ?_⟩
          by_cases e : j = k
          · subst e; rw [ho] at hq; injection hq with hq; injection hq with a b; subst a b; exact absurd hm' hm
          · exact h5 j (by omega) q' rs' hq hm'
theorem m64_small {x : Nat} (h : x < 18446744073709551616) : m64 x = x := Nat.mod_eq_of_lt h
theorem chain_run {l : Wl} {m : Secs} {S : List Vs} {e fr : Nat} (h : Holds8 l m S e) : ∀ (B : List Vs) (x : Vs) (A : List Vs) (c : Ch) (fuel : Nat), S = A ++ x :: B → c.next = (x.i : Int) → (∀ i, usedBy c.live i = true → ∃ y ∈ A, y.i = i) → B.length + 1 ≤ fuel →
    (l.chain m fr fuel c).last + 1 = e ∧ (l.chain m fr fuel c).out = c.out ++ ((x :: B).flatMap (·.rs)).filter (fun r => decide (fr < r.1)) ∧ (l.chain m fr fuel c).live.length = c.live.length + (B.length + 1)
  | B, x, A, c, 0, _, _, _, hf => by omega
  | B, x, A, c, fuel + 1, hS, hn, hu, hf => by
    have hxS : x ∈ S := by rw [hS]; simp
    have hlk := h.link
    rw [hS] at hlk
    obtain ⟨q, hA, hxB⟩ := hlk.split
    obtain ⟨b1, b2, b3, b4⟩ := hxB
    have hle := b4.le
    have hsm := h.small
    have hst := chStep_eq (fr := fr) (c := c) hn (h.yes x hxS)
    have hla : m64 (x.base + x.rs.length + 18446744073709551615) = x.base + x.rs.length - 1 := by unfold m64; omega
    have hwa : m64 (x.base + x.rs.length - 1 + 1) = x.base + x.rs.length := by rw [show x.base + x.rs.length - 1 + 1 = x.base + x.rs.length by omega]; exact m64_small (by omega)
    rw [hla, hwa] at hst
    rw [Wl.chain_go _ _ _ _ (by rw [hn]; omega), hst]
    have hfits : ∀ j, j < l.n → fits (l.look m j) (x.base + x.rs.length) (usedBy (c.live ++ [⟨x.i, x.base, x.rs.length⟩]) j) = true → ∃ z ∈ S, z.i = j ∧ z.base = x.base + x.rs.length := fun j hj hfj => by
      unfold fits at hfj
      cases ho : l.look m j with
      | none => rw [ho] at hfj; cases hfj
      | some y =>
        obtain ⟨q', rs'⟩ := y
        rw [ho] at hfj
        simp at hfj
        obtain ⟨z, hz, e1, e2, _⟩ := h.some_ hj ho
        exact ⟨z, hz, e1, by rw [e2]; exact hfj.1⟩
    match B, hS, b4, hf with
    | [], hS, b4, hf =>
      have b4 : q + x.rs.length = e := b4
      have hnx : nextI (fun j => fits (l.look m j) (x.base + x.rs.length) (usedBy (c.live ++ [⟨x.i, x.base, x.rs.length⟩]) j)) l.n l.n = -1 := nextI_all (fun j hj => by
        cases hb : fits (l.look m j) (x.base + x.rs.length) (usedBy (c.live ++ [⟨x.i, x.base, x.rs.length⟩]) j) with
        | false => rfl
        | true =>
          obtain ⟨z, hz, _, e2⟩ := hfits j hj hb
          have := h.link.mem z hz
          omega) _ (Nat.le_refl _)
      rw [hnx, Wl.chain_stop _ _ _ (by show (-1 : Int) < 0; omega)]
      refine ⟨by show x.base + x.rs.length - 1 + 1 = e; omega, ?_, by simp⟩
      simp
    | y :: B', hS, b4, hf =>
      have hyb : y.base = x.base + x.rs.length := by rw [b4.1, b1]
      have hyS : y ∈ S := by rw [hS]; simp
      have hnod := h.nodup
      rw [hS, List.map_append, List.map_cons, List.map_cons] at hnod
      have hyA : ∀ z ∈ A ++ [x], z.i ≠ y.i := by
        intro z hz e1
        rw [List.nodup_append] at hnod
        rcases List.mem_append.1 hz with hz | hz
        · exact hnod.2.2 z.i (List.mem_map_of_mem hz) y.i (by simp) e1
        · simp at hz
          subst hz
          have := hnod.2.1
          rw [List.nodup_cons] at this
          exact this.1 (by rw [e1]; simp)
      have hu2 : ∀ i, usedBy (c.live ++ [⟨x.i, x.base, x.rs.length⟩]) i = true → ∃ z ∈ A ++ [x], z.i = i := fun i hi => by
        rw [usedBy_snoc, Bool.or_eq_true] at hi
        rcases hi with hi | hi
        · obtain ⟨z, hz, e1⟩ := hu i hi
          exact ⟨z, by simp [hz], e1⟩
        · exact ⟨x, by simp, by simpa using hi⟩
      have hnx : nextI (fun j => fits (l.look m j) (x.base + x.rs.length) (usedBy (c.live ++ [⟨x.i, x.base, x.rs.length⟩]) j)) l.n l.n = (y.i : Int) := nextI_first (h.lt y hyS) (by
        rw [h.yes y hyS]
        unfold fits
        dsimp only
        rw [hyb]
        cases hb : usedBy (c.live ++ [⟨x.i, x.base, x.rs.length⟩]) y.i with
        | false => simp
        | true =>
          obtain ⟨z, hz, e1⟩ := hu2 _ hb
          exact absurd e1 (hyA z hz)) (fun j hj => by
        cases hb : fits (l.look m j) (x.base + x.rs.length) (usedBy (c.live ++ [⟨x.i, x.base, x.rs.length⟩]) j) with
        | false => rfl
        | true =>
          have hlt := h.lt y hyS
          obtain ⟨z, hz, e1, e2⟩ := hfits j (by omega) hb
          have := h.link.uniq z hz y hyS (by rw [e2, hyb])
          subst this
          omega) _ (Nat.le_refl _) (by omega)
      rw [hnx]
      obtain ⟨r1, r2, r3⟩ := chain_run (fr := fr) h B' y (A ++ [x]) ⟨c.live ++ [⟨x.i, x.base, x.rs.length⟩], x.base + x.rs.length - 1, c.out ++ x.rs.filter (fun r => decide (fr < r.1)), (y.i : Int)⟩ fuel (by rw [hS]; simp) rfl hu2 (by simp at hf; omega)
      refine ⟨r1, ?_, ?_⟩
      · rw [r2]
        simp only [List.flatMap_cons, List.filter_append, List.append_assoc]
      · rw [r3]
        simp
        omega
theorem found_is {l : Wl} {m : Secs} {S : List Vs} {e fr : Nat} (h : Holds8 l m S e) (hfr : fr + 1 ≤ e) :
    (l.found m fr).last + 1 = e ∧ (l.found m fr).out = (S.flatMap (·.rs)).filter (fun r => decide (fr < r.1)) ∧ (l.found m fr).live.length ≤ S.length ∧ (S ≠ [] → 1 ≤ (l.found m fr).live.length) := by
  have hsm := h.small
  have hF : m64 (fr + 1) = fr + 1 := m64_small (by omega)
  have hG : ∀ x ∈ S, m64 (x.base + x.rs.length) = x.base + x.rs.length := fun x hx => m64_small (by have := h.link.mem x hx; omega)
  by_cases hS : S = []
  · subst hS
    have he : 1 = e := h.link
    have hnone : ∀ i, i < l.n → l.look m i = none := fun i hi => h.no i hi (fun x hx => by cases hx)
    have hp : (l.pick m fr l.n).1 = -1 := by
      rcases pick_spec l m fr l.n with ⟨h1, _⟩ | ⟨i, q, rs, h1, _, h3, _⟩
      · exact h1
      · rw [hnone i h1] at h3; cases h3
    have hb : l.found m fr = l.begin m fr := Wl.chain_stop _ _ _ (by show (l.pick m fr l.n).1 < 0; rw [hp]; omega) _
    rw [hb]
    exact ⟨by show fr + 1 = e; omega, rfl, Nat.zero_le _, fun x => absurd rfl x⟩
  · obtain ⟨A, x, B, hAB, hx1, hx2, hx3⟩ := h.link.cover (f := fr + 1) hS (by omega) hfr
    have hxS : x ∈ S := by rw [hAB]; simp
    have hxm : Match fr x.base x.rs := ⟨by rw [hF]; exact hx1, by rw [hF, hG x hxS]; exact hx2⟩
    have hlk := h.link
    rw [hAB] at hlk
    obtain ⟨q, hA, hxB⟩ := hlk.split
    have hqx : x.base = q := hxB.1
    have hp : l.pick m fr l.n = ((x.i : Int), x.base) := by
      rcases pick_spec l m fr l.n with ⟨_, h2⟩ | ⟨i, q', rs, h1, h2, h3, h4, h5⟩
      · exact absurd hxm (h2 x.i (h.lt x hxS) _ _ (h.yes x hxS))
      · obtain ⟨z, hz, e1, e2, e3⟩ := h.some_ h1 h3
        have hge := h5 x.i (h.lt x hxS) _ _ (h.yes x hxS) hxm
        have hz1 : z.base ≤ fr + 1 := by have := h4.1; rw [hF] at this; omega
        have hzx : z = x := by
          rw [hAB] at hz
          rcases List.mem_append.1 hz with hz | hz
          · have := hA.mem z hz
            omega
          · rcases List.mem_cons.1 hz with hz | hz
            · exact hz
            · have := hx3 z hz
              omega
        subst hzx
        rw [h2, e1, e2]
    have hlen : S.length ≤ l.n := by
      have := nodup_le h.nodup (n := l.n) (fun i hi => by obtain ⟨y, hy, rfl⟩ := List.mem_map.1 hi; exact h.lt y hy)
      simpa using this
    obtain ⟨r1, r2, r3⟩ := chain_run (fr := fr) h B x A (l.begin m fr) (l.n + 1) hAB (by show (l.pick m fr l.n).1 = _; rw [hp]) (fun i hi => by cases hi) (by rw [hAB] at hlen; simp at hlen; omega)
    refine ⟨r1, ?_, ?_, fun _ => ?_⟩
    · show (l.chain m fr (l.n + 1) (l.begin m fr)).out = _
      rw [r2, hAB, List.flatMap_append, List.filter_append]
      congr 1
      show [] = _
      symm
      rw [List.filter_eq_nil_iff]
      intro r hr
      obtain ⟨y, hy, hr⟩ := List.mem_flatMap.1 hr
      have := hA.mem y hy
      have := this.2.2.2 r hr
      simp
      omega
    · show (l.chain m fr (l.n + 1) (l.begin m fr)).live.length ≤ _
      rw [r3, hAB]
      show 0 + _ ≤ _
      simp
    · show 1 ≤ (l.chain m fr (l.n + 1) (l.begin m fr)).live.length
      rw [r3]
      omega

end Go.Proofs.YtobmdmbjmjdfjaaGreatDoor
