/-
  Writes in order, those of one key as they were: there is one such list alone. Plain.
-/
import Derived.Test.YtcdjbacljnofiaaWt
namespace Go.Proofs.Ytcdjbacljnofiaa
open Go Go.RowKit

theorem leK_cmp (f k : List UInt8) : leK f k = decide (cmpL f k ≠ 1) := by
  unfold leK
  rw [bytesLess_cmpL]
  have h0 := cmpL_zero f k
  have e : (f == k) = decide (f = k) := by rw [Bool.eq_iff_iff]; simp
  rw [e]
  rcases cmpL_three f k with h | h | h
  · simp [h]
  · have hk := h0.1 h
    subst hk
    simp [h]
  · have hne : ¬ f = k := fun e => by rw [h0.2 e] at h; cases h
    simp [h, hne]
theorem leK_anti {a b : List UInt8} (h1 : leK a b = true) (h2 : leK b a = true) : a = b := by
  rw [leK_cmp] at h1 h2
  have hn := cmpL_neg a b
  have h1 := of_decide_eq_true h1
  have h2 := of_decide_eq_true h2
  rcases cmpL_three a b with h | h | h
  · rw [h] at hn; exact absurd hn h2
  · exact (cmpL_zero a b).1 h
  · exact absurd h h1
theorem leK_total (a b : List UInt8) : leK a b = true ∨ leK b a = true := by
  rw [leK_cmp, leK_cmp]
  have hn := cmpL_neg a b
  rcases cmpL_three a b with h | h | h
  · exact .inl (by simp [h])
  · exact .inl (by simp [h])
  · rw [h] at hn; exact .inr (by simp [hn])
theorem leK_refl (a : List UInt8) : leK a a = true := (leK_total a a).elim id id
theorem cmpL_trans : ∀ a b c : List UInt8, cmpL a b ≠ 1 → cmpL b c ≠ 1 → cmpL a c ≠ 1
  | [], _, [], _, _ => by simp [cmpL]
  | [], _, _ :: _, _, _ => by simp [cmpL]
  | _ :: _, [], _, h, _ => by simp [cmpL] at h
  | _ :: _, _ :: _, [], _, h => by simp [cmpL] at h
  | x :: a, y :: b, z :: c, h1, h2 => by
    by_cases hxy : x = y
    · subst hxy
      rw [cmpL_same rfl] at h1
      by_cases hxz : x = z
      · subst hxz
        rw [cmpL_same rfl] at h2 ⊢
        exact cmpL_trans a b c h1 h2
      · rw [cmpL_ne hxz] at h2 ⊢
        exact h2
    · rw [cmpL_ne hxy] at h1
      by_cases hyz : y = z
      · subst hyz
        rw [cmpL_ne hxy]
        exact h1
      · rw [cmpL_ne hyz] at h2
        have n1 : x.toNat ≠ y.toNat := fun e => hxy (UInt8.toNat_inj.1 e)
        have n2 : y.toNat ≠ z.toNat := fun e => hyz (UInt8.toNat_inj.1 e)
        unfold ordI at h1 h2
        have l1 : x.toNat < y.toNat := by
          refine Classical.byContradiction fun h => ?_
          rw [if_neg (by omega), if_pos (by omega)] at h1
          exact h1 rfl
        have l2 : y.toNat < z.toNat := by
          refine Classical.byContradiction fun h => ?_
          rw [if_neg (by omega), if_pos (by omega)] at h2
          exact h2 rfl
        have hxz : x ≠ z := fun e => by subst e; omega
        rw [cmpL_ne hxz, ordI, if_pos (by omega)]
        decide
theorem leK_trans {a b c : List UInt8} (h1 : leK a b = true) (h2 : leK b c = true) : leK a c = true := by
  rw [leK_cmp] at h1 h2 ⊢
  exact decide_eq_true (cmpL_trans a b c (of_decide_eq_true h1) (of_decide_eq_true h2))

def Srt (ws : List Wt) : Prop := ws.Pairwise fun x y => leK x.k y.k = true
/-- of each key the same writes, in the same order -/
def Stb (a b : List Wt) : Prop := ∀ k, a.filter (·.k == k) = b.filter (·.k == k)
theorem Stb.mem {a b : List Wt} (h : Stb a b) {x : Wt} (hx : x ∈ a) : x ∈ b := by
  have : x ∈ a.filter (·.k == x.k) := by simp [hx]
  rw [h x.k] at this
  exact (List.mem_filter.1 this).1
theorem Stb.symm {a b : List Wt} (h : Stb a b) : Stb b a := fun k => (h k).symm
theorem Stb.trans {a b c : List Wt} (h : Stb a b) (h' : Stb b c) : Stb a c := fun k => (h k).trans (h' k)

theorem srt_one : ∀ (a b : List Wt), Srt a → Srt b → Stb a b → a = b
  | [], [], _, _, _ => rfl
  | [], y :: b, _, _, h => by have := h.symm.mem (List.mem_cons_self (a := y) (l := b)); simp at this
  | x :: a, [], _, _, h => by have := h.mem (List.mem_cons_self (a := x) (l := a)); simp at this
  | x :: a, y :: b, ha, hb, h => by
    have ha' := List.pairwise_cons.1 ha
    have hb' := List.pairwise_cons.1 hb
    have h1 : leK y.k x.k = true := by
      have hm := h.mem (List.mem_cons_self (a := x) (l := a))
      rcases List.mem_cons.1 hm with e | hm
      · rw [e]; exact leK_refl _
      · exact hb'.1 x hm
    have h2 : leK x.k y.k = true := by
      have hm := h.symm.mem (List.mem_cons_self (a := y) (l := b))
      rcases List.mem_cons.1 hm with e | hm
      · rw [e]; exact leK_refl _
      · exact ha'.1 y hm
    have hk := leK_anti h2 h1
    have hf := h x.k
    rw [List.filter_cons, List.filter_cons, if_pos (by simp), if_pos (by simp [hk])] at hf
    injection hf with hxy _
    subst hxy
    have ht : Stb a b := fun k => by
      have hf := h k
      rw [List.filter_cons, List.filter_cons] at hf
      split at hf
      · injection hf
      · exact hf
    rw [srt_one a b ha'.2 hb'.2 ht]

/-- where a key goes: behind the last one that isn't greater, from n on downwards -/
def posn (l : List Wt) (k : List UInt8) : Nat → Nat
  | 0 => 0
  | n + 1 => if (match l[n]? with | some y => leK y.k k | none => true) then n + 1 else posn l k n
theorem posn_yes {l : List Wt} {k : List UInt8} {n : Nat} {y : Wt} (h : l[n]? = some y) (hk : leK y.k k = true) : posn l k (n + 1) = n + 1 := by
  unfold posn; rw [h]; exact if_pos hk
theorem posn_no {l : List Wt} {k : List UInt8} {n : Nat} {y : Wt} (h : l[n]? = some y) (hk : leK y.k k = false) : posn l k (n + 1) = posn l k n := by
  conv => lhs; unfold posn
  rw [h]; exact if_neg (by simp [hk])
def ins (l : List Wt) (x : Wt) : List Wt := l.take (posn l x.k l.length) ++ x :: l.drop (posn l x.k l.length)
def sortW (ws : List Wt) : List Wt := ws.foldl ins []

theorem posn_spec (l : List Wt) (k : List UInt8) : ∀ n, n ≤ l.length → posn l k n ≤ n ∧ (∀ i y, posn l k n ≤ i → i < n → l[i]? = some y → leK y.k k = false) ∧ (∀ y, 0 < posn l k n → l[posn l k n - 1]? = some y → leK y.k k = true)
  | 0, _ => ⟨Nat.le_refl _, fun _ _ _ h => absurd h (by omega), fun _ h => absurd h (by simp [posn])⟩
  | n + 1, hn => by
    have ih := posn_spec l k n (by omega)
    have hy : l[n]? = some l[n] := List.getElem?_eq_getElem (by omega)
    cases hk : leK (l[n]).k k with
    | true =>
      rw [posn_yes hy hk]
      refine ⟨Nat.le_refl _, fun i y h1 h2 => by omega, fun y _ h => ?_⟩
      rw [Nat.add_sub_cancel, hy] at h
      injection h with h
      rw [← h]; exact hk
    | false =>
      rw [posn_no hy hk]
      refine ⟨by omega, fun i y h1 h2 h3 => ?_, ih.2.2⟩
      by_cases hi : i = n
      · subst hi
        rw [hy] at h3
        injection h3 with h3
        rw [← h3]; exact hk
      · exact ih.2.1 i y h1 (by omega) h3

theorem ins_drop {l : List Wt} {x y : Wt} (h : y ∈ l.drop (posn l x.k l.length)) : leK y.k x.k = false := by
  obtain ⟨i, hi⟩ := List.mem_iff_getElem?.1 h
  rw [List.getElem?_drop] at hi
  have hlt := (List.getElem?_eq_some_iff.1 hi).1
  exact (posn_spec l x.k l.length (Nat.le_refl _)).2.1 _ y (by omega) hlt hi
theorem ins_take {l : List Wt} {x y : Wt} (hs : Srt l) (h : y ∈ l.take (posn l x.k l.length)) : leK y.k x.k = true := by
  obtain ⟨h1, _, h3⟩ := posn_spec l x.k l.length (Nat.le_refl _)
  obtain ⟨i, hi⟩ := List.mem_iff_getElem?.1 h
  generalize posn l x.k l.length = p at *
  rw [List.getElem?_take] at hi
  have hip : i < p := by
    refine Classical.byContradiction fun hn => ?_
    rw [if_neg hn] at hi
    cases hi
  rw [if_pos hip] at hi
  have hz : l[p - 1]? = some l[p - 1] := List.getElem?_eq_getElem (by omega)
  have hle := h3 _ (by omega) hz
  by_cases he : i = p - 1
  · subst he
    rw [hz] at hi
    injection hi with hi
    rw [← hi]; exact hle
  · have hil := (List.getElem?_eq_some_iff.1 hi)
    have hp := List.pairwise_iff_getElem.1 hs i (p - 1) hil.1 (by omega) (by omega)
    rw [hil.2] at hp
    exact leK_trans hp hle
theorem ins_srt {l : List Wt} (x : Wt) (hs : Srt l) : Srt (ins l x) := by
  unfold ins Srt
  have h1 : (l.take (posn l x.k l.length)).Pairwise fun x y => leK x.k y.k = true := hs.sublist (List.take_sublist _ _)
  have h2 : (l.drop (posn l x.k l.length)).Pairwise fun x y => leK x.k y.k = true := hs.sublist (List.drop_sublist _ _)
  rw [List.pairwise_append, List.pairwise_cons]
  have hd : ∀ y ∈ l.drop (posn l x.k l.length), leK x.k y.k = true := fun y hy => by
    rcases leK_total x.k y.k with h | h
    · exact h
    · rw [ins_drop hy] at h; cases h
  refine ⟨h1, ⟨hd, h2⟩, fun a ha b hb => ?_⟩
  rcases List.mem_cons.1 hb with rfl | hb
  · exact ins_take hs ha
  · exact leK_trans (ins_take hs ha) (hd b hb)
theorem ins_stb (l : List Wt) (x : Wt) : Stb (ins l x) (l ++ [x]) := fun k => by
  unfold ins
  have hd : ∀ (d : List Wt), (∀ y ∈ d, leK y.k x.k = false) → (x :: d).filter (·.k == k) = (d ++ [x]).filter (·.k == k) := fun d hd => by
    rw [List.filter_append, List.filter_cons]
    by_cases hk : x.k = k
    · have hnil : d.filter (·.k == k) = [] := by
        rw [List.filter_eq_nil_iff]
        intro y hy he
        have := hd y hy
        rw [eq_of_beq he, hk, leK_refl] at this
        cases this
      rw [if_pos (by simpa using hk), hnil]
      simp [hk]
    · rw [if_neg (by simpa using hk)]
      simp [hk]
  rw [List.filter_append, hd _ (fun y hy => ins_drop hy), ← List.filter_append, ← List.append_assoc, List.take_append_drop]
theorem sort_spec (ws : List Wt) : ∀ (acc : List Wt), Srt acc → Srt (ws.foldl ins acc) ∧ Stb (ws.foldl ins acc) (acc ++ ws) := by
  induction ws with
  | nil => intro acc h; exact ⟨h, fun k => by simp⟩
  | cons x ws ih =>
    intro acc h
    obtain ⟨h1, h2⟩ := ih (ins acc x) (ins_srt x h)
    refine ⟨h1, fun k => ?_⟩
    rw [List.foldl_cons, h2 k, List.filter_append, ins_stb acc x k, ← List.filter_append, List.append_assoc]
    rfl
theorem sortW_srt (ws : List Wt) : Srt (sortW ws) := (sort_spec ws [] List.Pairwise.nil).1
theorem sortW_stb (ws : List Wt) : Stb (sortW ws) ws := (sort_spec ws [] List.Pairwise.nil).2
/-- whatever is in order, and has of each key the same, is it -/
theorem sortW_is {a ws : List Wt} (h1 : Srt a) (h2 : Stb a ws) : a = sortW ws := srt_one _ _ h1 (sortW_srt ws) (h2.trans (sortW_stb ws).symm)
theorem ins_length (l : List Wt) (x : Wt) : (ins l x).length = l.length + 1 := by
  have := (posn_spec l x.k l.length (Nat.le_refl _)).1
  unfold ins
  simp only [List.length_append, List.length_take, List.length_cons, List.length_drop]
  omega

end Go.Proofs.Ytcdjbacljnofiaa
