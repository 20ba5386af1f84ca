/-
  Those that are dirty, by rising numbers: there is one such list alone. Plain.
-/
import Derived.Test.YtdhjjjagjkencaaCa
namespace Go.Proofs.Ytdhjjjagjkencaa
open Go Go.RowKit

theorem insE_perm (x : En) (was : List En) : (insE x was).Perm (x :: was) := by
  unfold insE
  have h := (List.perm_middle (a := x) (l₁ := was.take (backE x.i was was.length)) (l₂ := was.drop (backE x.i was was.length)))
  rwa [List.take_append_drop] at h
theorem dirtyE_perm : ∀ (l was : List En), (dirtyE was l).Perm (was ++ l.filter (·.d))
  | [], was => by simp [dirtyE]
  | x :: l, was => by
    unfold dirtyE
    cases hd : x.d with
    | false =>
      rw [List.filter_cons_of_neg (by simp [hd])]
      exact dirtyE_perm l was
    | true =>
      rw [List.filter_cons_of_pos hd]
      refine (dirtyE_perm l (insE x was)).trans ?_
      refine ((insE_perm x was).append_right _).trans ?_
      exact (List.perm_middle (a := x) (l₁ := was) (l₂ := l.filter (·.d))).symm
theorem backE_spec (k : Int) (was : List En) : ∀ n, n ≤ was.length → (∀ i y, backE k was n ≤ i → i < n → was[i]? = some y → k < y.i) ∧ (∀ y, 0 < backE k was n → was[backE k was n - 1]? = some y → y.i ≤ k)
  | 0, _ => ⟨fun _ _ _ h _ => absurd h (by omega), fun _ h => absurd h (by simp [backE])⟩
  | n + 1, hn => by
    have ih := backE_spec k was n (by omega)
    have hy : was[n]? = some was[n] := List.getElem?_eq_getElem (by omega)
    unfold backE
    rw [hy]
    dsimp only
    by_cases hk : k < (was[n]).i
    · rw [if_pos hk]
      refine ⟨fun i y h1 h2 h3 => ?_, ih.2⟩
      by_cases hi : i = n
      · subst hi
        rw [hy] at h3
        injection h3 with h3
        rw [← h3]; exact hk
      · exact ih.1 i y h1 (by omega) h3
    · rw [if_neg hk]
      refine ⟨fun i y h1 h2 h3 => by omega, fun y _ h => ?_⟩
      rw [Nat.add_sub_cancel, hy] at h
      injection h with h
      rw [← h]; omega
def SrtE (l : List En) : Prop := l.Pairwise fun x y => x.i ≤ y.i
theorem insE_srt {x : En} {was : List En} (h : SrtE was) : SrtE (insE x was) := by
  unfold insE
  have hs := backE_spec x.i was was.length (Nat.le_refl _)
  have hle := backE_le x.i was was.length
  generalize backE x.i was was.length = j at *
  have hp : SrtE (was.take j ++ was.drop j) := by rw [List.take_append_drop]; exact h
  obtain ⟨h1, h2, h3⟩ := List.pairwise_append.1 hp
  have ha : ∀ a ∈ was.take j, a.i ≤ x.i := fun a ha => by
    obtain ⟨i, hi⟩ := List.mem_iff_getElem?.1 ha
    have hij : i < j := by have := (List.getElem?_eq_some_iff.1 hi).1; rw [List.length_take] at this; omega
    have hj0 : 0 < j := by omega
    obtain ⟨y, hy⟩ : ∃ y, was[j - 1]? = some y := ⟨_, List.getElem?_eq_getElem (by omega)⟩
    have hyx := hs.2 y hj0 hy
    by_cases e : i = j - 1
    · subst e
      rw [List.getElem?_take_of_lt hij, hy] at hi
      injection hi with hi
      rw [← hi]; exact hyx
    · rw [List.getElem?_take_of_lt hij] at hi
      have := List.pairwise_iff_getElem.1 h i (j - 1) (List.getElem?_eq_some_iff.1 hi).1 (by omega) (by omega)
      rw [(List.getElem?_eq_some_iff.1 hi).2, (List.getElem?_eq_some_iff.1 hy).2] at this
      omega
  have hb : ∀ b ∈ was.drop j, x.i < b.i := fun b hb => by
    obtain ⟨i, hi⟩ := List.mem_iff_getElem?.1 hb
    rw [List.getElem?_drop] at hi
    exact hs.1 (j + i) b (by omega) (List.getElem?_eq_some_iff.1 hi).1 hi
  refine List.pairwise_append.2 ⟨h1, List.pairwise_cons.2 ⟨fun b hb' => Int.le_of_lt (hb b hb'), h2⟩, fun a ha' b hb' => ?_⟩
  rcases List.mem_cons.1 hb' with rfl | hb'
  · exact ha a ha'
  · exact Int.le_trans (ha a ha') (Int.le_of_lt (hb b hb'))
theorem dirtyE_srt : ∀ (l was : List En), SrtE was → SrtE (dirtyE was l)
  | [], _, h => h
  | x :: l, was, h => by
    unfold dirtyE
    cases x.d with
    | false => exact dirtyE_srt l was h
    | true => exact dirtyE_srt l _ (insE_srt h)
/-- no number twice -/
def IdsE (l : List En) : Prop := ∀ x ∈ l, ∀ y ∈ l, x.i = y.i → x = y
theorem dirtyE_one {l a : List En} (hi : IdsE l) (hp : a.Perm (l.filter (·.d))) (hs : SrtE a) : a = dirtyE [] l := by
  have h2 : (dirtyE [] l).Perm (l.filter (·.d)) := by simpa using dirtyE_perm l []
  refine List.Perm.eq_of_pairwise (le := fun x y : En => x.i ≤ y.i) ?_ hs (dirtyE_srt l [] List.Pairwise.nil) (hp.trans h2.symm)
  intro x y hx hy h1 h2'
  have m1 : x ∈ l := (List.mem_filter.1 (hp.mem_iff.1 hx)).1
  have m2 : y ∈ l := (List.mem_filter.1 (h2.mem_iff.1 hy)).1
  exact hi x m1 y m2 (Int.le_antisymm h1 h2')

end Go.Proofs.Ytdhjjjagjkencaa
