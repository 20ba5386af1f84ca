/-
  What the plain functions of the library's stable sort make of a list of writes. Plain.
-/
import Derived.Test.YtcdjbacljnofiaaJSort
import Derived.Test.YtcdjbacljnofiaaSort
namespace Go.Proofs.Ytcdjbacljnofiaa
open Go Go.Sort

instance : Inhabited Wt := ⟨⟨[], [], false⟩⟩
/-- writes compared by their keys -/
def cfW (x y : Wt) : Int := cmpL x.k y.k
theorem cfW_lt (x y : Wt) : cfW x y < 0 ↔ leK y.k x.k = false := by
  unfold cfW
  rw [leK_cmp]
  have h := cmpL_neg x.k y.k
  have h3 := cmpL_three x.k y.k
  rw [decide_eq_false_iff_not, Classical.not_not]
  constructor
  · intro hl
    rcases h3 with e | e | e <;> rw [e] at h hl
    · exact h
    · omega
    · omega
  · intro hl
    rw [hl] at h
    rcases h3 with e | e | e <;> rw [e] at h <;> omega
theorem cfW_ge (x y : Wt) : ¬ cfW x y < 0 ↔ leK y.k x.k = true := by
  rw [cfW_lt]; cases leK y.k x.k <;> simp

section
variable {α : Type} [Inhabited α]
theorem get_list {d : Array α} {A B : List α} {x : α} {i : Nat} (h : d.toList = A ++ x :: B) (hi : i = A.length) : d[i]! = x := by
  subst hi
  rw [← Array.getElem!_toList, h]
  simp
omit [Inhabited α] in
theorem set_mid (A B : List α) (x z : α) : (A ++ x :: B).set A.length z = A ++ z :: B := by simp
theorem swp_list {d : Array α} {L M R : List α} {x y : α} {i j : Nat} (h : d.toList = L ++ x :: (M ++ y :: R)) (hi : i = L.length) (hj : j = L.length + 1 + M.length) : (swp d i j).toList = L ++ y :: (M ++ x :: R) := by
  have hx : d[i]! = x := get_list h hi
  have h' : d.toList = (L ++ x :: M) ++ y :: R := by rw [h]; simp
  have hy : d[j]! = y := get_list h' (by simp; omega)
  unfold swp
  rw [hx, hy, Array.toList_setIfInBounds, Array.toList_setIfInBounds, h, hi, set_mid]
  have e : L ++ y :: (M ++ y :: R) = (L ++ y :: M) ++ y :: R := by simp
  have ej : j = (L ++ y :: M).length := by simp; omega
  rw [e, ej, set_mid]
  simp
theorem swp_comm (d : Array α) (i j : Nat) : swp d i j = swp d j i := by
  unfold swp
  by_cases h : i = j
  · subst h; rfl
  · apply Array.ext'
    rw [Array.toList_setIfInBounds, Array.toList_setIfInBounds, Array.toList_setIfInBounds, Array.toList_setIfInBounds, List.set_comm _ _ h]
theorem swaps_list : ∀ (X Y L M R : List α) (d : Array α) (a b n : Nat), X.length = n → Y.length = n → a = L.length → b = L.length + X.length + M.length → d.toList = L ++ X ++ M ++ Y ++ R → (swaps a b n d).toList = L ++ Y ++ M ++ X ++ R
  | [], [], L, M, R, d, a, b, n, h1, h2, h3, h4, h => by
    subst h1
    simpa [swaps] using h
  | [], y :: Y, L, M, R, d, a, b, n, h1, h2, h3, h4, h => by subst h1; simp at h2
  | x :: X, [], L, M, R, d, a, b, n, h1, h2, h3, h4, h => by subst h2; simp at h1
  | x :: X, y :: Y, L, M, R, d, a, b, n, h1, h2, h3, h4, h => by
    subst h1
    rw [List.length_cons, swaps]
    have hs := swp_list (d := d) (L := L) (M := X ++ M) (R := Y ++ R) (x := x) (y := y) (i := a) (j := b) (by rw [h]; simp) h3 (by rw [h4]; simp; omega)
    have ih := swaps_list X Y (L ++ [y]) (M ++ [x]) R (swp d a b) (a + 1) (b + 1) X.length rfl (by simpa using h2) (by rw [h3]; simp) (by rw [h4]; simp; omega) (by rw [hs]; simp)
    rw [ih]
    simp
omit [Inhabited α] in
theorem split_at {X : List α} {n : Nat} (h : n ≤ X.length) : ∃ A B, X = A ++ B ∧ A.length = n := ⟨X.take n, X.drop n, (List.take_append_drop n X).symm, by rw [List.length_take]; omega⟩
theorem rot_list : ∀ (f : Nat) (X Y L R : List α) (d : Array α) (i j m : Nat), 0 < i → 0 < j → i = X.length → j = Y.length → m = L.length + X.length → i + j ≤ f → d.toList = L ++ X ++ Y ++ R → (rot m f i j d).toList = L ++ Y ++ X ++ R
  | 0, X, Y, L, R, d, i, j, m, hi, hj, h1, h2, h3, h4, h => by omega
  | f + 1, X, Y, L, R, d, i, j, m, hi, hj, h1, h2, h3, h4, h => by
    rw [rot]
    by_cases e : i = j
    · rw [if_pos e]
      have := swaps_list X Y L [] R d (m - i) m i h1.symm (by omega) (by omega) (by simp; omega) (by simpa using h)
      simpa using this
    · rw [if_neg e]
      by_cases hlt : j < i
      · rw [if_pos hlt]
        obtain ⟨X1, X2, rfl, hx⟩ := split_at (X := X) (n := j) (by omega)
        rw [List.length_append] at h1 h3
        have hs := swaps_list X1 Y L X2 R d (m - i) m j hx (by omega) (by omega) (by omega) (by rw [h]; simp)
        have ih := rot_list f X2 X1 (L ++ Y) R _ (i - j) j m (by omega) hj (by omega) (by omega) (by rw [List.length_append]; omega) (by omega) (by rw [hs])
        rw [ih]
        simp
      · rw [if_neg hlt]
        obtain ⟨Y1, Y2, rfl, hy⟩ := split_at (X := Y) (n := j - i) (by omega)
        rw [List.length_append] at h2
        have hs := swaps_list X Y2 L Y1 R d (m - i) (m + j - i) i h1.symm (by omega) (by omega) (by omega) (by rw [h]; simp)
        have ih := rot_list f Y2 Y1 L (X ++ R) _ i (j - i) m hi (by omega) (by omega) (by omega) (by omega) (by omega) (by rw [hs]; simp)
        rw [ih]
        simp
theorem upw_list : ∀ (B L R : List α) (x : α) (d : Array α) (e f k : Nat), k = L.length → e = L.length + B.length → e - k ≤ f → d.toList = L ++ x :: (B ++ R) → (upw e f k d).toList = L ++ B ++ x :: R
  | [], L, R, x, d, e, f, k, h1, h2, h3, h => by
    rw [List.length_nil] at h2
    have : upw e f k d = d := by
      cases f with
      | zero => rfl
      | succ f => rw [upw, if_neg (by omega)]
    rw [this, h]; simp
  | y :: B, L, R, x, d, e, f, k, h1, h2, h3, h => by
    rw [List.length_cons] at h2
    obtain ⟨f, rfl⟩ : ∃ f', f = f' + 1 := ⟨f - 1, by omega⟩
    rw [upw, if_pos (by omega)]
    have hs := swp_list (d := d) (L := L) (M := []) (R := B ++ R) (x := x) (y := y) (i := k) (j := k + 1) (by rw [h]; simp) h1 (by simp; omega)
    have ih := upw_list B (L ++ [y]) R x (swp d k (k + 1)) e f (k + 1) (by simp; omega) (by simp; omega) (by omega) (by rw [hs]; simp)
    rw [ih]; simp
theorem dnw_list : ∀ (f : Nat) (B L R : List α) (x : α) (d : Array α) (i k : Nat), i = L.length → k = L.length + B.length → B.length ≤ f → d.toList = L ++ B ++ x :: R → (dnw i f k d).toList = L ++ x :: (B ++ R)
  | 0, B, L, R, x, d, i, k, h1, h2, h3, h => by
    have : B = [] := List.eq_nil_of_length_eq_zero (by omega)
    subst this
    rw [dnw, h]; simp
  | f + 1, B, L, R, x, d, i, k, h1, h2, h3, h => by
    rcases List.eq_nil_or_concat B with rfl | ⟨B', y, rfl⟩
    · rw [List.length_nil] at h2
      rw [dnw, if_neg (by omega), h]; simp
    · rw [List.concat_eq_append] at *
      rw [List.length_append, List.length_singleton] at h2 h3
      rw [dnw, if_pos (by omega), swp_comm]
      have hs := swp_list (d := d) (L := L ++ B') (M := []) (R := R) (x := y) (y := x) (i := k - 1) (j := k) (by rw [h]; simp) (by simp; omega) (by simp; omega)
      have ih := dnw_list f B' L (y :: R) x (swp d (k - 1) k) i (k - 1) h1 (by omega) (by omega) (by rw [hs]; simp)
      rw [ih]; simp
end

/-! ### in order, and as they were -/
theorem sortW_of {a : List Wt} (h : Srt a) : sortW a = a := (sortW_is h (fun _ => rfl)).symm
theorem stb_app {a b c d : List Wt} (h : Stb a c) (h' : Stb b d) : Stb (a ++ b) (c ++ d) := fun k => by rw [List.filter_append, List.filter_append, h k, h' k]
theorem stb_refl (a : List Wt) : Stb a a := fun _ => rfl
theorem stb_swap {X Y : List Wt} (h : ∀ x ∈ X, ∀ y ∈ Y, leK x.k y.k = false) : Stb (X ++ Y) (Y ++ X) := fun k => by
  rw [List.filter_append, List.filter_append]
  by_cases hx : ∃ x ∈ X, x.k = k
  · obtain ⟨x, hx, rfl⟩ := hx
    have : Y.filter (·.k == x.k) = [] := by
      rw [List.filter_eq_nil_iff]
      intro y hy he
      have := h x hx y hy
      rw [eq_of_beq he, leK_refl] at this
      cases this
    rw [this]; simp
  · have : X.filter (·.k == k) = [] := by
      rw [List.filter_eq_nil_iff]
      intro x hx' he
      exact hx ⟨x, hx', eq_of_beq he⟩
    rw [this]; simp
theorem srt_app {a b : List Wt} : Srt (a ++ b) ↔ Srt a ∧ Srt b ∧ ∀ x ∈ a, ∀ y ∈ b, leK x.k y.k = true := by unfold Srt; rw [List.pairwise_append]
theorem srt_cons {x : Wt} {b : List Wt} : Srt (x :: b) ↔ (∀ y ∈ b, leK x.k y.k = true) ∧ Srt b := by unfold Srt; rw [List.pairwise_cons]
theorem srt_one' (x : Wt) : Srt [x] := List.pairwise_singleton _ _
theorem leK_of_not {a b : List UInt8} (h : leK a b = false) : leK b a = true := by
  rcases leK_total a b with h' | h'
  · rw [h] at h'; cases h'
  · exact h'
theorem mem_sortW {x : Wt} {a : List Wt} (h : x ∈ sortW a) : x ∈ a := (sortW_stb a).mem h
theorem sortW_length (ws : List Wt) : (sortW ws).length = ws.length := by
  have : ∀ (l acc : List Wt), (l.foldl ins acc).length = acc.length + l.length := by
    intro l
    induction l with
    | nil => intro acc; simp
    | cons x l ih => intro acc; rw [List.foldl_cons, ih, ins_length, List.length_cons]; omega
  have := this ws []
  simpa [sortW] using this
/-- a cut across two rows in order -/
theorem cut_all {A1 A2 B1 B2 : List Wt} (hA : Srt (A1 ++ A2)) (hB : Srt (B1 ++ B2))
    (h1 : ∀ x y A B, A2 = x :: A → B1 = B ++ [y] → leK x.k y.k = false) (h2 : ∀ x y A B, A1 = A ++ [x] → B2 = y :: B → leK x.k y.k = true) :
    (∀ x ∈ A2, ∀ y ∈ B1, leK x.k y.k = false) ∧ (∀ x ∈ A1, ∀ y ∈ B2, leK x.k y.k = true) := by
  obtain ⟨a1, a2, _⟩ := srt_app.1 hA
  obtain ⟨b1, b2, _⟩ := srt_app.1 hB
  refine ⟨fun x hx y hy => ?_, fun x hx y hy => ?_⟩
  · cases A2 with
    | nil => simp at hx
    | cons x0 A =>
      rcases List.eq_nil_or_concat B1 with rfl | ⟨B, y0, rfl⟩
      · simp at hy
      · rw [List.concat_eq_append] at *
        have h := h1 x0 y0 A B rfl rfl
        have hx0 : leK x0.k x.k = true := by
          rcases List.mem_cons.1 hx with rfl | hx
          · exact leK_refl _
          · exact (srt_cons.1 a2).1 x hx
        have hy0 : leK y.k y0.k = true := by
          rcases List.mem_append.1 hy with hy | hy
          · exact (srt_app.1 b1).2.2 y hy y0 (by simp)
          · simp at hy; subst hy; exact leK_refl _
        cases hc : leK x.k y.k with
        | false => rfl
        | true => rw [leK_trans hx0 (leK_trans hc hy0)] at h; cases h
  · cases B2 with
    | nil => simp at hy
    | cons y0 B =>
      rcases List.eq_nil_or_concat A1 with rfl | ⟨A, x0, rfl⟩
      · simp at hx
      · rw [List.concat_eq_append] at *
        have h := h2 x0 y0 A B rfl rfl
        have hy0 : leK y0.k y.k = true := by
          rcases List.mem_cons.1 hy with rfl | hy
          · exact leK_refl _
          · exact (srt_cons.1 b2).1 y hy
        have hx0 : leK x.k x0.k = true := by
          rcases List.mem_append.1 hx with hx | hx
          · exact (srt_app.1 a1).2.2 x hx x0 (by simp)
          · simp at hx; subst hx; exact leK_refl _
        exact leK_trans hx0 (leK_trans h hy0)
theorem merge_cut {A1 A2 B1 B2 : List Wt} (hA : Srt (A1 ++ A2)) (hB : Srt (B1 ++ B2)) (h1 : ∀ x ∈ A2, ∀ y ∈ B1, leK x.k y.k = false) (h2 : ∀ x ∈ A1, ∀ y ∈ B2, leK x.k y.k = true) :
    sortW ((A1 ++ A2) ++ (B1 ++ B2)) = sortW (A1 ++ B1) ++ sortW (A2 ++ B2) := by
  obtain ⟨a1, a2, a3⟩ := srt_app.1 hA
  obtain ⟨b1, b2, b3⟩ := srt_app.1 hB
  refine (sortW_is (srt_app.2 ⟨sortW_srt _, sortW_srt _, fun x hx y hy => ?_⟩) ?_).symm
  · rcases List.mem_append.1 (mem_sortW hx) with hx | hx <;> rcases List.mem_append.1 (mem_sortW hy) with hy | hy
    · exact a3 x hx y hy
    · exact h2 x hx y hy
    · exact leK_of_not (h1 y hy x hx)
    · exact b3 x hx y hy
  · refine (stb_app (sortW_stb _) (sortW_stb _)).trans ?_
    have e1 : A1 ++ B1 ++ (A2 ++ B2) = A1 ++ ((B1 ++ A2) ++ B2) := by simp
    have e2 : A1 ++ A2 ++ (B1 ++ B2) = A1 ++ ((A2 ++ B1) ++ B2) := by simp
    rw [e1, e2]
    exact stb_app (stb_refl _) (stb_app (stb_swap h1).symm (stb_refl _))
/-- rows that were sorted one by one -/
theorem sortW_two (a b : List Wt) : sortW (sortW a ++ sortW b) = sortW (a ++ b) :=
  sortW_is (sortW_srt _) ((sortW_stb _).trans (stb_app (sortW_stb a) (sortW_stb b)))

end Go.Proofs.Ytcdjbacljnofiaa
