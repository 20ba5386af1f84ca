/-
  The library's symMerge makes of two rows in order one in order, those of one key as they were; its insertion sort makes a row so. Plain.
-/
import Derived.Test.YtcdjbacljnofiaaSortIs
import Derived.Shelf.SlSortCmp.Insertion
namespace Go.Proofs.Ytcdjbacljnofiaa
open Go Go.Sort

theorem pMid_yes {d : Array Wt} {p c : Nat} (h : pMid cfW d p c = true) : leK (d[c]!).k (d[p - c]!).k = true := by
  unfold pMid at h
  rw [Bool.not_eq_true', decide_eq_false_iff_not, cfW_ge] at h
  exact h
theorem pMid_no {d : Array Wt} {p c : Nat} (h : pMid cfW d p c = false) : leK (d[c]!).k (d[p - c]!).k = false := by
  unfold pMid at h
  rw [Bool.not_eq_false', decide_eq_true_eq, cfW_lt] at h
  exact h
theorem pUp_yes {d : Array Wt} {a h : Nat} (H : pUp cfW d a h = true) : leK (d[a]!).k (d[h]!).k = false := by
  unfold pUp at H
  rw [decide_eq_true_eq, cfW_lt] at H
  exact H
theorem pUp_no {d : Array Wt} {a h : Nat} (H : pUp cfW d a h = false) : leK (d[a]!).k (d[h]!).k = true := by
  unfold pUp at H
  rw [decide_eq_false_iff_not, cfW_ge] at H
  exact H
theorem pDn_yes {d : Array Wt} {m h : Nat} (H : pDn cfW d m h = true) : leK (d[h]!).k (d[m]!).k = true := by
  unfold pDn at H
  rw [Bool.not_eq_true', decide_eq_false_iff_not, cfW_ge] at H
  exact H
theorem pDn_no {d : Array Wt} {m h : Nat} (H : pDn cfW d m h = false) : leK (d[h]!).k (d[m]!).k = false := by
  unfold pDn at H
  rw [Bool.not_eq_false', decide_eq_true_eq, cfW_lt] at H
  exact H

theorem len_one {A : List Wt} (h : A.length = 1) : ∃ x, A = [x] := List.length_eq_one_iff.1 h

/-- a row of one ahead -/
theorem symM_up_is {f : Nat} {L A B R : List Wt} {d : Array Wt} {a m b : Nat} (h1 : m - a = 1) (ha : a = L.length) (hm : m = a + A.length) (hb : b = m + B.length) (hA : Srt A) (hB : Srt B) (h : d.toList = L ++ A ++ B ++ R) :
    (symM cfW (f + 1) d a m b).toList = L ++ sortW (A ++ B) ++ R := by
  obtain ⟨x, rfl⟩ := len_one (A := A) (by omega)
  rw [symM, if_pos h1]
  have hle := bsr_le (pUp cfW d a) (b - m) m b (by omega)
  obtain ⟨he1, he2⟩ := bsr_edge (pUp cfW d a) (b - m) m b (Nat.le_refl _)
  generalize bsr (pUp cfW d a) (b - m) m b = i at *
  obtain ⟨B1, B2, rfl, hl⟩ := split_at (X := B) (n := i - m) (by omega)
  rw [List.length_append] at hb
  have hx : d[a]! = x := get_list (A := L) (B := B1 ++ B2 ++ R) (by rw [h]; simp) ha
  rw [List.length_singleton] at hm
  have hc := cut_all (A1 := []) (A2 := [x]) hA hB (fun x' y A B eA eB => by
      injection eA with eA _
      subst eA eB
      rw [List.length_append, List.length_singleton] at hl
      have := pUp_yes (he1 (by omega))
      rw [hx, get_list (A := L ++ [x] ++ B) (x := y) (B := B2 ++ R) (by rw [h]; simp) (by simp; omega)] at this
      exact this) (fun x' y A B eA eB => by simp at eA)
  rw [show [x] ++ (B1 ++ B2) = ([] ++ [x]) ++ (B1 ++ B2) by simp, merge_cut hA hB hc.1 hc.2, List.nil_append, sortW_of (srt_app.1 hB).1, sortW_of (a := [x] ++ B2)]
  · have := upw_list B1 L (B2 ++ R) x d (i - 1) (b - a) a ha (by omega) (by omega) (by rw [h]; simp)
    rw [this]; simp
  · refine srt_cons.2 ⟨fun y hy => ?_, (srt_app.1 hB).2.1⟩
    cases B2 with
    | nil => simp at hy
    | cons y0 B2 =>
      have hb' : i < b := by rw [List.length_cons] at hb; omega
      have := pUp_no (he2 hb')
      rw [hx, get_list (A := L ++ [x] ++ B1) (x := y0) (B := B2 ++ R) (by rw [h]; simp) (by simp; omega)] at this
      rcases List.mem_cons.1 hy with rfl | hy
      · exact this
      · exact leK_trans this ((srt_cons.1 (srt_app.1 hB).2.1).1 y hy)

/-- a row of one behind -/
theorem symM_dn_is {f : Nat} {L A B R : List Wt} {d : Array Wt} {a m b : Nat} (h1 : ¬ m - a = 1) (h2 : b - m = 1) (ha : a = L.length) (hm : m = a + A.length) (hb : b = m + B.length) (hA : Srt A) (hB : Srt B) (h : d.toList = L ++ A ++ B ++ R) :
    (symM cfW (f + 1) d a m b).toList = L ++ sortW (A ++ B) ++ R := by
  obtain ⟨y, rfl⟩ := len_one (A := B) (by omega)
  rw [symM, if_neg h1, if_pos h2]
  have hle := bsr_le (pDn cfW d m) (m - a) a m (by omega)
  obtain ⟨he1, he2⟩ := bsr_edge (pDn cfW d m) (m - a) a m (Nat.le_refl _)
  generalize bsr (pDn cfW d m) (m - a) a m = i at *
  obtain ⟨A1, A2, rfl, hl⟩ := split_at (X := A) (n := i - a) (by omega)
  rw [List.length_append] at hm
  have hy : d[m]! = y := get_list (A := L ++ (A1 ++ A2)) (B := R) (by rw [h]; simp) (by simp; omega)
  have hc := cut_all (A1 := A1) (A2 := A2) (B1 := [y]) (B2 := []) hA hB (fun x y' A B eA eB => by
      subst eA
      obtain ⟨rfl, rfl⟩ : B = [] ∧ y = y' := by
        cases B with
        | nil => simp at eB; exact ⟨rfl, eB⟩
        | cons z B => simp at eB
      rw [List.length_cons] at hm
      have := pDn_no (he2 (by omega))
      rw [hy, get_list (A := L ++ A1) (x := x) (B := A ++ [y] ++ R) (by rw [h]; simp) (by simp; omega)] at this
      exact this) (fun x y' A B eA eB => by simp at eB)
  rw [show (A1 ++ A2) ++ [y] = (A1 ++ A2) ++ ([y] ++ []) by simp, merge_cut hA hB hc.1 hc.2, List.append_nil, sortW_of (srt_app.1 hA).2.1, sortW_of (a := A1 ++ [y])]
  · have := dnw_list (m - a) A2 (L ++ A1) R y d i m (by simp; omega) (by simp; omega) (by omega) (by rw [h]; simp)
    rw [this]; simp
  · refine srt_app.2 ⟨(srt_app.1 hA).1, hB, fun x hx z hz => ?_⟩
    obtain rfl : z = y := by simpa using hz
    rcases List.eq_nil_or_concat A1 with rfl | ⟨A, x0, rfl⟩
    · simp at hx
    · rw [List.concat_eq_append] at *
      rw [List.length_append, List.length_singleton] at hl hm
      have := pDn_yes (he1 (by omega))
      rw [hy, get_list (A := L ++ A) (x := x0) (B := A2 ++ [z] ++ R) (by rw [h]; simp) (by simp; omega)] at this
      rcases List.mem_append.1 hx with hx | hx
      · exact leK_trans ((srt_app.1 (srt_app.1 hA).1).2.2 x hx x0 (by simp)) this
      · simp at hx; subst hx; exact this

/-- rows of whatever length -/
theorem symM_is : ∀ (f : Nat) (L A B R : List Wt) (d : Array Wt) (a m b : Nat), a < m → m < b → b - a ≤ f → a = L.length → m = a + A.length → b = m + B.length → Srt A → Srt B → d.toList = L ++ A ++ B ++ R →
    (symM cfW f d a m b).toList = L ++ sortW (A ++ B) ++ R
  | 0, L, A, B, R, d, a, m, b, h1, h2, h3, _, _, _, _, _, _ => by omega
  | f + 1, L, A, B, R, d, a, m, b, h1, h2, h3, ha, hm, hb, hA, hB, h => by
    by_cases c1 : m - a = 1
    · exact symM_up_is c1 ha hm hb hA hB h
    by_cases c2 : b - m = 1
    · exact symM_dn_is c1 c2 ha hm hb hA hB h
    rw [symM, if_neg c1, if_neg c2]
    dsimp only
    unfold cut
    obtain ⟨mid, hmid⟩ : ∃ mid, mid = (a + b) / 2 := ⟨_, rfl⟩
    have hm1 : 2 * mid ≤ a + b := by omega
    have hm2 : a + b ≤ 2 * mid + 1 := by omega
    rw [← hmid]
    have hlr : a ≤ cutS a m b ∧ cutS a m b ≤ cutR a m b ∧ cutR a m b ≤ m ∧ cutR a m b ≤ mid ∧ mid + m ≤ b + cutS a m b := by
      unfold cutS cutR
      rw [← hmid]
      by_cases hbig : mid < m
      · simp only [if_pos hbig]; omega
      · simp only [if_neg hbig]; omega
    have hlo : ∀ s, s ≤ m → mid + m < b + s → a < s → cutS a m b < s := by
      intro s hs1 hs2 hs3
      unfold cutS
      rw [← hmid]
      split <;> omega
    have hhi : ∀ s, s < m → s < mid → s < cutR a m b := by
      intro s hs1 hs2
      unfold cutR
      rw [← hmid]
      split <;> omega
    clear hmid
    obtain ⟨lo, hlo'⟩ : ∃ lo, lo = cutS a m b := ⟨_, rfl⟩
    obtain ⟨hi, hhi'⟩ : ∃ hi, hi = cutR a m b := ⟨_, rfl⟩
    rw [← hlo', ← hhi'] at hlr ⊢
    rw [← hlo'] at hlo
    rw [← hhi'] at hhi
    clear hlo' hhi'
    have hle := bsr_le (pMid cfW d (mid + m - 1)) (hi - lo) lo hi hlr.2.1
    obtain ⟨he1, he2⟩ := bsr_edge (pMid cfW d (mid + m - 1)) (hi - lo) lo hi (Nat.le_refl _)
    obtain ⟨s, hs⟩ : ∃ s, s = bsr (pMid cfW d (mid + m - 1)) (hi - lo) lo hi := ⟨_, rfl⟩
    rw [← hs] at hle he1 he2 ⊢
    clear hs
    obtain ⟨e, he⟩ : ∃ e, e = mid + m - s := ⟨_, rfl⟩
    rw [← he]
    obtain ⟨A1, A2, rfl, hl1⟩ := split_at (X := A) (n := s - a) (by omega)
    obtain ⟨B1, B2, rfl, hl2⟩ := split_at (X := B) (n := e - m) (by omega)
    rw [List.length_append] at hm hb
    have hc := cut_all hA hB (fun x y A B eA eB => by
        subst eA eB
        rw [List.length_append, List.length_singleton] at hl2
        rw [List.length_cons] at hm
        have := pMid_no (he2 (hhi s (by omega) (by omega)))
        rw [get_list (A := L ++ A1) (x := x) (B := A ++ (B ++ [y] ++ B2) ++ R) (by rw [h]; simp) (by simp; omega),
          get_list (A := L ++ (A1 ++ x :: A) ++ B) (x := y) (B := B2 ++ R) (by rw [h]; simp) (by simp; omega)] at this
        exact this) (fun x y A B eA eB => by
        subst eA eB
        rw [List.length_append, List.length_singleton] at hl1 hm
        rw [List.length_cons] at hb
        have := pMid_yes (he1 (hlo s (by omega) (by omega) (by omega)))
        rw [get_list (A := L ++ A) (x := x) (B := A2 ++ (B1 ++ y :: B) ++ R) (by rw [h]; simp) (by simp; omega),
          get_list (A := L ++ (A ++ [x] ++ A2) ++ B1) (x := y) (B := B ++ R) (by rw [h]; simp) (by simp; omega)] at this
        exact this)
    rw [merge_cut hA hB hc.1 hc.2]
    have a1 := (srt_app.1 hA).1
    have a2 := (srt_app.1 hA).2.1
    have b1 := (srt_app.1 hB).1
    have b2 := (srt_app.1 hB).2.1
    -- the rotation
    obtain ⟨d1, hd1⟩ : ∃ d1, d1 = if s < m ∧ m < e then rot m (e - s) (m - s) (e - m) d else d := ⟨_, rfl⟩
    have t1 : d1.toList = L ++ A1 ++ B1 ++ A2 ++ B2 ++ R := by
      rw [hd1]
      split
      · rename_i hc3
        have := rot_list (e - s) A2 B1 (L ++ A1) (B2 ++ R) d (m - s) (e - m) m (by omega) (by omega) (by omega) hl2.symm (by simp; omega) (by omega) (by rw [h]; simp)
        rw [this]; simp
      · rename_i hc3
        by_cases hsm : s < m
        · have : B1 = [] := List.eq_nil_of_length_eq_zero (by omega)
          subst this
          rw [h]; simp
        · have : A2 = [] := List.eq_nil_of_length_eq_zero (by omega)
          subst this
          rw [h]; simp
    rw [← hd1]
    -- the first half
    obtain ⟨d2, hd2⟩ : ∃ d2, d2 = if a < s ∧ s < mid then symM cfW f d1 a s mid else d1 := ⟨_, rfl⟩
    have t2 : d2.toList = L ++ sortW (A1 ++ B1) ++ A2 ++ B2 ++ R := by
      rw [hd2]
      split
      · rename_i hc3
        have := symM_is f L A1 B1 (A2 ++ B2 ++ R) d1 a s mid hc3.1 hc3.2 (by omega) ha (by omega) (by omega) a1 b1 (by rw [t1]; simp)
        rw [this]; simp
      · rename_i hc3
        rw [t1]
        by_cases has : a < s
        · have : B1 = [] := List.eq_nil_of_length_eq_zero (by omega)
          subst this
          rw [List.append_nil, List.append_nil, sortW_of a1]
        · have : A1 = [] := List.eq_nil_of_length_eq_zero (by omega)
          subst this
          rw [List.append_nil, List.nil_append, sortW_of b1]
    rw [← hd2]
    -- the second half
    split
    · rename_i hc3
      have := symM_is f (L ++ sortW (A1 ++ B1)) A2 B2 R d2 mid e b hc3.1 hc3.2 (by omega) (by rw [List.length_append, sortW_length, List.length_append]; omega) (by omega) (by omega) a2 b2 (by rw [t2])
      rw [this]; simp
    · rename_i hc3
      rw [t2]
      by_cases hme : mid < e
      · have : B2 = [] := List.eq_nil_of_length_eq_zero (by omega)
        subst this
        rw [List.append_nil, List.append_nil, sortW_of a2]; simp
      · have : A2 = [] := List.eq_nil_of_length_eq_zero (by omega)
        subst this
        rw [List.append_nil, List.nil_append, sortW_of b2]; simp

/-! ### insertion -/
theorem posn_snoc (l : List Wt) (y : Wt) (k : List UInt8) : ∀ n, n ≤ l.length → posn (l ++ [y]) k n = posn l k n
  | 0, _ => rfl
  | n + 1, h => by
    have e : (l ++ [y])[n]? = l[n]? := List.getElem?_append_left (by omega)
    have hn : l[n]? = some l[n] := List.getElem?_eq_getElem (by omega)
    cases hk : leK (l[n]).k k with
    | true => rw [posn_yes (e.trans hn) hk, posn_yes hn hk]
    | false => rw [posn_no (e.trans hn) hk, posn_no hn hk, posn_snoc l y k n (by omega)]
theorem ins_stop (l : List Wt) (y x : Wt) (h : leK y.k x.k = true) : ins (l ++ [y]) x = l ++ [y, x] := by
  have e : (l ++ [y])[l.length]? = some y := by simp
  unfold ins
  rw [List.length_append, List.length_singleton, posn_yes e h, List.take_of_length_le (by simp), List.drop_of_length_le (by simp)]
  simp
theorem ins_go (l : List Wt) (y x : Wt) (h : leK y.k x.k = false) : ins (l ++ [y]) x = ins l x ++ [y] := by
  have e : (l ++ [y])[l.length]? = some y := by simp
  have hp := (posn_spec l x.k l.length (Nat.le_refl _)).1
  unfold ins
  rw [List.length_append, List.length_singleton, posn_no e h, posn_snoc l y x.k l.length (Nat.le_refl _), List.take_append_of_le_length hp, List.drop_append_of_le_length hp]
  simp
theorem insInner_is : ∀ (j : Nat) (A L R : List Wt) (x : Wt) (d : Array Wt) (a : Nat), a = L.length → j = a + A.length → d.toList = L ++ A ++ x :: R → (insInner (ltOf cfW) a j d).toList = L ++ ins A x ++ R
  | 0, A, L, R, x, d, a, ha, hj, h => by
    have : A = [] := List.eq_nil_of_length_eq_zero (by omega)
    subst this
    rw [insInner, h]; simp [ins, posn]
  | j + 1, A, L, R, x, d, a, ha, hj, h => by
    rcases List.eq_nil_or_concat A with rfl | ⟨A, y, rfl⟩
    · rw [insInner, if_neg (by simp at hj ⊢; omega), h]; simp [ins, posn]
    · rw [List.concat_eq_append] at *
      rw [List.length_append, List.length_singleton] at hj
      have hx : d[j + 1]! = x := get_list (A := L ++ (A ++ [y])) (B := R) h (by simp; omega)
      have hy : d[j]! = y := get_list (A := L ++ A) (B := x :: R) (by rw [h]; simp) (by simp; omega)
      rw [insInner, hx, hy]
      cases hk : leK y.k x.k with
      | true =>
        have : ltOf cfW x y = false := decide_eq_false ((cfW_ge x y).2 hk)
        rw [this, Bool.and_false, if_neg (by simp), h, ins_stop A y x hk]; simp
      | false =>
        have : ltOf cfW x y = true := decide_eq_true ((cfW_lt x y).2 hk)
        rw [this, if_pos (by simp; omega), ins_go A y x hk, swp_comm]
        have hs := swp_list (d := d) (L := L ++ A) (M := []) (R := R) (x := y) (y := x) (i := j) (j := j + 1) (by rw [h]; simp) (by simp; omega) (by simp; omega)
        have ih := insInner_is j A L (y :: R) x (swp d j (j + 1)) a ha (by omega) (by rw [hs]; simp)
        rw [ih]; simp
theorem insOuter_is : ∀ (X A L R : List Wt) (d : Array Wt) (a b i : Nat), a = L.length → i = a + A.length → b = i + X.length → d.toList = L ++ A ++ X ++ R → (insOuter (ltOf cfW) a b i d).toList = L ++ X.foldl ins A ++ R
  | [], A, L, R, d, a, b, i, ha, hi, hb, h => by
    rw [List.length_nil] at hb
    rw [insOuter, if_neg (by omega), h]; simp
  | x :: X, A, L, R, d, a, b, i, ha, hi, hb, h => by
    rw [List.length_cons] at hb
    rw [insOuter, if_pos (by omega)]
    have hs := insInner_is i A L (X ++ R) x d a ha hi (by rw [h]; simp)
    have ih := insOuter_is X (ins A x) L R _ a b (i + 1) ha (by rw [ins_length]; omega) (by omega) (by rw [hs]; simp)
    rw [ih, List.foldl_cons]
theorem insertion_is (X L R : List Wt) (d : Array Wt) (a b : Nat) (ha : a = L.length) (hb : b = a + X.length) (h : d.toList = L ++ X ++ R) : (Sort.insertionSort (ltOf cfW) d a b).toList = L ++ sortW X ++ R := by
  unfold Sort.insertionSort
  cases X with
  | nil =>
    rw [List.length_nil] at hb
    rw [insOuter, if_neg (by omega), h]; rfl
  | cons x X =>
    rw [List.length_cons] at hb
    have := insOuter_is X [x] L R d a b (a + 1) ha rfl (by omega) (by rw [h]; simp)
    rw [this]; rfl

/-! ### rows of s, one behind the other -/
def brows (s : Nat) (X : List Wt) : List Wt := if _h : X.length ≤ s ∨ s = 0 then sortW X else sortW (X.take s) ++ brows s (X.drop s)
termination_by X.length
decreasing_by rw [List.length_drop]; omega
theorem brows_small {s : Nat} {X : List Wt} (h : X.length ≤ s) : brows s X = sortW X := by rw [brows, dif_pos (.inl h)]
theorem brows_step {s : Nat} {X : List Wt} (h0 : 0 < s) (h : s ≤ X.length) : brows s X = sortW (X.take s) ++ brows s (X.drop s) := by
  by_cases he : X.length = s
  · rw [brows_small (Nat.le_of_eq he), List.take_of_length_le (Nat.le_of_eq he), List.drop_of_length_le (Nat.le_of_eq he), brows_small (by simp)]
    simp [sortW]
  · rw [brows, dif_neg (by omega)]
theorem brows_length (s : Nat) : ∀ (n : Nat) (X : List Wt), X.length ≤ n → (brows s X).length = X.length
  | 0, X, h => by rw [brows_small (by omega), sortW_length]
  | n + 1, X, h => by
    by_cases h0 : s = 0
    · rw [brows, dif_pos (.inr h0), sortW_length]
    by_cases hs : s ≤ X.length
    · rw [brows_step (by omega) hs, List.length_append, sortW_length, brows_length s n (X.drop s) (by rw [List.length_drop]; omega), List.length_take, List.length_drop]; omega
    · rw [brows_small (by omega), sortW_length]

end Go.Proofs.Ytcdjbacljnofiaa
