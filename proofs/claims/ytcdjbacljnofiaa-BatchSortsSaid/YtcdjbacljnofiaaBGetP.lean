/-
  What the landed Get makes of bytes, and what bytes tell as a batch: the same. Plain.
-/
import Derived.Test.YtcdjbacljnofiaaBGetW
import Derived.Test.YtcdjbacljnofiaaBGet
namespace Go.Proofs.Ytcdjbacljnofiaa
open Go Go.RowKit

/-- writes that are read, behind those that are read already -/
def gws : Nat → List Wt → List UInt8 → Nat → List Wt × List UInt8 × Nat
  | 0, acc, l, e => (acc, l, e)
  | j + 1, acc, l, e => gws j (acc ++ [(gw l e).1]) (gw l e).2.1 (gw l e).2.2
def gend (c r s : Nat) (o : List Wt × List UInt8 × Nat) : Option Bt := if endOf o.2.1 o.2.2 = 0 ∧ chk o.1 = 0 then some ⟨c, r, s, o.1⟩ else none
theorem gend_bad {c r s : Nat} {o : List Wt × List UInt8 × Nat} (h : o.2.2 ≠ 0) : gend c r s o = none := by
  unfold gend endOf
  rw [if_neg]
  intro hh
  rw [if_neg (by simp [h])] at hh
  exact h hh.1
theorem endOf_zero (l : List UInt8) : endOf l 0 = 0 ↔ l = [] := by
  unfold endOf
  cases l with
  | nil => simp
  | cons x l => simp
theorem sT_bad {l : List UInt8} {e : Nat} (h : e ≠ 0) : sT l e = ([], l, e) := by unfold sT; rw [if_neg h]
theorem sF_bad {l : List UInt8} {e : Nat} (h : e ≠ 0) : sF l e = (false, l, e) := by unfold sF; rw [if_neg h]
theorem sN_bad {l : List UInt8} {e : Nat} (h : e ≠ 0) : sN l e = (0, l, e) := by unfold sN; rw [if_neg h]
theorem sC_bad {m : Int} {l : List UInt8} {e : Nat} (h : e ≠ 0) : sC m l e = (0, l, e) := by unfold sC; rw [if_neg h]
theorem gw_bad {l : List UInt8} {e : Nat} (h : e ≠ 0) : (gw l e).2.2 = e := by
  rw [gw_isnt (sT_bad h) (sF_bad h) (sT_bad h)]
theorem gws_bad : ∀ (j : Nat) (acc : List Wt) (l : List UInt8) (e : Nat), e ≠ 0 → (gws j acc l e).2.2 ≠ 0
  | 0, _, _, _, h => h
  | j + 1, acc, l, e, h => by
    rw [gws]
    exact gws_bad j _ _ _ (by rw [gw_bad h]; exact h)
theorem gws_bgL : ∀ (j : Nat) (c r s : Nat) (acc : List Wt) (l : List UInt8), bgL c r s j acc l = gend c r s (gws j acc l 0)
  | 0, c, r, s, acc, l => by
    unfold bgL gws gend
    dsimp only
    by_cases hl : l = []
    · subst hl
      by_cases hc : chk acc = 0
      · rw [if_pos ⟨rfl, hc⟩, if_pos ⟨(endOf_zero _).2 rfl, hc⟩]
      · rw [if_neg (fun h => hc h.2), if_neg (fun h => hc h.2)]
    · rw [if_neg (fun h => hl h.1), if_neg (fun h => hl ((endOf_zero _).1 h.1))]
  | j + 1, c, r, s, acc, l => by
    unfold bgL gws
    obtain ⟨⟨K, l1, e1⟩, h1⟩ : ∃ o, rtext l = o := ⟨_, rfl⟩
    rw [h1]
    dsimp only
    have t1 : sT l 0 = (K, l1, e1) := h1
    by_cases he1 : e1 = 0
    · subst he1
      rw [if_neg (by simp)]
      obtain ⟨⟨g, l2, e2⟩, h2⟩ : ∃ o, rflag l1 = o := ⟨_, rfl⟩
      rw [h2]
      dsimp only
      have t2 : sF l1 0 = (g, l2, e2) := h2
      by_cases he2 : e2 = 0
      · subst he2
        rw [if_neg (by simp)]
        cases g with
        | true =>
          rw [if_pos rfl, gw_is t1 t2]
          exact gws_bgL j c r s _ l2
        | false =>
          rw [if_neg (by simp)]
          obtain ⟨⟨V, l3, e3⟩, h3⟩ : ∃ o, rtext l2 = o := ⟨_, rfl⟩
          rw [h3]
          dsimp only
          have t3 : sT l2 0 = (V, l3, e3) := h3
          rw [gw_isnt t1 t2 t3]
          dsimp only
          by_cases he3 : e3 = 0
          · subst he3
            rw [if_neg (by simp)]
            exact gws_bgL j c r s _ l3
          · rw [if_pos he3, gend_bad (gws_bad j _ _ _ he3)]
      · rw [if_pos he2]
        have hb := rflag_bad l1 (by rw [h2]; exact he2)
        rw [h2] at hb
        have hg : g = false := hb.1
        subst hg
        rw [gw_isnt t1 t2 (sT_bad he2), gend_bad (gws_bad j _ _ _ he2)]
    · rw [if_pos he1, gw_isnt t1 (sF_bad he1) (sT_bad he1), gend_bad (gws_bad j _ _ _ he1)]

theorem sC_le {l l' : List UInt8} {e e' k : Nat} (h : sC 8 l e = (k, l', e')) : k ≤ 8 := by
  unfold sC at h
  by_cases he : e = 0
  · rw [if_pos he] at h
    unfold rcount at h
    split at h
    · injection h with h; omega
    · split at h
      · injection h with h; omega
      · rename_i h1 h2
        injection h with h
        omega
  · rw [if_neg he] at h
    injection h with h; omega

theorem bget_s {l l1 l2 l3 l4 : List UInt8} {c r s k e1 e2 e3 e4 : Nat} (h1 : sN l 0 = (c, l1, e1)) (h2 : sN l1 e1 = (r, l2, e2)) (h3 : sN l2 e2 = (s, l3, e3)) (h4 : sC 8 l3 e3 = (k, l4, e4)) :
    bget l = gend c r s (gws k [] l4 e4) := by
  have bad : e3 ≠ 0 → gend c r s (gws k [] l4 e4) = none := fun he => by
    rw [sC_bad he] at h4
    injection h4 with _ h4
    injection h4 with _ h4
    exact gend_bad (gws_bad k [] l4 e4 (by rw [← h4]; exact he))
  have go2 : e2 ≠ 0 → e3 ≠ 0 := fun he => by
    rw [sN_bad he] at h3
    injection h3 with _ h3
    injection h3 with _ h3
    rw [← h3]; exact he
  have go1 : e1 ≠ 0 → e2 ≠ 0 := fun he => by
    rw [sN_bad he] at h2
    injection h2 with _ h2
    injection h2 with _ h2
    rw [← h2]; exact he
  unfold bget bgN
  have t1 : rnum l = (c, l1, e1) := h1
  rw [t1]
  dsimp only
  by_cases he1 : e1 = 0
  case neg => rw [if_pos he1, bad (go2 (go1 he1))]
  subst he1
  rw [if_neg (by simp)]
  unfold bgN
  have t2 : rnum l1 = (r, l2, e2) := h2
  rw [t2]
  dsimp only
  by_cases he2 : e2 = 0
  case neg => rw [if_pos he2, bad (go2 he2)]
  subst he2
  rw [if_neg (by simp)]
  unfold bgN
  have t3 : rnum l2 = (s, l3, e3) := h3
  rw [t3]
  dsimp only
  by_cases he3 : e3 = 0
  case neg => rw [if_pos he3, bad he3]
  subst he3
  rw [if_neg (by simp)]
  unfold bgN
  obtain ⟨⟨m, l5, e5⟩, h5⟩ : ∃ o, rnum l3 = o := ⟨_, rfl⟩
  have t4 : rcount 8 l3 = (k, l4, e4) := h4
  unfold rcount at t4
  rw [h5] at t4 ⊢
  dsimp only at t4 ⊢
  by_cases he5 : e5 = 0
  case neg =>
    rw [if_pos he5] at t4 ⊢
    injection t4 with _ t4
    injection t4 with _ t4
    rw [gend_bad (gws_bad k [] l4 e4 (by rw [← t4]; exact he5))]
  subst he5
  rw [if_neg (by simp)] at t4 ⊢
  unfold bgN
  show (if 8 < m then none else bgL c r s m [] l5) = _
  by_cases h8 : 8 < m
  · rw [if_pos (.inr (by omega))] at t4
    injection t4 with _ t4
    injection t4 with _ t4
    rw [if_pos h8, gend_bad (gws_bad k [] l4 e4 (by rw [← t4]; simp))]
  · rw [if_neg (by omega)] at t4
    injection t4 with ta t4
    injection t4 with tb t4
    subst ta tb t4
    rw [if_neg h8]
    exact gws_bgL m c r s [] l5

end Go.Proofs.Ytcdjbacljnofiaa
