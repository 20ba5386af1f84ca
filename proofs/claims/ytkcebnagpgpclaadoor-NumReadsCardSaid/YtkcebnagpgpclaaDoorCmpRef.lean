/-
  The document's Cmp by its contract.
-/
import Derived.Test.YtkcebnagpgpclaaDoorCmp
namespace Go.Proofs.YtkcebnagpgpclaaDoor
open Go Go.RowKit

theorem bytesLess_cmpL : ∀ a b : List UInt8, Op.bytesLess a b = decide (cmpL a b = -1)
  | [], [] => by simp [Op.bytesLess, cmpL]
  | [], y :: b => by simp [Op.bytesLess, cmpL]
  | x :: a, [] => by simp [Op.bytesLess, cmpL]
  | x :: a, y :: b => by
    unfold Op.bytesLess cmpL
    rw [bytesLess_cmpL a b]
    by_cases h : x = y
    · subst h; simp
    · have hn : x.toNat ≠ y.toNat := fun e => h (UInt8.toNat_inj.1 e)
      rw [if_neg h]
      by_cases hl : x.toNat < y.toNat
      · simp [hl, UInt8.lt_iff_toNat_lt]
      · simp [hl, h, UInt8.lt_iff_toNat_lt]
theorem cmpL_zero : ∀ a b : List UInt8, cmpL a b = 0 ↔ a = b
  | [], [] => by simp [cmpL]
  | [], y :: b => by simp [cmpL]
  | x :: a, [] => by simp [cmpL]
  | x :: a, y :: b => by
    unfold cmpL
    by_cases h : x = y
    · subst h; simp [cmpL_zero a b]
    · rw [if_neg h]
      split <;> simp [h]
theorem cmpL_three : ∀ a b : List UInt8, cmpL a b = -1 ∨ cmpL a b = 0 ∨ cmpL a b = 1
  | [], [] => by simp [cmpL]
  | [], y :: b => by simp [cmpL]
  | x :: a, [] => by simp [cmpL]
  | x :: a, y :: b => by
    unfold cmpL
    split
    · exact cmpL_three a b
    · split <;> simp
theorem cmpL_neg : ∀ a b : List UInt8, cmpL b a = - cmpL a b
  | [], [] => by simp [cmpL]
  | [], y :: b => by simp [cmpL]
  | x :: a, [] => by simp [cmpL]
  | x :: a, y :: b => by
    unfold cmpL
    by_cases h : x = y
    · subst h; simp [cmpL_neg a b]
    · have hn : x.toNat ≠ y.toNat := fun e => h (UInt8.toNat_inj.1 e)
      rw [if_neg h, if_neg (fun e => h e.symm)]
      by_cases hl : x.toNat < y.toNat
      · rw [if_pos hl, if_neg (by omega)]; rfl
      · rw [if_neg hl, if_pos (by omega)]
theorem cmpL_prefix : ∀ c a b : List UInt8, cmpL (c ++ a) (c ++ b) = cmpL a b
  | [], a, b => rfl
  | x :: c, a, b => by rw [List.cons_append, List.cons_append, cmpL_same rfl, cmpL_prefix c a b]

set_option maxHeartbeats 400000 in
theorem refCmp_any (a b : List UInt8) (w : World) :
    Calls Tryd.prog 22 #[.string (bst a), .string (bst b)] w fun e w' => e = .returned (.int .i64 (cmpL a b)) ∧ w = w' := by
  obtain ⟨s, hs⟩ : ∃ s, s = bst a := ⟨_, rfl⟩
  obtain ⟨t, ht⟩ : ∃ t, t = bst b := ⟨_, rfl⟩
  obtain ⟨z, hz⟩ : ∃ z, z = cmpL a b := ⟨_, rfl⟩
  have h1 : Op.bytesLess s.toList t.toList = decide (z = -1) := by
    rw [hs, ht, hz, bst, bst, ByteArray.toList_mk, ByteArray.toList_mk, bytesLess_cmpL]
  have h2 : (s.toList == t.toList) = decide (z = 0) := by
    rw [hs, ht, hz, bst, bst, ByteArray.toList_mk, ByteArray.toList_mk, Bool.eq_iff_iff]; simp [cmpL_zero]
  have h3 : z = -1 ∨ z = 0 ∨ z = 1 := by rw [hz]; exact cmpL_three a b
  rw [← hs, ← ht, ← hz]
  clear hs ht hz
  rcases h3 with rfl | rfl | rfl
  · change _ = true at h1
    change _ = false at h2
    go_enter Tryd.func22, Tryd.ntmps22
    go_wp2_with fail
    go_ret
    exact ⟨rfl, rfl⟩
  · change _ = false at h1
    change _ = true at h2
    go_enter Tryd.func22, Tryd.ntmps22
    go_wp2_with fail
    go_ret
    exact ⟨rfl, rfl⟩
  · change _ = false at h1
    change _ = false at h2
    go_enter Tryd.func22, Tryd.ntmps22
    go_wp2_with fail
    go_ret
    exact ⟨rfl, rfl⟩

end Go.Proofs.YtkcebnagpgpclaaDoor
