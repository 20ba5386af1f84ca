/-
  keys.Next, keys.In, the document's Begins: by their contracts.
-/
import Derived.Test.YticdlmdkjdfmbaaDoorFns
import Derived.Test.YticdlmdkjdfmbaaDoorWords
namespace Go.Proofs.YticdlmdkjdfmbaaDoor
open Go Go.RowKit

set_option maxHeartbeats 400000 in
theorem next_any (k : List UInt8) (w : World) (hk : k.length ≤ 1000) :
    Calls Tryd.prog 21 #[.string (bst k)] w fun e w' => e = .returned (.string (bst (k ++ [0]))) ∧ w = w' := by
  have hsz := bst_size k
  have HA := hid (bst_append k [0])
  go_enter Tryd.func21, Tryd.ntmps21
  go_wp2_with fail
  go_ret
  exact ⟨by rw [← HA.out]; rfl, rfl⟩

/-- f <= k -/
def leB (f k : List UInt8) : Bool := Op.bytesLess f k || f == k
theorem leB_not (f k : List UInt8) : leB f k = !Op.bytesLess k f := by
  unfold leB
  rw [bytesLess_cmpL, bytesLess_cmpL, cmpL_neg f k]
  have h0 := cmpL_zero f k
  have e : (f == k) = decide (f = k) := by rw [Bool.eq_iff_iff]; simp
  rw [e]
  rcases cmpL_three f k with h | h | h
  · simp [h]
  · have hk := h0.1 h
    subst hk
    simp [h]
  · have hne : ¬ f = k := fun e => by rw [h0.2 e] at h; cases h
    simp [h, hne]
theorem le_cases (f k : List UInt8) : (Op.bytesLess f k = true ∧ leB f k = true) ∨ (Op.bytesLess f k = false ∧ (f == k) = true ∧ leB f k = true) ∨ (Op.bytesLess f k = false ∧ (f == k) = false ∧ leB f k = false) := by
  unfold leB
  cases Op.bytesLess f k <;> cases f == k <;> simp

/-- one comes ahead, or they are one -/
theorem tri (f k : List UInt8) : (Op.bytesLess f k = true ∧ Op.bytesLess k f = false ∧ (f == k) = false ∧ (k == f) = false ∧ leB f k = true) ∨ (f = k ∧ Op.bytesLess f f = false ∧ leB f f = true) ∨
    (Op.bytesLess f k = false ∧ Op.bytesLess k f = true ∧ (f == k) = false ∧ (k == f) = false ∧ leB f k = false) := by
  have hn := cmpL_neg f k
  have h0 := cmpL_zero f k
  have e1 : (f == k) = decide (f = k) := by rw [Bool.eq_iff_iff]; simp
  have e2 : (k == f) = decide (f = k) := by rw [Bool.eq_iff_iff]; simp; exact eq_comm
  rw [leB_not, bytesLess_cmpL f k, bytesLess_cmpL k f, hn, e1, e2]
  rcases cmpL_three f k with h | h | h
  · have hne : ¬ f = k := fun e => by rw [h0.2 e] at h; cases h
    exact .inl (by simp [h, hne])
  · have hk := h0.1 h
    subst hk
    exact .inr (.inl ⟨rfl, bl_irrefl _, by rw [leB_not, bl_irrefl]; rfl⟩)
  · have hne : ¬ f = k := fun e => by rw [h0.2 e] at h; cases h
    exact .inr (.inr (by simp [h, hne]))

/-- from <= k && (open || k < to) -/
def inB (k f t : List UInt8) (o : Bool) : Bool := leB f k && (o || Op.bytesLess k t)

set_option maxHeartbeats 400000 in
theorem in_any (k f t : List UInt8) (o : Bool) (w : World) :
    Calls Tryd.prog 20 #[.string (bst k), .string (bst f), .string (bst t), .bool o] w fun e w' => e = .returned (.bool (inB k f t o)) ∧ w = w' := by
  have h1 := bst_toList k
  have h2 := bst_toList f
  have h3 := bst_toList t
  obtain ⟨K, hK⟩ : ∃ K, K = bst k := ⟨_, rfl⟩
  obtain ⟨F, hF⟩ : ∃ F, F = bst f := ⟨_, rfl⟩
  obtain ⟨T, hT⟩ : ∃ T, T = bst t := ⟨_, rfl⟩
  rw [← hK] at h1 ⊢
  rw [← hF] at h2 ⊢
  rw [← hT] at h3 ⊢
  unfold inB
  rcases le_cases f k with ⟨h4, h5⟩ | ⟨h4, h6, h5⟩ | ⟨h4, h6, h5⟩
  · rw [h5]
    clear hK hF hT h5
    cases o
    · go_enter Tryd.func20, Tryd.ntmps20
      go_wp2_with fail
      go_ret
      exact ⟨rfl, rfl⟩
    · go_enter Tryd.func20, Tryd.ntmps20
      go_wp2_with fail
      go_ret
      exact ⟨rfl, rfl⟩
  · rw [h5]
    clear hK hF hT h5
    cases o
    · go_enter Tryd.func20, Tryd.ntmps20
      go_wp2_with fail
      go_ret
      exact ⟨rfl, rfl⟩
    · go_enter Tryd.func20, Tryd.ntmps20
      go_wp2_with fail
      go_ret
      exact ⟨rfl, rfl⟩
  · rw [h5]
    clear hK hF hT h5
    go_enter Tryd.func20, Tryd.ntmps20
    go_wp2_with fail
    go_ret
    exact ⟨rfl, rfl⟩

theorem ext_to {s : ByteArray} {l : List UInt8} {k : Nat} (hs : s = bst l) : s.extract 0 k = bst (l.take k) := by
  subst hs
  apply ByteArray.ext
  simp only [ByteArray.data_extract, bst]
  apply Array.toList_inj.1
  rw [Array.toList_extract]
  simp only [List.extract_eq_take_drop, Nat.sub_zero, List.drop_zero]

theorem prefix_take (p k : List UInt8) : p.isPrefixOf k = (decide (p.length ≤ k.length) && (k.take p.length == p)) := by
  rw [Bool.eq_iff_iff, List.isPrefixOf_iff_prefix, List.prefix_iff_eq_take]
  simp
  constructor
  · intro h
    refine ⟨?_, h.symm⟩
    have := congrArg List.length h
    rw [List.length_take] at this
    omega
  · intro h
    exact h.2.symm

set_option maxHeartbeats 400000 in
theorem begins_any (k p : List UInt8) (w : World) :
    Calls Tryd.prog 19 #[.string (bst k), .string (bst p)] w fun e w' => e = .returned (.bool (p.isPrefixOf k)) ∧ w = w' := by
  have h1 := bst_toList k
  have h2 := bst_toList p
  have z1 := bst_size k
  have z2 := bst_size p
  obtain ⟨K, hK⟩ : ∃ K, K = bst k := ⟨_, rfl⟩
  obtain ⟨F, hF⟩ : ∃ F, F = bst p := ⟨_, rfl⟩
  have hx := ext_to (k := p.length) hK
  have h3 := bst_toList (k.take p.length)
  rw [← hK] at h1 z1 ⊢
  rw [← hF] at h2 z2 ⊢
  rw [prefix_take]
  clear hK hF
  by_cases hle : p.length ≤ k.length
  · rw [decide_eq_true hle]
    go_enter Tryd.func19, Tryd.ntmps19
    go_wp2_with fail
    go_ret
    exact ⟨rfl, rfl⟩
  · rw [decide_eq_false hle]
    go_enter Tryd.func19, Tryd.ntmps19
    go_wp2_with fail
    go_ret
    exact ⟨rfl, rfl⟩

end Go.Proofs.YticdlmdkjdfmbaaDoor
