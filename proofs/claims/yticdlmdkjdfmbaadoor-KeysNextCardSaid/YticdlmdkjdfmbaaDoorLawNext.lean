/-
  KeysNext, KeysFirst: their walks.
-/
import Derived.Test.YticdlmdkjdfmbaaDoorAwake
import Derived.Test.YticdlmdkjdfmbaaDoorCmp
namespace Go.Proofs.YticdlmdkjdfmbaaDoor
open Go Go.RowKit

/-- behind the key there is none ahead of the next one -/
theorem next_or (k o : List UInt8) : (leB o k || !Op.bytesLess o (k ++ [0])) = true := by
  rw [leB_not]
  cases h : Op.bytesLess k o
  · rfl
  · rw [next_least k o h]; rfl
theorem next_ne (k : List UInt8) : (k ++ [0] == k) = false ∧ (k == k ++ [0]) = false := by
  constructor
  · rw [Bool.eq_false_iff]
    intro h
    have := congrArg List.length (eq_of_beq h)
    simp at this
  · rw [Bool.eq_false_iff]
    intro h
    have := congrArg List.length (eq_of_beq h)
    simp at this

set_option maxHeartbeats 2000000 in
theorem next_walk (k o : List UInt8) (w : World) (hT : Table w) :
    Calls Tryd.prog 9 #[.string (bst k), .string (bst o)] w fun e w' => e = .returned (.bool true) ∧ Below w.heap.size w w' := by
  have HT := hid hT
  clear hT
  have z1 := bst_size k
  have z2 := bst_size o
  by_cases hk : 1000 < k.length
  · go_enter Tryd.func9, Tryd.ntmps9
    go_wp2_with fail
    go_fit (awake_yes w HT.out)
    rintro e w1 ⟨rfl, hb1⟩
    go_wp2_with fail
    go_ret
    exact ⟨rfl, hb1⟩
  by_cases ho : 1000 < o.length
  · go_enter Tryd.func9, Tryd.ntmps9
    go_wp2_with fail
    go_fit (awake_yes w HT.out)
    rintro e w1 ⟨rfl, hb1⟩
    go_wp2_with fail
    go_ret
    exact ⟨rfl, hb1⟩
  have h1 := bst_toList k
  have h2 := bst_toList o
  have h3 := bst_toList (k ++ [0])
  have HN := hid (next_any k w (by omega))
  obtain ⟨K, hK⟩ : ∃ K, K = bst k := ⟨_, rfl⟩
  obtain ⟨O, hO⟩ : ∃ O, O = bst o := ⟨_, rfl⟩
  obtain ⟨N, hN⟩ : ∃ N, N = bst (k ++ [0]) := ⟨_, rfl⟩
  have a1 := next_more k
  have a2 := (next_ne k).2
  have a3 := (next_ne k).1
  have a4 : Op.bytesLess (k ++ [0]) k = false := by
    have := leB_not k (k ++ [0])
    unfold leB at this
    rw [a1, a2] at this
    cases hh : Op.bytesLess (k ++ [0]) k
    · rfl
    · rw [hh] at this; cases this
  have hor := next_or k o
  rw [← hK] at h1 z1 ⊢
  rw [← hO] at h2 z2 ⊢
  rw [← hN] at h3
  rw [← hK, ← hN] at HN
  clear hK hO hN
  obtain ⟨kn, hkn⟩ : ∃ l, l = k ++ [0] := ⟨_, rfl⟩
  rw [← hkn] at h3 a1 a2 a3 a4 hor
  clear hkn
  rcases tri o k with ⟨b4, b5, b6, b7, b8⟩ | ⟨rfl, b4, b8⟩ | ⟨b4, b5, b6, b7, b8⟩
  · clear b8 hor
    go_enter Tryd.func9, Tryd.ntmps9
    go_wp2_with fail
    go_fit HN.out
    rintro e w1 ⟨rfl, rfl⟩
    go_wp2_with fail
    go_fit (awake_yes w HT.out)
    rintro e w1 ⟨rfl, hb1⟩
    go_wp2_with fail
    go_ret
    exact ⟨rfl, hb1⟩
  · clear b8 hor
    go_enter Tryd.func9, Tryd.ntmps9
    go_wp2_with fail
    go_fit HN.out
    rintro e w1 ⟨rfl, rfl⟩
    go_wp2_with fail
    go_fit (awake_yes w HT.out)
    rintro e w1 ⟨rfl, hb1⟩
    go_wp2_with fail
    go_ret
    exact ⟨rfl, hb1⟩
  · have hge : Op.bytesLess o kn = false := by
      rw [b8] at hor
      cases hh : Op.bytesLess o kn
      · rfl
      · rw [hh] at hor; cases hor
    clear b8 hor
    go_enter Tryd.func9, Tryd.ntmps9
    go_wp2_with fail
    go_fit HN.out
    rintro e w1 ⟨rfl, rfl⟩
    go_wp2_with fail
    go_fit (awake_yes w HT.out)
    rintro e w1 ⟨rfl, hb1⟩
    go_wp2_with fail
    go_ret
    exact ⟨rfl, hb1⟩

end Go.Proofs.YticdlmdkjdfmbaaDoor
