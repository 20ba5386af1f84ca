/-
  KeysOrder: its walk.
-/
import Derived.Test.YticdlmdkjdfmbaaDoorLawFirst
import Derived.Deep.QuietTactic
import Derived.BigQuiet
import Derived.Deep.Draws
namespace Go.Proofs.YticdlmdkjdfmbaaDoor
open Go Go.RowKit

/-- how two keys at two timestamps lie, and what their bytes say -/
theorem order_cmp (a b : List UInt8) {X Y : Nat} (hX : X ≤ 18446744073709551615) (hY : Y ≤ 18446744073709551615) :
    (Op.bytesLess a b = true ∧ Op.bytesLess b a = false ∧ (a == b) = false ∧ cmpL (kput a X) (kput b Y) = -1) ∨ (Op.bytesLess a b = false ∧ Op.bytesLess b a = true ∧ (a == b) = false ∧ cmpL (kput a X) (kput b Y) = 1) ∨
    (Op.bytesLess a b = false ∧ (a == b) = true ∧ ((Y : Int) < (X : Int) ∧ cmpL (kput a X) (kput b Y) = -1 ∨ (X : Int) = (Y : Int) ∧ cmpL (kput a X) (kput b Y) = 0 ∨ (X : Int) < (Y : Int) ∧ cmpL (kput a X) (kput b Y) = 1)) := by
  rw [cmp_kput]
  have hn := cmpL_neg a b
  by_cases h : a = b
  · subst h
    rw [if_pos rfl, ordI_nat]
    refine .inr (.inr ⟨bl_irrefl a, by simp, ?_⟩)
    rcases Nat.lt_trichotomy X Y with hl | hl | hl
    · exact .inr (.inr ⟨by omega, by rw [if_neg (by omega), if_pos (by omega)]⟩)
    · exact .inr (.inl ⟨by omega, by rw [if_neg (by omega), if_neg (by omega)]⟩)
    · exact .inl ⟨by omega, by rw [if_pos (by omega)]⟩
  · rw [if_neg h, bytesLess_cmpL a b, bytesLess_cmpL b a, hn]
    have h0 : ¬ cmpL a b = 0 := fun e => h ((cmpL_zero a b).1 e)
    have hb : (a == b) = false := by rw [Bool.eq_false_iff]; intro e; exact h (eq_of_beq e)
    rcases cmpL_three a b with e | e | e
    · simp [e, hb]
    · exact absurd e h0
    · simp [e, hb]

theorem ret_true {b : Bool} (h : b = true) : Ending.returned (.bool b) = Ending.returned (.bool true) := by rw [h]

set_option maxHeartbeats 4000000 in
theorem korder_walk (a b : List UInt8) (x y : Int) (hx : 0 ≤ x ∧ x < 18446744073709551616) (hy : 0 ≤ y ∧ y < 18446744073709551616) (w : World) (hT : Table w) :
    Calls Tryd.prog 6 #[.string (bst a), .string (bst b), .agg #[.int .u64 x, .int .u64 y]] w fun e w' => e = .returned (.bool true) ∧ Below w.heap.size w w' := by
  have HT := hid hT
  clear hT
  obtain ⟨X, rfl⟩ : ∃ X : Nat, x = X := ⟨x.toNat, by omega⟩
  have HX := hid (show X ≤ 18446744073709551615 by omega)
  obtain ⟨Y, rfl⟩ : ∃ Y : Nat, y = Y := ⟨y.toNat, by omega⟩
  have HY := hid (show Y ≤ 18446744073709551615 by omega)
  clear hx hy
  by_cases ha : 64 < a.length
  · have HA := hid ha
    clear ha
    by_cases hb : 64 < b.length
    · have HB := hid hb
      clear hb
      go_enter Tryd.func6, Tryd.ntmps6
      go_wp2_with fail
      go_quiet (fail)
      generalize hw0 : World.drewN _ _ = w0
      have HBW := hid (show Below w.heap.size w w0 by rw [← hw0]; exact below_drewN ((Below.refl _ _).alloc (Nat.le_refl _) _) _)
      clear hw0
      have HT0 := hid (HT.out.step HBW.out)
      
      go_wp2_with fail
      go_fit (kput_long a X w0 HA.out)
      rintro e w9 ⟨rfl, rfl⟩
      
      go_wp2_with fail
      go_fit (kput_long b Y w0 HB.out)
      rintro e w9 ⟨rfl, rfl⟩
      
      go_wp2_with fail
      go_fit (awake_yes w0 (HT.out.step HBW.out))
      rintro e w3 ⟨rfl, hb3⟩
      have HB3 := hid (below_step HBW.out hb3)
      clear hb3
      go_wp2_with fail
      go_fit (awake_yes w3 (HT.out.step HB3.out))
      rintro e w4 ⟨rfl, hb4⟩
      go_wp2_with fail
      go_ret
      exact ⟨rfl, below_step HB3.out hb4⟩
    · have HB := hid (show b.length ≤ 64 by omega)
      clear hb
      go_enter Tryd.func6, Tryd.ntmps6
      go_wp2_with fail
      go_quiet (fail)
      generalize hw0 : World.drewN _ _ = w0
      have HBW := hid (show Below w.heap.size w w0 by rw [← hw0]; exact below_drewN ((Below.refl _ _).alloc (Nat.le_refl _) _) _)
      clear hw0
      have HT0 := hid (HT.out.step HBW.out)
      
      go_wp2_with fail
      go_fit (kput_long a X w0 HA.out)
      rintro e w9 ⟨rfl, rfl⟩
      
      go_wp2_with fail
      go_fit (kput_any b Y w0 HB.out HY.out (HT.out.step HBW.out))
      rintro e w1 ⟨A1, m1, c1, rfl, hr1, hb1⟩
      have HR1 := hid hr1
      have HB1 := hid (below_step HBW.out hb1)
      clear hr1 hb1
      
      go_wp2_with fail
      go_fit (awake_yes w1 (HT.out.step HB1.out))
      rintro e w3 ⟨rfl, hb3⟩
      have HB3 := hid (below_step HB1.out hb3)
      clear hb3
      go_wp2_with fail
      go_fit (awake_yes w3 (HT.out.step HB3.out))
      rintro e w4 ⟨rfl, hb4⟩
      go_wp2_with fail
      go_ret
      exact ⟨rfl, below_step HB3.out hb4⟩
  · have HA := hid (show a.length ≤ 64 by omega)
    clear ha
    by_cases hb : 64 < b.length
    · have HB := hid hb
      clear hb
      go_enter Tryd.func6, Tryd.ntmps6
      go_wp2_with fail
      go_quiet (fail)
      generalize hw0 : World.drewN _ _ = w0
      have HBW := hid (show Below w.heap.size w w0 by rw [← hw0]; exact below_drewN ((Below.refl _ _).alloc (Nat.le_refl _) _) _)
      clear hw0
      have HT0 := hid (HT.out.step HBW.out)
      
      go_wp2_with fail
      go_fit (kput_any a X w0 HA.out HX.out (HT.out.step HBW.out))
      rintro e w1 ⟨A1, m1, c1, rfl, hr1, hb1⟩
      have HR1 := hid hr1
      have HB1 := hid (below_step HBW.out hb1)
      clear hr1 hb1
      
      go_wp2_with fail
      go_fit (kput_long b Y w1 HB.out)
      rintro e w9 ⟨rfl, rfl⟩
      
      go_wp2_with fail
      go_fit (awake_yes w1 (HT.out.step HB1.out))
      rintro e w3 ⟨rfl, hb3⟩
      have HB3 := hid (below_step HB1.out hb3)
      clear hb3
      go_wp2_with fail
      go_fit (awake_yes w3 (HT.out.step HB3.out))
      rintro e w4 ⟨rfl, hb4⟩
      go_wp2_with fail
      go_ret
      exact ⟨rfl, below_step HB3.out hb4⟩
    · have HB := hid (show b.length ≤ 64 by omega)
      clear hb
      have HC := hid (order_cmp a b HX.out HY.out)
      have h1 := bst_toList a
      have h2 := bst_toList b
      have HPA := hid (fun w h => kput_any a X w HA.out HX.out h)
      have HPB := hid (fun w h => kput_any b Y w HB.out HY.out h)
      obtain ⟨P, hP⟩ : ∃ P, P = bst a := ⟨_, rfl⟩
      obtain ⟨R, hR⟩ : ∃ R, R = bst b := ⟨_, rfl⟩
      rw [← hP] at h1 ⊢ HPA
      rw [← hR] at h2 ⊢ HPB
      clear hP hR
      go_enter Tryd.func6, Tryd.ntmps6
      go_wp2_with fail
      go_quiet (fail)
      generalize hw0 : World.drewN _ _ = w0
      have HBW := hid (show Below w.heap.size w w0 by rw [← hw0]; exact below_drewN ((Below.refl _ _).alloc (Nat.le_refl _) _) _)
      clear hw0
      have HT0 := hid (HT.out.step HBW.out)
      
      go_wp2_with fail
      go_fit (HPA.out w0 (HT.out.step HBW.out))
      rintro e w1 ⟨A1, m1, c1, rfl, hr1, hb1⟩
      have HR1 := hid hr1
      have HB1 := hid (below_step HBW.out hb1)
      clear hr1 hb1
      
      go_wp2_with fail
      go_fit (HPB.out w1 (HT.out.step HB1.out))
      rintro e w2 ⟨A2, m2, c2, rfl, hr2, hb2⟩
      have HR2 := hid hr2
      have HB2 := hid (below_step HB1.out hb2)
      have HR1 := hid (HR1.out.below hb2)
      clear hr2 hb2
      go_wp2_with fail
      go_fit (awake_yes w2 (HT.out.step HB2.out))
      rintro e w3 ⟨rfl, hb3⟩
      have HR1 := hid (HR1.out.below hb3)
      have HR2 := hid (HR2.out.below hb3)
      have HB3 := hid (below_step HB2.out hb3)
      clear hb3
      rcases HC.out with ⟨g1, g2, g3, hc⟩ | ⟨g1, g2, g3, hc⟩ | ⟨g1, g3, ⟨g2, hc⟩ | ⟨g2, hc⟩ | ⟨g2, hc⟩⟩
      all_goals
        have HCC := hid hc
        clear hc
        go_wp2_with fail
        go_fit (cmp_is HR1.out.1 HR2.out.1 HR1.out.at_ HR2.out.at_ (by have := kput_len64 (t := X) HA.out; omega) (by have := kput_len64 (t := Y) HB.out; omega))
        rw [HCC.out]
        rintro e w4 ⟨rfl, nq, rfl⟩
        go_wp2_with fail
        go_ret
        first | exact ⟨rfl, below_drewN HB3.out nq⟩ | exact ⟨ret_true (by simp; omega), below_drewN HB3.out nq⟩

end Go.Proofs.YticdlmdkjdfmbaaDoor
