/-
  KeysFirst: its walk.
-/
import Derived.Test.YticdlmdkjdfmbaaDoorAwake
import Derived.Test.YticdlmdkjdfmbaaDoorCmp
namespace Go.Proofs.YticdlmdkjdfmbaaDoor
open Go Go.RowKit

theorem kput_len64 {k : List UInt8} {t : Nat} (h : k.length ≤ 64) : (kput k t).length ≤ 200 := by
  rw [kput_length]; have := esc_length k; omega
theorem first_cmp (a b : List UInt8) (y : Nat) : (Op.bytesLess b a = true ∧ cmpL (kput b y) (kput a 18446744073709551615) = -1) ∨ (Op.bytesLess b a = false ∧ cmpL (kput b y) (kput a 18446744073709551615) = 0) ∨ (Op.bytesLess b a = false ∧ cmpL (kput b y) (kput a 18446744073709551615) = 1) := by
  rw [cmp_kput, bytesLess_cmpL]
  by_cases h : b = a
  · subst h
    rw [if_pos rfl, Nat.sub_self, ordI_nat, (cmpL_zero b b).2 rfl, if_neg (by omega)]
    by_cases h0 : 0 < 18446744073709551615 - y
    · rw [if_pos h0]; simp
    · rw [if_neg h0]; simp
  · rw [if_neg h]
    have h0 : ¬ cmpL b a = 0 := fun e => h ((cmpL_zero b a).1 e)
    rcases cmpL_three b a with e | e | e
    · simp [e]
    · exact absurd e h0
    · simp [e]

set_option maxHeartbeats 2000000 in
theorem first_walk (a b : List UInt8) (y : Int) (hy : 0 ≤ y ∧ y < 18446744073709551616) (w : World) (hT : Table w) :
    Calls Tryd.prog 7 #[.string (bst a), .string (bst b), .int .u64 y] w fun e w' => e = .returned (.bool true) ∧ Below w.heap.size w w' := by
  have HT := hid hT
  clear hT
  obtain ⟨Y, rfl⟩ : ∃ Y : Nat, y = Y := ⟨y.toNat, by omega⟩
  have HY := hid (show Y ≤ 18446744073709551615 by omega)
  clear hy
  by_cases ha : 64 < a.length
  · have HA := hid ha
    clear ha
    by_cases hb : 64 < b.length
    · have HB := hid hb
      clear hb
      go_enter Tryd.func7, Tryd.ntmps7
      go_wp2_with fail
      go_fit (kfirst_long a w HA.out)
      rintro e w1 ⟨rfl, rfl⟩
      go_wp2_with fail
      go_fit (kput_long b Y w HB.out)
      rintro e w1 ⟨rfl, rfl⟩
      go_wp2_with fail
      go_fit (awake_yes w HT.out)
      rintro e w1 ⟨rfl, hb1⟩
      have HB1 := hid hb1
      clear hb1
      go_wp2_with fail
      go_fit (awake_yes w1 (HT.out.step HB1.out))
      rintro e w2 ⟨rfl, hb2⟩
      go_wp2_with fail
      go_ret
      exact ⟨rfl, below_step HB1.out hb2⟩
    · have HB := hid (show b.length ≤ 64 by omega)
      clear hb
      go_enter Tryd.func7, Tryd.ntmps7
      go_wp2_with fail
      go_fit (kfirst_long a w HA.out)
      rintro e w1 ⟨rfl, rfl⟩
      go_wp2_with fail
      go_fit (kput_any b Y w HB.out HY.out HT.out)
      rintro e w0 ⟨A0, m0, c0, rfl, hr0, hb0⟩
      have HB0 := hid hb0
      clear hr0 hb0
      go_wp2_with fail
      go_fit (awake_yes w0 (HT.out.step HB0.out))
      rintro e w1 ⟨rfl, hb1⟩
      have HB1 := hid (below_step HB0.out hb1)
      clear hb1
      go_wp2_with fail
      go_fit (awake_yes w1 (HT.out.step HB1.out))
      rintro e w2 ⟨rfl, hb2⟩
      go_wp2_with fail
      go_ret
      exact ⟨rfl, below_step HB1.out hb2⟩
  · have HA := hid (show a.length ≤ 64 by omega)
    clear ha
    by_cases hb : 64 < b.length
    · have HB := hid hb
      clear hb
      go_enter Tryd.func7, Tryd.ntmps7
      go_wp2_with fail
      go_fit (kfirst_any a w HA.out HT.out)
      rintro e w0 ⟨A0, m0, c0, rfl, hr0, hb0⟩
      have HB0 := hid hb0
      clear hr0 hb0
      go_wp2_with fail
      go_fit (kput_long b Y w0 HB.out)
      rintro e w1 ⟨rfl, rfl⟩
      go_wp2_with fail
      go_fit (awake_yes w0 (HT.out.step HB0.out))
      rintro e w1 ⟨rfl, hb1⟩
      have HB1 := hid (below_step HB0.out hb1)
      clear hb1
      go_wp2_with fail
      go_fit (awake_yes w1 (HT.out.step HB1.out))
      rintro e w2 ⟨rfl, hb2⟩
      go_wp2_with fail
      go_ret
      exact ⟨rfl, below_step HB1.out hb2⟩
    · have HB := hid (show b.length ≤ 64 by omega)
      clear hb
      have HC := hid (first_cmp a b Y)
      have h1 := bst_toList a
      have h2 := bst_toList b
      have HFA := hid (fun w h => kfirst_any a w HA.out h)
      have HPB := hid (fun w h => kput_any b Y w HB.out HY.out h)
      obtain ⟨P, hP⟩ : ∃ P, P = bst a := ⟨_, rfl⟩
      obtain ⟨R, hR⟩ : ∃ R, R = bst b := ⟨_, rfl⟩
      rw [← hP] at h1 ⊢ HFA
      rw [← hR] at h2 ⊢ HPB
      clear hP hR
      go_enter Tryd.func7, Tryd.ntmps7
      go_wp2_with fail
      go_fit (HFA.out w HT.out)
      rintro e w0 ⟨A0, m0, c0, rfl, hr0, hb0⟩
      have HR0 := hid hr0
      have HB0 := hid hb0
      clear hr0 hb0
      go_wp2_with fail
      go_fit (HPB.out w0 (HT.out.step HB0.out))
      rintro e w1 ⟨A1, m1, c1, rfl, hr1, hb1⟩
      have HR0 := hid (HR0.out.below hb1)
      have HR1 := hid hr1
      have HB1 := hid (below_step HB0.out hb1)
      clear hr1 hb1
      go_wp2_with fail
      go_fit (awake_yes w1 (HT.out.step HB1.out))
      rintro e w2 ⟨rfl, hb2⟩
      have HR0 := hid (HR0.out.below hb2)
      have HR1 := hid (HR1.out.below hb2)
      have HB2 := hid (below_step HB1.out hb2)
      clear hb2
      rcases HC.out with ⟨hl, hc⟩ | ⟨hl, hc⟩ | ⟨hl, hc⟩
      all_goals
        have HCC := hid hc
        clear hc
        go_wp2_with fail
        go_fit (cmp_is HR1.out.1 HR0.out.1 HR1.out.at_ HR0.out.at_ (by have := kput_len64 (t := Y) HB.out; omega) (by have := kput_len64 (t := 18446744073709551615) HA.out; omega))
        rw [HCC.out]
        rintro e w3 ⟨rfl, nq, rfl⟩
        go_wp2_with fail
        go_ret
        exact ⟨rfl, below_drewN HB2.out nq⟩

end Go.Proofs.YticdlmdkjdfmbaaDoor
