/-
  KeysBack: its walk.
-/
import Derived.Test.YticdlmdkjdfmbaaDoorAwake
namespace Go.Proofs.YticdlmdkjdfmbaaDoor
open Go Go.RowKit

/-- bytes, their key, its bytes -/
theorem half (s : List UInt8) : kget s = none ∨ ∃ (k : List UInt8) (t : Nat), kget s = some (k, t) ∧ s = kput k t ∧ k.length ≤ 64 ∧ t ≤ 18446744073709551615 := by
  cases h : kget s with
  | none => exact .inl rfl
  | some p => obtain ⟨k, t⟩ := p; exact .inr ⟨k, t, rfl, kget_iff.1 h⟩

set_option maxHeartbeats 4000000 in
theorem back_walk (k : List UInt8) (t : Int) (s : List UInt8) (ht : 0 ≤ t ∧ t < 18446744073709551616) (w : World) (hT : Table w) :
    Calls Tryd.prog 5 #[.string (bst k), .int .u64 t, .string (bst s)] w fun e w' => e = .returned (.bool true) ∧ Below w.heap.size w w' := by
  have HT := hid hT
  have z1 := bst_size k
  have z2 := bst_size s
  have HTT := hid ht
  clear hT ht
  by_cases hk : 1000 < k.length
  · go_enter Tryd.func5, Tryd.ntmps5
    go_wp2_with fail
    go_fit (awake_yes w HT.out)
    rintro e w1 ⟨rfl, hb1⟩
    go_wp2_with fail
    go_ret
    exact ⟨rfl, hb1⟩
  by_cases hs : 2000 < s.length
  · go_enter Tryd.func5, Tryd.ntmps5
    go_wp2_with fail
    go_fit (awake_yes w HT.out)
    rintro e w1 ⟨rfl, hb1⟩
    go_wp2_with fail
    go_ret
    exact ⟨rfl, hb1⟩
  obtain ⟨T, rfl⟩ : ∃ T : Nat, t = T := ⟨t.toNat, by have := HTT.out; omega⟩
  have HTN := hid (show T ≤ 18446744073709551615 by have := HTT.out; omega)
  have HS := hid hs
  by_cases h64 : 64 < k.length
  · have H64 := hid h64
    rcases half s with hg | ⟨k2, t2, hg, he, hk2, ht2⟩
    · have HG := hid hg
      clear hg
      go_enter Tryd.func5, Tryd.ntmps5
      go_wp2_with fail
      go_fit (kput_long k T w H64.out)
      rintro e w1 ⟨rfl, rfl⟩
      have HBW := hid (Below.refl w.heap.size w)
      
      go_wp2_with (with_reducible refine wpList_bytes_of _ rfl (.tmp 53) 9 24 5 rfl Tryd.underlying9 Tryd.underlying24 Tryd.underlying5 s rfl ?_; intro A5 c5 w5 hc5 hA5 hb5)
      have HB5 := hid (below_step HBW.out hb5)
      go_fit (get_no HG.out hA5 rfl hc5 (Nat.le_refl _) (by have := HS.out; omega))
      rintro e w6 ⟨rfl, hb6⟩
      have HB6 := hid (below_step HB5.out hb6)
      clear hb5 hb6 hA5 hc5
      go_wp2_with fail
      go_fit (awake_yes w6 (HT.out.step HB6.out))
      rintro e w7 ⟨rfl, hb7⟩
      go_wp2_with fail
      go_ret
      exact ⟨rfl, below_step HB6.out hb7⟩
    · have HG := hid hg
      have HE := hid he
      have HK2 := hid hk2
      have HT2 := hid ht2
      clear hg he hk2 ht2
      go_enter Tryd.func5, Tryd.ntmps5
      go_wp2_with fail
      go_fit (kput_long k T w H64.out)
      rintro e w1 ⟨rfl, rfl⟩
      have HBW := hid (Below.refl w.heap.size w)
      
      go_wp2_with (with_reducible refine wpList_bytes_of _ rfl (.tmp 53) 9 24 5 rfl Tryd.underlying9 Tryd.underlying24 Tryd.underlying5 s rfl ?_; intro A5 c5 w5 hc5 hA5 hb5)
      have HB5 := hid (below_step HBW.out hb5)
      go_fit (get_yes HG.out hA5 rfl hc5 (Nat.le_refl _) (by have := HS.out; omega))
      rintro e w6 ⟨rfl, hb6⟩
      have HB6 := hid (below_step HB5.out hb6)
      clear hb5 hb6 hA5 hc5
      go_wp2_with fail
      go_fit (kput_any k2 t2 w6 HK2.out HT2.out (HT.out.step HB6.out))
      rw [← HE.out]
      rintro e w7 ⟨A7, m7, c7, rfl, hr7, hb7⟩
      have HB7 := hid (below_step HB6.out hb7)
      have cv : (convert 24 9 (.slice A7 m7 c7)).run Tryd.prog w7 = .ok (.string (bst s)) w7 := str_of hr7.at_ hr7.1
      clear hr7 hb7
      go_wp2_with fail
      go_fit (awake_yes w7 (HT.out.step HB7.out))
      rintro e w8 ⟨rfl, hb8⟩
      go_wp2_with fail
      go_ret
      exact ⟨rfl, below_step HB7.out hb8⟩
  · have HK := hid (show k.length ≤ 64 by omega)
    have HKG := hid (kget_kput HK.out HTN.out)
    have HKL := hid (show (kput k T).length ≤ 200 by rw [kput_length]; have := esc_length k; omega)
    rcases half s with hg | ⟨k2, t2, hg, he, hk2, ht2⟩
    · have HG := hid hg
      clear hg
      go_enter Tryd.func5, Tryd.ntmps5
      go_wp2_with fail
      go_fit (kput_any k T w HK.out HTN.out HT.out)
      rintro e w1 ⟨A1, m1, c1, rfl, hr1, hb1⟩
      have HR1 := hid hr1
      have HB1 := hid hb1
      clear hr1 hb1
      go_wp2_with fail
      go_fit (get_yes HKG.out HR1.out.at_ HR1.out.1 (row_cap HR1.out) (Nat.le_refl _) (by rw [HR1.out.1]; have := HKL.out; omega))
      rintro e w2 ⟨rfl, hb2⟩
      have HBW := hid (below_step HB1.out hb2)
      clear hb2
      go_wp2_with (with_reducible refine wpList_bytes_of _ rfl (.tmp 53) 9 24 5 rfl Tryd.underlying9 Tryd.underlying24 Tryd.underlying5 s rfl ?_; intro A5 c5 w5 hc5 hA5 hb5)
      have HB5 := hid (below_step HBW.out hb5)
      go_fit (get_no HG.out hA5 rfl hc5 (Nat.le_refl _) (by have := HS.out; omega))
      rintro e w6 ⟨rfl, hb6⟩
      have HB6 := hid (below_step HB5.out hb6)
      clear hb5 hb6 hA5 hc5
      go_wp2_with fail
      go_fit (awake_yes w6 (HT.out.step HB6.out))
      rintro e w7 ⟨rfl, hb7⟩
      go_wp2_with fail
      go_ret
      exact ⟨rfl, below_step HB6.out hb7⟩
    · have HG := hid hg
      have HE := hid he
      have HK2 := hid hk2
      have HT2 := hid ht2
      clear hg he hk2 ht2
      go_enter Tryd.func5, Tryd.ntmps5
      go_wp2_with fail
      go_fit (kput_any k T w HK.out HTN.out HT.out)
      rintro e w1 ⟨A1, m1, c1, rfl, hr1, hb1⟩
      have HR1 := hid hr1
      have HB1 := hid hb1
      clear hr1 hb1
      go_wp2_with fail
      go_fit (get_yes HKG.out HR1.out.at_ HR1.out.1 (row_cap HR1.out) (Nat.le_refl _) (by rw [HR1.out.1]; have := HKL.out; omega))
      rintro e w2 ⟨rfl, hb2⟩
      have HBW := hid (below_step HB1.out hb2)
      clear hb2
      go_wp2_with (with_reducible refine wpList_bytes_of _ rfl (.tmp 53) 9 24 5 rfl Tryd.underlying9 Tryd.underlying24 Tryd.underlying5 s rfl ?_; intro A5 c5 w5 hc5 hA5 hb5)
      have HB5 := hid (below_step HBW.out hb5)
      go_fit (get_yes HG.out hA5 rfl hc5 (Nat.le_refl _) (by have := HS.out; omega))
      rintro e w6 ⟨rfl, hb6⟩
      have HB6 := hid (below_step HB5.out hb6)
      clear hb5 hb6 hA5 hc5
      go_wp2_with fail
      go_fit (kput_any k2 t2 w6 HK2.out HT2.out (HT.out.step HB6.out))
      rw [← HE.out]
      rintro e w7 ⟨A7, m7, c7, rfl, hr7, hb7⟩
      have HB7 := hid (below_step HB6.out hb7)
      have cv : (convert 24 9 (.slice A7 m7 c7)).run Tryd.prog w7 = .ok (.string (bst s)) w7 := str_of hr7.at_ hr7.1
      clear hr7 hb7
      go_wp2_with fail
      go_fit (awake_yes w7 (HT.out.step HB7.out))
      rintro e w8 ⟨rfl, hb8⟩
      go_wp2_with fail
      go_ret
      exact ⟨rfl, below_step HB7.out hb8⟩

end Go.Proofs.YticdlmdkjdfmbaaDoor
