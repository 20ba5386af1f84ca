/-
  KeysPuts, KeysGets: their walks.
-/
import Derived.Test.YticdlmdkjdfmbaaDoorAwake
import Derived.Test.YticdlmdkjdfmbaaDoorRefKGet
namespace Go.Proofs.YticdlmdkjdfmbaaDoor
open Go Go.RowKit

set_option maxHeartbeats 2000000 in
theorem puts_walk (k : List UInt8) (t : Int) (ht : 0 ≤ t ∧ t < 18446744073709551616) (w : World) (hT : Table w) :
    Calls Tryd.prog 3 #[.string (bst k), .int .u64 t] w fun e w' => e = .returned (.bool true) ∧ Below w.heap.size w w' := by
  have HT := hid hT
  have z1 := bst_size k
  have HTT := hid ht
  clear hT ht
  by_cases hk : 1000 < k.length
  · go_enter Tryd.func3, Tryd.ntmps3
    go_wp2_with fail
    go_fit (awake_yes w HT.out)
    rintro e w1 ⟨rfl, hb1⟩
    go_wp2_with fail
    go_ret
    exact ⟨rfl, hb1⟩
  by_cases h64 : 64 < k.length
  · have H64 := hid h64
    have hcv : ∀ w : World, (convert 24 9 (.slice none 0 0)).run Tryd.prog w = .ok (.string (bst [])) w := fun w => str_of (At.nil w 0 none) rfl
    go_enter Tryd.func3, Tryd.ntmps3
    go_wp2_with fail
    go_fit (kput_long k t w H64.out)
    rintro e w1 ⟨rfl, rfl⟩
    go_wp2_with fail
    go_fit (refKPut_long k t w H64.out)
    rintro e w1 ⟨rfl, rfl⟩
    go_wp2_with fail
    go_fit (kfirst_long k w H64.out)
    rintro e w1 ⟨rfl, rfl⟩
    go_wp2_with fail
    go_fit (refKPut_long k 18446744073709551615 w H64.out)
    rintro e w1 ⟨rfl, rfl⟩
    go_wp2_with fail
    go_fit (awake_yes w HT.out)
    rintro e w1 ⟨rfl, hb1⟩
    go_wp2_with fail
    go_ret
    exact ⟨rfl, hb1⟩
  obtain ⟨T, rfl⟩ : ∃ T : Nat, t = T := ⟨t.toNat, by have := HTT.out; omega⟩
  have HTN := hid (show T ≤ 18446744073709551615 by have := HTT.out; omega)
  have HK := hid (show k.length ≤ 64 by omega)
  go_enter Tryd.func3, Tryd.ntmps3
  go_wp2_with fail
  go_fit (kput_any k T w HK.out HTN.out HT.out)
  rintro e w1 ⟨A1, m1, c1, rfl, hr1, hb1⟩
  have HR1 := hid hr1
  have HB1 := hid hb1
  clear hr1 hb1
  go_wp2_with fail
  go_fit (refKPut_any k T w1 HK.out HTN.out)
  rintro e w2 ⟨rfl, hb2⟩
  have HR1 := hid (HR1.out.below hb2)
  have HB2 := hid (below_step HB1.out hb2)
  have HT2 := hid (HT.out.step HB2.out)
  clear hb2
  go_wp2_with fail
  go_fit (kfirst_any k w2 HK.out HT2.out)
  rintro e w3 ⟨A3, m3, c3, rfl, hr3, hb3⟩
  have HR1 := hid (HR1.out.below hb3)
  have HR3 := hid hr3
  have HB3 := hid (below_step HB2.out hb3)
  clear hr3 hb3
  go_wp2_with fail
  go_fit (refKPut_any k 18446744073709551615 w3 HK.out (by decide))
  rintro e w4 ⟨rfl, hb4⟩
  have HR1 := hid (HR1.out.below hb4)
  have HR3 := hid (HR3.out.below hb4)
  have HB4 := hid (below_step HB3.out hb4)
  have HT4 := hid (HT.out.step HB4.out)
  clear hb4
  go_wp2_with fail
  go_fit (awake_yes w4 HT4.out)
  rintro e w5 ⟨rfl, hb5⟩
  have HR1 := hid (HR1.out.below hb5)
  have HR3 := hid (HR3.out.below hb5)
  have HB5 := hid (below_step HB4.out hb5)
  clear hb5
  have cv1 : (convert 24 9 (.slice A1 m1 c1)).run Tryd.prog w5 = .ok (.string (bst (kput k T))) w5 := str_of HR1.out.at_ HR1.out.1
  have cv2 : (convert 24 9 (.slice A3 m3 c3)).run Tryd.prog w5 = .ok (.string (bst (kput k 18446744073709551615))) w5 := str_of HR3.out.at_ HR3.out.1
  go_wp2_with fail
  go_ret
  exact ⟨rfl, HB5.out⟩

set_option maxHeartbeats 2000000 in
theorem gets_walk (s : List UInt8) (w : World) (hT : Table w) :
    Calls Tryd.prog 4 #[.string (bst s)] w fun e w' => e = .returned (.bool true) ∧ Below w.heap.size w w' := by
  have HT := hid hT
  have z1 := bst_size s
  clear hT
  by_cases hk : 2000 < s.length
  · go_enter Tryd.func4, Tryd.ntmps4
    go_wp2_with fail
    go_fit (awake_yes w HT.out)
    rintro e w1 ⟨rfl, hb1⟩
    go_wp2_with fail
    go_ret
    exact ⟨rfl, hb1⟩
  have HK := hid hk
  have HR := hid (fun w => refKGet_any s w (by have := HK.out; omega))
  cases hg : kget s with
  | none =>
    have HG := hid hg
    rw [hg] at HR
    unfold getV at HR
    dsimp only at HR
    clear hg
    go_enter Tryd.func4, Tryd.ntmps4
    go_wp2_with (with_reducible refine wpList_bytes_of _ rfl (.tmp 14) 9 24 5 rfl Tryd.underlying9 Tryd.underlying24 Tryd.underlying5 s rfl ?_; intro A c w1 hc hA hb1)
    go_fit (get_no HG.out hA rfl hc (Nat.le_refl _) (by have := HK.out; omega))
    rintro e w2 ⟨rfl, hb2⟩
    have HB2 := hid (below_step hb1 hb2)
    clear hb1 hb2 hA hc
    go_wp2_with fail
    go_fit (HR.out w2)
    rintro e w3 ⟨rfl, rfl⟩
    go_wp2_with fail
    go_fit (awake_yes w2 (HT.out.step HB2.out))
    rintro e w4 ⟨rfl, hb4⟩
    go_wp2_with fail
    go_ret
    exact ⟨rfl, below_step HB2.out hb4⟩
  | some p =>
    obtain ⟨k, t⟩ := p
    have HG := hid hg
    rw [hg] at HR
    unfold getV at HR
    dsimp only at HR
    clear hg
    go_enter Tryd.func4, Tryd.ntmps4
    go_wp2_with (with_reducible refine wpList_bytes_of _ rfl (.tmp 14) 9 24 5 rfl Tryd.underlying9 Tryd.underlying24 Tryd.underlying5 s rfl ?_; intro A c w1 hc hA hb1)
    go_fit (get_yes HG.out hA rfl hc (Nat.le_refl _) (by have := HK.out; omega))
    rintro e w2 ⟨rfl, hb2⟩
    have HB2 := hid (below_step hb1 hb2)
    clear hb1 hb2 hA hc
    go_wp2_with fail
    go_fit (HR.out w2)
    rintro e w3 ⟨rfl, rfl⟩
    go_wp2_with fail
    go_fit (awake_yes w2 (HT.out.step HB2.out))
    rintro e w4 ⟨rfl, hb4⟩
    go_wp2_with fail
    go_ret
    exact ⟨rfl, below_step HB2.out hb4⟩

end Go.Proofs.YticdlmdkjdfmbaaDoor
