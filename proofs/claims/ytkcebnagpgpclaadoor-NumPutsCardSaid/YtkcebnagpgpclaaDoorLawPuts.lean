/-
  NumPuts: its walk.
-/
import Derived.Test.YtkcebnagpgpclaaDoorTools
namespace Go.Proofs.YtkcebnagpgpclaaDoor
open Go Go.RowKit

set_option maxHeartbeats 2000000 in
theorem puts_walk (l : List UInt8) (v n : Int) (hv0 : 0 ≤ v) (hv : v < 18446744073709551616) (w : World) (hT : Table w) :
    Calls Tryd.prog 3 #[.string (bst l), .int .u64 v, .int .i64 n] w fun e w' => e = .returned (.bool true) ∧ Below w.heap.size w w' := by
  have HT := hid hT
  have hz := bst_size l
  clear hT
  have HV := hid hv
  clear hv
  by_cases hlen : 1000 < l.length
  · go_enter Tryd.func3, Tryd.ntmps3
    go_wp2_with fail
    go_fit (awake_yes w HT.out)
    rintro e w1 ⟨rfl, hb1⟩
    go_wp2_with fail
    go_ret
    exact ⟨rfl, hb1⟩
  · by_cases hn : 1 ≤ n ∧ n ≤ 8
    · obtain ⟨N, rfl⟩ : ∃ N : Nat, n = N := ⟨n.toNat, by omega⟩
      obtain ⟨V, rfl⟩ : ∃ V : Nat, v = V := ⟨v.toNat, by omega⟩
      have HV2 := hid (show V < 18446744073709551616 by have := HV.out; omega)
      have h1 : 1 ≤ N := by omega
      have h8 : N ≤ 8 := by omega
      by_cases hfit : V / 256 ^ N = 0
      · have HF := hid hfit
        have heq : (V / 256 ^ N == 0) = true := by rw [hfit]; rfl
        clear hfit hn
        go_enter Tryd.func3, Tryd.ntmps3
        go_wp2_with (with_reducible refine wpList_bytes_of _ rfl (.tmp 16) 9 24 5 rfl Tryd.underlying9 Tryd.underlying24 Tryd.underlying5 l rfl ?_; intro A c w1 hc hA hb1)
        have HT1 := hid (HT.out.step hb1)
        go_fit (put_is rfl hA (Nat.le_refl _) (by omega) HT1.out h1 h8 HF.out HV2.out)
        rintro e w2 ⟨A2, m2, c2, rfl, hr2, hb2⟩
        go_wp2_with fail
        go_fit (refPut_yes V N w2 h1 h8 HV2.out)
        rintro e w3 ⟨rfl, hb3⟩
        go_wp2_with fail
        have HT3 := hid ((HT1.out.step hb2).step hb3)
        go_fit (awake_yes w3 HT3.out)
        rintro e w4 ⟨rfl, hb4⟩
        have cv := str_of (c := c2) ((hr2.at_.below hb3).below (hb4.mono hb3.size)) hr2.1
        have hz2 := bst_size (be V N)
        rw [be_length] at hz2
        have happ := bst_append l (be V N)
        go_wp2_with fail
        go_ret
        exact ⟨rfl, below_step (below_step (below_step hb1 hb2) hb3) hb4⟩
      · have HF := hid hfit
        have heq : (V / 256 ^ N == 0) = false := by simpa using hfit
        clear hfit hn
        go_enter Tryd.func3, Tryd.ntmps3
        go_wp2_with (with_reducible refine wpList_bytes_of _ rfl (.tmp 16) 9 24 5 rfl Tryd.underlying9 Tryd.underlying24 Tryd.underlying5 l rfl ?_; intro A c w1 hc hA hb1)
        have HT1 := hid (HT.out.step hb1)
        go_fit (put_great A c l.length V N w1 HT1.out h1 h8 HF.out)
        rintro e w2 ⟨rfl, rfl⟩
        go_wp2_with fail
        go_fit (refPut_yes V N w1 h1 h8 HV2.out)
        rintro e w3 ⟨rfl, hb3⟩
        go_wp2_with fail
        go_fit (awake_yes w3 (HT1.out.step hb3))
        rintro e w4 ⟨rfl, hb4⟩
        go_wp2_with fail
        go_ret
        exact ⟨rfl, below_step (below_step hb1 hb3) hb4⟩
    · have HN := hid hn
      clear hn
      go_enter Tryd.func3, Tryd.ntmps3
      go_wp2_with (with_reducible refine wpList_bytes_of _ rfl (.tmp 16) 9 24 5 rfl Tryd.underlying9 Tryd.underlying24 Tryd.underlying5 l rfl ?_; intro A c w1 hc hA hb1)
      have HT1 := hid (HT.out.step hb1)
      go_fit (put_width A c l.length v n w1 HN.out)
      rintro e w2 ⟨rfl, rfl⟩
      go_wp2_with fail
      go_fit (refPut_no v n w1 HN.out)
      rintro e w3 ⟨rfl, rfl⟩
      go_wp2_with fail
      go_fit (awake_yes w1 HT1.out)
      rintro e w4 ⟨rfl, hb4⟩
      go_wp2_with fail
      go_ret
      exact ⟨rfl, below_step hb1 hb4⟩

end Go.Proofs.YtkcebnagpgpclaaDoor
