/-
  SumMore, SumOf: their walks.
-/
import Derived.Test.YtignjgjoejimcaaDoorAwake
namespace Go.Proofs.YtignjgjoejimcaaDoor
open Go Go.RowKit

set_option maxHeartbeats 2000000 in
theorem more_walk (v : Int) (hv : 0 ≤ v ∧ v < 4294967296) (l : List UInt8) (w : World) (hT : Table w) :
    Calls Tryd.prog 4 #[.int .u32 v, .string (bst l)] w fun e w' => e = .returned (.bool true) ∧ Below w.heap.size w w' := by
  have HT := hid hT
  have hz := bst_size l
  clear hT
  obtain ⟨s, rfl⟩ := v32_of hv.1 hv.2
  clear hv
  by_cases hlen : 500 < l.length
  · go_enter Tryd.func4, Tryd.ntmps4
    go_wp2_with fail
    go_fit (awake_yes w HT.out)
    rintro e w1 ⟨rfl, hb1⟩
    go_wp2_with fail
    go_ret
    exact ⟨rfl, hb1⟩
  · have hlen2 : l.length ≤ 70368744177664 := by omega
    have HL := hid hlen2
    go_enter Tryd.func4, Tryd.ntmps4
    go_wp2_with fail
    go_fit (awake_yes w HT.out)
    rintro e w1 ⟨rfl, hb1⟩
    have HB1 := hid hb1
    clear hb1
    go_wp2_with (with_reducible refine wpList_bytes_wanted _ ?hw (.tmp 12) 9 25 5 rfl Tryd.underlying9 Tryd.underlying25 Tryd.underlying5 l rfl ?_)
    intro A2 c2 w2 hc2 hA2 hb2
    have HB2 := hid (below_step HB1.out hb2)
    have HA2 := hid hA2
    clear hb2 hA2
    go_wp2_with fail
    go_fit (more_any A2 l.length c2 _ s l w2 rfl HA2.out (Nat.le_refl _) HL.out)
    rintro e w3 ⟨rfl, hb3⟩
    have HB3 := hid (below_step HB2.out hb3)
    clear hb3
    go_wp2_with fail
    go_fit (refMore_any s l w3 HL.out)
    rintro e w4 ⟨rfl, rfl⟩
    go_wp2_with fail
    go_ret
    exact ⟨rfl, HB3.out⟩

set_option maxHeartbeats 2000000 in
theorem of_walk (l k : List UInt8) (w : World) (hT : Table w) :
    Calls Tryd.prog 3 #[.string (bst l), .string (bst k)] w fun e w' => e = .returned (.bool true) ∧ Below w.heap.size w w' := by
  have HT := hid hT
  have hz := bst_size l
  have hz2 := bst_size k
  clear hT
  by_cases hlen : 500 < l.length
  · go_enter Tryd.func3, Tryd.ntmps3
    go_wp2_with fail
    go_fit (awake_yes w HT.out)
    rintro e w1 ⟨rfl, hb1⟩
    go_wp2_with fail
    go_ret
    exact ⟨rfl, hb1⟩
  · by_cases hlen2 : 500 < k.length
    · go_enter Tryd.func3, Tryd.ntmps3
      go_wp2_with fail
      go_fit (awake_yes w HT.out)
      rintro e w1 ⟨rfl, hb1⟩
      go_wp2_with fail
      go_ret
      exact ⟨rfl, hb1⟩
    · have HL := hid (show l.length ≤ 70368744177664 by omega)
      have HL2 := hid (show k.length ≤ 70368744177664 by omega)
      have HL3 := hid (show (l ++ k).length ≤ 70368744177664 by rw [List.length_append]; omega)
      have hap := bst_append l k
      go_enter Tryd.func3, Tryd.ntmps3
      go_wp2_with fail
      go_fit (awake_yes w HT.out)
      rintro e w1 ⟨rfl, hb1⟩
      have HB1 := hid hb1
      clear hb1
      go_wp2_with (with_reducible refine wpList_bytes_wanted _ ?hw (.tmp 16) 9 25 5 rfl Tryd.underlying9 Tryd.underlying25 Tryd.underlying5 l rfl ?_)
      intro A2 c2 w2 hc2 hA2 hb2
      have HB2 := hid (below_step HB1.out hb2)
      have HA2 := hid hA2
      clear hb2 hA2 hc2
      go_wp2_with fail
      go_fit (of_any A2 l.length c2 _ l w2 rfl HA2.out (Nat.le_refl _) HL.out)
      rintro e w3 ⟨rfl, hb3⟩
      have HB3 := hid (below_step HB2.out hb3)
      clear hb3 HA2 HB2 HB1
      go_wp2_with fail
      go_fit (refOf_any l w3 HL.out)
      rintro e w4 ⟨rfl, rfl⟩
      go_wp2_with (with_reducible refine wpList_bytes_wanted _ ?hw2 (.tmp 24) 9 25 5 rfl Tryd.underlying9 Tryd.underlying25 Tryd.underlying5 l rfl ?_)
      intro A4 c4 w4 hc4 hA4 hb4
      have HB4 := hid (below_step HB3.out hb4)
      have HA4 := hid hA4
      clear hb4 hA4 hc4
      go_wp2_with fail
      go_fit (of_any A4 l.length c4 _ l w4 rfl HA4.out (Nat.le_refl _) HL.out)
      rintro e w5 ⟨rfl, hb5⟩
      have HB5 := hid (below_step HB4.out hb5)
      clear hb5 HA4 HB4
      go_wp2_with (with_reducible refine wpList_bytes_wanted _ ?hw3 (.tmp 27) 9 25 5 rfl Tryd.underlying9 Tryd.underlying25 Tryd.underlying5 k rfl ?_)
      intro A6 c6 w6 hc6 hA6 hb6
      have HB6 := hid (below_step HB5.out hb6)
      have HA6 := hid hA6
      clear hb6 hA6 hc6
      go_wp2_with fail
      go_fit (more_any A6 k.length c6 _ (more 0#32 l) k w6 rfl HA6.out (Nat.le_refl _) HL2.out)
      rintro e w7 ⟨rfl, hb7⟩
      have HB7 := hid (below_step HB6.out hb7)
      clear hb7 HA6 HB6
      go_wp2_with (with_reducible refine wpList_bytes_wanted _ ?hw4 (.tmp 32) 9 25 5 rfl Tryd.underlying9 Tryd.underlying25 Tryd.underlying5 (l ++ k) rfl ?_)
      intro A8 c8 w8 hc8 hA8 hb8
      have HB8 := hid (below_step HB7.out hb8)
      have HA8 := hid hA8
      clear hb8 hA8 hc8
      have HO := hid (of_any A8 (l.length + k.length) c8 _ (l ++ k) w8 (List.length_append).symm HA8.out (Nat.le_refl _) HL3.out)
      rw [more_append] at HO
      go_wp2_with fail
      go_fit HO.out
      rintro e w9 ⟨rfl, hb9⟩
      go_wp2_with fail
      go_ret
      exact ⟨rfl, below_step HB8.out hb9⟩

end Go.Proofs.YtignjgjoejimcaaDoor
