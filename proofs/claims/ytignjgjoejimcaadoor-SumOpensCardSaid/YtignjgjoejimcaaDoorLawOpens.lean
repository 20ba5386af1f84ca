/-
  SumOpens: its walk.
-/
import Derived.Test.YtignjgjoejimcaaDoorAwake
namespace Go.Proofs.YtignjgjoejimcaaDoor
open Go Go.RowKit

set_option maxHeartbeats 2000000 in
theorem opens_walk (l : List UInt8) (w : World) (hT : Table w) :
    Calls Tryd.prog 6 #[.string (bst l)] w fun e w' => e = .returned (.bool true) ∧ Below w.heap.size w w' := by
  have HT := hid hT
  have hz := bst_size l
  clear hT
  by_cases hlen : 500 < l.length
  · go_enter Tryd.func6, Tryd.ntmps6
    go_wp2_with fail
    go_fit (awake_yes w HT.out)
    rintro e w1 ⟨rfl, hb1⟩
    go_wp2_with fail
    go_ret
    exact ⟨rfl, hb1⟩
  · have HL := hid (show l.length ≤ 70368744177664 by omega)
    go_enter Tryd.func6, Tryd.ntmps6
    go_wp2_with (with_reducible refine wpList_bytes_of _ rfl (.tmp 12) 9 25 5 rfl Tryd.underlying9 Tryd.underlying25 Tryd.underlying5 l rfl ?_)
    intro A1 c1 w1 hc1 hA1 hb1
    have HB1 := hid hb1
    have HA1 := hid hA1
    have HT1 := hid (HT.out.step hb1)
    clear hb1 hA1
    have hnil := bst_toList []
    by_cases h4 : l.length < 4
    · have HC := hid (open_short A1 l.length c1 w1 h4)
      go_wp2_with fail
      go_fit HC.out
      rintro e w2 ⟨rfl, rfl⟩
      go_wp2_with fail
      go_fit (refOpen_short l w1 h4)
      rintro e w2 ⟨rfl, rfl⟩
      go_wp2_with fail
      go_fit (awake_yes w1 HT1.out)
      rintro e w2 ⟨rfl, hb2⟩
      have cv := fun c => str_of (c := c) (At.nil w2 0 none) (rfl : 0 = ([] : List UInt8).length)
      go_wp2_with fail
      go_ret
      exact ⟨rfl, below_step HB1.out hb2⟩
    · obtain ⟨n, hn⟩ : ∃ n, n + 4 = l.length := ⟨l.length - 4, by omega⟩
      have HN := hid hn
      by_cases hok : l.drop n = sum4 (l.take n)
      · have HC := hid (open_good A1 c1 _ n l w1 hn (by omega) HA1.out (Nat.le_refl _) HL.out hok)
        rw [hn] at HC
        have HR := fun w => hid (refOpen_good l n w hn HL.out hok)
        have htl := bst_toList (l.take n)
        obtain ⟨p, hp⟩ : ∃ p, p = l.take n := ⟨_, rfl⟩
        rw [← hp] at HC HR htl
        clear hok hn hp
        go_wp2_with fail
        go_fit HC.out
        rintro e w2 ⟨A2, m2, c2, rfl, hr2, hb2⟩
        have HR2 := hid hr2
        have HB2 := hid hb2
        have HT2 := hid (HT1.out.step hb2)
        clear hb2 hr2
        go_wp2_with fail
        go_fit ((HR w2).out)
        rintro e w3 ⟨rfl, hb3⟩
        have HB3 := hid hb3
        have HT3 := hid (HT2.out.step hb3)
        clear hb3
        go_wp2_with fail
        go_fit (awake_yes w3 HT3.out)
        rintro e w4 ⟨rfl, hb4⟩
        have cv := str_of (c := c2) ((HR2.out.at_.below HB3.out).below (hb4.mono HB3.out.size)) HR2.out.1
        go_wp2_with fail
        go_ret
        exact ⟨rfl, below_step (below_step (below_step HB1.out HB2.out) HB3.out) hb4⟩
      · have HC := hid (open_wrong A1 c1 _ n l w1 hn (by omega) HA1.out (Nat.le_refl _) HL.out hok)
        rw [hn] at HC
        have HR := fun w => hid (refOpen_wrong l n w hn HL.out hok)
        clear hok hn
        go_wp2_with fail
        go_fit HC.out
        rintro e w2 ⟨rfl, hb2⟩
        have HB2 := hid hb2
        have HT2 := hid (HT1.out.step hb2)
        clear hb2
        go_wp2_with fail
        go_fit ((HR w2).out)
        rintro e w3 ⟨rfl, hb3⟩
        have HB3 := hid hb3
        have HT3 := hid (HT2.out.step hb3)
        clear hb3
        go_wp2_with fail
        go_fit (awake_yes w3 HT3.out)
        rintro e w4 ⟨rfl, hb4⟩
        have cv := fun c => str_of (c := c) (At.nil w4 0 none) (rfl : 0 = ([] : List UInt8).length)
        go_wp2_with fail
        go_ret
        exact ⟨rfl, below_step (below_step (below_step HB1.out HB2.out) HB3.out) hb4⟩

end Go.Proofs.YtignjgjoejimcaaDoor
