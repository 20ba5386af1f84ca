/-
  RecordScans: its walk, over what is to be shown of the landed code.
-/
import Derived.Test.YtlcnjkonlnfnfaaDoorRAwake
namespace Go.Proofs.YtlcnjkonlnfnfaaDoor
open Go Go.RowKit

theorem rscan_few : ∀ {n : Nat} {l : List UInt8} {q : Nat}, l.length ≤ n → (rscan l q).1.length ≤ l.length
  | n, l, q, hn => by
    rw [rscan_eq]
    cases hg : rget l with
    | none => exact Nat.zero_le _
    | some x =>
      obtain ⟨p, b, k⟩ := x
      have hk := rget_len hg
      dsimp only
      split
      · have hd : (l.drop k).length = l.length - k := List.length_drop
        have := rscan_few (n := n - k) (l := l.drop k) (q := next64 q) (by omega)
        rw [List.length_cons]
        omega
      · exact Nat.zero_le _
  termination_by n => n
  decreasing_by omega

set_option maxHeartbeats 4000000 in
set_option maxRecDepth 100000 in
theorem rscans_walk (hF : RFace) (l : List UInt8) (q : Nat) (w : World) (hq : q < 18446744073709551616) (hT : Table w) :
    Calls Tryd.prog 5 #[.string (bst l), .int .u64 (q : Int)] w fun e w' => e = .returned (.bool true) ∧ Below w.heap.size w w' := by
  have HF := hid hF
  have HAW := hid (rawake_yes hF)
  have HT := hid hT
  have HQ := hid hq
  have z1 := bst_size l
  clear hF hT hq
  by_cases hk : 1000 < l.length
  · go_enter Tryd.func5, Tryd.ntmps5
    go_wp2_with fail
    go_fit (HAW.out w HT.out)
    rintro e w1 ⟨rfl, hb1⟩
    go_wp2_with fail
    go_ret
    exact ⟨rfl, hb1⟩
  have HK := hid (show l.length ≤ 1000 by omega)
  have HL := hid (rscan_few (n := l.length) (l := l) (q := q) (Nat.le_refl _))
  go_enter Tryd.func5, Tryd.ntmps5
  go_wp2_with (with_reducible refine wpList_bytes_of _ rfl (.tmp 14) 9 26 5 rfl Tryd.underlying9 Tryd.underlying26 Tryd.underlying5 l rfl ?_; intro A c0 w1 hc0 hA hb1)
  go_fit (HF.out.scan (q := q) hA rfl hc0 (Nat.le_refl _) (by have := HK.out; omega) HQ.out (HT.out.step hb1))
  rintro e w2 ⟨A2, m2, c2, rfl, hr2, hm2, hc2, hb2⟩
  have HB2 := hid (below_step hb1 hb2)
  have HX2 := hid hr2
  have HM2 := hid hm2
  clear hb2 hb1 hA hc0 hr2 hm2
  go_wp2_with fail
  go_fit (refRScan_any l q w2 (by have := HK.out; omega) HQ.out)
  rintro e w3 ⟨A3, m3, c3, rfl, hr3, hb3⟩
  have HB3 := hid (below_step HB2.out hb3)
  have HX2 := hid ((HX2.out.below hb3).more hb3.size)
  have HX3 := hid hr3.at_
  have HM3 := hid hr3.1
  clear hb3 hr3
  go_wp2_with fail
  go_fit (HAW.out w3 (HT.out.step HB3.out))
  rintro e w4 ⟨rfl, hb4⟩
  have HX2 := hid (HX2.out.below hb4)
  have HX3 := hid (HX3.out.below hb4)
  have HB4 := hid (below_step HB3.out hb4)
  have HZ4 := hid hb4.size
  clear hb4
  go_wp2_with fail
  go_fit (refRSame_any HX2.out HX3.out HM2.out HM3.out HZ4.out (by have := HM2.out; have := HL.out; have := HK.out; omega))
  rintro e w5 ⟨rfl, hb5⟩
  rw [decide_eq_true rfl]
  have HB5 := hid (below_step HB4.out hb5)
  clear hb5
  go_wp2_with fail
  go_ret
  exact ⟨rfl, HB5.out⟩

theorem rscans_int (hF : RFace) (l : List UInt8) (q : Int) (w : World) (hq : 0 ≤ q ∧ q < 18446744073709551616) (hT : Table w) :
    Calls Tryd.prog 5 #[.string (bst l), .int .u64 q] w fun e w' => e = .returned (.bool true) ∧ Below w.heap.size w w' := by
  obtain ⟨n, rfl⟩ := Int.eq_ofNat_of_zero_le hq.1
  exact rscans_walk hF l n w (by omega) hT

end Go.Proofs.YtlcnjkonlnfnfaaDoor
