/-
  RecordPuts: its walk, over what is to be shown of the landed code.
-/
import Derived.Test.YtlcnjkonlnfnfaaDoorRAwake
namespace Go.Proofs.YtlcnjkonlnfnfaaDoor
open Go Go.RowKit

theorem rput_ne (q : Nat) (b : List UInt8) : renc q b ≠ [] := fun h => by have := renc_pos q b; rw [h] at this; simp at this

set_option maxHeartbeats 8000000 in
set_option maxRecDepth 100000 in
theorem rputs_walk (hF : RFace) (q : Nat) (b : List UInt8) (w : World) (hq : q < 18446744073709551616) (hT : Table w) :
    Calls Tryd.prog 3 #[.agg #[.int .u64 (q : Int), .string (bst b)]] w fun e w' => e = .returned (.bool true) ∧ Below w.heap.size w w' := by
  have HF := hid hF
  have HAW := hid (rawake_yes hF)
  have HT := hid hT
  have HQ := hid hq
  have z := bst_size b
  have hb1 : Below w.heap.size w (w.alloc (.cells #[.int .u64 (q : Int), .string (bst b)] 24)) := (Below.refl _ _).alloc (Nat.le_refl _) _
  have HB1 := hid hb1
  have HX1 := hid (Blk.new w 24 #[.int .u64 (q : Int), .string (bst b)])
  clear hF hT hq hb1
  by_cases h4 : 40000 < b.length
  · go_enter Tryd.func3, Tryd.ntmps3
    go_wp2_with fail
    go_fit (HAW.out _ (HT.out.step HB1.out))
    rintro e w2 ⟨rfl, hb2⟩
    have HB2 := hid (below_step HB1.out hb2)
    clear hb2
    go_wp2_with fail
    go_ret
    exact ⟨rfl, HB2.out⟩
  by_cases h3 : 32768 < b.length
  · have HPN := hid (fun (W : World) => HF.out.putNo (q := (q : Int)) (b := b) (w := W) h3 (by omega))
    have HRN := hid (fun (W : World) => refRPut_no (q : Int) b W h3)
    clear h3
    go_enter Tryd.func3, Tryd.ntmps3
    go_wp2_with fail
    generalize w.alloc (.cells #[.int .u64 (q : Int), .string (bst b)] 24) = w1 at *
    go_fit (HPN.out _)
    rintro e w2 ⟨A, c, rfl, hb2⟩
    have HB2 := hid (HB1.out.trans (hb2.mono HB1.out.size))
    have HX2 := hid (HX1.out.below hb2 HX1.out.lt)
    have x0 := HX2.out.cell 0
    have x1 := HX2.out.cell 1
    clear hb2
    go_wp2_with fail
    go_fit (HRN.out _)
    rintro e w3 ⟨rfl, hb3⟩
    have HB3 := hid (HB2.out.trans (hb3.mono HB2.out.size))
    clear hb3
    go_wp2_with fail
    go_fit (HAW.out _ (HT.out.step HB3.out))
    rintro e w4 ⟨rfl, hb4⟩
    have HB4 := hid (below_step HB3.out hb4)
    have hcv := str_of (w := w4) (B := 0) (A := A) (m := 0) (c := c) (l := []) (At.nil _ _ _) rfl
    have hem : (bst []).toList.isEmpty = true := by rw [bst_toList]; rfl
    clear hb4
    go_wp2_with fail
    go_ret
    exact ⟨rfl, HB4.out⟩
  · have HPY := hid (fun (W : World) (hW : Table W) => HF.out.putYes (q := q) (b := b) (w := W) HQ.out (by omega) hW)
    have HRY := hid (fun (W : World) => refRPut_yes q b W HQ.out (by omega))
    have HZY := hid (fun (W : World) (hW : Table W) => HF.out.size (q := q) (b := b) (w := W) HQ.out (by omega) hW)
    have zr := bst_size (renc q b)
    have ztl := bst_toList (renc q b)
    go_enter Tryd.func3, Tryd.ntmps3
    go_wp2_with fail
    generalize w.alloc (.cells #[.int .u64 (q : Int), .string (bst b)] 24) = w1 at *
    go_fit (HPY.out _ (HT.out.step HB1.out))
    rintro e w2 ⟨A, m, c, rfl, hr2, hb2⟩
    have HR2 := hid hr2
    have HB2 := hid (HB1.out.trans (hb2.mono HB1.out.size))
    have HX2 := hid (HX1.out.below hb2 HX1.out.lt)
    have x0 := HX2.out.cell 0
    have x1 := HX2.out.cell 1
    clear hb2 hr2
    go_wp2_with fail
    go_fit (HRY.out _)
    rintro e w3 ⟨rfl, hb3⟩
    have HR3 := hid (HR2.out.below hb3)
    have HX3 := hid (HX2.out.below hb3 HX2.out.lt)
    have HB3 := hid (HB2.out.trans (hb3.mono HB2.out.size))
    clear hb3 x0 x1
    go_wp2_with fail
    go_fit (HAW.out _ (HT.out.step HB3.out))
    rintro e w4 ⟨rfl, hb4⟩
    have HB4 := hid (below_step HB3.out hb4)
    have HX4 := hid (HX3.out.below (hb4.mono (Nat.le_refl _)) HX3.out.lt)
    have x0 := HX4.out.cell 0
    have x1 := HX4.out.cell 1
    have hcv := str_of (c := c) (HR3.out.at_.below hb4) HR3.out.1
    clear hb4
    go_wp2_with fail
    go_fit (HZY.out _ (HT.out.step HB4.out))
    rintro e w5 ⟨rfl, hb5⟩
    have HB5 := hid (below_step HB4.out hb5)
    clear hb5
    go_wp2_with fail
    go_ret
    exact ⟨rfl, HB5.out⟩

theorem rputs_int (hF : RFace) (q : Int) (b : List UInt8) (w : World) (hq : 0 ≤ q ∧ q < 18446744073709551616) (hT : Table w) :
    Calls Tryd.prog 3 #[.agg #[.int .u64 q, .string (bst b)]] w fun e w' => e = .returned (.bool true) ∧ Below w.heap.size w w' := by
  obtain ⟨n, rfl⟩ := Int.eq_ofNat_of_zero_le hq.1
  exact rputs_walk hF n b w (by omega) hT

end Go.Proofs.YtlcnjkonlnfnfaaDoor
