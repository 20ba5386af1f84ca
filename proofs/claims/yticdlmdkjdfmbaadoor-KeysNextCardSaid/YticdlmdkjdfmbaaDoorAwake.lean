/-
  What the chapter's examples fix: the call that each statement makes first.
-/
import Derived.Test.YticdlmdkjdfmbaaDoorKFirst
import Derived.Test.YticdlmdkjdfmbaaDoorKGet
import Derived.Test.YticdlmdkjdfmbaaDoorEnd
import Derived.Deep.DeepFit
namespace Go.Proofs.YticdlmdkjdfmbaaDoor
open Go Go.RowKit

theorem kp_a : kput [97] 1 = [97, 0, 1, 255, 255, 255, 255, 255, 255, 255, 254] := by decide +kernel
theorem kp_b : kput [0] 18446744073709551615 = [0, 255, 0, 1, 0, 0, 0, 0, 0, 0, 0, 0] := by decide +kernel
theorem kg_no : kget [0, 2] = none := by decide +kernel
theorem kg_a : kget [97, 0, 1, 255, 255, 255, 255, 255, 255, 255, 254] = some ([97], 1) := by rw [← kp_a]; exact kget_kput (by decide) (by decide)

theorem get_no {A : Option Addr} {m c B : Nat} {b : List UInt8} {w : World} (hk : kget b = none) (hA : At w B A b) (hm : m = b.length) (hc : m ≤ c) (hB : B ≤ w.heap.size) (hl : m ≤ 70368744177664) :
    Calls Tryd.prog 15 #[.slice A m c] w fun e w' => e = .returned (.tuple #[.string (bst []), .int .u64 0, .int .i64 40]) ∧ Below w.heap.size w w' := by
  have h := kget_any hA hm hc hB hl
  rw [hk] at h
  exact h
theorem get_yes {A : Option Addr} {m c B : Nat} {b k : List UInt8} {t : Nat} {w : World} (hk : kget b = some (k, t)) (hA : At w B A b) (hm : m = b.length) (hc : m ≤ c) (hB : B ≤ w.heap.size) (hl : m ≤ 70368744177664) :
    Calls Tryd.prog 15 #[.slice A m c] w fun e w' => e = .returned (.tuple #[.string (bst k), .int .u64 (t : Int), .int .i64 0]) ∧ Below w.heap.size w w' := by
  have h := kget_any hA hm hc hB hl
  rw [hk] at h
  exact h
theorem end_yes {p e : List UInt8} {w : World} (h : endL p = some e) (hp : p.length ≤ 70368744177664) :
    Calls Tryd.prog 18 #[.string (bst p)] w fun r w' => r = .returned (.tuple #[.string (bst e), .bool true]) ∧ Below w.heap.size w w' := by
  have h1 := end_any p w hp
  rw [h] at h1
  exact h1
theorem end_no {p : List UInt8} {w : World} (h : endL p = none) (hp : p.length ≤ 70368744177664) :
    Calls Tryd.prog 18 #[.string (bst p)] w fun r w' => r = .returned (.tuple #[.string (bst []), .bool false]) ∧ Below w.heap.size w w' := by
  have h1 := end_any p w hp
  rw [h] at h1
  exact h1

set_option maxHeartbeats 2000000 in
theorem awake_yes (w : World) (hT : Table w) :
    Calls Tryd.prog 11 #[] w fun e w' => e = .returned (.bool true) ∧ Below w.heap.size w w' := by
  have HT := hid hT
  have htl1 := bst_toList [97]
  have htl2 := bst_toList [98]
  have htl3 := bst_toList [97, 0]
  clear hT
  go_enter Tryd.func11, Tryd.ntmps11
  go_wp2_with fail
  go_fit (kput_any [97] 1 w (by decide) (by decide) HT.out)
  rw [kp_a]
  rintro e w1 ⟨A1, m1, c1, rfl, hr1, hb1⟩
  have HR1 := hid hr1
  have HB1 := hid hb1
  have HT1 := hid (HT.out.step hb1)
  clear hr1 hb1
  go_wp2_with fail
  go_fit (kput_any [0] 18446744073709551615 w1 (by decide) (by decide) HT1.out)
  rw [kp_b]
  rintro e w2 ⟨A2, m2, c2, rfl, hr2, hb2⟩
  have HR2 := hid hr2
  have HR1 := hid (HR1.out.below hb2)
  have HB2 := hid (below_step HB1.out hb2)
  clear hr2 hb2
  have hal : Below w2.heap.size w2 (w2.alloc (.cells #[.int .u8 0, .int .u8 2] 5)) := (Below.refl _ _).alloc (Nat.le_refl _) _
  have HAL := hid hal
  clear hal
  go_wp2_with fail
  go_fit (get_no (m := 2) (c := 2) kg_no (At.lits w2 [0, 2] 5 rfl) rfl (Nat.le_refl _) (by simp) (by decide))
  rintro e w3 ⟨rfl, hb3⟩
  have hb23 := after_alloc hb3
  have HR2 := hid (HR2.out.below hb23)
  have HR1 := hid (HR1.out.below hb23)
  have HB3 := hid (below_step HB2.out hb23)
  clear hb3 hb23 HAL
  go_wp2_with fail
  go_fit (get_yes kg_a HR1.out.at_ HR1.out.1 (row_cap HR1.out) (Nat.le_refl _) (by rw [HR1.out.1]; decide))
  rintro e w4 ⟨rfl, hb4⟩
  have HR2 := hid (HR2.out.below hb4)
  have HR1 := hid (HR1.out.below hb4)
  have HB4 := hid (below_step HB3.out hb4)
  clear hb4
  go_wp2_with fail
  go_fit (end_yes (p := [97, 255]) (e := [98]) (by decide) (by decide))
  rintro e w5 ⟨rfl, hb5⟩
  have HR2 := hid (HR2.out.below hb5)
  have HR1 := hid (HR1.out.below hb5)
  have HB5 := hid (below_step HB4.out hb5)
  clear hb5
  go_wp2_with fail
  go_fit (end_no (p := [255]) (by decide) (by decide))
  rintro e w6 ⟨rfl, hb6⟩
  have HR2 := hid (HR2.out.below hb6)
  have HR1 := hid (HR1.out.below hb6)
  have HB6 := hid (below_step HB5.out hb6)
  clear hb6
  have cv1 : (convert 24 9 (.slice A1 m1 c1)).run Tryd.prog w6 = .ok (.string ⟨#[97, 0, 1, 255, 255, 255, 255, 255, 255, 255, 254]⟩) w6 := str_of HR1.out.at_ HR1.out.1
  have cv2 : (convert 24 9 (.slice A2 m2 c2)).run Tryd.prog w6 = .ok (.string ⟨#[0, 255, 0, 1, 0, 0, 0, 0, 0, 0, 0, 0]⟩) w6 := str_of HR2.out.at_ HR2.out.1
  go_wp2_with fail
  go_fit (next_any [97] w6 (by decide))
  rintro e w7 ⟨rfl, rfl⟩
  go_wp2_with fail
  go_ret
  exact ⟨rfl, HB6.out⟩

end Go.Proofs.YticdlmdkjdfmbaaDoor
