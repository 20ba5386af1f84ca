/-
  What the chapter's examples fix: the call that each statement makes first.
-/
import Derived.Test.YtignjgjoejimcaaDoorRefOpen
namespace Go.Proofs.YtignjgjoejimcaaDoor
open Go Go.RowKit

theorem sum_nine : more 0#32 [49, 50, 51, 52, 53, 54, 55, 56, 57] = 0xfc891918#32 := by decide +kernel
theorem sum_none : more 0#32 [] = 0#32 := by decide +kernel
theorem sum_two : more (more 0#32 [49, 50]) [51, 52, 53, 54, 55, 56, 57] = 0xfc891918#32 := by rw [← more_append]; exact sum_nine

theorem v32_nine : v32 0xfc891918#32 = 4236843288 := by decide
theorem v32_none : v32 0#32 = 0 := by decide

theorem seal_is {A : Option Addr} {m c B : Nat} {l : List UInt8} {w : World} (hm : m = l.length) (hA : At w B A l) (hB : B ≤ w.heap.size) (hl : l.length ≤ 70368744177664) (hT : Table w) :
    Calls Tryd.prog 18 #[.slice A m c] w fun e w' => ∃ A' m' c', e = .returned (.slice A' m' c') ∧ Row w' w.heap.size 5 A' m' c' (l ++ sum4 l) ∧ m' ≤ c' ∧ Below w.heap.size w w' :=
  (seal_any A m c B l w hm hA hB hl hT).mono fun _ _ ⟨A', m', c', h1, h2, h3⟩ => ⟨A', m', c', h1, h2, row_cap h2, h3⟩

theorem open_is {A : Option Addr} {m c B : Nat} {l p : List UInt8} {w : World} (hm : m = l.length) (hlp : l = p ++ sum4 p) (hc : m ≤ c) (hA : At w B A l) (hB : B ≤ w.heap.size) (hl : l.length ≤ 70368744177664) :
    Calls Tryd.prog 16 #[.slice A m c] w fun e w' => ∃ A' m' c', e = .returned (.tuple #[.slice A' m' c', .int .i64 0]) ∧ Row w' w.heap.size 5 A' m' c' p ∧ Below w.heap.size w w' := by
  have h4 := sum4_length p
  subst hm
  have hlen : l.length = p.length + 4 := by rw [hlp, List.length_append, h4]
  have h := open_good A c B p.length l w hlen.symm (by omega) hA hB hl (by rw [hlp]; simp)
  rw [hlen]
  rw [hlp] at h
  simp only [List.take_left'] at h
  exact h

set_option maxHeartbeats 2000000 in
theorem awake_yes (w : World) (hT : Table w) :
    Calls Tryd.prog 9 #[] w fun e w' => e = .returned (.bool true) ∧ Below w.heap.size w w' := by
  have HT := hid hT
  clear hT
  have k1 := Lib.run_convert_bytes_const (P := Tryd.prog) w 25 5 #[.int .u8 97, .int .u8 98] 2 2 Tryd.underlying25 Tryd.underlying5
  go_enter Tryd.func9, Tryd.ntmps9
  go_wp2_with fail
  go_fit (seal_is (l := [97, 98]) rfl (At.lits w [97, 98] 5 rfl (2, 3)) (by simp) (by simp) (HT.out.alloc _))
  rintro e w1 ⟨A1, m1, c1, rfl, hr1, hc1, hb1⟩
  have HB1 := hid (after_alloc hb1)
  have HR1 := hid hr1
  have HC1 := hid hc1
  clear hb1 hr1 hc1 k1
  go_wp2_with fail
  go_fit (open_is HR1.out.1 rfl HC1.out HR1.out.at_ (Nat.le_refl _) (by simp [sum4_length]))
  rintro e w2 ⟨A2, m2, c2, rfl, hr2, hb2⟩
  have HR2 := hid hr2
  have HB2 := hid (below_step HB1.out hb2)
  clear hr2 hb2
  have k2 := Lib.run_convert_bytes_const (P := Tryd.prog) w2 25 5 #[.int .u8 49, .int .u8 50, .int .u8 51, .int .u8 52, .int .u8 53, .int .u8 54, .int .u8 55, .int .u8 56, .int .u8 57] 9 9 Tryd.underlying25 Tryd.underlying5
  go_wp2_with fail
  have o1 := of_any (some ⟨w2.heap.size, 0, none⟩) 9 9 _ [49, 50, 51, 52, 53, 54, 55, 56, 57] _ rfl (At.lits w2 [49, 50, 51, 52, 53, 54, 55, 56, 57] 5 rfl (9, 10)) (by simp) (by simp)
  rw [sum_nine, v32_nine] at o1
  have O1 := hid o1
  clear o1
  go_fit O1.out
  rintro e w3 ⟨rfl, hb3⟩
  have HB3 := hid (after_alloc hb3)
  clear hb3 k2
  have o2 := of_any none 0 0 0 [] w3 rfl (At.nil w3 0 _) (Nat.zero_le _) (by simp)
  rw [sum_none, v32_none] at o2
  have O2 := hid o2
  clear o2
  go_wp2_with fail
  go_fit O2.out
  rintro e w4 ⟨rfl, hb4⟩
  have HB4 := hid (below_step HB3.out hb4)
  clear hb4
  have cv : (convert 25 9 (.slice A2 m2 c2)).run Tryd.prog w4 = .ok (.string (bst [97, 98])) w4 := str_of (HR2.out.at_.below HB4.out) HR2.out.1
  have hab : (bst [97, 98]).toList = [97, 98] := bst_toList _
  have k4 := Lib.run_convert_bytes_const (P := Tryd.prog) w4 25 5 #[.int .u8 49, .int .u8 50] 2 2 Tryd.underlying25 Tryd.underlying5
  have O4 := hid (of_any (some ⟨w4.heap.size, 0, none⟩) 2 2 _ [49, 50] _ rfl (At.lits w4 [49, 50] 5 rfl (2, 3)) (by simp) (by simp))
  go_wp2_with fail
  go_fit O4.out
  rintro e w5 ⟨rfl, hb5⟩
  have HB5 := hid (after_alloc hb5)
  clear hb5 k4 cv hab
  have k5 := Lib.run_convert_bytes_const (P := Tryd.prog) w5 25 5 #[.int .u8 51, .int .u8 52, .int .u8 53, .int .u8 54, .int .u8 55, .int .u8 56, .int .u8 57] 7 7 Tryd.underlying25 Tryd.underlying5
  have o5 := more_any (some ⟨w5.heap.size, 0, none⟩) 7 7 _ (more 0#32 [49, 50]) [51, 52, 53, 54, 55, 56, 57] _ rfl (At.lits w5 [51, 52, 53, 54, 55, 56, 57] 5 rfl (7, 8)) (by simp) (by simp)
  rw [sum_two, v32_nine] at o5
  have O5 := hid o5
  clear o5
  go_wp2_with fail
  go_fit O5.out
  rintro e w6 ⟨rfl, hb6⟩
  have HB6 := hid (after_alloc hb6)
  clear hb6 k5
  go_wp2_with fail
  go_ret
  exact ⟨rfl, below_step (below_step (below_step HB2.out HB4.out) HB5.out) HB6.out⟩

end Go.Proofs.YtignjgjoejimcaaDoor
