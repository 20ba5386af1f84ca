/-
  What the chapter's example fixes: the call that each statement makes first.
-/
import Derived.Test.YtamieogikmnpcaaWCalls
namespace Go.Proofs.Ytamieogikmnpcaa
open Go Go.RowKit

theorem vb_300 : [] ++ vbytes 300 = [172, 2] := by decide
theorem vb_ab : [172, 2] ++ (vbytes ([97, 98] : List UInt8).length ++ [97, 98]) = [172, 2, 2, 97, 98] := by decide
theorem vb_all : [172, 2, 2, 97, 98] ++ [if true then 1 else 0] = ([172, 2, 2, 97, 98, 1] : List UInt8) := by decide
theorem rn_a : rnum [172, 2, 2, 97, 98, 1] = (300, [2, 97, 98, 1], 0) := by decide
theorem rt_a : rtext [2, 97, 98, 1] = ([97, 98], [1], 0) := by decide
theorem rf_a : rflag [1] = (true, [], 0) := by decide

set_option maxHeartbeats 2000000 in
theorem awake_yes (w : World) :
    Calls Try.prog 9 #[] w fun e w' => e = .returned (.bool true) ∧ Below w.heap.size w w' := by
  have htl := bst_toList [97, 98]
  go_enter Try.func9, Try.ntmps9
  go_wp2_with fail
  go_fit (write_any w)
  rintro e w1 ⟨rfl, hw1, hb1⟩
  have HW1 := hid hw1
  have HB1 := hid hb1
  have hA1 := hid (show Below w1.heap.size w1 (w1.alloc (.cells #[.int .u64 300] 26)) from (Below.refl _ _).alloc (Nat.le_refl _) _)
  clear hw1 hb1
  go_wp2_with fail
  go_fit (wnum_any (v := 300) (HW1.out.step hA1.out) (by decide) (one_new _ _ _) (by decide))
  rintro e w2 ⟨rfl, hw2, hb2⟩
  rw [vb_300] at hw2
  have HW2 := hid hw2
  have HB2 := hid (HB1.out.trans ((hA1.out.mono HB1.out.size).trans hb2.below))
  have hA2 := hid (show Below w2.heap.size w2 (w2.alloc (.cells #[.string (bst [97, 98])] 9)) from (Below.refl _ _).alloc (Nat.le_refl _) _)
  clear hw2 hb2
  go_wp2_with fail
  go_fit (wtext_any (s := [97, 98]) (HW2.out.step hA2.out) (by decide) (one_new _ _ _) (by decide))
  rintro e w3 ⟨rfl, hw3, hb3⟩
  rw [vb_ab] at hw3
  have HW3 := hid hw3
  have HB3 := hid (HB2.out.trans ((hA2.out.mono HB2.out.size).trans hb3.below))
  clear hw3 hb3
  go_wp2_with fail
  go_fit (wflag_any (y := true) HW3.out (by decide))
  rintro e w4 ⟨rfl, hw4, hb4⟩
  rw [vb_all] at hw4
  have HW4 := hid hw4
  have HB4 := hid (HB3.out.trans hb4.below)
  clear hw4 hb4
  go_wp2_with fail
  go_fit (bytes_any HW4.out (by decide))
  rintro e w5 ⟨A5, m5, c5, rfl, hr5, hb5⟩
  have HR5 := hid hr5
  have HB5 := hid (below_step HB4.out hb5)
  clear hr5 hb5
  go_wp2_with fail
  go_fit (read_any HR5.out.at_ HR5.out.1 (Nat.le_refl _) (by decide))
  rintro e w6 ⟨r, rfl, hr6, hle6, hb6⟩
  have cv : (convert 30 9 (.slice A5 m5 c5)).run Try.prog w6 = .ok (.string ⟨#[172, 2, 2, 97, 98, 1]⟩) w6 := str_of (HR5.out.at_.below hb6) HR5.out.1
  have HR6 := hid hr6
  have HB6 := hid (below_step HB5.out hb6)
  have HL6 := hid (Nat.le_trans HB5.out.size hle6)
  clear hr6 hb6 hle6
  go_wp2_with fail
  go_fit (get_num r _ w6 HR6.out)
  rw [rn_a]
  rintro e w7 ⟨rfl, hr7, ho7⟩
  have HR7 := hid hr7
  have HB7 := hid (HB6.out.trans (ho7.below HL6.out HB6.out.size))
  clear hr7 ho7 cv
  go_wp2_with fail
  go_fit (get_text r _ w7 HR7.out)
  rw [rt_a]
  rintro e w8 ⟨rfl, hr8, ho8⟩
  have HR8 := hid hr8
  have HB8 := hid (HB7.out.trans (ho8.below HL6.out HB7.out.size))
  clear hr8 ho8
  go_wp2_with fail
  go_fit (end_any r _ _ w8 HR8.out)
  rintro e w9 ⟨rfl, rfl⟩
  go_wp2_with fail
  go_fit (get_flag r _ w8 HR8.out)
  rw [rf_a]
  rintro e w10 ⟨rfl, hr10, ho10⟩
  have HR10 := hid hr10
  have HB10 := hid (HB8.out.trans (ho10.below HL6.out HB8.out.size))
  clear hr10 ho10
  go_wp2_with fail
  go_fit (end_any r _ _ w10 HR10.out)
  rintro e w11 ⟨rfl, rfl⟩
  go_wp2_with fail
  go_ret
  exact ⟨rfl, HB10.out⟩

end Go.Proofs.Ytamieogikmnpcaa
