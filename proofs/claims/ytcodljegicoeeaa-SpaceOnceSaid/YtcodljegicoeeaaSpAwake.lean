/-
  What the chapter's example fixes: the call that each statement makes first.
-/
import Derived.Test.YtcodljegicoeeaaSpAlike
namespace Go.Proofs.Ytcodljegicoeeaa
open Go Go.RowKit

theorem ex1 : takeB (List.replicate 5 false) = ([true, false, false, false, false], 0, 0) := by decide
theorem ex2 : turnB [true, false, false, false, false] 3 true = ([true, false, false, true, false], 0) := by decide
theorem ex3 : takeB [true, false, false, true, false] = ([true, true, false, true, false], 1, 0) := by decide
theorem ex4 : sbytes [true, true, false, true, false] = [5, 0, 2, 1, 1, 1] := by decide
theorem ex5 : turnB [true, true, false, true, false] 0 false = ([false, true, false, true, false], 0) := by decide
theorem ex6 : takeB [false, true, false, true, false] = ([true, true, false, true, false], 0, 0) := by decide
theorem ex7 : leftB [true, true, false, true, false] = 2 := by decide
theorem ex8 : hasB [true, true, false, true, false] 3 = true := by decide

def AwakeS (w : World) : Prop := Calls Try.prog 10 #[] w fun e w' => e = .returned (.bool true) ∧ Below w.heap.size w w'
set_option maxHeartbeats 4000000 in
set_option maxRecDepth 100000 in
theorem awake_yes (w : World) : AwakeS w := by
  unfold AwakeS
  have HN := hid (new_yes (n := 5) (w := w) (by decide) (by decide))
  go_enter Try.func10, Try.ntmps10
  go_wp2_with fail
  go_fit HN.out
  rintro e w1 ⟨rfl, hs1, hb1⟩
  have HB1 := hid hb1
  have H1 := hid hs1
  have HT1 := hid (take_any hs1)
  rw [ex1] at HT1
  generalize hp : w.heap.size = p at H1 HT1
  have HP := hid hp
  clear hb1 hs1 HN
  go_wp2_with fail
  go_fit HT1.out
  rintro e w2 ⟨rfl, hs2, ho2⟩
  have HB2 := hid (HB1.out.grown ho2 HB1.out.size (fun k hk => by injection hk with hk; have := HP.out; omega))
  have HC2 := hid (claim_any hs2 3)
  rw [ex2] at HC2
  clear ho2 hs2 HT1 H1
  go_wp2_with fail
  go_fit HC2.out
  rintro e w3 ⟨rfl, hs3, ho3⟩
  have HB3 := hid (HB2.out.grown ho3 HB2.out.size (fun k hk => by injection hk with hk; have := HP.out; omega))
  have HT3 := hid (take_any hs3)
  rw [ex3] at HT3
  clear ho3 hs3 HC2
  go_wp2_with fail
  go_fit HT3.out
  rintro e w4 ⟨rfl, hs4, ho4⟩
  have HB4 := hid (HB3.out.grown ho4 HB3.out.size (fun k hk => by injection hk with hk; have := HP.out; omega))
  have H4 := hid hs4
  have HY4 := hid (sbytes_any hs4)
  rw [ex4] at HY4
  clear ho4 hs4 HT3
  go_wp2_with fail
  go_fit HY4.out
  rintro e w5 ⟨A5, m5, c5, rfl, hr5, hb5⟩
  have HB5 := hid (below_step HB4.out hb5)
  have hcv := str_of (c := c5) hr5.at_ hr5.1
  have t8 := bst_toList [5, 0, 2, 1, 1, 1]
  have HF5 := hid (free_any (H4.out.step hb5) 0)
  rw [ex5] at HF5
  clear hr5 hb5 H4 HY4
  go_wp2_with fail
  go_fit HF5.out
  rintro e w6 ⟨rfl, hs6, ho6⟩
  have HB6 := hid (HB5.out.grown ho6 HB5.out.size (fun k hk => by injection hk with hk; have := HP.out; omega))
  have HT6 := hid (take_any hs6)
  rw [ex6] at HT6
  clear ho6 hs6 HF5
  go_wp2_with fail
  go_fit HT6.out
  rintro e w7 ⟨rfl, hs7, ho7⟩
  have HB7 := hid (HB6.out.grown ho7 HB6.out.size (fun k hk => by injection hk with hk; have := HP.out; omega))
  have H7 := hid hs7
  have HL7 := hid (left_any hs7)
  rw [ex7] at HL7
  clear ho7 hs7 HT6
  go_wp2_with fail
  go_fit HL7.out
  rintro e w8 ⟨rfl, hb8⟩
  have HB8 := hid (below_step HB7.out hb8)
  have HH8 := hid (has_any (H7.out.step hb8) 3)
  rw [ex8] at HH8
  clear hb8
  go_wp2_with fail
  go_fit HH8.out
  rintro e w9 ⟨rfl, rfl⟩
  go_wp2_with fail
  go_ret
  exact ⟨rfl, HB8.out⟩

end Go.Proofs.Ytcodljegicoeeaa
