/-
  record.whole: how long the encoding is that bytes begin with, by its head.
-/
import Derived.Test.YtlcnjkonlnfnfaaDoorJBytes
import Derived.Test.YtlcnjkonlnfnfaaDoorJNum
import Derived.Lib.MinMax
namespace Go.Proofs.YtlcnjkonlnfnfaaDoor
open Go Go.RowKit

set_option maxHeartbeats 4000000 in
set_option maxRecDepth 100000 in
theorem whole_short {A : Option Addr} {m c : Nat} {w : World} (h : m < 4) :
    Calls Tryd.prog 28 #[.slice A m c] w fun e w' => e = .returned (.int .i64 0) ∧ w = w' := by
  go_enter Tryd.func28, Tryd.ntmps28
  go_wp2_with fail
  go_ret
  exact ⟨rfl, rfl⟩

set_option maxHeartbeats 4000000 in
set_option maxRecDepth 100000 in
theorem whole_is {A : Option Addr} {m c B N : Nat} {l : List UInt8} {w : World} (hA : At w B A l) (hm : m = l.length) (hc : m ≤ c) (hB : B ≤ w.heap.size) (hl : l.length ≤ 5000) (h4 : 4 ≤ m) (hN : ofBe (l.take 4) = N) (hlt : N < 4294967296) {n : Nat} (hn : n = 4 + N) :
    Calls Tryd.prog 28 #[.slice A m c] w fun e w' => e = .returned (.int .i64 (if m < n then 0 else (n : Int))) ∧ Below w.heap.size w w' := by
  subst hn
  have hl4 : (l.take 4).length = 4 := by rw [List.length_take]; omega
  have HG := hid (get_is (A := A) (c := c) (m := 4) (n := 4) (N := 4) hl4.symm rfl (hA.take 4) hB (by omega) (by omega) (by decide) (by decide) (by omega))
  rw [List.take_of_length_le (Nat.le_of_eq hl4), hN] at HG
  have hwi : IntKind.i64.wrap (N : Int) = (N : Int) := by rw [IntKind.wrap_i64]; omega
  have hwa : IntKind.i64.wrap (4 + (N : Int)) = ((4 + N : Nat) : Int) := by rw [IntKind.wrap_i64]; omega
  have hm5 : m ≤ 5000 := by omega
  have hmin : min (m : Int) 32789 = (m : Int) := by omega
  clear hA hN hm
  by_cases h : m < 4 + N
  · rw [if_pos h]
    have hgt : decide (((4 + N : Nat) : Int) > (m : Int)) = true := by simp; omega
    go_enter Tryd.func28, Tryd.ntmps28
    go_wp2_with fail
    go_fit HG.out
    rintro e w2 ⟨A2, m2, c2, rfl, hr2, hb2⟩
    have HB := hid hb2
    clear hr2 hb2
    go_wp2_with fail
    go_ret
    exact ⟨rfl, HB.out⟩
  · rw [if_neg h]
    have hgt : decide (((4 + N : Nat) : Int) > (m : Int)) = false := by simp; omega
    go_enter Tryd.func28, Tryd.ntmps28
    go_wp2_with fail
    go_fit HG.out
    rintro e w2 ⟨A2, m2, c2, rfl, hr2, hb2⟩
    have HB := hid hb2
    clear hr2 hb2
    go_wp2_with fail
    go_ret
    exact ⟨rfl, HB.out⟩

end Go.Proofs.YtlcnjkonlnfnfaaDoor
