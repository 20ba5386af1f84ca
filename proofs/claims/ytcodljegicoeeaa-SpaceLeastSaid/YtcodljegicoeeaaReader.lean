/-
  A reader's calls: by their contracts.
-/
import Derived.Test.YtcodljegicoeeaaNext
import Derived.Laws.AppendOwn
namespace Go.Proofs.Ytcodljegicoeeaa
open Go Go.RowKit

set_option maxHeartbeats 1000000 in
theorem get_count (r : Nat) (most : Int) (hmost : -9223372036854775808 ≤ most ∧ most ≤ 9223372036854775807) (l : List UInt8) (w : World) (hr : Rd w r l 0) :
    Calls Try.prog 27 #[.pointer (some ⟨r, 0, none⟩), .int .i64 most] w fun e w' =>
      e = .returned (.int .i64 ((rcount most l).1 : Int)) ∧ Rd w' r (rcount most l).2.1 (rcount most l).2.2 ∧ Only r w w' := by
  have HB0 : Below w.heap.size w (w.alloc (.cells #[.pointer (some ⟨r, 0, none⟩)] 61)) := (Below.refl _ _).alloc (Nat.le_refl _) _
  have HB1 : Below w.heap.size w ((w.alloc (.cells #[.pointer (some ⟨r, 0, none⟩)] 61)).alloc (.cells #[.int .i64 most] 3)) := HB0.alloc HB0.size _
  have hs : (w.alloc (.cells #[.pointer (some ⟨r, 0, none⟩)] 61)).heap.size = w.heap.size + 1 := by simp
  have hm2 := Blk.new (w.alloc (.cells #[.pointer (some ⟨r, 0, none⟩)] 61)) 3 #[.int .i64 most]
  rw [hs] at hm2
  have H := hid (next_count r l _ w.heap.size (w.heap.size + 1) most (Blk.alloc (Blk.new w _ _) _) hm2 hmost (hr.step HB1) _ rfl)
  have HO := hid (Only.of_below (r := r) HB1)
  clear hr hmost HB0 HB1 hm2 hs
  go_enter Try.func27, Try.ntmps27
  go_wp2_with fail
  go_fit H.out
  rintro e w2 ⟨rfl, h1, h2⟩
  go_wp2_with fail
  go_ret
  exact ⟨rfl, h1, HO.out.trans h2⟩
set_option maxHeartbeats 1000000 in
theorem get_count_not (r e0 : Nat) (most : Int) (l : List UInt8) (w : World) (hr : Rd w r l e0) (he : e0 ≠ 0) :
    Calls Try.prog 27 #[.pointer (some ⟨r, 0, none⟩), .int .i64 most] w fun e w' =>
      e = .returned (.int .i64 0) ∧ Rd w' r l e0 ∧ Only r w w' := by
  have HB0 : Below w.heap.size w (w.alloc (.cells #[.pointer (some ⟨r, 0, none⟩)] 61)) := (Below.refl _ _).alloc (Nat.le_refl _) _
  have HB1 : Below w.heap.size w ((w.alloc (.cells #[.pointer (some ⟨r, 0, none⟩)] 61)).alloc (.cells #[.int .i64 most] 3)) := HB0.alloc HB0.size _
  have H := hid (next_count_not r e0 l _ w.heap.size (w.heap.size + 1) (hr.step HB1) he)
  have HO := hid (Only.of_below (r := r) HB1)
  clear hr HB0 HB1 he
  go_enter Try.func27, Try.ntmps27
  go_wp2_with fail
  go_fit H.out
  rintro e w2 ⟨rfl, h1, h2⟩
  go_wp2_with fail
  go_ret
  exact ⟨rfl, h1, HO.out.trans h2⟩

/-- what End says -/
def endOf (l : List UInt8) (e : Nat) : Nat := if e = 0 ∧ 0 < l.length then 31 else e
set_option maxHeartbeats 1000000 in
theorem end_any (r e0 : Nat) (l : List UInt8) (w : World) (hr : Rd w r l e0) :
    Calls Try.prog 28 #[.pointer (some ⟨r, 0, none⟩)] w fun e w' => e = .returned (.int .i64 (endOf l e0 : Int)) ∧ w = w' := by
  obtain ⟨A, m, c, hb, hm, hc, hl70, hA⟩ := hr.out
  have c1 := RB.c1 hb
  have c0 := RB.c0 hb
  by_cases h0 : e0 = 0
  · subst h0
    by_cases h1 : 0 < l.length
    · have e : endOf l 0 = 31 := by unfold endOf; rw [if_pos ⟨rfl, h1⟩]
      rw [e]
      have hm1 : 0 < m := by omega
      have hi : (0 : Int) < (m : Int) := by omega
      clear hr hb hm hA
      go_enter Try.func28, Try.ntmps28
      go_wp2_with fail
      go_ret
      exact ⟨rfl, rfl⟩
    · have e : endOf l 0 = 0 := by unfold endOf; rw [if_neg (by omega)]
      rw [e]
      obtain rfl : m = 0 := by omega
      clear hr hb hm hA
      go_enter Try.func28, Try.ntmps28
      go_wp2_with fail
      go_ret
      exact ⟨rfl, rfl⟩
  · have e : endOf l e0 = e0 := by unfold endOf; rw [if_neg (by omega)]
    rw [e]
    have hE : ((e0 : Int) == 0) = false := by simpa using h0
    clear hr hb hm hA h0
    go_enter Try.func28, Try.ntmps28
    go_wp2_with fail
    go_ret
    exact ⟨rfl, rfl⟩

end Go.Proofs.Ytcodljegicoeeaa
