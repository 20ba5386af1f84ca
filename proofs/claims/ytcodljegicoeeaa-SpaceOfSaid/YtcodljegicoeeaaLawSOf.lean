/-
  SpaceOf: its walk.
-/
import Derived.Test.YtcodljegicoeeaaLawSPlays
namespace Go.Proofs.Ytcodljegicoeeaa
open Go Go.RowKit

set_option maxHeartbeats 8000000 in
set_option maxRecDepth 100000 in
theorem sof_walk (b : List UInt8) (w : World) :
    Calls Try.prog 4 #[.string (bst b)] w fun e w' => e = .returned (.bool true) ∧ Below w.heap.size w w' := by
  have HAW := hid (show ∀ W : World, Calls Try.prog 10 #[] W fun e w' => e = .returned (.bool true) ∧ Below W.heap.size W w' from awake_yes)
  have hz := bst_size b
  by_cases hl : 1000 < b.length
  · have hl' : (1000 : Int) < (b.length : Int) := by omega
    go_enter Try.func4, Try.ntmps4
    go_wp2_with fail
    go_fit (HAW.out w)
    rintro e w1 ⟨rfl, hb1⟩
    go_wp2_with fail
    go_ret
    exact ⟨rfl, hb1⟩
  · have hl' : ¬ (1000 : Int) < (b.length : Int) := by omega
    have hl2 : b.length ≤ 1000 := by omega
    go_enter Try.func4, Try.ntmps4
    go_wp2_with (with_reducible refine wpList_bytes_of _ rfl (.tmp 12) 9 40 5 rfl Try.underlying9 Try.underlying40 Try.underlying5 b rfl ?_; intro A1 c1 w1 hc1 hA1 hb1)
    have HB1 := hid hb1
    have HO := hid (of_any (c := c1) hA1 rfl (Nat.le_refl _) (by omega))
    clear hA1 hb1
    go_fit HO.out
    rintro e w2 ⟨hgot, hb2⟩
    have HB2 := hid (below_step HB1.out hb2)
    have HR := hid (refOf_any (b := b) (w := w2) (by omega))
    clear hb2 HO
    cases ho : sof b with
    | none =>
      rw [ho] at hgot HR
      obtain rfl : e = .returned (.tuple #[.pointer none, .int .i64 93]) := hgot
      go_wp2_with fail
      go_fit HR.out
      rintro e w3 ⟨hgot3, hb3⟩
      obtain ⟨A3, n3, c3, rfl⟩ : ∃ A n c, e = .returned (.tuple #[.slice A n c, .bool false]) := hgot3
      have HB3 := hid (below_step HB2.out hb3)
      clear hb3 HR ho
      go_wp2_with fail
      go_fit (HAW.out w3)
      rintro e w4 ⟨rfl, hb4⟩
      have HB4 := hid (below_step HB3.out hb4)
      clear hb4
      go_wp2_with fail
      go_ret
      exact ⟨rfl, HB4.out⟩
    | some l =>
      rw [ho] at hgot HR
      have HSB := hid (sof_some ho)
      obtain ⟨s, rfl, hs, hsz⟩ : ∃ s, e = .returned (.tuple #[.pointer (some ⟨s, 0, none⟩), .int .i64 0]) ∧ SpIn w2 s l ∧ w1.heap.size ≤ s := hgot
      have HS2 := hid hs
      clear hs hsz ho
      go_wp2_with fail
      go_fit HR.out
      rintro e w3 ⟨hgot3, hb3⟩
      obtain ⟨A3, n3, c3, rfl, hfl⟩ : ∃ A n c, e = .returned (.tuple #[.slice A n c, .bool true]) ∧ FL w3 A n c l := hgot3
      have HB3 := hid (below_step HB2.out hb3)
      have HS3 := hid (HS2.out.step hb3)
      have HF3 := hid hfl
      clear hb3 HR hfl
      go_wp2_with fail
      go_fit (HAW.out w3)
      rintro e w4 ⟨rfl, hb4⟩
      have HB4 := hid (below_step HB3.out hb4)
      have HS4 := hid (HS3.out.step hb4)
      have HF4 := hid (HF3.out.step hb4)
      have HAL := hid (alike_yes HS4.out HF4.out)
      clear hb4
      go_wp2_with fail
      go_fit HAL.out
      rintro e w5 ⟨rfl, hb5⟩
      have HB5 := hid (below_step HB4.out hb5)
      have HY := hid (sbytes_any (HS4.out.step hb5))
      rw [HSB.out.2.2] at HY
      clear hb5 HAL
      go_wp2_with fail
      go_fit HY.out
      rintro e w6 ⟨A6, m6, c6, rfl, hr6, hb6⟩
      have HB6 := hid (below_step HB5.out hb6)
      have hcv := str_of (c := c6) hr6.at_ hr6.1
      clear hr6 hb6
      go_wp2_with fail
      go_ret
      exact ⟨rfl, HB6.out⟩

end Go.Proofs.Ytcodljegicoeeaa
