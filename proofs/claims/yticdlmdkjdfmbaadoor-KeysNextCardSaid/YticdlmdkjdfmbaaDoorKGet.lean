/-
  keys.Get by its contract.
-/
import Derived.Test.YticdlmdkjdfmbaaDoorDecode
namespace Go.Proofs.YticdlmdkjdfmbaaDoor
open Go Go.RowKit

/-- what Get answers -/
def getV : Option (List UInt8 × Nat) → Value
  | some (k, t) => .tuple #[.string (bst k), .int .u64 (t : Int), .int .i64 0]
  | none => .tuple #[.string (bst []), .int .u64 0, .int .i64 40]

set_option maxHeartbeats 1000000 in
theorem kget_any {A : Option Addr} {m c B : Nat} {b : List UInt8} {w : World} (hA : At w B A b) (hm : m = b.length) (hc : m ≤ c) (hB : B ≤ w.heap.size) (hl : m ≤ 70368744177664) :
    Calls Tryd.prog 15 #[.slice A m c] w fun e w' => e = .returned (getV (kget b)) ∧ Below w.heap.size w w' := by
  by_cases h8 : m < 8
  · have hk : kget b = none := by unfold kget; rw [if_pos (by omega)]
    rw [hk]
    clear hk hA hm
    go_enter Tryd.func15, Tryd.ntmps15
    go_wp2_with fail
    go_ret3
    exact ⟨rfl, Below.refl _ _⟩
  · obtain ⟨n, rfl⟩ : ∃ n, m = n + 8 := ⟨m - 8, by omega⟩
    obtain ⟨A1, hsl1, hA1⟩ := slice_full (n := n) hA hm hc (by omega)
    obtain ⟨A2, hsl0, hA2⟩ := slice_from (n := n) hA hm hc (by omega)
    have hsl2 : ∀ (k : IntKind) (W : World), (Instr.slice 24 (.slice A (n + 8) c) (some (.int k (n : Int))) none none).run Tryd.prog W = .ok (.slice A2 8 (c - n)) W := by rw [Nat.add_sub_cancel_left] at hsl0; exact hsl0
    have HA2 := hid hA2
    have HL2 := hid (show (b.drop n).length = 8 by rw [List.length_drop]; omega)
    have hdec := hid (decode_any (c := n) hA1 (by rw [List.length_take]; omega) (Nat.le_refl n) hB (by omega))
    have hk : kget b = (kdec (b.take n)).map fun k => (k, 18446744073709551615 - ofBe (b.drop n)) := by
      unfold kget
      rw [if_neg (by omega), ← hm, Nat.add_sub_cancel]
      cases kdec (b.take n) <;> rfl
    have hi : (((n + 8 : Nat) : Int)) - 8 = (n : Int) := by omega
    clear hA hA1 hA2 hm hsl0
    cases hD : kdec (b.take n) with
    | none =>
      rw [hD] at hk hdec
      rw [Option.map] at hk
      rw [hk]
      unfold decV at hdec
      dsimp only at hdec
      clear hk hD
      go_enter Tryd.func15, Tryd.ntmps15
      go_wp2_with fail
      go_fit hdec.out
      rintro e w1 ⟨rfl, hb1⟩
      go_wp2_with fail
      go_ret3
      exact ⟨rfl, hb1⟩
    | some k =>
      rw [hD] at hk hdec
      rw [Option.map] at hk
      rw [hk]
      unfold decV at hdec
      dsimp only at hdec
      have ho := ofBe_8 HL2.out
      have htk := HL2.out
      have hft : (b.drop n).take 8 = b.drop n := List.take_of_length_le (by omega)
      obtain ⟨q, hq⟩ : ∃ q, q = ofBe (b.drop n) := ⟨_, rfl⟩
      rw [← hq] at ho ⊢
      have HQ := hid hq
      have HFT := hid hft
      have hsub : (18446744073709551615 : Int) - (q : Int) = ((18446744073709551615 - q : Nat) : Int) := by omega
      unfold getV
      dsimp only
      clear hk hD hq htk hft
      go_enter Tryd.func15, Tryd.ntmps15
      go_wp2_with fail
      go_fit hdec.out
      rintro e w1 ⟨rfl, hb1⟩
      have HB1 := hid hb1
      clear hb1
      go_wp2_with fail
      go_fit (get_is (n := 8) HL2.out.symm rfl (HA2.out.below (HB1.out.mono hB)) (Nat.le_trans hB HB1.out.size) (by rw [HL2.out]; decide) (by omega) (by decide) (by decide) (by rw [HL2.out]; exact Nat.le_refl _))
      rw [HFT.out, ← HQ.out]
      rintro e w2 ⟨A3, m3, c3, rfl, hr3, hb3⟩
      go_wp2_with fail
      go_ret3
      exact ⟨rfl, below_step HB1.out hb3⟩

end Go.Proofs.YticdlmdkjdfmbaaDoor
