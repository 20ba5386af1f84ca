/-
  The table of sum: its closure, the function that makes it, and shift, by their contracts.
-/
import Derived.Test.YtignjgjoejimcaaDoorStep
import Derived.Deep.OwnRows
import Derived.Laws.Rows
import Derived.Laws.Tables
namespace Go.Proofs.YtignjgjoejimcaaDoor
open Go Go.RowKit

/-- after k steps over zero bits -/
def zs (k : Nat) : List Bool := List.replicate k false
theorem zs_snoc (r : BitVec 32) (k : Nat) : feed r (zs (k + 1)) = rstep (feed r (zs k)) false := by
  unfold zs
  rw [List.replicate_succ', feed_append]; rfl

theorem v32_ofNat (c : Nat) (h : c < 4294967296) : v32 (BitVec.ofNat 32 c) = (c : Int) := by
  unfold v32; rw [BitVec.toNat_ofNat, Nat.mod_eq_of_lt (by omega)]
theorem top4 (c : Nat) (hc : c < 16) : (c : Int) * (268435456 : Int) = v32 (BitVec.ofNat 32 c <<< 28) := by
  rw [← v32_shl, v32_ofNat c (by omega)]
  omega

set_option maxHeartbeats 400000 in
theorem fill_any (base b c : Nat) (f : Nat → Value) (w : World) (h : w.rowIs b 47 16 f) (hc : c < 16) (hb : base ≤ b) :
    Calls Tryd.prog 25 #[.int .i64 (c : Int), .pointer (some ⟨b, 0, none⟩)] w fun e w' =>
      e = .returned (.tuple #[]) ∧ w'.rowIs b 47 16 (fun j => if j = c then .int .u32 (v32 (tab (BitVec.ofNat 32 c))) else f j) ∧ Below base w w' := by
  have hsg : IntKind.u32.signed = false := rfl
  have hcc := h.cell hc
  have hcz := h.frozen c
  have H := hid h
  clear h
  obtain ⟨R, hR⟩ : ∃ R, R = BitVec.ofNat 32 c <<< 28 := ⟨_, rfl⟩
  have ht := top4 c hc
  have hn := v32_not R
  rw [← hR] at ht
  have HR := hid hR
  have HT := hid (show Value.int .u32 (bits .xor .u32 IntKind.u32.max ((c : Int) * 268435456)) = .int .u32 (v32 (~~~R)) by rw [ht, hn])
  clear hR ht hn
  go_enter Tryd.func25, Tryd.ntmps25
  go_wp2
  go_loop [3, 8] (fun s i => ∃ k : Nat, k ≤ 4 ∧ i = .int .i64 (k : Int) ∧ s = .int .u32 (v32 (~~~(feed R (zs k))))) (fun _ i => 4 - (intOf i).toNat)
  case atStart => exact ⟨0, Nat.zero_le _, rfl, HT.out⟩
  case round =>
    obtain ⟨k, hk, rfl, rfl⟩ := hrel
    by_cases hlt : k < 4
    · obtain ⟨S, hS⟩ : ∃ S, S = ~~~(feed R (zs k)) := ⟨_, rfl⟩
      rw [← hS]
      have HS := hid hS
      clear hS
      go_wp2_with fail
      go_fit (step_any S false w)
      rintro e w' ⟨rfl, rfl⟩
      go_wp2_with fail
      go_round
      case rel => exact ⟨k + 1, by omega, by go_num, by rw [HS.out, BitVec.not_not, ← zs_snoc]⟩
      case measure => simp [intOf]; omega
    · have hk4 : k = 4 := by omega
      subst hk4
      have hn := v32_not (~~~(feed R (zs 4)))
      rw [BitVec.not_not] at hn
      have e4 : tab (BitVec.ofNat 32 c) = feed R (zs 4) := by rw [HR.out]; rfl
      have E4 := hid e4
      clear e4 hlt hk
      go_wp2
      go_end0
      exact ⟨rfl, by rw [E4.out]; exact H.out.set c _, (Below.refl base w).setCell hb _⟩

end Go.Proofs.YtignjgjoejimcaaDoor
