/-
  sum's shift by its contract.
-/
import Derived.Test.YtignjgjoejimcaaDoorMakeTable
namespace Go.Proofs.YtignjgjoejimcaaDoor
open Go Go.RowKit

theorem v32_toNat (x : BitVec 32) : (v32 x).toNat = x.toNat := by unfold v32; rfl
theorem tabF_at (x : BitVec 32) : tabF x.toNat = .int .u32 (v32 (tab x)) := by
  unfold tabF; rw [BitVec.ofNat_toNat]; rfl
theorem shr28 (r : BitVec 32) : (r >>> 28).toNat < 16 := by
  have := r.isLt
  rw [BitVec.toNat_ushiftRight, Nat.shiftRight_eq_div_pow]; omega
theorem xor16 (a b : BitVec 32) (ha : a.toNat < 16) (hb : b.toNat < 16) : (a ^^^ b).toNat < 16 := by
  rw [BitVec.toNat_xor]; exact Nat.xor_lt_two_pow (n := 4) ha hb

set_option maxHeartbeats 400000 in
theorem shift_any (b : Nat) (r c : BitVec 32) (w : World) (hc : c.toNat < 16) (h : w.rowIs b 47 16 tabF) :
    Calls Tryd.prog 21 #[.pointer (some ⟨b, 0, none⟩), .int .u32 (v32 r), .int .u32 (v32 c)] w fun e w' => e = .returned (.int .u32 (v32 (feed r (bits4 c)))) ∧ w = w' := by
  have hN := nib r c hc
  have hx := xor16 _ _ (shr28 r) hc
  obtain ⟨x, hX⟩ : ∃ x, x = (r >>> 28) ^^^ c := ⟨_, rfl⟩
  have h1 := v32_shr r 28
  have h2 := v32_xor (r >>> 28) c
  have h3 := v32_shl r 4
  have h4 := v32_xor (r <<< 4) (tab x)
  rw [← hX] at h2 hN hx
  have hcell := h.cell hx
  rw [tabF_at] at hcell
  have e1 := v32_toNat x
  rw [← e1] at hcell
  have hb0 := v32_lo x
  have hb1 : v32 x < 16 := by unfold v32; omega
  have hr0 := v32_lo r
  have hr1 := v32_hi r
  rw [hN]
  rw [show (2 : Int) ^ 28 = 268435456 by decide] at h1
  rw [show (2 : Int) ^ 4 = 16 by decide] at h3
  clear e1 hx hN hX h hc
  go_enter Tryd.func21, Tryd.ntmps21
  go_wp2
  go_ret
  exact ⟨rfl, rfl⟩

end Go.Proofs.YtignjgjoejimcaaDoor
