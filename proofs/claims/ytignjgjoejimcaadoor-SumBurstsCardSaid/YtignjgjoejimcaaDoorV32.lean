/-
  Numbers of 32 bits as the walk has them.
-/
import Derived.Test.YtignjgjoejimcaaDoorCrc
import Derived.Laws.BitsAllLaws
namespace Go.Proofs.YtignjgjoejimcaaDoor
open Go Go.RowKit

/-- a number of 32 bits -/
def v32 (r : BitVec 32) : Int := (r.toNat : Int)
theorem v32_lo (r : BitVec 32) : 0 ≤ v32 r := Int.natCast_nonneg _
theorem v32_hi (r : BitVec 32) : v32 r < 4294967296 := by have := r.isLt; unfold v32; omega
theorem v32_inj {r s : BitVec 32} (h : v32 r = v32 s) : r = s := BitVec.eq_of_toNat_eq (by unfold v32 at h; omega)
theorem v32_of {n : Int} (h0 : 0 ≤ n) (h1 : n < 4294967296) : ∃ r, n = v32 r := ⟨BitVec.ofNat 32 n.toNat, by
  unfold v32
  rw [BitVec.toNat_ofNat, Nat.mod_eq_of_lt (by omega)]
  omega⟩
theorem v32_xor (a b : BitVec 32) : bits .xor .u32 (v32 a) (v32 b) = v32 (a ^^^ b) := by
  unfold v32
  rw [u32_xor_nat _ _ (by have := a.isLt; omega) (by have := b.isLt; omega), BitVec.toNat_xor]
theorem v32_and (a b : BitVec 32) : bits .and .u32 (v32 a) (v32 b) = v32 (a &&& b) := by
  unfold v32
  rw [u32_and_nat _ _ (by have := a.isLt; omega) (by have := b.isLt; omega), BitVec.toNat_and]
theorem v32_ones : v32 (BitVec.allOnes 32) = IntKind.u32.max := by decide
theorem v32_not (a : BitVec 32) : bits .xor .u32 IntKind.u32.max (v32 a) = v32 (~~~a) := by
  rw [← v32_ones, v32_xor, BitVec.allOnes_xor]
theorem v32_shl (a : BitVec 32) (k : Nat) : v32 a * 2 ^ k % 4294967296 = v32 (a <<< k) := by
  unfold v32
  rw [BitVec.toNat_shiftLeft, Nat.shiftLeft_eq, Int.natCast_emod, Int.natCast_mul, Int.natCast_pow]
  rfl
theorem v32_shr (a : BitVec 32) (k : Nat) : v32 a / 2 ^ k = v32 (a >>> k) := by
  unfold v32
  rw [BitVec.toNat_ushiftRight, Nat.shiftRight_eq_div_pow, Int.natCast_ediv, Int.natCast_pow]
  rfl
theorem v32_poly : v32 poly = 79764919 := by decide
theorem v32_msb (a : BitVec 32) : (v32 a / 2147483648 == 1) = a.msb := by
  have h := a.isLt
  have e : a.msb = decide (2147483648 ≤ a.toNat) := by rw [BitVec.msb_eq_decide]
  rw [e, Bool.eq_iff_iff]
  unfold v32
  simp
  omega
theorem v32_sub (a : BitVec 32) : 4294967295 - v32 a = v32 (~~~a) := by
  have := a.isLt
  unfold v32
  rw [BitVec.toNat_not]
  omega

end Go.Proofs.YtignjgjoejimcaaDoor
