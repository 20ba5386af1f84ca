/-
  Bytes of a number, and back: plain functions.
-/
import Derived.Test.YtikggbopoajcbaaDoorPut
import Derived.Test.YtikggbopoajcbaaDoorGet
namespace Go.Proofs.YtikggbopoajcbaaDoor
open Go Go.RowKit

theorem be_succ (v k : Nat) : be v (k + 1) = UInt8.ofNat (v / 256 ^ k) :: be v k := by
  unfold be
  rw [List.range_succ_eq_map, List.map_cons, List.map_map]
  simp only [Nat.add_sub_cancel, Nat.sub_zero, List.cons.injEq, true_and]
  apply List.map_congr_left
  intro i hi
  simp at hi
  simp only [Function.comp_apply]
  congr 3
  omega
theorem be_mod (v n : Nat) : be (v % 256 ^ n) n = be v n := by
  unfold be
  apply List.map_congr_left
  intro i hi
  simp at hi
  apply UInt8.toNat_inj.1
  rw [UInt8.toNat_ofNat', UInt8.toNat_ofNat']
  have e : 256 ^ n = 256 ^ (n - 1 - i) * 256 ^ (i + 1) := by rw [← Nat.pow_add]; congr 1; omega
  rw [e, Nat.mod_mul_right_div_self]
  have e2 : 256 ^ (i + 1) = 2 ^ 8 * 256 ^ i := by rw [Nat.pow_succ, Nat.mul_comm]
  rw [e2, Nat.mod_mul_right_mod]

theorem ofBe_cons (x : UInt8) (l : List UInt8) : ofBe (x :: l) = x.toNat * 256 ^ l.length + ofBe l := by
  have h : ∀ (l : List UInt8) (a : Nat), l.foldl (fun a x => 256 * a + x.toNat) a = a * 256 ^ l.length + l.foldl (fun a x => 256 * a + x.toNat) 0 := by
    intro l
    induction l with
    | nil => intro a; simp
    | cons y l ih =>
      intro a
      rw [List.foldl_cons, List.foldl_cons, ih, ih (256 * 0 + y.toNat), List.length_cons, Nat.pow_succ, Nat.add_mul, Nat.add_mul]
      have e : 256 * a * 256 ^ l.length = a * (256 ^ l.length * 256) := by rw [Nat.mul_comm 256 a, Nat.mul_assoc, Nat.mul_comm 256]
      omega
  unfold ofBe
  rw [List.foldl_cons, h]
  simp
theorem ofBe_be : ∀ (n v : Nat), v < 256 ^ n → ofBe (be v n) = v
  | 0, v, h => by
    have : v = 0 := by simpa using h
    subst this
    rfl
  | n + 1, v, h => by
    have hp : 0 < 256 ^ n := Nat.pow_pos (by decide)
    have hd : v / 256 ^ n < 256 := by rw [Nat.div_lt_iff_lt_mul hp, Nat.mul_comm]; rw [Nat.pow_succ] at h; exact h
    rw [be_succ, ofBe_cons, be_length, ← be_mod v n, ofBe_be n _ (Nat.mod_lt _ hp), UInt8.toNat_ofNat', Nat.mod_eq_of_lt hd, Nat.mul_comm]
    exact Nat.div_add_mod v (256 ^ n)
theorem be_ofBe : ∀ (l : List UInt8) (n : Nat), l.length = n → be (ofBe l) n = l
  | [], n, h => by subst h; rfl
  | x :: l, n, h => by
    subst h
    have hp : 0 < 256 ^ l.length := Nat.pow_pos (by decide)
    have hl := ofBe_lt l
    rw [List.length_cons, be_succ, ofBe_cons]
    have e1 : (x.toNat * 256 ^ l.length + ofBe l) / 256 ^ l.length = x.toNat := by
      rw [Nat.mul_comm, Nat.mul_add_div hp, Nat.div_eq_of_lt hl, Nat.add_zero]
    have e2 : (x.toNat * 256 ^ l.length + ofBe l) % 256 ^ l.length = ofBe l := by
      rw [Nat.mul_comm, Nat.mul_add_mod, Nat.mod_eq_of_lt hl]
    rw [e1, ← be_mod, e2, be_ofBe l _ rfl]
    simp

end Go.Proofs.YtikggbopoajcbaaDoor
