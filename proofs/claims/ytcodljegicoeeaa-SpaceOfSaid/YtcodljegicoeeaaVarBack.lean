/-
  What is written is read, and what is read is the one way to write it: plain functions.
-/
import Derived.Test.YtcodljegicoeeaaVarFns
import Derived.Test.YtcodljegicoeeaaGetVar
namespace Go.Proofs.Ytcodljegicoeeaa
open Go Go.RowKit

/-- the list is a number's bytes, seven bits each -/
def isVb : List UInt8 → Nat → Prop
  | [], _ => False
  | x :: r, q => (q < 128 ∧ x.toNat = q ∧ r = []) ∨ (128 ≤ q ∧ x.toNat = q % 128 + 128 ∧ isVb r (q / 128))

theorem isVb_uniq : ∀ {a b : List UInt8} {q : Nat}, isVb a q → isVb b q → a = b
  | [], _, _, h, _ => h.elim
  | _ :: _, [], _, _, h => h.elim
  | x :: a, y :: b, q, ha, hb => by
    rcases ha with ⟨h1, h2, rfl⟩ | ⟨h1, h2, h3⟩
    · rcases hb with ⟨_, g2, rfl⟩ | ⟨g1, _, _⟩
      · rw [UInt8.toNat_inj.1 (h2.trans g2.symm)]
      · omega
    · rcases hb with ⟨g1, _, _⟩ | ⟨_, g2, g3⟩
      · omega
      · rw [UInt8.toNat_inj.1 (h2.trans g2.symm), isVb_uniq h3 g3]

theorem vlen_small {v : Nat} (h : v < 128) : vlen v = 1 := by unfold vlen vl; rw [if_pos h]
theorem vlen_great {v : Nat} (h : ¬ v < 128) (hv : v < 18446744073709551616) : vlen v = 1 + vlen (v / 128) := by
  have h1 := vlen_isLen v hv
  have h2 := vlen_isLen (v / 128) (Nat.lt_of_le_of_lt (Nat.div_le_self _ _) hv)
  refine IsLen.uniq h1 ⟨by omega, ?_, fun _ => ?_⟩
  · rw [Nat.add_comm 1, div_pow_succ']; exact h2.2.1
  · rw [Nat.add_sub_cancel_left]
    by_cases h3 : 1 < vlen (v / 128)
    · have := h2.2.2 h3
      rw [← div_pow_succ', show vlen (v / 128) - 1 + 1 = vlen (v / 128) by omega] at this
      exact this
    · have := h2.1
      rw [show vlen (v / 128) = 1 by omega]
      simp
      omega

theorem vbytes_small {v : Nat} (h : v < 128) : vbytes v = [UInt8.ofNat v] := by
  unfold vbytes vbyte
  rw [vlen_small h]
  simp
theorem vbytes_great {v : Nat} (h : ¬ v < 128) (hv : v < 18446744073709551616) : vbytes v = UInt8.ofNat (v % 128 + 128) :: vbytes (v / 128) := by
  have hp := vlen_pos (v / 128)
  unfold vbytes
  rw [vlen_great h hv, Nat.add_comm 1, List.range_succ_eq_map, List.map_cons, List.map_map]
  congr 1
  · unfold vbyte
    rw [vlen_great h hv, if_pos (by omega)]
    simp
  · apply List.map_congr_left
    intro i _
    simp only [Function.comp_apply]
    unfold vbyte
    rw [vlen_great h hv, div_pow_succ']
    by_cases h1 : i + 1 < vlen (v / 128)
    · rw [if_pos h1, if_pos (by omega)]
    · rw [if_neg h1, if_neg (by omega)]

theorem isVb_vbytes : ∀ f v, v < 128 ^ (f + 1) → v < 18446744073709551616 → isVb (vbytes v) v
  | 0, v, h, _ => by
    have h1 : v < 128 := by simpa using h
    rw [vbytes_small h1]
    exact .inl ⟨h1, by rw [UInt8.toNat_ofNat']; omega, rfl⟩
  | f + 1, v, h, hv => by
    by_cases h1 : v < 128
    · rw [vbytes_small h1]
      exact .inl ⟨h1, by rw [UInt8.toNat_ofNat']; omega, rfl⟩
    · rw [vbytes_great h1 hv]
      refine .inr ⟨by omega, by rw [UInt8.toNat_ofNat']; omega, isVb_vbytes f (v / 128) ?_ (by omega)⟩
      rw [Nat.div_lt_iff_lt_mul (by decide)]
      rw [Nat.pow_succ] at h
      exact h
theorem isVb_all {v : Nat} (hv : v < 18446744073709551616) : isVb (vbytes v) v := isVb_vbytes 9 v (by omega) hv

theorem pow_le_mul {q i : Nat} (hq : 0 < q) (h : q * 128 ^ i < 18446744073709551616) : i ≤ 9 := by
  refine Classical.byContradiction fun hn => ?_
  have h1 : 128 ^ 10 ≤ 128 ^ i := Nat.pow_le_pow_right (by decide) (by omega)
  have h2 : 1 * 128 ^ i ≤ q * 128 ^ i := Nat.mul_le_mul_right _ hq
  omega

/-- what is written is read -/
theorem rdv_isVb : ∀ (l : List UInt8) (i acc q : Nat) (s : List UInt8), isVb l q → q * 128 ^ i < 18446744073709551616 → (0 < i → 0 < q) → rdv i acc (l ++ s) = (acc + q * 128 ^ i, i + l.length, 0)
  | [], _, _, _, _, h, _, _ => h.elim
  | x :: r, i, acc, q, s, h, hb, hi => by
    rcases h with ⟨h1, h2, rfl⟩ | ⟨h1, h2, h3⟩
    · have hf : ¬ (i = 9 ∧ 1 < x.toNat ∨ x.toNat = 0 ∧ 0 < i) := by
        rintro (⟨rfl, h4⟩ | ⟨h4, h5⟩)
        · have : 2 * 128 ^ 9 ≤ q * 128 ^ 9 := Nat.mul_le_mul_right _ (by omega)
          omega
        · have := hi h5; omega
      rw [List.cons_append, rdv_last hf (by omega), h2]
      rfl
    · have e1 : 128 ^ (i + 1) = 128 ^ i * 128 := Nat.pow_succ ..
      have e2 : q / 128 * 128 ^ (i + 1) ≤ q * 128 ^ i := by
        rw [e1, Nat.mul_comm (128 ^ i), ← Nat.mul_assoc]
        exact Nat.mul_le_mul_right _ (Nat.div_mul_le_self _ _)
      have h9 : i + 1 ≤ 9 := pow_le_mul (q := q / 128) (by omega) (by omega)
      rw [List.cons_append, rdv_more (by omega) (by omega), rdv_isVb r (i + 1) _ (q / 128) s h3 (by omega) (fun _ => by omega)]
      have e3 : acc + (x.toNat - 128) * 128 ^ i + q / 128 * 128 ^ (i + 1) = acc + q * 128 ^ i := by
        rw [h2, Nat.add_sub_cancel, e1, Nat.mul_comm (128 ^ i) 128, ← Nat.mul_assoc, Nat.add_assoc, ← Nat.add_mul]
        congr 2
        omega
      rw [e3, List.length_cons]
      simp only [Prod.mk.injEq, true_and, and_true]
      omega

theorem rdv_vbytes {v : Nat} (hv : v < 18446744073709551616) (s : List UInt8) : rdv 0 0 (vbytes v ++ s) = (v, vlen v, 0) := by
  rw [rdv_isVb _ 0 0 v s (isVb_all hv) (by simpa using hv) (fun h => absurd h (by omega)), vbytes_length]
  simp

/-- what is read is the one way to write it -/
theorem rdv_only : ∀ (l : List UInt8) (i acc v n : Nat), rdv i acc l = (v, n, 0) → ∃ q, v = acc + q * 128 ^ i ∧ i < n ∧ isVb (l.take (n - i)) q ∧ (0 < i → 0 < q) ∧ (i ≤ 9 → q * 128 ^ i < 18446744073709551616)
  | [], i, acc, v, n, h => by simp [rdv] at h
  | x :: r, i, acc, v, n, h => by
    by_cases hf : i = 9 ∧ 1 < x.toNat ∨ x.toNat = 0 ∧ 0 < i
    · rw [rdv_form hf] at h; simp at h
    · by_cases hx : x.toNat < 128
      · rw [rdv_last hf hx] at h
        simp only [Prod.mk.injEq] at h
        obtain ⟨rfl, rfl, _⟩ := h
        refine ⟨x.toNat, rfl, by omega, ?_, fun h0 => by omega, fun h9 => ?_⟩
        · rw [Nat.add_sub_cancel_left, List.take_succ_cons, List.take_zero]
          exact .inl ⟨hx, rfl, rfl⟩
        · by_cases h8 : i ≤ 8
          · have h1 : 128 ^ i ≤ 128 ^ 8 := Nat.pow_le_pow_right (by decide) h8
            have : x.toNat * 128 ^ i ≤ 127 * 128 ^ 8 := Nat.mul_le_mul (by omega) h1
            omega
          · have h1 : 128 ^ i ≤ 128 ^ 9 := Nat.pow_le_pow_right (by decide) h9
            have : x.toNat * 128 ^ i ≤ 1 * 128 ^ 9 := Nat.mul_le_mul (by omega) h1
            omega
      · by_cases h9 : i = 9
        · exact absurd (Or.inl ⟨h9, by omega⟩) hf
        · rw [rdv_more h9 hx] at h
          obtain ⟨q, h1, h2, h3, h4, h5⟩ := rdv_only r (i + 1) _ v n h
          have hxl := x.toNat_lt
          have hq := h4 (by omega)
          have e1 : 128 ^ (i + 1) = 128 ^ i * 128 := Nat.pow_succ ..
          refine ⟨x.toNat - 128 + 128 * q, ?_, by omega, ?_, fun _ => by omega, fun h10 => ?_⟩
          · rw [h1, e1, Nat.mul_comm (128 ^ i) 128, ← Nat.mul_assoc, Nat.add_assoc, ← Nat.add_mul, Nat.mul_comm q 128]
          · rw [show n - i = n - (i + 1) + 1 by omega, List.take_succ_cons]
            refine .inr ⟨by omega, by omega, ?_⟩
            rw [show (x.toNat - 128 + 128 * q) / 128 = q by omega]
            exact h3
          · have h6 := h5 (by omega)
            rw [Nat.add_mul, Nat.mul_comm 128 q, Nat.mul_assoc, Nat.mul_comm 128, ← e1]
            have h8 : 128 ^ i ≤ 128 ^ 8 := Nat.pow_le_pow_right (by decide) (by omega)
            have e9 : 128 ^ (i + 1) ≤ 128 ^ 9 := Nat.pow_le_pow_right (by decide) (by omega)
            have hm : (x.toNat - 128) * 128 ^ i + 128 ^ i ≤ 128 ^ (i + 1) := by
              rw [e1, ← Nat.succ_mul, Nat.mul_comm _ 128]
              exact Nat.mul_le_mul_right _ (by omega)
            have hd : 128 ^ (i + 1) ∣ 18446744073709551616 := ⟨2 ^ (64 - 7 * (i + 1)), by
              rw [← pow7', ← Nat.pow_add, show 7 * (i + 1) + (64 - 7 * (i + 1)) = 64 by omega]⟩
            obtain ⟨k, hk⟩ := hd
            rw [hk] at h6 ⊢
            rw [Nat.mul_comm _ k] at h6 ⊢
            have hlt : q < k := Nat.lt_of_mul_lt_mul_right h6
            have : (q + 1) * 128 ^ (i + 1) ≤ k * 128 ^ (i + 1) := Nat.mul_le_mul_right _ hlt
            rw [Nat.succ_mul] at this
            have hp : 0 < 128 ^ i := Nat.pow_pos (by decide)
            omega

theorem rdv_back {l : List UInt8} {v n : Nat} (h : rdv 0 0 l = (v, n, 0)) : vbytes v ++ l.drop n = l ∧ v < 18446744073709551616 := by
  obtain ⟨q, h1, _, h3, _, h5⟩ := rdv_only l 0 0 v n h
  have hq : q = v := by simpa using h1.symm
  subst hq
  have hv : q < 18446744073709551616 := by simpa using h5 (by omega)
  rw [Nat.sub_zero] at h3
  exact ⟨by rw [isVb_uniq (isVb_all hv) h3, List.take_append_drop], hv⟩

end Go.Proofs.Ytcodljegicoeeaa
