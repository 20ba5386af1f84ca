/-
  A number in as few bytes as it needs: plain functions, no program.
-/
namespace Go.Proofs.Ytcodljegicoeeaa

/-- how many bytes a number needs (fuel first) -/
def vl : Nat → Nat → Nat
  | 0, _ => 1
  | f + 1, v => if v < 128 then 1 else 1 + vl f (v / 128)
def vlen (v : Nat) : Nat := vl 9 v

def IsLen (v n : Nat) : Prop := 1 ≤ n ∧ v / 128 ^ n = 0 ∧ (1 < n → v / 128 ^ (n - 1) ≠ 0)

theorem div_pow_succ (v k : Nat) : v / 128 ^ (k + 1) = v / 128 ^ k / 128 := by rw [Nat.pow_succ, Nat.div_div_eq_div_mul]
theorem div_pow_succ' (v k : Nat) : v / 128 ^ (k + 1) = v / 128 / 128 ^ k := by rw [Nat.pow_succ, Nat.mul_comm, Nat.div_div_eq_div_mul]
theorem div_pow_add (v k j : Nat) : v / 128 ^ (k + j) = v / 128 ^ k / 128 ^ j := by rw [Nat.pow_add, Nat.div_div_eq_div_mul]

theorem vl_isLen : ∀ f v, v < 128 ^ (f + 1) → IsLen v (vl f v)
  | 0, v, h => ⟨Nat.le_refl _, by simp [vl]; simp at h; omega, fun h1 => by simp [vl] at h1⟩
  | f + 1, v, h => by
    unfold vl
    split
    · exact ⟨Nat.le_refl _, by simp; omega, fun h1 => by omega⟩
    · rename_i hv
      have ih := vl_isLen f (v / 128) (by rw [Nat.div_lt_iff_lt_mul (by decide)]; rw [Nat.pow_succ] at h; exact h)
      obtain ⟨i1, i2, i3⟩ := ih
      refine ⟨by omega, ?_, fun _ => ?_⟩
      · rw [Nat.add_comm 1, div_pow_succ']; exact i2
      · rw [Nat.add_sub_cancel_left]
        by_cases h1 : 1 < vl f (v / 128)
        · have := i3 h1
          rw [← div_pow_succ', show vl f (v / 128) - 1 + 1 = vl f (v / 128) by omega] at this
          exact this
        · have : vl f (v / 128) = 1 := by omega
          rw [this]
          simp
          omega

theorem vlen_isLen (v : Nat) (h : v < 18446744073709551616) : IsLen v (vlen v) := vl_isLen 9 v (by omega)

theorem div_zero_mono (v a b : Nat) (h : v / 128 ^ a = 0) (hab : a ≤ b) : v / 128 ^ b = 0 := by
  obtain ⟨d, rfl⟩ := Nat.exists_eq_add_of_le hab
  rw [div_pow_add, h, Nat.zero_div]

theorem IsLen.uniq {v a b : Nat} (ha : IsLen v a) (hb : IsLen v b) : a = b := by
  rcases Nat.lt_trichotomy a b with h | h | h
  · exact absurd (div_zero_mono v a (b - 1) ha.2.1 (by omega)) (hb.2.2 (by have := ha.1; omega))
  · exact h
  · exact absurd (div_zero_mono v b (a - 1) hb.2.1 (by omega)) (ha.2.2 (by have := hb.1; omega))

theorem vlen_le (v : Nat) : vlen v ≤ 10 := by
  have : ∀ f v, vl f v ≤ f + 1 := by
    intro f
    induction f with
    | zero => intro v; simp [vl]
    | succ f ih =>
      intro v
      have := ih (v / 128)
      unfold vl
      split <;> omega
  exact this 9 v
theorem vlen_pos (v : Nat) : 1 ≤ vlen v := by
  unfold vlen vl; split <;> omega

/-- the bytes -/
def vbyte (v i : Nat) : UInt8 := UInt8.ofNat (if i + 1 < vlen v then v / 128 ^ i % 128 + 128 else v / 128 ^ i)
def vbytes (v : Nat) : List UInt8 := (List.range (vlen v)).map (vbyte v)
theorem vbytes_length (v : Nat) : (vbytes v).length = vlen v := by simp [vbytes]
theorem vbytes_take (v k : Nat) (h : k < vlen v) : (vbytes v).take (k + 1) = (vbytes v).take k ++ [vbyte v k] := by
  rw [List.take_succ_eq_append_getElem (by rw [vbytes_length]; exact h)]
  simp [vbytes]

theorem nat_ne {q : Nat} (h : q ≠ 0) : ((q : Int) == 0) = false ∧ ((q : Int) != 0) = true := by
  simp; omega

end Go.Proofs.Ytcodljegicoeeaa
