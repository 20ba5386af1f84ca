/-
  NumOrder: its walk.
-/
import Derived.Test.YtkcebnagpgpclaaDoorVarMore
namespace Go.Proofs.YtkcebnagpgpclaaDoor
open Go Go.RowKit

theorem ordI_nat (a b : Nat) : ordI a b = if a < b then -1 else if b < a then 1 else 0 := by
  have e1 : ((a : Int) < (b : Int)) ↔ a < b := by omega
  have e2 : ((b : Int) < (a : Int)) ↔ b < a := by omega
  unfold ordI
  simp only [e1, e2]

theorem cmp_be : ∀ (n v w : Nat), v < 256 ^ n → w < 256 ^ n → cmpL (be v n) (be w n) = ordI v w
  | 0, v, w, hv, hw => by
    have h1 : v = 0 := by simpa using hv
    have h2 : w = 0 := by simpa using hw
    subst h1 h2
    rfl
  | n + 1, v, w, hv, hw => by
    have hp : 0 < 256 ^ n := Nat.pow_pos (by decide)
    rw [be_succ, be_succ, ← be_mod v n, ← be_mod w n]
    have hdv : v / 256 ^ n < 256 := by rw [Nat.div_lt_iff_lt_mul hp, Nat.mul_comm]; rw [Nat.pow_succ] at hv; exact hv
    have hdw : w / 256 ^ n < 256 := by rw [Nat.div_lt_iff_lt_mul hp, Nat.mul_comm]; rw [Nat.pow_succ] at hw; exact hw
    have ev := Nat.div_add_mod v (256 ^ n)
    have ew := Nat.div_add_mod w (256 ^ n)
    have mv := Nat.mod_lt v hp
    have mw := Nat.mod_lt w hp
    by_cases h : UInt8.ofNat (v / 256 ^ n) = UInt8.ofNat (w / 256 ^ n)
    · rw [cmpL_same h, cmp_be n _ _ mv mw]
      have hq : v / 256 ^ n = w / 256 ^ n := by
        have := congrArg UInt8.toNat h
        rw [UInt8.toNat_ofNat', UInt8.toNat_ofNat'] at this
        exact (Nat.mod_eq_of_lt hdv).symm.trans (this.trans (Nat.mod_eq_of_lt hdw))
      rw [ordI_nat, ordI_nat]
      rw [hq] at ev
      generalize 256 ^ n * (w / 256 ^ n) = z at ev ew
      have e1 : v % 256 ^ n < w % 256 ^ n ↔ v < w := by omega
      have e2 : w % 256 ^ n < v % 256 ^ n ↔ w < v := by omega
      simp only [e1, e2]
    · rw [cmpL_ne h, UInt8.toNat_ofNat', UInt8.toNat_ofNat']
      have hq : v / 256 ^ n ≠ w / 256 ^ n := fun e => h (by rw [e])
      rw [ordI_nat, ordI_nat, Nat.mod_eq_of_lt hdv, Nat.mod_eq_of_lt hdw]
      have e1 : v / 256 ^ n < w / 256 ^ n ↔ v < w := by
        constructor
        · intro hl
          have := Nat.mul_le_mul_left (256 ^ n) (show v / 256 ^ n + 1 ≤ w / 256 ^ n by omega)
          rw [Nat.mul_add] at this
          omega
        · intro hl
          rcases Nat.lt_or_gt_of_ne hq with h1 | h1
          · exact h1
          · exfalso
            have := Nat.mul_le_mul_left (256 ^ n) (show w / 256 ^ n + 1 ≤ v / 256 ^ n by omega)
            rw [Nat.mul_add] at this
            omega
      have e2 : w / 256 ^ n < v / 256 ^ n ↔ w < v := by
        constructor
        · intro hl
          have := Nat.mul_le_mul_left (256 ^ n) (show w / 256 ^ n + 1 ≤ v / 256 ^ n by omega)
          rw [Nat.mul_add] at this
          omega
        · intro hl
          rcases Nat.lt_or_gt_of_ne hq with h1 | h1
          · exfalso
            have := Nat.mul_le_mul_left (256 ^ n) (show v / 256 ^ n + 1 ≤ w / 256 ^ n by omega)
            rw [Nat.mul_add] at this
            omega
          · exact h1
      simp only [e1, e2]

theorem fits_lt {v n : Nat} (h : v / 256 ^ n = 0) : v < 256 ^ n := by
  have hp : 0 < 256 ^ n := Nat.pow_pos (by decide)
  exact (Nat.div_eq_zero_iff.1 h).resolve_left (by omega)

/-- what becomes of a number in n bytes, whatever the case -/
theorem put_nil_no (v n : Int) (w : World) (hT : Table w) (hv0 : 0 ≤ v) (h : ¬ (1 ≤ n ∧ n ≤ 8 ∧ v.toNat / 256 ^ n.toNat = 0)) :
    Calls Tryd.prog 12 #[.slice none 0 0, .int .u64 v, .int .i64 n] w fun e w' => e = .returned (.tuple #[.slice none 0 0, .int .i64 11]) ∧ w = w' := by
  by_cases hn : 1 ≤ n ∧ n ≤ 8
  · obtain ⟨N, rfl⟩ : ∃ N : Nat, n = N := ⟨n.toNat, by omega⟩
    obtain ⟨V, rfl⟩ : ∃ V : Nat, v = V := ⟨v.toNat, by omega⟩
    refine put_great none 0 0 V N w hT (by omega) (by omega) fun hf => h ⟨hn.1, hn.2, ?_⟩
    simpa using hf
  · exact put_width none 0 0 v n w hn
theorem put_nil_yes (v n : Int) (w : World) (hT : Table w) (hv0 : 0 ≤ v) (hv : v < 18446744073709551616) (h : 1 ≤ n ∧ n ≤ 8 ∧ v.toNat / 256 ^ n.toNat = 0) :
    Calls Tryd.prog 12 #[.slice none 0 0, .int .u64 v, .int .i64 n] w fun e w' =>
      ∃ A' m' c', e = .returned (.tuple #[.slice A' m' c', .int .i64 0]) ∧ Row w' w.heap.size 5 A' m' c' (be v.toNat n.toNat) ∧ Below w.heap.size w w' := by
  obtain ⟨N, rfl⟩ : ∃ N : Nat, n = N := ⟨n.toNat, by omega⟩
  obtain ⟨V, rfl⟩ : ∃ V : Nat, v = V := ⟨v.toNat, by omega⟩
  exact put_is (A := none) (c := 0) (l := []) (v := V) (n := N) rfl (At.nil w 0 _) (Nat.zero_le _) (by simp) hT (by omega) (by omega) (by simpa using h.2.2) (by omega)

theorem ret_true {b : Bool} (h : b = true) : Ending.returned (.bool b) = Ending.returned (.bool true) := by rw [h]

set_option maxHeartbeats 2000000 in
theorem order_walk (v u n : Int) (hv : 0 ≤ v ∧ v < 18446744073709551616) (hu : 0 ≤ u ∧ u < 18446744073709551616) (w : World) (hT : Table w) :
    Calls Tryd.prog 9 #[.int .u64 v, .int .u64 u, .int .i64 n] w fun e w' => e = .returned (.bool true) ∧ Below w.heap.size w w' := by
  have HT := hid hT
  have HV := hid hv
  have HU := hid hu
  clear hT hv hu
  by_cases h1 : 1 ≤ n ∧ n ≤ 8 ∧ v.toNat / 256 ^ n.toNat = 0
  · have H1 := hid h1
    by_cases h2 : 1 ≤ n ∧ n ≤ 8 ∧ u.toNat / 256 ^ n.toNat = 0
    · have H2 := hid h2
      have hz : cmpL (be v.toNat n.toNat) (be u.toNat n.toNat) = ordI v.toNat u.toNat := cmp_be _ _ _ (fits_lt h1.2.2) (fits_lt h2.2.2)
      have hcases : (v < u ∧ cmpL (be v.toNat n.toNat) (be u.toNat n.toNat) = -1) ∨ (v = u ∧ cmpL (be v.toNat n.toNat) (be u.toNat n.toNat) = 0) ∨ (u < v ∧ cmpL (be v.toNat n.toNat) (be u.toNat n.toNat) = 1) := by
        rw [hz, ordI_nat]
        have := HV.out
        have := HU.out
        rcases Int.lt_trichotomy v u with h | h | h
        · exact .inl ⟨h, by rw [if_pos (by omega)]⟩
        · exact .inr (.inl ⟨h, by rw [if_neg (by omega), if_neg (by omega)]⟩)
        · exact .inr (.inr ⟨h, by rw [if_neg (by omega), if_pos (by omega)]⟩)
      have HC := hid hcases
      clear h1 h2 hz hcases
      go_enter Tryd.func9, Tryd.ntmps9
      go_wp2_with fail
      go_fit (put_nil_yes v n w HT.out HV.out.1 HV.out.2 H1.out)
      rintro e w1 ⟨A1, m1, c1, rfl, hr1, hb1⟩
      have HT1 := hid (HT.out.step hb1)
      go_wp2_with fail
      go_fit (put_nil_yes u n w1 HT1.out HU.out.1 HU.out.2 H2.out)
      rintro e w2 ⟨A2, m2, c2, rfl, hr2, hb2⟩
      have HT2 := hid (HT1.out.step hb2)
      go_wp2_with fail
      go_fit (awake_yes w2 HT2.out)
      rintro e w3 ⟨rfl, hb3⟩
      go_wp2_with fail
      go_fit (cmp_is (B := w2.heap.size) hr1.1 hr2.1 ((hr1.at_.below (hb2.trans (hb3.mono hb2.size))).more hb2.size) (hr2.at_.below hb3) (by rw [be_length]; have := H1.out; omega) (by rw [be_length]; have := H1.out; omega))
      rintro e w4 ⟨rfl, nq, rfl⟩
      have hend := hid (below_drewN (below_step (below_step hb1 hb2) hb3) nq)
      rcases HC.out with ⟨h, hc⟩ | ⟨h, hc⟩ | ⟨h, hc⟩
      · rw [hc]
        go_wp2_with fail
        go_ret
        first | exact ⟨rfl, hend.out⟩ | exact ⟨ret_true (by simp; omega), hend.out⟩
      · rw [hc]
        subst h
        go_wp2_with fail
        go_ret
        first | exact ⟨rfl, hend.out⟩ | exact ⟨ret_true (by simp; omega), hend.out⟩
      · rw [hc]
        go_wp2_with fail
        go_ret
        first | exact ⟨rfl, hend.out⟩ | exact ⟨ret_true (by simp; omega), hend.out⟩
    · have H2 := hid h2
      clear h1 h2
      go_enter Tryd.func9, Tryd.ntmps9
      go_wp2_with fail
      go_fit (put_nil_yes v n w HT.out HV.out.1 HV.out.2 H1.out)
      rintro e w1 ⟨A1, m1, c1, rfl, hr1, hb1⟩
      have HT1 := hid (HT.out.step hb1)
      go_wp2_with fail
      go_fit (put_nil_no u n w1 HT1.out HU.out.1 H2.out)
      rintro e w2 ⟨rfl, rfl⟩
      go_wp2_with fail
      go_fit (awake_yes w1 HT1.out)
      rintro e w3 ⟨rfl, hb3⟩
      go_wp2_with fail
      go_fit (awake_yes w3 (HT1.out.step hb3))
      rintro e w4 ⟨rfl, hb4⟩
      go_wp2_with fail
      go_ret
      exact ⟨rfl, below_step (below_step hb1 hb3) hb4⟩
  · have H1 := hid h1
    by_cases h2 : 1 ≤ n ∧ n ≤ 8 ∧ u.toNat / 256 ^ n.toNat = 0
    · have H2 := hid h2
      clear h1 h2
      go_enter Tryd.func9, Tryd.ntmps9
      go_wp2_with fail
      go_fit (put_nil_no v n w HT.out HV.out.1 H1.out)
      rintro e w1 ⟨rfl, rfl⟩
      go_wp2_with fail
      go_fit (put_nil_yes u n w HT.out HU.out.1 HU.out.2 H2.out)
      rintro e w2 ⟨A2, m2, c2, rfl, hr2, hb2⟩
      have HT2 := hid (HT.out.step hb2)
      go_wp2_with fail
      go_fit (awake_yes w2 HT2.out)
      rintro e w3 ⟨rfl, hb3⟩
      go_wp2_with fail
      go_fit (awake_yes w3 (HT2.out.step hb3))
      rintro e w4 ⟨rfl, hb4⟩
      go_wp2_with fail
      go_ret
      exact ⟨rfl, below_step (below_step hb2 hb3) hb4⟩
    · have H2 := hid h2
      clear h1 h2
      go_enter Tryd.func9, Tryd.ntmps9
      go_wp2_with fail
      go_fit (put_nil_no v n w HT.out HV.out.1 H1.out)
      rintro e w1 ⟨rfl, rfl⟩
      go_wp2_with fail
      go_fit (put_nil_no u n w HT.out HU.out.1 H2.out)
      rintro e w2 ⟨rfl, rfl⟩
      go_wp2_with fail
      go_fit (awake_yes w HT.out)
      rintro e w3 ⟨rfl, hb3⟩
      go_wp2_with fail
      go_fit (awake_yes w3 (HT.out.step hb3))
      rintro e w4 ⟨rfl, hb4⟩
      go_wp2_with fail
      go_ret
      exact ⟨rfl, below_step hb3 hb4⟩

end Go.Proofs.YtkcebnagpgpclaaDoor
