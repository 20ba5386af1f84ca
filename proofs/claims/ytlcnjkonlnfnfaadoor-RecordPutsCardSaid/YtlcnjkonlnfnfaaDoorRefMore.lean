/-
  The document's step and sum, by their contracts.
-/
import Derived.Test.YtlcnjkonlnfnfaaDoorRefStep
import Derived.Test.YtlcnjkonlnfnfaaDoorJSum
namespace Go.Proofs.YtlcnjkonlnfnfaaDoor
open Go Go.RowKit

/-- a bit as a number -/
def bitI (b : Bool) : Int := if b then 1 else 0
theorem v32_top (r : BitVec 32) : v32 r / (2147483648 : Int) = bitI r.msb := by
  have h := v32_msb r
  have h0 := v32_lo r
  have h1 := v32_hi r
  unfold bitI
  by_cases hm : r.msb = true
  · rw [hm] at h ⊢
    simpa using h
  · have hm' : r.msb = false := by simpa using hm
    rw [hm'] at h ⊢
    simp at h
    simp
    omega
theorem v32_dbl (r : BitVec 32) : (2 : Int) * v32 r % (4294967296 : Int) = v32 (r <<< 1) := by
  rw [← v32_shl, Int.pow_one, Int.mul_comm]

set_option maxHeartbeats 400000 in
theorem refStep_any (r : BitVec 32) (b : Bool) (w : World) :
    Calls Tryd.prog 61 #[.int .u64 (v32 r), .int .u64 (bitI b)] w fun e w' => e = .returned (.int .u64 (v32 (rstep r b))) ∧ w = w' := by
  have h0 := v32_lo r
  have h1 := v32_hi r
  have ht := v32_top r
  have hd := v32_dbl r
  have hB : (bitI r.msb != bitI b) = (r.msb ^^ b) := by cases r.msb <;> cases b <;> rfl
  obtain ⟨T, hT⟩ : ∃ T, T = bitI r.msb := ⟨_, rfl⟩
  obtain ⟨C, hC⟩ : ∃ C, C = bitI b := ⟨_, rfl⟩
  rw [← hT] at ht hB
  rw [← hC] at hB ⊢
  cases hb : (r.msb ^^ b)
  · have e : rstep r b = r <<< 1 := by unfold rstep; rw [hb]; simp
    rw [hb] at hB
    have hB2 : (T == C) = true := by simpa using hB
    rw [e]
    clear e hb hT hC
    go_enter Tryd.func61, Tryd.ntmps61
    go_wp2_with fail
    go_ret
    exact ⟨rfl, rfl⟩
  · have e : rstep r b = r <<< 1 ^^^ poly := by unfold rstep; rw [hb]; simp
    rw [hb] at hB
    have hB2 : (T == C) = false := by simpa using hB
    have HP := hid (turned_any (r <<< 1) poly w)
    rw [v32_poly] at HP
    rw [e]
    clear e hb hT hC
    go_enter Tryd.func61, Tryd.ntmps61
    go_wp2_with fail
    go_fit HP.out
    rintro e w' ⟨rfl, rfl⟩
    go_wp2_with fail
    go_ret
    exact ⟨rfl, rfl⟩

theorem bits8_take (x : UInt8) (k : Nat) (hk : k < 8) : (bits8 x).take (k + 1) = (bits8 x).take k ++ [x.toNat.testBit (7 - k)] := by
  rw [List.take_succ_eq_append_getElem (by simpa [bits8] using hk)]
  simp [bits8]
theorem bit_at (x : Nat) (k : Nat) (hk : k < 8) : ((x / (128 / 2 ^ k) % 2 : Nat) : Int) = bitI (x.testBit (7 - k)) := by
  have e : 128 / 2 ^ k = 2 ^ (7 - k) := by
    rw [show 128 = 2 ^ 7 from rfl, Nat.pow_div (by omega) (by decide)]
  rw [e, Nat.testBit_eq_decide_div_mod_eq]
  unfold bitI
  have h := Nat.mod_two_eq_zero_or_one (x / 2 ^ (7 - k))
  rcases h with h | h <;> rw [h] <;> rfl

theorem bit_walk (x p : Nat) (hx : x < 256) : (IntKind.u64.wrap ((x : Int) / (p : Int))).tmod 2 = ((x / p % 2 : Nat) : Int) := by
  have h : x / p ≤ x := Nat.div_le_self _ _
  rw [← Int.natCast_ediv]
  obtain ⟨q, hq⟩ : ∃ q, q = x / p := ⟨_, rfl⟩
  rw [← hq] at h ⊢
  rw [IntKind.wrap_u64, Int.emod_eq_of_lt (by omega) (by omega), Int.tmod_eq_emod_of_nonneg (by omega)]
  omega

set_option maxHeartbeats 1000000 in
theorem refMore_any (s : BitVec 32) (l : List UInt8) (w : World) (hl : l.length ≤ 70368744177664) :
    Calls Tryd.prog 55 #[.int .u32 (v32 s), .string (bst l)] w fun e w' => e = .returned (.int .u32 (v32 (more s l))) ∧ w = w' := by
  obtain ⟨S, hs⟩ : ∃ s, s = bst l := ⟨_, rfl⟩
  have hsz : S.size = l.length := by rw [hs, bst_size]
  have hle : S.size ≤ 70368744177664 := by omega
  have HS := hid hs
  have HZ := hid hsz
  rw [← hs]
  have h0 := v32_lo s
  have h1 := v32_hi s
  have hsub := v32_sub s
  clear hs hsz hl
  go_enter Tryd.func55, Tryd.ntmps55
  go_wp2_with fail
  clear h0 h1 hsub
  go_loop [5, 6, 7, 8] (fun r i _ _ => ∃ k : Nat, k ≤ S.size ∧ i = .int .i64 (k : Int) ∧ r = .int .u64 (v32 (feedB (~~~s) (l.take k)))) (fun _ i _ _ => S.size - (intOf i).toNat)
  case atStart => exact ⟨0, Nat.zero_le _, rfl, rfl⟩
  case round =>
    obtain ⟨k, hk, rfl, rfl⟩ := hrel
    by_cases hlt : k < S.size
    · have hex : ∃ x, l[k]? = some x := ⟨_, List.getElem?_eq_getElem (by rw [← HZ.out]; exact hlt)⟩
      obtain ⟨x, hx⟩ := hex
      have hsk := bst_get HS.out hx hlt
      have HT := hid (feedB_take (~~~s) hx)
      obtain ⟨R, hR⟩ : ∃ R, R = feedB (~~~s) (l.take k) := ⟨_, rfl⟩
      rw [← hR] at HT ⊢
      clear hx hR
      go_wp2_with fail
      go_loop [5, 7, 8] (fun r p i => ∃ j : Nat, j ≤ 8 ∧ i = .int .i64 (j : Int) ∧ p = .int .u64 ((128 / 2 ^ j : Nat) : Int) ∧ r = .int .u64 (v32 (feed R ((bits8 x).take j)))) (fun _ _ i => 8 - (intOf i).toNat)
      case atStart => exact ⟨0, Nat.zero_le _, rfl, rfl, rfl⟩
      case round =>
        obtain ⟨j, hj, rfl, rfl, rfl⟩ := hrel
        by_cases hjl : j < 8
        · have hp1 : 1 ≤ 128 / 2 ^ j := by rw [show 128 = 2 ^ 7 from rfl, Nat.pow_div (by omega) (by decide)]; exact Nat.pow_pos (by decide)
          have hp2 : 128 / 2 ^ j ≤ 128 := Nat.div_le_self _ _
          have hbt := bit_at x.toNat j hjl
          have HK := hid (bits8_take x j hjl)
          have hpd : 128 / 2 ^ (j + 1) = 128 / 2 ^ j / 2 := by rw [Nat.div_div_eq_div_mul, ← Nat.pow_succ]
          obtain ⟨p, hp⟩ : ∃ p, p = 128 / 2 ^ j := ⟨_, rfl⟩
          rw [← hp] at hp1 hp2 hbt hpd ⊢
          have HPD := hid hpd
          obtain ⟨b, hb⟩ : ∃ b, b = x.toNat.testBit (7 - j) := ⟨_, rfl⟩
          rw [← hb] at hbt HK
          obtain ⟨Q, hQ⟩ : ∃ Q, Q = feed R ((bits8 x).take j) := ⟨_, rfl⟩
          rw [← hQ]
          have HQ := hid hQ
          have hx8 := x.toNat_lt
          have hbt2 : (IntKind.u64.wrap ((x.toNat : Int) / (p : Int))).tmod 2 = bitI b := by rw [← hbt]; exact bit_walk _ _ hx8
          clear hp hb hQ hpd hbt
          go_wp2_with fail
          go_fit (refStep_any Q b w)
          rintro e w' ⟨rfl, rfl⟩
          go_wp2_with fail
          go_round
          case rel => exact ⟨j + 1, by omega, by go_num, by rw [HPD.out]; go_num, by rw [HK.out, feed_append, ← HQ.out]; rfl⟩
          case measure => simp [intOf]; omega
        · have hj8 : j = 8 := by omega
          subst hj8
          have h8 : (bits8 x).take 8 = bits8 x := rfl
          rw [h8]
          clear h8
          go_wp2_with fail
          go_round
          case rel => exact ⟨k + 1, by omega, by go_num, by rw [HT.out]⟩
          case measure => simp [intOf]; omega
    · have hkm : k = S.size := by omega
      have e3 : l.take k = l := List.take_of_length_le (by rw [hkm, HZ.out]; exact Nat.le_refl _)
      rw [e3]
      have hn := v32_sub (feedB (~~~s) l)
      have h0 := v32_lo (feedB (~~~s) l)
      have h1 := v32_hi (feedB (~~~s) l)
      clear e3 hkm
      go_wp2
      go_ret
      exact ⟨rfl, rfl⟩

theorem refOf_any (l : List UInt8) (w : World) (hl : l.length ≤ 70368744177664) :
    Calls Tryd.prog 41 #[.string (bst l)] w fun e w' => e = .returned (.int .u32 (v32 (more 0#32 l))) ∧ w = w' := by
  have HM := hid (refMore_any 0#32 l w hl)
  have e0 : v32 0#32 = 0 := rfl
  rw [e0] at HM
  clear e0
  go_enter Tryd.func41, Tryd.ntmps41
  go_wp2_with fail
  go_fit HM.out
  rintro e w1 ⟨rfl, rfl⟩
  go_wp2_with fail
  go_ret
  exact ⟨rfl, rfl⟩

end Go.Proofs.YtlcnjkonlnfnfaaDoor
