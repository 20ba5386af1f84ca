/-
  SumSteps: its walk.
-/
import Derived.Test.YtignjgjoejimcaaDoorAwake
namespace Go.Proofs.YtignjgjoejimcaaDoor
open Go Go.RowKit

theorem and_one8 (q : Nat) (h : q < 256) : bits .and .u8 (q : Int) 1 = ((q % 2 : Nat) : Int) := by
  have := u8_and_nat q 1 h (by decide)
  rw [Nat.and_one_is_mod] at this
  exact this
theorem bit8 (x M : Nat) (hx : x < 256) : (bits .and .u8 ((x : Int) / 2 ^ M) 1 == 1) = x.testBit M := by
  have e : (x : Int) / 2 ^ M = ((x / 2 ^ M : Nat) : Int) := by simp
  have h : x / 2 ^ M ≤ x := Nat.div_le_self _ _
  rw [e, and_one8 _ (by omega), Nat.testBit_eq_decide_div_mod_eq]
  rcases Nat.mod_two_eq_zero_or_one (x / 2 ^ M) with h | h <;> rw [h] <;> rfl

set_option maxHeartbeats 2000000 in
theorem steps_walk (v b : Int) (hv : 0 ≤ v ∧ v < 4294967296) (hb : 0 ≤ b ∧ b < 256) (w : World) (hT : Table w) :
    Calls Tryd.prog 5 #[.int .u32 v, .int .u8 b] w fun e w' => e = .returned (.bool true) ∧ Below w.heap.size w w' := by
  have HT := hid hT
  clear hT
  obtain ⟨s, rfl⟩ := v32_of hv.1 hv.2
  clear hv
  obtain ⟨x, hx⟩ : ∃ x : UInt8, b = (x.toNat : Int) := ⟨UInt8.ofNat b.toNat, by rw [UInt8.toNat_ofNat']; omega⟩
  subst hx
  have hx8 := x.toNat_lt
  clear hb
  have hx0 : (x.toNat : Int) < 256 := by omega
  go_enter Tryd.func5, Tryd.ntmps5
  go_wp2_with fail
  go_loop [5, 6] (fun r i => (∃ M : Nat, M < 8 ∧ i = .int .i64 (M : Int) ∧ r = .int .u32 (v32 (~~~(feed (~~~s) ((bits8 x).take (7 - M)))))) ∨ (i = .int .i64 (-1) ∧ r = .int .u32 (v32 (~~~(feed (~~~s) (bits8 x)))))) (fun _ i => (intOf i + 1).toNat)
  case atStart => exact .inl ⟨7, by decide, rfl, by simp [feed]⟩
  case round =>
    rcases hrel with ⟨M, hM, rfl, rfl⟩ | ⟨rfl, rfl⟩
    · have hbit := bit8 x.toNat M hx8
      have ht := bits8_take x (7 - M) (by omega)
      rw [show 7 - (7 - M) = M by omega] at ht
      obtain ⟨q, hq⟩ : ∃ q, q = x.toNat.testBit M := ⟨_, rfl⟩
      rw [← hq] at hbit ht
      obtain ⟨S, hS⟩ : ∃ S, S = ~~~(feed (~~~s) ((bits8 x).take (7 - M))) := ⟨_, rfl⟩
      rw [← hS]
      have HS := hid hS
      have HTK := hid ht
      clear hS ht hq
      go_wp2_with fail
      go_fit (step_any S q w)
      rintro e w' ⟨rfl, rfl⟩
      go_wp2_with fail
      go_round
      case rel =>
        rw [HS.out, BitVec.not_not]
        by_cases h0 : M = 0
        · subst h0
          refine .inr ⟨rfl, ?_⟩
          have : bits8 x = (bits8 x).take (7 - 0 + 1) := by rfl
          rw [this, HTK.out, feed_append]
          rfl
        · refine .inl ⟨M - 1, by omega, by go_num, ?_⟩
          rw [show 7 - (M - 1) = 7 - M + 1 by omega, HTK.out, feed_append]
          rfl
      case measure => simp [intOf]
    · have hm1 : more s [x] = ~~~(feed (~~~s) (bits8 x)) := by simp [more, feedB]
      obtain ⟨R, hR⟩ : ∃ R, R = ~~~(feed (~~~s) (bits8 x)) := ⟨_, rfl⟩
      rw [← hR] at hm1
      rw [← hR]
      have h1 : bits .and .u8 (x.toNat : Int) 1 = bitI (x.toNat.testBit 0) := by
        rw [and_one8 _ hx8, Nat.testBit_eq_decide_div_mod_eq]
        unfold bitI
        rcases Nat.mod_two_eq_zero_or_one x.toNat with h | h <;> simp [h]
      obtain ⟨q, hq⟩ : ∃ q, q = x.toNat.testBit 0 := ⟨_, rfl⟩
      rw [← hq] at h1
      have h2 : IntKind.u64.wrap (bitI q) = bitI q := by cases q <;> rfl
      have h3 : (bitI q == 1) = q := by cases q <;> rfl
      have h4 := v32_sub (~~~(rstep (~~~s) q))
      rw [BitVec.not_not] at h4
      have h5 := v32_sub s
      have h6 := v32_wrap (rstep (~~~s) q)
      have h7 := v32_wrap (~~~s)
      have h8 : v32 (~~~s) % (4294967296 : Int) = v32 (~~~s) := Int.emod_eq_of_lt (v32_lo _) (v32_hi _)
      have h9 : v32 (rstep (~~~s) q) % (4294967296 : Int) = v32 (rstep (~~~s) q) := Int.emod_eq_of_lt (v32_lo _) (v32_hi _)
      have k1 := v32_lo (~~~(rstep (~~~s) q))
      have k2 := v32_lo s
      have HM := hid (fun (A : Option Addr) (B : Nat) (w : World) (hA : At w B A [x]) (hB : B ≤ w.heap.size) => more_any A 1 1 B s [x] w rfl hA hB (by simp))
      rw [hm1] at HM
      have HC := fun W => hid (At.one W x 5)
      clear hm1 hR hq
      go_wp2_with fail
      go_fit (awake_yes w HT.out)
      rintro e w1 ⟨rfl, hb1⟩
      have HB1 := hid hb1
      clear hb1
      go_wp2_with fail
      go_fit (HM.out _ _ _ (HC w1).out (by simp))
      rintro e w2 ⟨rfl, hb2⟩
      have HB2 := hid (after_alloc hb2)
      clear hb2
      go_wp2_with fail
      go_fit (step_any s q w2)
      rintro e w3 ⟨rfl, rfl⟩
      go_wp2_with fail
      go_fit (refStep_any (~~~s) q w2)
      rintro e w3 ⟨rfl, rfl⟩
      go_wp2_with fail
      go_ret
      exact ⟨rfl, below_step HB1.out HB2.out⟩

end Go.Proofs.YtignjgjoejimcaaDoor
