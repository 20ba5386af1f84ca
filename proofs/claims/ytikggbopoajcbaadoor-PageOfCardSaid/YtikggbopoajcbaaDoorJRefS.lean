/-
  The document's step of a register, by its contract. The document's step and sum, by their contracts. The document's sealing and opening, by their contracts. The document's opening, by its contract.
-/
import Derived.Test.YtikggbopoajcbaaDoorJSum
import Derived.Test.YtikggbopoajcbaaDoorWords
import Derived.Deep.DeepFit
namespace Go.Proofs.YtikggbopoajcbaaDoor
open Go Go.RowKit

theorem xor_mod (a b k : Nat) : (a ^^^ b) % 2 ^ (k + 1) = (a ^^^ b) % 2 ^ k + (if a / 2 ^ k % 2 = b / 2 ^ k % 2 then 0 else 2 ^ k) := by
  have e : (a ^^^ b) / 2 ^ k % 2 = if a / 2 ^ k % 2 = b / 2 ^ k % 2 then 0 else 1 := by
    rw [Nat.xor_div_two_pow]
    have h1 := Nat.mod_two_eq_zero_or_one (a / 2 ^ k)
    have h2 := Nat.mod_two_eq_zero_or_one (b / 2 ^ k)
    have h3 := Nat.xor_mod_two_pow (a := a / 2 ^ k) (b := b / 2 ^ k) (n := 1)
    rw [Nat.pow_one] at h3
    rw [h3]
    rcases h1 with h1 | h1 <;> rcases h2 with h2 | h2 <;> rw [h1, h2] <;> rfl
  rw [Nat.mod_pow_succ, e]
  congr 1
  split <;> simp

set_option maxHeartbeats 400000 in
theorem turned_any (a b : BitVec 32) (w : World) :
    Calls Tryd.prog 94 #[.int .u64 (v32 a), .int .u64 (v32 b)] w fun e w' => e = .returned (.int .u64 (v32 (a ^^^ b))) ∧ w = w' := by
  have ha := a.isLt
  have hb := b.isLt
  obtain ⟨A, hA⟩ : ∃ A, A = a.toNat := ⟨_, rfl⟩
  obtain ⟨B, hB⟩ : ∃ B, B = b.toNat := ⟨_, rfl⟩
  have e1 : v32 a = (A : Int) := by rw [hA]; rfl
  have e2 : v32 b = (B : Int) := by rw [hB]; rfl
  have e3 : v32 (a ^^^ b) = ((A ^^^ B : Nat) : Int) := by unfold v32; rw [BitVec.toNat_xor, hA, hB]
  rw [e1, e2, e3]
  rw [← hA] at ha
  rw [← hB] at hb
  have HX := hid (Nat.mod_eq_of_lt (Nat.xor_lt_two_pow ha hb))
  have HA := hid ha
  have HB := hid hb
  clear e1 e2 e3 hA hB ha hb
  go_enter Tryd.func94, Tryd.ntmps94
  go_wp2
  go_loop [0, 1, 5, 6, 7] (fun u v o p i => ∃ k : Nat, k ≤ 32 ∧ i = .int .i64 (k : Int) ∧ u = .int .u64 ((A / 2 ^ k : Nat) : Int) ∧ v = .int .u64 ((B / 2 ^ k : Nat) : Int) ∧ p = .int .u64 ((2 ^ k : Nat) : Int) ∧ o = .int .u64 (((A ^^^ B) % 2 ^ k : Nat) : Int)) (fun _ _ _ _ i => 32 - (intOf i).toNat)
  case atStart => exact ⟨0, Nat.zero_le _, rfl, by simp, by simp, rfl, by simp [Nat.mod_one]⟩
  case round =>
    obtain ⟨k, hk, rfl, rfl, rfl, rfl, rfl⟩ := hrel
    by_cases hlt : k < 32
    · have hu := Nat.div_le_self A (2 ^ k)
      have hv := Nat.div_le_self B (2 ^ k)
      have hp : 2 ^ k ≤ 2 ^ 31 := Nat.pow_le_pow_right (by decide) (by omega)
      have ho := Nat.mod_lt (A ^^^ B) (Nat.pow_pos (by decide) : 0 < 2 ^ k)
      have hm := xor_mod A B k
      have d1 := Nat.div_div_eq_div_mul A (2 ^ k) 2
      have d2 := Nat.div_div_eq_div_mul B (2 ^ k) 2
      rw [← Nat.pow_succ] at d1 d2
      have d3 := Nat.pow_succ 2 k
      obtain ⟨u, hu'⟩ : ∃ u, u = A / 2 ^ k := ⟨_, rfl⟩
      obtain ⟨v, hv'⟩ : ∃ v, v = B / 2 ^ k := ⟨_, rfl⟩
      obtain ⟨p, hp'⟩ : ∃ p, p = 2 ^ k := ⟨_, rfl⟩
      obtain ⟨o, ho'⟩ : ∃ o, o = (A ^^^ B) % 2 ^ k := ⟨_, rfl⟩
      rw [← ho', ← hu', ← hv', ← hp'] at hm
      rw [← hu'] at d1 hu
      rw [← hv'] at d2 hv
      rw [← ho', ← hp'] at ho
      rw [← hp'] at d3 hp
      rw [← ho', ← hu', ← hv', ← hp']
      have hu2 : u < 4294967296 := Nat.lt_of_le_of_lt hu HA.out
      have hv2 : v < 4294967296 := Nat.lt_of_le_of_lt hv HB.out
      have D1 := hid d1
      have D2 := hid d2
      have D3 := hid d3
      clear d1 d2 d3 hu hv hu' hv' hp' ho'
      by_cases hq : u % 2 = v % 2
      · rw [if_pos hq] at hm
        have HM := hid hm
        have hq1 : (((u : Int) % 2) != ((v : Int) % 2)) = false := by simp; omega
        have hq2 : (((u : Int) % 2) == ((v : Int) % 2)) = true := by simp; omega
        clear hm hq
        go_wp2
        go_round
        case rel => exact ⟨k + 1, by omega, by go_num, by rw [← D1.out]; go_num, by rw [← D2.out]; go_num, by rw [D3.out]; go_num, by rw [HM.out]; go_num⟩
        case measure => simp [intOf]; omega
      · rw [if_neg hq] at hm
        have HM := hid hm
        have hq1 : (((u : Int) % 2) != ((v : Int) % 2)) = true := by simp; omega
        have hq2 : (((u : Int) % 2) == ((v : Int) % 2)) = false := by simp; omega
        clear hm hq
        go_wp2
        go_round
        case rel => exact ⟨k + 1, by omega, by go_num, by rw [← D1.out]; go_num, by rw [← D2.out]; go_num, by rw [D3.out]; go_num, by rw [HM.out]; go_num⟩
        case measure => simp [intOf]; omega
    · have hk32 : k = 32 := by omega
      subst hk32
      rw [HX.out]
      go_wp2
      go_ret
      exact ⟨rfl, rfl⟩

end Go.Proofs.YtikggbopoajcbaaDoor

namespace Go.Proofs.YtikggbopoajcbaaDoor
open Go Go.RowKit

/-- a bit as a number -/
def bitI (b : Bool) : Int := if b then 1 else 0
theorem v32_top (r : BitVec 32) : v32 r / (2147483648 : Int) = bitI r.msb := by
  have h := v32_msb r
  have h0 := v32_lo r
  have h1 := v32_hi r
  unfold bitI
  by_cases hm : r.msb = true
  · rw [hm] at h ⊢
    simpa using h
  · have hm' : r.msb = false := by simpa using hm
    rw [hm'] at h ⊢
    simp at h
    simp
    omega
theorem v32_dbl (r : BitVec 32) : (2 : Int) * v32 r % (4294967296 : Int) = v32 (r <<< 1) := by
  rw [← v32_shl, Int.pow_one, Int.mul_comm]

set_option maxHeartbeats 400000 in
theorem refStep_any (r : BitVec 32) (b : Bool) (w : World) :
    Calls Tryd.prog 86 #[.int .u64 (v32 r), .int .u64 (bitI b)] w fun e w' => e = .returned (.int .u64 (v32 (rstep r b))) ∧ w = w' := by
  have h0 := v32_lo r
  have h1 := v32_hi r
  have ht := v32_top r
  have hd := v32_dbl r
  have hB : (bitI r.msb != bitI b) = (r.msb ^^ b) := by cases r.msb <;> cases b <;> rfl
  obtain ⟨T, hT⟩ : ∃ T, T = bitI r.msb := ⟨_, rfl⟩
  obtain ⟨C, hC⟩ : ∃ C, C = bitI b := ⟨_, rfl⟩
  rw [← hT] at ht hB
  rw [← hC] at hB ⊢
  cases hb : (r.msb ^^ b)
  · have e : rstep r b = r <<< 1 := by unfold rstep; rw [hb]; simp
    rw [hb] at hB
    have hB2 : (T == C) = true := by simpa using hB
    rw [e]
    clear e hb hT hC
    go_enter Tryd.func86, Tryd.ntmps86
    go_wp2_with fail
    go_ret
    exact ⟨rfl, rfl⟩
  · have e : rstep r b = r <<< 1 ^^^ poly := by unfold rstep; rw [hb]; simp
    rw [hb] at hB
    have hB2 : (T == C) = false := by simpa using hB
    have HP := hid (turned_any (r <<< 1) poly w)
    rw [v32_poly] at HP
    rw [e]
    clear e hb hT hC
    go_enter Tryd.func86, Tryd.ntmps86
    go_wp2_with fail
    go_fit HP.out
    rintro e w' ⟨rfl, rfl⟩
    go_wp2_with fail
    go_ret
    exact ⟨rfl, rfl⟩

theorem bits8_take (x : UInt8) (k : Nat) (hk : k < 8) : (bits8 x).take (k + 1) = (bits8 x).take k ++ [x.toNat.testBit (7 - k)] := by
  rw [List.take_succ_eq_append_getElem (by simpa [bits8] using hk)]
  simp [bits8]
theorem bit_at (x : Nat) (k : Nat) (hk : k < 8) : ((x / (128 / 2 ^ k) % 2 : Nat) : Int) = bitI (x.testBit (7 - k)) := by
  have e : 128 / 2 ^ k = 2 ^ (7 - k) := by
    rw [show 128 = 2 ^ 7 from rfl, Nat.pow_div (by omega) (by decide)]
  rw [e, Nat.testBit_eq_decide_div_mod_eq]
  unfold bitI
  have h := Nat.mod_two_eq_zero_or_one (x / 2 ^ (7 - k))
  rcases h with h | h <;> rw [h] <;> rfl

theorem bit_walk (x p : Nat) (hx : x < 256) : (IntKind.u64.wrap ((x : Int) / (p : Int))).tmod 2 = ((x / p % 2 : Nat) : Int) := by
  have h : x / p ≤ x := Nat.div_le_self _ _
  rw [← Int.natCast_ediv]
  obtain ⟨q, hq⟩ : ∃ q, q = x / p := ⟨_, rfl⟩
  rw [← hq] at h ⊢
  rw [IntKind.wrap_u64, Int.emod_eq_of_lt (by omega) (by omega), Int.tmod_eq_emod_of_nonneg (by omega)]
  omega

set_option maxHeartbeats 1000000 in
theorem refMore_any (s : BitVec 32) (l : List UInt8) (w : World) (hl : l.length ≤ 70368744177664) :
    Calls Tryd.prog 66 #[.int .u32 (v32 s), .string (bst l)] w fun e w' => e = .returned (.int .u32 (v32 (more s l))) ∧ w = w' := by
  obtain ⟨S, hs⟩ : ∃ s, s = bst l := ⟨_, rfl⟩
  have hsz : S.size = l.length := by rw [hs, bst_size]
  have hle : S.size ≤ 70368744177664 := by omega
  have HS := hid hs
  have HZ := hid hsz
  rw [← hs]
  have h0 := v32_lo s
  have h1 := v32_hi s
  have hsub := v32_sub s
  clear hs hsz hl
  go_enter Tryd.func66, Tryd.ntmps66
  go_wp2_with fail
  clear h0 h1 hsub
  go_loop [5, 6, 7, 8] (fun r i _ _ => ∃ k : Nat, k ≤ S.size ∧ i = .int .i64 (k : Int) ∧ r = .int .u64 (v32 (feedB (~~~s) (l.take k)))) (fun _ i _ _ => S.size - (intOf i).toNat)
  case atStart => exact ⟨0, Nat.zero_le _, rfl, rfl⟩
  case round =>
    obtain ⟨k, hk, rfl, rfl⟩ := hrel
    by_cases hlt : k < S.size
    · have hex : ∃ x, l[k]? = some x := ⟨_, List.getElem?_eq_getElem (by rw [← HZ.out]; exact hlt)⟩
      obtain ⟨x, hx⟩ := hex
      have hsk := bst_get HS.out hx hlt
      have HT := hid (feedB_take (~~~s) hx)
      obtain ⟨R, hR⟩ : ∃ R, R = feedB (~~~s) (l.take k) := ⟨_, rfl⟩
      rw [← hR] at HT ⊢
      clear hx hR
      go_wp2_with fail
      go_loop [5, 7, 8] (fun r p i => ∃ j : Nat, j ≤ 8 ∧ i = .int .i64 (j : Int) ∧ p = .int .u64 ((128 / 2 ^ j : Nat) : Int) ∧ r = .int .u64 (v32 (feed R ((bits8 x).take j)))) (fun _ _ i => 8 - (intOf i).toNat)
      case atStart => exact ⟨0, Nat.zero_le _, rfl, rfl, rfl⟩
      case round =>
        obtain ⟨j, hj, rfl, rfl, rfl⟩ := hrel
        by_cases hjl : j < 8
        · have hp1 : 1 ≤ 128 / 2 ^ j := by rw [show 128 = 2 ^ 7 from rfl, Nat.pow_div (by omega) (by decide)]; exact Nat.pow_pos (by decide)
          have hp2 : 128 / 2 ^ j ≤ 128 := Nat.div_le_self _ _
          have hbt := bit_at x.toNat j hjl
          have HK := hid (bits8_take x j hjl)
          have hpd : 128 / 2 ^ (j + 1) = 128 / 2 ^ j / 2 := by rw [Nat.div_div_eq_div_mul, ← Nat.pow_succ]
          obtain ⟨p, hp⟩ : ∃ p, p = 128 / 2 ^ j := ⟨_, rfl⟩
          rw [← hp] at hp1 hp2 hbt hpd ⊢
          have HPD := hid hpd
          obtain ⟨b, hb⟩ : ∃ b, b = x.toNat.testBit (7 - j) := ⟨_, rfl⟩
          rw [← hb] at hbt HK
          obtain ⟨Q, hQ⟩ : ∃ Q, Q = feed R ((bits8 x).take j) := ⟨_, rfl⟩
          rw [← hQ]
          have HQ := hid hQ
          have hx8 := x.toNat_lt
          have hbt2 : (IntKind.u64.wrap ((x.toNat : Int) / (p : Int))).tmod 2 = bitI b := by rw [← hbt]; exact bit_walk _ _ hx8
          clear hp hb hQ hpd hbt
          go_wp2_with fail
          go_fit (refStep_any Q b w)
          rintro e w' ⟨rfl, rfl⟩
          go_wp2_with fail
          go_round
          case rel => exact ⟨j + 1, by omega, by go_num, by rw [HPD.out]; go_num, by rw [HK.out, feed_append, ← HQ.out]; rfl⟩
          case measure => simp [intOf]; omega
        · have hj8 : j = 8 := by omega
          subst hj8
          have h8 : (bits8 x).take 8 = bits8 x := rfl
          rw [h8]
          clear h8
          go_wp2_with fail
          go_round
          case rel => exact ⟨k + 1, by omega, by go_num, by rw [HT.out]⟩
          case measure => simp [intOf]; omega
    · have hkm : k = S.size := by omega
      have e3 : l.take k = l := List.take_of_length_le (by rw [hkm, HZ.out]; exact Nat.le_refl _)
      rw [e3]
      have hn := v32_sub (feedB (~~~s) l)
      have h0 := v32_lo (feedB (~~~s) l)
      have h1 := v32_hi (feedB (~~~s) l)
      clear e3 hkm
      go_wp2
      go_ret
      exact ⟨rfl, rfl⟩

theorem refOf_any (l : List UInt8) (w : World) (hl : l.length ≤ 70368744177664) :
    Calls Tryd.prog 44 #[.string (bst l)] w fun e w' => e = .returned (.int .u32 (v32 (more 0#32 l))) ∧ w = w' := by
  have HM := hid (refMore_any 0#32 l w hl)
  have e0 : v32 0#32 = 0 := rfl
  rw [e0] at HM
  clear e0
  go_enter Tryd.func44, Tryd.ntmps44
  go_wp2_with fail
  go_fit HM.out
  rintro e w1 ⟨rfl, rfl⟩
  go_wp2_with fail
  go_ret
  exact ⟨rfl, rfl⟩

end Go.Proofs.YtikggbopoajcbaaDoor

namespace Go.Proofs.YtikggbopoajcbaaDoor
open Go Go.RowKit

theorem sum4_cells (l : List UInt8) (v : Int) (hv : v = v32 (more 0#32 l)) :
    #[Value.int .u8 (v / (16777216 : Int)), .int .u8 (v / (65536 : Int) % (256 : Int)), .int .u8 (v / (256 : Int) % (256 : Int)), .int .u8 (v % (256 : Int))] = (bs (sum4 l)).toArray := by
  have h := (more 0#32 l).isLt
  have e : v = ((more 0#32 l).toNat : Int) := hv
  obtain ⟨n, hn⟩ : ∃ n, n = (more 0#32 l).toNat := ⟨_, rfl⟩
  rw [← hn] at e h
  have e4 : sum4 l = [UInt8.ofNat (n / 256 ^ 3), UInt8.ofNat (n / 256 ^ 2), UInt8.ofNat (n / 256 ^ 1), UInt8.ofNat (n / 256 ^ 0)] := by
    unfold sum4
    rw [← hn]
    rfl
  rw [e4, e]
  simp only [bs, List.map_cons, List.map_nil, UInt8.toNat_ofNat']
  congr 1
  simp only [List.cons.injEq, Value.int.injEq, true_and, and_true]
  omega

theorem sum4_conv (l : List UInt8) (v : Int) (hv : v = v32 (more 0#32 l)) (W : World) :
    (convert 27 9 (.slice (some ⟨W.heap.size, 0, none⟩) 4 4)).run Tryd.prog
      (W.alloc (.cells #[Value.int .u8 (v / (16777216 : Int)), .int .u8 (v / (65536 : Int) % (256 : Int)), .int .u8 (v / (256 : Int) % (256 : Int)), .int .u8 (v % (256 : Int))] 5)) =
    .ok (.string (bst (sum4 l))) (W.alloc (.cells #[Value.int .u8 (v / (16777216 : Int)), .int .u8 (v / (65536 : Int) % (256 : Int)), .int .u8 (v / (256 : Int) % (256 : Int)), .int .u8 (v % (256 : Int))] 5)) := by
  rw [sum4_cells l v hv]
  exact str_of (At.lits W (sum4 l) 5 rfl) (sum4_length l).symm

set_option maxHeartbeats 400000 in
theorem refSeal_any (l : List UInt8) (w : World) (hl : l.length ≤ 70368744177664) :
    Calls Tryd.prog 17 #[.string (bst l)] w fun e w' => e = .returned (.string (bst (l ++ sum4 l))) ∧ Below w.heap.size w w' := by
  have hz := bst_size l
  have hz2 := bst_size (sum4 l)
  rw [sum4_length] at hz2
  have hap := bst_append l (sum4 l)
  obtain ⟨v, hv⟩ : ∃ v, v = v32 (more 0#32 l) := ⟨_, rfl⟩
  have h0 := v32_lo (more 0#32 l)
  have h1 := v32_hi (more 0#32 l)
  have HO := hid (refOf_any l w hl)
  rw [← hv] at h0 h1 HO
  have hcv := sum4_conv l v hv
  clear hv
  go_enter Tryd.func17, Tryd.ntmps17
  go_wp2_with fail
  go_fit HO.out
  rintro e w1 ⟨rfl, rfl⟩
  go_wp2_with fail
  go_ret
  exact ⟨rfl, (Below.refl _ _).alloc (Nat.le_refl _) _⟩

end Go.Proofs.YtikggbopoajcbaaDoor

namespace Go.Proofs.YtikggbopoajcbaaDoor
open Go Go.RowKit

theorem bst_inj {a b : List UInt8} (h : bst a = bst b) : a = b := by
  have := congrArg (fun s => s.data.toList) h
  simpa [bst] using this
theorem bst_take2 (l : List UInt8) (n : Nat) : (bst l).extract 0 n = bst (l.take n) := by
  apply ByteArray.ext
  simp [bst]

set_option maxHeartbeats 400000 in
theorem refOpen_short (l : List UInt8) (w : World) (hl : l.length < 4) :
    Calls Tryd.prog 52 #[.string (bst l)] w fun e w' => e = .returned (.tuple #[.string (bst []), .int .i64 20]) ∧ w = w' := by
  have hz := bst_size l
  go_enter Tryd.func52, Tryd.ntmps52
  go_wp2_with fail
  go_ret2
  exact ⟨rfl, rfl⟩

set_option maxHeartbeats 400000 in
theorem refOpen_good (l : List UInt8) (n : Nat) (w : World) (hn : n + 4 = l.length) (hl : l.length ≤ 70368744177664) (hok : l.drop n = sum4 (l.take n)) :
    Calls Tryd.prog 52 #[.string (bst l)] w fun e w' => e = .returned (.tuple #[.string (bst (l.take n)), .int .i64 0]) ∧ Below w.heap.size w w' := by
  have hz := bst_size l
  rw [← hn] at hz
  have hb : n ≤ 70368744177664 := by omega
  have heq : ((bst (l.take n ++ sum4 (l.take n))).toList == (bst l).toList) = true := by
    rw [bst_toList, bst_toList]
    rw [← hok, List.take_append_drop]
    simp
  obtain ⟨s, hs⟩ : ∃ s, s = bst l := ⟨_, rfl⟩
  have ht := bst_take2 l n
  rw [← hs] at hz ht heq ⊢
  have hpl : (l.take n).length ≤ 70368744177664 := by rw [List.length_take]; omega
  obtain ⟨p, hp⟩ : ∃ p, p = l.take n := ⟨_, rfl⟩
  rw [← hp] at ht heq hpl ⊢
  have HPL := hid hpl
  clear hs hn hp hpl hok
  go_enter Tryd.func52, Tryd.ntmps52
  go_wp2_with fail
  go_fit (refSeal_any p w HPL.out)
  rintro e w1 ⟨rfl, hb1⟩
  go_wp2_with fail
  go_ret2
  exact ⟨rfl, hb1⟩

set_option maxHeartbeats 400000 in
theorem refOpen_wrong (l : List UInt8) (n : Nat) (w : World) (hn : n + 4 = l.length) (hl : l.length ≤ 70368744177664) (hok : l.drop n ≠ sum4 (l.take n)) :
    Calls Tryd.prog 52 #[.string (bst l)] w fun e w' => e = .returned (.tuple #[.string (bst []), .int .i64 21]) ∧ Below w.heap.size w w' := by
  have hz := bst_size l
  rw [← hn] at hz
  have hb : n ≤ 70368744177664 := by omega
  have heq : ((bst (l.take n ++ sum4 (l.take n))).toList == (bst l).toList) = false := by
    rw [bst_toList, bst_toList]
    simp only [beq_eq_false_iff_ne, ne_eq]
    intro h
    apply hok
    have h2 : l.take n ++ sum4 (l.take n) = l.take n ++ l.drop n := by rw [h, List.take_append_drop]
    exact (List.append_cancel_left h2).symm
  obtain ⟨s, hs⟩ : ∃ s, s = bst l := ⟨_, rfl⟩
  have ht := bst_take2 l n
  rw [← hs] at hz ht heq ⊢
  have hpl : (l.take n).length ≤ 70368744177664 := by rw [List.length_take]; omega
  obtain ⟨p, hp⟩ : ∃ p, p = l.take n := ⟨_, rfl⟩
  rw [← hp] at ht heq hpl
  have HPL := hid hpl
  clear hs hn hp hpl hok
  go_enter Tryd.func52, Tryd.ntmps52
  go_wp2_with fail
  go_fit (refSeal_any p w HPL.out)
  rintro e w1 ⟨rfl, hb1⟩
  go_wp2_with fail
  go_ret2
  exact ⟨rfl, hb1⟩

end Go.Proofs.YtikggbopoajcbaaDoor
