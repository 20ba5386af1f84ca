/-
  A field, and what stands first as one: plain functions. The document's step of a register, by its contract. The document's step and sum, by their contracts. The document's sealing and opening, by their contracts. The document's opening, by its contract. string([]byte{x}). The document's numbers in n bytes, by their contracts. The document's reading of a varint, by its contract. The document's Num: by its contract. The document's Take: by its contract. The document's varint, by its contract. The document's Text: by its contract.
-/
import Derived.Test.YtngclmjefadokaaDoorJCode
import Derived.Test.YtngclmjefadokaaDoorJSum
import Derived.Test.YtngclmjefadokaaDoorJBytes
import Derived.Deep.DeepFit
import Derived.Test.YtngclmjefadokaaDoorJNum
import Derived.Test.YtngclmjefadokaaDoorJVars
import Derived.BigQuiet
import Derived.Deep.QuietTactic
namespace Go.Proofs.YtngclmjefadokaaDoor
open Go Go.RowKit

/-- a field: its kind, its number, its text, its flag, the most -/
structure Fd where
  k : Int
  v : Nat
  s : List UInt8
  y : Bool
  m : Int
def Fd.val (f : Fd) : Value := .agg #[.int .i64 f.k, .int .u64 (f.v : Int), .string (bst f.s), .bool f.y, .int .i64 f.m]

/-- a field of a kind that stands first: it, what is left, what is wrong -/
def tk (k : Nat) (most : Int) (l : List UInt8) : Fd × List UInt8 × Nat :=
  if k = 0 then (⟨0, (rnum l).1, [], false, 0⟩, (rnum l).2)
  else if k = 1 then (⟨1, 0, (rtext l).1, false, 0⟩, (rtext l).2)
  else if k = 2 then (⟨2, 0, [], (rflag l).1, 0⟩, (rflag l).2)
  else (⟨3, (rcount most l).1, [], false, 0⟩, (rcount most l).2)
def zeroFd (k : Nat) : Fd := ⟨k, 0, [], false, 0⟩

theorem five {w : World} {b : Nat} {t : TypeId} {a0 a1 a2 a3 a4 : Value} (h : Blk w b t #[a0, a1, a2, a3, a4]) :
    w.cell? ⟨b, 0, none⟩ = some a0 ∧ w.cell? ⟨b, 1, none⟩ = some a1 ∧ w.cell? ⟨b, 2, none⟩ = some a2 ∧ w.cell? ⟨b, 3, none⟩ = some a3 ∧ w.cell? ⟨b, 4, none⟩ = some a4 ∧
      w.frozen? ⟨b, 0, none⟩ = false ∧ w.frozen? ⟨b, 1, none⟩ = false ∧ w.frozen? ⟨b, 2, none⟩ = false ∧ w.frozen? ⟨b, 3, none⟩ = false ∧ w.frozen? ⟨b, 4, none⟩ = false :=
  ⟨h.cell 0, h.cell 1, h.cell 2, h.cell 3, h.cell 4, h.free 0, h.free 1, h.free 2, h.free 3, h.free 4⟩

/-- a field's bytes -/
def enc (f : Fd) : List UInt8 := if f.k = 1 then vbytes f.s.length ++ f.s else if f.k = 2 then [if f.y then 1 else 0] else vbytes f.v
theorem enc_num {f : Fd} (h1 : f.k ≠ 1) (h2 : f.k ≠ 2) : enc f = vbytes f.v := by unfold enc; rw [if_neg h1, if_neg h2]
theorem enc_text {f : Fd} (h1 : f.k = 1) : enc f = vbytes f.s.length ++ f.s := by unfold enc; rw [if_pos h1]
theorem enc_flag {f : Fd} (h2 : f.k = 2) : enc f = [if f.y then 1 else 0] := by unfold enc; rw [if_neg (by omega), if_pos h2]
theorem enc_len (f : Fd) : (enc f).length ≤ 20 + f.s.length := by
  unfold enc
  split
  · rw [List.length_append, vbytes_length]; have := vlen_le f.s.length; omega
  · split
    · simp; omega
    · rw [vbytes_length]; have := vlen_le f.v; omega

end Go.Proofs.YtngclmjefadokaaDoor

namespace Go.Proofs.YtngclmjefadokaaDoor
open Go Go.RowKit

theorem xor_mod (a b k : Nat) : (a ^^^ b) % 2 ^ (k + 1) = (a ^^^ b) % 2 ^ k + (if a / 2 ^ k % 2 = b / 2 ^ k % 2 then 0 else 2 ^ k) := by
  have e : (a ^^^ b) / 2 ^ k % 2 = if a / 2 ^ k % 2 = b / 2 ^ k % 2 then 0 else 1 := by
    rw [Nat.xor_div_two_pow]
    have h1 := Nat.mod_two_eq_zero_or_one (a / 2 ^ k)
    have h2 := Nat.mod_two_eq_zero_or_one (b / 2 ^ k)
    have h3 := Nat.xor_mod_two_pow (a := a / 2 ^ k) (b := b / 2 ^ k) (n := 1)
    rw [Nat.pow_one] at h3
    rw [h3]
    rcases h1 with h1 | h1 <;> rcases h2 with h2 | h2 <;> rw [h1, h2] <;> rfl
  rw [Nat.mod_pow_succ, e]
  congr 1
  split <;> simp

set_option maxHeartbeats 400000 in
theorem turned_any (a b : BitVec 32) (w : World) :
    Calls Tryd.prog 96 #[.int .u64 (v32 a), .int .u64 (v32 b)] w fun e w' => e = .returned (.int .u64 (v32 (a ^^^ b))) ∧ w = w' := by
  have ha := a.isLt
  have hb := b.isLt
  obtain ⟨A, hA⟩ : ∃ A, A = a.toNat := ⟨_, rfl⟩
  obtain ⟨B, hB⟩ : ∃ B, B = b.toNat := ⟨_, rfl⟩
  have e1 : v32 a = (A : Int) := by rw [hA]; rfl
  have e2 : v32 b = (B : Int) := by rw [hB]; rfl
  have e3 : v32 (a ^^^ b) = ((A ^^^ B : Nat) : Int) := by unfold v32; rw [BitVec.toNat_xor, hA, hB]
  rw [e1, e2, e3]
  rw [← hA] at ha
  rw [← hB] at hb
  have HX := hid (Nat.mod_eq_of_lt (Nat.xor_lt_two_pow ha hb))
  have HA := hid ha
  have HB := hid hb
  clear e1 e2 e3 hA hB ha hb
  go_enter Tryd.func96, Tryd.ntmps96
  go_wp2
  go_loop [0, 1, 5, 6, 7] (fun u v o p i => ∃ k : Nat, k ≤ 32 ∧ i = .int .i64 (k : Int) ∧ u = .int .u64 ((A / 2 ^ k : Nat) : Int) ∧ v = .int .u64 ((B / 2 ^ k : Nat) : Int) ∧ p = .int .u64 ((2 ^ k : Nat) : Int) ∧ o = .int .u64 (((A ^^^ B) % 2 ^ k : Nat) : Int)) (fun _ _ _ _ i => 32 - (intOf i).toNat)
  case atStart => exact ⟨0, Nat.zero_le _, rfl, by simp, by simp, rfl, by simp [Nat.mod_one]⟩
  case round =>
    obtain ⟨k, hk, rfl, rfl, rfl, rfl, rfl⟩ := hrel
    by_cases hlt : k < 32
    · have hu := Nat.div_le_self A (2 ^ k)
      have hv := Nat.div_le_self B (2 ^ k)
      have hp : 2 ^ k ≤ 2 ^ 31 := Nat.pow_le_pow_right (by decide) (by omega)
      have ho := Nat.mod_lt (A ^^^ B) (Nat.pow_pos (by decide) : 0 < 2 ^ k)
      have hm := xor_mod A B k
      have d1 := Nat.div_div_eq_div_mul A (2 ^ k) 2
      have d2 := Nat.div_div_eq_div_mul B (2 ^ k) 2
      rw [← Nat.pow_succ] at d1 d2
      have d3 := Nat.pow_succ 2 k
      obtain ⟨u, hu'⟩ : ∃ u, u = A / 2 ^ k := ⟨_, rfl⟩
      obtain ⟨v, hv'⟩ : ∃ v, v = B / 2 ^ k := ⟨_, rfl⟩
      obtain ⟨p, hp'⟩ : ∃ p, p = 2 ^ k := ⟨_, rfl⟩
      obtain ⟨o, ho'⟩ : ∃ o, o = (A ^^^ B) % 2 ^ k := ⟨_, rfl⟩
      rw [← ho', ← hu', ← hv', ← hp'] at hm
      rw [← hu'] at d1 hu
      rw [← hv'] at d2 hv
      rw [← ho', ← hp'] at ho
      rw [← hp'] at d3 hp
      rw [← ho', ← hu', ← hv', ← hp']
      have hu2 : u < 4294967296 := Nat.lt_of_le_of_lt hu HA.out
      have hv2 : v < 4294967296 := Nat.lt_of_le_of_lt hv HB.out
      have D1 := hid d1
      have D2 := hid d2
      have D3 := hid d3
      clear d1 d2 d3 hu hv hu' hv' hp' ho'
      by_cases hq : u % 2 = v % 2
      · rw [if_pos hq] at hm
        have HM := hid hm
        have hq1 : (((u : Int) % 2) != ((v : Int) % 2)) = false := by simp; omega
        have hq2 : (((u : Int) % 2) == ((v : Int) % 2)) = true := by simp; omega
        clear hm hq
        go_wp2
        go_round
        case rel => exact ⟨k + 1, by omega, by go_num, by rw [← D1.out]; go_num, by rw [← D2.out]; go_num, by rw [D3.out]; go_num, by rw [HM.out]; go_num⟩
        case measure => simp [intOf]; omega
      · rw [if_neg hq] at hm
        have HM := hid hm
        have hq1 : (((u : Int) % 2) != ((v : Int) % 2)) = true := by simp; omega
        have hq2 : (((u : Int) % 2) == ((v : Int) % 2)) = false := by simp; omega
        clear hm hq
        go_wp2
        go_round
        case rel => exact ⟨k + 1, by omega, by go_num, by rw [← D1.out]; go_num, by rw [← D2.out]; go_num, by rw [D3.out]; go_num, by rw [HM.out]; go_num⟩
        case measure => simp [intOf]; omega
    · have hk32 : k = 32 := by omega
      subst hk32
      rw [HX.out]
      go_wp2
      go_ret
      exact ⟨rfl, rfl⟩

end Go.Proofs.YtngclmjefadokaaDoor

namespace Go.Proofs.YtngclmjefadokaaDoor
open Go Go.RowKit

/-- a bit as a number -/
def bitI (b : Bool) : Int := if b then 1 else 0
theorem v32_top (r : BitVec 32) : v32 r / (2147483648 : Int) = bitI r.msb := by
  have h := v32_msb r
  have h0 := v32_lo r
  have h1 := v32_hi r
  unfold bitI
  by_cases hm : r.msb = true
  · rw [hm] at h ⊢
    simpa using h
  · have hm' : r.msb = false := by simpa using hm
    rw [hm'] at h ⊢
    simp at h
    simp
    omega
theorem v32_dbl (r : BitVec 32) : (2 : Int) * v32 r % (4294967296 : Int) = v32 (r <<< 1) := by
  rw [← v32_shl, Int.pow_one, Int.mul_comm]

set_option maxHeartbeats 400000 in
theorem refStep_any (r : BitVec 32) (b : Bool) (w : World) :
    Calls Tryd.prog 92 #[.int .u64 (v32 r), .int .u64 (bitI b)] w fun e w' => e = .returned (.int .u64 (v32 (rstep r b))) ∧ w = w' := by
  have h0 := v32_lo r
  have h1 := v32_hi r
  have ht := v32_top r
  have hd := v32_dbl r
  have hB : (bitI r.msb != bitI b) = (r.msb ^^ b) := by cases r.msb <;> cases b <;> rfl
  obtain ⟨T, hT⟩ : ∃ T, T = bitI r.msb := ⟨_, rfl⟩
  obtain ⟨C, hC⟩ : ∃ C, C = bitI b := ⟨_, rfl⟩
  rw [← hT] at ht hB
  rw [← hC] at hB ⊢
  cases hb : (r.msb ^^ b)
  · have e : rstep r b = r <<< 1 := by unfold rstep; rw [hb]; simp
    rw [hb] at hB
    have hB2 : (T == C) = true := by simpa using hB
    rw [e]
    clear e hb hT hC
    go_enter Tryd.func92, Tryd.ntmps92
    go_wp2_with fail
    go_ret
    exact ⟨rfl, rfl⟩
  · have e : rstep r b = r <<< 1 ^^^ poly := by unfold rstep; rw [hb]; simp
    rw [hb] at hB
    have hB2 : (T == C) = false := by simpa using hB
    have HP := hid (turned_any (r <<< 1) poly w)
    rw [v32_poly] at HP
    rw [e]
    clear e hb hT hC
    go_enter Tryd.func92, Tryd.ntmps92
    go_wp2_with fail
    go_fit HP.out
    rintro e w' ⟨rfl, rfl⟩
    go_wp2_with fail
    go_ret
    exact ⟨rfl, rfl⟩

theorem bits8_take (x : UInt8) (k : Nat) (hk : k < 8) : (bits8 x).take (k + 1) = (bits8 x).take k ++ [x.toNat.testBit (7 - k)] := by
  rw [List.take_succ_eq_append_getElem (by simpa [bits8] using hk)]
  simp [bits8]
theorem bit_at (x : Nat) (k : Nat) (hk : k < 8) : ((x / (128 / 2 ^ k) % 2 : Nat) : Int) = bitI (x.testBit (7 - k)) := by
  have e : 128 / 2 ^ k = 2 ^ (7 - k) := by
    rw [show 128 = 2 ^ 7 from rfl, Nat.pow_div (by omega) (by decide)]
  rw [e, Nat.testBit_eq_decide_div_mod_eq]
  unfold bitI
  have h := Nat.mod_two_eq_zero_or_one (x / 2 ^ (7 - k))
  rcases h with h | h <;> rw [h] <;> rfl

theorem bit_walk (x p : Nat) (hx : x < 256) : (IntKind.u64.wrap ((x : Int) / (p : Int))).tmod 2 = ((x / p % 2 : Nat) : Int) := by
  have h : x / p ≤ x := Nat.div_le_self _ _
  rw [← Int.natCast_ediv]
  obtain ⟨q, hq⟩ : ∃ q, q = x / p := ⟨_, rfl⟩
  rw [← hq] at h ⊢
  rw [IntKind.wrap_u64, Int.emod_eq_of_lt (by omega) (by omega), Int.tmod_eq_emod_of_nonneg (by omega)]
  omega

set_option maxHeartbeats 1000000 in
theorem refMore_any (s : BitVec 32) (l : List UInt8) (w : World) (hl : l.length ≤ 70368744177664) :
    Calls Tryd.prog 78 #[.int .u32 (v32 s), .string (bst l)] w fun e w' => e = .returned (.int .u32 (v32 (more s l))) ∧ w = w' := by
  obtain ⟨S, hs⟩ : ∃ s, s = bst l := ⟨_, rfl⟩
  have hsz : S.size = l.length := by rw [hs, bst_size]
  have hle : S.size ≤ 70368744177664 := by omega
  have HS := hid hs
  have HZ := hid hsz
  rw [← hs]
  have h0 := v32_lo s
  have h1 := v32_hi s
  have hsub := v32_sub s
  clear hs hsz hl
  go_enter Tryd.func78, Tryd.ntmps78
  go_wp2_with fail
  clear h0 h1 hsub
  go_loop [5, 6, 7, 8] (fun r i _ _ => ∃ k : Nat, k ≤ S.size ∧ i = .int .i64 (k : Int) ∧ r = .int .u64 (v32 (feedB (~~~s) (l.take k)))) (fun _ i _ _ => S.size - (intOf i).toNat)
  case atStart => exact ⟨0, Nat.zero_le _, rfl, rfl⟩
  case round =>
    obtain ⟨k, hk, rfl, rfl⟩ := hrel
    by_cases hlt : k < S.size
    · have hex : ∃ x, l[k]? = some x := ⟨_, List.getElem?_eq_getElem (by rw [← HZ.out]; exact hlt)⟩
      obtain ⟨x, hx⟩ := hex
      have hsk := bst_get HS.out hx hlt
      have HT := hid (feedB_take (~~~s) hx)
      obtain ⟨R, hR⟩ : ∃ R, R = feedB (~~~s) (l.take k) := ⟨_, rfl⟩
      rw [← hR] at HT ⊢
      clear hx hR
      go_wp2_with fail
      go_loop [5, 7, 8] (fun r p i => ∃ j : Nat, j ≤ 8 ∧ i = .int .i64 (j : Int) ∧ p = .int .u64 ((128 / 2 ^ j : Nat) : Int) ∧ r = .int .u64 (v32 (feed R ((bits8 x).take j)))) (fun _ _ i => 8 - (intOf i).toNat)
      case atStart => exact ⟨0, Nat.zero_le _, rfl, rfl, rfl⟩
      case round =>
        obtain ⟨j, hj, rfl, rfl, rfl⟩ := hrel
        by_cases hjl : j < 8
        · have hp1 : 1 ≤ 128 / 2 ^ j := by rw [show 128 = 2 ^ 7 from rfl, Nat.pow_div (by omega) (by decide)]; exact Nat.pow_pos (by decide)
          have hp2 : 128 / 2 ^ j ≤ 128 := Nat.div_le_self _ _
          have hbt := bit_at x.toNat j hjl
          have HK := hid (bits8_take x j hjl)
          have hpd : 128 / 2 ^ (j + 1) = 128 / 2 ^ j / 2 := by rw [Nat.div_div_eq_div_mul, ← Nat.pow_succ]
          obtain ⟨p, hp⟩ : ∃ p, p = 128 / 2 ^ j := ⟨_, rfl⟩
          rw [← hp] at hp1 hp2 hbt hpd ⊢
          have HPD := hid hpd
          obtain ⟨b, hb⟩ : ∃ b, b = x.toNat.testBit (7 - j) := ⟨_, rfl⟩
          rw [← hb] at hbt HK
          obtain ⟨Q, hQ⟩ : ∃ Q, Q = feed R ((bits8 x).take j) := ⟨_, rfl⟩
          rw [← hQ]
          have HQ := hid hQ
          have hx8 := x.toNat_lt
          have hbt2 : (IntKind.u64.wrap ((x.toNat : Int) / (p : Int))).tmod 2 = bitI b := by rw [← hbt]; exact bit_walk _ _ hx8
          clear hp hb hQ hpd hbt
          go_wp2_with fail
          go_fit (refStep_any Q b w)
          rintro e w' ⟨rfl, rfl⟩
          go_wp2_with fail
          go_round
          case rel => exact ⟨j + 1, by omega, by go_num, by rw [HPD.out]; go_num, by rw [HK.out, feed_append, ← HQ.out]; rfl⟩
          case measure => simp [intOf]; omega
        · have hj8 : j = 8 := by omega
          subst hj8
          have h8 : (bits8 x).take 8 = bits8 x := rfl
          rw [h8]
          clear h8
          go_wp2_with fail
          go_round
          case rel => exact ⟨k + 1, by omega, by go_num, by rw [HT.out]⟩
          case measure => simp [intOf]; omega
    · have hkm : k = S.size := by omega
      have e3 : l.take k = l := List.take_of_length_le (by rw [hkm, HZ.out]; exact Nat.le_refl _)
      rw [e3]
      have hn := v32_sub (feedB (~~~s) l)
      have h0 := v32_lo (feedB (~~~s) l)
      have h1 := v32_hi (feedB (~~~s) l)
      clear e3 hkm
      go_wp2
      go_ret
      exact ⟨rfl, rfl⟩

theorem refOf_any (l : List UInt8) (w : World) (hl : l.length ≤ 70368744177664) :
    Calls Tryd.prog 62 #[.string (bst l)] w fun e w' => e = .returned (.int .u32 (v32 (more 0#32 l))) ∧ w = w' := by
  have HM := hid (refMore_any 0#32 l w hl)
  have e0 : v32 0#32 = 0 := rfl
  rw [e0] at HM
  clear e0
  go_enter Tryd.func62, Tryd.ntmps62
  go_wp2_with fail
  go_fit HM.out
  rintro e w1 ⟨rfl, rfl⟩
  go_wp2_with fail
  go_ret
  exact ⟨rfl, rfl⟩

end Go.Proofs.YtngclmjefadokaaDoor

namespace Go.Proofs.YtngclmjefadokaaDoor
open Go Go.RowKit

theorem sum4_cells (l : List UInt8) (v : Int) (hv : v = v32 (more 0#32 l)) :
    #[Value.int .u8 (v / (16777216 : Int)), .int .u8 (v / (65536 : Int) % (256 : Int)), .int .u8 (v / (256 : Int) % (256 : Int)), .int .u8 (v % (256 : Int))] = (bs (sum4 l)).toArray := by
  have h := (more 0#32 l).isLt
  have e : v = ((more 0#32 l).toNat : Int) := hv
  obtain ⟨n, hn⟩ : ∃ n, n = (more 0#32 l).toNat := ⟨_, rfl⟩
  rw [← hn] at e h
  have e4 : sum4 l = [UInt8.ofNat (n / 256 ^ 3), UInt8.ofNat (n / 256 ^ 2), UInt8.ofNat (n / 256 ^ 1), UInt8.ofNat (n / 256 ^ 0)] := by
    unfold sum4
    rw [← hn]
    rfl
  rw [e4, e]
  simp only [bs, List.map_cons, List.map_nil, UInt8.toNat_ofNat']
  congr 1
  simp only [List.cons.injEq, Value.int.injEq, true_and, and_true]
  omega

theorem sum4_conv (l : List UInt8) (v : Int) (hv : v = v32 (more 0#32 l)) (W : World) :
    (convert 98 9 (.slice (some ⟨W.heap.size, 0, none⟩) 4 4)).run Tryd.prog
      (W.alloc (.cells #[Value.int .u8 (v / (16777216 : Int)), .int .u8 (v / (65536 : Int) % (256 : Int)), .int .u8 (v / (256 : Int) % (256 : Int)), .int .u8 (v % (256 : Int))] 5)) =
    .ok (.string (bst (sum4 l))) (W.alloc (.cells #[Value.int .u8 (v / (16777216 : Int)), .int .u8 (v / (65536 : Int) % (256 : Int)), .int .u8 (v / (256 : Int) % (256 : Int)), .int .u8 (v % (256 : Int))] 5)) := by
  rw [sum4_cells l v hv]
  exact str_of (At.lits W (sum4 l) 5 rfl) (sum4_length l).symm

set_option maxHeartbeats 400000 in
theorem refSeal_any (l : List UInt8) (w : World) (hl : l.length ≤ 70368744177664) :
    Calls Tryd.prog 42 #[.string (bst l)] w fun e w' => e = .returned (.string (bst (l ++ sum4 l))) ∧ Below w.heap.size w w' := by
  have hz := bst_size l
  have hz2 := bst_size (sum4 l)
  rw [sum4_length] at hz2
  have hap := bst_append l (sum4 l)
  obtain ⟨v, hv⟩ : ∃ v, v = v32 (more 0#32 l) := ⟨_, rfl⟩
  have h0 := v32_lo (more 0#32 l)
  have h1 := v32_hi (more 0#32 l)
  have HO := hid (refOf_any l w hl)
  rw [← hv] at h0 h1 HO
  have hcv := sum4_conv l v hv
  clear hv
  go_enter Tryd.func42, Tryd.ntmps42
  go_wp2_with fail
  go_fit HO.out
  rintro e w1 ⟨rfl, rfl⟩
  go_wp2_with fail
  go_ret
  exact ⟨rfl, (Below.refl _ _).alloc (Nat.le_refl _) _⟩

end Go.Proofs.YtngclmjefadokaaDoor

namespace Go.Proofs.YtngclmjefadokaaDoor
open Go Go.RowKit

theorem bst_inj {a b : List UInt8} (h : bst a = bst b) : a = b := by
  have := congrArg (fun s => s.data.toList) h
  simpa [bst] using this
theorem bst_take2 (l : List UInt8) (n : Nat) : (bst l).extract 0 n = bst (l.take n) := by
  apply ByteArray.ext
  simp [bst]

set_option maxHeartbeats 400000 in
theorem refOpen_short (l : List UInt8) (w : World) (hl : l.length < 4) :
    Calls Tryd.prog 38 #[.string (bst l)] w fun e w' => e = .returned (.tuple #[.string (bst []), .int .i64 20]) ∧ w = w' := by
  have hz := bst_size l
  go_enter Tryd.func38, Tryd.ntmps38
  go_wp2_with fail
  go_ret2
  exact ⟨rfl, rfl⟩

set_option maxHeartbeats 400000 in
theorem refOpen_good (l : List UInt8) (n : Nat) (w : World) (hn : n + 4 = l.length) (hl : l.length ≤ 70368744177664) (hok : l.drop n = sum4 (l.take n)) :
    Calls Tryd.prog 38 #[.string (bst l)] w fun e w' => e = .returned (.tuple #[.string (bst (l.take n)), .int .i64 0]) ∧ Below w.heap.size w w' := by
  have hz := bst_size l
  rw [← hn] at hz
  have hb : n ≤ 70368744177664 := by omega
  have heq : ((bst (l.take n ++ sum4 (l.take n))).toList == (bst l).toList) = true := by
    rw [bst_toList, bst_toList]
    rw [← hok, List.take_append_drop]
    simp
  obtain ⟨s, hs⟩ : ∃ s, s = bst l := ⟨_, rfl⟩
  have ht := bst_take2 l n
  rw [← hs] at hz ht heq ⊢
  have hpl : (l.take n).length ≤ 70368744177664 := by rw [List.length_take]; omega
  obtain ⟨p, hp⟩ : ∃ p, p = l.take n := ⟨_, rfl⟩
  rw [← hp] at ht heq hpl ⊢
  have HPL := hid hpl
  clear hs hn hp hpl hok
  go_enter Tryd.func38, Tryd.ntmps38
  go_wp2_with fail
  go_fit (refSeal_any p w HPL.out)
  rintro e w1 ⟨rfl, hb1⟩
  go_wp2_with fail
  go_ret2
  exact ⟨rfl, hb1⟩

set_option maxHeartbeats 400000 in
theorem refOpen_wrong (l : List UInt8) (n : Nat) (w : World) (hn : n + 4 = l.length) (hl : l.length ≤ 70368744177664) (hok : l.drop n ≠ sum4 (l.take n)) :
    Calls Tryd.prog 38 #[.string (bst l)] w fun e w' => e = .returned (.tuple #[.string (bst []), .int .i64 21]) ∧ Below w.heap.size w w' := by
  have hz := bst_size l
  rw [← hn] at hz
  have hb : n ≤ 70368744177664 := by omega
  have heq : ((bst (l.take n ++ sum4 (l.take n))).toList == (bst l).toList) = false := by
    rw [bst_toList, bst_toList]
    simp only [beq_eq_false_iff_ne, ne_eq]
    intro h
    apply hok
    have h2 : l.take n ++ sum4 (l.take n) = l.take n ++ l.drop n := by rw [h, List.take_append_drop]
    exact (List.append_cancel_left h2).symm
  obtain ⟨s, hs⟩ : ∃ s, s = bst l := ⟨_, rfl⟩
  have ht := bst_take2 l n
  rw [← hs] at hz ht heq ⊢
  have hpl : (l.take n).length ≤ 70368744177664 := by rw [List.length_take]; omega
  obtain ⟨p, hp⟩ : ∃ p, p = l.take n := ⟨_, rfl⟩
  rw [← hp] at ht heq hpl
  have HPL := hid hpl
  clear hs hn hp hpl hok
  go_enter Tryd.func38, Tryd.ntmps38
  go_wp2_with fail
  go_fit (refSeal_any p w HPL.out)
  rintro e w1 ⟨rfl, hb1⟩
  go_wp2_with fail
  go_ret2
  exact ⟨rfl, hb1⟩

end Go.Proofs.YtngclmjefadokaaDoor

namespace Go.Proofs.YtngclmjefadokaaDoor
open Go Go.RowKit

theorem conv_one (x : UInt8) (W : World) :
    (convert 98 9 (.slice (some ⟨W.heap.size, 0, none⟩) 1 1)).run Tryd.prog (W.alloc (.cells #[.int .u8 (x.toNat : Int)] 5)) = .ok (.string (bst [x])) (W.alloc (.cells #[.int .u8 (x.toNat : Int)] 5)) := by
  refine run_convert_bytes_back _ _ _ _ ⟨W.heap.size, 0, none⟩ 1 [x] Tryd.underlying98 Tryd.underlying5 Tryd.underlying9 ?_
  intro j hj
  obtain rfl : j = 0 := by simp at hj; omega
  have e1 : (⟨W.heap.size, 0, none⟩ : Addr).add 0 = ⟨W.heap.size, 0, none⟩ := by unfold Addr.add; simp
  rw [e1]
  exact cell_of_one (heap_alloc_new W _)

theorem conv_num (n : Int) (x : UInt8) (h : n = (x.toNat : Int)) (W : World) :
    (convert 98 9 (.slice (some ⟨W.heap.size, 0, none⟩) 1 1)).run Tryd.prog (W.alloc (.cells #[.int .u8 n] 5)) = .ok (.string (bst [x])) (W.alloc (.cells #[.int .u8 n] 5)) := by
  subst h
  exact conv_one x W

end Go.Proofs.YtngclmjefadokaaDoor

namespace Go.Proofs.YtngclmjefadokaaDoor
open Go Go.RowKit

theorem mul_add_wrap (q : Nat) (x : UInt8) (h : q < 72057594037927936) : IntKind.u64.wrap (IntKind.u64.wrap (256 * (q : Int)) + IntKind.u64.wrap (x.toNat : Int)) = ((256 * q + x.toNat : Nat) : Int) := by
  have := x.toNat_lt
  rw [IntKind.wrap_u64, IntKind.wrap_u64, IntKind.wrap_u64]; omega

set_option maxHeartbeats 400000 in
theorem refPut_no (v n : Int) (w : World) (h : ¬ (1 ≤ n ∧ n ≤ 8)) :
    Calls Tryd.prog 45 #[.int .u64 v, .int .i64 n] w fun e w' => e = .returned (.tuple #[.string (bst []), .bool false]) ∧ w = w' := by
  have h2 : n < 1 ∨ (1 ≤ n ∧ 8 < n) := by omega
  rcases h2 with h2 | ⟨h2, h3⟩
  all_goals
    clear h
    go_enter Tryd.func45, Tryd.ntmps45
    go_wp2
    go_ret2
    exact ⟨rfl, rfl⟩

set_option maxHeartbeats 400000 in
theorem refPut_yes (v n : Nat) (w : World) (h1 : 1 ≤ n) (h8 : n ≤ 8) (hv : v < 18446744073709551616) :
    Calls Tryd.prog 45 #[.int .u64 (v : Int), .int .i64 (n : Int)] w fun e w' => e = .returned (.tuple #[.string (bst (be v n)), .bool (v / 256 ^ n == 0)]) ∧ Below w.heap.size w w' := by
  go_enter Tryd.func45, Tryd.ntmps45
  go_wp2_with fail
  go_loopw [0, 6, 7] (fun u s i wr => ∃ k q : Nat, k ≤ n ∧ q = v / 256 ^ k ∧ u = .int .u64 (q : Int) ∧ s = .string (bst (be v k)) ∧ i = .int .i64 (k : Int) ∧ Below w.heap.size w wr) (fun _ _ i _ => n - (intOf i).toNat)
  case atStart => exact ⟨0, v, by omega, by simp, rfl, rfl, rfl, Below.refl _ _⟩
  case round =>
    obtain ⟨k, q, hk, hq, rfl, rfl, rfl, hb⟩ := hrel
    have HQ := hid hq
    clear hq
    by_cases hlt : k < n
    · have hex : ∃ x : UInt8, x = UInt8.ofNat q := ⟨_, rfl⟩
      obtain ⟨x, hx⟩ := hex
      have hbyte : (q : Int) % 256 = (x.toNat : Int) := by rw [hx, UInt8.toNat_ofNat']; omega
      have HX := hid hx
      have hconv := conv_one x
      clear hx
      have hsz : (bst [x]).size + (bst (be v k)).size ≤ 16 := by rw [bst_size, bst_size, be_length]; simp; omega
      have hqb : q < 18446744073709551616 := Nat.lt_of_le_of_lt (by rw [HQ.out]; exact Nat.div_le_self _ _) hv
      go_wp2_with fail
      go_roundw
      case rel => exact ⟨k + 1, q / 256, by omega, by rw [HQ.out, Nat.pow_succ, Nat.div_div_eq_div_mul], by go_num, by rw [bst_append, be_succ, HX.out, HQ.out]; rfl, by go_num, hb.alloc hb.size _⟩
      case measure => simp [intOf]; omega
    · obtain rfl : k = n := by omega
      have e2 : ((q : Int) == 0) = (v / 256 ^ k == 0) := by rw [← HQ.out, Bool.eq_iff_iff]; simp
      go_wp2_with fail
      go_ret2
      exact ⟨rfl, hb⟩

set_option maxHeartbeats 400000 in
theorem refGet_any (l : List UInt8) (w : World) (hl : l.length ≤ 8) :
    Calls Tryd.prog 37 #[.string (bst l)] w fun e w' => e = .returned (.int .u64 (ofBe l : Int)) ∧ w = w' := by
  obtain ⟨s, hs⟩ : ∃ s, s = bst l := ⟨_, rfl⟩
  have hsz : s.size = l.length := by rw [hs, bst_size]
  have hle : s.size ≤ 8 := by omega
  have HS := hid hs
  have HZ := hid hsz
  rw [← hs]
  clear hs hsz
  go_enter Tryd.func37, Tryd.ntmps37
  go_wp2_with fail
  go_loop [3, 4] (fun u i => ∃ k q : Nat, k ≤ s.size ∧ q = ofBe (l.take k) ∧ u = .int .u64 (q : Int) ∧ i = .int .i64 (k : Int)) (fun _ i => s.size - (intOf i).toNat)
  case atStart => exact ⟨0, 0, by omega, by simp [ofBe], rfl, rfl⟩
  case round =>
    obtain ⟨k, q, hk, hq, rfl, rfl⟩ := hrel
    have HQ := hid hq
    clear hq
    by_cases hlt : k < s.size
    · have hqb : q < 256 ^ k := by
        have := ofBe_lt (l.take k)
        rw [← HQ.out, List.length_take, ← HZ.out, Nat.min_eq_left (by omega)] at this
        exact this
      have hqs : q < 72057594037927936 := Nat.lt_of_lt_of_le hqb (Nat.pow_le_pow_right (n := 256) (i := k) (j := 7) (by decide) (by omega))
      have hex : ∃ x, l[k]? = some x := ⟨_, List.getElem?_eq_getElem (by rw [← HZ.out]; exact hlt)⟩
      obtain ⟨x, hx⟩ := hex
      have hsk := bst_get HS.out hx hlt
      have HV := hid (mul_add_wrap q x hqs)
      have HN := hid (ofBe_take_succ hx)
      clear hqb hx hqs
      go_wp2_with fail
      go_round
      case rel => exact ⟨k + 1, _, by omega, by rw [HN.out, ← HQ.out], congrArg (Value.int .u64) HV.out, by go_num⟩
      case measure => simp [intOf]; omega
    · obtain rfl : k = s.size := by omega
      have HE := hid (show q = ofBe l by rw [HQ.out, List.take_of_length_le (by rw [HZ.out]; exact Nat.le_refl _)])
      go_wp2_with fail
      go_ret
      exact ⟨by rw [← HE.out]; rfl, rfl⟩

end Go.Proofs.YtngclmjefadokaaDoor

namespace Go.Proofs.YtngclmjefadokaaDoor
open Go Go.RowKit

theorem sum_wrap {q k p : Nat} {x : UInt8} (hp : p = 128 ^ k) (hq : q < 128 ^ k) (hk : k ≤ 8 ∨ k ≤ 9 ∧ x.toNat ≤ 1) :
    IntKind.u64.wrap ((q : Int) + IntKind.u64.wrap ((x.toNat : Int) % 128 * (p : Int))) = ((q + x.toNat % 128 * 128 ^ k : Nat) : Int) := by
  rw [← hp] at hq ⊢
  have hm : x.toNat % 128 * p ≤ 9223372036854775808 := by
    rcases hk with h | ⟨h, h1⟩
    · have h8 : p ≤ 128 ^ 8 := by rw [hp]; exact Nat.pow_le_pow_right (by decide) h
      have : x.toNat % 128 * p ≤ 127 * 128 ^ 8 := Nat.mul_le_mul (by omega) h8
      omega
    · have h8 : p ≤ 128 ^ 9 := by rw [hp]; exact Nat.pow_le_pow_right (by decide) h
      have : x.toNat % 128 * p ≤ 1 * 128 ^ 9 := Nat.mul_le_mul (by omega) h8
      omega
  have h9 : p ≤ 9223372036854775808 := by
    have : p ≤ 128 ^ 9 := by rw [hp]; exact Nat.pow_le_pow_right (by decide) (by omega)
    omega
  have e : (x.toNat : Int) % 128 * (p : Int) = ((x.toNat % 128 * p : Nat) : Int) := by simp
  rw [e, IntKind.wrap_u64, IntKind.wrap_u64]
  omega
theorem power_wrap {k p : Nat} (hp : p = 128 ^ k) (hk : k ≤ 8) : IntKind.u64.wrap ((p : Int) * 128) = ((128 ^ (k + 1) : Nat) : Int) := by
  have h8 : p ≤ 128 ^ 8 := by rw [hp]; exact Nat.pow_le_pow_right (by decide) hk
  rw [Nat.pow_succ, ← hp, IntKind.wrap_u64]
  omega
theorem ret3i {a b c d : Int} {e : Value} (h : a = b) (h2 : c = d) : Ending.returned (.tuple #[.int .u64 a, .int .i64 c, e]) = Ending.returned (.tuple #[.int .u64 b, .int .i64 d, e]) := by rw [h, h2]

set_option maxRecDepth 100000 in
set_option maxHeartbeats 1000000 in
theorem refGetVar_any (l : List UInt8) (w : World) (hl : l.length ≤ 70000) :
    Calls Tryd.prog 61 #[.string (bst l)] w fun e w' =>
      e = .returned (.tuple #[.int .u64 ((rdv 0 0 l).1 : Int), .int .i64 ((rdv 0 0 l).2.1 : Int), .int .i64 ((rdv 0 0 l).2.2 : Int)]) ∧ w = w' := by
  obtain ⟨o, ho⟩ : ∃ o, o = rdv 0 0 l := ⟨_, rfl⟩
  rw [← ho]
  have HR := hid ho
  clear ho
  obtain ⟨s, hs⟩ : ∃ s, s = bst l := ⟨_, rfl⟩
  have hsz : s.size = l.length := by rw [hs, bst_size]
  have hle : s.size ≤ 70000 := by omega
  have HS := hid hs
  have HZ := hid hsz
  rw [← hs]
  clear hs hsz
  go_enter Tryd.func61, Tryd.ntmps61
  go_wp2_with fail
  go_loop [5, 6, 7] (fun u p i => ∃ k q : Nat, k ≤ 9 ∧ k ≤ s.size ∧ q < 128 ^ k ∧ o = rdv k q (l.drop k) ∧ u = .int .u64 (q : Int) ∧ p = .int .u64 ((128 ^ k : Nat) : Int) ∧ i = .int .i64 (k : Int)) (fun _ _ i => 20 - (intOf i).toNat)
  case atStart => exact ⟨0, 0, by omega, by omega, by simp, by simpa using HR.out, rfl, rfl, rfl⟩
  case round =>
    obtain ⟨k, q, hk9, hk, hq, hrd, rfl, rfl, rfl⟩ := hrel
    have HQ := hid hq
    have HD := hid hrd
    clear hq hrd
    obtain ⟨p, hp⟩ : ∃ p, p = 128 ^ k := ⟨_, rfl⟩
    rw [← hp]
    have HP := hid hp
    clear hp
    by_cases hlt : k < s.size
    · have hex : ∃ x, l[k]? = some x := ⟨_, List.getElem?_eq_getElem (by rw [← HZ.out]; exact hlt)⟩
      obtain ⟨x, hx⟩ := hex
      have hsk := bst_get HS.out hx hlt
      have hdrop := hid (drop_cons hx)
      clear hx
      by_cases h128 : x.toNat < 128
      · by_cases hf : k = 9 ∧ 1 < x.toNat ∨ x.toNat = 0 ∧ 0 < k
        · have HF := hid (HD.out.trans (by rw [hdrop.out, rdv_form hf]))
          have hways : (9 ≤ k ∧ 2 ≤ x.toNat) ∨ (k ≤ 8 ∧ 1 ≤ k ∧ x.toNat ≤ 0) ∨ (9 ≤ k ∧ x.toNat ≤ 0) := by omega
          clear hf
          rcases hways with ⟨h1, h2⟩ | ⟨h1, h2, h3⟩ | ⟨h1, h2⟩
          · have hx0 : ((x.toNat : Int) == 0) = false := by simp; omega
            go_wp2_with fail
            go_ret3
            exact ⟨by rw [HF.out]; rfl, rfl⟩
          · have hx0 : ((x.toNat : Int) == 0) = true := by simp; omega
            go_wp2_with fail
            go_ret3
            exact ⟨by rw [HF.out]; rfl, rfl⟩
          · have hx0 : ((x.toNat : Int) == 0) = true := by simp; omega
            go_wp2_with fail
            go_ret3
            exact ⟨by rw [HF.out]; rfl, rfl⟩
        · have HV := hid (HD.out.trans (by rw [hdrop.out, rdv_last hf h128]))
          have hways : (9 ≤ k ∧ 1 ≤ x.toNat ∧ x.toNat ≤ 1) ∨ (k ≤ 0 ∧ x.toNat ≤ 0) ∨ (k ≤ 8 ∧ 1 ≤ x.toNat) := by omega
          clear hf
          rcases hways with ⟨h1, h2, h3⟩ | ⟨h1, h2⟩ | ⟨h1, h2⟩
          · have hx0 : ((x.toNat : Int) == 0) = false := by simp; omega
            have hval := hid (sum_wrap (x := x) HP.out HQ.out (by omega))
            rw [Nat.mod_eq_of_lt h128] at hval
            have hk10 : (10 : Int) = ((k + 1 : Nat) : Int) := by omega
            have HK := hid hk10
            clear hk10
            go_wp2_with fail
            all_goals
              go_ret3
              refine ⟨?_, rfl⟩
              rw [HV.out]
              exact ret3i hval.out HK.out
          · have hx0 : ((x.toNat : Int) == 0) = true := by simp; omega
            have hval := hid (sum_wrap (x := x) HP.out HQ.out (by omega))
            rw [Nat.mod_eq_of_lt h128] at hval
            have hk10 : ((k : Int) + 1 : Int) = ((k + 1 : Nat) : Int) := by omega
            have HK := hid hk10
            clear hk10
            go_wp2_with fail
            all_goals
              go_ret3
              refine ⟨?_, rfl⟩
              rw [HV.out]
              exact ret3i hval.out HK.out
          · have hx0 : ((x.toNat : Int) == 0) = false := by simp; omega
            have hval := hid (sum_wrap (x := x) HP.out HQ.out (by omega))
            rw [Nat.mod_eq_of_lt h128] at hval
            have hk10 : ((k : Int) + 1 : Int) = ((k + 1 : Nat) : Int) := by omega
            have HK := hid hk10
            clear hk10
            go_wp2_with fail
            all_goals
              go_ret3
              refine ⟨?_, rfl⟩
              rw [HV.out]
              exact ret3i hval.out HK.out
      · by_cases h9 : 9 ≤ k
        · have HF := hid (HD.out.trans (by rw [hdrop.out, rdv_form (by omega)]))
          go_wp2_with fail
          go_ret3
          exact ⟨by rw [HF.out]; rfl, rfl⟩
        · have HF := hid (HD.out.trans (by rw [hdrop.out, rdv_more (by omega) h128]))
          have hval := hid (sum_wrap (x := x) HP.out HQ.out (by omega))
          have hx := x.toNat_lt
          rw [show x.toNat % 128 = x.toNat - 128 by omega] at hval
          clear hx
          have hx0 : ((x.toNat : Int) == 0) = false := by simp; omega
          go_wp2_with fail
          all_goals
            go_round
            case rel => exact ⟨k + 1, _, by omega, by omega, more_lt HQ.out, HF.out, congrArg (Value.int .u64) hval.out, congrArg (Value.int .u64) (power_wrap HP.out (by omega)), by go_num⟩
            case measure => simp [intOf]; omega
    · have HF := hid (HD.out.trans (by rw [List.drop_eq_nil_of_le (by rw [← HZ.out]; omega)]))
      go_wp2_with fail
      go_ret3
      exact ⟨by rw [HF.out]; rfl, rfl⟩

theorem refGetVar_is {s : List UInt8} {v n e0 : Nat} {w : World} (hr : rdv 0 0 s = (v, n, e0)) (hl : s.length ≤ 70000) :
    Calls Tryd.prog 61 #[.string (bst s)] w fun e w' => e = .returned (.tuple #[.int .u64 (v : Int), .int .i64 (n : Int), .int .i64 (e0 : Int)]) ∧ w = w' := by
  have h := refGetVar_any s w hl
  rw [hr] at h
  exact h

end Go.Proofs.YtngclmjefadokaaDoor

namespace Go.Proofs.YtngclmjefadokaaDoor
open Go Go.RowKit

set_option maxHeartbeats 1000000 in
theorem refNum_any (l : List UInt8) (w : World) (hl : l.length ≤ 70000) :
    Calls Tryd.prog 39 #[.string (bst l)] w fun e w' =>
      e = .returned (.tuple #[.int .u64 ((rnum l).1 : Int), .string (bst (rnum l).2.1), .int .i64 ((rnum l).2.2 : Int)]) ∧ Below w.heap.size w w' := by
  have hN := rnum_all l
  generalize rnum l = o at hN ⊢
  have HL := hid hl
  have hz := bst_size l
  clear hl
  cases hN with
  | good v n h hn hl' hv hb =>
    have Hh := hid h
    have hex := bst_drop l n
    have h0 : (n : Int) ≤ (l.length : Int) := by omega
    have h00 : (0 : Int) ≤ (n : Int) := by omega
    clear h hn hb hl'
    go_enter Tryd.func39, Tryd.ntmps39
    go_wp2_with fail
    go_fit (refGetVar_is Hh.out HL.out)
    rintro e w' ⟨rfl, rfl⟩
    go_wp2_with fail
    go_quiet (fail)
    go_wp2_with fail
    go_ret3
    exact ⟨rfl, below_drewN (Below.refl _ _) _⟩
  | short h =>
    have Hh := hid h
    clear h
    go_enter Tryd.func39, Tryd.ntmps39
    go_wp2_with fail
    go_fit (refGetVar_is Hh.out HL.out)
    rintro e w' ⟨rfl, rfl⟩
    go_wp2_with fail
    go_ret3
    exact ⟨rfl, Below.refl _ _⟩
  | form h =>
    have Hh := hid h
    clear h
    go_enter Tryd.func39, Tryd.ntmps39
    go_wp2_with fail
    go_fit (refGetVar_is Hh.out HL.out)
    rintro e w' ⟨rfl, rfl⟩
    go_wp2_with fail
    go_ret3
    exact ⟨rfl, Below.refl _ _⟩

end Go.Proofs.YtngclmjefadokaaDoor

namespace Go.Proofs.YtngclmjefadokaaDoor
open Go Go.RowKit

theorem two_below {w w2 : World} {c0 c1 : Array Value} {t : TypeId} (h : Below ((w.alloc (.cells c0 t)).alloc (.cells c1 t)).heap.size ((w.alloc (.cells c0 t)).alloc (.cells c1 t)) w2) : Blk w2 w.heap.size t c0 ∧ Blk w2 (w.heap.size + 1) t c1 := by
  refine ⟨Blk.below (Blk.alloc (Blk.new w _ _) _) h (by simp; omega), ?_⟩
  have h1 := Blk.new (w.alloc (.cells c0 t)) t c1
  rw [show (w.alloc (.cells c0 t)).heap.size = w.heap.size + 1 by simp] at h1
  exact Blk.below h1 h (by simp)

theorem bst_ne (x : UInt8) (l : List UInt8) : (bst (x :: l)).toList ≠ [] := by rw [bst_toList]; simp

set_option maxHeartbeats 4000000 in
theorem refTake_flag (most : Int) (l : List UInt8) (w : World) (hl : l.length ≤ 70000) :
    Calls Tryd.prog 40 #[.int .i64 2, .int .i64 most, .string (bst l)] w fun e w' =>
      e = .returned (.tuple #[(tk 2 most l).1.val, .string (bst (tk 2 most l).2.1), .int .i64 ((tk 2 most l).2.2 : Int)]) ∧ Below w.heap.size w w' := by
  have HW := hid (show Below w.heap.size w ((w.alloc (.cells #[.int .i64 0, .int .u64 0, .string ⟨#[]⟩, .bool false, .int .i64 0] 109)).alloc (.cells #[.int .i64 2, .int .u64 0, .string ⟨#[]⟩, .bool false, .int .i64 0] 109)) from ((Below.refl _ _).alloc (Nat.le_refl _) _).alloc (by simp) _)
  have e0 : tk 2 most l = (⟨2, 0, [], (rflag l).1, 0⟩, (rflag l).2) := rfl
  rw [e0]
  have hz := bst_size l
  have htl := bst_toList l
  clear e0
  rcases l with _ | ⟨x, l⟩
  · have e : rflag [] = (false, [], 30) := rfl
    rw [e]
    go_enter Tryd.func40, Tryd.ntmps40
    go_wp2_with fail
    refine bodyPost_ret (v := .tuple #[(Fd.mk 2 0 [] false 0).val, .string (bst ([])), .int .i64 (30)]) (by simp [results, Tryd.results40, go_sem, Fd.val, bst, *]) rfl ⟨rfl, ?_⟩
    try refine Below.drew ?_
    exact ((Below.refl _ _).alloc (Nat.le_refl _) _).alloc (by simp) _
  · obtain ⟨s, hs⟩ : ∃ s, s = bst (x :: l) := ⟨_, rfl⟩
    rw [← hs] at hz htl
    have HS := hid hs
    have hk : 0 < s.size := by rw [hz]; simp
    have hsk := bst_get (k := 0) hs rfl hk
    have hki : (0 : Int) < (s.size : Int) := by omega
    have hk1 : (1 : Int) ≤ (s.size : Int) := by omega
    have hemp : (s.toList == []) = false := by rw [htl]; rfl
    have hex : s.extract 1 s.size = bst l := by rw [hz, hs]; exact bst_drop (x :: l) 1
    rw [← hs]
    clear hs htl
    have HZ := hid hz
    clear hz hl
    by_cases h1 : 1 < x.toNat
    · have e : rflag (x :: l) = (false, x :: l, 33) := by simp only [rflag]; rw [if_pos h1]
      rw [e]
      have hx : (1 : Int) < (x.toNat : Int) := by omega
      clear h1
      go_enter Tryd.func40, Tryd.ntmps40
      go_wp2_with fail
      rw [HS.out]
      refine bodyPost_ret (v := .tuple #[(Fd.mk 2 0 [] false 0).val, .string (bst (x :: l)), .int .i64 (33)]) (by simp [results, Tryd.results40, go_sem, Fd.val, bst, *]) rfl ⟨rfl, ?_⟩
      try refine Below.drew ?_
      exact ((Below.refl _ _).alloc (Nat.le_refl _) _).alloc (by simp) _
    · have e : rflag (x :: l) = (x.toNat == 1, l, 0) := by simp only [rflag]; rw [if_neg h1]
      rw [e]
      have hx : ¬ (1 : Int) < (x.toNat : Int) := by omega
      have hx1 : ((x.toNat : Int) == 1) = (x.toNat == 1) := by rw [Bool.eq_iff_iff]; simp; omega
      clear h1
      go_enter Tryd.func40, Tryd.ntmps40
      go_wp2_with fail
      go_region
      go_wp2_with fail
      refine bodyPost_ret (v := .tuple #[(Fd.mk 2 0 [] (x.toNat == 1) 0).val, .string (bst (l)), .int .i64 (0)]) (by simp [results, Tryd.results40, go_sem, Fd.val, bst, *]) rfl ⟨rfl, ?_⟩
      try refine Below.drew ?_
      exact ((Below.refl _ _).alloc (Nat.le_refl _) _).alloc (by simp) _

/-- the document's Take, but for flags: what comes of the number that stands first -/
def TookRef (k : Nat) (most : Int) (l : List UInt8) (w : World) (e : Ending) (w' : World) : Prop :=
  e = .returned (.tuple #[(tk k most l).1.val, .string (bst (tk k most l).2.1), .int .i64 ((tk k most l).2.2 : Int)]) ∧ Below w.heap.size w w'

set_option maxHeartbeats 4000000 in
theorem refTake_num (most : Int) (l : List UInt8) (w : World) (hl : l.length ≤ 70000) :
    Calls Tryd.prog 40 #[.int .i64 0, .int .i64 most, .string (bst l)] w (TookRef 0 most l w) := by
  have HW := hid (show Below w.heap.size w ((w.alloc (.cells #[.int .i64 0, .int .u64 0, .string ⟨#[]⟩, .bool false, .int .i64 0] 109)).alloc (.cells #[.int .i64 0, .int .u64 0, .string ⟨#[]⟩, .bool false, .int .i64 0] 109)) from ((Below.refl _ _).alloc (Nat.le_refl _) _).alloc (by simp) _)
  have e0 : tk 0 most l = (⟨0, (rnum l).1, [], false, 0⟩, (rnum l).2) := rfl
  unfold TookRef
  rw [e0]
  have hG := refNum_any l ((w.alloc (.cells #[.int .i64 0, .int .u64 0, .string ⟨#[]⟩, .bool false, .int .i64 0] 109)).alloc (.cells #[.int .i64 0, .int .u64 0, .string ⟨#[]⟩, .bool false, .int .i64 0] 109)) hl
  have hbad := rnum_bad l
  obtain ⟨⟨n, l1, e1⟩, ho⟩ : ∃ o, rnum l = o := ⟨_, rfl⟩
  rw [ho] at hG hbad ⊢
  have HG := hid hG
  clear hG ho e0
  by_cases hE : e1 = 0
  · subst hE
    clear hbad hl
    go_enter Tryd.func40, Tryd.ntmps40
    go_wp2_with fail
    go_fit HG.out
    rintro e w2 ⟨rfl, h1⟩
    obtain ⟨b0, b1⟩ := two_below h1
    have H1 := hid (below_step HW.out h1)
    obtain ⟨x0, x1, x2, x3, x4, g0, g1, g2, g3, g4⟩ := five b0
    obtain ⟨y0, y1, y2, y3, y4, k0, k1, k2, k3, k4⟩ := five b1
    clear h1 b0 b1
    go_wp2_with fail
    refine bodyPost_ret (v := .tuple #[(Fd.mk 0 n [] false 0).val, .string (bst (l1)), .int .i64 (0)]) (by simp [results, Tryd.results40, go_sem, Fd.val, bst, *]) rfl ⟨rfl, ?_⟩
    try refine Below.drew ?_
    repeat' (refine Below.setCell ?_ (by simp) _)
    exact H1.out
  · have hE1 : ((e1 : Int) != 0) = true := by simpa using hE
    obtain ⟨hb1, hb2⟩ := hbad hE
    simp only at hb1 hb2
    subst hb1 hb2
    clear hbad hE hl
    go_enter Tryd.func40, Tryd.ntmps40
    go_wp2_with fail
    go_fit HG.out
    rintro e w2 ⟨rfl, h1⟩
    obtain ⟨b0, b1⟩ := two_below h1
    have H1 := hid (below_step HW.out h1)
    obtain ⟨x0, x1, x2, x3, x4, g0, g1, g2, g3, g4⟩ := five b0
    obtain ⟨y0, y1, y2, y3, y4, k0, k1, k2, k3, k4⟩ := five b1
    clear h1 b0 b1
    go_wp2_with fail
    refine bodyPost_ret (v := .tuple #[(Fd.mk 0 0 [] false 0).val, .string (bst (l1)), .int .i64 ((e1 : Int))]) (by simp [results, Tryd.results40, go_sem, Fd.val, bst, *]) rfl ⟨rfl, ?_⟩
    try refine Below.drew ?_
    repeat' (refine Below.setCell ?_ (by simp) _)
    exact H1.out

set_option maxHeartbeats 4000000 in
theorem refTake_text (most : Int) (l : List UInt8) (w : World) (hl : l.length ≤ 70000) :
    Calls Tryd.prog 40 #[.int .i64 1, .int .i64 most, .string (bst l)] w (TookRef 1 most l w) := by
  have HW := hid (show Below w.heap.size w ((w.alloc (.cells #[.int .i64 0, .int .u64 0, .string ⟨#[]⟩, .bool false, .int .i64 0] 109)).alloc (.cells #[.int .i64 1, .int .u64 0, .string ⟨#[]⟩, .bool false, .int .i64 0] 109)) from ((Below.refl _ _).alloc (Nat.le_refl _) _).alloc (by simp) _)
  have e0 : tk 1 most l = (⟨1, 0, (rtext l).1, false, 0⟩, (rtext l).2) := rfl
  unfold TookRef
  rw [e0]
  have hG := refNum_any l ((w.alloc (.cells #[.int .i64 0, .int .u64 0, .string ⟨#[]⟩, .bool false, .int .i64 0] 109)).alloc (.cells #[.int .i64 1, .int .u64 0, .string ⟨#[]⟩, .bool false, .int .i64 0] 109)) hl
  have hbad := rnum_bad l
  have htx : rtext l = if (rnum l).2.2 ≠ 0 then ([], l, (rnum l).2.2) else if 65536 < (rnum l).1 then ([], l, 32) else if (rnum l).2.1.length < (rnum l).1 then ([], l, 30) else ((rnum l).2.1.take (rnum l).1, (rnum l).2.1.drop (rnum l).1, 0) := rfl
  have hlen := rnum_len l
  obtain ⟨⟨n, l1, e1⟩, ho⟩ : ∃ o, rnum l = o := ⟨_, rfl⟩
  rw [ho] at hG hbad htx hlen
  dsimp only at hG hbad htx hlen
  have HG := hid hG
  have hz1 := bst_size l1
  have hl1 : l1.length ≤ 70000 := by omega
  clear hG ho e0 hl hlen
  by_cases hE : e1 = 0
  · subst hE
    rw [if_neg (by simp)] at htx
    by_cases h1 : 65536 < n
    · rw [if_pos h1] at htx
      rw [htx]
      clear htx hbad
      have hi : (65536 : Int) < (n : Int) := by omega
      go_enter Tryd.func40, Tryd.ntmps40
      go_wp2_with fail
      go_fit HG.out
      rintro e w2 ⟨rfl, h1⟩
      obtain ⟨b0, b1⟩ := two_below h1
      have H1 := hid (below_step HW.out h1)
      obtain ⟨x0, x1, x2, x3, x4, g0, g1, g2, g3, g4⟩ := five b0
      obtain ⟨y0, y1, y2, y3, y4, k0, k1, k2, k3, k4⟩ := five b1
      clear h1 b0 b1
      go_wp2_with fail
      refine bodyPost_ret (v := .tuple #[(Fd.mk 1 0 [] false 0).val, .string (bst (l)), .int .i64 (32)]) (by simp [results, Tryd.results40, go_sem, Fd.val, bst, *]) rfl ⟨rfl, ?_⟩
      try refine Below.drew ?_
      repeat' (refine Below.setCell ?_ (by simp) _)
      exact H1.out
    · rw [if_neg h1] at htx
      have hi : ¬ (65536 : Int) < (n : Int) := by omega
      by_cases h2 : l1.length < n
      · rw [if_pos h2] at htx
        rw [htx]
        have hi2 : (l1.length : Int) < (n : Int) := by omega
        clear htx hbad h1 h2
        go_enter Tryd.func40, Tryd.ntmps40
        go_wp2_with fail
        go_fit HG.out
        rintro e w2 ⟨rfl, h1⟩
        obtain ⟨b0, b1⟩ := two_below h1
        have H1 := hid (below_step HW.out h1)
        obtain ⟨x0, x1, x2, x3, x4, g0, g1, g2, g3, g4⟩ := five b0
        obtain ⟨y0, y1, y2, y3, y4, k0, k1, k2, k3, k4⟩ := five b1
        clear h1 b0 b1
        go_wp2_with fail
        refine bodyPost_ret (v := .tuple #[(Fd.mk 1 0 [] false 0).val, .string (bst (l)), .int .i64 (30)]) (by simp [results, Tryd.results40, go_sem, Fd.val, bst, *]) rfl ⟨rfl, ?_⟩
        try refine Below.drew ?_
        repeat' (refine Below.setCell ?_ (by simp) _)
        exact H1.out
      · rw [if_neg h2] at htx
        rw [htx]
        have hi2 : ¬ (l1.length : Int) < (n : Int) := by omega
        have hi3 : (n : Int) ≤ (l1.length : Int) := by omega
        have hex1 := bst_take l1 n
        have hex2 := bst_drop l1 n
        clear htx hbad h1 h2
        go_enter Tryd.func40, Tryd.ntmps40
        go_wp2_with fail
        go_fit HG.out
        rintro e w2 ⟨rfl, h1⟩
        obtain ⟨b0, b1⟩ := two_below h1
        have H1 := hid (below_step HW.out h1)
        obtain ⟨x0, x1, x2, x3, x4, g0, g1, g2, g3, g4⟩ := five b0
        obtain ⟨y0, y1, y2, y3, y4, k0, k1, k2, k3, k4⟩ := five b1
        clear h1 b0 b1
        go_wp2_with fail
        go_region
        go_wp2_with fail
        refine bodyPost_ret (v := .tuple #[(Fd.mk 1 0 (l1.take n) false 0).val, .string (bst (l1.drop n)), .int .i64 (0)]) (by simp [results, Tryd.results40, go_sem, Fd.val, bst, *]) rfl ⟨rfl, ?_⟩
        try refine Below.drew ?_
        repeat' (refine Below.setCell ?_ (by simp) _)
        exact H1.out
  · rw [if_pos (by simpa using hE)] at htx
    rw [htx]
    have hE1 : ((e1 : Int) != 0) = true := by simpa using hE
    clear hbad hE htx
    go_enter Tryd.func40, Tryd.ntmps40
    go_wp2_with fail
    go_fit HG.out
    rintro e w2 ⟨rfl, h1⟩
    obtain ⟨b0, b1⟩ := two_below h1
    have H1 := hid (below_step HW.out h1)
    obtain ⟨x0, x1, x2, x3, x4, g0, g1, g2, g3, g4⟩ := five b0
    obtain ⟨y0, y1, y2, y3, y4, k0, k1, k2, k3, k4⟩ := five b1
    clear h1 b0 b1
    go_wp2_with fail
    refine bodyPost_ret (v := .tuple #[(Fd.mk 1 0 [] false 0).val, .string (bst (l)), .int .i64 ((e1 : Int))]) (by simp [results, Tryd.results40, go_sem, Fd.val, bst, *]) rfl ⟨rfl, ?_⟩
    try refine Below.drew ?_
    repeat' (refine Below.setCell ?_ (by simp) _)
    exact H1.out

set_option maxHeartbeats 4000000 in
theorem refTake_count (most : Int) (hmost : -9223372036854775808 ≤ most ∧ most ≤ 9223372036854775807) (l : List UInt8) (w : World) (hl : l.length ≤ 70000) :
    Calls Tryd.prog 40 #[.int .i64 3, .int .i64 most, .string (bst l)] w (TookRef 3 most l w) := by
  have HW := hid (show Below w.heap.size w ((w.alloc (.cells #[.int .i64 0, .int .u64 0, .string ⟨#[]⟩, .bool false, .int .i64 0] 109)).alloc (.cells #[.int .i64 3, .int .u64 0, .string ⟨#[]⟩, .bool false, .int .i64 0] 109)) from ((Below.refl _ _).alloc (Nat.le_refl _) _).alloc (by simp) _)
  have e0 : tk 3 most l = (⟨3, (rcount most l).1, [], false, 0⟩, (rcount most l).2) := rfl
  unfold TookRef
  rw [e0]
  have hG := refNum_any l ((w.alloc (.cells #[.int .i64 0, .int .u64 0, .string ⟨#[]⟩, .bool false, .int .i64 0] 109)).alloc (.cells #[.int .i64 3, .int .u64 0, .string ⟨#[]⟩, .bool false, .int .i64 0] 109)) hl
  have htx : rcount most l = if (rnum l).2.2 ≠ 0 then (0, l, (rnum l).2.2) else if most < 0 ∨ most < ((rnum l).1 : Int) then (0, l, 32) else ((rnum l).1, (rnum l).2.1, 0) := rfl
  obtain ⟨⟨n, l1, e1⟩, ho⟩ : ∃ o, rnum l = o := ⟨_, rfl⟩
  rw [ho] at hG htx
  dsimp only at hG htx
  have HG := hid hG
  have hw : most < 0 ∨ IntKind.u64.wrap most = most := by rw [IntKind.wrap_u64]; omega
  have HWR := hid hw
  clear hG ho e0 hl hmost hw
  by_cases hE : e1 = 0
  · subst hE
    rw [if_neg (by simp)] at htx
    by_cases h1 : most < 0
    · rw [if_pos (.inl h1)] at htx
      rw [htx]
      clear htx
      go_enter Tryd.func40, Tryd.ntmps40
      go_wp2_with fail
      go_fit HG.out
      rintro e w2 ⟨rfl, h1⟩
      obtain ⟨b0, b1⟩ := two_below h1
      have H1 := hid (below_step HW.out h1)
      obtain ⟨x0, x1, x2, x3, x4, g0, g1, g2, g3, g4⟩ := five b0
      obtain ⟨y0, y1, y2, y3, y4, k0, k1, k2, k3, k4⟩ := five b1
      clear h1 b0 b1
      go_wp2_with fail
      refine bodyPost_ret (v := .tuple #[(Fd.mk 3 0 [] false 0).val, .string (bst (l)), .int .i64 (32)]) (by simp [results, Tryd.results40, go_sem, Fd.val, bst, *]) rfl ⟨rfl, ?_⟩
      try refine Below.drew ?_
      repeat' (refine Below.setCell ?_ (by simp) _)
      exact H1.out
    · have hwr : IntKind.u64.wrap most = most := HWR.out.resolve_left h1
      have h0 : (0 : Int) ≤ most := by omega
      by_cases h2 : most < (n : Int)
      · rw [if_pos (.inr h2)] at htx
        rw [htx]
        clear htx
        go_enter Tryd.func40, Tryd.ntmps40
        go_wp2_with fail
        go_fit HG.out
        rintro e w2 ⟨rfl, h1⟩
        obtain ⟨b0, b1⟩ := two_below h1
        have H1 := hid (below_step HW.out h1)
        obtain ⟨x0, x1, x2, x3, x4, g0, g1, g2, g3, g4⟩ := five b0
        obtain ⟨y0, y1, y2, y3, y4, k0, k1, k2, k3, k4⟩ := five b1
        clear h1 b0 b1
        go_wp2_with fail
        refine bodyPost_ret (v := .tuple #[(Fd.mk 3 0 [] false 0).val, .string (bst (l)), .int .i64 (32)]) (by simp [results, Tryd.results40, go_sem, Fd.val, bst, *]) rfl ⟨rfl, ?_⟩
        try refine Below.drew ?_
        repeat' (refine Below.setCell ?_ (by simp) _)
        exact H1.out
      · rw [if_neg (by omega)] at htx
        rw [htx]
        clear htx
        go_enter Tryd.func40, Tryd.ntmps40
        go_wp2_with fail
        go_fit HG.out
        rintro e w2 ⟨rfl, h1⟩
        obtain ⟨b0, b1⟩ := two_below h1
        have H1 := hid (below_step HW.out h1)
        obtain ⟨x0, x1, x2, x3, x4, g0, g1, g2, g3, g4⟩ := five b0
        obtain ⟨y0, y1, y2, y3, y4, k0, k1, k2, k3, k4⟩ := five b1
        clear h1 b0 b1
        go_wp2_with fail
        refine bodyPost_ret (v := .tuple #[(Fd.mk 3 n [] false 0).val, .string (bst (l1)), .int .i64 (0)]) (by simp [results, Tryd.results40, go_sem, Fd.val, bst, *]) rfl ⟨rfl, ?_⟩
        try refine Below.drew ?_
        repeat' (refine Below.setCell ?_ (by simp) _)
        exact H1.out
  · rw [if_pos (by simpa using hE)] at htx
    rw [htx]
    have hE1 : ((e1 : Int) != 0) = true := by simpa using hE
    clear hE htx
    go_enter Tryd.func40, Tryd.ntmps40
    go_wp2_with fail
    go_fit HG.out
    rintro e w2 ⟨rfl, h1⟩
    obtain ⟨b0, b1⟩ := two_below h1
    have H1 := hid (below_step HW.out h1)
    obtain ⟨x0, x1, x2, x3, x4, g0, g1, g2, g3, g4⟩ := five b0
    obtain ⟨y0, y1, y2, y3, y4, k0, k1, k2, k3, k4⟩ := five b1
    clear h1 b0 b1
    go_wp2_with fail
    refine bodyPost_ret (v := .tuple #[(Fd.mk 3 0 [] false 0).val, .string (bst (l)), .int .i64 ((e1 : Int))]) (by simp [results, Tryd.results40, go_sem, Fd.val, bst, *]) rfl ⟨rfl, ?_⟩
    try refine Below.drew ?_
    repeat' (refine Below.setCell ?_ (by simp) _)
    exact H1.out

end Go.Proofs.YtngclmjefadokaaDoor

namespace Go.Proofs.YtngclmjefadokaaDoor
open Go Go.RowKit

theorem vbytes_prefix (v k : Nat) (h : k < vlen v) : (vbytes v).take (k + 1) = (vbytes v).take k ++ [vbyte v k] := vbytes_take v k h

set_option maxHeartbeats 400000 in
theorem refVar_any (v : Nat) (w : World) (hv : v < 18446744073709551616) :
    Calls Tryd.prog 43 #[.int .u64 (v : Int)] w fun e w' => e = .returned (.string (bst (vbytes v))) ∧ Below w.heap.size w w' := by
  have hL := hid (vlen_isLen v hv)
  have hle := vlen_le v
  go_enter Tryd.func43, Tryd.ntmps43
  go_wp2_with fail
  go_loopw [0, 3] (fun u s wr => ∃ k q : Nat, k < vlen v ∧ q = v / 128 ^ k ∧ u = .int .u64 (q : Int) ∧ s = .string (bst ((vbytes v).take k)) ∧ Below w.heap.size w wr) (fun u _ _ => (intOf u).toNat)
  case atStart => exact ⟨0, v, vlen_pos v, by simp, rfl, by simp [bst], Below.refl _ _⟩
  case round =>
    obtain ⟨k, q, hk, hq, rfl, rfl, hb⟩ := hrel
    have HQ := hid hq
    have hqb : q < 18446744073709551616 := Nat.lt_of_le_of_lt (by rw [hq]; exact Nat.div_le_self _ _) hv
    clear hq
    have hex : ∃ x : UInt8, x = vbyte v k := ⟨_, rfl⟩
    obtain ⟨x, hx⟩ := hex
    have HX := hid hx
    have HT := hid (vbytes_take v k hk)
    have hsz : (bst ((vbytes v).take k)).size + (bst [x]).size ≤ 16 := by rw [bst_size, bst_size, List.length_take]; simp; omega
    by_cases hlt : 128 ≤ q
    · have hk1 : k + 1 < vlen v := by
        refine Classical.byContradiction fun hne => ?_
        have h0 := div_zero_mono v (vlen v) (k + 1) hL.out.2.1 (by omega)
        rw [div_pow_succ, ← HQ.out] at h0
        omega
      have hv1 := vbyte_more hk1 HQ.out
      rw [← hx] at hv1
      have hbyte : (q : Int) % 128 + 128 = (x.toNat : Int) := by rw [hv1]; omega
      have hconv := conv_one x
      clear hv1 hx
      go_wp2_with fail
      go_roundw
      case rel => exact ⟨k + 1, q / 128, hk1, by rw [HQ.out, ← div_pow_succ], by go_num, by rw [bst_append, HT.out, HX.out], hb.alloc hb.size _⟩
      case measure => simp [intOf]; omega
    · have hk1 : k + 1 = vlen v := by
        refine Classical.byContradiction fun hne => ?_
        have h0 := hL.out.2.2 (by omega)
        have h1 := div_zero_mono v (k + 1) (vlen v - 1) (by rw [div_pow_succ, ← HQ.out]; omega) (by omega)
        exact h0 h1
      have hv1 := vbyte_last hk1 HQ.out hL.out
      rw [← hx] at hv1
      have hconv := conv_num q x (by rw [hv1]; omega)
      have HE := hid (show bst ((vbytes v).take k) ++ bst [x] = bst (vbytes v) by rw [bst_append, hx, ← HT.out, List.take_of_length_le (by rw [vbytes_length]; omega)])
      clear hv1 hx
      go_wp2_with fail
      go_ret
      exact ⟨by rw [← HE.out]; rfl, hb.alloc hb.size _⟩

end Go.Proofs.YtngclmjefadokaaDoor

namespace Go.Proofs.YtngclmjefadokaaDoor
open Go Go.RowKit

set_option maxHeartbeats 1000000 in
theorem refText_any (s : List UInt8) (w : World) (hs : s.length ≤ 65536) :
    Calls Tryd.prog 44 #[.string (bst s)] w fun e w' => e = .returned (.string (bst (vbytes s.length ++ s))) ∧ Below w.heap.size w w' := by
  have hz := bst_size s
  have hz2 := bst_size (vbytes s.length)
  have hv := vlen_le s.length
  rw [vbytes_length] at hz2
  have hns : ¬ (9223372036854775807 < vlen s.length + s.length) := by omega
  have happ := bst_append (vbytes s.length) s
  have HS := hid hs
  clear hs
  go_enter Tryd.func44, Tryd.ntmps44
  go_wp2_with fail
  go_fit (refVar_any s.length w (by have := HS.out; omega))
  rintro e w1 ⟨rfl, hb⟩
  have HB := hid hb
  clear hb
  go_wp2_with fail
  go_ret
  exact ⟨rfl, HB.out⟩

end Go.Proofs.YtngclmjefadokaaDoor
