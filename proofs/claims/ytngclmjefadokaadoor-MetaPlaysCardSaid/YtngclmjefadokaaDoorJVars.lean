/-
  A number in as few bytes as it needs: plain functions, no program. extend: by its contracts. PutVar's closure that pushes a byte: by its contract. num.Size, num.PutVar by their contracts. num.GetVar by its contracts. What is written is read, and what is read is the one way to write it: plain functions. GetVar and PutVar, as a walk calls them; plain facts on what is read. What a reader takes: plain functions. What is written is taken: plain.
-/
import Derived.Test.YtngclmjefadokaaDoorJBytes
import Derived.Lib.MinMax
import Derived.Deep.DeepFit
namespace Go.Proofs.YtngclmjefadokaaDoor

/-- how many bytes a number needs (fuel first) -/
def vl : Nat → Nat → Nat
  | 0, _ => 1
  | f + 1, v => if v < 128 then 1 else 1 + vl f (v / 128)
def vlen (v : Nat) : Nat := vl 9 v

def IsLen (v n : Nat) : Prop := 1 ≤ n ∧ v / 128 ^ n = 0 ∧ (1 < n → v / 128 ^ (n - 1) ≠ 0)

theorem div_pow_succ (v k : Nat) : v / 128 ^ (k + 1) = v / 128 ^ k / 128 := by rw [Nat.pow_succ, Nat.div_div_eq_div_mul]
theorem div_pow_succ' (v k : Nat) : v / 128 ^ (k + 1) = v / 128 / 128 ^ k := by rw [Nat.pow_succ, Nat.mul_comm, Nat.div_div_eq_div_mul]
theorem div_pow_add (v k j : Nat) : v / 128 ^ (k + j) = v / 128 ^ k / 128 ^ j := by rw [Nat.pow_add, Nat.div_div_eq_div_mul]

theorem vl_isLen : ∀ f v, v < 128 ^ (f + 1) → IsLen v (vl f v)
  | 0, v, h => ⟨Nat.le_refl _, by simp [vl]; simp at h; omega, fun h1 => by simp [vl] at h1⟩
  | f + 1, v, h => by
    unfold vl
    split
    · exact ⟨Nat.le_refl _, by simp; omega, fun h1 => by omega⟩
    · rename_i hv
      have ih := vl_isLen f (v / 128) (by rw [Nat.div_lt_iff_lt_mul (by decide)]; rw [Nat.pow_succ] at h; exact h)
      obtain ⟨i1, i2, i3⟩ := ih
      refine ⟨by omega, ?_, fun _ => ?_⟩
      · rw [Nat.add_comm 1, div_pow_succ']; exact i2
      · rw [Nat.add_sub_cancel_left]
        by_cases h1 : 1 < vl f (v / 128)
        · have := i3 h1
          rw [← div_pow_succ', show vl f (v / 128) - 1 + 1 = vl f (v / 128) by omega] at this
          exact this
        · have : vl f (v / 128) = 1 := by omega
          rw [this]
          simp
          omega

theorem vlen_isLen (v : Nat) (h : v < 18446744073709551616) : IsLen v (vlen v) := vl_isLen 9 v (by omega)

theorem div_zero_mono (v a b : Nat) (h : v / 128 ^ a = 0) (hab : a ≤ b) : v / 128 ^ b = 0 := by
  obtain ⟨d, rfl⟩ := Nat.exists_eq_add_of_le hab
  rw [div_pow_add, h, Nat.zero_div]

theorem IsLen.uniq {v a b : Nat} (ha : IsLen v a) (hb : IsLen v b) : a = b := by
  rcases Nat.lt_trichotomy a b with h | h | h
  · exact absurd (div_zero_mono v a (b - 1) ha.2.1 (by omega)) (hb.2.2 (by have := ha.1; omega))
  · exact h
  · exact absurd (div_zero_mono v b (a - 1) hb.2.1 (by omega)) (ha.2.2 (by have := hb.1; omega))

theorem vlen_le (v : Nat) : vlen v ≤ 10 := by
  have : ∀ f v, vl f v ≤ f + 1 := by
    intro f
    induction f with
    | zero => intro v; simp [vl]
    | succ f ih =>
      intro v
      have := ih (v / 128)
      unfold vl
      split <;> omega
  exact this 9 v
theorem vlen_pos (v : Nat) : 1 ≤ vlen v := by
  unfold vlen vl; split <;> omega

/-- the bytes -/
def vbyte (v i : Nat) : UInt8 := UInt8.ofNat (if i + 1 < vlen v then v / 128 ^ i % 128 + 128 else v / 128 ^ i)
def vbytes (v : Nat) : List UInt8 := (List.range (vlen v)).map (vbyte v)
theorem vbytes_length (v : Nat) : (vbytes v).length = vlen v := by simp [vbytes]
theorem vbytes_take (v k : Nat) (h : k < vlen v) : (vbytes v).take (k + 1) = (vbytes v).take k ++ [vbyte v k] := by
  rw [List.take_succ_eq_append_getElem (by rw [vbytes_length]; exact h)]
  simp [vbytes]

theorem nat_ne {q : Nat} (h : q ≠ 0) : ((q : Int) == 0) = false ∧ ((q : Int) != 0) = true := by
  simp; omega

end Go.Proofs.YtngclmjefadokaaDoor

namespace Go.Proofs.YtngclmjefadokaaDoor
open Go Go.RowKit

set_option maxHeartbeats 400000 in
theorem extend_any (A : Option Addr) (c k B : Nat) (l : List UInt8) (w : World) (hA : At w B A l) (hB : B ≤ w.heap.size) (hl : l.length ≤ 70368744177664) (hk : k ≤ 4096) :
    Calls Tryd.prog 83 #[.slice A l.length c, .int .i64 k] w fun e w' =>
      e = .returned (.slice (some ⟨w.heap.size, 0, none⟩) l.length (l.length + k)) ∧
        w'.ownsRow w.heap.size 5 1 (.slice (some ⟨w.heap.size, 0, none⟩) l.length (l.length + k)) l.length (bs l) ∧ Below w.heap.size w w' := by
  obtain ⟨i0, hi, hz0, hz1, hz2⟩ := info_parts info_byte
  go_enter Tryd.func83, Tryd.ntmps83
  go_wp2_with (first
    | (at_make; go_must (refine wpList_make_two _ rfl _ _ 98 rfl 5 i0 (.int .u8 0) Tryd.underlying98 hi hz0 hz1 .i64 .i64 _ _ l.length (l.length + k) rfl rfl (by omega) (by omega) rfl (by omega) (by rw [hz2]; omega) (by omega) ?_))
    | (with_reducible refine wpList_copy_splice rfl (.tmp 13) (.tmp 14) 98 98 rfl 5 Tryd.underlying98 size_byte _ A _ _ _ c rfl rfl w.heap.size 0 (List.replicate (l.length + k) (.int .u8 0)) 5 (heap_alloc_new w _) (bs l) ?n ?pos ?fit (bs_one l) w.heap.size w ?below (Nat.le_refl _) ?_))
  case n => simp [bs_length]
  case fit => simp [bs_length]
  case below => exact (Below.refl _ _).alloc (Nat.le_refl _) _
  case pos =>
    intro h
    rw [bs_length] at h
    obtain ⟨b, off, rfl, hb, hc⟩ := hA h
    refine ⟨_, rfl, fun j u hu => ?_⟩
    obtain ⟨x, hx, rfl⟩ := bs_at hu
    have e1 : (⟨b, off, none⟩ : Addr).add j = ⟨b, off + j, none⟩ := by unfold Addr.add; split <;> simp_all
    rw [e1, World.cell?_alloc_lt w _ _ (by show b < w.heap.size; omega)]
    exact hc j x hx
  · intro w' hg hb
    go_wp2
    go_ret
    refine ⟨rfl, ⟨by simp [bs_length], .inr ⟨w.heap.size, _, _, rfl, Nat.le_refl _, hg.out, by omega, by unfold maxLen; omega, ?_, ?_⟩⟩, hb⟩
    · simp [splice, bs_length]
    · simp [splice, bs_length]
theorem extend_len (A : Option Addr) (m c k B : Nat) (K : Int) (l : List UInt8) (w : World) (hm : m = l.length) (hK : K = (k : Int)) (hA : At w B A l) (hB : B ≤ w.heap.size) (hl : l.length ≤ 70368744177664) (hk : k ≤ 4096) :
    Calls Tryd.prog 83 #[.slice A m c, .int .i64 K] w fun e w' =>
      ∃ A' m' c', e = .returned (.slice A' m' c') ∧ Row w' w.heap.size 5 A' m' c' l ∧ Below w.heap.size w w' := by
  subst hm hK
  exact (extend_any A c k B l w hA hB hl hk).mono fun e w' ⟨he, h1, h2⟩ => ⟨_, _, _, he, ⟨rfl, h1⟩, h2⟩

end Go.Proofs.YtngclmjefadokaaDoor

namespace Go.Proofs.YtngclmjefadokaaDoor
open Go Go.RowKit

theorem byte_of (n : Int) (h0 : 0 ≤ n) (h1 : n < 256) : ((UInt8.ofNat n.toNat).toNat : Int) = n := by
  rw [UInt8.toNat_ofNat']; omega

set_option maxHeartbeats 400000 in
theorem push_var (base b : Nat) (l : List UInt8) (x : UInt8) (w : World) (h : OutAt w base 5 98 b l) (hl : l.length ≤ 140737488355000) (hb : base ≤ b) :
    Calls Tryd.prog 93 #[.int .u8 (x.toNat : Int), .pointer (some ⟨b, 0, none⟩)] w fun e w' =>
      e = .returned (.tuple #[]) ∧ OutAt w' base 5 98 b (l ++ [x]) ∧ Below base w w' := by
  obtain ⟨A, c, hv, hown⟩ := h
  obtain ⟨i0, hi, hz0, hz1, hz2⟩ := info_parts info_byte
  have hc := cell_of_one hv
  have hlt := lt_of_block hv
  have hne := own_ne hown hv (by decide)
  go_enter Tryd.func93, Tryd.ntmps93
  go_wp2_with (first
    | (at_builtin; go_must (refine wpList_append_bs _ rfl _ _ _ rfl base 5 i0 Tryd.underlying98 hi hz0 hz1 hz2 (.slice A l.length c) l [x] rfl (hown.alloc _) (some ⟨w.heap.size, 0, none⟩) 1 1 rfl rfl ?pos ?len ?base ?_)))
  case pos => simpa using At.one w x _
  case len => simp; omega
  case base => simp; omega
  intro A' c' w1 hown1 hg1 hat
  have hb1 : w1.heap[b]? = some (.cells #[.slice A l.length c] 98 (0, 0)) := (hg1.block b (by simp; omega) (fun e => hne e.symm)).trans ((Below.heap_alloc w _ b hlt).trans hv)
  have hf := free_of_one hb1
  have hc1 := cell_of_one hb1
  have hbel : Below base w w1 := ((Below.refl base w).alloc (by omega) _).grown hg1 (by simp; omega) (fun k hk => (hown.lt k hk).1)
  go_wp2
  go_end0
  have e : (l ++ [x]).length = l.length + 1 := by simp
  refine ⟨rfl, ⟨A', c', ?_, ?_⟩, hbel.setCell hb _⟩
  · rw [e]; exact one_setCell hb1
  · rw [e]; exact ownsRow_setCell_other hown1 (own_ne hown1 hb1 (by decide)) _

end Go.Proofs.YtngclmjefadokaaDoor

namespace Go.Proofs.YtngclmjefadokaaDoor
open Go Go.RowKit

theorem pow7 (v k : Nat) : ((v / 128 ^ k : Nat) : Int) / 2 ^ 7 = ((v / 128 ^ (k + 1) : Nat) : Int) := by
  rw [div_pow_succ]; omega

set_option maxHeartbeats 400000 in
theorem size_any (v : Nat) (w : World) (hv : v < 18446744073709551616) :
    Calls Tryd.prog 90 #[.int .u64 (v : Int)] w fun e w' => e = .returned (.int .i64 (vlen v : Int)) ∧ w = w' := by
  have hL := hid (vlen_isLen v hv)
  have hle := vlen_le v
  clear hv
  go_enter Tryd.func90, Tryd.ntmps90
  go_wp2_with fail
  go_loop [0, 3] (fun u n => ∃ k q : Nat, k < vlen v ∧ q = v / 128 ^ (k + 1) ∧ u = .int .u64 (q : Int) ∧ n = .int .i64 ((k + 1 : Nat) : Int)) (fun _ n => (20 - intOf n).toNat)
  case atStart => exact ⟨0, v / 128, vlen_pos v, by simp, by go_num, by go_num⟩
  case round =>
    obtain ⟨k, q, hk, hq, rfl, rfl⟩ := hrel
    have HQ := hid hq
    clear hq
    by_cases h0 : q = 0
    · subst h0
      go_wp2
      go_ret
      refine ⟨?_, rfl⟩
      have hk1 : k + 1 = vlen v := by
        refine Classical.byContradiction fun hne => ?_
        exact hL.out.2.2 (by omega) (div_zero_mono v (k + 1) (vlen v - 1) HQ.out.symm (by omega))
      rw [← hk1]
      simp
    · have ht := (nat_ne h0).2
      have hlt : k + 1 < vlen v := by
        refine Classical.byContradiction fun hne => ?_
        exact h0 (HQ.out.trans (div_zero_mono v (vlen v) (k + 1) hL.out.2.1 (by omega)))
      clear h0
      go_wp2
      go_round
      case rel => exact ⟨k + 1, q / 128, by omega, by rw [HQ.out, ← div_pow_succ], by go_num, by go_num⟩
      case measure => simp [intOf]; omega

theorem or128_nat : ∀ r : Nat, r < 256 → r ||| 128 = r % 128 + 128 := by decide +kernel
theorem or128 (q : Nat) : bits BinOp.or IntKind.u8 ((q : Int) % 256) 128 = ((q % 128 + 128 : Nat) : Int) := by
  have h := or128_nat (q % 256) (Nat.mod_lt _ (by decide))
  have e := u8_or_nat (q % 256) 128 (Nat.mod_lt _ (by decide)) (by decide)
  rw [h] at e
  have e2 : ((q : Int) % 256) = ((q % 256 : Nat) : Int) := by omega
  rw [e2]
  refine e.trans ?_
  omega
theorem vbyte_more {v k q : Nat} (h : k + 1 < vlen v) (hq : q = v / 128 ^ k) : ((vbyte v k).toNat : Int) = ((q % 128 + 128 : Nat) : Int) := by
  unfold vbyte
  rw [if_pos h, ← hq, UInt8.toNat_ofNat']
  omega
theorem vbyte_last {v k q : Nat} (h : k + 1 = vlen v) (hq : q = v / 128 ^ k) (hL : IsLen v (vlen v)) : ((vbyte v k).toNat : Int) = (q : Int) % 256 := by
  have h0 := hL.2.1
  rw [← h, div_pow_succ, ← hq] at h0
  unfold vbyte
  rw [if_neg (by omega), ← hq, UInt8.toNat_ofNat']
  omega

set_option maxHeartbeats 400000 in
theorem putVar_any (A : Option Addr) (c B : Nat) (l : List UInt8) (v : Nat) (w : World) (hA : At w B A l) (hB : B ≤ w.heap.size) (hl : l.length ≤ 70368744177664) (hv : v < 18446744073709551616) :
    Calls Tryd.prog 81 #[.slice A l.length c, .int .u64 (v : Int)] w fun e w' =>
      ∃ A' m c', e = .returned (.slice A' m c') ∧ Row w' w.heap.size 5 A' m c' (l ++ vbytes v) ∧ Below w.heap.size w w' := by
  have hle := vlen_le v
  have hge := vlen_pos v
  obtain ⟨n, hn⟩ : ∃ n, n = vlen v := ⟨_, rfl⟩
  have hS := hid (size_any v w hv)
  rw [← hn] at hS hle hge
  have HN := hid hn
  clear hn
  go_enter Tryd.func81, Tryd.ntmps81
  go_wp2_with (first
    | (go_at_call 90; refine hS.out.mono ?_; rintro e w' ⟨rfl, rfl⟩)
    | (go_at_call 83; refine (extend_any A c n B l _ hA hB hl (by omega)).mono ?_; rintro e w1 ⟨rfl, hown, hbel⟩))
  have hbv : (w1.alloc (.cells #[.slice (some ⟨w.heap.size, 0, none⟩) l.length (l.length + n)] 98)).heap[w1.heap.size]? = some (.cells #[.slice (some ⟨w.heap.size, 0, none⟩) l.length (l.length + n)] 98 (0, 0)) := heap_alloc_new w1 _
  have hs1 := hbel.size
  go_loopw [1, 16] (fun u i wr => ∃ k q : Nat, k + 1 ≤ n ∧ q = v / 128 ^ k ∧ u = .int .u64 (q : Int) ∧ i = .int .i64 (k : Int) ∧ OutAt wr w.heap.size 5 98 w1.heap.size (l ++ (vbytes v).take k) ∧ Below w.heap.size w wr)
    (fun _ i _ => n - (intOf i).toNat)
  case atStart => exact ⟨0, v, by omega, by simp, rfl, rfl, ⟨_, _, by simpa using hbv, by simpa using hown.alloc _⟩, hbel.alloc (by omega) _⟩
  case round =>
    obtain ⟨k, q, hk, hq, rfl, rfl, hout, hb2⟩ := hrel
    have HQ := hid hq
    clear hq
    have hlen : (l ++ (vbytes v).take k).length ≤ 140737488355000 := by rw [List.length_append, List.length_take]; omega
    have htake := hid (vbytes_take v k (by rw [← HN.out]; omega))
    obtain ⟨x, hx⟩ : ∃ x, x = vbyte v k := ⟨_, rfl⟩
    by_cases hlt : k + 1 < n
    · have hbits : bits BinOp.or IntKind.u8 ((q : Int) % 256) 128 = (x.toNat : Int) := by
        rw [hx, or128]; exact (vbyte_more (HN.out ▸ hlt) HQ.out).symm
      have HX := hid hx
      clear hx
      have hP := hid (push_var w.heap.size w1.heap.size (l ++ (vbytes v).take k) x wr hout hlen hs1)
      go_wp2_with (go_at_call 93; refine hP.out.mono ?_; rintro e w2 ⟨rfl, hout2, hb3⟩)
      go_roundw
      case rel => exact ⟨k + 1, q / 128, by omega, by rw [HQ.out, ← div_pow_succ], by go_num, by go_num, by rw [htake.out, ← HX.out, ← List.append_assoc]; exact hout2, hb2.trans hb3⟩
      case measure => simp [intOf]; omega
    · have hbits : (q : Int) % 256 = (x.toNat : Int) := by
        rw [hx]; exact (vbyte_last (HN.out ▸ (by omega : k + 1 = n)) HQ.out (vlen_isLen v hv)).symm
      have HX := hid hx
      clear hx
      have hP := hid (push_var w.heap.size w1.heap.size (l ++ (vbytes v).take k) x wr hout hlen hs1)
      go_wp2_with (go_at_call 93; refine hP.out.mono ?_; rintro e w2 ⟨rfl, ⟨A', c', hblk, hown2⟩, hb3⟩; have hc := cell_of_one hblk; obtain ⟨m, hm⟩ : ∃ m, m = (l ++ (vbytes v).take k ++ [x]).length := ⟨_, rfl⟩; rw [← hm] at hc hown2; have hm' := hid hm; clear hm hblk)
      go_ret
      have e : l ++ (vbytes v).take k ++ [x] = l ++ vbytes v := by
        rw [List.append_assoc, HX.out, ← htake.out, List.take_of_length_le (by rw [vbytes_length, ← HN.out]; omega)]
      exact ⟨A', m, c', rfl, ⟨by rw [← e]; exact hm'.out, by rw [← e]; exact hown2⟩, hb2.trans hb3⟩

end Go.Proofs.YtngclmjefadokaaDoor

namespace Go.Proofs.YtngclmjefadokaaDoor
open Go Go.RowKit

/-- the number that stands first, how many bytes it has, and what is wrong (0: nothing, 10: too few bytes, 12: its form); i bytes are read, they come to acc -/
def rdv (i acc : Nat) : List UInt8 → Nat × Nat × Nat
  | [] => (0, 0, 10)
  | x :: r => if i = 9 ∧ 1 < x.toNat ∨ x.toNat = 0 ∧ 0 < i then (0, 0, 12) else if x.toNat < 128 then (acc + x.toNat * 128 ^ i, i + 1, 0) else rdv (i + 1) (acc + (x.toNat - 128) * 128 ^ i) r

theorem rdv_form {i acc : Nat} {x : UInt8} {r : List UInt8} (h : i = 9 ∧ 1 < x.toNat ∨ x.toNat = 0 ∧ 0 < i) : rdv i acc (x :: r) = (0, 0, 12) := by
  unfold rdv; rw [if_pos h]
theorem rdv_last {i acc : Nat} {x : UInt8} {r : List UInt8} (h : ¬ (i = 9 ∧ 1 < x.toNat ∨ x.toNat = 0 ∧ 0 < i)) (hx : x.toNat < 128) : rdv i acc (x :: r) = (acc + x.toNat * 128 ^ i, i + 1, 0) := by
  unfold rdv; rw [if_neg h, if_pos hx]
theorem rdv_more {i acc : Nat} {x : UInt8} {r : List UInt8} (h : i ≠ 9) (hx : ¬ x.toNat < 128) : rdv i acc (x :: r) = rdv (i + 1) (acc + (x.toNat - 128) * 128 ^ i) r := by
  conv => lhs; unfold rdv
  rw [if_neg (by omega), if_neg hx]

theorem and128_nat : ∀ r : Nat, r < 256 → r &&& 128 = if r < 128 then 0 else 128 := by decide +kernel
theorem andNot128_nat : ∀ r : Nat, r < 256 → r &&& (255 - 128) = r % 128 := by decide +kernel
theorem and128 (x : UInt8) : bits BinOp.and IntKind.u8 (x.toNat : Int) 128 = if x.toNat < 128 then 0 else 128 := by
  have h := u8_and_nat x.toNat 128 x.toNat_lt (by decide)
  rw [and128_nat _ x.toNat_lt] at h
  refine h.trans ?_
  split <;> rfl
theorem andNot128 (x : UInt8) : bits BinOp.andNot IntKind.u8 (x.toNat : Int) 128 = ((x.toNat % 128 : Nat) : Int) := by
  have h := u8_andNot_nat x.toNat 128 x.toNat_lt (by decide)
  rw [andNot128_nat _ x.toNat_lt] at h
  exact h

theorem pow7' (k : Nat) : 2 ^ (7 * k) = 128 ^ k := by rw [Nat.pow_mul]
theorem or_add (q y k : Nat) (hq : q < 128 ^ k) : q ||| y * 128 ^ k = q + y * 128 ^ k := by
  rw [Nat.or_comm, ← pow7', Nat.mul_comm, ← Nat.two_pow_add_eq_or_of_lt (by rw [pow7']; exact hq), Nat.add_comm]
theorem or_wrap (q k : Nat) (x : UInt8) (hq : q < 128 ^ k) (hk : k ≤ 8) :
    bits BinOp.or IntKind.u64 (q : Int) (IntKind.u64.wrap ((x.toNat : Int) % 128 * 2 ^ (7 * k))) = ((q + x.toNat % 128 * 128 ^ k : Nat) : Int) := by
  have h8 : 128 ^ k ≤ 128 ^ 8 := Nat.pow_le_pow_right (by decide) hk
  have hm : x.toNat % 128 * 128 ^ k ≤ 127 * 128 ^ 8 := Nat.mul_le_mul (by omega) h8
  have e : ((x.toNat : Int) % 128 * 2 ^ (7 * k)) = ((x.toNat % 128 * 128 ^ k : Nat) : Int) := by rw [← pow7']; simp
  have e2 : IntKind.u64.wrap ((x.toNat % 128 * 128 ^ k : Nat) : Int) = ((x.toNat % 128 * 128 ^ k : Nat) : Int) := by rw [IntKind.wrap_u64]; omega
  rw [e, e2, u64_or_nat _ _ (by omega) (by omega), or_add q _ k hq]
theorem or_nine (q : Nat) (x : UInt8) (hq : q < 128 ^ 9) (hx : x.toNat = 1) :
    bits BinOp.or IntKind.u64 (q : Int) ((x.toNat : Int) % 128 * 9223372036854775808) = ((q + x.toNat * 128 ^ 9 : Nat) : Int) := by
  have e : ((x.toNat : Int) % 128 * 9223372036854775808) = ((1 * 128 ^ 9 : Nat) : Int) := by rw [hx]; rfl
  rw [e, u64_or_nat _ _ (by omega) (by omega), or_add q _ 9 hq, hx]
theorem or_zero (q : Nat) (hq : q < 18446744073709551616) : bits BinOp.or IntKind.u64 (q : Int) 0 = (q : Int) := by
  have h := u64_or_nat q 0 hq (by decide)
  rw [Nat.or_zero] at h
  exact h
theorem andNot_zero : bits BinOp.andNot IntKind.u8 0 128 = 0 := u8_andNot_nat 0 128 (by decide) (by decide)
theorem ret3 {a b : Int} {s e : Value} (h : a = b) : Ending.returned (.tuple #[.int .u64 a, s, e]) = Ending.returned (.tuple #[.int .u64 b, s, e]) := by rw [h]

theorem val_one {q k : Nat} {x : UInt8} (hq : q < 128 ^ k) (h1 : 9 ≤ k) (h9 : k ≤ 9) (h2 : 1 ≤ x.toNat) (h3 : x.toNat ≤ 1) :
    bits BinOp.or IntKind.u64 (q : Int) ((x.toNat : Int) % 128 * 9223372036854775808) = ((q + x.toNat * 128 ^ k : Nat) : Int) := by
  obtain rfl : k = 9 := by omega
  exact or_nine q x hq (by omega)
theorem val_nil {q k : Nat} {x : UInt8} (hq : q < 128 ^ k) (h1 : k ≤ 0) (h3 : x.toNat ≤ 0) :
    bits BinOp.or IntKind.u64 (q : Int) 0 = ((q + x.toNat * 128 ^ k : Nat) : Int) := by
  obtain rfl : k = 0 := by omega
  have e : x.toNat = 0 := by omega
  rw [e, or_zero q (by omega)]
  simp
theorem val_last {q k : Nat} {x : UInt8} (hq : q < 128 ^ k) (h1 : k ≤ 8) (hx : x.toNat < 128) :
    bits BinOp.or IntKind.u64 (q : Int) (IntKind.u64.wrap ((x.toNat : Int) % 128 * 2 ^ (7 * k))) = ((q + x.toNat * 128 ^ k : Nat) : Int) := by
  rw [or_wrap q k x hq h1, Nat.mod_eq_of_lt hx]
theorem val_more {q k : Nat} {x : UInt8} (hq : q < 128 ^ k) (h1 : k ≤ 8) (hx : ¬ x.toNat < 128) :
    bits BinOp.or IntKind.u64 (q : Int) (IntKind.u64.wrap ((x.toNat : Int) % 128 * 2 ^ (7 * k))) = ((q + (x.toNat - 128) * 128 ^ k : Nat) : Int) := by
  have := x.toNat_lt
  rw [or_wrap q k x hq h1, show x.toNat % 128 = x.toNat - 128 by omega]
theorem more_lt {q k : Nat} {x : UInt8} (hq : q < 128 ^ k) : q + (x.toNat - 128) * 128 ^ k < 128 ^ (k + 1) := by
  have := x.toNat_lt
  have h : (x.toNat - 128) * 128 ^ k ≤ 127 * 128 ^ k := Nat.mul_le_mul_right _ (by omega)
  rw [Nat.pow_succ]
  omega

def GotVar (w : World) (l : List UInt8) (o : Nat × Nat × Nat) (e : Ending) (w' : World) : Prop :=
  (o.2.2 = 0 → ∃ A m c, e = .returned (.tuple #[.int .u64 (o.1 : Int), .slice A m c, .int .i64 0]) ∧ Row w' w.heap.size 5 A m c (l.drop o.2.1) ∧ Below w.heap.size w w') ∧
  (o.2.2 ≠ 0 → e = .returned (.tuple #[.int .u64 0, .slice none 0 0, .int .i64 (o.2.2 : Int)]) ∧ w = w')
theorem GotVar.good {w w' : World} {l : List UInt8} {o : Nat × Nat × Nat} {v n : Nat} {a : Int} {A : Option Addr} {m c : Nat} (h : o = (v, n, 0)) (ha : a = (v : Int)) (hr : Row w' w.heap.size 5 A m c (l.drop n)) (hb : Below w.heap.size w w') :
    GotVar w l o (.returned (.tuple #[.int .u64 a, .slice A m c, .int .i64 0])) w' := by
  subst h ha
  exact ⟨fun _ => ⟨_, _, _, rfl, hr, hb⟩, fun h => absurd rfl h⟩
theorem GotVar.bad {w : World} {l : List UInt8} {o : Nat × Nat × Nat} {e : Nat} {a : Int} (h : o = (0, 0, e)) (he : e ≠ 0) (ha : a = (e : Int)) :
    GotVar w l o (.returned (.tuple #[.int .u64 0, .slice none 0 0, .int .i64 a])) w := by
  subst h ha
  exact ⟨fun h => absurd h he, fun _ => ⟨rfl, rfl⟩⟩

set_option maxHeartbeats 2000000 in
theorem getVar_any (A : Option Addr) (c B : Nat) (l : List UInt8) (w : World) (hA : At w B A l) (hB : B ≤ w.heap.size) (hl : l.length ≤ 70368744177664) (hc : l.length ≤ c) :
    Calls Tryd.prog 89 #[.slice A l.length c] w (GotVar w l (rdv 0 0 l)) := by
  obtain ⟨o, ho⟩ : ∃ o, o = rdv 0 0 l := ⟨_, rfl⟩
  rw [← ho]
  have HR := hid ho
  clear ho
  go_enter Tryd.func89, Tryd.ntmps89
  go_wp2_with fail
  go_loop [5, 12] (fun u i => ∃ k q : Nat, k ≤ 9 ∧ k ≤ l.length ∧ q < 128 ^ k ∧ o = rdv k q (l.drop k) ∧ u = .int .u64 (q : Int) ∧ i = .int .i64 (k : Int)) (fun _ i => 20 - (intOf i).toNat)
  case atStart => exact ⟨0, 0, by omega, Nat.zero_le _, by simp, by simpa using HR.out, rfl, rfl⟩
  case round =>
    obtain ⟨k, q, hk9, hk, hq, hrd, rfl, rfl⟩ := hrel
    have HQ := hid hq
    have HD := hid hrd
    clear hq hrd
    by_cases hlt : k < l.length
    · have hex : ∃ x, l[k]? = some x := ⟨_, List.getElem?_eq_getElem (by omega)⟩
      obtain ⟨x, hx⟩ := hex
      obtain ⟨b, off, rfl, hb, hcell⟩ := hA (by omega)
      have hk1 := hcell k x hx
      have hdrop := hid (drop_cons hx)
      have hand := and128 x
      have hnot := andNot128 x
      have hz := andNot_zero
      clear hx hcell
      by_cases h128 : x.toNat < 128
      · rw [if_pos h128] at hand
        by_cases hf : k = 9 ∧ 1 < x.toNat ∨ x.toNat = 0 ∧ 0 < k
        · have HF := hid (HD.out.trans (by rw [hdrop.out, rdv_form hf]))
          have hways : (9 ≤ k ∧ 2 ≤ x.toNat) ∨ (k ≤ 8 ∧ 1 ≤ k ∧ x.toNat ≤ 0) ∨ (9 ≤ k ∧ x.toNat ≤ 0) := by omega
          clear hf
          rcases hways with ⟨h1, h2⟩ | ⟨h1, h2, h3⟩ | ⟨h1, h2⟩
          all_goals
            go_wp2_with fail
            go_ret3
            exact GotVar.bad HF.out (by decide) rfl
        · have HV := hid (HD.out.trans (by rw [hdrop.out, rdv_last hf h128]))
          have hcut := hA.cut (k := k + 1) hc
          have hways : (9 ≤ k ∧ 1 ≤ x.toNat ∧ x.toNat ≤ 1) ∨ (k ≤ 0 ∧ x.toNat ≤ 0) ∨ (k ≤ 8 ∧ 1 ≤ x.toNat) := by omega
          clear hf
          have hlen := hid (show (l.drop (k + 1)).length ≤ 70368744177664 by simp; omega)
          by_cases hcn : c = k + 1
          · rw [if_pos hcn] at hcut
            subst hcn
            have HC := hid hcut
            clear hcut hA
            rcases hways with ⟨h1, h2, h3⟩ | ⟨h1, h2⟩ | ⟨h1, h2⟩
            · have HVAL := hid (val_one HQ.out h1 hk9 h2 h3)
              go_wp2_with (go_at_call 83; refine (extend_len _ _ _ 0 B 0 (l.drop (k + 1)) w (by simp; try omega) rfl HC.out hB hlen.out (by omega)).mono ?_; rintro e w1 ⟨A', m', c', rfl, hrow, hbel⟩)
              go_ret3
              exact GotVar.good HV.out HVAL.out hrow hbel
            · have HVAL := hid (val_nil HQ.out h1 h2)
              go_wp2_with (go_at_call 83; refine (extend_len _ _ _ 0 B 0 (l.drop (k + 1)) w (by simp; try omega) rfl HC.out hB hlen.out (by omega)).mono ?_; rintro e w1 ⟨A', m', c', rfl, hrow, hbel⟩)
              go_ret3
              exact GotVar.good HV.out HVAL.out hrow hbel
            · have HVAL := hid (val_last HQ.out h1 h128)
              go_wp2_with (go_at_call 83; refine (extend_len _ _ _ 0 B 0 (l.drop (k + 1)) w (by simp; try omega) rfl HC.out hB hlen.out (by omega)).mono ?_; rintro e w1 ⟨A', m', c', rfl, hrow, hbel⟩)
              go_ret3
              exact GotVar.good HV.out HVAL.out hrow hbel
          · rw [if_neg hcn] at hcut
            have e2 : (⟨b, off, none⟩ : Addr).add (k + 1) = ⟨b, off + (k + 1), none⟩ := by unfold Addr.add; split <;> simp_all
            rw [Option.map_some, e2] at hcut
            have HC := hid hcut
            clear hcut hA e2
            rcases hways with ⟨h1, h2, h3⟩ | ⟨h1, h2⟩ | ⟨h1, h2⟩
            · have HVAL := hid (val_one HQ.out h1 hk9 h2 h3)
              go_wp2_with (go_at_call 83; refine (extend_len _ _ _ 0 B 0 (l.drop (k + 1)) w (by simp; try omega) rfl (by obtain rfl : k = 9 := (by omega); exact HC.out) hB hlen.out (by omega)).mono ?_; rintro e w1 ⟨A', m', c', rfl, hrow, hbel⟩)
              go_ret3
              exact GotVar.good HV.out HVAL.out hrow hbel
            · have HVAL := hid (val_nil HQ.out h1 h2)
              go_wp2_with (go_at_call 83; refine (extend_len _ _ _ 0 B 0 (l.drop (k + 1)) w (by simp; try omega) rfl HC.out hB hlen.out (by omega)).mono ?_; rintro e w1 ⟨A', m', c', rfl, hrow, hbel⟩)
              go_ret3
              exact GotVar.good HV.out HVAL.out hrow hbel
            · have HVAL := hid (val_last HQ.out h1 h128)
              go_wp2_with (go_at_call 83; refine (extend_len _ _ _ 0 B 0 (l.drop (k + 1)) w (by simp; try omega) rfl HC.out hB hlen.out (by omega)).mono ?_; rintro e w1 ⟨A', m', c', rfl, hrow, hbel⟩)
              go_ret3
              exact GotVar.good HV.out HVAL.out hrow hbel
      · rw [if_neg h128] at hand
        by_cases h9 : 9 ≤ k
        · have HF := hid (HD.out.trans (by rw [hdrop.out, rdv_form (by omega)]))
          go_wp2_with fail
          go_ret3
          exact GotVar.bad HF.out (by decide) rfl
        · have HF := hid (HD.out.trans (by rw [hdrop.out, rdv_more (by omega) h128]))
          have HV := hid (val_more HQ.out (by omega : k ≤ 8) h128)
          go_wp2_with fail
          go_round
          case rel => exact ⟨k + 1, _, by omega, by omega, more_lt HQ.out, HF.out, congrArg (Value.int .u64) HV.out, by go_num⟩
          case measure => simp [intOf]; omega
    · have HF := hid (HD.out.trans (by rw [List.drop_eq_nil_of_le (by omega)]))
      go_wp2_with fail
      go_ret3
      exact GotVar.bad HF.out (by decide) rfl

end Go.Proofs.YtngclmjefadokaaDoor

namespace Go.Proofs.YtngclmjefadokaaDoor
open Go Go.RowKit

/-- the list is a number's bytes, seven bits each -/
def isVb : List UInt8 → Nat → Prop
  | [], _ => False
  | x :: r, q => (q < 128 ∧ x.toNat = q ∧ r = []) ∨ (128 ≤ q ∧ x.toNat = q % 128 + 128 ∧ isVb r (q / 128))

theorem isVb_uniq : ∀ {a b : List UInt8} {q : Nat}, isVb a q → isVb b q → a = b
  | [], _, _, h, _ => h.elim
  | _ :: _, [], _, _, h => h.elim
  | x :: a, y :: b, q, ha, hb => by
    rcases ha with ⟨h1, h2, rfl⟩ | ⟨h1, h2, h3⟩
    · rcases hb with ⟨_, g2, rfl⟩ | ⟨g1, _, _⟩
      · rw [UInt8.toNat_inj.1 (h2.trans g2.symm)]
      · omega
    · rcases hb with ⟨g1, _, _⟩ | ⟨_, g2, g3⟩
      · omega
      · rw [UInt8.toNat_inj.1 (h2.trans g2.symm), isVb_uniq h3 g3]

theorem vlen_small {v : Nat} (h : v < 128) : vlen v = 1 := by unfold vlen vl; rw [if_pos h]
theorem vlen_great {v : Nat} (h : ¬ v < 128) (hv : v < 18446744073709551616) : vlen v = 1 + vlen (v / 128) := by
  have h1 := vlen_isLen v hv
  have h2 := vlen_isLen (v / 128) (Nat.lt_of_le_of_lt (Nat.div_le_self _ _) hv)
  refine IsLen.uniq h1 ⟨by omega, ?_, fun _ => ?_⟩
  · rw [Nat.add_comm 1, div_pow_succ']; exact h2.2.1
  · rw [Nat.add_sub_cancel_left]
    by_cases h3 : 1 < vlen (v / 128)
    · have := h2.2.2 h3
      rw [← div_pow_succ', show vlen (v / 128) - 1 + 1 = vlen (v / 128) by omega] at this
      exact this
    · have := h2.1
      rw [show vlen (v / 128) = 1 by omega]
      simp
      omega

theorem vbytes_small {v : Nat} (h : v < 128) : vbytes v = [UInt8.ofNat v] := by
  unfold vbytes vbyte
  rw [vlen_small h]
  simp
theorem vbytes_great {v : Nat} (h : ¬ v < 128) (hv : v < 18446744073709551616) : vbytes v = UInt8.ofNat (v % 128 + 128) :: vbytes (v / 128) := by
  have hp := vlen_pos (v / 128)
  unfold vbytes
  rw [vlen_great h hv, Nat.add_comm 1, List.range_succ_eq_map, List.map_cons, List.map_map]
  congr 1
  · unfold vbyte
    rw [vlen_great h hv, if_pos (by omega)]
    simp
  · apply List.map_congr_left
    intro i _
    simp only [Function.comp_apply]
    unfold vbyte
    rw [vlen_great h hv, div_pow_succ']
    by_cases h1 : i + 1 < vlen (v / 128)
    · rw [if_pos h1, if_pos (by omega)]
    · rw [if_neg h1, if_neg (by omega)]

theorem isVb_vbytes : ∀ f v, v < 128 ^ (f + 1) → v < 18446744073709551616 → isVb (vbytes v) v
  | 0, v, h, _ => by
    have h1 : v < 128 := by simpa using h
    rw [vbytes_small h1]
    exact .inl ⟨h1, by rw [UInt8.toNat_ofNat']; omega, rfl⟩
  | f + 1, v, h, hv => by
    by_cases h1 : v < 128
    · rw [vbytes_small h1]
      exact .inl ⟨h1, by rw [UInt8.toNat_ofNat']; omega, rfl⟩
    · rw [vbytes_great h1 hv]
      refine .inr ⟨by omega, by rw [UInt8.toNat_ofNat']; omega, isVb_vbytes f (v / 128) ?_ (by omega)⟩
      rw [Nat.div_lt_iff_lt_mul (by decide)]
      rw [Nat.pow_succ] at h
      exact h
theorem isVb_all {v : Nat} (hv : v < 18446744073709551616) : isVb (vbytes v) v := isVb_vbytes 9 v (by omega) hv

theorem pow_le_mul {q i : Nat} (hq : 0 < q) (h : q * 128 ^ i < 18446744073709551616) : i ≤ 9 := by
  refine Classical.byContradiction fun hn => ?_
  have h1 : 128 ^ 10 ≤ 128 ^ i := Nat.pow_le_pow_right (by decide) (by omega)
  have h2 : 1 * 128 ^ i ≤ q * 128 ^ i := Nat.mul_le_mul_right _ hq
  omega

/-- what is written is read -/
theorem rdv_isVb : ∀ (l : List UInt8) (i acc q : Nat) (s : List UInt8), isVb l q → q * 128 ^ i < 18446744073709551616 → (0 < i → 0 < q) → rdv i acc (l ++ s) = (acc + q * 128 ^ i, i + l.length, 0)
  | [], _, _, _, _, h, _, _ => h.elim
  | x :: r, i, acc, q, s, h, hb, hi => by
    rcases h with ⟨h1, h2, rfl⟩ | ⟨h1, h2, h3⟩
    · have hf : ¬ (i = 9 ∧ 1 < x.toNat ∨ x.toNat = 0 ∧ 0 < i) := by
        rintro (⟨rfl, h4⟩ | ⟨h4, h5⟩)
        · have : 2 * 128 ^ 9 ≤ q * 128 ^ 9 := Nat.mul_le_mul_right _ (by omega)
          omega
        · have := hi h5; omega
      rw [List.cons_append, rdv_last hf (by omega), h2]
      rfl
    · have e1 : 128 ^ (i + 1) = 128 ^ i * 128 := Nat.pow_succ ..
      have e2 : q / 128 * 128 ^ (i + 1) ≤ q * 128 ^ i := by
        rw [e1, Nat.mul_comm (128 ^ i), ← Nat.mul_assoc]
        exact Nat.mul_le_mul_right _ (Nat.div_mul_le_self _ _)
      have h9 : i + 1 ≤ 9 := pow_le_mul (q := q / 128) (by omega) (by omega)
      rw [List.cons_append, rdv_more (by omega) (by omega), rdv_isVb r (i + 1) _ (q / 128) s h3 (by omega) (fun _ => by omega)]
      have e3 : acc + (x.toNat - 128) * 128 ^ i + q / 128 * 128 ^ (i + 1) = acc + q * 128 ^ i := by
        rw [h2, Nat.add_sub_cancel, e1, Nat.mul_comm (128 ^ i) 128, ← Nat.mul_assoc, Nat.add_assoc, ← Nat.add_mul]
        congr 2
        omega
      rw [e3, List.length_cons]
      simp only [Prod.mk.injEq, true_and, and_true]
      omega

theorem rdv_vbytes {v : Nat} (hv : v < 18446744073709551616) (s : List UInt8) : rdv 0 0 (vbytes v ++ s) = (v, vlen v, 0) := by
  rw [rdv_isVb _ 0 0 v s (isVb_all hv) (by simpa using hv) (fun h => absurd h (by omega)), vbytes_length]
  simp

/-- what is read is the one way to write it -/
theorem rdv_only : ∀ (l : List UInt8) (i acc v n : Nat), rdv i acc l = (v, n, 0) → ∃ q, v = acc + q * 128 ^ i ∧ i < n ∧ isVb (l.take (n - i)) q ∧ (0 < i → 0 < q) ∧ (i ≤ 9 → q * 128 ^ i < 18446744073709551616)
  | [], i, acc, v, n, h => by simp [rdv] at h
  | x :: r, i, acc, v, n, h => by
    by_cases hf : i = 9 ∧ 1 < x.toNat ∨ x.toNat = 0 ∧ 0 < i
    · rw [rdv_form hf] at h; simp at h
    · by_cases hx : x.toNat < 128
      · rw [rdv_last hf hx] at h
        simp only [Prod.mk.injEq] at h
        obtain ⟨rfl, rfl, _⟩ := h
        refine ⟨x.toNat, rfl, by omega, ?_, fun h0 => by omega, fun h9 => ?_⟩
        · rw [Nat.add_sub_cancel_left, List.take_succ_cons, List.take_zero]
          exact .inl ⟨hx, rfl, rfl⟩
        · by_cases h8 : i ≤ 8
          · have h1 : 128 ^ i ≤ 128 ^ 8 := Nat.pow_le_pow_right (by decide) h8
            have : x.toNat * 128 ^ i ≤ 127 * 128 ^ 8 := Nat.mul_le_mul (by omega) h1
            omega
          · have h1 : 128 ^ i ≤ 128 ^ 9 := Nat.pow_le_pow_right (by decide) h9
            have : x.toNat * 128 ^ i ≤ 1 * 128 ^ 9 := Nat.mul_le_mul (by omega) h1
            omega
      · by_cases h9 : i = 9
        · exact absurd (Or.inl ⟨h9, by omega⟩) hf
        · rw [rdv_more h9 hx] at h
          obtain ⟨q, h1, h2, h3, h4, h5⟩ := rdv_only r (i + 1) _ v n h
          have hxl := x.toNat_lt
          have hq := h4 (by omega)
          have e1 : 128 ^ (i + 1) = 128 ^ i * 128 := Nat.pow_succ ..
          refine ⟨x.toNat - 128 + 128 * q, ?_, by omega, ?_, fun _ => by omega, fun h10 => ?_⟩
          · rw [h1, e1, Nat.mul_comm (128 ^ i) 128, ← Nat.mul_assoc, Nat.add_assoc, ← Nat.add_mul, Nat.mul_comm q 128]
          · rw [show n - i = n - (i + 1) + 1 by omega, List.take_succ_cons]
            refine .inr ⟨by omega, by omega, ?_⟩
            rw [show (x.toNat - 128 + 128 * q) / 128 = q by omega]
            exact h3
          · have h6 := h5 (by omega)
            rw [Nat.add_mul, Nat.mul_comm 128 q, Nat.mul_assoc, Nat.mul_comm 128, ← e1]
            have h8 : 128 ^ i ≤ 128 ^ 8 := Nat.pow_le_pow_right (by decide) (by omega)
            have e9 : 128 ^ (i + 1) ≤ 128 ^ 9 := Nat.pow_le_pow_right (by decide) (by omega)
            have hm : (x.toNat - 128) * 128 ^ i + 128 ^ i ≤ 128 ^ (i + 1) := by
              rw [e1, ← Nat.succ_mul, Nat.mul_comm _ 128]
              exact Nat.mul_le_mul_right _ (by omega)
            have hd : 128 ^ (i + 1) ∣ 18446744073709551616 := ⟨2 ^ (64 - 7 * (i + 1)), by
              rw [← pow7', ← Nat.pow_add, show 7 * (i + 1) + (64 - 7 * (i + 1)) = 64 by omega]⟩
            obtain ⟨k, hk⟩ := hd
            rw [hk] at h6 ⊢
            rw [Nat.mul_comm _ k] at h6 ⊢
            have hlt : q < k := Nat.lt_of_mul_lt_mul_right h6
            have : (q + 1) * 128 ^ (i + 1) ≤ k * 128 ^ (i + 1) := Nat.mul_le_mul_right _ hlt
            rw [Nat.succ_mul] at this
            have hp : 0 < 128 ^ i := Nat.pow_pos (by decide)
            omega

theorem rdv_back {l : List UInt8} {v n : Nat} (h : rdv 0 0 l = (v, n, 0)) : vbytes v ++ l.drop n = l ∧ v < 18446744073709551616 := by
  obtain ⟨q, h1, _, h3, _, h5⟩ := rdv_only l 0 0 v n h
  have hq : q = v := by simpa using h1.symm
  subst hq
  have hv : q < 18446744073709551616 := by simpa using h5 (by omega)
  rw [Nat.sub_zero] at h3
  exact ⟨by rw [isVb_uniq (isVb_all hv) h3, List.take_append_drop], hv⟩

end Go.Proofs.YtngclmjefadokaaDoor

namespace Go.Proofs.YtngclmjefadokaaDoor
open Go Go.RowKit

theorem getVar_is {A : Option Addr} {m c B v n : Nat} {l : List UInt8} {w : World} (hm : m = l.length) (hr : rdv 0 0 l = (v, n, 0)) (hA : At w B A l) (hB : B ≤ w.heap.size) (hl : l.length ≤ 70368744177664) (hc : m ≤ c) :
    Calls Tryd.prog 89 #[.slice A m c] w fun e w' =>
      ∃ A' m' c', e = .returned (.tuple #[.int .u64 (v : Int), .slice A' m' c', .int .i64 0]) ∧ Row w' w.heap.size 5 A' m' c' (l.drop n) ∧ Below w.heap.size w w' := by
  subst hm
  refine (getVar_any A c B l w hA hB hl hc).mono fun e w' h => ?_
  rw [hr] at h
  exact h.1 rfl
theorem getVar_not {A : Option Addr} {m c B x : Nat} {l : List UInt8} {w : World} (hm : m = l.length) (hr : rdv 0 0 l = (0, 0, x)) (hx : x ≠ 0) (hA : At w B A l) (hB : B ≤ w.heap.size) (hl : l.length ≤ 70368744177664) (hc : m ≤ c) :
    Calls Tryd.prog 89 #[.slice A m c] w fun e w' =>
      e = .returned (.tuple #[.int .u64 0, .slice none 0 0, .int .i64 (x : Int)]) ∧ w = w' := by
  subst hm
  refine (getVar_any A c B l w hA hB hl hc).mono fun e w' h => ?_
  rw [hr] at h
  exact h.2 hx
theorem putVar_is {A : Option Addr} {m c B : Nat} {l : List UInt8} {v : Nat} {w : World} (hm : m = l.length) (hA : At w B A l) (hB : B ≤ w.heap.size) (hl : l.length ≤ 70368744177664) (hv : v < 18446744073709551616) :
    Calls Tryd.prog 81 #[.slice A m c, .int .u64 (v : Int)] w fun e w' =>
      ∃ A' m' c', e = .returned (.slice A' m' c') ∧ Row w' w.heap.size 5 A' m' c' (l ++ vbytes v) ∧ Below w.heap.size w w' := by
  subst hm
  exact putVar_any A c B l v w hA hB hl hv
theorem putVar_nil (v : Int) (w : World) (hv0 : 0 ≤ v) (hv : v < 18446744073709551616) :
    Calls Tryd.prog 81 #[.slice none 0 0, .int .u64 v] w fun e w' =>
      ∃ A' m' c', e = .returned (.slice A' m' c') ∧ Row w' w.heap.size 5 A' m' c' (vbytes v.toNat) ∧ Below w.heap.size w w' := by
  obtain ⟨V, rfl⟩ : ∃ V : Nat, v = V := ⟨v.toNat, by omega⟩
  exact putVar_is (A := none) (c := 0) (l := []) (v := V) rfl (At.nil w 0 _) (Nat.zero_le _) (by simp) (by omega)

theorem bst_drop (s : List UInt8) (n : Nat) : (bst s).extract n s.length = bst (s.drop n) := by
  apply ByteArray.ext
  apply Array.toList_inj.1
  simp [bst, List.take_of_length_le]
theorem bst_take (s : List UInt8) (n : Nat) : (bst s).extract 0 n = bst (s.take n) := by
  apply ByteArray.ext
  apply Array.toList_inj.1
  simp [bst]

theorem rdv_err {i acc : Nat} : ∀ {l : List UInt8} {v n e : Nat}, rdv i acc l = (v, n, e) → e ≠ 0 → v = 0 ∧ n = 0 ∧ (e = 10 ∨ e = 12) := by
  intro l
  induction l generalizing i acc with
  | nil => intro v n e h _; simp [rdv] at h; omega
  | cons x r ih =>
    intro v n e h he
    by_cases hf : i = 9 ∧ 1 < x.toNat ∨ x.toNat = 0 ∧ 0 < i
    · rw [rdv_form hf] at h; simp at h; omega
    · by_cases hx : x.toNat < 128
      · rw [rdv_last hf hx] at h; simp at h; omega
      · rw [rdv_more (by omega) hx] at h
        exact ih h he


theorem rdv_len {s : List UInt8} {v n : Nat} (h : rdv 0 0 s = (v, n, 0)) : n ≤ s.length := by
  obtain ⟨hb, hv⟩ := rdv_back h
  have h2 := rdv_vbytes hv (s.drop n)
  rw [hb, h] at h2
  simp only [Prod.mk.injEq, true_and, and_true] at h2
  have := congrArg List.length hb
  rw [List.length_append, vbytes_length] at this
  omega
theorem rdv_ok {l : List UInt8} {v n : Nat} (h : rdv 0 0 l = (v, n, 0)) : n = vlen v ∧ n ≤ l.length ∧ v < 18446744073709551616 ∧ l = vbytes v ++ l.drop n := by
  obtain ⟨hb, hv⟩ := rdv_back h
  have h2 := rdv_vbytes hv (l.drop n)
  rw [hb, h] at h2
  simp only [Prod.mk.injEq, true_and, and_true] at h2
  exact ⟨h2, rdv_len h, hv, hb.symm⟩
/-- ten bytes are enough -/
theorem rdv_ten : ∀ (l : List UInt8) (i acc : Nat), i ≤ 9 → rdv i acc (l.take (10 - i)) = rdv i acc l
  | [], i, acc, _ => by simp
  | x :: r, i, acc, h => by
    rw [show 10 - i = 10 - (i + 1) + 1 by omega, List.take_succ_cons]
    by_cases hf : i = 9 ∧ 1 < x.toNat ∨ x.toNat = 0 ∧ 0 < i
    · rw [rdv_form hf, rdv_form hf]
    · by_cases hx : x.toNat < 128
      · rw [rdv_last hf hx, rdv_last hf hx]
      · rw [rdv_more (by omega) hx, rdv_more (by omega) hx, rdv_ten r (i + 1) _ (by omega)]
theorem rdv_take (l : List UInt8) : rdv 0 0 (l.take 10) = rdv 0 0 l := rdv_ten l 0 0 (by omega)

end Go.Proofs.YtngclmjefadokaaDoor

namespace Go.Proofs.YtngclmjefadokaaDoor

/-- a number: its value, what is left, what is wrong -/
def rnum (l : List UInt8) : Nat × List UInt8 × Nat :=
  if (rdv 0 0 l).2.2 = 0 then ((rdv 0 0 l).1, l.drop (rdv 0 0 l).2.1, 0) else (0, l, if (rdv 0 0 l).2.2 = 10 then 30 else 12)
theorem rnum_ok {l : List UInt8} {v n : Nat} (h : rdv 0 0 l = (v, n, 0)) : rnum l = (v, l.drop n, 0) := by unfold rnum; rw [h]; rfl
theorem rnum_short {l : List UInt8} {v n : Nat} (h : rdv 0 0 l = (v, n, 10)) : rnum l = (0, l, 30) := by unfold rnum; rw [h]; rfl
theorem rnum_form {l : List UInt8} {v n : Nat} (h : rdv 0 0 l = (v, n, 12)) : rnum l = (0, l, 12) := by unfold rnum; rw [h]; rfl
/-- what is known of it -/
inductive Num (l : List UInt8) : Nat × List UInt8 × Nat → Prop
  | good (v n : Nat) (h : rdv 0 0 l = (v, n, 0)) (hn : n = vlen v) (hl : n ≤ l.length) (hv : v < 18446744073709551616) (hb : l = vbytes v ++ l.drop n) : Num l (v, l.drop n, 0)
  | short (h : rdv 0 0 l = (0, 0, 10)) : Num l (0, l, 30)
  | form (h : rdv 0 0 l = (0, 0, 12)) : Num l (0, l, 12)
theorem rnum_all (l : List UInt8) : Num l (rnum l) := by
  obtain ⟨⟨v, n, e⟩, ho⟩ : ∃ o, rdv 0 0 l = o := ⟨_, rfl⟩
  by_cases he : e = 0
  · subst he
    obtain ⟨h1, h2, h3, h4⟩ := rdv_ok ho
    rw [rnum_ok ho]
    exact .good v n ho h1 h2 h3 h4
  · obtain ⟨rfl, rfl, h⟩ := rdv_err ho he
    rcases h with rfl | rfl
    · rw [rnum_short ho]; exact .short ho
    · rw [rnum_form ho]; exact .form ho
theorem rnum_len (l : List UInt8) : (rnum l).2.1.length ≤ l.length := by
  have h := rnum_all l
  generalize rnum l = o at h
  cases h <;> simp
theorem rnum_lt (l : List UInt8) : (rnum l).1 < 18446744073709551616 := by
  have h := rnum_all l
  generalize rnum l = o at h
  cases h <;> simp; assumption
theorem rnum_bad (l : List UInt8) (h : (rnum l).2.2 ≠ 0) : (rnum l).1 = 0 ∧ (rnum l).2.1 = l := by
  have h1 := rnum_all l
  generalize rnum l = o at h h1
  cases h1
  · exact absurd rfl h
  · exact ⟨rfl, rfl⟩
  · exact ⟨rfl, rfl⟩

/-- a text -/
def rtext (l : List UInt8) : List UInt8 × List UInt8 × Nat :=
  if (rnum l).2.2 ≠ 0 then ([], l, (rnum l).2.2)
  else if 65536 < (rnum l).1 then ([], l, 32)
  else if (rnum l).2.1.length < (rnum l).1 then ([], l, 30)
  else ((rnum l).2.1.take (rnum l).1, (rnum l).2.1.drop (rnum l).1, 0)
/-- a flag -/
def rflag : List UInt8 → Bool × List UInt8 × Nat
  | [] => (false, [], 30)
  | x :: r => if 1 < x.toNat then (false, x :: r, 33) else (x.toNat == 1, r, 0)
/-- a count -/
def rcount (most : Int) (l : List UInt8) : Nat × List UInt8 × Nat :=
  if (rnum l).2.2 ≠ 0 then (0, l, (rnum l).2.2)
  else if most < 0 ∨ most < ((rnum l).1 : Int) then (0, l, 32)
  else ((rnum l).1, (rnum l).2.1, 0)

end Go.Proofs.YtngclmjefadokaaDoor

namespace Go.Proofs.YtngclmjefadokaaDoor
open Go Go.RowKit

/-- what is written is taken -/
theorem rnum_vb {v : Nat} (hv : v < 18446744073709551616) (t : List UInt8) : rnum (vbytes v ++ t) = (v, t, 0) := by
  rw [rnum_ok (rdv_vbytes hv t), ← vbytes_length, List.drop_left]
theorem rtext_vb {s : List UInt8} (hs : s.length ≤ 65536) (t : List UInt8) : rtext (vbytes s.length ++ s ++ t) = (s, t, 0) := by
  have h := rnum_vb (v := s.length) (by omega) (s ++ t)
  rw [← List.append_assoc] at h
  unfold rtext
  rw [h]
  rw [if_neg (by simp), if_neg (by simp; omega), if_neg (by simp)]
  simp
theorem rflag_vb (y : Bool) (t : List UInt8) : rflag ([if y then 1 else 0] ++ t) = (y, t, 0) := by
  cases y <;> rfl

end Go.Proofs.YtngclmjefadokaaDoor
