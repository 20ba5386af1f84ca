/-
  num.Size, num.PutVar by their contracts.
-/
import Derived.Test.YtcodljegicoeeaaPushVar
import Derived.Test.YtcodljegicoeeaaVarFns
namespace Go.Proofs.Ytcodljegicoeeaa
open Go Go.RowKit

theorem pow7 (v k : Nat) : ((v / 128 ^ k : Nat) : Int) / 2 ^ 7 = ((v / 128 ^ (k + 1) : Nat) : Int) := by
  rw [div_pow_succ]; omega

set_option maxHeartbeats 400000 in
theorem size_any (v : Nat) (w : World) (hv : v < 18446744073709551616) :
    Calls Try.prog 46 #[.int .u64 (v : Int)] w fun e w' => e = .returned (.int .i64 (vlen v : Int)) ∧ w = w' := by
  have hL := hid (vlen_isLen v hv)
  have hle := vlen_le v
  clear hv
  go_enter Try.func46, Try.ntmps46
  go_wp2_with fail
  go_loop [0, 3] (fun u n => ∃ k q : Nat, k < vlen v ∧ q = v / 128 ^ (k + 1) ∧ u = .int .u64 (q : Int) ∧ n = .int .i64 ((k + 1 : Nat) : Int)) (fun _ n => (20 - intOf n).toNat)
  case atStart => exact ⟨0, v / 128, vlen_pos v, by simp, by go_num, by go_num⟩
  case round =>
    obtain ⟨k, q, hk, hq, rfl, rfl⟩ := hrel
    have HQ := hid hq
    clear hq
    by_cases h0 : q = 0
    · subst h0
      go_wp2
      go_ret
      refine ⟨?_, rfl⟩
      have hk1 : k + 1 = vlen v := by
        refine Classical.byContradiction fun hne => ?_
        exact hL.out.2.2 (by omega) (div_zero_mono v (k + 1) (vlen v - 1) HQ.out.symm (by omega))
      rw [← hk1]
      simp
    · have ht := (nat_ne h0).2
      have hlt : k + 1 < vlen v := by
        refine Classical.byContradiction fun hne => ?_
        exact h0 (HQ.out.trans (div_zero_mono v (vlen v) (k + 1) hL.out.2.1 (by omega)))
      clear h0
      go_wp2
      go_round
      case rel => exact ⟨k + 1, q / 128, by omega, by rw [HQ.out, ← div_pow_succ], by go_num, by go_num⟩
      case measure => simp [intOf]; omega

theorem or128_nat : ∀ r : Nat, r < 256 → r ||| 128 = r % 128 + 128 := by decide +kernel
theorem or128 (q : Nat) : bits BinOp.or IntKind.u8 ((q : Int) % 256) 128 = ((q % 128 + 128 : Nat) : Int) := by
  have h := or128_nat (q % 256) (Nat.mod_lt _ (by decide))
  have e := u8_or_nat (q % 256) 128 (Nat.mod_lt _ (by decide)) (by decide)
  rw [h] at e
  have e2 : ((q : Int) % 256) = ((q % 256 : Nat) : Int) := by omega
  rw [e2]
  refine e.trans ?_
  omega
theorem vbyte_more {v k q : Nat} (h : k + 1 < vlen v) (hq : q = v / 128 ^ k) : ((vbyte v k).toNat : Int) = ((q % 128 + 128 : Nat) : Int) := by
  unfold vbyte
  rw [if_pos h, ← hq, UInt8.toNat_ofNat']
  omega
theorem vbyte_last {v k q : Nat} (h : k + 1 = vlen v) (hq : q = v / 128 ^ k) (hL : IsLen v (vlen v)) : ((vbyte v k).toNat : Int) = (q : Int) % 256 := by
  have h0 := hL.2.1
  rw [← h, div_pow_succ, ← hq] at h0
  unfold vbyte
  rw [if_neg (by omega), ← hq, UInt8.toNat_ofNat']
  omega

set_option maxHeartbeats 400000 in
theorem putVar_any (A : Option Addr) (c B : Nat) (l : List UInt8) (v : Nat) (w : World) (hA : At w B A l) (hB : B ≤ w.heap.size) (hl : l.length ≤ 70368744177664) (hv : v < 18446744073709551616) :
    Calls Try.prog 43 #[.slice A l.length c, .int .u64 (v : Int)] w fun e w' =>
      ∃ A' m c', e = .returned (.slice A' m c') ∧ Row w' w.heap.size 5 A' m c' (l ++ vbytes v) ∧ Below w.heap.size w w' := by
  have hle := vlen_le v
  have hge := vlen_pos v
  obtain ⟨n, hn⟩ : ∃ n, n = vlen v := ⟨_, rfl⟩
  have hS := hid (size_any v w hv)
  rw [← hn] at hS hle hge
  have HN := hid hn
  clear hn
  go_enter Try.func43, Try.ntmps43
  go_wp2_with (first
    | (go_at_call 46; refine hS.out.mono ?_; rintro e w' ⟨rfl, rfl⟩)
    | (go_at_call 47; refine (extend_any A c n B l _ hA hB hl (by omega)).mono ?_; rintro e w1 ⟨rfl, hown, hbel⟩))
  have hbv : (w1.alloc (.cells #[.slice (some ⟨w.heap.size, 0, none⟩) l.length (l.length + n)] 40)).heap[w1.heap.size]? = some (.cells #[.slice (some ⟨w.heap.size, 0, none⟩) l.length (l.length + n)] 40 (0, 0)) := heap_alloc_new w1 _
  have hs1 := hbel.size
  go_loopw [1, 16] (fun u i wr => ∃ k q : Nat, k + 1 ≤ n ∧ q = v / 128 ^ k ∧ u = .int .u64 (q : Int) ∧ i = .int .i64 (k : Int) ∧ OutAt wr w.heap.size 5 40 w1.heap.size (l ++ (vbytes v).take k) ∧ Below w.heap.size w wr)
    (fun _ i _ => n - (intOf i).toNat)
  case atStart => exact ⟨0, v, by omega, by simp, rfl, rfl, ⟨_, _, by simpa using hbv, by simpa using hown.alloc _⟩, hbel.alloc (by omega) _⟩
  case round =>
    obtain ⟨k, q, hk, hq, rfl, rfl, hout, hb2⟩ := hrel
    have HQ := hid hq
    clear hq
    have hlen : (l ++ (vbytes v).take k).length ≤ 140737488355000 := by rw [List.length_append, List.length_take]; omega
    have htake := hid (vbytes_take v k (by rw [← HN.out]; omega))
    obtain ⟨x, hx⟩ : ∃ x, x = vbyte v k := ⟨_, rfl⟩
    by_cases hlt : k + 1 < n
    · have hbits : bits BinOp.or IntKind.u8 ((q : Int) % 256) 128 = (x.toNat : Int) := by
        rw [hx, or128]; exact (vbyte_more (HN.out ▸ hlt) HQ.out).symm
      have HX := hid hx
      clear hx
      have hP := hid (push_var w.heap.size w1.heap.size (l ++ (vbytes v).take k) x wr hout hlen hs1)
      go_wp2_with (go_at_call 48; refine hP.out.mono ?_; rintro e w2 ⟨rfl, hout2, hb3⟩)
      go_roundw
      case rel => exact ⟨k + 1, q / 128, by omega, by rw [HQ.out, ← div_pow_succ], by go_num, by go_num, by rw [htake.out, ← HX.out, ← List.append_assoc]; exact hout2, hb2.trans hb3⟩
      case measure => simp [intOf]; omega
    · have hbits : (q : Int) % 256 = (x.toNat : Int) := by
        rw [hx]; exact (vbyte_last (HN.out ▸ (by omega : k + 1 = n)) HQ.out (vlen_isLen v hv)).symm
      have HX := hid hx
      clear hx
      have hP := hid (push_var w.heap.size w1.heap.size (l ++ (vbytes v).take k) x wr hout hlen hs1)
      go_wp2_with (go_at_call 48; refine hP.out.mono ?_; rintro e w2 ⟨rfl, ⟨A', c', hblk, hown2⟩, hb3⟩; have hc := cell_of_one hblk; obtain ⟨m, hm⟩ : ∃ m, m = (l ++ (vbytes v).take k ++ [x]).length := ⟨_, rfl⟩; rw [← hm] at hc hown2; have hm' := hid hm; clear hm hblk)
      go_ret
      have e : l ++ (vbytes v).take k ++ [x] = l ++ vbytes v := by
        rw [List.append_assoc, HX.out, ← htake.out, List.take_of_length_le (by rw [vbytes_length, ← HN.out]; omega)]
      exact ⟨A', m, c', rfl, ⟨by rw [← e]; exact hm'.out, by rw [← e]; exact hown2⟩, hb2.trans hb3⟩

end Go.Proofs.Ytcodljegicoeeaa
