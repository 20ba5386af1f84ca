/-
  The document's answers, by their contracts.
-/
import Derived.Test.YtkcebnagpgpclaaDoorGetVar
namespace Go.Proofs.YtkcebnagpgpclaaDoor
open Go Go.RowKit

theorem bst_get {s : ByteArray} {l : List UInt8} {k : Nat} {x : UInt8} (hs : s = bst l) (hx : l[k]? = some x) (h : k < s.size) : s[k] = x := by
  subst hs
  obtain ⟨h1, h2⟩ := List.getElem?_eq_some_iff.1 hx
  exact h2
theorem mul_add_wrap (q : Nat) (x : UInt8) (h : q < 72057594037927936) : IntKind.u64.wrap (IntKind.u64.wrap (256 * (q : Int)) + IntKind.u64.wrap (x.toNat : Int)) = ((256 * q + x.toNat : Nat) : Int) := by
  have := x.toNat_lt
  rw [IntKind.wrap_u64, IntKind.wrap_u64, IntKind.wrap_u64]; omega

theorem conv_one (x : UInt8) (W : World) :
    (convert 24 9 (.slice (some ⟨W.heap.size, 0, none⟩) 1 1)).run Tryd.prog (W.alloc (.cells #[.int .u8 (x.toNat : Int)] 5)) = .ok (.string (bst [x])) (W.alloc (.cells #[.int .u8 (x.toNat : Int)] 5)) := by
  refine run_convert_bytes_back _ _ _ _ ⟨W.heap.size, 0, none⟩ 1 [x] Tryd.underlying24 Tryd.underlying5 Tryd.underlying9 ?_
  intro j hj
  obtain rfl : j = 0 := by simp at hj; omega
  have e1 : (⟨W.heap.size, 0, none⟩ : Addr).add 0 = ⟨W.heap.size, 0, none⟩ := by unfold Addr.add; simp
  rw [e1]
  exact cell_of_one (heap_alloc_new W _)

theorem conv_num (n : Int) (x : UInt8) (h : n = (x.toNat : Int)) (W : World) :
    (convert 24 9 (.slice (some ⟨W.heap.size, 0, none⟩) 1 1)).run Tryd.prog (W.alloc (.cells #[.int .u8 n] 5)) = .ok (.string (bst [x])) (W.alloc (.cells #[.int .u8 n] 5)) := by
  subst h
  exact conv_one x W

theorem be_succ (v k : Nat) : be v (k + 1) = UInt8.ofNat (v / 256 ^ k) :: be v k := by
  unfold be
  rw [List.range_succ_eq_map, List.map_cons, List.map_map]
  simp only [Nat.add_sub_cancel, Nat.sub_zero, List.cons.injEq, true_and]
  apply List.map_congr_left
  intro i hi
  simp at hi
  simp only [Function.comp_apply]
  congr 3
  omega

set_option maxHeartbeats 400000 in
theorem refPut_no (v n : Int) (w : World) (h : ¬ (1 ≤ n ∧ n ≤ 8)) :
    Calls Tryd.prog 13 #[.int .u64 v, .int .i64 n] w fun e w' => e = .returned (.tuple #[.string (bst []), .bool false]) ∧ w = w' := by
  have h2 : n < 1 ∨ (1 ≤ n ∧ 8 < n) := by omega
  rcases h2 with h2 | ⟨h2, h3⟩
  all_goals
    clear h
    go_enter Tryd.func13, Tryd.ntmps13
    go_wp2
    go_ret2
    exact ⟨rfl, rfl⟩

set_option maxHeartbeats 400000 in
theorem refPut_yes (v n : Nat) (w : World) (h1 : 1 ≤ n) (h8 : n ≤ 8) (hv : v < 18446744073709551616) :
    Calls Tryd.prog 13 #[.int .u64 (v : Int), .int .i64 (n : Int)] w fun e w' => e = .returned (.tuple #[.string (bst (be v n)), .bool (v / 256 ^ n == 0)]) ∧ Below w.heap.size w w' := by
  go_enter Tryd.func13, Tryd.ntmps13
  go_wp2_with fail
  go_loopw [0, 6, 7] (fun u s i wr => ∃ k q : Nat, k ≤ n ∧ q = v / 256 ^ k ∧ u = .int .u64 (q : Int) ∧ s = .string (bst (be v k)) ∧ i = .int .i64 (k : Int) ∧ Below w.heap.size w wr) (fun _ _ i _ => n - (intOf i).toNat)
  case atStart => exact ⟨0, v, by omega, by simp, rfl, rfl, rfl, Below.refl _ _⟩
  case round =>
    obtain ⟨k, q, hk, hq, rfl, rfl, rfl, hb⟩ := hrel
    have HQ := hid hq
    clear hq
    by_cases hlt : k < n
    · have hex : ∃ x : UInt8, x = UInt8.ofNat q := ⟨_, rfl⟩
      obtain ⟨x, hx⟩ := hex
      have hbyte : (q : Int) % 256 = (x.toNat : Int) := by rw [hx, UInt8.toNat_ofNat']; omega
      have HX := hid hx
      have hconv := conv_one x
      clear hx
      have hsz : (bst [x]).size + (bst (be v k)).size ≤ 16 := by rw [bst_size, bst_size, be_length]; simp; omega
      have hqb : q < 18446744073709551616 := Nat.lt_of_le_of_lt (by rw [HQ.out]; exact Nat.div_le_self _ _) hv
      go_wp2_with fail
      go_roundw
      case rel => exact ⟨k + 1, q / 256, by omega, by rw [HQ.out, Nat.pow_succ, Nat.div_div_eq_div_mul], by go_num, by rw [bst_append, be_succ, HX.out, HQ.out]; rfl, by go_num, hb.alloc hb.size _⟩
      case measure => simp [intOf]; omega
    · obtain rfl : k = n := by omega
      have e2 : ((q : Int) == 0) = (v / 256 ^ k == 0) := by rw [← HQ.out, Bool.eq_iff_iff]; simp
      go_wp2_with fail
      go_ret2
      exact ⟨rfl, hb⟩

set_option maxHeartbeats 400000 in
theorem refGet_any (l : List UInt8) (w : World) (hl : l.length ≤ 8) :
    Calls Tryd.prog 15 #[.string (bst l)] w fun e w' => e = .returned (.int .u64 (ofBe l : Int)) ∧ w = w' := by
  obtain ⟨s, hs⟩ : ∃ s, s = bst l := ⟨_, rfl⟩
  have hsz : s.size = l.length := by rw [hs, bst_size]
  have hle : s.size ≤ 8 := by omega
  have HS := hid hs
  have HZ := hid hsz
  rw [← hs]
  clear hs hsz
  go_enter Tryd.func15, Tryd.ntmps15
  go_wp2_with fail
  go_loop [3, 4] (fun u i => ∃ k q : Nat, k ≤ s.size ∧ q = ofBe (l.take k) ∧ u = .int .u64 (q : Int) ∧ i = .int .i64 (k : Int)) (fun _ i => s.size - (intOf i).toNat)
  case atStart => exact ⟨0, 0, by omega, by simp [ofBe], rfl, rfl⟩
  case round =>
    obtain ⟨k, q, hk, hq, rfl, rfl⟩ := hrel
    have HQ := hid hq
    clear hq
    by_cases hlt : k < s.size
    · have hqb : q < 256 ^ k := by
        have := ofBe_lt (l.take k)
        rw [← HQ.out, List.length_take, ← HZ.out, Nat.min_eq_left (by omega)] at this
        exact this
      have hqs : q < 72057594037927936 := Nat.lt_of_lt_of_le hqb (Nat.pow_le_pow_right (n := 256) (i := k) (j := 7) (by decide) (by omega))
      have hex : ∃ x, l[k]? = some x := ⟨_, List.getElem?_eq_getElem (by rw [← HZ.out]; exact hlt)⟩
      obtain ⟨x, hx⟩ := hex
      have hsk := bst_get HS.out hx hlt
      have HV := hid (mul_add_wrap q x hqs)
      have HN := hid (ofBe_take_succ hx)
      clear hqb hx hqs
      go_wp2_with fail
      go_round
      case rel => exact ⟨k + 1, _, by omega, by rw [HN.out, ← HQ.out], congrArg (Value.int .u64) HV.out, by go_num⟩
      case measure => simp [intOf]; omega
    · obtain rfl : k = s.size := by omega
      have HE := hid (show q = ofBe l by rw [HQ.out, List.take_of_length_le (by rw [HZ.out]; exact Nat.le_refl _)])
      go_wp2_with fail
      go_ret
      exact ⟨by rw [← HE.out]; rfl, rfl⟩

theorem vbytes_prefix (v k : Nat) (h : k < vlen v) : (vbytes v).take (k + 1) = (vbytes v).take k ++ [vbyte v k] := vbytes_take v k h

set_option maxHeartbeats 400000 in
theorem refVar_any (v : Nat) (w : World) (hv : v < 18446744073709551616) :
    Calls Tryd.prog 17 #[.int .u64 (v : Int)] w fun e w' => e = .returned (.string (bst (vbytes v))) ∧ Below w.heap.size w w' := by
  have hL := hid (vlen_isLen v hv)
  have hle := vlen_le v
  go_enter Tryd.func17, Tryd.ntmps17
  go_wp2_with fail
  go_loopw [0, 3] (fun u s wr => ∃ k q : Nat, k < vlen v ∧ q = v / 128 ^ k ∧ u = .int .u64 (q : Int) ∧ s = .string (bst ((vbytes v).take k)) ∧ Below w.heap.size w wr) (fun u _ _ => (intOf u).toNat)
  case atStart => exact ⟨0, v, vlen_pos v, by simp, rfl, by simp [bst], Below.refl _ _⟩
  case round =>
    obtain ⟨k, q, hk, hq, rfl, rfl, hb⟩ := hrel
    have HQ := hid hq
    have hqb : q < 18446744073709551616 := Nat.lt_of_le_of_lt (by rw [hq]; exact Nat.div_le_self _ _) hv
    clear hq
    have hex : ∃ x : UInt8, x = vbyte v k := ⟨_, rfl⟩
    obtain ⟨x, hx⟩ := hex
    have HX := hid hx
    have HT := hid (vbytes_take v k hk)
    have hsz : (bst ((vbytes v).take k)).size + (bst [x]).size ≤ 16 := by rw [bst_size, bst_size, List.length_take]; simp; omega
    by_cases hlt : 128 ≤ q
    · have hk1 : k + 1 < vlen v := by
        refine Classical.byContradiction fun hne => ?_
        have h0 := div_zero_mono v (vlen v) (k + 1) hL.out.2.1 (by omega)
        rw [div_pow_succ, ← HQ.out] at h0
        omega
      have hv1 := vbyte_more hk1 HQ.out
      rw [← hx] at hv1
      have hbyte : (q : Int) % 128 + 128 = (x.toNat : Int) := by rw [hv1]; omega
      have hconv := conv_one x
      clear hv1 hx
      go_wp2_with fail
      go_roundw
      case rel => exact ⟨k + 1, q / 128, hk1, by rw [HQ.out, ← div_pow_succ], by go_num, by rw [bst_append, HT.out, HX.out], hb.alloc hb.size _⟩
      case measure => simp [intOf]; omega
    · have hk1 : k + 1 = vlen v := by
        refine Classical.byContradiction fun hne => ?_
        have h0 := hL.out.2.2 (by omega)
        have h1 := div_zero_mono v (k + 1) (vlen v - 1) (by rw [div_pow_succ, ← HQ.out]; omega) (by omega)
        exact h0 h1
      have hv1 := vbyte_last hk1 HQ.out hL.out
      rw [← hx] at hv1
      have hconv := conv_num q x (by rw [hv1]; omega)
      have HE := hid (show bst ((vbytes v).take k) ++ bst [x] = bst (vbytes v) by rw [bst_append, hx, ← HT.out, List.take_of_length_le (by rw [vbytes_length]; omega)])
      clear hv1 hx
      go_wp2_with fail
      go_ret
      exact ⟨by rw [← HE.out]; rfl, hb.alloc hb.size _⟩

theorem sum_wrap {q k p : Nat} {x : UInt8} (hp : p = 128 ^ k) (hq : q < 128 ^ k) (hk : k ≤ 8 ∨ k ≤ 9 ∧ x.toNat ≤ 1) :
    IntKind.u64.wrap ((q : Int) + IntKind.u64.wrap ((x.toNat : Int) % 128 * (p : Int))) = ((q + x.toNat % 128 * 128 ^ k : Nat) : Int) := by
  rw [← hp] at hq ⊢
  have hm : x.toNat % 128 * p ≤ 9223372036854775808 := by
    rcases hk with h | ⟨h, h1⟩
    · have h8 : p ≤ 128 ^ 8 := by rw [hp]; exact Nat.pow_le_pow_right (by decide) h
      have : x.toNat % 128 * p ≤ 127 * 128 ^ 8 := Nat.mul_le_mul (by omega) h8
      omega
    · have h8 : p ≤ 128 ^ 9 := by rw [hp]; exact Nat.pow_le_pow_right (by decide) h
      have : x.toNat % 128 * p ≤ 1 * 128 ^ 9 := Nat.mul_le_mul (by omega) h8
      omega
  have h9 : p ≤ 9223372036854775808 := by
    have : p ≤ 128 ^ 9 := by rw [hp]; exact Nat.pow_le_pow_right (by decide) (by omega)
    omega
  have e : (x.toNat : Int) % 128 * (p : Int) = ((x.toNat % 128 * p : Nat) : Int) := by simp
  rw [e, IntKind.wrap_u64, IntKind.wrap_u64]
  omega
theorem power_wrap {k p : Nat} (hp : p = 128 ^ k) (hk : k ≤ 8) : IntKind.u64.wrap ((p : Int) * 128) = ((128 ^ (k + 1) : Nat) : Int) := by
  have h8 : p ≤ 128 ^ 8 := by rw [hp]; exact Nat.pow_le_pow_right (by decide) hk
  rw [Nat.pow_succ, ← hp, IntKind.wrap_u64]
  omega
theorem ret3i {a b c d : Int} {e : Value} (h : a = b) (h2 : c = d) : Ending.returned (.tuple #[.int .u64 a, .int .i64 c, e]) = Ending.returned (.tuple #[.int .u64 b, .int .i64 d, e]) := by rw [h, h2]

set_option maxRecDepth 100000 in
set_option maxHeartbeats 1000000 in
theorem refGetVar_any (l : List UInt8) (w : World) (hl : l.length ≤ 4096) :
    Calls Tryd.prog 20 #[.string (bst l)] w fun e w' =>
      e = .returned (.tuple #[.int .u64 ((rdv 0 0 l).1 : Int), .int .i64 ((rdv 0 0 l).2.1 : Int), .int .i64 ((rdv 0 0 l).2.2 : Int)]) ∧ w = w' := by
  obtain ⟨o, ho⟩ : ∃ o, o = rdv 0 0 l := ⟨_, rfl⟩
  rw [← ho]
  have HR := hid ho
  clear ho
  obtain ⟨s, hs⟩ : ∃ s, s = bst l := ⟨_, rfl⟩
  have hsz : s.size = l.length := by rw [hs, bst_size]
  have hle : s.size ≤ 4096 := by omega
  have HS := hid hs
  have HZ := hid hsz
  rw [← hs]
  clear hs hsz
  go_enter Tryd.func20, Tryd.ntmps20
  go_wp2_with fail
  go_loop [5, 6, 7] (fun u p i => ∃ k q : Nat, k ≤ 9 ∧ k ≤ s.size ∧ q < 128 ^ k ∧ o = rdv k q (l.drop k) ∧ u = .int .u64 (q : Int) ∧ p = .int .u64 ((128 ^ k : Nat) : Int) ∧ i = .int .i64 (k : Int)) (fun _ _ i => 20 - (intOf i).toNat)
  case atStart => exact ⟨0, 0, by omega, by omega, by simp, by simpa using HR.out, rfl, rfl, rfl⟩
  case round =>
    obtain ⟨k, q, hk9, hk, hq, hrd, rfl, rfl, rfl⟩ := hrel
    have HQ := hid hq
    have HD := hid hrd
    clear hq hrd
    obtain ⟨p, hp⟩ : ∃ p, p = 128 ^ k := ⟨_, rfl⟩
    rw [← hp]
    have HP := hid hp
    clear hp
    by_cases hlt : k < s.size
    · have hex : ∃ x, l[k]? = some x := ⟨_, List.getElem?_eq_getElem (by rw [← HZ.out]; exact hlt)⟩
      obtain ⟨x, hx⟩ := hex
      have hsk := bst_get HS.out hx hlt
      have hdrop := hid (drop_cons hx)
      clear hx
      by_cases h128 : x.toNat < 128
      · by_cases hf : k = 9 ∧ 1 < x.toNat ∨ x.toNat = 0 ∧ 0 < k
        · have HF := hid (HD.out.trans (by rw [hdrop.out, rdv_form hf]))
          have hways : (9 ≤ k ∧ 2 ≤ x.toNat) ∨ (k ≤ 8 ∧ 1 ≤ k ∧ x.toNat ≤ 0) ∨ (9 ≤ k ∧ x.toNat ≤ 0) := by omega
          clear hf
          rcases hways with ⟨h1, h2⟩ | ⟨h1, h2, h3⟩ | ⟨h1, h2⟩
          · have hx0 : ((x.toNat : Int) == 0) = false := by simp; omega
            go_wp2_with fail
            go_ret3
            exact ⟨by rw [HF.out]; rfl, rfl⟩
          · have hx0 : ((x.toNat : Int) == 0) = true := by simp; omega
            go_wp2_with fail
            go_ret3
            exact ⟨by rw [HF.out]; rfl, rfl⟩
          · have hx0 : ((x.toNat : Int) == 0) = true := by simp; omega
            go_wp2_with fail
            go_ret3
            exact ⟨by rw [HF.out]; rfl, rfl⟩
        · have HV := hid (HD.out.trans (by rw [hdrop.out, rdv_last hf h128]))
          have hways : (9 ≤ k ∧ 1 ≤ x.toNat ∧ x.toNat ≤ 1) ∨ (k ≤ 0 ∧ x.toNat ≤ 0) ∨ (k ≤ 8 ∧ 1 ≤ x.toNat) := by omega
          clear hf
          rcases hways with ⟨h1, h2, h3⟩ | ⟨h1, h2⟩ | ⟨h1, h2⟩
          · have hx0 : ((x.toNat : Int) == 0) = false := by simp; omega
            have hval := hid (sum_wrap (x := x) HP.out HQ.out (by omega))
            rw [Nat.mod_eq_of_lt h128] at hval
            have hk10 : (10 : Int) = ((k + 1 : Nat) : Int) := by omega
            have HK := hid hk10
            clear hk10
            go_wp2_with fail
            all_goals
              go_ret3
              refine ⟨?_, rfl⟩
              rw [HV.out]
              exact ret3i hval.out HK.out
          · have hx0 : ((x.toNat : Int) == 0) = true := by simp; omega
            have hval := hid (sum_wrap (x := x) HP.out HQ.out (by omega))
            rw [Nat.mod_eq_of_lt h128] at hval
            have hk10 : ((k : Int) + 1 : Int) = ((k + 1 : Nat) : Int) := by omega
            have HK := hid hk10
            clear hk10
            go_wp2_with fail
            all_goals
              go_ret3
              refine ⟨?_, rfl⟩
              rw [HV.out]
              exact ret3i hval.out HK.out
          · have hx0 : ((x.toNat : Int) == 0) = false := by simp; omega
            have hval := hid (sum_wrap (x := x) HP.out HQ.out (by omega))
            rw [Nat.mod_eq_of_lt h128] at hval
            have hk10 : ((k : Int) + 1 : Int) = ((k + 1 : Nat) : Int) := by omega
            have HK := hid hk10
            clear hk10
            go_wp2_with fail
            all_goals
              go_ret3
              refine ⟨?_, rfl⟩
              rw [HV.out]
              exact ret3i hval.out HK.out
      · by_cases h9 : 9 ≤ k
        · have HF := hid (HD.out.trans (by rw [hdrop.out, rdv_form (by omega)]))
          go_wp2_with fail
          go_ret3
          exact ⟨by rw [HF.out]; rfl, rfl⟩
        · have HF := hid (HD.out.trans (by rw [hdrop.out, rdv_more (by omega) h128]))
          have hval := hid (sum_wrap (x := x) HP.out HQ.out (by omega))
          have hx := x.toNat_lt
          rw [show x.toNat % 128 = x.toNat - 128 by omega] at hval
          clear hx
          have hx0 : ((x.toNat : Int) == 0) = false := by simp; omega
          go_wp2_with fail
          all_goals
            go_round
            case rel => exact ⟨k + 1, _, by omega, by omega, more_lt HQ.out, HF.out, congrArg (Value.int .u64) hval.out, congrArg (Value.int .u64) (power_wrap HP.out (by omega)), by go_num⟩
            case measure => simp [intOf]; omega
    · have HF := hid (HD.out.trans (by rw [List.drop_eq_nil_of_le (by rw [← HZ.out]; omega)]))
      go_wp2_with fail
      go_ret3
      exact ⟨by rw [HF.out]; rfl, rfl⟩

end Go.Proofs.YtkcebnagpgpclaaDoor
