/-
  isWidth: by its contract. Put's closure that pushes a byte: by its contract. num.Put by its contracts. num.Get by its contracts. Bytes of a number, and back: plain functions.
-/
import Derived.Test.YtngclmjefadokaaDoorJVars
import Derived.Test.YtngclmjefadokaaDoorJTab
namespace Go.Proofs.YtngclmjefadokaaDoor
open Go Go.RowKit

set_option maxHeartbeats 400000 in
theorem isWidth_any (n : Int) (w : World) :
    Calls Tryd.prog 82 #[.int .i64 n] w fun e w' => e = .returned (.bool (decide (1 ≤ n ∧ n ≤ 8))) ∧ w = w' := by
  by_cases h1 : 1 ≤ n
  · by_cases h2 : n < 9
    · have e : decide (1 ≤ n ∧ n ≤ 8) = true := by simp; omega
      go_enter Tryd.func82, Tryd.ntmps82
      go_wp2
      go_ret
      exact ⟨by simp; omega, rfl⟩
    · go_enter Tryd.func82, Tryd.ntmps82
      go_wp2
      go_ret
      exact ⟨by simp; omega, rfl⟩
  · go_enter Tryd.func82, Tryd.ntmps82
    go_wp2
    go_ret
    exact ⟨by simp; omega, rfl⟩

end Go.Proofs.YtngclmjefadokaaDoor

namespace Go.Proofs.YtngclmjefadokaaDoor
open Go Go.RowKit

set_option maxHeartbeats 400000 in
theorem push_put (base b : Nat) (l : List UInt8) (n : Int) (x : UInt8) (w : World) (h : OutAt w base 5 98 b l) (hl : l.length ≤ 140737488355000) (hb : base ≤ b) (_hn : 0 ≤ n) (hx : n % 256 = (x.toNat : Int)) :
    Calls Tryd.prog 84 #[.int .u64 n, .pointer (some ⟨b, 0, none⟩)] w fun e w' =>
      e = .returned (.tuple #[]) ∧ OutAt w' base 5 98 b (l ++ [x]) ∧ Below base w w' := by
  obtain ⟨A, c, hv, hown⟩ := h
  obtain ⟨i0, hi, hz0, hz1, hz2⟩ := info_parts info_byte
  have hc := cell_of_one hv
  have hlt := lt_of_block hv
  have hne := own_ne hown hv (by decide)
  go_enter Tryd.func84, Tryd.ntmps84
  go_wp2_with (first
    | (at_builtin; go_must (refine wpList_append_bs _ rfl _ _ _ rfl base 5 i0 Tryd.underlying98 hi hz0 hz1 hz2 (.slice A l.length c) l [x] rfl (hown.alloc _) (some ⟨w.heap.size, 0, none⟩) 1 1 rfl rfl ?pos ?len ?base ?_)))
  case pos => simpa using At.one w x _
  case len => simp; omega
  case base => simp; omega
  intro A' c' w1 hown1 hg1 hat
  have hb1 : w1.heap[b]? = some (.cells #[.slice A l.length c] 98 (0, 0)) := (hg1.block b (by simp; omega) (fun e => hne e.symm)).trans ((Below.heap_alloc w _ b hlt).trans hv)
  have hf := free_of_one hb1
  have hc1 := cell_of_one hb1
  have hbel : Below base w w1 := ((Below.refl base w).alloc (by omega) _).grown hg1 (by simp; omega) (fun k hk => (hown.lt k hk).1)
  go_wp2
  go_end0
  have e : (l ++ [x]).length = l.length + 1 := by simp
  refine ⟨rfl, ⟨A', c', ?_, ?_⟩, hbel.setCell hb _⟩
  · rw [e]; exact one_setCell hb1
  · rw [e]; exact ownsRow_setCell_other hown1 (own_ne hown1 hb1 (by decide)) _

end Go.Proofs.YtngclmjefadokaaDoor

namespace Go.Proofs.YtngclmjefadokaaDoor
open Go Go.RowKit

/-- a number's n bytes, the greatest place first -/
def be (v n : Nat) : List UInt8 := (List.range n).map fun i => UInt8.ofNat (v / 256 ^ (n - 1 - i))
theorem be_length (v n : Nat) : (be v n).length = n := by simp [be]
theorem be_take (v n k : Nat) (h : k < n) : (be v n).take (k + 1) = (be v n).take k ++ [UInt8.ofNat (v / 256 ^ (n - 1 - k))] := by
  rw [List.take_succ_eq_append_getElem (by rw [be_length]; exact h)]
  simp [be]

theorem pow8 (m : Nat) : 2 ^ (8 * m) = 256 ^ m := by rw [Nat.pow_mul]
theorem shr8 (v m : Nat) : (v : Int) / 2 ^ (8 * m) = ((v / 256 ^ m : Nat) : Int) := by
  rw [← pow8]; simp
theorem shr8_byte (v m : Nat) : (v : Int) / 2 ^ (8 * m) % 256 = ((UInt8.ofNat (v / 256 ^ m)).toNat : Int) := by
  rw [shr8, UInt8.toNat_ofNat']; omega

set_option maxHeartbeats 400000 in
theorem put_good (A : Option Addr) (c B : Nat) (l : List UInt8) (v n : Nat) (w : World) (hA : At w B A l) (hB : B ≤ w.heap.size) (hl : l.length ≤ 70368744177664) (hT : Table w) (h1 : 1 ≤ n) (h8 : n ≤ 8)
    (hfit : v / 256 ^ n = 0) (_hv : v < 18446744073709551616) :
    Calls Tryd.prog 69 #[.slice A l.length c, .int .u64 (v : Int), .int .i64 (n : Int)] w fun e w' =>
      ∃ A' m c', e = .returned (.tuple #[.slice A' m c', .int .i64 0]) ∧ Row w' w.heap.size 5 A' m c' (l ++ be v n) ∧ Below w.heap.size w w' := by
  have hcn := hT n (by omega)
  have hsn : (0 : Int) ≤ 8 * (n : Int) := by omega
  have hq : (v : Int) / 2 ^ (8 * n) = 0 := by rw [shr8, hfit]; rfl
  have h0 : 0 < w.heap.size := World.block_lt_of_cell? w _ hcn
  have hok : decide (1 ≤ (n : Int) ∧ (n : Int) ≤ 8) = true := by simp; omega
  go_enter Tryd.func69, Tryd.ntmps69
  go_wp2_with (first
    | (go_at_call 82; refine (isWidth_any _ _).mono ?_; rintro e w' ⟨rfl, rfl⟩)
    | (go_at_call 83; refine (extend_any A c n B l _ hA hB hl (by omega)).mono ?_; rintro e w1 ⟨rfl, hown, hbel⟩))
  have hbv : (w1.alloc (.cells #[.slice (some ⟨w.heap.size, 0, none⟩) l.length (l.length + n)] 98)).heap[w1.heap.size]? = some (.cells #[.slice (some ⟨w.heap.size, 0, none⟩) l.length (l.length + n)] 98 (0, 0)) := heap_alloc_new w1 _
  have hs1 := hbel.size
  clear hq hsn
  go_loopw [27] (fun i wr => ∃ k : Nat, k ≤ n ∧ i = .int .i64 k ∧ OutAt wr w.heap.size 5 98 w1.heap.size (l ++ (be v n).take k) ∧ Below w.heap.size w wr)
    (fun i _ => n - (intOf i).toNat)
  case atStart => exact ⟨0, Nat.zero_le _, rfl, ⟨_, _, by simpa using hbv, by simpa using hown.alloc _⟩, hbel.alloc (by omega) _⟩
  case round =>
    obtain ⟨k, hk, rfl, hout, hb2⟩ := hrel
    by_cases hlt : k < n
    · have hcell := (hb2.cell (p := ⟨0, n - 1 - k, none⟩) (by exact h0)).trans (hT (n - 1 - k) (by omega))
      have hidx : (n : Int) - 1 - k = ((n - 1 - k : Nat) : Int) := by omega
      have hlen : (l ++ (be v n).take k).length ≤ 140737488355000 := by rw [List.length_append, List.length_take]; omega
      have htake := hid (be_take v n k hlt)
      have hP := hid (push_put w.heap.size w1.heap.size (l ++ (be v n).take k) ((v : Int) / 2 ^ (8 * (n - 1 - k))) (UInt8.ofNat (v / 256 ^ (n - 1 - k))) wr hout hlen hs1 (by rw [shr8]; exact Int.natCast_nonneg _) (shr8_byte v (n - 1 - k)))
      go_wp2_with (go_at_call 84; refine hP.out.mono ?_; rintro e w2 ⟨rfl, hout2, hb3⟩)
      go_roundw
      case rel => exact ⟨k + 1, by omega, by go_num, by rw [htake.out, ← List.append_assoc]; exact hout2, hb2.trans hb3⟩
      case measure => simp [intOf]; omega
    · have hkn : n ≤ k := by omega
      obtain ⟨A', c', hblk, hown2⟩ := hout
      have hc := cell_of_one hblk
      rw [List.take_of_length_le (by rw [be_length]; omega)] at hown2 hc hblk
      obtain ⟨m, hm⟩ : ∃ m, m = (l ++ be v n).length := ⟨_, rfl⟩
      rw [← hm] at hc hown2 hblk
      have hm' := hid hm
      clear hm
      go_wp2
      go_ret2
      exact ⟨A', m, c', rfl, ⟨hm'.out, hown2⟩, hb2⟩

set_option maxHeartbeats 400000 in
theorem put_width (A : Option Addr) (c m : Nat) (v n : Int) (w : World) (h : ¬ (1 ≤ n ∧ n ≤ 8)) :
    Calls Tryd.prog 69 #[.slice A m c, .int .u64 v, .int .i64 n] w fun e w' =>
      e = .returned (.tuple #[.slice none 0 0, .int .i64 11]) ∧ w = w' := by
  have hok : decide (1 ≤ n ∧ n ≤ 8) = false := by simpa using h
  clear h
  go_enter Tryd.func69, Tryd.ntmps69
  go_wp2_with (go_at_call 82; refine (isWidth_any _ _).mono ?_; rintro e w' ⟨rfl, rfl⟩)
  go_ret2
  exact ⟨rfl, rfl⟩

set_option maxHeartbeats 400000 in
theorem put_great (A : Option Addr) (c m : Nat) (v n : Nat) (w : World) (hT : Table w) (h1 : 1 ≤ n) (h8 : n ≤ 8) (hfit : v / 256 ^ n ≠ 0) :
    Calls Tryd.prog 69 #[.slice A m c, .int .u64 (v : Int), .int .i64 (n : Int)] w fun e w' =>
      e = .returned (.tuple #[.slice none 0 0, .int .i64 11]) ∧ w = w' := by
  have hcn := hT n (by omega)
  have hq : (((v : Int) / 2 ^ (8 * n)) == 0) = false := by rw [shr8]; exact (nat_ne hfit).1
  have hq2 : (((v : Int) / 2 ^ (8 * n)) != 0) = true := by rw [shr8]; exact (nat_ne hfit).2
  have hsn : (0 : Int) ≤ 8 * (n : Int) := by omega
  have hok : decide (1 ≤ (n : Int) ∧ (n : Int) ≤ 8) = true := by simp; omega
  clear hfit
  go_enter Tryd.func69, Tryd.ntmps69
  go_wp2_with (go_at_call 82; refine (isWidth_any _ _).mono ?_; rintro e w' ⟨rfl, rfl⟩)
  go_ret2
  exact ⟨rfl, rfl⟩

theorem put_is {A : Option Addr} {m c B : Nat} {l : List UInt8} {v n : Nat} {w : World} (hm : m = l.length) (hA : At w B A l) (hB : B ≤ w.heap.size) (hl : l.length ≤ 70368744177664) (hT : Table w) (h1 : 1 ≤ n) (h8 : n ≤ 8)
    (hfit : v / 256 ^ n = 0) (hv : v < 18446744073709551616) :
    Calls Tryd.prog 69 #[.slice A m c, .int .u64 (v : Int), .int .i64 (n : Int)] w fun e w' =>
      ∃ A' m' c', e = .returned (.tuple #[.slice A' m' c', .int .i64 0]) ∧ Row w' w.heap.size 5 A' m' c' (l ++ be v n) ∧ Below w.heap.size w w' := by
  subst hm
  exact put_good A c B l v n w hA hB hl hT h1 h8 hfit hv

end Go.Proofs.YtngclmjefadokaaDoor

namespace Go.Proofs.YtngclmjefadokaaDoor
open Go Go.RowKit

/-- the number of bytes, the greatest place first -/
def ofBe (l : List UInt8) : Nat := l.foldl (fun a x => 256 * a + x.toNat) 0
theorem ofBe_snoc (l : List UInt8) (x : UInt8) : ofBe (l ++ [x]) = 256 * ofBe l + x.toNat := by simp [ofBe]
theorem ofBe_lt (l : List UInt8) : ofBe l < 256 ^ l.length := by
  have h : ∀ n, ∀ l : List UInt8, l.length = n → ofBe l < 256 ^ n := by
    intro n
    induction n with
    | zero => intro l hl; obtain rfl := List.eq_nil_of_length_eq_zero hl; simp [ofBe]
    | succ n ih =>
      intro l hl
      obtain ⟨a, x, rfl⟩ : ∃ a x, l = a ++ [x] := ⟨_, _, (List.dropLast_concat_getLast (by intro e; subst e; simp at hl)).symm⟩
      have h1 := ih a (by simpa using hl)
      have h2 := x.toNat_lt
      rw [ofBe_snoc, Nat.pow_succ]
      omega
  exact h _ l rfl

theorem shl_or (q : Nat) (x : UInt8) (h : q < 72057594037927936) :
    bits BinOp.or IntKind.u64 (IntKind.u64.wrap ((q : Int) * 256)) (IntKind.u64.wrap (x.toNat : Int)) = ((256 * q + x.toNat : Nat) : Int) := by
  have hx := x.toNat_lt
  have e1 : IntKind.u64.wrap ((q : Int) * 256) = ((2 ^ 8 * q : Nat) : Int) := by rw [IntKind.wrap_u64]; omega
  have e2 : IntKind.u64.wrap (x.toNat : Int) = ((x.toNat : Nat) : Int) := by rw [IntKind.wrap_u64]; omega
  rw [e1, e2, u64_or_nat _ _ (by omega) (by omega), ← Nat.two_pow_add_eq_or_of_lt (by omega) q]

theorem ofBe_take_succ {l : List UInt8} {k : Nat} {x : UInt8} (h : l[k]? = some x) : ofBe (l.take (k + 1)) = 256 * ofBe (l.take k) + x.toNat := by
  have hk := (List.getElem?_eq_some_iff.1 h).1
  have hx := (List.getElem?_eq_some_iff.1 h).2
  rw [List.take_succ_eq_append_getElem hk, ofBe_snoc, hx]

set_option maxHeartbeats 400000 in
theorem get_width (A : Option Addr) (c m : Nat) (n : Int) (w : World) (h : ¬ (1 ≤ n ∧ n ≤ 8)) :
    Calls Tryd.prog 71 #[.slice A m c, .int .i64 n] w fun e w' =>
      e = .returned (.tuple #[.int .u64 0, .slice none 0 0, .int .i64 11]) ∧ w = w' := by
  have hok : decide (1 ≤ n ∧ n ≤ 8) = false := by simpa using h
  clear h
  go_enter Tryd.func71, Tryd.ntmps71
  go_wp2_with (go_at_call 82; refine (isWidth_any _ _).mono ?_; rintro e w' ⟨rfl, rfl⟩)
  go_ret3
  exact ⟨rfl, rfl⟩

set_option maxHeartbeats 400000 in
theorem get_short (A : Option Addr) (c m n : Nat) (w : World) (h1 : 1 ≤ n) (h8 : n ≤ 8) (hm : m < n) :
    Calls Tryd.prog 71 #[.slice A m c, .int .i64 (n : Int)] w fun e w' =>
      e = .returned (.tuple #[.int .u64 0, .slice none 0 0, .int .i64 10]) ∧ w = w' := by
  have hok : decide (1 ≤ (n : Int) ∧ (n : Int) ≤ 8) = true := by simp; omega
  go_enter Tryd.func71, Tryd.ntmps71
  go_wp2_with (go_at_call 82; refine (isWidth_any _ _).mono ?_; rintro e w' ⟨rfl, rfl⟩)
  go_ret3
  exact ⟨rfl, rfl⟩

set_option maxHeartbeats 400000 in
theorem get_good (A : Option Addr) (c n B : Nat) (l : List UInt8) (w : World) (hA : At w B A l) (hB : B ≤ w.heap.size) (hl : l.length ≤ 70368744177664) (hc : l.length ≤ c) (h1 : 1 ≤ n) (h8 : n ≤ 8) (hm : n ≤ l.length) :
    Calls Tryd.prog 71 #[.slice A l.length c, .int .i64 (n : Int)] w fun e w' =>
      ∃ A' m c', e = .returned (.tuple #[.int .u64 (ofBe (l.take n) : Int), .slice A' m c', .int .i64 0]) ∧ Row w' w.heap.size 5 A' m c' (l.drop n) ∧ Below w.heap.size w w' := by
  have hok : decide (1 ≤ (n : Int) ∧ (n : Int) ≤ 8) = true := by simp; omega
  obtain ⟨b, off, rfl, hb, hcell⟩ := hA (by omega)
  go_enter Tryd.func71, Tryd.ntmps71
  go_wp2_with (go_at_call 82; refine (isWidth_any _ _).mono ?_; rintro e w' ⟨rfl, rfl⟩)
  go_loop [7, 17] (fun u i => ∃ k q : Nat, k ≤ n ∧ q = ofBe (l.take k) ∧ u = .int .u64 (q : Int) ∧ i = .int .i64 (k : Int)) (fun _ i => n - (intOf i).toNat)
  case atStart => exact ⟨0, 0, Nat.zero_le _, by simp [ofBe], rfl, rfl⟩
  case round =>
    obtain ⟨k, q, hk, hq, rfl, rfl⟩ := hrel
    have HQ := hid hq
    clear hq
    by_cases hlt : k < n
    · obtain ⟨x, hx⟩ : ∃ x, l[k]? = some x := ⟨_, List.getElem?_eq_getElem (by omega)⟩
      have hk1 := hcell k x hx
      have HX := hid hx
      clear hx
      have hqs : q < 72057594037927936 := by
        have h1 := ofBe_lt (l.take k)
        rw [← HQ.out, List.length_take, Nat.min_eq_left (by omega)] at h1
        exact Nat.lt_of_lt_of_le h1 (Nat.pow_le_pow_right (n := 256) (i := k) (j := 7) (by decide) (by omega))
      have HB := hid (shl_or q x hqs)
      have HN := hid (ofBe_take_succ HX.out)
      clear hqs
      go_wp2
      go_round
      case rel => exact ⟨k + 1, 256 * q + x.toNat, by omega, by rw [HN.out, HQ.out], by rw [HB.out], by go_num⟩
      case measure => simp [intOf]; omega
    · have hkn : k = n := by omega
      subst hkn
      have hcut := hA.cut (k := k) hc
      have hdl := hid (show l.length - k = (l.drop k).length by simp)
      by_cases hcn : c = k
      · rw [if_pos hcn] at hcut
        have hP := hid (extend_len _ _ (c - k) 0 B 0 (l.drop k) w hdl.out rfl hcut hB (by simp; omega) (by omega))
        subst hcn
        rw [Nat.sub_self, show l.length - c = 0 by omega] at hP
        clear hcut hcell hA
        go_wp2_with (go_at_call 83; refine hP.out.mono ?_; rintro e w1 ⟨A', m', c', rfl, hrow, hbel⟩)
        go_ret3
        exact ⟨A', m', c', by rw [← HQ.out]; rfl, hrow, hbel⟩
      · rw [if_neg hcn] at hcut
        have e2 : (⟨b, off, none⟩ : Addr).add k = ⟨b, off + k, none⟩ := by unfold Addr.add; split <;> simp_all
        rw [Option.map_some, e2] at hcut
        have hP := hid (extend_len _ _ (c - k) 0 B 0 (l.drop k) w hdl.out rfl hcut hB (by simp; omega) (by omega))
        clear hcut hcell hA e2
        go_wp2_with (go_at_call 83; refine hP.out.mono ?_; rintro e w1 ⟨A', m', c', rfl, hrow, hbel⟩)
        go_ret3
        exact ⟨A', m', c', by rw [← HQ.out]; rfl, hrow, hbel⟩

theorem get_is {A : Option Addr} {c B m n : Nat} {N : Int} {l : List UInt8} {w : World} (hm : m = l.length) (hN : N = (n : Int)) (hA : At w B A l) (hB : B ≤ w.heap.size) (hl : l.length ≤ 70368744177664) (hc : m ≤ c) (h1 : 1 ≤ n) (h8 : n ≤ 8) (hn : n ≤ l.length) :
    Calls Tryd.prog 71 #[.slice A m c, .int .i64 N] w fun e w' =>
      ∃ A' m' c', e = .returned (.tuple #[.int .u64 (ofBe (l.take n) : Int), .slice A' m' c', .int .i64 0]) ∧ Row w' w.heap.size 5 A' m' c' (l.drop n) ∧ Below w.heap.size w w' := by
  subst hm hN
  exact get_good A c n B l w hA hB hl hc h1 h8 hn

end Go.Proofs.YtngclmjefadokaaDoor

namespace Go.Proofs.YtngclmjefadokaaDoor
open Go Go.RowKit

theorem be_succ (v k : Nat) : be v (k + 1) = UInt8.ofNat (v / 256 ^ k) :: be v k := by
  unfold be
  rw [List.range_succ_eq_map, List.map_cons, List.map_map]
  simp only [Nat.add_sub_cancel, Nat.sub_zero, List.cons.injEq, true_and]
  apply List.map_congr_left
  intro i hi
  simp at hi
  simp only [Function.comp_apply]
  congr 3
  omega
theorem be_mod (v n : Nat) : be (v % 256 ^ n) n = be v n := by
  unfold be
  apply List.map_congr_left
  intro i hi
  simp at hi
  apply UInt8.toNat_inj.1
  rw [UInt8.toNat_ofNat', UInt8.toNat_ofNat']
  have e : 256 ^ n = 256 ^ (n - 1 - i) * 256 ^ (i + 1) := by rw [← Nat.pow_add]; congr 1; omega
  rw [e, Nat.mod_mul_right_div_self]
  have e2 : 256 ^ (i + 1) = 2 ^ 8 * 256 ^ i := by rw [Nat.pow_succ, Nat.mul_comm]
  rw [e2, Nat.mod_mul_right_mod]

theorem ofBe_cons (x : UInt8) (l : List UInt8) : ofBe (x :: l) = x.toNat * 256 ^ l.length + ofBe l := by
  have h : ∀ (l : List UInt8) (a : Nat), l.foldl (fun a x => 256 * a + x.toNat) a = a * 256 ^ l.length + l.foldl (fun a x => 256 * a + x.toNat) 0 := by
    intro l
    induction l with
    | nil => intro a; simp
    | cons y l ih =>
      intro a
      rw [List.foldl_cons, List.foldl_cons, ih, ih (256 * 0 + y.toNat), List.length_cons, Nat.pow_succ, Nat.add_mul, Nat.add_mul]
      have e : 256 * a * 256 ^ l.length = a * (256 ^ l.length * 256) := by rw [Nat.mul_comm 256 a, Nat.mul_assoc, Nat.mul_comm 256]
      omega
  unfold ofBe
  rw [List.foldl_cons, h]
  simp
theorem ofBe_be : ∀ (n v : Nat), v < 256 ^ n → ofBe (be v n) = v
  | 0, v, h => by
    have : v = 0 := by simpa using h
    subst this
    rfl
  | n + 1, v, h => by
    have hp : 0 < 256 ^ n := Nat.pow_pos (by decide)
    have hd : v / 256 ^ n < 256 := by rw [Nat.div_lt_iff_lt_mul hp, Nat.mul_comm]; rw [Nat.pow_succ] at h; exact h
    rw [be_succ, ofBe_cons, be_length, ← be_mod v n, ofBe_be n _ (Nat.mod_lt _ hp), UInt8.toNat_ofNat', Nat.mod_eq_of_lt hd, Nat.mul_comm]
    exact Nat.div_add_mod v (256 ^ n)
theorem be_ofBe : ∀ (l : List UInt8) (n : Nat), l.length = n → be (ofBe l) n = l
  | [], n, h => by subst h; rfl
  | x :: l, n, h => by
    subst h
    have hp : 0 < 256 ^ l.length := Nat.pow_pos (by decide)
    have hl := ofBe_lt l
    rw [List.length_cons, be_succ, ofBe_cons]
    have e1 : (x.toNat * 256 ^ l.length + ofBe l) / 256 ^ l.length = x.toNat := by
      rw [Nat.mul_comm, Nat.mul_add_div hp, Nat.div_eq_of_lt hl, Nat.add_zero]
    have e2 : (x.toNat * 256 ^ l.length + ofBe l) % 256 ^ l.length = ofBe l := by
      rw [Nat.mul_comm, Nat.mul_add_mod, Nat.mod_eq_of_lt hl]
    rw [e1, ← be_mod, e2, be_ofBe l _ rfl]
    simp

end Go.Proofs.YtngclmjefadokaaDoor
