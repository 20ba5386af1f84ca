/-
  num.Get by its contracts.
-/
import Derived.Test.YtikggbopoajcbaaDoorSmall
namespace Go.Proofs.YtikggbopoajcbaaDoor
open Go Go.RowKit

/-- the number of bytes, the greatest place first -/
def ofBe (l : List UInt8) : Nat := l.foldl (fun a x => 256 * a + x.toNat) 0
theorem ofBe_snoc (l : List UInt8) (x : UInt8) : ofBe (l ++ [x]) = 256 * ofBe l + x.toNat := by simp [ofBe]
theorem ofBe_lt (l : List UInt8) : ofBe l < 256 ^ l.length := by
  have h : ∀ n, ∀ l : List UInt8, l.length = n → ofBe l < 256 ^ n := by
    intro n
    induction n with
    | zero => intro l hl; obtain rfl := List.eq_nil_of_length_eq_zero hl; simp [ofBe]
    | succ n ih =>
      intro l hl
      obtain ⟨a, x, rfl⟩ : ∃ a x, l = a ++ [x] := ⟨_, _, (List.dropLast_concat_getLast (by intro e; subst e; simp at hl)).symm⟩
      have h1 := ih a (by simpa using hl)
      have h2 := x.toNat_lt
      rw [ofBe_snoc, Nat.pow_succ]
      omega
  exact h _ l rfl

theorem shl_or (q : Nat) (x : UInt8) (h : q < 72057594037927936) :
    bits BinOp.or IntKind.u64 (IntKind.u64.wrap ((q : Int) * 256)) (IntKind.u64.wrap (x.toNat : Int)) = ((256 * q + x.toNat : Nat) : Int) := by
  have hx := x.toNat_lt
  have e1 : IntKind.u64.wrap ((q : Int) * 256) = ((2 ^ 8 * q : Nat) : Int) := by rw [IntKind.wrap_u64]; omega
  have e2 : IntKind.u64.wrap (x.toNat : Int) = ((x.toNat : Nat) : Int) := by rw [IntKind.wrap_u64]; omega
  rw [e1, e2, u64_or_nat _ _ (by omega) (by omega), ← Nat.two_pow_add_eq_or_of_lt (by omega) q]

theorem ofBe_take_succ {l : List UInt8} {k : Nat} {x : UInt8} (h : l[k]? = some x) : ofBe (l.take (k + 1)) = 256 * ofBe (l.take k) + x.toNat := by
  have hk := (List.getElem?_eq_some_iff.1 h).1
  have hx := (List.getElem?_eq_some_iff.1 h).2
  rw [List.take_succ_eq_append_getElem hk, ofBe_snoc, hx]

set_option maxHeartbeats 400000 in
theorem get_width (A : Option Addr) (c m : Nat) (n : Int) (w : World) (h : ¬ (1 ≤ n ∧ n ≤ 8)) :
    Calls Tryd.prog 67 #[.slice A m c, .int .i64 n] w fun e w' =>
      e = .returned (.tuple #[.int .u64 0, .slice none 0 0, .int .i64 11]) ∧ w = w' := by
  have hok : decide (1 ≤ n ∧ n ≤ 8) = false := by simpa using h
  clear h
  go_enter Tryd.func67, Tryd.ntmps67
  go_wp2_with (go_at_call 82; refine (isWidth_any _ _).mono ?_; rintro e w' ⟨rfl, rfl⟩)
  go_ret3
  exact ⟨rfl, rfl⟩

set_option maxHeartbeats 400000 in
theorem get_short (A : Option Addr) (c m n : Nat) (w : World) (h1 : 1 ≤ n) (h8 : n ≤ 8) (hm : m < n) :
    Calls Tryd.prog 67 #[.slice A m c, .int .i64 (n : Int)] w fun e w' =>
      e = .returned (.tuple #[.int .u64 0, .slice none 0 0, .int .i64 10]) ∧ w = w' := by
  have hok : decide (1 ≤ (n : Int) ∧ (n : Int) ≤ 8) = true := by simp; omega
  go_enter Tryd.func67, Tryd.ntmps67
  go_wp2_with (go_at_call 82; refine (isWidth_any _ _).mono ?_; rintro e w' ⟨rfl, rfl⟩)
  go_ret3
  exact ⟨rfl, rfl⟩

set_option maxHeartbeats 400000 in
theorem get_good (A : Option Addr) (c n B : Nat) (l : List UInt8) (w : World) (hA : At w B A l) (hB : B ≤ w.heap.size) (hl : l.length ≤ 70368744177664) (hc : l.length ≤ c) (h1 : 1 ≤ n) (h8 : n ≤ 8) (hm : n ≤ l.length) :
    Calls Tryd.prog 67 #[.slice A l.length c, .int .i64 (n : Int)] w fun e w' =>
      ∃ A' m c', e = .returned (.tuple #[.int .u64 (ofBe (l.take n) : Int), .slice A' m c', .int .i64 0]) ∧ Row w' w.heap.size 5 A' m c' (l.drop n) ∧ Below w.heap.size w w' := by
  have hok : decide (1 ≤ (n : Int) ∧ (n : Int) ≤ 8) = true := by simp; omega
  obtain ⟨b, off, rfl, hb, hcell⟩ := hA (by omega)
  go_enter Tryd.func67, Tryd.ntmps67
  go_wp2_with (go_at_call 82; refine (isWidth_any _ _).mono ?_; rintro e w' ⟨rfl, rfl⟩)
  go_loop [7, 17] (fun u i => ∃ k q : Nat, k ≤ n ∧ q = ofBe (l.take k) ∧ u = .int .u64 (q : Int) ∧ i = .int .i64 (k : Int)) (fun _ i => n - (intOf i).toNat)
  case atStart => exact ⟨0, 0, Nat.zero_le _, by simp [ofBe], rfl, rfl⟩
  case round =>
    obtain ⟨k, q, hk, hq, rfl, rfl⟩ := hrel
    have HQ := hid hq
    clear hq
    by_cases hlt : k < n
    · obtain ⟨x, hx⟩ : ∃ x, l[k]? = some x := ⟨_, List.getElem?_eq_getElem (by omega)⟩
      have hk1 := hcell k x hx
      have HX := hid hx
      clear hx
      have hqs : q < 72057594037927936 := by
        have h1 := ofBe_lt (l.take k)
        rw [← HQ.out, List.length_take, Nat.min_eq_left (by omega)] at h1
        exact Nat.lt_of_lt_of_le h1 (Nat.pow_le_pow_right (n := 256) (i := k) (j := 7) (by decide) (by omega))
      have HB := hid (shl_or q x hqs)
      have HN := hid (ofBe_take_succ HX.out)
      clear hqs
      go_wp2
      go_round
      case rel => exact ⟨k + 1, 256 * q + x.toNat, by omega, by rw [HN.out, HQ.out], by rw [HB.out], by go_num⟩
      case measure => simp [intOf]; omega
    · have hkn : k = n := by omega
      subst hkn
      have hcut := hA.cut (k := k) hc
      have hdl := hid (show l.length - k = (l.drop k).length by simp)
      by_cases hcn : c = k
      · rw [if_pos hcn] at hcut
        have hP := hid (extend_len _ _ (c - k) 0 B 0 (l.drop k) w hdl.out rfl hcut hB (by simp; omega) (by omega))
        subst hcn
        rw [Nat.sub_self, show l.length - c = 0 by omega] at hP
        clear hcut hcell hA
        go_wp2_with (go_at_call 80; refine hP.out.mono ?_; rintro e w1 ⟨A', m', c', rfl, hrow, hbel⟩)
        go_ret3
        exact ⟨A', m', c', by rw [← HQ.out]; rfl, hrow, hbel⟩
      · rw [if_neg hcn] at hcut
        have e2 : (⟨b, off, none⟩ : Addr).add k = ⟨b, off + k, none⟩ := by unfold Addr.add; split <;> simp_all
        rw [Option.map_some, e2] at hcut
        have hP := hid (extend_len _ _ (c - k) 0 B 0 (l.drop k) w hdl.out rfl hcut hB (by simp; omega) (by omega))
        clear hcut hcell hA e2
        go_wp2_with (go_at_call 80; refine hP.out.mono ?_; rintro e w1 ⟨A', m', c', rfl, hrow, hbel⟩)
        go_ret3
        exact ⟨A', m', c', by rw [← HQ.out]; rfl, hrow, hbel⟩

theorem get_is {A : Option Addr} {c B m n : Nat} {N : Int} {l : List UInt8} {w : World} (hm : m = l.length) (hN : N = (n : Int)) (hA : At w B A l) (hB : B ≤ w.heap.size) (hl : l.length ≤ 70368744177664) (hc : m ≤ c) (h1 : 1 ≤ n) (h8 : n ≤ 8) (hn : n ≤ l.length) :
    Calls Tryd.prog 67 #[.slice A m c, .int .i64 N] w fun e w' =>
      ∃ A' m' c', e = .returned (.tuple #[.int .u64 (ofBe (l.take n) : Int), .slice A' m' c', .int .i64 0]) ∧ Row w' w.heap.size 5 A' m' c' (l.drop n) ∧ Below w.heap.size w w' := by
  subst hm hN
  exact get_good A c n B l w hA hB hl hc h1 h8 hn

end Go.Proofs.YtikggbopoajcbaaDoor
