/-
  num.GetVar by its contracts.
-/
import Derived.Test.YtcodljegicoeeaaExtend
import Derived.Test.YtcodljegicoeeaaLists
import Derived.Lib.MinMax
import Derived.Deep.DeepFit
namespace Go.Proofs.Ytcodljegicoeeaa
open Go Go.RowKit

/-- the number that stands first, how many bytes it has, and what is wrong (0: nothing, 10: too few bytes, 12: its form); i bytes are read, they come to acc -/
def rdv (i acc : Nat) : List UInt8 → Nat × Nat × Nat
  | [] => (0, 0, 10)
  | x :: r => if i = 9 ∧ 1 < x.toNat ∨ x.toNat = 0 ∧ 0 < i then (0, 0, 12) else if x.toNat < 128 then (acc + x.toNat * 128 ^ i, i + 1, 0) else rdv (i + 1) (acc + (x.toNat - 128) * 128 ^ i) r

theorem rdv_form {i acc : Nat} {x : UInt8} {r : List UInt8} (h : i = 9 ∧ 1 < x.toNat ∨ x.toNat = 0 ∧ 0 < i) : rdv i acc (x :: r) = (0, 0, 12) := by
  unfold rdv; rw [if_pos h]
theorem rdv_last {i acc : Nat} {x : UInt8} {r : List UInt8} (h : ¬ (i = 9 ∧ 1 < x.toNat ∨ x.toNat = 0 ∧ 0 < i)) (hx : x.toNat < 128) : rdv i acc (x :: r) = (acc + x.toNat * 128 ^ i, i + 1, 0) := by
  unfold rdv; rw [if_neg h, if_pos hx]
theorem rdv_more {i acc : Nat} {x : UInt8} {r : List UInt8} (h : i ≠ 9) (hx : ¬ x.toNat < 128) : rdv i acc (x :: r) = rdv (i + 1) (acc + (x.toNat - 128) * 128 ^ i) r := by
  conv => lhs; unfold rdv
  rw [if_neg (by omega), if_neg hx]

theorem and128_nat : ∀ r : Nat, r < 256 → r &&& 128 = if r < 128 then 0 else 128 := by decide +kernel
theorem andNot128_nat : ∀ r : Nat, r < 256 → r &&& (255 - 128) = r % 128 := by decide +kernel
theorem and128 (x : UInt8) : bits BinOp.and IntKind.u8 (x.toNat : Int) 128 = if x.toNat < 128 then 0 else 128 := by
  have h := u8_and_nat x.toNat 128 x.toNat_lt (by decide)
  rw [and128_nat _ x.toNat_lt] at h
  refine h.trans ?_
  split <;> rfl
theorem andNot128 (x : UInt8) : bits BinOp.andNot IntKind.u8 (x.toNat : Int) 128 = ((x.toNat % 128 : Nat) : Int) := by
  have h := u8_andNot_nat x.toNat 128 x.toNat_lt (by decide)
  rw [andNot128_nat _ x.toNat_lt] at h
  exact h

theorem pow7' (k : Nat) : 2 ^ (7 * k) = 128 ^ k := by rw [Nat.pow_mul]
theorem or_add (q y k : Nat) (hq : q < 128 ^ k) : q ||| y * 128 ^ k = q + y * 128 ^ k := by
  rw [Nat.or_comm, ← pow7', Nat.mul_comm, ← Nat.two_pow_add_eq_or_of_lt (by rw [pow7']; exact hq), Nat.add_comm]
theorem or_wrap (q k : Nat) (x : UInt8) (hq : q < 128 ^ k) (hk : k ≤ 8) :
    bits BinOp.or IntKind.u64 (q : Int) (IntKind.u64.wrap ((x.toNat : Int) % 128 * 2 ^ (7 * k))) = ((q + x.toNat % 128 * 128 ^ k : Nat) : Int) := by
  have h8 : 128 ^ k ≤ 128 ^ 8 := Nat.pow_le_pow_right (by decide) hk
  have hm : x.toNat % 128 * 128 ^ k ≤ 127 * 128 ^ 8 := Nat.mul_le_mul (by omega) h8
  have e : ((x.toNat : Int) % 128 * 2 ^ (7 * k)) = ((x.toNat % 128 * 128 ^ k : Nat) : Int) := by rw [← pow7']; simp
  have e2 : IntKind.u64.wrap ((x.toNat % 128 * 128 ^ k : Nat) : Int) = ((x.toNat % 128 * 128 ^ k : Nat) : Int) := by rw [IntKind.wrap_u64]; omega
  rw [e, e2, u64_or_nat _ _ (by omega) (by omega), or_add q _ k hq]
theorem or_nine (q : Nat) (x : UInt8) (hq : q < 128 ^ 9) (hx : x.toNat = 1) :
    bits BinOp.or IntKind.u64 (q : Int) ((x.toNat : Int) % 128 * 9223372036854775808) = ((q + x.toNat * 128 ^ 9 : Nat) : Int) := by
  have e : ((x.toNat : Int) % 128 * 9223372036854775808) = ((1 * 128 ^ 9 : Nat) : Int) := by rw [hx]; rfl
  rw [e, u64_or_nat _ _ (by omega) (by omega), or_add q _ 9 hq, hx]
theorem or_zero (q : Nat) (hq : q < 18446744073709551616) : bits BinOp.or IntKind.u64 (q : Int) 0 = (q : Int) := by
  have h := u64_or_nat q 0 hq (by decide)
  rw [Nat.or_zero] at h
  exact h
theorem andNot_zero : bits BinOp.andNot IntKind.u8 0 128 = 0 := u8_andNot_nat 0 128 (by decide) (by decide)
theorem ret3 {a b : Int} {s e : Value} (h : a = b) : Ending.returned (.tuple #[.int .u64 a, s, e]) = Ending.returned (.tuple #[.int .u64 b, s, e]) := by rw [h]

theorem val_one {q k : Nat} {x : UInt8} (hq : q < 128 ^ k) (h1 : 9 ≤ k) (h9 : k ≤ 9) (h2 : 1 ≤ x.toNat) (h3 : x.toNat ≤ 1) :
    bits BinOp.or IntKind.u64 (q : Int) ((x.toNat : Int) % 128 * 9223372036854775808) = ((q + x.toNat * 128 ^ k : Nat) : Int) := by
  obtain rfl : k = 9 := by omega
  exact or_nine q x hq (by omega)
theorem val_nil {q k : Nat} {x : UInt8} (hq : q < 128 ^ k) (h1 : k ≤ 0) (h3 : x.toNat ≤ 0) :
    bits BinOp.or IntKind.u64 (q : Int) 0 = ((q + x.toNat * 128 ^ k : Nat) : Int) := by
  obtain rfl : k = 0 := by omega
  have e : x.toNat = 0 := by omega
  rw [e, or_zero q (by omega)]
  simp
theorem val_last {q k : Nat} {x : UInt8} (hq : q < 128 ^ k) (h1 : k ≤ 8) (hx : x.toNat < 128) :
    bits BinOp.or IntKind.u64 (q : Int) (IntKind.u64.wrap ((x.toNat : Int) % 128 * 2 ^ (7 * k))) = ((q + x.toNat * 128 ^ k : Nat) : Int) := by
  rw [or_wrap q k x hq h1, Nat.mod_eq_of_lt hx]
theorem val_more {q k : Nat} {x : UInt8} (hq : q < 128 ^ k) (h1 : k ≤ 8) (hx : ¬ x.toNat < 128) :
    bits BinOp.or IntKind.u64 (q : Int) (IntKind.u64.wrap ((x.toNat : Int) % 128 * 2 ^ (7 * k))) = ((q + (x.toNat - 128) * 128 ^ k : Nat) : Int) := by
  have := x.toNat_lt
  rw [or_wrap q k x hq h1, show x.toNat % 128 = x.toNat - 128 by omega]
theorem more_lt {q k : Nat} {x : UInt8} (hq : q < 128 ^ k) : q + (x.toNat - 128) * 128 ^ k < 128 ^ (k + 1) := by
  have := x.toNat_lt
  have h : (x.toNat - 128) * 128 ^ k ≤ 127 * 128 ^ k := Nat.mul_le_mul_right _ (by omega)
  rw [Nat.pow_succ]
  omega

def GotVar (w : World) (l : List UInt8) (o : Nat × Nat × Nat) (e : Ending) (w' : World) : Prop :=
  (o.2.2 = 0 → ∃ A m c, e = .returned (.tuple #[.int .u64 (o.1 : Int), .slice A m c, .int .i64 0]) ∧ Row w' w.heap.size 5 A m c (l.drop o.2.1) ∧ Below w.heap.size w w') ∧
  (o.2.2 ≠ 0 → e = .returned (.tuple #[.int .u64 0, .slice none 0 0, .int .i64 (o.2.2 : Int)]) ∧ w = w')
theorem GotVar.good {w w' : World} {l : List UInt8} {o : Nat × Nat × Nat} {v n : Nat} {a : Int} {A : Option Addr} {m c : Nat} (h : o = (v, n, 0)) (ha : a = (v : Int)) (hr : Row w' w.heap.size 5 A m c (l.drop n)) (hb : Below w.heap.size w w') :
    GotVar w l o (.returned (.tuple #[.int .u64 a, .slice A m c, .int .i64 0])) w' := by
  subst h ha
  exact ⟨fun _ => ⟨_, _, _, rfl, hr, hb⟩, fun h => absurd rfl h⟩
theorem GotVar.bad {w : World} {l : List UInt8} {o : Nat × Nat × Nat} {e : Nat} {a : Int} (h : o = (0, 0, e)) (he : e ≠ 0) (ha : a = (e : Int)) :
    GotVar w l o (.returned (.tuple #[.int .u64 0, .slice none 0 0, .int .i64 a])) w := by
  subst h ha
  exact ⟨fun h => absurd h he, fun _ => ⟨rfl, rfl⟩⟩

set_option maxHeartbeats 2000000 in
theorem getVar_any (A : Option Addr) (c B : Nat) (l : List UInt8) (w : World) (hA : At w B A l) (hB : B ≤ w.heap.size) (hl : l.length ≤ 70368744177664) (hc : l.length ≤ c) :
    Calls Try.prog 45 #[.slice A l.length c] w (GotVar w l (rdv 0 0 l)) := by
  obtain ⟨o, ho⟩ : ∃ o, o = rdv 0 0 l := ⟨_, rfl⟩
  rw [← ho]
  have HR := hid ho
  clear ho
  go_enter Try.func45, Try.ntmps45
  go_wp2_with fail
  go_loop [5, 12] (fun u i => ∃ k q : Nat, k ≤ 9 ∧ k ≤ l.length ∧ q < 128 ^ k ∧ o = rdv k q (l.drop k) ∧ u = .int .u64 (q : Int) ∧ i = .int .i64 (k : Int)) (fun _ i => 20 - (intOf i).toNat)
  case atStart => exact ⟨0, 0, by omega, Nat.zero_le _, by simp, by simpa using HR.out, rfl, rfl⟩
  case round =>
    obtain ⟨k, q, hk9, hk, hq, hrd, rfl, rfl⟩ := hrel
    have HQ := hid hq
    have HD := hid hrd
    clear hq hrd
    by_cases hlt : k < l.length
    · have hex : ∃ x, l[k]? = some x := ⟨_, List.getElem?_eq_getElem (by omega)⟩
      obtain ⟨x, hx⟩ := hex
      obtain ⟨b, off, rfl, hb, hcell⟩ := hA (by omega)
      have hk1 := hcell k x hx
      have hdrop := hid (drop_cons hx)
      have hand := and128 x
      have hnot := andNot128 x
      have hz := andNot_zero
      clear hx hcell
      by_cases h128 : x.toNat < 128
      · rw [if_pos h128] at hand
        by_cases hf : k = 9 ∧ 1 < x.toNat ∨ x.toNat = 0 ∧ 0 < k
        · have HF := hid (HD.out.trans (by rw [hdrop.out, rdv_form hf]))
          have hways : (9 ≤ k ∧ 2 ≤ x.toNat) ∨ (k ≤ 8 ∧ 1 ≤ k ∧ x.toNat ≤ 0) ∨ (9 ≤ k ∧ x.toNat ≤ 0) := by omega
          clear hf
          rcases hways with ⟨h1, h2⟩ | ⟨h1, h2, h3⟩ | ⟨h1, h2⟩
          all_goals
            go_wp2_with fail
            go_ret3
            exact GotVar.bad HF.out (by decide) rfl
        · have HV := hid (HD.out.trans (by rw [hdrop.out, rdv_last hf h128]))
          have hcut := hA.cut (k := k + 1) hc
          have hways : (9 ≤ k ∧ 1 ≤ x.toNat ∧ x.toNat ≤ 1) ∨ (k ≤ 0 ∧ x.toNat ≤ 0) ∨ (k ≤ 8 ∧ 1 ≤ x.toNat) := by omega
          clear hf
          have hlen := hid (show (l.drop (k + 1)).length ≤ 70368744177664 by simp; omega)
          by_cases hcn : c = k + 1
          · rw [if_pos hcn] at hcut
            subst hcn
            have HC := hid hcut
            clear hcut hA
            rcases hways with ⟨h1, h2, h3⟩ | ⟨h1, h2⟩ | ⟨h1, h2⟩
            · have HVAL := hid (val_one HQ.out h1 hk9 h2 h3)
              go_wp2_with (go_at_call 47; refine (extend_len _ _ _ 0 B 0 (l.drop (k + 1)) w (by simp; try omega) rfl HC.out hB hlen.out (by omega)).mono ?_; rintro e w1 ⟨A', m', c', rfl, hrow, hbel⟩)
              go_ret3
              exact GotVar.good HV.out HVAL.out hrow hbel
            · have HVAL := hid (val_nil HQ.out h1 h2)
              go_wp2_with (go_at_call 47; refine (extend_len _ _ _ 0 B 0 (l.drop (k + 1)) w (by simp; try omega) rfl HC.out hB hlen.out (by omega)).mono ?_; rintro e w1 ⟨A', m', c', rfl, hrow, hbel⟩)
              go_ret3
              exact GotVar.good HV.out HVAL.out hrow hbel
            · have HVAL := hid (val_last HQ.out h1 h128)
              go_wp2_with (go_at_call 47; refine (extend_len _ _ _ 0 B 0 (l.drop (k + 1)) w (by simp; try omega) rfl HC.out hB hlen.out (by omega)).mono ?_; rintro e w1 ⟨A', m', c', rfl, hrow, hbel⟩)
              go_ret3
              exact GotVar.good HV.out HVAL.out hrow hbel
          · rw [if_neg hcn] at hcut
            have e2 : (⟨b, off, none⟩ : Addr).add (k + 1) = ⟨b, off + (k + 1), none⟩ := by unfold Addr.add; split <;> simp_all
            rw [Option.map_some, e2] at hcut
            have HC := hid hcut
            clear hcut hA e2
            rcases hways with ⟨h1, h2, h3⟩ | ⟨h1, h2⟩ | ⟨h1, h2⟩
            · have HVAL := hid (val_one HQ.out h1 hk9 h2 h3)
              go_wp2_with (go_at_call 47; refine (extend_len _ _ _ 0 B 0 (l.drop (k + 1)) w (by simp; try omega) rfl (by obtain rfl : k = 9 := (by omega); exact HC.out) hB hlen.out (by omega)).mono ?_; rintro e w1 ⟨A', m', c', rfl, hrow, hbel⟩)
              go_ret3
              exact GotVar.good HV.out HVAL.out hrow hbel
            · have HVAL := hid (val_nil HQ.out h1 h2)
              go_wp2_with (go_at_call 47; refine (extend_len _ _ _ 0 B 0 (l.drop (k + 1)) w (by simp; try omega) rfl HC.out hB hlen.out (by omega)).mono ?_; rintro e w1 ⟨A', m', c', rfl, hrow, hbel⟩)
              go_ret3
              exact GotVar.good HV.out HVAL.out hrow hbel
            · have HVAL := hid (val_last HQ.out h1 h128)
              go_wp2_with (go_at_call 47; refine (extend_len _ _ _ 0 B 0 (l.drop (k + 1)) w (by simp; try omega) rfl HC.out hB hlen.out (by omega)).mono ?_; rintro e w1 ⟨A', m', c', rfl, hrow, hbel⟩)
              go_ret3
              exact GotVar.good HV.out HVAL.out hrow hbel
      · rw [if_neg h128] at hand
        by_cases h9 : 9 ≤ k
        · have HF := hid (HD.out.trans (by rw [hdrop.out, rdv_form (by omega)]))
          go_wp2_with fail
          go_ret3
          exact GotVar.bad HF.out (by decide) rfl
        · have HF := hid (HD.out.trans (by rw [hdrop.out, rdv_more (by omega) h128]))
          have HV := hid (val_more HQ.out (by omega : k ≤ 8) h128)
          go_wp2_with fail
          go_round
          case rel => exact ⟨k + 1, _, by omega, by omega, more_lt HQ.out, HF.out, congrArg (Value.int .u64) HV.out, by go_num⟩
          case measure => simp [intOf]; omega
    · have HF := hid (HD.out.trans (by rw [List.drop_eq_nil_of_le (by omega)]))
      go_wp2_with fail
      go_ret3
      exact GotVar.bad HF.out (by decide) rfl

end Go.Proofs.Ytcodljegicoeeaa
