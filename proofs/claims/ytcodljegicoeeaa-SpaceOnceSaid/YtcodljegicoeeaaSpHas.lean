/-
  exists, Has, turn, Claim, Free.
-/
import Derived.Test.YtcodljegicoeeaaSp
import Derived.Test.YtcodljegicoeeaaBase
import Derived.Deep.Cut
import Derived.BigQuiet
import Derived.StillTailTactics
namespace Go.Proofs.Ytcodljegicoeeaa
open Go Go.RowKit

theorem w64_bit (r : BitVec 64) (k : Nat) : (bits .and .u64 (w64 r / 2 ^ k) 1 == 1) = r.getLsbD k := by
  have h := r.isLt
  have e : w64 r / 2 ^ k = ((r.toNat / 2 ^ k : Nat) : Int) := by unfold w64; rw [Int.natCast_ediv, Int.natCast_pow]; rfl
  have hlt : r.toNat / 2 ^ k < 18446744073709551616 := Nat.lt_of_le_of_lt (Nat.div_le_self _ _) h
  rw [e, show (1 : Int) = ((1 : Nat) : Int) from rfl, u64_and_nat _ _ hlt (by decide), Nat.and_one_is_mod, BitVec.getLsbD, Nat.testBit_eq_decide_div_mod_eq, Bool.eq_iff_iff, beq_iff_eq, decide_eq_true_iff]
  exact Int.ofNat_inj
theorem w64_flip (r : BitVec 64) (k : Nat) : bits .xor .u64 (w64 r) (w64 (1#64 <<< k)) = w64 (r ^^^ (1#64 <<< k)) := by
  unfold w64
  rw [u64_xor_nat _ _ r.isLt (1#64 <<< k).isLt, BitVec.toNat_xor]

theorem w64_one (k : Nat) : IntKind.u64.wrap (2 ^ k) = w64 (1#64 <<< k) := by
  unfold w64
  rw [BitVec.toNat_shiftLeft, Nat.shiftLeft_eq]
  simp [IntKind.wrap, IntKind.bits, IntKind.signed]
theorem drew_set {w : World} {p : Addr} {u : Value} : Below (w.setCell p u).heap.size (w.setCell p u) (w.drew.setCell p u) := ⟨rfl, rfl, rfl, Nat.le_refl _, fun _ _ => rfl⟩

def inB (l : List Bool) (i : Int) : Bool := decide (0 ≤ i) && decide (i < (l.length : Int))
set_option maxHeartbeats 1000000 in
theorem exists_any {p : Nat} {l : List Bool} {w : World} (h : SpIn w p l) (i : Int) :
    Calls Try.prog 34 #[.pointer (some ⟨p, 0, none⟩), .int .i64 i] w fun e w' => e = .returned (.bool (inB l i)) ∧ w = w' := by
  have c0 := h.c0
  have HX := hid (show inB l i = (decide (0 ≤ i) && decide (i < (l.length : Int))) from rfl)
  by_cases h0 : 0 ≤ i
  · have h0' : ¬ i < 0 := by omega
    go_enter Try.func34, Try.ntmps34
    go_wp2_with fail
    go_ret
    exact ⟨by rw [HX.out]; simp [h0], rfl⟩
  · have h0' : i < 0 := by omega
    go_enter Try.func34, Try.ntmps34
    go_wp2_with fail
    go_ret
    exact ⟨by rw [HX.out, show decide (0 ≤ i) = false from decide_eq_false (by omega)]; rfl, rfl⟩

set_option maxHeartbeats 1000000 in
theorem has_in {p i : Nat} {l : List Bool} {w : World} (h : SpIn w p l) (hi : i < l.length) :
    Calls Try.prog 19 #[.pointer (some ⟨p, 0, none⟩), .int .i64 (i : Int)] w fun e w' => e = .returned (.bool (l.getD i false)) ∧ w = w' := by
  have hfew := h.few
  obtain ⟨r, c1, _, hb, _⟩ := h.word hi
  have HB := hid hb
  have HE := hid (exists_any h (i : Int))
  have hin : inB l (i : Int) = true := by unfold inB; simp; omega
  rw [hin] at HE
  have hi6 : i < 256 := by omega
  clear h hb hin hi hfew
  go_enter Try.func19, Try.ntmps19
  go_wp2_with fail
  go_fit HE.out
  rintro e w2 ⟨rfl, rfl⟩
  go_wp2_with fail
  go_ret
  rw [w64_bit, HB.out]
  exact ⟨rfl, rfl⟩
set_option maxHeartbeats 1000000 in
theorem has_out {p : Nat} {l : List Bool} {w : World} (h : SpIn w p l) {i : Int} (hi : inB l i = false) :
    Calls Try.prog 19 #[.pointer (some ⟨p, 0, none⟩), .int .i64 i] w fun e w' => e = .returned (.bool false) ∧ w = w' := by
  have HE := hid (exists_any h i)
  rw [hi] at HE
  clear h hi
  go_enter Try.func19, Try.ntmps19
  go_wp2_with fail
  go_fit HE.out
  rintro e w2 ⟨rfl, rfl⟩
  go_wp2_with fail
  go_ret
  exact ⟨rfl, rfl⟩
theorem inB_true {l : List Bool} {i : Int} (h : inB l i = true) : ∃ k : Nat, i = (k : Int) ∧ k < l.length := by
  unfold inB at h
  simp at h
  exact ⟨i.toNat, by omega, by omega⟩
theorem hasB_out {l : List Bool} {i : Int} (h : inB l i = false) : hasB l i = false := by
  unfold inB at h
  simp at h
  by_cases h0 : 0 ≤ i
  · exact hasB_far (h h0)
  · exact hasB_neg (by omega)
theorem has_any {p : Nat} {l : List Bool} {w : World} (h : SpIn w p l) (i : Int) :
    Calls Try.prog 19 #[.pointer (some ⟨p, 0, none⟩), .int .i64 i] w fun e w' => e = .returned (.bool (hasB l i)) ∧ w = w' := by
  cases hi : inB l i with
  | false => rw [hasB_out hi]; exact has_out h hi
  | true =>
    obtain ⟨k, rfl, hk⟩ := inB_true hi
    rw [hasB_nat]
    exact has_in h hk

/-- what a turn makes of a space -/
def turnB (l : List Bool) (i : Int) (b : Bool) : List Bool × Nat := if inB l i = true ∧ hasB l i ≠ b then (l.set i.toNat b, 0) else (l, 92)
set_option maxHeartbeats 1000000 in
theorem turn_no {p : Nat} {l : List Bool} {w : World} (h : SpIn w p l) (i : Int) (b : Bool) (hb : ¬ (inB l i = true ∧ hasB l i ≠ b)) :
    Calls Try.prog 35 #[.pointer (some ⟨p, 0, none⟩), .int .i64 i, .bool b] w fun e w' => e = .returned (.int .i64 92) ∧ w = w' := by
  have HE := hid (exists_any h i)
  have HH := hid (has_any h i)
  cases hi : inB l i with
  | false =>
    rw [hi] at HE
    clear h hb hi
    go_enter Try.func35, Try.ntmps35
    go_wp2_with fail
    go_fit HE.out
    rintro e w2 ⟨rfl, rfl⟩
    go_wp2_with fail
    go_ret
    exact ⟨rfl, rfl⟩
  | true =>
    have hbb : hasB l i = b := Classical.byContradiction fun e => hb ⟨hi, e⟩
    rw [hi] at HE
    rw [hbb] at HH
    clear h hb hi hbb
    go_enter Try.func35, Try.ntmps35
    go_wp2_with fail
    go_fit HE.out
    rintro e w2 ⟨rfl, rfl⟩
    go_wp2_with fail
    go_fit HH.out
    rintro e w2 ⟨rfl, rfl⟩
    go_wp2_with fail
    go_ret
    exact ⟨rfl, rfl⟩
set_option maxHeartbeats 1000000 in
theorem turn_yes {p i : Nat} {l : List Bool} {w : World} (h : SpIn w p l) (hi : i < l.length) (b : Bool) (hb : l.getD i false = !b) :
    Calls Try.prog 35 #[.pointer (some ⟨p, 0, none⟩), .int .i64 (i : Int), .bool b] w fun e w' => e = .returned (.int .i64 0) ∧ SpIn w' p (l.set i b) ∧ Only p w w' := by
  have hfew := h.few
  have HE := hid (exists_any h (i : Int))
  have hin : inB l (i : Int) = true := by unfold inB; simp; omega
  rw [hin] at HE
  have HH := hid (has_any h (i : Int))
  rw [hasB_nat, hb] at HH
  have hbb : ((!b) == b) = false := by cases b <;> rfl
  obtain ⟨r, c1, f1, hbit, hset⟩ := h.word hi
  obtain ⟨q, hq⟩ : ∃ q, i / 64 = q := ⟨_, rfl⟩
  rw [hq] at c1 f1 hset
  rw [hb, Bool.not_not] at hset
  have HS := hid hset
  have hi6 : i < 256 := by omega
  have hlt := h.lt
  clear hbit h hin hi hfew hset hb
  go_enter Try.func35, Try.ntmps35
  go_wp2_with fail
  go_fit HE.out
  rintro e w2 ⟨rfl, rfl⟩
  go_wp2_with fail
  go_fit HH.out
  rintro e w2 ⟨rfl, rfl⟩
  go_wp2_with fail
  have c1' : w.drew.cell? ⟨p, 1 + q, none⟩ = some (.int .u64 (w64 r)) := c1
  obtain ⟨j, hj⟩ : ∃ j, i % 64 = j := ⟨_, rfl⟩
  have hji : (i : Int).tmod 64 = (j : Int) := by rw [Int.tmod_eq_emod_of_nonneg (by omega)]; omega
  have hj6 : j < 64 := by omega
  rw [hj] at HS
  clear hj
  have hqi : (i : Int) / 64 = (q : Int) := by omega
  have hq4 : q < 4 := by omega
  clear hq
  have hwq : IntKind.i64.wrap (q : Int) = (q : Int) := IntWalk.i64_in _ ⟨by omega, by omega⟩
  have hwj : IntKind.i64.wrap (j : Int) = (j : Int) := IntWalk.i64_in _ ⟨by omega, by omega⟩
  have hq5 : (q : Int) < 4 := by omega
  go_still_tail 14, (by kernel_rfl)
  change wpList _ _ _ _ _ w.drew
  rw [w64_one, w64_flip]
  have f1' : w.drew.frozen? ⟨p, 1 + q, none⟩ = false := f1
  go_wp2_with fail
  go_ret
  exact ⟨rfl, HS.out.step drew_set, ((Only.refl p w).drew).set _⟩
theorem turn_any {p : Nat} {l : List Bool} {w : World} (h : SpIn w p l) (i : Int) (b : Bool) :
    Calls Try.prog 35 #[.pointer (some ⟨p, 0, none⟩), .int .i64 i, .bool b] w fun e w' => e = .returned (.int .i64 ((turnB l i b).2 : Int)) ∧ SpIn w' p (turnB l i b).1 ∧ Only p w w' := by
  unfold turnB
  by_cases hb : inB l i = true ∧ hasB l i ≠ b
  · rw [if_pos hb]
    obtain ⟨k, rfl, hk⟩ := inB_true hb.1
    have hb2 := hb.2
    rw [hasB_nat] at hb2
    exact turn_yes h hk b (by cases b <;> simpa using hb2)
  · rw [if_neg hb]
    refine (turn_no h i b hb).mono fun e w' ⟨e1, e2⟩ => ?_
    subst e2
    exact ⟨e1, h, Only.refl _ _⟩
set_option maxHeartbeats 1000000 in
theorem claim_any {p : Nat} {l : List Bool} {w : World} (h : SpIn w p l) (i : Int) :
    Calls Try.prog 20 #[.pointer (some ⟨p, 0, none⟩), .int .i64 i] w fun e w' => e = .returned (.int .i64 ((turnB l i true).2 : Int)) ∧ SpIn w' p (turnB l i true).1 ∧ Only p w w' := by
  have HT := hid (turn_any h i true)
  clear h
  go_enter Try.func20, Try.ntmps20
  go_wp2_with fail
  go_fit HT.out
  rintro e w2 ⟨rfl, h1, h2⟩
  go_wp2_with fail
  go_ret
  exact ⟨rfl, h1, h2⟩
set_option maxHeartbeats 1000000 in
theorem claim_no {p : Nat} {l : List Bool} {w : World} (h : SpIn w p l) (i : Int) (hb : ¬ (inB l i = true ∧ hasB l i ≠ true)) :
    Calls Try.prog 20 #[.pointer (some ⟨p, 0, none⟩), .int .i64 i] w fun e w' => e = .returned (.int .i64 92) ∧ w = w' := by
  have HT := hid (turn_no h i true hb)
  clear h hb
  go_enter Try.func20, Try.ntmps20
  go_wp2_with fail
  go_fit HT.out
  rintro e w2 ⟨rfl, rfl⟩
  go_wp2_with fail
  go_ret
  exact ⟨rfl, rfl⟩
set_option maxHeartbeats 1000000 in
theorem free_any {p : Nat} {l : List Bool} {w : World} (h : SpIn w p l) (i : Int) :
    Calls Try.prog 21 #[.pointer (some ⟨p, 0, none⟩), .int .i64 i] w fun e w' => e = .returned (.int .i64 ((turnB l i false).2 : Int)) ∧ SpIn w' p (turnB l i false).1 ∧ Only p w w' := by
  have HT := hid (turn_any h i false)
  clear h
  go_enter Try.func21, Try.ntmps21
  go_wp2_with fail
  go_fit HT.out
  rintro e w2 ⟨rfl, h1, h2⟩
  go_wp2_with fail
  go_ret
  exact ⟨rfl, h1, h2⟩

end Go.Proofs.Ytcodljegicoeeaa
