/-
  takeFlag, Count's closure: by their contracts.
-/
import Derived.Test.YtcodljegicoeeaaTakeText
namespace Go.Proofs.Ytcodljegicoeeaa
open Go Go.RowKit

theorem At.head {w : World} {B : Nat} {A : Option Addr} {x : UInt8} {l : List UInt8} (h : At w B A (x :: l)) : ∃ b off, A = some ⟨b, off, none⟩ ∧ b < B ∧ w.cell? ⟨b, off, none⟩ = some (.int .u8 (x.toNat : Int)) := by
  obtain ⟨b, off, e, hb, hc⟩ := h (by simp)
  exact ⟨b, off, e, hb, by simpa using hc 0 x rfl⟩

structure FlagTook (w : World) (r : Nat) (o : Bool × List UInt8 × Nat) (e : Ending) (w' : World) : Prop where
  val : ∃ b : Bool, e = .returned (.bool b) ∧ (o.2.2 = 0 → b = o.1)
  took : Took w w' r o.2.1 o.2.2
structure CountTook (w : World) (r : Nat) (o : Nat × List UInt8 × Nat) (e : Ending) (w' : World) : Prop where
  val : ∃ x : Int, e = .returned (.int .i64 x) ∧ (o.2.2 = 0 → x = (o.1 : Int))
  took : Took w w' r o.2.1 o.2.2

/-- what is known of a count -/
inductive Cnt (most : Int) (l : List UInt8) (n : Nat) (l1 : List UInt8) (e1 : Nat) : Nat × List UInt8 × Nat → Prop
  | bad (h0 : e1 ≠ 0) (hn : n = 0) : Cnt most l n l1 e1 (0, l, e1)
  | long (h0 : e1 = 0) (h1 : most < 0 ∨ most < (n : Int)) : Cnt most l n l1 e1 (0, l, 32)
  | good (h0 : e1 = 0) (h1 : 0 ≤ most) (h2 : (n : Int) ≤ most) : Cnt most l n l1 e1 (n, l1, 0)
theorem rcount_all (most : Int) (l : List UInt8) : Cnt most l (rnum l).1 (rnum l).2.1 (rnum l).2.2 (rcount most l) := by
  unfold rcount
  by_cases h0 : (rnum l).2.2 = 0
  · rw [if_neg (by simpa using h0)]
    by_cases h1 : most < 0 ∨ most < ((rnum l).1 : Int)
    · rw [if_pos h1]; exact .long h0 h1
    · rw [if_neg h1]; exact .good h0 (by omega) (by omega)
  · rw [if_pos (by simpa using h0)]
    exact .bad h0 (rnum_bad l h0).1

def MB (w : World) (q : Nat) (most : Int) : Prop := Blk w q 3 #[.int .i64 most]

set_option maxHeartbeats 2000000 in
theorem takeCount_any (f : FuncId) (hf : Fails f) (q q1 q2 r : Nat) (most : Int) (l : List UInt8) (w : World) (hr : Rd w r l 0) (hq : QB w q r) (hq1 : QB w q1 r) (hq2 : MB w q2 most) (hmost : -9223372036854775808 ≤ most ∧ most ≤ 9223372036854775807) :
    Calls Try.prog 39 #[.func (.func f) #[] #[.pointer (some ⟨q, 0, none⟩)], .pointer (some ⟨q1, 0, none⟩), .pointer (some ⟨q2, 0, none⟩)] w (CountTook w r (rcount most l)) := by
  have hen := hf.enters
  have hne := hr.ne hq
  have hne2 : r ≠ q2 := by obtain ⟨A, m, c, h1, _⟩ := hr.out; exact Blk.ne h1 hq2 (by decide)
  have HNE := hid hne
  have HNE2 := hid hne2
  have HQ := hid hq
  have HQ2 := hid hq2
  have q10 := QB.c0 hq1
  have HT := hid (takeNum_any f hf q r l w hr hq)
  have hlt := rnum_lt l
  have hN := rcount_all most l
  generalize rcount most l = o at hN ⊢
  have HT2 := HT.out
  generalize rnum l = p at hN hlt HT2
  obtain ⟨n, l1, e1⟩ := p
  dsimp only at hN hlt HT2
  clear HT hr hq hq1 hq2 hne hne2
  have hlt' : (n : Int) < 18446744073709551616 := by omega
  have HLT := hid hlt'
  have HMO := hid hmost
  clear hlt hlt' hmost
  have HT := hid HT2
  clear HT2
  cases hN with
  | bad h0 hn =>
    subst hn
    by_cases hm : most < 0
    · go_enter Try.func39, Try.ntmps39
      go_wp2_with fail
      go_fit HT.out
      rintro e w2 ⟨rfl, hr2, ho2⟩
      obtain ⟨A, m, c, hb, hrest⟩ := hr2.out
      have HB := hid hb
      have HO := hid ho2
      have HR := hid hr2
      have q20 : w2.cell? ⟨q2, 0, none⟩ = some (.int .i64 most) := Blk.cell (Blk.grown HQ2.out ho2 (fun e => HNE2.out (by injection e with e; exact e.symm))) 0
      have h0' : (e1 : Int) ≠ 0 := by omega
      have H0 := hid h0'
      clear hb hrest hr2 ho2 h0 h0'
      go_wp2_with fail
      go_fit (hf.again 32 q r A m c e1 w2 H0.out HB.out (HQ.out.only HO.out HNE.out))
      rintro e w4 ⟨rfl, rfl⟩
      go_wp2_with fail
      go_ret
      exact ⟨⟨_, rfl, fun h => absurd h (show e1 ≠ 0 by have := H0.out; omega)⟩, ⟨_, HR.out, fun h => absurd h (show e1 ≠ 0 by have := H0.out; omega)⟩, HO.out⟩
    · have hz : (0 : Int) ≤ most := by omega
      go_enter Try.func39, Try.ntmps39
      go_wp2_with fail
      go_fit HT.out
      rintro e w2 ⟨rfl, hr2, ho2⟩
      have HO := hid ho2
      have HR := hid hr2
      have q20 : w2.cell? ⟨q2, 0, none⟩ = some (.int .i64 most) := Blk.cell (Blk.grown HQ2.out ho2 (fun e => HNE2.out (by injection e with e; exact e.symm))) 0
      have hw : IntKind.u64.wrap most = most := by have := HMO.out; rw [IntKind.wrap_u64]; omega
      have H0 := hid h0
      clear hr2 ho2 h0
      go_wp2_with fail
      go_ret
      exact ⟨⟨_, rfl, fun h => absurd h H0.out⟩, ⟨_, HR.out, fun h => absurd h H0.out⟩, HO.out⟩
  | long h0 h1 =>
    subst h0
    have hways : most < 0 ∨ (0 ≤ most ∧ most < (n : Int)) := by omega
    clear h1
    rcases hways with hm | ⟨hm, hm2⟩
    all_goals
      have hw : IntKind.u64.wrap most = most ∨ most < 0 := by have := HMO.out; rw [IntKind.wrap_u64]; omega
      have HW := hid hw
      clear hw
      go_enter Try.func39, Try.ntmps39
      go_wp2_with fail
      go_fit HT.out
      rintro e w2 ⟨rfl, hr2, ho2⟩
      obtain ⟨A, m, c, hb, hm1, hc, hl70, hA⟩ := hr2.out
      have HB := hid hb
      have HO := hid ho2
      have HR := hid hr2
      have HM := hid hm1
      have HA := hid hA
      have HC := hid hc
      have H7 := hid hl70
      have q20 : w2.cell? ⟨q2, 0, none⟩ = some (.int .i64 most) := Blk.cell (Blk.grown HQ2.out ho2 (fun e => HNE2.out (by injection e with e; exact e.symm))) 0
      clear hb hm1 hA hr2 ho2 hc hl70
      first
        | (have hw : IntKind.u64.wrap most = most := by have := HMO.out; rw [IntKind.wrap_u64]; omega)
        | skip
      go_wp2_with fail
      go_fit (hf.first 32 q r A m c w2 HB.out (HQ.out.only HO.out HNE.out))
      rintro e w4 ⟨rfl, rfl⟩
      go_wp2_with fail
      go_ret
      exact ⟨⟨_, rfl, fun h => by cases h⟩, ⟨l1, ⟨_, _, _, HB.out.set1, HM.out, HC.out, H7.out, HA.out.setR _⟩, fun h => by cases h⟩, HO.out.set _⟩
  | good h0 h1 h2 =>
    subst h0
    have hw : IntKind.u64.wrap most = most := by have := HMO.out; rw [IntKind.wrap_u64]; omega
    have hn : IntKind.i64.wrap (n : Int) = (n : Int) := by have := HMO.out; rw [IntKind.wrap_i64]; omega
    go_enter Try.func39, Try.ntmps39
    go_wp2_with fail
    go_fit HT.out
    rintro e w2 ⟨rfl, hr2, ho2⟩
    have HO := hid ho2
    have HR := hid hr2
    have q20 : w2.cell? ⟨q2, 0, none⟩ = some (.int .i64 most) := Blk.cell (Blk.grown HQ2.out ho2 (fun e => HNE2.out (by injection e with e; exact e.symm))) 0
    clear hr2 ho2
    go_wp2_with fail
    go_ret
    exact ⟨⟨_, rfl, fun _ => rfl⟩, ⟨_, HR.out, fun _ => rfl⟩, HO.out⟩

end Go.Proofs.Ytcodljegicoeeaa
