/-
  The closure that a reader's step tells of its errors: the first one stays. takeNum: by its contract. takeText, takeFlag, Count's closure: by their contracts. takeFlag, Count's closure: by their contracts. A reader's next field, of each kind: by contracts. A reader's calls: by their contracts. bytes.Clone; Read: by their contracts. A writer's calls: by their contracts. A writer's Num, Text, Flag, Bytes: by their contracts.
-/
import Derived.Test.YtngclmjefadokaaDoorJBytes
import Derived.Test.YtngclmjefadokaaDoorJVars
import Derived.StillTailTactics
import Derived.Laws.AppendOwn
import Derived.WalkSpells
import Derived.BigQuiet
import Derived.Deep.QuietTactic
namespace Go.Proofs.YtngclmjefadokaaDoor
open Go Go.RowKit

theorem enters_of {P : Program} {f : FuncId} {fn : Func} (hf : P.funcs[f]? = some fn) (hn : (fn.name == "runtime.NumGoroutine") = false) (hb : fn.body.isNone = false) (args : Array Value) (w : World) :
    (callFunc f args).run P w = .ok (.enter f args) w := by
  have h1 : fn.name ≠ "runtime.NumGoroutine" := by simpa using hn
  have h2 : ¬ fn.body = none := fun h => by rw [h] at hb; cases hb
  simp [callFunc, hf, h1, h2]

structure Fails (f : FuncId) : Prop where
  enters : ∀ (args : Array Value) (w : World), (callFunc f args).run Tryd.prog w = .ok (.enter f args) w
  first : ∀ (x : Int) (q r : Nat) (A : Option Addr) (m c : Nat) (w : World), RB w r A m c 0 → QB w q r →
    Calls Tryd.prog f #[.int .i64 x, .pointer (some ⟨q, 0, none⟩)] w fun e w' => e = .returned (.tuple #[]) ∧ w' = w.setCell ⟨r, 1, none⟩ (.int .i64 x)
  again : ∀ (x : Int) (q r : Nat) (A : Option Addr) (m c : Nat) (e : Int) (w : World), e ≠ 0 → RB w r A m c e → QB w q r →
    Calls Tryd.prog f #[.int .i64 x, .pointer (some ⟨q, 0, none⟩)] w fun e w' => e = .returned (.tuple #[]) ∧ w = w'

set_option maxHeartbeats 400000 in
theorem failsU : Fails 88 := by
  refine ⟨enters_of Tryd.func88 (by kernel_rfl) (by kernel_rfl), fun x q r A m c w hr hq => ?_, fun x q r A m c e w he hr hq => ?_⟩
  · have h0 := hr.c0
    have h1 := hr.c1
    have f1 := hr.f1
    have hq0 := hq.c0
    go_enter Tryd.func88, Tryd.ntmps88
    go_wp2
    go_end0
    exact ⟨rfl, rfl⟩
  · have h0 := hr.c0
    have h1 := hr.c1
    have hq0 := hq.c0
    have hb : (e == 0) = false := by simpa using he
    go_enter Tryd.func88, Tryd.ntmps88
    go_wp2
    go_end0
    exact ⟨rfl, rfl⟩

set_option maxHeartbeats 400000 in
theorem failsS : Fails 91 := by
  refine ⟨enters_of Tryd.func91 (by kernel_rfl) (by kernel_rfl), fun x q r A m c w hr hq => ?_, fun x q r A m c e w he hr hq => ?_⟩
  · have h0 := hr.c0
    have h1 := hr.c1
    have f1 := hr.f1
    have hq0 := hq.c0
    go_enter Tryd.func91, Tryd.ntmps91
    go_wp2
    go_end0
    exact ⟨rfl, rfl⟩
  · have h0 := hr.c0
    have h1 := hr.c1
    have hq0 := hq.c0
    have hb : (e == 0) = false := by simpa using he
    go_enter Tryd.func91, Tryd.ntmps91
    go_wp2
    go_end0
    exact ⟨rfl, rfl⟩

end Go.Proofs.YtngclmjefadokaaDoor

namespace Go.Proofs.YtngclmjefadokaaDoor
open Go Go.RowKit

theorem size_q (v : Nat) (w : World) (hv : v < 18446744073709551616) :
    Calls Tryd.prog 90 #[.int .u64 (v : Int)] w fun e w' => e = .returned (.int .i64 (vlen v : Int)) ∧ w' = w := (size_any v w hv).mono fun _ _ ⟨h1, h2⟩ => ⟨h1, h2.symm⟩
theorem min_of (m k : Nat) (h : k = min m 10) : min (m : Int) 10 = (k : Int) := by omega

set_option maxHeartbeats 2000000 in
set_option maxRecDepth 100000 in
theorem takeNum_any (f : FuncId) (hf : Fails f) (q r : Nat) (l : List UInt8) (w : World) (hr : Rd w r l 0) (hq : QB w q r) :
    Calls Tryd.prog 75 #[.pointer (some ⟨r, 0, none⟩), .func (.func f) #[] #[.pointer (some ⟨q, 0, none⟩)]] w fun e w' =>
      e = .returned (.int .u64 ((rnum l).1 : Int)) ∧ Rd w' r (rnum l).2.1 (rnum l).2.2 ∧ Only r w w' := by
  obtain ⟨A, m, c, hb, hm, hc, hl, hA⟩ := hr.out
  have hen := hf.enters
  have HB := hid hb
  have HM := hid hm
  have HA := hid hA
  have HQ := hid hq
  have HR := hid hr
  have hlt := Blk.lt hb
  have HL := hid hlt
  obtain ⟨k, hk⟩ : ∃ k, k = min m 10 := ⟨_, rfl⟩
  have hmin := min_of m k hk
  have hk0 : (0 : Int) ≤ (k : Int) := by omega
  have hkc : (k : Int) ≤ (c : Int) := by omega
  have HK := hid (show k = (l.take 10).length by rw [List.length_take, ← hm]; omega)
  have HL10 := hid (show (l.take 10).length ≤ 70368744177664 by rw [List.length_take]; omega)
  have hkc2 : k ≤ c := by omega
  have HC := hid hkc2
  have hc0 : ∀ W, Beyond w W → W.cell? ⟨r, 0, none⟩ = some (.slice A m c) := fun W hW => (hW.cell (p := ⟨r, 0, none⟩) HL.out).trans HB.out.c0
  have hN := rnum_all l
  generalize rnum l = o at hN ⊢
  have HN := hid hN
  clear hb hm hA hq hr hlt hk hkc2 hl hN
  obtain ⟨v, l', e⟩ := o
  have hout := HN.out
  cases hout with
  | good _ n h hn hl' hv hbk =>
    have Hh := hid h
    have Hn := hid hn
    obtain ⟨A', hsl, hA'⟩ := slice_from (n := vlen v) HA.out HM.out hc (by rw [HM.out, ← hn]; exact hl')
    have HA' := hid hA'
    clear hA' h hbk hn hl'
    go_enter Tryd.func75, Tryd.ntmps75
    go_wp2_with fail
    refine wp_region_held_drew (S := Beyond w) (by kernel_rfl) (Beyond.drew _) (fun hS => ?_)
    refine stT 0 hS ?_
    try simp only [putr]
    refine stT 1 hS ?_
    try simp only [putr]
    refine stT 2 hS ?_
    try simp only [putr]
    refine stT 3 hS ?_
    try simp only [putr]
    refine stT 4 hS ?_
    try simp only [putr]
    refine stT 5 hS ?_
    try simp only [putr]
    refine stT 6 hS ?_
    try simp only [putr]
    refine stT 7 hS ?_
    try simp only [putr]
    refine stT 8 hS ?_
    try simp only [putr]
    refine stT 9 hS ?_
    try simp only [putr]
    refine stT 10 hS ?_
    try simp only [putr]
    refine rdH [11] ?_
    refine rcH (fun K hK => ?_) AllReadyH.nil
    go_simp
    go_fit (getVar_is HK.out (by rw [rdv_take]; exact Hh.out) ((HA.out.take 10).below (hS.mono (by have := HL.out; omega))) (by have := hS.size; have := HL.out; omega) HL10.out HC.out)
    rintro e w2 ⟨A2, m2, c2, rfl, hr2, hb2⟩
    have hS11 := Beyond.step hS hb2
    refine hK.out _ _ (by assumption) (fun _ => ?_)
    clear hK K hS
    have hS := hS11
    try simp only [putr]
    refine stT 12 hS ?_
    try simp only [putr]
    refine stT 13 hS ?_
    try simp only [putr]
    refine stT 14 hS ?_
    try simp only [putr]
    refine stT 15 hS ?_
    try simp only [putr]
    refine stT 16 hS ?_
    try simp only [putr]
    refine stT 17 hS ?_
    try simp only [putr]
    refine stT 18 hS ?_
    try simp only [putr]
    refine wpAnyH_done (by kernel_rfl) ?_ _
    go_wp2_with fail
    refine wp_region_still_tail 10 (by kernel_rfl) (by kernel_rfl) ?_
    have hS3 := hid (Beyond.step hS11 ((Below.refl _ _).drew))
    change wpStill _ _ w2.drew (fun a' => wpList _ _ _ _ a' w2.drew) _ _
    generalize w2.drew = w3 at hS3 ⊢
    simp only [List.take_succ_cons, List.take_zero, List.drop_succ_cons, List.drop_zero]
    have h0 := hc0 w3 hS3.out
    have HB3 : RB w3 r A m c 0 := Blk.below HB.out hS3.out HL.out
    have f0 := HB3.f0
    repeat still_step
    still_call (size_q v w3 hv)
    repeat still_step
    try refine wpStill_nil ?_
    go_wp2_with fail
    go_ret
    have hs := hid (Hn.out)
    have hA3 : At w3 r A' (l.drop n) := by rw [hs.out]; exact HA'.out.below (hS3.out.mono (Nat.le_of_lt HL.out))
    refine ⟨rfl, ⟨_, _, _, HB3.set0, ?_, by omega, by have := (HR.out.out); rw [List.length_drop]; obtain ⟨_, _, _, _, _, _, h9, _⟩ := this; omega, hA3.setR _⟩, (Only.of_below hS3.out).set _⟩
    rw [List.length_drop, HM.out, hs.out]
  | short h =>
    have Hh := hid h
    clear h
    go_enter Tryd.func75, Tryd.ntmps75
    go_wp2_with fail
    refine wp_region_held_drew (S := Beyond w) (by kernel_rfl) (Beyond.drew _) (fun hS => ?_)
    refine stT 0 hS ?_
    try simp only [putr]
    refine stT 1 hS ?_
    try simp only [putr]
    refine stT 2 hS ?_
    try simp only [putr]
    refine stT 3 hS ?_
    try simp only [putr]
    refine stT 4 hS ?_
    try simp only [putr]
    refine stT 5 hS ?_
    try simp only [putr]
    refine stT 6 hS ?_
    try simp only [putr]
    refine stT 7 hS ?_
    try simp only [putr]
    refine stT 8 hS ?_
    try simp only [putr]
    refine stT 9 hS ?_
    try simp only [putr]
    refine stT 10 hS ?_
    try simp only [putr]
    refine rdH [11] ?_
    refine rcH (fun K hK => ?_) AllReadyH.nil
    go_simp
    go_fit (getVar_not (x := 10) HK.out (by rw [rdv_take]; exact Hh.out) (by decide) ((HA.out.take 10).below (hS.mono (by have := HL.out; omega))) (by have := hS.size; have := HL.out; omega) HL10.out HC.out)
    rintro e w2 ⟨rfl, rfl⟩
    have hS11 := hS
    refine hK.out _ _ (by assumption) (fun _ => ?_)
    clear hK K hS
    have hS := hS11
    try simp only [putr]
    refine stT 12 hS ?_
    try simp only [putr]
    refine stT 13 hS ?_
    try simp only [putr]
    refine stT 14 hS ?_
    try simp only [putr]
    refine stT 15 hS ?_
    try simp only [putr]
    refine stT 16 hS ?_
    try simp only [putr]
    refine stT 17 hS ?_
    try simp only [putr]
    refine stT 18 hS ?_
    try simp only [putr]
    refine wpAnyH_done (by kernel_rfl) ?_ _
    have hS3 := hid hS
    clear hS
    have h1 : RB w.drew r A m c 0 := Blk.below HB.out hS3.out HL.out
    go_wp2_with fail
    go_fit (hf.first 30 q r A m c w.drew h1 (Blk.below HQ.out hS3.out (Blk.lt HQ.out)))
    rintro e w4 ⟨rfl, rfl⟩
    go_wp2_with fail
    go_ret
    exact ⟨rfl, ⟨_, _, _, h1.set1, HM.out, hc, by obtain ⟨_, _, _, _, _, _, h9, _⟩ := HR.out.out; exact h9, (HA.out.below (hS3.out.mono (Nat.le_of_lt HL.out))).setR _⟩, (Only.of_below hS3.out).set _⟩
  | form h =>
    have Hh := hid h
    clear h
    go_enter Tryd.func75, Tryd.ntmps75
    go_wp2_with fail
    refine wp_region_held_drew (S := Beyond w) (by kernel_rfl) (Beyond.drew _) (fun hS => ?_)
    refine stT 0 hS ?_
    try simp only [putr]
    refine stT 1 hS ?_
    try simp only [putr]
    refine stT 2 hS ?_
    try simp only [putr]
    refine stT 3 hS ?_
    try simp only [putr]
    refine stT 4 hS ?_
    try simp only [putr]
    refine stT 5 hS ?_
    try simp only [putr]
    refine stT 6 hS ?_
    try simp only [putr]
    refine stT 7 hS ?_
    try simp only [putr]
    refine stT 8 hS ?_
    try simp only [putr]
    refine stT 9 hS ?_
    try simp only [putr]
    refine stT 10 hS ?_
    try simp only [putr]
    refine rdH [11] ?_
    refine rcH (fun K hK => ?_) AllReadyH.nil
    go_simp
    go_fit (getVar_not (x := 12) HK.out (by rw [rdv_take]; exact Hh.out) (by decide) ((HA.out.take 10).below (hS.mono (by have := HL.out; omega))) (by have := hS.size; have := HL.out; omega) HL10.out HC.out)
    rintro e w2 ⟨rfl, rfl⟩
    have hS11 := hS
    refine hK.out _ _ (by assumption) (fun _ => ?_)
    clear hK K hS
    have hS := hS11
    try simp only [putr]
    refine stT 12 hS ?_
    try simp only [putr]
    refine stT 13 hS ?_
    try simp only [putr]
    refine stT 14 hS ?_
    try simp only [putr]
    refine stT 15 hS ?_
    try simp only [putr]
    refine stT 16 hS ?_
    try simp only [putr]
    refine stT 17 hS ?_
    try simp only [putr]
    refine stT 18 hS ?_
    try simp only [putr]
    refine wpAnyH_done (by kernel_rfl) ?_ _
    have hS3 := hid hS
    clear hS
    have h1 : RB w.drew r A m c 0 := Blk.below HB.out hS3.out HL.out
    go_wp2_with fail
    go_fit (hf.first 12 q r A m c w.drew h1 (Blk.below HQ.out hS3.out (Blk.lt HQ.out)))
    rintro e w4 ⟨rfl, rfl⟩
    go_wp2_with fail
    go_ret
    exact ⟨rfl, ⟨_, _, _, h1.set1, HM.out, hc, by obtain ⟨_, _, _, _, _, _, h9, _⟩ := HR.out.out; exact h9, (HA.out.below (hS3.out.mono (Nat.le_of_lt HL.out))).setR _⟩, (Only.of_below hS3.out).set _⟩

end Go.Proofs.YtngclmjefadokaaDoor

namespace Go.Proofs.YtngclmjefadokaaDoor
open Go Go.RowKit

/-- what a step leaves: the reader somewhere, with what is wrong; where nothing is wrong, behind the field -/
structure Took (w w' : World) (r : Nat) (l' : List UInt8) (e : Nat) : Prop where
  some : ∃ l'', Rd w' r l'' e ∧ (e = 0 → l'' = l')
  only : Only r w w'

theorem QB.only {w w' : World} {q r r' : Nat} (h : QB w q r) (hb : Only r' w w') (hne : r' ≠ q) : QB w' q r := Blk.grown h hb (fun e => hne (by injection e with e; exact e.symm))
theorem Rd.ne {w : World} {r q r' e : Nat} {l : List UInt8} (h : Rd w r l e) (h' : QB w q r') : r ≠ q := by
  obtain ⟨A, m, c, h1, _⟩ := h.out
  exact RB.ne h1 h'

/-- what is known of a text -/
inductive Txt (l : List UInt8) (n : Nat) (l1 : List UInt8) (e1 : Nat) : List UInt8 × List UInt8 × Nat → Prop
  | take (h1 : n ≤ 65536) (h2 : n ≤ l1.length) (s l' : List UInt8) (hs : s = l1.take n) (hl : e1 = 0 → l' = l1.drop n) : Txt l n l1 e1 (s, l', e1)
  | long (h0 : e1 = 0) (h1 : 65536 < n) : Txt l n l1 e1 ([], l, 32)
  | short (h0 : e1 = 0) (h1 : n ≤ 65536) (h2 : l1.length < n) : Txt l n l1 e1 ([], l, 30)
theorem rtext_all (l : List UInt8) : Txt l (rnum l).1 (rnum l).2.1 (rnum l).2.2 (rtext l) := by
  unfold rtext
  by_cases h0 : (rnum l).2.2 = 0
  · rw [if_neg (by simpa using h0)]
    by_cases h1 : 65536 < (rnum l).1
    · rw [if_pos h1]; exact .long h0 h1
    · rw [if_neg h1]
      by_cases h2 : (rnum l).2.1.length < (rnum l).1
      · rw [if_pos h2]; exact .short h0 (by omega) h2
      · rw [if_neg h2]
        have h := Txt.take (l := l) (e1 := (rnum l).2.2) (Nat.le_of_not_lt h1) (Nat.le_of_not_lt h2) _ ((rnum l).2.1.drop (rnum l).1) rfl (fun _ => rfl)
        rw [h0] at h
        rw [h0]
        exact h
  · rw [if_pos (by simpa using h0)]
    obtain ⟨h1, h2⟩ := rnum_bad l h0
    exact .take (by omega) (by omega) _ _ (by rw [h1]; rfl) (fun h => absurd h h0)

theorem bst_nil : bst [] = ⟨#[]⟩ := rfl

set_option maxHeartbeats 2000000 in
theorem takeText_any (f : FuncId) (hf : Fails f) (q r : Nat) (l : List UInt8) (w : World) (hr : Rd w r l 0) (hq : QB w q r) :
    Calls Tryd.prog 77 #[.pointer (some ⟨r, 0, none⟩), .func (.func f) #[] #[.pointer (some ⟨q, 0, none⟩)]] w fun e w' =>
      e = .returned (.string (bst (rtext l).1)) ∧ Took w w' r (rtext l).2.1 (rtext l).2.2 := by
  have hen := hf.enters
  have hne := hr.ne hq
  have HNE := hid hne
  have HQ := hid hq
  have HT := hid (takeNum_any f hf q r l w hr hq)
  have hlt := rnum_lt l
  have hN := rtext_all l
  generalize rtext l = o at hN ⊢
  have HT2 := HT.out
  generalize rnum l = p at hN hlt HT2
  obtain ⟨n, l1, e1⟩ := p
  dsimp only at hN hlt HT2
  clear hr hq hne HT
  have hlt' : (n : Int) < 18446744073709551616 := by omega
  have HLT := hid hlt'
  clear hlt hlt'
  cases hN with
  | take h1 h2 s l' hs hl =>
    have HS := hid hs
    have HL := hid hl
    have HT := hid HT2
    clear hs hl HT2
    go_enter Tryd.func77, Tryd.ntmps77
    go_wp2_with fail
    go_fit HT.out
    rintro e w2 ⟨rfl, hr2, ho2⟩
    obtain ⟨A, m, c, hb, hm, hc, hl70, hA⟩ := hr2.out
    obtain ⟨A', hsl, hA'⟩ := slice_from (n := n) hA hm hc (by omega)
    have hcv : ∀ c', (convert 98 9 (.slice A n c')).run Tryd.prog w2 = .ok (.string (bst s)) w2 := fun c' => by rw [HS.out]; exact str_of (hA.take n) (by rw [List.length_take]; omega)
    have c0 := RB.c0 hb
    have f0 := RB.f0 hb
    have hmn : n ≤ m := by omega
    have hm70 : m ≤ 140737488351232 := by omega
    have HM := hid hm
    have HA' := hid hA'
    have HB := hid hb
    have HO := hid ho2
    have h7 := hid hl70
    clear hm hA hA' hb hr2 h2 hl70 ho2
    go_wp2_with fail
    go_ret
    refine ⟨rfl, ⟨l1.drop n, ⟨_, _, _, HB.out.set0, ?_, by omega, by have := h7.out; rw [List.length_drop]; omega, HA'.out.setR _⟩, fun h => (HL.out h).symm⟩, HO.out.set _⟩
    rw [List.length_drop, HM.out]
  | long h0 h1 =>
    obtain rfl : e1 = 0 := h0
    have HT := hid HT2
    clear HT2
    go_enter Tryd.func77, Tryd.ntmps77
    go_wp2_with fail
    go_fit HT.out
    rintro e w2 ⟨rfl, hr2, ho2⟩
    obtain ⟨A, m, c, hb, hm, hc, hl70, hA⟩ := hr2.out
    have HB := hid hb
    have HO := hid ho2
    have HR := hid hr2
    have HA := hid hA
    have HM := hid hm
    clear hb hr2 ho2 hA hm
    go_wp2_with fail
    go_fit (hf.first 32 q r A m c w2 HB.out (HQ.out.only HO.out HNE.out))
    rintro e w4 ⟨rfl, rfl⟩
    go_wp2_with fail
    go_ret
    exact ⟨rfl, ⟨l1, ⟨_, _, _, HB.out.set1, HM.out, hc, hl70, HA.out.setR _⟩, fun h => by cases h⟩, HO.out.set _⟩
  | short h0 h1 h2 =>
    obtain rfl : e1 = 0 := h0
    have HT := hid HT2
    clear HT2
    go_enter Tryd.func77, Tryd.ntmps77
    go_wp2_with fail
    go_fit HT.out
    rintro e w2 ⟨rfl, hr2, ho2⟩
    obtain ⟨A, m, c, hb, hm, hc, hl70, hA⟩ := hr2.out
    have HB := hid hb
    have HO := hid ho2
    have HR := hid hr2
    have HA := hid hA
    have HM := hid hm
    have hmn : m < n := by omega
    have hm70 : m ≤ 140737488351232 := by omega
    have c0 := RB.c0 hb
    have f0 := RB.f0 hb
    clear hb hr2 ho2 hA hm h2
    go_wp2_with fail
    go_fit (hf.first 30 q r A m c w2 HB.out (HQ.out.only HO.out HNE.out))
    rintro e w4 ⟨rfl, rfl⟩
    go_wp2_with fail
    go_ret
    exact ⟨rfl, ⟨l1, ⟨_, _, _, HB.out.set1, HM.out, hc, hl70, HA.out.setR _⟩, fun h => by cases h⟩, HO.out.set _⟩

end Go.Proofs.YtngclmjefadokaaDoor

namespace Go.Proofs.YtngclmjefadokaaDoor
open Go Go.RowKit

theorem At.head {w : World} {B : Nat} {A : Option Addr} {x : UInt8} {l : List UInt8} (h : At w B A (x :: l)) : ∃ b off, A = some ⟨b, off, none⟩ ∧ b < B ∧ w.cell? ⟨b, off, none⟩ = some (.int .u8 (x.toNat : Int)) := by
  obtain ⟨b, off, e, hb, hc⟩ := h (by simp)
  exact ⟨b, off, e, hb, by simpa using hc 0 x rfl⟩

structure FlagTook (w : World) (r : Nat) (o : Bool × List UInt8 × Nat) (e : Ending) (w' : World) : Prop where
  val : ∃ b : Bool, e = .returned (.bool b) ∧ (o.2.2 = 0 → b = o.1)
  took : Took w w' r o.2.1 o.2.2
structure CountTook (w : World) (r : Nat) (o : Nat × List UInt8 × Nat) (e : Ending) (w' : World) : Prop where
  val : ∃ x : Int, e = .returned (.int .i64 x) ∧ (o.2.2 = 0 → x = (o.1 : Int))
  took : Took w w' r o.2.1 o.2.2

/-- what is known of a count -/
inductive Cnt (most : Int) (l : List UInt8) (n : Nat) (l1 : List UInt8) (e1 : Nat) : Nat × List UInt8 × Nat → Prop
  | bad (h0 : e1 ≠ 0) (hn : n = 0) : Cnt most l n l1 e1 (0, l, e1)
  | long (h0 : e1 = 0) (h1 : most < 0 ∨ most < (n : Int)) : Cnt most l n l1 e1 (0, l, 32)
  | good (h0 : e1 = 0) (h1 : 0 ≤ most) (h2 : (n : Int) ≤ most) : Cnt most l n l1 e1 (n, l1, 0)
theorem rcount_all (most : Int) (l : List UInt8) : Cnt most l (rnum l).1 (rnum l).2.1 (rnum l).2.2 (rcount most l) := by
  unfold rcount
  by_cases h0 : (rnum l).2.2 = 0
  · rw [if_neg (by simpa using h0)]
    by_cases h1 : most < 0 ∨ most < ((rnum l).1 : Int)
    · rw [if_pos h1]; exact .long h0 h1
    · rw [if_neg h1]; exact .good h0 (by omega) (by omega)
  · rw [if_pos (by simpa using h0)]
    exact .bad h0 (rnum_bad l h0).1

def MB (w : World) (q : Nat) (most : Int) : Prop := Blk w q 3 #[.int .i64 most]

end Go.Proofs.YtngclmjefadokaaDoor

namespace Go.Proofs.YtngclmjefadokaaDoor
open Go Go.RowKit

theorem rtext_bad (l : List UInt8) (h : (rtext l).2.2 ≠ 0) : (rtext l).1 = [] ∧ (rtext l).2.1 = l := by
  unfold rtext at h ⊢
  by_cases h0 : (rnum l).2.2 = 0
  · rw [if_neg (by simpa using h0)] at h ⊢
    by_cases h1 : 65536 < (rnum l).1
    · rw [if_pos h1]; exact ⟨rfl, rfl⟩
    · rw [if_neg h1] at h ⊢
      by_cases h2 : (rnum l).2.1.length < (rnum l).1
      · rw [if_pos h2]; exact ⟨rfl, rfl⟩
      · rw [if_neg h2] at h; exact absurd rfl h
  · rw [if_pos (by simpa using h0)]; exact ⟨rfl, rfl⟩
theorem rflag_bad (l : List UInt8) (h : (rflag l).2.2 ≠ 0) : (rflag l).1 = false ∧ (rflag l).2.1 = l := by
  rcases l with _ | ⟨x, l⟩
  · exact ⟨rfl, rfl⟩
  · simp only [rflag] at h ⊢
    by_cases h1 : 1 < x.toNat
    · rw [if_pos h1]; exact ⟨rfl, rfl⟩
    · rw [if_neg h1] at h; exact absurd rfl h
theorem rcount_bad (most : Int) (l : List UInt8) (h : (rcount most l).2.2 ≠ 0) : (rcount most l).1 = 0 ∧ (rcount most l).2.1 = l := by
  unfold rcount at h ⊢
  by_cases h0 : (rnum l).2.2 = 0
  · rw [if_neg (by simpa using h0)] at h ⊢
    by_cases h1 : most < 0 ∨ most < ((rnum l).1 : Int)
    · rw [if_pos h1]; exact ⟨rfl, rfl⟩
    · rw [if_neg h1] at h; exact absurd rfl h
  · rw [if_pos (by simpa using h0)]; exact ⟨rfl, rfl⟩

set_option maxHeartbeats 2000000 in
theorem next_num (r : Nat) (l : List UInt8) (w : World) (hr : Rd w r l 0) (o : _) (ho : rnum l = o) :
    Calls Tryd.prog 74 #[.pointer (some ⟨r, 0, none⟩), .func (.func 75) #[.pointer (some ⟨r, 0, none⟩)] #[]] w fun e w' =>
      e = .returned (.int .u64 (o.1 : Int)) ∧ Rd w' r o.2.1 o.2.2 ∧ Only r w w' := by
  have HB1 : Below w.heap.size w (w.alloc (.cells #[.pointer (some ⟨r, 0, none⟩)] 123)) := (Below.refl _ _).alloc (Nat.le_refl _) _
  have HT0 := takeNum_any 88 failsU w.heap.size r l _ (hr.step HB1) (Blk.new w _ _)
  rw [ho] at HT0
  have HT := hid HT0
  clear HT0
  obtain ⟨A, m, c, hb, hm, hc, hl70, hA⟩ := hr.out
  have hrlt := hr.lt
  have hrs : r ≠ w.heap.size := by omega
  have HRS := hid hrs
  have c0 := RB.c0 hb
  have c1 := RB.c1 hb
  have HB := hid hb
  have HM := hid hm
  have HA := hid hA
  have HL := hid hl70
  have HC := hid hc
  have HBB := hid HB1
  have H1 := hid (Only.of_below (r := r) HB1)
  have HLT := hid hrlt
  have HBAD := hid (fun h : o.2.2 ≠ 0 => (ho ▸ rnum_bad l (by rw [ho]; exact h) : _))
  clear hb hm hA hl70 hc ho hr hrs HB1
  by_cases hE : o.2.2 = 0
  · have HE := hid hE
    clear hE
    go_enter Tryd.func74, Tryd.ntmps74
    go_wp2_with fail
    go_fit HT.out
    rintro e w2 ⟨rfl, hr2, ho2⟩
    have ht : Took _ w2 r o.2.1 o.2.2 := ⟨⟨_, hr2, fun _ => rfl⟩, ho2⟩
    clear hr2 ho2
    obtain ⟨l2, hr2, hl2⟩ := ht.some
    obtain rfl := hl2 HE.out
    have HO := hid ht.only
    have HR := hid hr2
    obtain ⟨A2, m2, c2, hb2, hrest⟩ := hr2.out
    rw [HE.out] at hb2
    have d1 := RB.c1 hb2
    have q0 : w2.cell? ⟨w.heap.size, 0, none⟩ = some (.pointer (some ⟨r, 0, none⟩)) := Blk.cell (Blk.grown (Blk.new w _ _) HO.out (fun e => HRS.out (by injection e with e; exact e.symm))) 0
    clear hb2 hrest hr2 ht hl2
    go_wp2_with fail
    go_ret
    exact ⟨rfl, HR.out, H1.out.trans HO.out⟩
  · have hE1 : ((o.2.2 : Int) != 0) = true := by simpa using hE
    have Z := hid (HBAD.out hE)
    have HE := hid hE
    clear hE
    go_enter Tryd.func74, Tryd.ntmps74
    go_wp2_with fail
    go_fit HT.out
    rintro e w2 ⟨rfl, hr2, ho2⟩
    have ht : Took _ w2 r o.2.1 o.2.2 := ⟨⟨_, hr2, fun _ => rfl⟩, ho2⟩
    clear hr2 ho2
    obtain ⟨l2, hr2, hl2⟩ := ht.some
    have HO := hid ht.only
    obtain ⟨A2, m2, c2, hb2, hrest⟩ := hr2.out
    have d1 := RB.c1 hb2
    have d0 := RB.c0 hb2
    have f0 := RB.f0 hb2
    have HB2 := hid hb2
    have q0 : w2.cell? ⟨w.heap.size, 0, none⟩ = some (.pointer (some ⟨r, 0, none⟩)) := Blk.cell (Blk.grown (Blk.new w _ _) HO.out (fun e => HRS.out (by injection e with e; exact e.symm))) 0
    clear hb2 hrest hr2 ht hl2
    go_wp2_with fail
    go_ret
    refine ⟨by rw [Z.out.1]; rfl, ?_, (H1.out.trans HO.out).set _⟩
    rw [Z.out.2]
    exact ⟨_, _, _, HB2.out.set0, HM.out, HC.out, HL.out, ((HA.out.below (HBB.out.mono (Nat.le_of_lt HLT.out))).only HO.out (Nat.le_refl _) (by have := HLT.out; simp; omega)).setR _⟩

set_option maxHeartbeats 2000000 in
theorem next_num_not (r e0 : Nat) (l : List UInt8) (w : World) (hr : Rd w r l e0) (he : e0 ≠ 0) :
    Calls Tryd.prog 74 #[.pointer (some ⟨r, 0, none⟩), .func (.func 75) #[.pointer (some ⟨r, 0, none⟩)] #[]] w fun e w' =>
      e = .returned (.int .u64 0) ∧ Rd w' r l e0 ∧ Only r w w' := by
  obtain ⟨A, m, c, hb, hrest⟩ := hr.out
  have hrlt := hr.lt
  have c1 := RB.c1 hb
  have hE1 : ((e0 : Int) != 0) = true := by simpa using he
  have HB1 := hid (show Below w.heap.size w (w.alloc (.cells #[.pointer (some ⟨r, 0, none⟩)] 123)) from (Below.refl _ _).alloc (Nat.le_refl _) _)
  have HR := hid hr
  clear hb hrest he hr
  go_enter Tryd.func74, Tryd.ntmps74
  go_wp2_with fail
  go_ret
  exact ⟨rfl, HR.out.step HB1.out, Only.of_below HB1.out⟩

set_option maxHeartbeats 2000000 in
theorem next_text (r : Nat) (l : List UInt8) (w : World) (hr : Rd w r l 0) (o : _) (ho : rtext l = o) :
    Calls Tryd.prog 76 #[.pointer (some ⟨r, 0, none⟩), .func (.func 77) #[.pointer (some ⟨r, 0, none⟩)] #[]] w fun e w' =>
      e = .returned (.string (bst o.1)) ∧ Rd w' r o.2.1 o.2.2 ∧ Only r w w' := by
  have HB1 : Below w.heap.size w (w.alloc (.cells #[.pointer (some ⟨r, 0, none⟩)] 123)) := (Below.refl _ _).alloc (Nat.le_refl _) _
  have HT0 := takeText_any 91 failsS w.heap.size r l _ (hr.step HB1) (Blk.new w _ _)
  rw [ho] at HT0
  have HT := hid HT0
  clear HT0
  obtain ⟨A, m, c, hb, hm, hc, hl70, hA⟩ := hr.out
  have hrlt := hr.lt
  have hrs : r ≠ w.heap.size := by omega
  have HRS := hid hrs
  have c0 := RB.c0 hb
  have c1 := RB.c1 hb
  have HB := hid hb
  have HM := hid hm
  have HA := hid hA
  have HL := hid hl70
  have HC := hid hc
  have HBB := hid HB1
  have H1 := hid (Only.of_below (r := r) HB1)
  have HLT := hid hrlt
  have HBAD := hid (fun h : o.2.2 ≠ 0 => (ho ▸ rtext_bad l (by rw [ho]; exact h) : _))
  clear hb hm hA hl70 hc ho hr hrs HB1
  by_cases hE : o.2.2 = 0
  · have HE := hid hE
    clear hE
    go_enter Tryd.func76, Tryd.ntmps76
    go_wp2_with fail
    go_fit HT.out
    rintro e w2 ⟨rfl, ht⟩
    skip
    obtain ⟨l2, hr2, hl2⟩ := ht.some
    obtain rfl := hl2 HE.out
    have HO := hid ht.only
    have HR := hid hr2
    obtain ⟨A2, m2, c2, hb2, hrest⟩ := hr2.out
    rw [HE.out] at hb2
    have d1 := RB.c1 hb2
    have q0 : w2.cell? ⟨w.heap.size, 0, none⟩ = some (.pointer (some ⟨r, 0, none⟩)) := Blk.cell (Blk.grown (Blk.new w _ _) HO.out (fun e => HRS.out (by injection e with e; exact e.symm))) 0
    clear hb2 hrest hr2 ht hl2
    go_wp2_with fail
    go_ret
    exact ⟨rfl, HR.out, H1.out.trans HO.out⟩
  · have hE1 : ((o.2.2 : Int) != 0) = true := by simpa using hE
    have Z := hid (HBAD.out hE)
    have HE := hid hE
    clear hE
    go_enter Tryd.func76, Tryd.ntmps76
    go_wp2_with fail
    go_fit HT.out
    rintro e w2 ⟨rfl, ht⟩
    skip
    obtain ⟨l2, hr2, hl2⟩ := ht.some
    have HO := hid ht.only
    obtain ⟨A2, m2, c2, hb2, hrest⟩ := hr2.out
    have d1 := RB.c1 hb2
    have d0 := RB.c0 hb2
    have f0 := RB.f0 hb2
    have HB2 := hid hb2
    have q0 : w2.cell? ⟨w.heap.size, 0, none⟩ = some (.pointer (some ⟨r, 0, none⟩)) := Blk.cell (Blk.grown (Blk.new w _ _) HO.out (fun e => HRS.out (by injection e with e; exact e.symm))) 0
    clear hb2 hrest hr2 ht hl2
    go_wp2_with fail
    go_ret
    refine ⟨by rw [Z.out.1]; rfl, ?_, (H1.out.trans HO.out).set _⟩
    rw [Z.out.2]
    exact ⟨_, _, _, HB2.out.set0, HM.out, HC.out, HL.out, ((HA.out.below (HBB.out.mono (Nat.le_of_lt HLT.out))).only HO.out (Nat.le_refl _) (by have := HLT.out; simp; omega)).setR _⟩

set_option maxHeartbeats 2000000 in
theorem next_text_not (r e0 : Nat) (l : List UInt8) (w : World) (hr : Rd w r l e0) (he : e0 ≠ 0) :
    Calls Tryd.prog 76 #[.pointer (some ⟨r, 0, none⟩), .func (.func 77) #[.pointer (some ⟨r, 0, none⟩)] #[]] w fun e w' =>
      e = .returned (.string (bst [])) ∧ Rd w' r l e0 ∧ Only r w w' := by
  obtain ⟨A, m, c, hb, hrest⟩ := hr.out
  have hrlt := hr.lt
  have c1 := RB.c1 hb
  have hE1 : ((e0 : Int) != 0) = true := by simpa using he
  have HB1 := hid (show Below w.heap.size w (w.alloc (.cells #[.pointer (some ⟨r, 0, none⟩)] 123)) from (Below.refl _ _).alloc (Nat.le_refl _) _)
  have HR := hid hr
  clear hb hrest he hr
  go_enter Tryd.func76, Tryd.ntmps76
  go_wp2_with fail
  go_ret
  exact ⟨rfl, HR.out.step HB1.out, Only.of_below HB1.out⟩

end Go.Proofs.YtngclmjefadokaaDoor

namespace Go.Proofs.YtngclmjefadokaaDoor
open Go Go.RowKit

set_option maxHeartbeats 1000000 in
theorem get_num (r : Nat) (l : List UInt8) (w : World) (hr : Rd w r l 0) :
    Calls Tryd.prog 58 #[.pointer (some ⟨r, 0, none⟩)] w fun e w' =>
      e = .returned (.int .u64 ((rnum l).1 : Int)) ∧ Rd w' r (rnum l).2.1 (rnum l).2.2 ∧ Only r w w' := by
  have H := hid (next_num r l w hr _ rfl) -- of 74
  clear hr
  go_enter Tryd.func58, Tryd.ntmps58
  go_wp2_with fail
  go_fit H.out
  rintro e w2 ⟨rfl, h1, h2⟩
  go_wp2_with fail
  go_ret
  exact ⟨rfl, h1, h2⟩
set_option maxHeartbeats 1000000 in
theorem get_num_not (r e0 : Nat) (l : List UInt8) (w : World) (hr : Rd w r l e0) (he : e0 ≠ 0) :
    Calls Tryd.prog 58 #[.pointer (some ⟨r, 0, none⟩)] w fun e w' =>
      e = .returned (.int .u64 0) ∧ Rd w' r l e0 ∧ Only r w w' := by
  have H := hid (next_num_not r e0 l w hr he) -- of 74
  clear hr he
  go_enter Tryd.func58, Tryd.ntmps58
  go_wp2_with fail
  go_fit H.out
  rintro e w2 ⟨rfl, h1, h2⟩
  go_wp2_with fail
  go_ret
  exact ⟨rfl, h1, h2⟩

set_option maxHeartbeats 1000000 in
theorem get_text (r : Nat) (l : List UInt8) (w : World) (hr : Rd w r l 0) :
    Calls Tryd.prog 59 #[.pointer (some ⟨r, 0, none⟩)] w fun e w' =>
      e = .returned (.string (bst (rtext l).1)) ∧ Rd w' r (rtext l).2.1 (rtext l).2.2 ∧ Only r w w' := by
  have H := hid (next_text r l w hr _ rfl) -- of 76
  clear hr
  go_enter Tryd.func59, Tryd.ntmps59
  go_wp2_with fail
  go_fit H.out
  rintro e w2 ⟨rfl, h1, h2⟩
  go_wp2_with fail
  go_ret
  exact ⟨rfl, h1, h2⟩
set_option maxHeartbeats 1000000 in
theorem get_text_not (r e0 : Nat) (l : List UInt8) (w : World) (hr : Rd w r l e0) (he : e0 ≠ 0) :
    Calls Tryd.prog 59 #[.pointer (some ⟨r, 0, none⟩)] w fun e w' =>
      e = .returned (.string (bst [])) ∧ Rd w' r l e0 ∧ Only r w w' := by
  have H := hid (next_text_not r e0 l w hr he) -- of 76
  clear hr he
  go_enter Tryd.func59, Tryd.ntmps59
  go_wp2_with fail
  go_fit H.out
  rintro e w2 ⟨rfl, h1, h2⟩
  go_wp2_with fail
  go_ret
  exact ⟨rfl, h1, h2⟩

/-- what End says -/
def endOf (l : List UInt8) (e : Nat) : Nat := if e = 0 ∧ 0 < l.length then 31 else e
set_option maxHeartbeats 1000000 in
theorem end_any (r e0 : Nat) (l : List UInt8) (w : World) (hr : Rd w r l e0) :
    Calls Tryd.prog 60 #[.pointer (some ⟨r, 0, none⟩)] w fun e w' => e = .returned (.int .i64 (endOf l e0 : Int)) ∧ w = w' := by
  obtain ⟨A, m, c, hb, hm, hc, hl70, hA⟩ := hr.out
  have c1 := RB.c1 hb
  have c0 := RB.c0 hb
  by_cases h0 : e0 = 0
  · subst h0
    by_cases h1 : 0 < l.length
    · have e : endOf l 0 = 31 := by unfold endOf; rw [if_pos ⟨rfl, h1⟩]
      rw [e]
      have hm1 : 0 < m := by omega
      have hi : (0 : Int) < (m : Int) := by omega
      clear hr hb hm hA
      go_enter Tryd.func60, Tryd.ntmps60
      go_wp2_with fail
      go_ret
      exact ⟨rfl, rfl⟩
    · have e : endOf l 0 = 0 := by unfold endOf; rw [if_neg (by omega)]
      rw [e]
      obtain rfl : m = 0 := by omega
      clear hr hb hm hA
      go_enter Tryd.func60, Tryd.ntmps60
      go_wp2_with fail
      go_ret
      exact ⟨rfl, rfl⟩
  · have e : endOf l e0 = e0 := by unfold endOf; rw [if_neg (by omega)]
    rw [e]
    have hE : ((e0 : Int) == 0) = false := by simpa using h0
    clear hr hb hm hA h0
    go_enter Tryd.func60, Tryd.ntmps60
    go_wp2_with fail
    go_ret
    exact ⟨rfl, rfl⟩

end Go.Proofs.YtngclmjefadokaaDoor

namespace Go.Proofs.YtngclmjefadokaaDoor
open Go Go.RowKit

theorem row_nil (w : World) (base : Nat) (e : TypeId) (c : Nat) (h : c = 0) : Row w base e none 0 c [] := by subst h; exact ⟨rfl, rfl, .inl ⟨rfl, rfl⟩⟩

set_option maxHeartbeats 1000000 in
theorem clone_any {A : Option Addr} {m c B : Nat} {l : List UInt8} {w : World} (hA : At w B A l) (hm : m = l.length) (hB : B ≤ w.heap.size) (hl : l.length ≤ 140737488351232) :
    Calls Tryd.prog 73 #[.slice A m c] w fun e w' => ∃ A' m' c', e = .returned (.slice A' m' c') ∧ Row w' w.heap.size 5 A' m' c' l ∧ Below w.heap.size w w' := by
  obtain ⟨i0, hi, hz0, hz1, hz2⟩ := info_parts info_byte
  rcases A with _ | ad
  · have hn : l = [] := by
      rcases l with _ | ⟨x, l⟩
      · rfl
      · obtain ⟨_, _, h, _⟩ := hA (by simp)
        cases h
    subst hn
    have heq : ∀ W, (binOp .eql 98 (.slice none m c) (.slice none 0 0)).run Tryd.prog W = .ok (.bool true) W := fun W => Lib.run_eql_slice_nil (P := Tryd.prog) W 98 5 none m c 0 0 Tryd.underlying98
    clear hm hA
    go_enter Tryd.func73, Tryd.ntmps73
    go_wp2_with fail
    go_ret
    exact ⟨none, 0, 0, rfl, row_nil _ _ _ _ rfl, Below.refl _ _⟩
  · have heq : ∀ W, (binOp .eql 98 (.slice (some ad) m c) (.slice none 0 0)).run Tryd.prog W = .ok (.bool false) W := fun W => Lib.run_eql_slice_nil (P := Tryd.prog) W 98 5 (some ad) m c 0 0 Tryd.underlying98
    have HI := hid hi
    have HZ0 := hid hz0
    have HZ1 := hid hz1
    have HZ2 := hid hz2
    have HM := hid hm
    have HA := hid hA
    clear hi hz0 hz1 hz2 hm hA
    go_enter Tryd.func73, Tryd.ntmps73
    go_wp2_with (at_builtin; go_must (refine wpList_append_bs _ rfl _ _ _ rfl w.heap.size 5 i0 Tryd.underlying98 HI.out HZ0.out HZ1.out HZ2.out (.slice (some ⟨w.heap.size, 0, none⟩) 0 0) [] l rfl (own_empty w _) (some ad) m c rfl HM.out ?pos ?len ?base ?_))
    case pos => exact (HA.out.below ((Below.refl _ _).alloc hB _)).more (by simp; omega)
    case len => simp; omega
    case base => simp
    intro A' c' w' hown hg _
    have hb : Below w.heap.size w w' := ((Below.refl w.heap.size w).alloc (Nat.le_refl _) _).grown hg (by simp) (fun k hk => by simp [Value.ownBlock] at hk; omega)
    go_wp2_with fail
    go_ret
    exact ⟨_, _, _, rfl, ⟨rfl, hown⟩, hb⟩

structure IsRd (w : World) (l : List UInt8) (e : Ending) (w' : World) : Prop where
  out : ∃ r, e = .returned (.pointer (some ⟨r, 0, none⟩)) ∧ Rd w' r l 0 ∧ w.heap.size ≤ r ∧ Below w.heap.size w w'
set_option maxHeartbeats 1000000 in
theorem read_any {A : Option Addr} {m c B : Nat} {l : List UInt8} {w : World} (hA : At w B A l) (hm : m = l.length) (hB : B ≤ w.heap.size) (hl : l.length ≤ 140737488351232) :
    Calls Tryd.prog 57 #[.slice A m c] w (IsRd w l) := by
  have H := hid (clone_any (c := c) hA hm hB hl)
  have HL := hid hl
  clear hA hm hl
  go_enter Tryd.func57, Tryd.ntmps57
  go_wp2_with fail
  go_fit H.out
  rintro e w2 ⟨A', m', c', rfl, h1, h2⟩
  have HR := hid h1
  have HB := hid h2
  clear h1 h2
  go_wp2_with fail
  go_ret
  exact ⟨_, rfl, ⟨_, _, _, Blk.new w2 _ _, HR.out.1, row_cap HR.out, HL.out, HR.out.at_.keep fun p hp => World.cell?_alloc_lt w2 _ p hp⟩, HB.out.size, HB.out.alloc HB.out.size _⟩

end Go.Proofs.YtngclmjefadokaaDoor

namespace Go.Proofs.YtngclmjefadokaaDoor
open Go Go.RowKit

/-- a writer: the bytes of its fields, in a row of its own, and what went wrong first -/
def WB (w : World) (p : Nat) (A : Option Addr) (m c : Nat) (e : Int) : Prop := Blk w p 150 #[.slice A m c, .int .i64 e]
structure Wr (w : World) (base p : Nat) (l : List UInt8) (e : Nat) : Prop where
  out : ∃ A m c, WB w p A m c (e : Int) ∧ Row w base 5 A m c l ∧ base ≤ p
theorem WB.c0 {w : World} {p m c : Nat} {A : Option Addr} {e : Int} (h : WB w p A m c e) : w.cell? ⟨p, 0, none⟩ = some (.slice A m c) := Blk.cell h 0
theorem WB.c1 {w : World} {p m c : Nat} {A : Option Addr} {e : Int} (h : WB w p A m c e) : w.cell? ⟨p, 1, none⟩ = some (.int .i64 e) := Blk.cell h 1
theorem WB.f0 {w : World} {p m c : Nat} {A : Option Addr} {e : Int} (h : WB w p A m c e) : w.frozen? ⟨p, 0, none⟩ = false := Blk.free h 0
theorem WB.f1 {w : World} {p m c : Nat} {A : Option Addr} {e : Int} (h : WB w p A m c e) : w.frozen? ⟨p, 1, none⟩ = false := Blk.free h 1
theorem WB.set0 {w : World} {p m c m' c' : Nat} {A A' : Option Addr} {e : Int} (h : WB w p A m c e) : WB (w.setCell ⟨p, 0, none⟩ (.slice A' m' c')) p A' m' c' e := Blk.set h 0 _
theorem WB.set1 {w : World} {p m c : Nat} {A : Option Addr} {e e' : Int} (h : WB w p A m c e) : WB (w.setCell ⟨p, 1, none⟩ (.int .i64 e')) p A m c e' := Blk.set h 1 _
theorem Wr.lt {w : World} {base p e : Nat} {l : List UInt8} (h : Wr w base p l e) : p < w.heap.size := by
  obtain ⟨A, m, c, h1, _⟩ := h.out
  exact Blk.lt h1
theorem Wr.base {w : World} {base p e : Nat} {l : List UInt8} (h : Wr w base p l e) : base ≤ w.heap.size := by
  have h1 := h.lt
  obtain ⟨A, m, c, _, _, h2⟩ := h.out
  omega
theorem own_ne_blk {w : World} {base n b : Nat} {e tv : TypeId} {v : Value} {xs : List Value} {cs : Array Value} (h : w.ownsRow base e 1 v n xs) (hb : Blk w b tv cs) (hne : e ≠ tv) : v.ownBlock ≠ some b := by
  rcases h.2 with ⟨rfl, _⟩ | ⟨g, cap, cur, rfl, _, hg, _⟩
  · simp [Value.ownBlock]
  · intro he
    have : g = b := by simpa [Value.ownBlock] using he
    subst this
    exact Blk.ne (t := e) hg hb hne rfl
theorem Wr.step {w w' : World} {base p e : Nat} {l : List UInt8} (h : Wr w base p l e) (hb : Below w.heap.size w w') : Wr w' base p l e := by
  obtain ⟨A, m, c, h1, h2, h3⟩ := h.out
  exact ⟨A, m, c, Blk.below h1 hb (Blk.lt h1), h2.below hb, h3⟩
/-- behind a turn of a block below its base alone -/
theorem Wr.only {w w' : World} {base p e r : Nat} {l : List UInt8} (h : Wr w base p l e) (hb : Only r w w') (hr : r < base) : Wr w' base p l e := by
  obtain ⟨A, m, c, h1, h2, h3⟩ := h.out
  refine ⟨A, m, c, Blk.grown h1 hb (fun e => by injection e with e; omega), ⟨h2.1, h2.2.1, ?_⟩, h3⟩
  rcases h2.2.2 with h4 | ⟨g, cap, cur, hv, hg, hh, h5⟩
  · exact .inl h4
  · exact .inr ⟨g, cap, cur, hv, hg, (hb.block g (lt_of_block hh) (fun e => by injection e with e; omega)).trans hh, h5⟩

/-- what a writer's call leaves as it was: what lies below its base, and each block that is neither bytes nor a writer -/
structure Keeps (base : Nat) (w w' : World) : Prop where
  below : Below base w w'
  kept : ∀ (g : Nat) (t : TypeId) (cs : Array Value), t ≠ 5 → t ≠ 150 → Blk w g t cs → Blk w' g t cs
theorem Keeps.refl (base : Nat) (w : World) : Keeps base w w := ⟨Below.refl _ _, fun _ _ _ _ _ h => h⟩
theorem Keeps.trans {base : Nat} {a b c : World} (h : Keeps base a b) (k : Keeps base b c) : Keeps base a c :=
  ⟨h.below.trans k.below, fun g t cs h1 h2 hb => k.kept g t cs h1 h2 (h.kept g t cs h1 h2 hb)⟩
theorem Keeps.of {base : Nat} {w w' : World} (h : Below w.heap.size w w') (hb : base ≤ w.heap.size) : Keeps base w w' :=
  ⟨h.mono hb, fun _ _ _ _ _ hk => Blk.below hk h hk.lt⟩
theorem Keeps.set {base : Nat} {a w : World} {p i m c : Nat} {A : Option Addr} {e : Int} (h : Keeps base a w) (hw : WB w p A m c e) (hp : base ≤ p) (u : Value) : Keeps base a (w.setCell ⟨p, i, none⟩ u) :=
  ⟨h.below.setCell hp u, fun g t cs h1 h2 hb => Blk.far (h.kept g t cs h1 h2 hb) (show g ≠ p from Blk.ne (h.kept g t cs h1 h2 hb) (show Blk w p 150 _ from hw) h2) u⟩

set_option maxHeartbeats 1000000 in
theorem write_any (w : World) :
    Calls Tryd.prog 64 #[] w fun e w' => e = .returned (.pointer (some ⟨w.heap.size, 0, none⟩)) ∧ Wr w' w.heap.size w.heap.size [] 0 ∧ Below w.heap.size w w' := by
  go_enter Tryd.func64, Tryd.ntmps64
  go_wp2_with fail
  go_ret
  exact ⟨rfl, ⟨_, _, _, Blk.new w _ _, row_nil _ _ _ _ rfl, Nat.le_refl _⟩, (Below.refl _ _).alloc (Nat.le_refl _) _⟩

set_option maxHeartbeats 1000000 in
theorem push_any {base p B n c' : Nat} {A' : Option Addr} {l news : List UInt8} {w : World} (h : Wr w base p l 0) (hA : At w B A' news) (hn : n = news.length) (hB : B ≤ w.heap.size) (hl : l.length + news.length ≤ 70368744177664) :
    Calls Tryd.prog 80 #[.pointer (some ⟨p, 0, none⟩), .slice A' n c'] w fun e w' => e = .returned (.tuple #[]) ∧ Wr w' base p (l ++ news) 0 ∧ Keeps base w w' := by
  obtain ⟨A, m, c, hb, hrow, hbp⟩ := h.out
  obtain ⟨i0, hi, hz0, hz1, hz2⟩ := info_parts info_byte
  have hbase := h.base
  obtain ⟨hm, hown⟩ := hrow
  subst hm
  have hne := own_ne_blk hown hb (by decide)
  have HNE := hid hne
  have HOWN := hid hown
  have HB := hid hb
  have HI := hid hi
  have HZ0 := hid hz0
  have HZ1 := hid hz1
  have HZ2 := hid hz2
  have HN := hid hn
  have HA := hid hA
  have HBA := hid hbase
  have HL := hid hl
  have HBP := hid hbp
  have c0 := WB.c0 hb
  have c1 := WB.c1 hb
  clear h hb hown hi hz0 hz1 hz2 hn hA hne hbase hl hbp
  go_enter Tryd.func80, Tryd.ntmps80
  go_wp2_with (at_builtin; go_must (refine wpList_append_bs _ rfl _ _ _ rfl base 5 i0 Tryd.underlying98 HI.out HZ0.out HZ1.out HZ2.out (.slice A l.length c) l news rfl HOWN.out A' n c' rfl HN.out (HA.out.more hB) ?len HBA.out ?_))
  case len => have := HL.out; omega
  intro A2 c2 w1 hown1 hg1 hat
  have hb1 : WB w1 p A l.length c 0 := Blk.grown HB.out hg1 (fun e => HNE.out e.symm)
  have HB1 := hid hb1
  have hbel := hid (show Keeps base w w1 from ⟨(Below.refl base w).grown hg1 HBA.out (fun k hk => (HOWN.out.lt k hk).1), fun g t cs h5 _ hb => Blk.grown hb hg1 (fun e => own_ne_blk HOWN.out hb (Ne.symm h5) e.symm)⟩)
  have d0 := WB.c0 HB1.out
  have f0 := WB.f0 HB1.out
  have HOWN1 := hid hown1
  have hne1 := own_ne_blk (b := p) hown1 (show Blk w1 p 150 _ from HB1.out) (by decide)
  have HNE1 := hid hne1
  clear hown1 hg1 hat hb1 hne1
  go_wp2_with fail
  go_end0
  exact ⟨rfl, ⟨_, _, _, HB1.out.set0, ⟨List.length_append.symm, ownsRow_setCell_other HOWN1.out HNE1.out _⟩, HBP.out⟩, hbel.out.set HB1.out HBP.out _⟩

set_option maxHeartbeats 1000000 in
theorem push_not {base p n c' e0 : Nat} {A' : Option Addr} {l : List UInt8} {w : World} (h : Wr w base p l e0) (he : e0 ≠ 0) :
    Calls Tryd.prog 80 #[.pointer (some ⟨p, 0, none⟩), .slice A' n c'] w fun e w' => e = .returned (.tuple #[]) ∧ w = w' := by
  obtain ⟨A, m, c, hb, hrow, hbp⟩ := h.out
  have c1 := WB.c1 hb
  have hE : ((e0 : Int) == 0) = false := by simpa using he
  clear h hb hrow he
  go_enter Tryd.func80, Tryd.ntmps80
  go_wp2_with fail
  go_end0
  exact ⟨rfl, rfl⟩

end Go.Proofs.YtngclmjefadokaaDoor

namespace Go.Proofs.YtngclmjefadokaaDoor
open Go Go.RowKit

theorem putVar_nat (v : Nat) (w : World) (hv : v < 18446744073709551616) :
    Calls Tryd.prog 81 #[.slice none 0 0, .int .u64 (v : Int)] w fun e w' =>
      ∃ A' m' c', e = .returned (.slice A' m' c') ∧ Row w' w.heap.size 5 A' m' c' (vbytes v) ∧ Below w.heap.size w w' :=
  putVar_is (A := none) (c := 0) (l := []) (v := v) rfl (At.nil w 0 _) (Nat.zero_le _) (by simp) hv

structure Wrote (w : World) (base p : Nat) (l : List UInt8) (e0 : Nat) (e : Ending) (w' : World) : Prop where
  ret : e = .returned (.tuple #[])
  wr : Wr w' base p l e0
  below : Keeps base w w'

/-- the numbers that are handed in: one -/
def One (w : World) (b : Nat) (u : Value) : Prop := w.cell? ⟨b, 0, none⟩ = some u ∧ b < w.heap.size

set_option maxHeartbeats 1000000 in
theorem wnum_any {base p b v : Nat} {l : List UInt8} {w : World} (h : Wr w base p l 0) (hv : v < 18446744073709551616) (hone : One w b (.int .u64 (v : Int))) (hl : l.length ≤ 1099511627776) :
    Calls Tryd.prog 65 #[.pointer (some ⟨p, 0, none⟩), .slice (some ⟨b, 0, none⟩) 1 1] w (Wrote w base p (l ++ vbytes v) 0) := by
  obtain ⟨hc, hlt⟩ := hone
  have HB := hid h.base
  have HV := hid hv
  have HL := hid hl
  have H := hid h
  clear h hv hl
  go_enter Tryd.func65, Tryd.ntmps65
  go_wp2_with fail
  go_loopw [8] (fun i wr => (i = .int .i64 0 ∧ wr = w) ∨ (i = .int .i64 1 ∧ Wr wr base p (l ++ vbytes v) 0 ∧ Keeps base w wr)) (fun i _ => 1 - (intOf i).toNat)
  case atStart => exact .inl ⟨rfl, rfl⟩
  case round =>
    rcases hrel with ⟨rfl, rfl⟩ | ⟨rfl, h1, h2⟩
    · go_wp2_with fail
      go_fit (putVar_nat v _ HV.out)
      rintro e w1 ⟨A', m', c', rfl, hr1, hb1⟩
      have HR := hid hr1
      have HB1 := hid hb1
      clear hr1 hb1
      go_wp2_with fail
      go_fit (push_any (H.out.step HB1.out) HR.out.at_ HR.out.1 (Nat.le_refl _) (by have := HL.out; rw [vbytes_length]; have := vlen_le v; omega))
      rintro e w2 ⟨rfl, h3, h4⟩
      have H3 := hid h3
      have H4 := hid ((Keeps.of HB1.out HB.out).trans h4)
      clear h3 h4
      go_wp2_with fail
      go_roundw
      case rel => exact .inr ⟨rfl, H3.out, H4.out⟩
      case measure => simp [intOf]
    · have H1 := hid h1
      have H2 := hid h2
      clear h1 h2
      go_wp2_with fail
      go_end0
      exact ⟨rfl, H1.out, H2.out⟩

set_option maxHeartbeats 1000000 in
theorem wnum_not {base p b e0 v : Nat} {l : List UInt8} {w : World} (h : Wr w base p l e0) (he : e0 ≠ 0) (hv : v < 18446744073709551616) (hone : One w b (.int .u64 (v : Int))) :
    Calls Tryd.prog 65 #[.pointer (some ⟨p, 0, none⟩), .slice (some ⟨b, 0, none⟩) 1 1] w (Wrote w base p l e0) := by
  obtain ⟨hc, hlt⟩ := hone
  have HB := hid h.base
  have HV := hid hv
  have H := hid h
  have HE := hid he
  clear h hv he
  go_enter Tryd.func65, Tryd.ntmps65
  go_wp2_with fail
  go_loopw [8] (fun i wr => (i = .int .i64 0 ∧ wr = w) ∨ (i = .int .i64 1 ∧ Wr wr base p l e0 ∧ Keeps base w wr)) (fun i _ => 1 - (intOf i).toNat)
  case atStart => exact .inl ⟨rfl, rfl⟩
  case round =>
    rcases hrel with ⟨rfl, rfl⟩ | ⟨rfl, h1, h2⟩
    · go_wp2_with fail
      go_fit (putVar_nat v _ HV.out)
      rintro e w1 ⟨A', m', c', rfl, hr1, hb1⟩
      have HB1 := hid hb1
      clear hr1 hb1
      go_wp2_with fail
      go_fit (push_not (H.out.step HB1.out) HE.out)
      rintro e w2 ⟨rfl, rfl⟩
      go_wp2_with fail
      go_roundw
      case rel => exact .inr ⟨rfl, H.out.step HB1.out, Keeps.of HB1.out HB.out⟩
      case measure => simp [intOf]
    · have H1 := hid h1
      have H2 := hid h2
      clear h1 h2
      go_wp2_with fail
      go_end0
      exact ⟨rfl, H1.out, H2.out⟩

theorem one_new (w : World) (t : TypeId) (u : Value) : One (w.alloc (.cells #[u] t)) w.heap.size u := ⟨cell_of_one (heap_alloc_new w _), by simp⟩

set_option maxHeartbeats 2000000 in
theorem wtext_any {base p b : Nat} {l s : List UInt8} {w : World} (h : Wr w base p l 0) (hs : s.length ≤ 65536) (hone : One w b (.string (bst s))) (hl : l.length ≤ 1099511600000) :
    Calls Tryd.prog 66 #[.pointer (some ⟨p, 0, none⟩), .slice (some ⟨b, 0, none⟩) 1 1] w (Wrote w base p (l ++ (vbytes s.length ++ s)) 0) := by
  obtain ⟨hc, hlt⟩ := hone
  have HB := hid h.base
  have HL := hid hl
  have HS := hid hs
  have hz := bst_size s
  have H := hid h
  clear h hl
  go_enter Tryd.func66, Tryd.ntmps66
  go_wp2_with fail
  go_loopw [8] (fun i wr => (i = .int .i64 0 ∧ wr = w) ∨ (i = .int .i64 1 ∧ Wr wr base p (l ++ (vbytes s.length ++ s)) 0 ∧ Keeps base w wr)) (fun i _ => 1 - (intOf i).toNat)
  case atStart => exact .inl ⟨rfl, rfl⟩
  case round =>
    rcases hrel with ⟨rfl, rfl⟩ | ⟨rfl, h1, h2⟩
    · have HW := hid (show Below wr.heap.size wr (wr.alloc (.cells #[.int .u64 (s.length : Int)] 37)) from (Below.refl _ _).alloc (Nat.le_refl _) _)
      go_wp2_with fail
      go_fit (wnum_any (v := s.length) (H.out.step HW.out) (by have := HS.out; omega) (one_new _ _ _) (by have := HL.out; omega))
      rintro e w1 ⟨rfl, h1, h2⟩
      have H1 := hid h1
      have H2 := hid ((Keeps.of HW.out HB.out).trans h2)
      clear h1 h2
      go_wp2_with (with_reducible refine wpList_bytes_of _ rfl (.tmp 25) 9 98 5 rfl Tryd.underlying9 Tryd.underlying98 Tryd.underlying5 s rfl ?_; intro A1 c1 w2 hc1 hA1 hb1)
      have HA1 := hid hA1
      have HB1 := hid hb1
      clear hA1 hb1
      go_fit (push_any (H1.out.step HB1.out) HA1.out rfl (Nat.le_refl _) (by have := HL.out; have := HS.out; rw [List.length_append, vbytes_length]; have := vlen_le s.length; omega))
      rintro e w3 ⟨rfl, h3, h4⟩
      rw [List.append_assoc] at h3
      have H3 := hid h3
      have H4 := hid ((H2.out.trans (Keeps.of HB1.out (Nat.le_trans HB.out H2.out.below.size))).trans h4)
      clear h3 h4
      go_wp2_with fail
      go_roundw
      case rel => exact .inr ⟨rfl, H3.out, H4.out⟩
      case measure => simp [intOf]
    · have H1 := hid h1
      have H2 := hid h2
      clear h1 h2
      go_wp2_with fail
      go_end0
      exact ⟨rfl, H1.out, H2.out⟩

set_option maxHeartbeats 2000000 in
theorem wtext_not {base p b : Nat} {l s : List UInt8} {w : World} (h : Wr w base p l 32) (hs : s.length ≤ 65536) (hone : One w b (.string (bst s))) :
    Calls Tryd.prog 66 #[.pointer (some ⟨p, 0, none⟩), .slice (some ⟨b, 0, none⟩) 1 1] w (Wrote w base p l 32) := by
  obtain ⟨hc, hlt⟩ := hone
  have HB := hid h.base
  have HS := hid hs
  have hz := bst_size s
  have H := hid h
  clear h
  go_enter Tryd.func66, Tryd.ntmps66
  go_wp2_with fail
  go_loopw [8] (fun i wr => (i = .int .i64 0 ∧ wr = w) ∨ (i = .int .i64 1 ∧ Wr wr base p l 32 ∧ Keeps base w wr)) (fun i _ => 1 - (intOf i).toNat)
  case atStart => exact .inl ⟨rfl, rfl⟩
  case round =>
    rcases hrel with ⟨rfl, rfl⟩ | ⟨rfl, h1, h2⟩
    · have HW := hid (show Below wr.heap.size wr (wr.alloc (.cells #[.int .u64 (s.length : Int)] 37)) from (Below.refl _ _).alloc (Nat.le_refl _) _)
      go_wp2_with fail
      go_fit (wnum_not (v := s.length) (H.out.step HW.out) (by decide) (by have := HS.out; omega) (one_new _ _ _))
      rintro e w1 ⟨rfl, h1, h2⟩
      have H1 := hid h1
      have H2 := hid ((Keeps.of HW.out HB.out).trans h2)
      clear h1 h2
      go_wp2_with (with_reducible refine wpList_bytes_of _ rfl (.tmp 25) 9 98 5 rfl Tryd.underlying9 Tryd.underlying98 Tryd.underlying5 s rfl ?_; intro A1 c1 w2 hc1 hA1 hb1)
      have HB1 := hid hb1
      clear hA1 hb1
      go_fit (push_not (H1.out.step HB1.out) (by decide))
      rintro e w3 ⟨rfl, rfl⟩
      go_wp2_with fail
      go_roundw
      case rel => exact .inr ⟨rfl, H1.out.step HB1.out, H2.out.trans (Keeps.of HB1.out (Nat.le_trans HB.out H2.out.below.size))⟩
      case measure => simp [intOf]
    · have H1 := hid h1
      have H2 := hid h2
      clear h1 h2
      go_wp2_with fail
      go_end0
      exact ⟨rfl, H1.out, H2.out⟩

set_option maxHeartbeats 2000000 in
theorem wtext_long {base p b e0 : Nat} {l : List UInt8} {t : ByteArray} {w : World} (h : Wr w base p l e0) (hs : 65536 < t.size) (hone : One w b (.string t)) :
    Calls Tryd.prog 66 #[.pointer (some ⟨p, 0, none⟩), .slice (some ⟨b, 0, none⟩) 1 1] w (Wrote w base p l 32) := by
  obtain ⟨hc, hlt⟩ := hone
  obtain ⟨A, m, c, hb, hrow, hbp⟩ := h.out
  have hi : (65536 : Int) < (t.size : Int) := by omega
  have c1 := WB.c1 hb
  have f1 := WB.f1 hb
  have HB := hid hb
  have HR := hid hrow
  have HP := hid hbp
  have HNE := hid (own_ne_blk (b := p) hrow.2 hb (by decide))
  clear h hb hrow hbp hs
  go_enter Tryd.func66, Tryd.ntmps66
  go_wp2_with fail
  go_loopw [8] (fun i wr => i = .int .i64 0 ∧ wr = w) (fun i _ => 1 - (intOf i).toNat)
  case atStart => exact ⟨rfl, rfl⟩
  case round =>
    obtain ⟨rfl, rfl⟩ := hrel
    go_wp2_with fail
    refine bodyPost_ret (results_none rfl _ _ _) rfl ?_
    exact ⟨rfl, ⟨_, _, _, HB.out.set1, ⟨HR.out.1, ownsRow_setCell_other HR.out.2 HNE.out _⟩, HP.out⟩, (Keeps.refl _ _).set HB.out HP.out _⟩

set_option maxHeartbeats 1000000 in
theorem bytes_any {base p : Nat} {l : List UInt8} {w : World} (h : Wr w base p l 0) (hl : l.length ≤ 140737488351232) :
    Calls Tryd.prog 67 #[.pointer (some ⟨p, 0, none⟩)] w fun e w' =>
      ∃ A' m' c', e = .returned (.tuple #[.slice A' m' c', .int .i64 0]) ∧ Row w' w.heap.size 5 A' m' c' l ∧ Below w.heap.size w w' := by
  obtain ⟨A, m, c, hb, hrow, hbp⟩ := h.out
  have c0 := WB.c0 hb
  have c1 := WB.c1 hb
  have H := hid (clone_any (c := c) hrow.at_ hrow.1 (Nat.le_refl _) hl)
  clear h hb hrow hl
  go_enter Tryd.func67, Tryd.ntmps67
  go_wp2_with fail
  go_fit H.out
  rintro e w2 ⟨A', m', c', rfl, h1, h2⟩
  go_wp2_with fail
  go_ret2
  exact ⟨_, _, _, rfl, h1, h2⟩
set_option maxHeartbeats 1000000 in
theorem bytes_not {base p e0 : Nat} {l : List UInt8} {w : World} (h : Wr w base p l e0) (he : e0 ≠ 0) :
    Calls Tryd.prog 67 #[.pointer (some ⟨p, 0, none⟩)] w fun e w' =>
      e = .returned (.tuple #[.slice none 0 0, .int .i64 (e0 : Int)]) ∧ Below w.heap.size w w' := by
  obtain ⟨A, m, c, hb, hrow, hbp⟩ := h.out
  have c0 := WB.c0 hb
  have c1 := WB.c1 hb
  have hE : ((e0 : Int) != 0) = true := by simpa using he
  clear h hb hrow he
  go_enter Tryd.func67, Tryd.ntmps67
  go_wp2_with fail
  go_quiet (fail)
  go_wp2_with fail
  go_ret2
  exact ⟨rfl, below_drewN (Below.refl _ _) _⟩

end Go.Proofs.YtngclmjefadokaaDoor
