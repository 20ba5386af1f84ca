/-
  The closure that a reader's step tells of its errors: the first one stays. takeNum: by its contract. takeText, takeFlag, Count's closure: by their contracts. takeFlag, Count's closure: by their contracts. A reader's next field, of each kind: by contracts. A reader's calls: by their contracts. bytes.Clone; Read: by their contracts. A writer's calls: by their contracts. A writer's Num, Text, Flag, Bytes: by their contracts. A writer's Num and Text of two: by their contracts.
-/
import Derived.Test.YtikggbopoajcbaaDoorBlk
import Derived.Test.YtikggbopoajcbaaDoorJVars
import Derived.Test.YtikggbopoajcbaaDoorRegion
import Derived.StillTailTactics
import Derived.Laws.AppendOwn
import Derived.WalkSpells
import Derived.BigQuiet
import Derived.Deep.QuietTactic
namespace Go.Proofs.YtikggbopoajcbaaDoor
open Go Go.RowKit

theorem enters_of {P : Program} {f : FuncId} {fn : Func} (hf : P.funcs[f]? = some fn) (hn : (fn.name == "runtime.NumGoroutine") = false) (hb : fn.body.isNone = false) (args : Array Value) (w : World) :
    (callFunc f args).run P w = .ok (.enter f args) w := by
  have h1 : fn.name ≠ "runtime.NumGoroutine" := by simpa using hn
  have h2 : ¬ fn.body = none := fun h => by rw [h] at hb; cases hb
  simp [callFunc, hf, h1, h2]

structure Fails (f : FuncId) : Prop where
  enters : ∀ (args : Array Value) (w : World), (callFunc f args).run Tryd.prog w = .ok (.enter f args) w
  first : ∀ (x : Int) (q r : Nat) (A : Option Addr) (m c : Nat) (w : World), RB w r A m c 0 → QB w q r →
    Calls Tryd.prog f #[.int .i64 x, .pointer (some ⟨q, 0, none⟩)] w fun e w' => e = .returned (.tuple #[]) ∧ w' = w.setCell ⟨r, 1, none⟩ (.int .i64 x)
  again : ∀ (x : Int) (q r : Nat) (A : Option Addr) (m c : Nat) (e : Int) (w : World), e ≠ 0 → RB w r A m c e → QB w q r →
    Calls Tryd.prog f #[.int .i64 x, .pointer (some ⟨q, 0, none⟩)] w fun e w' => e = .returned (.tuple #[]) ∧ w = w'

set_option maxHeartbeats 400000 in
theorem failsS : Fails 90 := by
  refine ⟨enters_of Tryd.func90 (by kernel_rfl) (by kernel_rfl), fun x q r A m c w hr hq => ?_, fun x q r A m c e w he hr hq => ?_⟩
  · have h0 := hr.c0
    have h1 := hr.c1
    have f1 := hr.f1
    have hq0 := hq.c0
    go_enter Tryd.func90, Tryd.ntmps90
    go_wp2
    go_end0
    exact ⟨rfl, rfl⟩
  · have h0 := hr.c0
    have h1 := hr.c1
    have hq0 := hq.c0
    have hb : (e == 0) = false := by simpa using he
    go_enter Tryd.func90, Tryd.ntmps90
    go_wp2
    go_end0
    exact ⟨rfl, rfl⟩

set_option maxHeartbeats 400000 in
theorem failsB : Fails 87 := by
  refine ⟨enters_of Tryd.func87 (by kernel_rfl) (by kernel_rfl), fun x q r A m c w hr hq => ?_, fun x q r A m c e w he hr hq => ?_⟩
  · have h0 := hr.c0
    have h1 := hr.c1
    have f1 := hr.f1
    have hq0 := hq.c0
    go_enter Tryd.func87, Tryd.ntmps87
    go_wp2
    go_end0
    exact ⟨rfl, rfl⟩
  · have h0 := hr.c0
    have h1 := hr.c1
    have hq0 := hq.c0
    have hb : (e == 0) = false := by simpa using he
    go_enter Tryd.func87, Tryd.ntmps87
    go_wp2
    go_end0
    exact ⟨rfl, rfl⟩

set_option maxHeartbeats 400000 in
theorem failsI : Fails 88 := by
  refine ⟨enters_of Tryd.func88 (by kernel_rfl) (by kernel_rfl), fun x q r A m c w hr hq => ?_, fun x q r A m c e w he hr hq => ?_⟩
  · have h0 := hr.c0
    have h1 := hr.c1
    have f1 := hr.f1
    have hq0 := hq.c0
    go_enter Tryd.func88, Tryd.ntmps88
    go_wp2
    go_end0
    exact ⟨rfl, rfl⟩
  · have h0 := hr.c0
    have h1 := hr.c1
    have hq0 := hq.c0
    have hb : (e == 0) = false := by simpa using he
    go_enter Tryd.func88, Tryd.ntmps88
    go_wp2
    go_end0
    exact ⟨rfl, rfl⟩

end Go.Proofs.YtikggbopoajcbaaDoor

namespace Go.Proofs.YtikggbopoajcbaaDoor
open Go Go.RowKit

theorem size_q (v : Nat) (w : World) (hv : v < 18446744073709551616) :
    Calls Tryd.prog 40 #[.int .u64 (v : Int)] w fun e w' => e = .returned (.int .i64 (vlen v : Int)) ∧ w' = w := (size_any v w hv).mono fun _ _ ⟨h1, h2⟩ => ⟨h1, h2.symm⟩
theorem min_of (m k : Nat) (h : k = min m 10) : min (m : Int) 10 = (k : Int) := by omega

set_option maxHeartbeats 2000000 in
set_option maxRecDepth 100000 in
theorem takeNum_any (f : FuncId) (hf : Fails f) (q r : Nat) (l : List UInt8) (w : World) (hr : Rd w r l 0) (hq : QB w q r) :
    Calls Tryd.prog 72 #[.pointer (some ⟨r, 0, none⟩), .func (.func f) #[] #[.pointer (some ⟨q, 0, none⟩)]] w fun e w' =>
      e = .returned (.int .u64 ((rnum l).1 : Int)) ∧ Rd w' r (rnum l).2.1 (rnum l).2.2 ∧ Only r w w' := by
  obtain ⟨A, m, c, hb, hm, hc, hl, hA⟩ := hr.out
  have hen := hf.enters
  have HB := hid hb
  have HM := hid hm
  have HA := hid hA
  have HQ := hid hq
  have HR := hid hr
  have hlt := Blk.lt hb
  have HL := hid hlt
  obtain ⟨k, hk⟩ : ∃ k, k = min m 10 := ⟨_, rfl⟩
  have hmin := min_of m k hk
  have hk0 : (0 : Int) ≤ (k : Int) := by omega
  have hkc : (k : Int) ≤ (c : Int) := by omega
  have HK := hid (show k = (l.take 10).length by rw [List.length_take, ← hm]; omega)
  have HL10 := hid (show (l.take 10).length ≤ 70368744177664 by rw [List.length_take]; omega)
  have hkc2 : k ≤ c := by omega
  have HC := hid hkc2
  have hc0 : ∀ W, Beyond w W → W.cell? ⟨r, 0, none⟩ = some (.slice A m c) := fun W hW => (hW.cell (p := ⟨r, 0, none⟩) HL.out).trans HB.out.c0
  have hN := rnum_all l
  generalize rnum l = o at hN ⊢
  have HN := hid hN
  clear hb hm hA hq hr hlt hk hkc2 hl hN
  obtain ⟨v, l', e⟩ := o
  have hout := HN.out
  cases hout with
  | good _ n h hn hl' hv hbk =>
    have Hh := hid h
    have Hn := hid hn
    obtain ⟨A', hsl, hA'⟩ := slice_from (n := vlen v) HA.out HM.out hc (by rw [HM.out, ← hn]; exact hl')
    have HA' := hid hA'
    clear hA' h hbk hn hl'
    go_enter Tryd.func72, Tryd.ntmps72
    go_wp2_with fail
    refine wp_region_held_drew (S := Beyond w) (by kernel_rfl) (Beyond.drew _) (fun hS => ?_)
    refine take_step (i := 0) (by simp only [List.getElem?_toArray, List.getElem?_cons_zero]; rfl) (by kernel_rfl) (by kernel_rfl) (by kernel_rfl) (by intro _ _ _ h; exact h) (by rfl) (fun W hW => by go_simp; first | done | with_reducible rfl) hS ?_
    try simp only [Act.put, List.setIfInBounds_toArray, List.set_cons_zero, List.set_cons_succ]
    refine take_step (i := 1) (by simp only [List.getElem?_toArray, List.getElem?_cons_succ, List.getElem?_cons_zero]; rfl) (by kernel_rfl) (by kernel_rfl) (by kernel_rfl) (by intro _ _ _ h; exact h) (by rfl) (fun W hW => by go_simp; first | done | with_reducible rfl) hS ?_
    try simp only [Act.put, List.setIfInBounds_toArray, List.set_cons_zero, List.set_cons_succ]
    refine take_step (i := 2) (by simp only [List.getElem?_toArray, List.getElem?_cons_succ, List.getElem?_cons_zero]; rfl) (by kernel_rfl) (by kernel_rfl) (by kernel_rfl) (by intro _ _ _ h; exact h) (by rfl) (fun W hW => by go_simp; first | done | with_reducible rfl) hS ?_
    try simp only [Act.put, List.setIfInBounds_toArray, List.set_cons_zero, List.set_cons_succ]
    refine take_step (i := 3) (by simp only [List.getElem?_toArray, List.getElem?_cons_succ, List.getElem?_cons_zero]; rfl) (by kernel_rfl) (by kernel_rfl) (by kernel_rfl) (by intro _ _ _ h; exact h) (by rfl) (fun W hW => by go_simp; first | done | with_reducible rfl) hS ?_
    try simp only [Act.put, List.setIfInBounds_toArray, List.set_cons_zero, List.set_cons_succ]
    refine take_step (i := 4) (by simp only [List.getElem?_toArray, List.getElem?_cons_succ, List.getElem?_cons_zero]; rfl) (by kernel_rfl) (by kernel_rfl) (by kernel_rfl) (by intro _ _ _ h; exact h) (by rfl) (fun W hW => by go_simp; first | done | with_reducible rfl) hS ?_
    try simp only [Act.put, List.setIfInBounds_toArray, List.set_cons_zero, List.set_cons_succ]
    refine take_step (i := 5) (by simp only [List.getElem?_toArray, List.getElem?_cons_succ, List.getElem?_cons_zero]; rfl) (by kernel_rfl) (by kernel_rfl) (by kernel_rfl) (by intro _ _ _ h; exact h) (by rfl) (fun W hW => by go_simp; first | done | with_reducible rfl) hS ?_
    try simp only [Act.put, List.setIfInBounds_toArray, List.set_cons_zero, List.set_cons_succ]
    refine take_step (i := 6) (by simp only [List.getElem?_toArray, List.getElem?_cons_succ, List.getElem?_cons_zero]; rfl) (by kernel_rfl) (by kernel_rfl) (by kernel_rfl) (by intro _ _ _ h; exact h) (by rfl) (fun W hW => by go_simp; first | done | with_reducible rfl) hS ?_
    try simp only [Act.put, List.setIfInBounds_toArray, List.set_cons_zero, List.set_cons_succ]
    refine take_step (i := 7) (by simp only [List.getElem?_toArray, List.getElem?_cons_succ, List.getElem?_cons_zero]; rfl) (by kernel_rfl) (by kernel_rfl) (by kernel_rfl) (by intro _ _ _ h; exact h) (by rfl) (fun W hW => by go_simp; first | done | with_reducible rfl) hS ?_
    try simp only [Act.put, List.setIfInBounds_toArray, List.set_cons_zero, List.set_cons_succ]
    refine take_step (i := 8) (by simp only [List.getElem?_toArray, List.getElem?_cons_succ, List.getElem?_cons_zero]; rfl) (by kernel_rfl) (by kernel_rfl) (by kernel_rfl) (by intro _ _ _ h; exact h) (by rfl) (fun W hW => by go_simp; first | done | with_reducible rfl) hS ?_
    try simp only [Act.put, List.setIfInBounds_toArray, List.set_cons_zero, List.set_cons_succ]
    refine take_step (i := 9) (by simp only [List.getElem?_toArray, List.getElem?_cons_succ, List.getElem?_cons_zero]; rfl) (by kernel_rfl) (by kernel_rfl) (by kernel_rfl) (by intro _ _ _ h; exact h) (by rfl) (fun W hW => by go_simp; first | done | with_reducible rfl) hS ?_
    try simp only [Act.put, List.setIfInBounds_toArray, List.set_cons_zero, List.set_cons_succ]
    refine take_step (i := 10) (by simp only [List.getElem?_toArray, List.getElem?_cons_succ, List.getElem?_cons_zero]; rfl) (by kernel_rfl) (by kernel_rfl) (by kernel_rfl) (by intro _ _ _ h; exact h) (by rfl) (fun W hW => by go_simp; first | done | with_reducible rfl) hS ?_
    try simp only [Act.put, List.setIfInBounds_toArray, List.set_cons_zero, List.set_cons_succ]
    refine wpAnyH_ready (rs := [11]) (by kernel_rfl) (by simp) ?_
    refine AllReadyH.cons (by simp only [List.getElem?_toArray, List.getElem?_cons_succ, List.getElem?_cons_zero]; rfl) (fun K hK => ?_) AllReadyH.nil
    go_simp
    go_fit (getVar_is HK.out (by rw [rdv_take]; exact Hh.out) ((HA.out.take 10).below (hS.mono (by have := HL.out; omega))) (by have := hS.size; have := HL.out; omega) HL10.out HC.out)
    rintro e w2 ⟨A2, m2, c2, rfl, hr2, hb2⟩
    have hS11 := Beyond.step hS hb2
    refine hK.out _ _ (by assumption) (fun _ => ?_)
    clear hK K hS
    have hS := hS11
    try simp only [Act.put, List.setIfInBounds_toArray, List.set_cons_zero, List.set_cons_succ]
    refine take_step (i := 12) (by simp only [List.getElem?_toArray, List.getElem?_cons_succ, List.getElem?_cons_zero]; rfl) (by kernel_rfl) (by kernel_rfl) (by kernel_rfl) (by intro _ _ _ h; exact h) (by rfl) (fun W hW => by go_simp; first | done | with_reducible rfl) hS ?_
    try simp only [Act.put, List.setIfInBounds_toArray, List.set_cons_zero, List.set_cons_succ]
    refine take_step (i := 13) (by simp only [List.getElem?_toArray, List.getElem?_cons_succ, List.getElem?_cons_zero]; rfl) (by kernel_rfl) (by kernel_rfl) (by kernel_rfl) (by intro _ _ _ h; exact h) (by rfl) (fun W hW => by go_simp; first | done | with_reducible rfl) hS ?_
    try simp only [Act.put, List.setIfInBounds_toArray, List.set_cons_zero, List.set_cons_succ]
    refine take_step (i := 14) (by simp only [List.getElem?_toArray, List.getElem?_cons_succ, List.getElem?_cons_zero]; rfl) (by kernel_rfl) (by kernel_rfl) (by kernel_rfl) (by intro _ _ _ h; exact h) (by rfl) (fun W hW => by go_simp; first | done | with_reducible rfl) hS ?_
    try simp only [Act.put, List.setIfInBounds_toArray, List.set_cons_zero, List.set_cons_succ]
    refine take_step (i := 15) (by simp only [List.getElem?_toArray, List.getElem?_cons_succ, List.getElem?_cons_zero]; rfl) (by kernel_rfl) (by kernel_rfl) (by kernel_rfl) (by intro _ _ _ h; exact h) (by rfl) (fun W hW => by go_simp; first | done | with_reducible rfl) hS ?_
    try simp only [Act.put, List.setIfInBounds_toArray, List.set_cons_zero, List.set_cons_succ]
    refine take_step (i := 16) (by simp only [List.getElem?_toArray, List.getElem?_cons_succ, List.getElem?_cons_zero]; rfl) (by kernel_rfl) (by kernel_rfl) (by kernel_rfl) (by intro _ _ _ h; exact h) (by rfl) (fun W hW => by go_simp; first | done | with_reducible rfl) hS ?_
    try simp only [Act.put, List.setIfInBounds_toArray, List.set_cons_zero, List.set_cons_succ]
    refine take_step (i := 17) (by simp only [List.getElem?_toArray, List.getElem?_cons_succ, List.getElem?_cons_zero]; rfl) (by kernel_rfl) (by kernel_rfl) (by kernel_rfl) (by intro _ _ _ h; exact h) (by rfl) (fun W hW => by go_simp; first | done | with_reducible rfl) hS ?_
    try simp only [Act.put, List.setIfInBounds_toArray, List.set_cons_zero, List.set_cons_succ]
    refine take_step (i := 18) (by simp only [List.getElem?_toArray, List.getElem?_cons_succ, List.getElem?_cons_zero]; rfl) (by kernel_rfl) (by kernel_rfl) (by kernel_rfl) (by intro _ _ _ h; exact h) (by rfl) (fun W hW => by go_simp; first | done | with_reducible rfl) hS ?_
    try simp only [Act.put, List.setIfInBounds_toArray, List.set_cons_zero, List.set_cons_succ]
    refine wpAnyH_done (by kernel_rfl) ?_ _
    go_wp2_with fail
    refine wp_region_still_tail 10 (by kernel_rfl) (by kernel_rfl) ?_
    have hS3 := hid (Beyond.step hS11 ((Below.refl _ _).drew))
    change wpStill _ _ w2.drew (fun a' => wpList _ _ _ _ a' w2.drew) _ _
    generalize w2.drew = w3 at hS3 ⊢
    simp only [List.take_succ_cons, List.take_zero, List.drop_succ_cons, List.drop_zero]
    have h0 := hc0 w3 hS3.out
    have HB3 : RB w3 r A m c 0 := Blk.below HB.out hS3.out HL.out
    have f0 := HB3.f0
    repeat still_step
    still_call (size_q v w3 hv)
    repeat still_step
    try refine wpStill_nil ?_
    go_wp2_with fail
    go_ret
    have hs := hid (Hn.out)
    have hA3 : At w3 r A' (l.drop n) := by rw [hs.out]; exact HA'.out.below (hS3.out.mono (Nat.le_of_lt HL.out))
    refine ⟨rfl, ⟨_, _, _, HB3.set0, ?_, by omega, by have := (HR.out.out); rw [List.length_drop]; obtain ⟨_, _, _, _, _, _, h9, _⟩ := this; omega, hA3.setR _⟩, (Only.of_below hS3.out).set _⟩
    rw [List.length_drop, HM.out, hs.out]
  | short h =>
    have Hh := hid h
    clear h
    go_enter Tryd.func72, Tryd.ntmps72
    go_wp2_with fail
    refine wp_region_held_drew (S := Beyond w) (by kernel_rfl) (Beyond.drew _) (fun hS => ?_)
    refine take_step (i := 0) (by simp only [List.getElem?_toArray, List.getElem?_cons_zero]; rfl) (by kernel_rfl) (by kernel_rfl) (by kernel_rfl) (by intro _ _ _ h; exact h) (by rfl) (fun W hW => by go_simp; first | done | with_reducible rfl) hS ?_
    try simp only [Act.put, List.setIfInBounds_toArray, List.set_cons_zero, List.set_cons_succ]
    refine take_step (i := 1) (by simp only [List.getElem?_toArray, List.getElem?_cons_succ, List.getElem?_cons_zero]; rfl) (by kernel_rfl) (by kernel_rfl) (by kernel_rfl) (by intro _ _ _ h; exact h) (by rfl) (fun W hW => by go_simp; first | done | with_reducible rfl) hS ?_
    try simp only [Act.put, List.setIfInBounds_toArray, List.set_cons_zero, List.set_cons_succ]
    refine take_step (i := 2) (by simp only [List.getElem?_toArray, List.getElem?_cons_succ, List.getElem?_cons_zero]; rfl) (by kernel_rfl) (by kernel_rfl) (by kernel_rfl) (by intro _ _ _ h; exact h) (by rfl) (fun W hW => by go_simp; first | done | with_reducible rfl) hS ?_
    try simp only [Act.put, List.setIfInBounds_toArray, List.set_cons_zero, List.set_cons_succ]
    refine take_step (i := 3) (by simp only [List.getElem?_toArray, List.getElem?_cons_succ, List.getElem?_cons_zero]; rfl) (by kernel_rfl) (by kernel_rfl) (by kernel_rfl) (by intro _ _ _ h; exact h) (by rfl) (fun W hW => by go_simp; first | done | with_reducible rfl) hS ?_
    try simp only [Act.put, List.setIfInBounds_toArray, List.set_cons_zero, List.set_cons_succ]
    refine take_step (i := 4) (by simp only [List.getElem?_toArray, List.getElem?_cons_succ, List.getElem?_cons_zero]; rfl) (by kernel_rfl) (by kernel_rfl) (by kernel_rfl) (by intro _ _ _ h; exact h) (by rfl) (fun W hW => by go_simp; first | done | with_reducible rfl) hS ?_
    try simp only [Act.put, List.setIfInBounds_toArray, List.set_cons_zero, List.set_cons_succ]
    refine take_step (i := 5) (by simp only [List.getElem?_toArray, List.getElem?_cons_succ, List.getElem?_cons_zero]; rfl) (by kernel_rfl) (by kernel_rfl) (by kernel_rfl) (by intro _ _ _ h; exact h) (by rfl) (fun W hW => by go_simp; first | done | with_reducible rfl) hS ?_
    try simp only [Act.put, List.setIfInBounds_toArray, List.set_cons_zero, List.set_cons_succ]
    refine take_step (i := 6) (by simp only [List.getElem?_toArray, List.getElem?_cons_succ, List.getElem?_cons_zero]; rfl) (by kernel_rfl) (by kernel_rfl) (by kernel_rfl) (by intro _ _ _ h; exact h) (by rfl) (fun W hW => by go_simp; first | done | with_reducible rfl) hS ?_
    try simp only [Act.put, List.setIfInBounds_toArray, List.set_cons_zero, List.set_cons_succ]
    refine take_step (i := 7) (by simp only [List.getElem?_toArray, List.getElem?_cons_succ, List.getElem?_cons_zero]; rfl) (by kernel_rfl) (by kernel_rfl) (by kernel_rfl) (by intro _ _ _ h; exact h) (by rfl) (fun W hW => by go_simp; first | done | with_reducible rfl) hS ?_
    try simp only [Act.put, List.setIfInBounds_toArray, List.set_cons_zero, List.set_cons_succ]
    refine take_step (i := 8) (by simp only [List.getElem?_toArray, List.getElem?_cons_succ, List.getElem?_cons_zero]; rfl) (by kernel_rfl) (by kernel_rfl) (by kernel_rfl) (by intro _ _ _ h; exact h) (by rfl) (fun W hW => by go_simp; first | done | with_reducible rfl) hS ?_
    try simp only [Act.put, List.setIfInBounds_toArray, List.set_cons_zero, List.set_cons_succ]
    refine take_step (i := 9) (by simp only [List.getElem?_toArray, List.getElem?_cons_succ, List.getElem?_cons_zero]; rfl) (by kernel_rfl) (by kernel_rfl) (by kernel_rfl) (by intro _ _ _ h; exact h) (by rfl) (fun W hW => by go_simp; first | done | with_reducible rfl) hS ?_
    try simp only [Act.put, List.setIfInBounds_toArray, List.set_cons_zero, List.set_cons_succ]
    refine take_step (i := 10) (by simp only [List.getElem?_toArray, List.getElem?_cons_succ, List.getElem?_cons_zero]; rfl) (by kernel_rfl) (by kernel_rfl) (by kernel_rfl) (by intro _ _ _ h; exact h) (by rfl) (fun W hW => by go_simp; first | done | with_reducible rfl) hS ?_
    try simp only [Act.put, List.setIfInBounds_toArray, List.set_cons_zero, List.set_cons_succ]
    refine wpAnyH_ready (rs := [11]) (by kernel_rfl) (by simp) ?_
    refine AllReadyH.cons (by simp only [List.getElem?_toArray, List.getElem?_cons_succ, List.getElem?_cons_zero]; rfl) (fun K hK => ?_) AllReadyH.nil
    go_simp
    go_fit (getVar_not (x := 10) HK.out (by rw [rdv_take]; exact Hh.out) (by decide) ((HA.out.take 10).below (hS.mono (by have := HL.out; omega))) (by have := hS.size; have := HL.out; omega) HL10.out HC.out)
    rintro e w2 ⟨rfl, rfl⟩
    have hS11 := hS
    refine hK.out _ _ (by assumption) (fun _ => ?_)
    clear hK K hS
    have hS := hS11
    try simp only [Act.put, List.setIfInBounds_toArray, List.set_cons_zero, List.set_cons_succ]
    refine take_step (i := 12) (by simp only [List.getElem?_toArray, List.getElem?_cons_succ, List.getElem?_cons_zero]; rfl) (by kernel_rfl) (by kernel_rfl) (by kernel_rfl) (by intro _ _ _ h; exact h) (by rfl) (fun W hW => by go_simp; first | done | with_reducible rfl) hS ?_
    try simp only [Act.put, List.setIfInBounds_toArray, List.set_cons_zero, List.set_cons_succ]
    refine take_step (i := 13) (by simp only [List.getElem?_toArray, List.getElem?_cons_succ, List.getElem?_cons_zero]; rfl) (by kernel_rfl) (by kernel_rfl) (by kernel_rfl) (by intro _ _ _ h; exact h) (by rfl) (fun W hW => by go_simp; first | done | with_reducible rfl) hS ?_
    try simp only [Act.put, List.setIfInBounds_toArray, List.set_cons_zero, List.set_cons_succ]
    refine take_step (i := 14) (by simp only [List.getElem?_toArray, List.getElem?_cons_succ, List.getElem?_cons_zero]; rfl) (by kernel_rfl) (by kernel_rfl) (by kernel_rfl) (by intro _ _ _ h; exact h) (by rfl) (fun W hW => by go_simp; first | done | with_reducible rfl) hS ?_
    try simp only [Act.put, List.setIfInBounds_toArray, List.set_cons_zero, List.set_cons_succ]
    refine take_step (i := 15) (by simp only [List.getElem?_toArray, List.getElem?_cons_succ, List.getElem?_cons_zero]; rfl) (by kernel_rfl) (by kernel_rfl) (by kernel_rfl) (by intro _ _ _ h; exact h) (by rfl) (fun W hW => by go_simp; first | done | with_reducible rfl) hS ?_
    try simp only [Act.put, List.setIfInBounds_toArray, List.set_cons_zero, List.set_cons_succ]
    refine take_step (i := 16) (by simp only [List.getElem?_toArray, List.getElem?_cons_succ, List.getElem?_cons_zero]; rfl) (by kernel_rfl) (by kernel_rfl) (by kernel_rfl) (by intro _ _ _ h; exact h) (by rfl) (fun W hW => by go_simp; first | done | with_reducible rfl) hS ?_
    try simp only [Act.put, List.setIfInBounds_toArray, List.set_cons_zero, List.set_cons_succ]
    refine take_step (i := 17) (by simp only [List.getElem?_toArray, List.getElem?_cons_succ, List.getElem?_cons_zero]; rfl) (by kernel_rfl) (by kernel_rfl) (by kernel_rfl) (by intro _ _ _ h; exact h) (by rfl) (fun W hW => by go_simp; first | done | with_reducible rfl) hS ?_
    try simp only [Act.put, List.setIfInBounds_toArray, List.set_cons_zero, List.set_cons_succ]
    refine take_step (i := 18) (by simp only [List.getElem?_toArray, List.getElem?_cons_succ, List.getElem?_cons_zero]; rfl) (by kernel_rfl) (by kernel_rfl) (by kernel_rfl) (by intro _ _ _ h; exact h) (by rfl) (fun W hW => by go_simp; first | done | with_reducible rfl) hS ?_
    try simp only [Act.put, List.setIfInBounds_toArray, List.set_cons_zero, List.set_cons_succ]
    refine wpAnyH_done (by kernel_rfl) ?_ _
    have hS3 := hid hS
    clear hS
    have h1 : RB w.drew r A m c 0 := Blk.below HB.out hS3.out HL.out
    go_wp2_with fail
    go_fit (hf.first 30 q r A m c w.drew h1 (Blk.below HQ.out hS3.out (Blk.lt HQ.out)))
    rintro e w4 ⟨rfl, rfl⟩
    go_wp2_with fail
    go_ret
    exact ⟨rfl, ⟨_, _, _, h1.set1, HM.out, hc, by obtain ⟨_, _, _, _, _, _, h9, _⟩ := HR.out.out; exact h9, (HA.out.below (hS3.out.mono (Nat.le_of_lt HL.out))).setR _⟩, (Only.of_below hS3.out).set _⟩
  | form h =>
    have Hh := hid h
    clear h
    go_enter Tryd.func72, Tryd.ntmps72
    go_wp2_with fail
    refine wp_region_held_drew (S := Beyond w) (by kernel_rfl) (Beyond.drew _) (fun hS => ?_)
    refine take_step (i := 0) (by simp only [List.getElem?_toArray, List.getElem?_cons_zero]; rfl) (by kernel_rfl) (by kernel_rfl) (by kernel_rfl) (by intro _ _ _ h; exact h) (by rfl) (fun W hW => by go_simp; first | done | with_reducible rfl) hS ?_
    try simp only [Act.put, List.setIfInBounds_toArray, List.set_cons_zero, List.set_cons_succ]
    refine take_step (i := 1) (by simp only [List.getElem?_toArray, List.getElem?_cons_succ, List.getElem?_cons_zero]; rfl) (by kernel_rfl) (by kernel_rfl) (by kernel_rfl) (by intro _ _ _ h; exact h) (by rfl) (fun W hW => by go_simp; first | done | with_reducible rfl) hS ?_
    try simp only [Act.put, List.setIfInBounds_toArray, List.set_cons_zero, List.set_cons_succ]
    refine take_step (i := 2) (by simp only [List.getElem?_toArray, List.getElem?_cons_succ, List.getElem?_cons_zero]; rfl) (by kernel_rfl) (by kernel_rfl) (by kernel_rfl) (by intro _ _ _ h; exact h) (by rfl) (fun W hW => by go_simp; first | done | with_reducible rfl) hS ?_
    try simp only [Act.put, List.setIfInBounds_toArray, List.set_cons_zero, List.set_cons_succ]
    refine take_step (i := 3) (by simp only [List.getElem?_toArray, List.getElem?_cons_succ, List.getElem?_cons_zero]; rfl) (by kernel_rfl) (by kernel_rfl) (by kernel_rfl) (by intro _ _ _ h; exact h) (by rfl) (fun W hW => by go_simp; first | done | with_reducible rfl) hS ?_
    try simp only [Act.put, List.setIfInBounds_toArray, List.set_cons_zero, List.set_cons_succ]
    refine take_step (i := 4) (by simp only [List.getElem?_toArray, List.getElem?_cons_succ, List.getElem?_cons_zero]; rfl) (by kernel_rfl) (by kernel_rfl) (by kernel_rfl) (by intro _ _ _ h; exact h) (by rfl) (fun W hW => by go_simp; first | done | with_reducible rfl) hS ?_
    try simp only [Act.put, List.setIfInBounds_toArray, List.set_cons_zero, List.set_cons_succ]
    refine take_step (i := 5) (by simp only [List.getElem?_toArray, List.getElem?_cons_succ, List.getElem?_cons_zero]; rfl) (by kernel_rfl) (by kernel_rfl) (by kernel_rfl) (by intro _ _ _ h; exact h) (by rfl) (fun W hW => by go_simp; first | done | with_reducible rfl) hS ?_
    try simp only [Act.put, List.setIfInBounds_toArray, List.set_cons_zero, List.set_cons_succ]
    refine take_step (i := 6) (by simp only [List.getElem?_toArray, List.getElem?_cons_succ, List.getElem?_cons_zero]; rfl) (by kernel_rfl) (by kernel_rfl) (by kernel_rfl) (by intro _ _ _ h; exact h) (by rfl) (fun W hW => by go_simp; first | done | with_reducible rfl) hS ?_
    try simp only [Act.put, List.setIfInBounds_toArray, List.set_cons_zero, List.set_cons_succ]
    refine take_step (i := 7) (by simp only [List.getElem?_toArray, List.getElem?_cons_succ, List.getElem?_cons_zero]; rfl) (by kernel_rfl) (by kernel_rfl) (by kernel_rfl) (by intro _ _ _ h; exact h) (by rfl) (fun W hW => by go_simp; first | done | with_reducible rfl) hS ?_
    try simp only [Act.put, List.setIfInBounds_toArray, List.set_cons_zero, List.set_cons_succ]
    refine take_step (i := 8) (by simp only [List.getElem?_toArray, List.getElem?_cons_succ, List.getElem?_cons_zero]; rfl) (by kernel_rfl) (by kernel_rfl) (by kernel_rfl) (by intro _ _ _ h; exact h) (by rfl) (fun W hW => by go_simp; first | done | with_reducible rfl) hS ?_
    try simp only [Act.put, List.setIfInBounds_toArray, List.set_cons_zero, List.set_cons_succ]
    refine take_step (i := 9) (by simp only [List.getElem?_toArray, List.getElem?_cons_succ, List.getElem?_cons_zero]; rfl) (by kernel_rfl) (by kernel_rfl) (by kernel_rfl) (by intro _ _ _ h; exact h) (by rfl) (fun W hW => by go_simp; first | done | with_reducible rfl) hS ?_
    try simp only [Act.put, List.setIfInBounds_toArray, List.set_cons_zero, List.set_cons_succ]
    refine take_step (i := 10) (by simp only [List.getElem?_toArray, List.getElem?_cons_succ, List.getElem?_cons_zero]; rfl) (by kernel_rfl) (by kernel_rfl) (by kernel_rfl) (by intro _ _ _ h; exact h) (by rfl) (fun W hW => by go_simp; first | done | with_reducible rfl) hS ?_
    try simp only [Act.put, List.setIfInBounds_toArray, List.set_cons_zero, List.set_cons_succ]
    refine wpAnyH_ready (rs := [11]) (by kernel_rfl) (by simp) ?_
    refine AllReadyH.cons (by simp only [List.getElem?_toArray, List.getElem?_cons_succ, List.getElem?_cons_zero]; rfl) (fun K hK => ?_) AllReadyH.nil
    go_simp
    go_fit (getVar_not (x := 12) HK.out (by rw [rdv_take]; exact Hh.out) (by decide) ((HA.out.take 10).below (hS.mono (by have := HL.out; omega))) (by have := hS.size; have := HL.out; omega) HL10.out HC.out)
    rintro e w2 ⟨rfl, rfl⟩
    have hS11 := hS
    refine hK.out _ _ (by assumption) (fun _ => ?_)
    clear hK K hS
    have hS := hS11
    try simp only [Act.put, List.setIfInBounds_toArray, List.set_cons_zero, List.set_cons_succ]
    refine take_step (i := 12) (by simp only [List.getElem?_toArray, List.getElem?_cons_succ, List.getElem?_cons_zero]; rfl) (by kernel_rfl) (by kernel_rfl) (by kernel_rfl) (by intro _ _ _ h; exact h) (by rfl) (fun W hW => by go_simp; first | done | with_reducible rfl) hS ?_
    try simp only [Act.put, List.setIfInBounds_toArray, List.set_cons_zero, List.set_cons_succ]
    refine take_step (i := 13) (by simp only [List.getElem?_toArray, List.getElem?_cons_succ, List.getElem?_cons_zero]; rfl) (by kernel_rfl) (by kernel_rfl) (by kernel_rfl) (by intro _ _ _ h; exact h) (by rfl) (fun W hW => by go_simp; first | done | with_reducible rfl) hS ?_
    try simp only [Act.put, List.setIfInBounds_toArray, List.set_cons_zero, List.set_cons_succ]
    refine take_step (i := 14) (by simp only [List.getElem?_toArray, List.getElem?_cons_succ, List.getElem?_cons_zero]; rfl) (by kernel_rfl) (by kernel_rfl) (by kernel_rfl) (by intro _ _ _ h; exact h) (by rfl) (fun W hW => by go_simp; first | done | with_reducible rfl) hS ?_
    try simp only [Act.put, List.setIfInBounds_toArray, List.set_cons_zero, List.set_cons_succ]
    refine take_step (i := 15) (by simp only [List.getElem?_toArray, List.getElem?_cons_succ, List.getElem?_cons_zero]; rfl) (by kernel_rfl) (by kernel_rfl) (by kernel_rfl) (by intro _ _ _ h; exact h) (by rfl) (fun W hW => by go_simp; first | done | with_reducible rfl) hS ?_
    try simp only [Act.put, List.setIfInBounds_toArray, List.set_cons_zero, List.set_cons_succ]
    refine take_step (i := 16) (by simp only [List.getElem?_toArray, List.getElem?_cons_succ, List.getElem?_cons_zero]; rfl) (by kernel_rfl) (by kernel_rfl) (by kernel_rfl) (by intro _ _ _ h; exact h) (by rfl) (fun W hW => by go_simp; first | done | with_reducible rfl) hS ?_
    try simp only [Act.put, List.setIfInBounds_toArray, List.set_cons_zero, List.set_cons_succ]
    refine take_step (i := 17) (by simp only [List.getElem?_toArray, List.getElem?_cons_succ, List.getElem?_cons_zero]; rfl) (by kernel_rfl) (by kernel_rfl) (by kernel_rfl) (by intro _ _ _ h; exact h) (by rfl) (fun W hW => by go_simp; first | done | with_reducible rfl) hS ?_
    try simp only [Act.put, List.setIfInBounds_toArray, List.set_cons_zero, List.set_cons_succ]
    refine take_step (i := 18) (by simp only [List.getElem?_toArray, List.getElem?_cons_succ, List.getElem?_cons_zero]; rfl) (by kernel_rfl) (by kernel_rfl) (by kernel_rfl) (by intro _ _ _ h; exact h) (by rfl) (fun W hW => by go_simp; first | done | with_reducible rfl) hS ?_
    try simp only [Act.put, List.setIfInBounds_toArray, List.set_cons_zero, List.set_cons_succ]
    refine wpAnyH_done (by kernel_rfl) ?_ _
    have hS3 := hid hS
    clear hS
    have h1 : RB w.drew r A m c 0 := Blk.below HB.out hS3.out HL.out
    go_wp2_with fail
    go_fit (hf.first 12 q r A m c w.drew h1 (Blk.below HQ.out hS3.out (Blk.lt HQ.out)))
    rintro e w4 ⟨rfl, rfl⟩
    go_wp2_with fail
    go_ret
    exact ⟨rfl, ⟨_, _, _, h1.set1, HM.out, hc, by obtain ⟨_, _, _, _, _, _, h9, _⟩ := HR.out.out; exact h9, (HA.out.below (hS3.out.mono (Nat.le_of_lt HL.out))).setR _⟩, (Only.of_below hS3.out).set _⟩

end Go.Proofs.YtikggbopoajcbaaDoor

namespace Go.Proofs.YtikggbopoajcbaaDoor
open Go Go.RowKit

/-- what a step leaves: the reader somewhere, with what is wrong; where nothing is wrong, behind the field -/
structure Took (w w' : World) (r : Nat) (l' : List UInt8) (e : Nat) : Prop where
  some : ∃ l'', Rd w' r l'' e ∧ (e = 0 → l'' = l')
  only : Only r w w'

theorem QB.only {w w' : World} {q r r' : Nat} (h : QB w q r) (hb : Only r' w w') (hne : r' ≠ q) : QB w' q r := Blk.grown h hb (fun e => hne (by injection e with e; exact e.symm))
theorem Rd.ne {w : World} {r q r' e : Nat} {l : List UInt8} (h : Rd w r l e) (h' : QB w q r') : r ≠ q := by
  obtain ⟨A, m, c, h1, _⟩ := h.out
  exact RB.ne h1 h'

/-- what is known of a text -/
inductive Txt (l : List UInt8) (n : Nat) (l1 : List UInt8) (e1 : Nat) : List UInt8 × List UInt8 × Nat → Prop
  | take (h1 : n ≤ 65536) (h2 : n ≤ l1.length) (s l' : List UInt8) (hs : s = l1.take n) (hl : e1 = 0 → l' = l1.drop n) : Txt l n l1 e1 (s, l', e1)
  | long (h0 : e1 = 0) (h1 : 65536 < n) : Txt l n l1 e1 ([], l, 32)
  | short (h0 : e1 = 0) (h1 : n ≤ 65536) (h2 : l1.length < n) : Txt l n l1 e1 ([], l, 30)
theorem rtext_all (l : List UInt8) : Txt l (rnum l).1 (rnum l).2.1 (rnum l).2.2 (rtext l) := by
  unfold rtext
  by_cases h0 : (rnum l).2.2 = 0
  · rw [if_neg (by simpa using h0)]
    by_cases h1 : 65536 < (rnum l).1
    · rw [if_pos h1]; exact .long h0 h1
    · rw [if_neg h1]
      by_cases h2 : (rnum l).2.1.length < (rnum l).1
      · rw [if_pos h2]; exact .short h0 (by omega) h2
      · rw [if_neg h2]
        have h := Txt.take (l := l) (e1 := (rnum l).2.2) (Nat.le_of_not_lt h1) (Nat.le_of_not_lt h2) _ ((rnum l).2.1.drop (rnum l).1) rfl (fun _ => rfl)
        rw [h0] at h
        rw [h0]
        exact h
  · rw [if_pos (by simpa using h0)]
    obtain ⟨h1, h2⟩ := rnum_bad l h0
    exact .take (by omega) (by omega) _ _ (by rw [h1]; rfl) (fun h => absurd h h0)

theorem bst_nil : bst [] = ⟨#[]⟩ := rfl

set_option maxHeartbeats 2000000 in
theorem takeText_any (f : FuncId) (hf : Fails f) (q r : Nat) (l : List UInt8) (w : World) (hr : Rd w r l 0) (hq : QB w q r) :
    Calls Tryd.prog 74 #[.pointer (some ⟨r, 0, none⟩), .func (.func f) #[] #[.pointer (some ⟨q, 0, none⟩)]] w fun e w' =>
      e = .returned (.string (bst (rtext l).1)) ∧ Took w w' r (rtext l).2.1 (rtext l).2.2 := by
  have hen := hf.enters
  have hne := hr.ne hq
  have HNE := hid hne
  have HQ := hid hq
  have HT := hid (takeNum_any f hf q r l w hr hq)
  have hlt := rnum_lt l
  have hN := rtext_all l
  generalize rtext l = o at hN ⊢
  have HT2 := HT.out
  generalize rnum l = p at hN hlt HT2
  obtain ⟨n, l1, e1⟩ := p
  dsimp only at hN hlt HT2
  clear hr hq hne HT
  have hlt' : (n : Int) < 18446744073709551616 := by omega
  have HLT := hid hlt'
  clear hlt hlt'
  cases hN with
  | take h1 h2 s l' hs hl =>
    have HS := hid hs
    have HL := hid hl
    have HT := hid HT2
    clear hs hl HT2
    go_enter Tryd.func74, Tryd.ntmps74
    go_wp2_with fail
    go_fit HT.out
    rintro e w2 ⟨rfl, hr2, ho2⟩
    obtain ⟨A, m, c, hb, hm, hc, hl70, hA⟩ := hr2.out
    obtain ⟨A', hsl, hA'⟩ := slice_from (n := n) hA hm hc (by omega)
    have hcv : ∀ c', (convert 27 9 (.slice A n c')).run Tryd.prog w2 = .ok (.string (bst s)) w2 := fun c' => by rw [HS.out]; exact str_of (hA.take n) (by rw [List.length_take]; omega)
    have c0 := RB.c0 hb
    have f0 := RB.f0 hb
    have hmn : n ≤ m := by omega
    have hm70 : m ≤ 140737488351232 := by omega
    have HM := hid hm
    have HA' := hid hA'
    have HB := hid hb
    have HO := hid ho2
    have h7 := hid hl70
    clear hm hA hA' hb hr2 h2 hl70 ho2
    go_wp2_with fail
    go_ret
    refine ⟨rfl, ⟨l1.drop n, ⟨_, _, _, HB.out.set0, ?_, by omega, by have := h7.out; rw [List.length_drop]; omega, HA'.out.setR _⟩, fun h => (HL.out h).symm⟩, HO.out.set _⟩
    rw [List.length_drop, HM.out]
  | long h0 h1 =>
    obtain rfl : e1 = 0 := h0
    have HT := hid HT2
    clear HT2
    go_enter Tryd.func74, Tryd.ntmps74
    go_wp2_with fail
    go_fit HT.out
    rintro e w2 ⟨rfl, hr2, ho2⟩
    obtain ⟨A, m, c, hb, hm, hc, hl70, hA⟩ := hr2.out
    have HB := hid hb
    have HO := hid ho2
    have HR := hid hr2
    have HA := hid hA
    have HM := hid hm
    clear hb hr2 ho2 hA hm
    go_wp2_with fail
    go_fit (hf.first 32 q r A m c w2 HB.out (HQ.out.only HO.out HNE.out))
    rintro e w4 ⟨rfl, rfl⟩
    go_wp2_with fail
    go_ret
    exact ⟨rfl, ⟨l1, ⟨_, _, _, HB.out.set1, HM.out, hc, hl70, HA.out.setR _⟩, fun h => by cases h⟩, HO.out.set _⟩
  | short h0 h1 h2 =>
    obtain rfl : e1 = 0 := h0
    have HT := hid HT2
    clear HT2
    go_enter Tryd.func74, Tryd.ntmps74
    go_wp2_with fail
    go_fit HT.out
    rintro e w2 ⟨rfl, hr2, ho2⟩
    obtain ⟨A, m, c, hb, hm, hc, hl70, hA⟩ := hr2.out
    have HB := hid hb
    have HO := hid ho2
    have HR := hid hr2
    have HA := hid hA
    have HM := hid hm
    have hmn : m < n := by omega
    have hm70 : m ≤ 140737488351232 := by omega
    have c0 := RB.c0 hb
    have f0 := RB.f0 hb
    clear hb hr2 ho2 hA hm h2
    go_wp2_with fail
    go_fit (hf.first 30 q r A m c w2 HB.out (HQ.out.only HO.out HNE.out))
    rintro e w4 ⟨rfl, rfl⟩
    go_wp2_with fail
    go_ret
    exact ⟨rfl, ⟨l1, ⟨_, _, _, HB.out.set1, HM.out, hc, hl70, HA.out.setR _⟩, fun h => by cases h⟩, HO.out.set _⟩

end Go.Proofs.YtikggbopoajcbaaDoor

namespace Go.Proofs.YtikggbopoajcbaaDoor
open Go Go.RowKit

theorem At.head {w : World} {B : Nat} {A : Option Addr} {x : UInt8} {l : List UInt8} (h : At w B A (x :: l)) : ∃ b off, A = some ⟨b, off, none⟩ ∧ b < B ∧ w.cell? ⟨b, off, none⟩ = some (.int .u8 (x.toNat : Int)) := by
  obtain ⟨b, off, e, hb, hc⟩ := h (by simp)
  exact ⟨b, off, e, hb, by simpa using hc 0 x rfl⟩

structure FlagTook (w : World) (r : Nat) (o : Bool × List UInt8 × Nat) (e : Ending) (w' : World) : Prop where
  val : ∃ b : Bool, e = .returned (.bool b) ∧ (o.2.2 = 0 → b = o.1)
  took : Took w w' r o.2.1 o.2.2
structure CountTook (w : World) (r : Nat) (o : Nat × List UInt8 × Nat) (e : Ending) (w' : World) : Prop where
  val : ∃ x : Int, e = .returned (.int .i64 x) ∧ (o.2.2 = 0 → x = (o.1 : Int))
  took : Took w w' r o.2.1 o.2.2

set_option maxHeartbeats 2000000 in
theorem takeFlag_any (f : FuncId) (hf : Fails f) (q r : Nat) (l : List UInt8) (w : World) (hr : Rd w r l 0) (hq : QB w q r) :
    Calls Tryd.prog 69 #[.pointer (some ⟨r, 0, none⟩), .func (.func f) #[] #[.pointer (some ⟨q, 0, none⟩)]] w (FlagTook w r (rflag l)) := by
  have hen := hf.enters
  have HQ := hid hq
  obtain ⟨A, m, c, hb, hm, hc, hl70, hA⟩ := hr.out
  have HB := hid hb
  have HM := hid hm
  have HA := hid hA
  have HL := hid hl70
  have c0 := RB.c0 hb
  have f0 := RB.f0 hb
  have hm70 : m ≤ 140737488351232 := by omega
  rcases l with _ | ⟨x, l1⟩
  · have h0 : m ≤ 0 := by rw [hm]; simp
    have hm0 : ((m : Int) == 0) = true := by simp; omega
    clear hb hr hm hA hq hl70
    go_enter Tryd.func69, Tryd.ntmps69
    go_wp2_with fail
    go_fit (hf.first 30 q r A m c w HB.out HQ.out)
    rintro e w4 ⟨rfl, rfl⟩
    go_wp2_with fail
    go_ret
    exact ⟨⟨false, rfl, fun h => by cases h⟩, ⟨[], ⟨_, _, _, HB.out.set1, HM.out, hc, HL.out, HA.out.setR _⟩, fun h => by cases h⟩, (Only.refl r w).set _⟩
  · have h0 : 0 < m := by rw [hm]; simp
    obtain ⟨A', hsl0, hA'⟩ := slice_from (n := 1) hA hm hc h0
    have hsl : ∀ (k : IntKind) (W : World), (Instr.slice 27 (.slice A m c) (some (.int k 1)) none none).run Tryd.prog W = .ok (.slice A' (m - 1) (c - 1)) W := hsl0
    clear hsl0
    obtain ⟨b, off, rfl, hbr, hx⟩ := hA.head
    have hm0 : ((m : Int) == 0) = false := by simp; omega
    have hi0 : (0 : Int) < (m : Int) := by omega
    have HA' := hid hA'
    have hm1 : (l1.length : Nat) = m - 1 := by rw [hm]; simp
    have HM1 := hid hm1
    have HL1 := hid (show l1.length ≤ 140737488351232 by simp at hl70; omega)
    have hbne : b ≠ r := by omega
    have hc1 : m - 1 ≤ c - 1 := by omega
    clear hb hr hm hA hq hl70 hA' hm1
    by_cases h1 : 1 < x.toNat
    · have e : rflag (x :: l1) = (false, x :: l1, 33) := by simp only [rflag]; rw [if_pos h1]
      rw [e]
      have hi1 : (1 : Int) < (x.toNat : Int) := by omega
      go_enter Tryd.func69, Tryd.ntmps69
      go_wp2_with fail
      go_fit (hf.first 33 q r (some ⟨b, off, none⟩) m c w HB.out HQ.out)
      rintro e w4 ⟨rfl, rfl⟩
      go_wp2_with fail
      go_ret
      exact ⟨⟨_, rfl, fun h => by cases h⟩, ⟨l1, ⟨_, _, _, HB.out.set1.set0, HM1.out.symm, hc1, HL1.out, (HA'.out.setR _).setR _⟩, fun h => by cases h⟩, ((Only.refl r w).set _).set _⟩
    · have e : rflag (x :: l1) = (x.toNat == 1, l1, 0) := by simp only [rflag]; rw [if_neg h1]
      rw [e]
      have hi1 : ¬ (1 : Int) < (x.toNat : Int) := by omega
      go_enter Tryd.func69, Tryd.ntmps69
      go_wp2_with fail
      go_ret
      exact ⟨⟨_, rfl, fun _ => by rw [Bool.eq_iff_iff]; simp; omega⟩, ⟨l1, ⟨_, _, _, HB.out.set0, HM1.out.symm, hc1, HL1.out, HA'.out.setR _⟩, fun _ => rfl⟩, (Only.refl r w).set _⟩

/-- what is known of a count -/
inductive Cnt (most : Int) (l : List UInt8) (n : Nat) (l1 : List UInt8) (e1 : Nat) : Nat × List UInt8 × Nat → Prop
  | bad (h0 : e1 ≠ 0) (hn : n = 0) : Cnt most l n l1 e1 (0, l, e1)
  | long (h0 : e1 = 0) (h1 : most < 0 ∨ most < (n : Int)) : Cnt most l n l1 e1 (0, l, 32)
  | good (h0 : e1 = 0) (h1 : 0 ≤ most) (h2 : (n : Int) ≤ most) : Cnt most l n l1 e1 (n, l1, 0)
theorem rcount_all (most : Int) (l : List UInt8) : Cnt most l (rnum l).1 (rnum l).2.1 (rnum l).2.2 (rcount most l) := by
  unfold rcount
  by_cases h0 : (rnum l).2.2 = 0
  · rw [if_neg (by simpa using h0)]
    by_cases h1 : most < 0 ∨ most < ((rnum l).1 : Int)
    · rw [if_pos h1]; exact .long h0 h1
    · rw [if_neg h1]; exact .good h0 (by omega) (by omega)
  · rw [if_pos (by simpa using h0)]
    exact .bad h0 (rnum_bad l h0).1

def MB (w : World) (q : Nat) (most : Int) : Prop := Blk w q 3 #[.int .i64 most]

set_option maxHeartbeats 2000000 in
theorem takeCount_any (f : FuncId) (hf : Fails f) (q q1 q2 r : Nat) (most : Int) (l : List UInt8) (w : World) (hr : Rd w r l 0) (hq : QB w q r) (hq1 : QB w q1 r) (hq2 : MB w q2 most) (hmost : -9223372036854775808 ≤ most ∧ most ≤ 9223372036854775807) :
    Calls Tryd.prog 71 #[.func (.func f) #[] #[.pointer (some ⟨q, 0, none⟩)], .pointer (some ⟨q1, 0, none⟩), .pointer (some ⟨q2, 0, none⟩)] w (CountTook w r (rcount most l)) := by
  have hen := hf.enters
  have hne := hr.ne hq
  have hne2 : r ≠ q2 := by obtain ⟨A, m, c, h1, _⟩ := hr.out; exact Blk.ne h1 hq2 (by decide)
  have HNE := hid hne
  have HNE2 := hid hne2
  have HQ := hid hq
  have HQ2 := hid hq2
  have q10 := QB.c0 hq1
  have HT := hid (takeNum_any f hf q r l w hr hq)
  have hlt := rnum_lt l
  have hN := rcount_all most l
  generalize rcount most l = o at hN ⊢
  have HT2 := HT.out
  generalize rnum l = p at hN hlt HT2
  obtain ⟨n, l1, e1⟩ := p
  dsimp only at hN hlt HT2
  clear HT hr hq hq1 hq2 hne hne2
  have hlt' : (n : Int) < 18446744073709551616 := by omega
  have HLT := hid hlt'
  have HMO := hid hmost
  clear hlt hlt' hmost
  have HT := hid HT2
  clear HT2
  cases hN with
  | bad h0 hn =>
    subst hn
    by_cases hm : most < 0
    · go_enter Tryd.func71, Tryd.ntmps71
      go_wp2_with fail
      go_fit HT.out
      rintro e w2 ⟨rfl, hr2, ho2⟩
      obtain ⟨A, m, c, hb, hrest⟩ := hr2.out
      have HB := hid hb
      have HO := hid ho2
      have HR := hid hr2
      have q20 : w2.cell? ⟨q2, 0, none⟩ = some (.int .i64 most) := Blk.cell (Blk.grown HQ2.out ho2 (fun e => HNE2.out (by injection e with e; exact e.symm))) 0
      have h0' : (e1 : Int) ≠ 0 := by omega
      have H0 := hid h0'
      clear hb hrest hr2 ho2 h0 h0'
      go_wp2_with fail
      go_fit (hf.again 32 q r A m c e1 w2 H0.out HB.out (HQ.out.only HO.out HNE.out))
      rintro e w4 ⟨rfl, rfl⟩
      go_wp2_with fail
      go_ret
      exact ⟨⟨_, rfl, fun h => absurd h (show e1 ≠ 0 by have := H0.out; omega)⟩, ⟨_, HR.out, fun h => absurd h (show e1 ≠ 0 by have := H0.out; omega)⟩, HO.out⟩
    · have hz : (0 : Int) ≤ most := by omega
      go_enter Tryd.func71, Tryd.ntmps71
      go_wp2_with fail
      go_fit HT.out
      rintro e w2 ⟨rfl, hr2, ho2⟩
      have HO := hid ho2
      have HR := hid hr2
      have q20 : w2.cell? ⟨q2, 0, none⟩ = some (.int .i64 most) := Blk.cell (Blk.grown HQ2.out ho2 (fun e => HNE2.out (by injection e with e; exact e.symm))) 0
      have hw : IntKind.u64.wrap most = most := by have := HMO.out; rw [IntKind.wrap_u64]; omega
      have H0 := hid h0
      clear hr2 ho2 h0
      go_wp2_with fail
      go_ret
      exact ⟨⟨_, rfl, fun h => absurd h H0.out⟩, ⟨_, HR.out, fun h => absurd h H0.out⟩, HO.out⟩
  | long h0 h1 =>
    subst h0
    have hways : most < 0 ∨ (0 ≤ most ∧ most < (n : Int)) := by omega
    clear h1
    rcases hways with hm | ⟨hm, hm2⟩
    all_goals
      have hw : IntKind.u64.wrap most = most ∨ most < 0 := by have := HMO.out; rw [IntKind.wrap_u64]; omega
      have HW := hid hw
      clear hw
      go_enter Tryd.func71, Tryd.ntmps71
      go_wp2_with fail
      go_fit HT.out
      rintro e w2 ⟨rfl, hr2, ho2⟩
      obtain ⟨A, m, c, hb, hm1, hc, hl70, hA⟩ := hr2.out
      have HB := hid hb
      have HO := hid ho2
      have HR := hid hr2
      have HM := hid hm1
      have HA := hid hA
      have HC := hid hc
      have H7 := hid hl70
      have q20 : w2.cell? ⟨q2, 0, none⟩ = some (.int .i64 most) := Blk.cell (Blk.grown HQ2.out ho2 (fun e => HNE2.out (by injection e with e; exact e.symm))) 0
      clear hb hm1 hA hr2 ho2 hc hl70
      first
        | (have hw : IntKind.u64.wrap most = most := by have := HMO.out; rw [IntKind.wrap_u64]; omega)
        | skip
      go_wp2_with fail
      go_fit (hf.first 32 q r A m c w2 HB.out (HQ.out.only HO.out HNE.out))
      rintro e w4 ⟨rfl, rfl⟩
      go_wp2_with fail
      go_ret
      exact ⟨⟨_, rfl, fun h => by cases h⟩, ⟨l1, ⟨_, _, _, HB.out.set1, HM.out, HC.out, H7.out, HA.out.setR _⟩, fun h => by cases h⟩, HO.out.set _⟩
  | good h0 h1 h2 =>
    subst h0
    have hw : IntKind.u64.wrap most = most := by have := HMO.out; rw [IntKind.wrap_u64]; omega
    have hn : IntKind.i64.wrap (n : Int) = (n : Int) := by have := HMO.out; rw [IntKind.wrap_i64]; omega
    go_enter Tryd.func71, Tryd.ntmps71
    go_wp2_with fail
    go_fit HT.out
    rintro e w2 ⟨rfl, hr2, ho2⟩
    have HO := hid ho2
    have HR := hid hr2
    have q20 : w2.cell? ⟨q2, 0, none⟩ = some (.int .i64 most) := Blk.cell (Blk.grown HQ2.out ho2 (fun e => HNE2.out (by injection e with e; exact e.symm))) 0
    clear hr2 ho2
    go_wp2_with fail
    go_ret
    exact ⟨⟨_, rfl, fun _ => rfl⟩, ⟨_, HR.out, fun _ => rfl⟩, HO.out⟩

end Go.Proofs.YtikggbopoajcbaaDoor

namespace Go.Proofs.YtikggbopoajcbaaDoor
open Go Go.RowKit

theorem rtext_bad (l : List UInt8) (h : (rtext l).2.2 ≠ 0) : (rtext l).1 = [] ∧ (rtext l).2.1 = l := by
  unfold rtext at h ⊢
  by_cases h0 : (rnum l).2.2 = 0
  · rw [if_neg (by simpa using h0)] at h ⊢
    by_cases h1 : 65536 < (rnum l).1
    · rw [if_pos h1]; exact ⟨rfl, rfl⟩
    · rw [if_neg h1] at h ⊢
      by_cases h2 : (rnum l).2.1.length < (rnum l).1
      · rw [if_pos h2]; exact ⟨rfl, rfl⟩
      · rw [if_neg h2] at h; exact absurd rfl h
  · rw [if_pos (by simpa using h0)]; exact ⟨rfl, rfl⟩
theorem rflag_bad (l : List UInt8) (h : (rflag l).2.2 ≠ 0) : (rflag l).1 = false ∧ (rflag l).2.1 = l := by
  rcases l with _ | ⟨x, l⟩
  · exact ⟨rfl, rfl⟩
  · simp only [rflag] at h ⊢
    by_cases h1 : 1 < x.toNat
    · rw [if_pos h1]; exact ⟨rfl, rfl⟩
    · rw [if_neg h1] at h; exact absurd rfl h
theorem rcount_bad (most : Int) (l : List UInt8) (h : (rcount most l).2.2 ≠ 0) : (rcount most l).1 = 0 ∧ (rcount most l).2.1 = l := by
  unfold rcount at h ⊢
  by_cases h0 : (rnum l).2.2 = 0
  · rw [if_neg (by simpa using h0)] at h ⊢
    by_cases h1 : most < 0 ∨ most < ((rnum l).1 : Int)
    · rw [if_pos h1]; exact ⟨rfl, rfl⟩
    · rw [if_neg h1] at h; exact absurd rfl h
  · rw [if_pos (by simpa using h0)]; exact ⟨rfl, rfl⟩

set_option maxHeartbeats 2000000 in
theorem next_text (r : Nat) (l : List UInt8) (w : World) (hr : Rd w r l 0) (o : _) (ho : rtext l = o) :
    Calls Tryd.prog 73 #[.pointer (some ⟨r, 0, none⟩), .func (.func 74) #[.pointer (some ⟨r, 0, none⟩)] #[]] w fun e w' =>
      e = .returned (.string (bst o.1)) ∧ Rd w' r o.2.1 o.2.2 ∧ Only r w w' := by
  have HB1 : Below w.heap.size w (w.alloc (.cells #[.pointer (some ⟨r, 0, none⟩)] 69)) := (Below.refl _ _).alloc (Nat.le_refl _) _
  have HT0 := takeText_any 90 failsS w.heap.size r l _ (hr.step HB1) (Blk.new w _ _)
  rw [ho] at HT0
  have HT := hid HT0
  clear HT0
  obtain ⟨A, m, c, hb, hm, hc, hl70, hA⟩ := hr.out
  have hrlt := hr.lt
  have hrs : r ≠ w.heap.size := by omega
  have HRS := hid hrs
  have c0 := RB.c0 hb
  have c1 := RB.c1 hb
  have HB := hid hb
  have HM := hid hm
  have HA := hid hA
  have HL := hid hl70
  have HC := hid hc
  have HBB := hid HB1
  have H1 := hid (Only.of_below (r := r) HB1)
  have HLT := hid hrlt
  have HBAD := hid (fun h : o.2.2 ≠ 0 => (ho ▸ rtext_bad l (by rw [ho]; exact h) : _))
  clear hb hm hA hl70 hc ho hr hrs HB1
  by_cases hE : o.2.2 = 0
  · have HE := hid hE
    clear hE
    go_enter Tryd.func73, Tryd.ntmps73
    go_wp2_with fail
    go_fit HT.out
    rintro e w2 ⟨rfl, ht⟩
    skip
    obtain ⟨l2, hr2, hl2⟩ := ht.some
    obtain rfl := hl2 HE.out
    have HO := hid ht.only
    have HR := hid hr2
    obtain ⟨A2, m2, c2, hb2, hrest⟩ := hr2.out
    rw [HE.out] at hb2
    have d1 := RB.c1 hb2
    have q0 : w2.cell? ⟨w.heap.size, 0, none⟩ = some (.pointer (some ⟨r, 0, none⟩)) := Blk.cell (Blk.grown (Blk.new w _ _) HO.out (fun e => HRS.out (by injection e with e; exact e.symm))) 0
    clear hb2 hrest hr2 ht hl2
    go_wp2_with fail
    go_ret
    exact ⟨rfl, HR.out, H1.out.trans HO.out⟩
  · have hE1 : ((o.2.2 : Int) != 0) = true := by simpa using hE
    have Z := hid (HBAD.out hE)
    have HE := hid hE
    clear hE
    go_enter Tryd.func73, Tryd.ntmps73
    go_wp2_with fail
    go_fit HT.out
    rintro e w2 ⟨rfl, ht⟩
    skip
    obtain ⟨l2, hr2, hl2⟩ := ht.some
    have HO := hid ht.only
    obtain ⟨A2, m2, c2, hb2, hrest⟩ := hr2.out
    have d1 := RB.c1 hb2
    have d0 := RB.c0 hb2
    have f0 := RB.f0 hb2
    have HB2 := hid hb2
    have q0 : w2.cell? ⟨w.heap.size, 0, none⟩ = some (.pointer (some ⟨r, 0, none⟩)) := Blk.cell (Blk.grown (Blk.new w _ _) HO.out (fun e => HRS.out (by injection e with e; exact e.symm))) 0
    clear hb2 hrest hr2 ht hl2
    go_wp2_with fail
    go_ret
    refine ⟨by rw [Z.out.1]; rfl, ?_, (H1.out.trans HO.out).set _⟩
    rw [Z.out.2]
    exact ⟨_, _, _, HB2.out.set0, HM.out, HC.out, HL.out, ((HA.out.below (HBB.out.mono (Nat.le_of_lt HLT.out))).only HO.out (Nat.le_refl _) (by have := HLT.out; simp; omega)).setR _⟩

set_option maxHeartbeats 2000000 in
theorem next_text_not (r e0 : Nat) (l : List UInt8) (w : World) (hr : Rd w r l e0) (he : e0 ≠ 0) :
    Calls Tryd.prog 73 #[.pointer (some ⟨r, 0, none⟩), .func (.func 74) #[.pointer (some ⟨r, 0, none⟩)] #[]] w fun e w' =>
      e = .returned (.string (bst [])) ∧ Rd w' r l e0 ∧ Only r w w' := by
  obtain ⟨A, m, c, hb, hrest⟩ := hr.out
  have hrlt := hr.lt
  have c1 := RB.c1 hb
  have hE1 : ((e0 : Int) != 0) = true := by simpa using he
  have HB1 := hid (show Below w.heap.size w (w.alloc (.cells #[.pointer (some ⟨r, 0, none⟩)] 69)) from (Below.refl _ _).alloc (Nat.le_refl _) _)
  have HR := hid hr
  clear hb hrest he hr
  go_enter Tryd.func73, Tryd.ntmps73
  go_wp2_with fail
  go_ret
  exact ⟨rfl, HR.out.step HB1.out, Only.of_below HB1.out⟩

set_option maxHeartbeats 2000000 in
theorem next_flag (r : Nat) (l : List UInt8) (w : World) (hr : Rd w r l 0) (o : _) (ho : rflag l = o) :
    Calls Tryd.prog 68 #[.pointer (some ⟨r, 0, none⟩), .func (.func 69) #[.pointer (some ⟨r, 0, none⟩)] #[]] w fun e w' =>
      e = .returned (.bool o.1) ∧ Rd w' r o.2.1 o.2.2 ∧ Only r w w' := by
  have HB1 : Below w.heap.size w (w.alloc (.cells #[.pointer (some ⟨r, 0, none⟩)] 69)) := (Below.refl _ _).alloc (Nat.le_refl _) _
  have HT0 := takeFlag_any 87 failsB w.heap.size r l _ (hr.step HB1) (Blk.new w _ _)
  rw [ho] at HT0
  have HT := hid HT0
  clear HT0
  obtain ⟨A, m, c, hb, hm, hc, hl70, hA⟩ := hr.out
  have hrlt := hr.lt
  have hrs : r ≠ w.heap.size := by omega
  have HRS := hid hrs
  have c0 := RB.c0 hb
  have c1 := RB.c1 hb
  have HB := hid hb
  have HM := hid hm
  have HA := hid hA
  have HL := hid hl70
  have HC := hid hc
  have HBB := hid HB1
  have H1 := hid (Only.of_below (r := r) HB1)
  have HLT := hid hrlt
  have HBAD := hid (fun h : o.2.2 ≠ 0 => (ho ▸ rflag_bad l (by rw [ho]; exact h) : _))
  clear hb hm hA hl70 hc ho hr hrs HB1
  by_cases hE : o.2.2 = 0
  · have HE := hid hE
    clear hE
    go_enter Tryd.func68, Tryd.ntmps68
    go_wp2_with fail
    go_fit HT.out
    rintro e w2 ⟨⟨x, rfl, hval⟩, ht⟩
    have HV := hid hval
    clear hval
    obtain ⟨l2, hr2, hl2⟩ := ht.some
    obtain rfl := hl2 HE.out
    have HO := hid ht.only
    have HR := hid hr2
    obtain ⟨A2, m2, c2, hb2, hrest⟩ := hr2.out
    rw [HE.out] at hb2
    have d1 := RB.c1 hb2
    have q0 : w2.cell? ⟨w.heap.size, 0, none⟩ = some (.pointer (some ⟨r, 0, none⟩)) := Blk.cell (Blk.grown (Blk.new w _ _) HO.out (fun e => HRS.out (by injection e with e; exact e.symm))) 0
    clear hb2 hrest hr2 ht hl2
    go_wp2_with fail
    go_ret
    exact ⟨by rw [HV.out HE.out]; rfl, HR.out, H1.out.trans HO.out⟩
  · have hE1 : ((o.2.2 : Int) != 0) = true := by simpa using hE
    have Z := hid (HBAD.out hE)
    have HE := hid hE
    clear hE
    go_enter Tryd.func68, Tryd.ntmps68
    go_wp2_with fail
    go_fit HT.out
    rintro e w2 ⟨⟨x, rfl, hval⟩, ht⟩
    have HV := hid hval
    clear hval
    obtain ⟨l2, hr2, hl2⟩ := ht.some
    have HO := hid ht.only
    obtain ⟨A2, m2, c2, hb2, hrest⟩ := hr2.out
    have d1 := RB.c1 hb2
    have d0 := RB.c0 hb2
    have f0 := RB.f0 hb2
    have HB2 := hid hb2
    have q0 : w2.cell? ⟨w.heap.size, 0, none⟩ = some (.pointer (some ⟨r, 0, none⟩)) := Blk.cell (Blk.grown (Blk.new w _ _) HO.out (fun e => HRS.out (by injection e with e; exact e.symm))) 0
    clear hb2 hrest hr2 ht hl2
    go_wp2_with fail
    go_ret
    refine ⟨by rw [Z.out.1]; rfl, ?_, (H1.out.trans HO.out).set _⟩
    rw [Z.out.2]
    exact ⟨_, _, _, HB2.out.set0, HM.out, HC.out, HL.out, ((HA.out.below (HBB.out.mono (Nat.le_of_lt HLT.out))).only HO.out (Nat.le_refl _) (by have := HLT.out; simp; omega)).setR _⟩

set_option maxHeartbeats 2000000 in
theorem next_flag_not (r e0 : Nat) (l : List UInt8) (w : World) (hr : Rd w r l e0) (he : e0 ≠ 0) :
    Calls Tryd.prog 68 #[.pointer (some ⟨r, 0, none⟩), .func (.func 69) #[.pointer (some ⟨r, 0, none⟩)] #[]] w fun e w' =>
      e = .returned (.bool false) ∧ Rd w' r l e0 ∧ Only r w w' := by
  obtain ⟨A, m, c, hb, hrest⟩ := hr.out
  have hrlt := hr.lt
  have c1 := RB.c1 hb
  have hE1 : ((e0 : Int) != 0) = true := by simpa using he
  have HB1 := hid (show Below w.heap.size w (w.alloc (.cells #[.pointer (some ⟨r, 0, none⟩)] 69)) from (Below.refl _ _).alloc (Nat.le_refl _) _)
  have HR := hid hr
  clear hb hrest he hr
  go_enter Tryd.func68, Tryd.ntmps68
  go_wp2_with fail
  go_ret
  exact ⟨rfl, HR.out.step HB1.out, Only.of_below HB1.out⟩

set_option maxHeartbeats 2000000 in
theorem next_count (r : Nat) (l : List UInt8) (w : World) (q1 q2 : Nat) (most : Int) (hq1 : QB w q1 r) (hq2 : MB w q2 most) (hmost : -9223372036854775808 ≤ most ∧ most ≤ 9223372036854775807) (hr : Rd w r l 0) (o : _) (ho : rcount most l = o) :
    Calls Tryd.prog 70 #[.pointer (some ⟨r, 0, none⟩), .func (.func 71) #[] #[.pointer (some ⟨q1, 0, none⟩), .pointer (some ⟨q2, 0, none⟩)]] w fun e w' =>
      e = .returned (.int .i64 (o.1 : Int)) ∧ Rd w' r o.2.1 o.2.2 ∧ Only r w w' := by
  have HB1 : Below w.heap.size w (w.alloc (.cells #[.pointer (some ⟨r, 0, none⟩)] 69)) := (Below.refl _ _).alloc (Nat.le_refl _) _
  have HT0 := takeCount_any 88 failsI w.heap.size q1 q2 r most l _ (hr.step HB1) (Blk.new w _ _) (Blk.alloc hq1 _) (Blk.alloc hq2 _) hmost
  rw [ho] at HT0
  have HT := hid HT0
  clear HT0
  obtain ⟨A, m, c, hb, hm, hc, hl70, hA⟩ := hr.out
  have hrlt := hr.lt
  have hrs : r ≠ w.heap.size := by omega
  have HRS := hid hrs
  have c0 := RB.c0 hb
  have c1 := RB.c1 hb
  have HB := hid hb
  have HM := hid hm
  have HA := hid hA
  have HL := hid hl70
  have HC := hid hc
  have HBB := hid HB1
  have H1 := hid (Only.of_below (r := r) HB1)
  have HLT := hid hrlt
  have HBAD := hid (fun h : o.2.2 ≠ 0 => (ho ▸ rcount_bad most l (by rw [ho]; exact h) : _))
  clear hb hm hA hl70 hc ho hr hrs HB1
  by_cases hE : o.2.2 = 0
  · have HE := hid hE
    clear hE
    go_enter Tryd.func70, Tryd.ntmps70
    go_wp2_with fail
    go_fit HT.out
    rintro e w2 ⟨⟨x, rfl, hval⟩, ht⟩
    have HV := hid hval
    clear hval
    obtain ⟨l2, hr2, hl2⟩ := ht.some
    obtain rfl := hl2 HE.out
    have HO := hid ht.only
    have HR := hid hr2
    obtain ⟨A2, m2, c2, hb2, hrest⟩ := hr2.out
    rw [HE.out] at hb2
    have d1 := RB.c1 hb2
    have q0 : w2.cell? ⟨w.heap.size, 0, none⟩ = some (.pointer (some ⟨r, 0, none⟩)) := Blk.cell (Blk.grown (Blk.new w _ _) HO.out (fun e => HRS.out (by injection e with e; exact e.symm))) 0
    clear hb2 hrest hr2 ht hl2
    go_wp2_with fail
    go_ret
    exact ⟨by rw [HV.out HE.out]; rfl, HR.out, H1.out.trans HO.out⟩
  · have hE1 : ((o.2.2 : Int) != 0) = true := by simpa using hE
    have Z := hid (HBAD.out hE)
    have HE := hid hE
    clear hE
    go_enter Tryd.func70, Tryd.ntmps70
    go_wp2_with fail
    go_fit HT.out
    rintro e w2 ⟨⟨x, rfl, hval⟩, ht⟩
    have HV := hid hval
    clear hval
    obtain ⟨l2, hr2, hl2⟩ := ht.some
    have HO := hid ht.only
    obtain ⟨A2, m2, c2, hb2, hrest⟩ := hr2.out
    have d1 := RB.c1 hb2
    have d0 := RB.c0 hb2
    have f0 := RB.f0 hb2
    have HB2 := hid hb2
    have q0 : w2.cell? ⟨w.heap.size, 0, none⟩ = some (.pointer (some ⟨r, 0, none⟩)) := Blk.cell (Blk.grown (Blk.new w _ _) HO.out (fun e => HRS.out (by injection e with e; exact e.symm))) 0
    clear hb2 hrest hr2 ht hl2
    go_wp2_with fail
    go_ret
    refine ⟨by rw [Z.out.1]; rfl, ?_, (H1.out.trans HO.out).set _⟩
    rw [Z.out.2]
    exact ⟨_, _, _, HB2.out.set0, HM.out, HC.out, HL.out, ((HA.out.below (HBB.out.mono (Nat.le_of_lt HLT.out))).only HO.out (Nat.le_refl _) (by have := HLT.out; simp; omega)).setR _⟩

set_option maxHeartbeats 2000000 in
theorem next_count_not (r e0 : Nat) (l : List UInt8) (w : World) (q1 q2 : Nat) (hr : Rd w r l e0) (he : e0 ≠ 0) :
    Calls Tryd.prog 70 #[.pointer (some ⟨r, 0, none⟩), .func (.func 71) #[] #[.pointer (some ⟨q1, 0, none⟩), .pointer (some ⟨q2, 0, none⟩)]] w fun e w' =>
      e = .returned (.int .i64 0) ∧ Rd w' r l e0 ∧ Only r w w' := by
  obtain ⟨A, m, c, hb, hrest⟩ := hr.out
  have hrlt := hr.lt
  have c1 := RB.c1 hb
  have hE1 : ((e0 : Int) != 0) = true := by simpa using he
  have HB1 := hid (show Below w.heap.size w (w.alloc (.cells #[.pointer (some ⟨r, 0, none⟩)] 69)) from (Below.refl _ _).alloc (Nat.le_refl _) _)
  have HR := hid hr
  clear hb hrest he hr
  go_enter Tryd.func70, Tryd.ntmps70
  go_wp2_with fail
  go_ret
  exact ⟨rfl, HR.out.step HB1.out, Only.of_below HB1.out⟩

end Go.Proofs.YtikggbopoajcbaaDoor

namespace Go.Proofs.YtikggbopoajcbaaDoor
open Go Go.RowKit

set_option maxHeartbeats 1000000 in
theorem get_text (r : Nat) (l : List UInt8) (w : World) (hr : Rd w r l 0) :
    Calls Tryd.prog 50 #[.pointer (some ⟨r, 0, none⟩)] w fun e w' =>
      e = .returned (.string (bst (rtext l).1)) ∧ Rd w' r (rtext l).2.1 (rtext l).2.2 ∧ Only r w w' := by
  have H := hid (next_text r l w hr _ rfl) -- of 73
  clear hr
  go_enter Tryd.func50, Tryd.ntmps50
  go_wp2_with fail
  go_fit H.out
  rintro e w2 ⟨rfl, h1, h2⟩
  go_wp2_with fail
  go_ret
  exact ⟨rfl, h1, h2⟩
set_option maxHeartbeats 1000000 in
theorem get_text_not (r e0 : Nat) (l : List UInt8) (w : World) (hr : Rd w r l e0) (he : e0 ≠ 0) :
    Calls Tryd.prog 50 #[.pointer (some ⟨r, 0, none⟩)] w fun e w' =>
      e = .returned (.string (bst [])) ∧ Rd w' r l e0 ∧ Only r w w' := by
  have H := hid (next_text_not r e0 l w hr he) -- of 73
  clear hr he
  go_enter Tryd.func50, Tryd.ntmps50
  go_wp2_with fail
  go_fit H.out
  rintro e w2 ⟨rfl, h1, h2⟩
  go_wp2_with fail
  go_ret
  exact ⟨rfl, h1, h2⟩

set_option maxHeartbeats 1000000 in
theorem get_flag (r : Nat) (l : List UInt8) (w : World) (hr : Rd w r l 0) :
    Calls Tryd.prog 47 #[.pointer (some ⟨r, 0, none⟩)] w fun e w' =>
      e = .returned (.bool (rflag l).1) ∧ Rd w' r (rflag l).2.1 (rflag l).2.2 ∧ Only r w w' := by
  have H := hid (next_flag r l w hr _ rfl) -- of 68
  clear hr
  go_enter Tryd.func47, Tryd.ntmps47
  go_wp2_with fail
  go_fit H.out
  rintro e w2 ⟨rfl, h1, h2⟩
  go_wp2_with fail
  go_ret
  exact ⟨rfl, h1, h2⟩
set_option maxHeartbeats 1000000 in
theorem get_flag_not (r e0 : Nat) (l : List UInt8) (w : World) (hr : Rd w r l e0) (he : e0 ≠ 0) :
    Calls Tryd.prog 47 #[.pointer (some ⟨r, 0, none⟩)] w fun e w' =>
      e = .returned (.bool false) ∧ Rd w' r l e0 ∧ Only r w w' := by
  have H := hid (next_flag_not r e0 l w hr he) -- of 68
  clear hr he
  go_enter Tryd.func47, Tryd.ntmps47
  go_wp2_with fail
  go_fit H.out
  rintro e w2 ⟨rfl, h1, h2⟩
  go_wp2_with fail
  go_ret
  exact ⟨rfl, h1, h2⟩

set_option maxHeartbeats 1000000 in
theorem get_count (r : Nat) (most : Int) (hmost : -9223372036854775808 ≤ most ∧ most ≤ 9223372036854775807) (l : List UInt8) (w : World) (hr : Rd w r l 0) :
    Calls Tryd.prog 48 #[.pointer (some ⟨r, 0, none⟩), .int .i64 most] w fun e w' =>
      e = .returned (.int .i64 ((rcount most l).1 : Int)) ∧ Rd w' r (rcount most l).2.1 (rcount most l).2.2 ∧ Only r w w' := by
  have HB0 : Below w.heap.size w (w.alloc (.cells #[.pointer (some ⟨r, 0, none⟩)] 69)) := (Below.refl _ _).alloc (Nat.le_refl _) _
  have HB1 : Below w.heap.size w ((w.alloc (.cells #[.pointer (some ⟨r, 0, none⟩)] 69)).alloc (.cells #[.int .i64 most] 3)) := HB0.alloc HB0.size _
  have hs : (w.alloc (.cells #[.pointer (some ⟨r, 0, none⟩)] 69)).heap.size = w.heap.size + 1 := by simp
  have hm2 := Blk.new (w.alloc (.cells #[.pointer (some ⟨r, 0, none⟩)] 69)) 3 #[.int .i64 most]
  rw [hs] at hm2
  have H := hid (next_count r l _ w.heap.size (w.heap.size + 1) most (Blk.alloc (Blk.new w _ _) _) hm2 hmost (hr.step HB1) _ rfl)
  have HO := hid (Only.of_below (r := r) HB1)
  clear hr hmost HB0 HB1 hm2 hs
  go_enter Tryd.func48, Tryd.ntmps48
  go_wp2_with fail
  go_fit H.out
  rintro e w2 ⟨rfl, h1, h2⟩
  go_wp2_with fail
  go_ret
  exact ⟨rfl, h1, HO.out.trans h2⟩
set_option maxHeartbeats 1000000 in
theorem get_count_not (r e0 : Nat) (most : Int) (l : List UInt8) (w : World) (hr : Rd w r l e0) (he : e0 ≠ 0) :
    Calls Tryd.prog 48 #[.pointer (some ⟨r, 0, none⟩), .int .i64 most] w fun e w' =>
      e = .returned (.int .i64 0) ∧ Rd w' r l e0 ∧ Only r w w' := by
  have HB0 : Below w.heap.size w (w.alloc (.cells #[.pointer (some ⟨r, 0, none⟩)] 69)) := (Below.refl _ _).alloc (Nat.le_refl _) _
  have HB1 : Below w.heap.size w ((w.alloc (.cells #[.pointer (some ⟨r, 0, none⟩)] 69)).alloc (.cells #[.int .i64 most] 3)) := HB0.alloc HB0.size _
  have H := hid (next_count_not r e0 l _ w.heap.size (w.heap.size + 1) (hr.step HB1) he)
  have HO := hid (Only.of_below (r := r) HB1)
  clear hr HB0 HB1 he
  go_enter Tryd.func48, Tryd.ntmps48
  go_wp2_with fail
  go_fit H.out
  rintro e w2 ⟨rfl, h1, h2⟩
  go_wp2_with fail
  go_ret
  exact ⟨rfl, h1, HO.out.trans h2⟩

/-- what End says -/
def endOf (l : List UInt8) (e : Nat) : Nat := if e = 0 ∧ 0 < l.length then 31 else e
set_option maxHeartbeats 1000000 in
theorem end_any (r e0 : Nat) (l : List UInt8) (w : World) (hr : Rd w r l e0) :
    Calls Tryd.prog 51 #[.pointer (some ⟨r, 0, none⟩)] w fun e w' => e = .returned (.int .i64 (endOf l e0 : Int)) ∧ w = w' := by
  obtain ⟨A, m, c, hb, hm, hc, hl70, hA⟩ := hr.out
  have c1 := RB.c1 hb
  have c0 := RB.c0 hb
  by_cases h0 : e0 = 0
  · subst h0
    by_cases h1 : 0 < l.length
    · have e : endOf l 0 = 31 := by unfold endOf; rw [if_pos ⟨rfl, h1⟩]
      rw [e]
      have hm1 : 0 < m := by omega
      have hi : (0 : Int) < (m : Int) := by omega
      clear hr hb hm hA
      go_enter Tryd.func51, Tryd.ntmps51
      go_wp2_with fail
      go_ret
      exact ⟨rfl, rfl⟩
    · have e : endOf l 0 = 0 := by unfold endOf; rw [if_neg (by omega)]
      rw [e]
      obtain rfl : m = 0 := by omega
      clear hr hb hm hA
      go_enter Tryd.func51, Tryd.ntmps51
      go_wp2_with fail
      go_ret
      exact ⟨rfl, rfl⟩
  · have e : endOf l e0 = e0 := by unfold endOf; rw [if_neg (by omega)]
    rw [e]
    have hE : ((e0 : Int) == 0) = false := by simpa using h0
    clear hr hb hm hA h0
    go_enter Tryd.func51, Tryd.ntmps51
    go_wp2_with fail
    go_ret
    exact ⟨rfl, rfl⟩

end Go.Proofs.YtikggbopoajcbaaDoor

namespace Go.Proofs.YtikggbopoajcbaaDoor
open Go Go.RowKit

theorem row_nil (w : World) (base : Nat) (e : TypeId) (c : Nat) (h : c = 0) : Row w base e none 0 c [] := by subst h; exact ⟨rfl, rfl, .inl ⟨rfl, rfl⟩⟩

set_option maxHeartbeats 1000000 in
theorem clone_any {A : Option Addr} {m c B : Nat} {l : List UInt8} {w : World} (hA : At w B A l) (hm : m = l.length) (hB : B ≤ w.heap.size) (hl : l.length ≤ 140737488351232) :
    Calls Tryd.prog 62 #[.slice A m c] w fun e w' => ∃ A' m' c', e = .returned (.slice A' m' c') ∧ Row w' w.heap.size 5 A' m' c' l ∧ Below w.heap.size w w' := by
  obtain ⟨i0, hi, hz0, hz1, hz2⟩ := info_parts info_byte
  rcases A with _ | ad
  · have hn : l = [] := by
      rcases l with _ | ⟨x, l⟩
      · rfl
      · obtain ⟨_, _, h, _⟩ := hA (by simp)
        cases h
    subst hn
    have heq : ∀ W, (binOp .eql 27 (.slice none m c) (.slice none 0 0)).run Tryd.prog W = .ok (.bool true) W := fun W => Lib.run_eql_slice_nil (P := Tryd.prog) W 27 5 none m c 0 0 Tryd.underlying27
    clear hm hA
    go_enter Tryd.func62, Tryd.ntmps62
    go_wp2_with fail
    go_ret
    exact ⟨none, 0, 0, rfl, row_nil _ _ _ _ rfl, Below.refl _ _⟩
  · have heq : ∀ W, (binOp .eql 27 (.slice (some ad) m c) (.slice none 0 0)).run Tryd.prog W = .ok (.bool false) W := fun W => Lib.run_eql_slice_nil (P := Tryd.prog) W 27 5 (some ad) m c 0 0 Tryd.underlying27
    have HI := hid hi
    have HZ0 := hid hz0
    have HZ1 := hid hz1
    have HZ2 := hid hz2
    have HM := hid hm
    have HA := hid hA
    clear hi hz0 hz1 hz2 hm hA
    go_enter Tryd.func62, Tryd.ntmps62
    go_wp2_with (at_builtin; go_must (refine wpList_append_bs _ rfl _ _ _ rfl w.heap.size 5 i0 Tryd.underlying27 HI.out HZ0.out HZ1.out HZ2.out (.slice (some ⟨w.heap.size, 0, none⟩) 0 0) [] l rfl (own_empty w _) (some ad) m c rfl HM.out ?pos ?len ?base ?_))
    case pos => exact (HA.out.below ((Below.refl _ _).alloc hB _)).more (by simp; omega)
    case len => simp; omega
    case base => simp
    intro A' c' w' hown hg _
    have hb : Below w.heap.size w w' := ((Below.refl w.heap.size w).alloc (Nat.le_refl _) _).grown hg (by simp) (fun k hk => by simp [Value.ownBlock] at hk; omega)
    go_wp2_with fail
    go_ret
    exact ⟨_, _, _, rfl, ⟨rfl, hown⟩, hb⟩

structure IsRd (w : World) (l : List UInt8) (e : Ending) (w' : World) : Prop where
  out : ∃ r, e = .returned (.pointer (some ⟨r, 0, none⟩)) ∧ Rd w' r l 0 ∧ w.heap.size ≤ r ∧ Below w.heap.size w w'
set_option maxHeartbeats 1000000 in
theorem read_any {A : Option Addr} {m c B : Nat} {l : List UInt8} {w : World} (hA : At w B A l) (hm : m = l.length) (hB : B ≤ w.heap.size) (hl : l.length ≤ 140737488351232) :
    Calls Tryd.prog 46 #[.slice A m c] w (IsRd w l) := by
  have H := hid (clone_any (c := c) hA hm hB hl)
  have HL := hid hl
  clear hA hm hl
  go_enter Tryd.func46, Tryd.ntmps46
  go_wp2_with fail
  go_fit H.out
  rintro e w2 ⟨A', m', c', rfl, h1, h2⟩
  have HR := hid h1
  have HB := hid h2
  clear h1 h2
  go_wp2_with fail
  go_ret
  exact ⟨_, rfl, ⟨_, _, _, Blk.new w2 _ _, HR.out.1, row_cap HR.out, HL.out, HR.out.at_.keep fun p hp => World.cell?_alloc_lt w2 _ p hp⟩, HB.out.size, HB.out.alloc HB.out.size _⟩

end Go.Proofs.YtikggbopoajcbaaDoor

namespace Go.Proofs.YtikggbopoajcbaaDoor
open Go Go.RowKit

/-- a writer: the bytes of its fields, in a row of its own, and what went wrong first -/
def WB (w : World) (p : Nat) (A : Option Addr) (m c : Nat) (e : Int) : Prop := Blk w p 87 #[.slice A m c, .int .i64 e]
structure Wr (w : World) (base p : Nat) (l : List UInt8) (e : Nat) : Prop where
  out : ∃ A m c, WB w p A m c (e : Int) ∧ Row w base 5 A m c l ∧ base ≤ p
theorem WB.c0 {w : World} {p m c : Nat} {A : Option Addr} {e : Int} (h : WB w p A m c e) : w.cell? ⟨p, 0, none⟩ = some (.slice A m c) := Blk.cell h 0
theorem WB.c1 {w : World} {p m c : Nat} {A : Option Addr} {e : Int} (h : WB w p A m c e) : w.cell? ⟨p, 1, none⟩ = some (.int .i64 e) := Blk.cell h 1
theorem WB.f0 {w : World} {p m c : Nat} {A : Option Addr} {e : Int} (h : WB w p A m c e) : w.frozen? ⟨p, 0, none⟩ = false := Blk.free h 0
theorem WB.f1 {w : World} {p m c : Nat} {A : Option Addr} {e : Int} (h : WB w p A m c e) : w.frozen? ⟨p, 1, none⟩ = false := Blk.free h 1
theorem WB.set0 {w : World} {p m c m' c' : Nat} {A A' : Option Addr} {e : Int} (h : WB w p A m c e) : WB (w.setCell ⟨p, 0, none⟩ (.slice A' m' c')) p A' m' c' e := Blk.set h 0 _
theorem WB.set1 {w : World} {p m c : Nat} {A : Option Addr} {e e' : Int} (h : WB w p A m c e) : WB (w.setCell ⟨p, 1, none⟩ (.int .i64 e')) p A m c e' := Blk.set h 1 _
theorem Wr.lt {w : World} {base p e : Nat} {l : List UInt8} (h : Wr w base p l e) : p < w.heap.size := by
  obtain ⟨A, m, c, h1, _⟩ := h.out
  exact Blk.lt h1
theorem Wr.base {w : World} {base p e : Nat} {l : List UInt8} (h : Wr w base p l e) : base ≤ w.heap.size := by
  have h1 := h.lt
  obtain ⟨A, m, c, _, _, h2⟩ := h.out
  omega
theorem own_ne_blk {w : World} {base n b : Nat} {e tv : TypeId} {v : Value} {xs : List Value} {cs : Array Value} (h : w.ownsRow base e 1 v n xs) (hb : Blk w b tv cs) (hne : e ≠ tv) : v.ownBlock ≠ some b := by
  rcases h.2 with ⟨rfl, _⟩ | ⟨g, cap, cur, rfl, _, hg, _⟩
  · simp [Value.ownBlock]
  · intro he
    have : g = b := by simpa [Value.ownBlock] using he
    subst this
    exact Blk.ne (t := e) hg hb hne rfl
theorem Wr.step {w w' : World} {base p e : Nat} {l : List UInt8} (h : Wr w base p l e) (hb : Below w.heap.size w w') : Wr w' base p l e := by
  obtain ⟨A, m, c, h1, h2, h3⟩ := h.out
  exact ⟨A, m, c, Blk.below h1 hb (Blk.lt h1), h2.below hb, h3⟩
/-- behind a turn of a block below its base alone -/
theorem Wr.only {w w' : World} {base p e r : Nat} {l : List UInt8} (h : Wr w base p l e) (hb : Only r w w') (hr : r < base) : Wr w' base p l e := by
  obtain ⟨A, m, c, h1, h2, h3⟩ := h.out
  refine ⟨A, m, c, Blk.grown h1 hb (fun e => by injection e with e; omega), ⟨h2.1, h2.2.1, ?_⟩, h3⟩
  rcases h2.2.2 with h4 | ⟨g, cap, cur, hv, hg, hh, h5⟩
  · exact .inl h4
  · exact .inr ⟨g, cap, cur, hv, hg, (hb.block g (lt_of_block hh) (fun e => by injection e with e; omega)).trans hh, h5⟩

/-- what a writer's call leaves as it was: what lies below its base, and each block that is neither bytes nor a writer -/
structure Keeps (base : Nat) (w w' : World) : Prop where
  below : Below base w w'
  kept : ∀ (g : Nat) (t : TypeId) (cs : Array Value), t ≠ 5 → t ≠ 87 → Blk w g t cs → Blk w' g t cs
theorem Keeps.refl (base : Nat) (w : World) : Keeps base w w := ⟨Below.refl _ _, fun _ _ _ _ _ h => h⟩
theorem Keeps.trans {base : Nat} {a b c : World} (h : Keeps base a b) (k : Keeps base b c) : Keeps base a c :=
  ⟨h.below.trans k.below, fun g t cs h1 h2 hb => k.kept g t cs h1 h2 (h.kept g t cs h1 h2 hb)⟩
theorem Keeps.of {base : Nat} {w w' : World} (h : Below w.heap.size w w') (hb : base ≤ w.heap.size) : Keeps base w w' :=
  ⟨h.mono hb, fun _ _ _ _ _ hk => Blk.below hk h hk.lt⟩
theorem Keeps.set {base : Nat} {a w : World} {p i m c : Nat} {A : Option Addr} {e : Int} (h : Keeps base a w) (hw : WB w p A m c e) (hp : base ≤ p) (u : Value) : Keeps base a (w.setCell ⟨p, i, none⟩ u) :=
  ⟨h.below.setCell hp u, fun g t cs h1 h2 hb => Blk.far (h.kept g t cs h1 h2 hb) (show g ≠ p from Blk.ne (h.kept g t cs h1 h2 hb) (show Blk w p 87 _ from hw) h2) u⟩

set_option maxHeartbeats 1000000 in
theorem write_any (w : World) :
    Calls Tryd.prog 32 #[] w fun e w' => e = .returned (.pointer (some ⟨w.heap.size, 0, none⟩)) ∧ Wr w' w.heap.size w.heap.size [] 0 ∧ Below w.heap.size w w' := by
  go_enter Tryd.func32, Tryd.ntmps32
  go_wp2_with fail
  go_ret
  exact ⟨rfl, ⟨_, _, _, Blk.new w _ _, row_nil _ _ _ _ rfl, Nat.le_refl _⟩, (Below.refl _ _).alloc (Nat.le_refl _) _⟩

set_option maxHeartbeats 1000000 in
theorem push_any {base p B n c' : Nat} {A' : Option Addr} {l news : List UInt8} {w : World} (h : Wr w base p l 0) (hA : At w B A' news) (hn : n = news.length) (hB : B ≤ w.heap.size) (hl : l.length + news.length ≤ 70368744177664) :
    Calls Tryd.prog 60 #[.pointer (some ⟨p, 0, none⟩), .slice A' n c'] w fun e w' => e = .returned (.tuple #[]) ∧ Wr w' base p (l ++ news) 0 ∧ Keeps base w w' := by
  obtain ⟨A, m, c, hb, hrow, hbp⟩ := h.out
  obtain ⟨i0, hi, hz0, hz1, hz2⟩ := info_parts info_byte
  have hbase := h.base
  obtain ⟨hm, hown⟩ := hrow
  subst hm
  have hne := own_ne_blk hown hb (by decide)
  have HNE := hid hne
  have HOWN := hid hown
  have HB := hid hb
  have HI := hid hi
  have HZ0 := hid hz0
  have HZ1 := hid hz1
  have HZ2 := hid hz2
  have HN := hid hn
  have HA := hid hA
  have HBA := hid hbase
  have HL := hid hl
  have HBP := hid hbp
  have c0 := WB.c0 hb
  have c1 := WB.c1 hb
  clear h hb hown hi hz0 hz1 hz2 hn hA hne hbase hl hbp
  go_enter Tryd.func60, Tryd.ntmps60
  go_wp2_with (at_builtin; go_must (refine wpList_append_bs _ rfl _ _ _ rfl base 5 i0 Tryd.underlying27 HI.out HZ0.out HZ1.out HZ2.out (.slice A l.length c) l news rfl HOWN.out A' n c' rfl HN.out (HA.out.more hB) ?len HBA.out ?_))
  case len => have := HL.out; omega
  intro A2 c2 w1 hown1 hg1 hat
  have hb1 : WB w1 p A l.length c 0 := Blk.grown HB.out hg1 (fun e => HNE.out e.symm)
  have HB1 := hid hb1
  have hbel := hid (show Keeps base w w1 from ⟨(Below.refl base w).grown hg1 HBA.out (fun k hk => (HOWN.out.lt k hk).1), fun g t cs h5 _ hb => Blk.grown hb hg1 (fun e => own_ne_blk HOWN.out hb (Ne.symm h5) e.symm)⟩)
  have d0 := WB.c0 HB1.out
  have f0 := WB.f0 HB1.out
  have HOWN1 := hid hown1
  have hne1 := own_ne_blk (b := p) hown1 (show Blk w1 p 87 _ from HB1.out) (by decide)
  have HNE1 := hid hne1
  clear hown1 hg1 hat hb1 hne1
  go_wp2_with fail
  go_end0
  exact ⟨rfl, ⟨_, _, _, HB1.out.set0, ⟨List.length_append.symm, ownsRow_setCell_other HOWN1.out HNE1.out _⟩, HBP.out⟩, hbel.out.set HB1.out HBP.out _⟩

set_option maxHeartbeats 1000000 in
theorem push_not {base p n c' e0 : Nat} {A' : Option Addr} {l : List UInt8} {w : World} (h : Wr w base p l e0) (he : e0 ≠ 0) :
    Calls Tryd.prog 60 #[.pointer (some ⟨p, 0, none⟩), .slice A' n c'] w fun e w' => e = .returned (.tuple #[]) ∧ w = w' := by
  obtain ⟨A, m, c, hb, hrow, hbp⟩ := h.out
  have c1 := WB.c1 hb
  have hE : ((e0 : Int) == 0) = false := by simpa using he
  clear h hb hrow he
  go_enter Tryd.func60, Tryd.ntmps60
  go_wp2_with fail
  go_end0
  exact ⟨rfl, rfl⟩

end Go.Proofs.YtikggbopoajcbaaDoor

namespace Go.Proofs.YtikggbopoajcbaaDoor
open Go Go.RowKit

theorem putVar_nat (v : Nat) (w : World) (hv : v < 18446744073709551616) :
    Calls Tryd.prog 61 #[.slice none 0 0, .int .u64 (v : Int)] w fun e w' =>
      ∃ A' m' c', e = .returned (.slice A' m' c') ∧ Row w' w.heap.size 5 A' m' c' (vbytes v) ∧ Below w.heap.size w w' :=
  putVar_is (A := none) (c := 0) (l := []) (v := v) rfl (At.nil w 0 _) (Nat.zero_le _) (by simp) hv

structure Wrote (w : World) (base p : Nat) (l : List UInt8) (e0 : Nat) (e : Ending) (w' : World) : Prop where
  ret : e = .returned (.tuple #[])
  wr : Wr w' base p l e0
  below : Keeps base w w'

/-- the numbers that are handed in: one -/
def One (w : World) (b : Nat) (u : Value) : Prop := w.cell? ⟨b, 0, none⟩ = some u ∧ b < w.heap.size

set_option maxHeartbeats 1000000 in
theorem wnum_any {base p b v : Nat} {l : List UInt8} {w : World} (h : Wr w base p l 0) (hv : v < 18446744073709551616) (hone : One w b (.int .u64 (v : Int))) (hl : l.length ≤ 1099511627776) :
    Calls Tryd.prog 34 #[.pointer (some ⟨p, 0, none⟩), .slice (some ⟨b, 0, none⟩) 1 1] w (Wrote w base p (l ++ vbytes v) 0) := by
  obtain ⟨hc, hlt⟩ := hone
  have HB := hid h.base
  have HV := hid hv
  have HL := hid hl
  have H := hid h
  clear h hv hl
  go_enter Tryd.func34, Tryd.ntmps34
  go_wp2_with fail
  go_loopw [8] (fun i wr => (i = .int .i64 0 ∧ wr = w) ∨ (i = .int .i64 1 ∧ Wr wr base p (l ++ vbytes v) 0 ∧ Keeps base w wr)) (fun i _ => 1 - (intOf i).toNat)
  case atStart => exact .inl ⟨rfl, rfl⟩
  case round =>
    rcases hrel with ⟨rfl, rfl⟩ | ⟨rfl, h1, h2⟩
    · go_wp2_with fail
      go_fit (putVar_nat v _ HV.out)
      rintro e w1 ⟨A', m', c', rfl, hr1, hb1⟩
      have HR := hid hr1
      have HB1 := hid hb1
      clear hr1 hb1
      go_wp2_with fail
      go_fit (push_any (H.out.step HB1.out) HR.out.at_ HR.out.1 (Nat.le_refl _) (by have := HL.out; rw [vbytes_length]; have := vlen_le v; omega))
      rintro e w2 ⟨rfl, h3, h4⟩
      have H3 := hid h3
      have H4 := hid ((Keeps.of HB1.out HB.out).trans h4)
      clear h3 h4
      go_wp2_with fail
      go_roundw
      case rel => exact .inr ⟨rfl, H3.out, H4.out⟩
      case measure => simp [intOf]
    · have H1 := hid h1
      have H2 := hid h2
      clear h1 h2
      go_wp2_with fail
      go_end0
      exact ⟨rfl, H1.out, H2.out⟩

set_option maxHeartbeats 1000000 in
theorem wnum_not {base p b e0 v : Nat} {l : List UInt8} {w : World} (h : Wr w base p l e0) (he : e0 ≠ 0) (hv : v < 18446744073709551616) (hone : One w b (.int .u64 (v : Int))) :
    Calls Tryd.prog 34 #[.pointer (some ⟨p, 0, none⟩), .slice (some ⟨b, 0, none⟩) 1 1] w (Wrote w base p l e0) := by
  obtain ⟨hc, hlt⟩ := hone
  have HB := hid h.base
  have HV := hid hv
  have H := hid h
  have HE := hid he
  clear h hv he
  go_enter Tryd.func34, Tryd.ntmps34
  go_wp2_with fail
  go_loopw [8] (fun i wr => (i = .int .i64 0 ∧ wr = w) ∨ (i = .int .i64 1 ∧ Wr wr base p l e0 ∧ Keeps base w wr)) (fun i _ => 1 - (intOf i).toNat)
  case atStart => exact .inl ⟨rfl, rfl⟩
  case round =>
    rcases hrel with ⟨rfl, rfl⟩ | ⟨rfl, h1, h2⟩
    · go_wp2_with fail
      go_fit (putVar_nat v _ HV.out)
      rintro e w1 ⟨A', m', c', rfl, hr1, hb1⟩
      have HB1 := hid hb1
      clear hr1 hb1
      go_wp2_with fail
      go_fit (push_not (H.out.step HB1.out) HE.out)
      rintro e w2 ⟨rfl, rfl⟩
      go_wp2_with fail
      go_roundw
      case rel => exact .inr ⟨rfl, H.out.step HB1.out, Keeps.of HB1.out HB.out⟩
      case measure => simp [intOf]
    · have H1 := hid h1
      have H2 := hid h2
      clear h1 h2
      go_wp2_with fail
      go_end0
      exact ⟨rfl, H1.out, H2.out⟩

theorem one_new (w : World) (t : TypeId) (u : Value) : One (w.alloc (.cells #[u] t)) w.heap.size u := ⟨cell_of_one (heap_alloc_new w _), by simp⟩

set_option maxHeartbeats 2000000 in
theorem wtext_any {base p b : Nat} {l s : List UInt8} {w : World} (h : Wr w base p l 0) (hs : s.length ≤ 65536) (hone : One w b (.string (bst s))) (hl : l.length ≤ 1099511600000) :
    Calls Tryd.prog 35 #[.pointer (some ⟨p, 0, none⟩), .slice (some ⟨b, 0, none⟩) 1 1] w (Wrote w base p (l ++ (vbytes s.length ++ s)) 0) := by
  obtain ⟨hc, hlt⟩ := hone
  have HB := hid h.base
  have HL := hid hl
  have HS := hid hs
  have hz := bst_size s
  have H := hid h
  clear h hl
  go_enter Tryd.func35, Tryd.ntmps35
  go_wp2_with fail
  go_loopw [8] (fun i wr => (i = .int .i64 0 ∧ wr = w) ∨ (i = .int .i64 1 ∧ Wr wr base p (l ++ (vbytes s.length ++ s)) 0 ∧ Keeps base w wr)) (fun i _ => 1 - (intOf i).toNat)
  case atStart => exact .inl ⟨rfl, rfl⟩
  case round =>
    rcases hrel with ⟨rfl, rfl⟩ | ⟨rfl, h1, h2⟩
    · have HW := hid (show Below wr.heap.size wr (wr.alloc (.cells #[.int .u64 (s.length : Int)] 57)) from (Below.refl _ _).alloc (Nat.le_refl _) _)
      go_wp2_with fail
      go_fit (wnum_any (v := s.length) (H.out.step HW.out) (by have := HS.out; omega) (one_new _ _ _) (by have := HL.out; omega))
      rintro e w1 ⟨rfl, h1, h2⟩
      have H1 := hid h1
      have H2 := hid ((Keeps.of HW.out HB.out).trans h2)
      clear h1 h2
      go_wp2_with (with_reducible refine wpList_bytes_of _ rfl (.tmp 25) 9 27 5 rfl Tryd.underlying9 Tryd.underlying27 Tryd.underlying5 s rfl ?_; intro A1 c1 w2 hc1 hA1 hb1)
      have HA1 := hid hA1
      have HB1 := hid hb1
      clear hA1 hb1
      go_fit (push_any (H1.out.step HB1.out) HA1.out rfl (Nat.le_refl _) (by have := HL.out; have := HS.out; rw [List.length_append, vbytes_length]; have := vlen_le s.length; omega))
      rintro e w3 ⟨rfl, h3, h4⟩
      rw [List.append_assoc] at h3
      have H3 := hid h3
      have H4 := hid ((H2.out.trans (Keeps.of HB1.out (Nat.le_trans HB.out H2.out.below.size))).trans h4)
      clear h3 h4
      go_wp2_with fail
      go_roundw
      case rel => exact .inr ⟨rfl, H3.out, H4.out⟩
      case measure => simp [intOf]
    · have H1 := hid h1
      have H2 := hid h2
      clear h1 h2
      go_wp2_with fail
      go_end0
      exact ⟨rfl, H1.out, H2.out⟩

set_option maxHeartbeats 2000000 in
theorem wtext_not {base p b : Nat} {l s : List UInt8} {w : World} (h : Wr w base p l 32) (hs : s.length ≤ 65536) (hone : One w b (.string (bst s))) :
    Calls Tryd.prog 35 #[.pointer (some ⟨p, 0, none⟩), .slice (some ⟨b, 0, none⟩) 1 1] w (Wrote w base p l 32) := by
  obtain ⟨hc, hlt⟩ := hone
  have HB := hid h.base
  have HS := hid hs
  have hz := bst_size s
  have H := hid h
  clear h
  go_enter Tryd.func35, Tryd.ntmps35
  go_wp2_with fail
  go_loopw [8] (fun i wr => (i = .int .i64 0 ∧ wr = w) ∨ (i = .int .i64 1 ∧ Wr wr base p l 32 ∧ Keeps base w wr)) (fun i _ => 1 - (intOf i).toNat)
  case atStart => exact .inl ⟨rfl, rfl⟩
  case round =>
    rcases hrel with ⟨rfl, rfl⟩ | ⟨rfl, h1, h2⟩
    · have HW := hid (show Below wr.heap.size wr (wr.alloc (.cells #[.int .u64 (s.length : Int)] 57)) from (Below.refl _ _).alloc (Nat.le_refl _) _)
      go_wp2_with fail
      go_fit (wnum_not (v := s.length) (H.out.step HW.out) (by decide) (by have := HS.out; omega) (one_new _ _ _))
      rintro e w1 ⟨rfl, h1, h2⟩
      have H1 := hid h1
      have H2 := hid ((Keeps.of HW.out HB.out).trans h2)
      clear h1 h2
      go_wp2_with (with_reducible refine wpList_bytes_of _ rfl (.tmp 25) 9 27 5 rfl Tryd.underlying9 Tryd.underlying27 Tryd.underlying5 s rfl ?_; intro A1 c1 w2 hc1 hA1 hb1)
      have HB1 := hid hb1
      clear hA1 hb1
      go_fit (push_not (H1.out.step HB1.out) (by decide))
      rintro e w3 ⟨rfl, rfl⟩
      go_wp2_with fail
      go_roundw
      case rel => exact .inr ⟨rfl, H1.out.step HB1.out, H2.out.trans (Keeps.of HB1.out (Nat.le_trans HB.out H2.out.below.size))⟩
      case measure => simp [intOf]
    · have H1 := hid h1
      have H2 := hid h2
      clear h1 h2
      go_wp2_with fail
      go_end0
      exact ⟨rfl, H1.out, H2.out⟩

set_option maxHeartbeats 2000000 in
theorem wtext_long {base p b e0 : Nat} {l : List UInt8} {t : ByteArray} {w : World} (h : Wr w base p l e0) (hs : 65536 < t.size) (hone : One w b (.string t)) :
    Calls Tryd.prog 35 #[.pointer (some ⟨p, 0, none⟩), .slice (some ⟨b, 0, none⟩) 1 1] w (Wrote w base p l 32) := by
  obtain ⟨hc, hlt⟩ := hone
  obtain ⟨A, m, c, hb, hrow, hbp⟩ := h.out
  have hi : (65536 : Int) < (t.size : Int) := by omega
  have c1 := WB.c1 hb
  have f1 := WB.f1 hb
  have HB := hid hb
  have HR := hid hrow
  have HP := hid hbp
  have HNE := hid (own_ne_blk (b := p) hrow.2 hb (by decide))
  clear h hb hrow hbp hs
  go_enter Tryd.func35, Tryd.ntmps35
  go_wp2_with fail
  go_loopw [8] (fun i wr => i = .int .i64 0 ∧ wr = w) (fun i _ => 1 - (intOf i).toNat)
  case atStart => exact ⟨rfl, rfl⟩
  case round =>
    obtain ⟨rfl, rfl⟩ := hrel
    go_wp2_with fail
    refine bodyPost_ret (results_none rfl _ _ _) rfl ?_
    exact ⟨rfl, ⟨_, _, _, HB.out.set1, ⟨HR.out.1, ownsRow_setCell_other HR.out.2 HNE.out _⟩, HP.out⟩, (Keeps.refl _ _).set HB.out HP.out _⟩

set_option maxHeartbeats 1000000 in
theorem wflag_any {base p : Nat} {y : Bool} {l : List UInt8} {w : World} (h : Wr w base p l 0) (hl : l.length ≤ 1099511627776) :
    Calls Tryd.prog 33 #[.pointer (some ⟨p, 0, none⟩), .bool y] w (Wrote w base p (l ++ [if y then 1 else 0]) 0) := by
  have HB := hid h.base
  have HL := hid hl
  have H := hid h
  clear h hl
  cases y with
  | true =>
    have HW := hid (show Below w.heap.size w (w.alloc (.cells #[.int .u8 1] 5)) from (Below.refl _ _).alloc (Nat.le_refl _) _)
    go_enter Tryd.func33, Tryd.ntmps33
    go_wp2_with fail
    go_fit (push_any (news := [1]) (H.out.step HW.out) (At.one w 1 _) rfl (by simp) (by have := HL.out; simp; omega))
    rintro e w3 ⟨rfl, h3, h4⟩
    have H3 := hid h3
    have H4 := hid ((Keeps.of HW.out HB.out).trans h4)
    clear h3 h4
    go_wp2_with fail
    go_end0
    exact ⟨rfl, H3.out, H4.out⟩
  | false =>
    have HW := hid (show Below w.heap.size w (w.alloc (.cells #[.int .u8 0] 5)) from (Below.refl _ _).alloc (Nat.le_refl _) _)
    go_enter Tryd.func33, Tryd.ntmps33
    go_wp2_with fail
    go_fit (push_any (news := [0]) (H.out.step HW.out) (At.one w 0 _) rfl (by simp) (by have := HL.out; simp; omega))
    rintro e w3 ⟨rfl, h3, h4⟩
    have H3 := hid h3
    have H4 := hid ((Keeps.of HW.out HB.out).trans h4)
    clear h3 h4
    go_wp2_with fail
    go_end0
    exact ⟨rfl, H3.out, H4.out⟩
set_option maxHeartbeats 1000000 in
theorem wflag_not {base p e0 : Nat} {y : Bool} {l : List UInt8} {w : World} (h : Wr w base p l e0) (he : e0 ≠ 0) :
    Calls Tryd.prog 33 #[.pointer (some ⟨p, 0, none⟩), .bool y] w (Wrote w base p l e0) := by
  have HB := hid h.base
  have H := hid h
  have HE := hid he
  clear h he
  cases y with
  | true =>
    have HW := hid (show Below w.heap.size w (w.alloc (.cells #[.int .u8 1] 5)) from (Below.refl _ _).alloc (Nat.le_refl _) _)
    go_enter Tryd.func33, Tryd.ntmps33
    go_wp2_with fail
    go_fit (push_not (H.out.step HW.out) HE.out)
    rintro e w3 ⟨rfl, rfl⟩
    go_wp2_with fail
    go_end0
    exact ⟨rfl, H.out.step HW.out, Keeps.of HW.out HB.out⟩
  | false =>
    have HW := hid (show Below w.heap.size w (w.alloc (.cells #[.int .u8 0] 5)) from (Below.refl _ _).alloc (Nat.le_refl _) _)
    go_enter Tryd.func33, Tryd.ntmps33
    go_wp2_with fail
    go_fit (push_not (H.out.step HW.out) HE.out)
    rintro e w3 ⟨rfl, rfl⟩
    go_wp2_with fail
    go_end0
    exact ⟨rfl, H.out.step HW.out, Keeps.of HW.out HB.out⟩

set_option maxHeartbeats 1000000 in
theorem bytes_any {base p : Nat} {l : List UInt8} {w : World} (h : Wr w base p l 0) (hl : l.length ≤ 140737488351232) :
    Calls Tryd.prog 36 #[.pointer (some ⟨p, 0, none⟩)] w fun e w' =>
      ∃ A' m' c', e = .returned (.tuple #[.slice A' m' c', .int .i64 0]) ∧ Row w' w.heap.size 5 A' m' c' l ∧ Below w.heap.size w w' := by
  obtain ⟨A, m, c, hb, hrow, hbp⟩ := h.out
  have c0 := WB.c0 hb
  have c1 := WB.c1 hb
  have H := hid (clone_any (c := c) hrow.at_ hrow.1 (Nat.le_refl _) hl)
  clear h hb hrow hl
  go_enter Tryd.func36, Tryd.ntmps36
  go_wp2_with fail
  go_fit H.out
  rintro e w2 ⟨A', m', c', rfl, h1, h2⟩
  go_wp2_with fail
  go_ret2
  exact ⟨_, _, _, rfl, h1, h2⟩
set_option maxHeartbeats 1000000 in
theorem bytes_not {base p e0 : Nat} {l : List UInt8} {w : World} (h : Wr w base p l e0) (he : e0 ≠ 0) :
    Calls Tryd.prog 36 #[.pointer (some ⟨p, 0, none⟩)] w fun e w' =>
      e = .returned (.tuple #[.slice none 0 0, .int .i64 (e0 : Int)]) ∧ Below w.heap.size w w' := by
  obtain ⟨A, m, c, hb, hrow, hbp⟩ := h.out
  have c0 := WB.c0 hb
  have c1 := WB.c1 hb
  have hE : ((e0 : Int) != 0) = true := by simpa using he
  clear h hb hrow he
  go_enter Tryd.func36, Tryd.ntmps36
  go_wp2_with fail
  go_quiet (fail)
  go_wp2_with fail
  go_ret2
  exact ⟨rfl, below_drewN (Below.refl _ _) _⟩

end Go.Proofs.YtikggbopoajcbaaDoor

namespace Go.Proofs.YtikggbopoajcbaaDoor
open Go Go.RowKit

set_option maxHeartbeats 2000000 in
theorem wnum2_any {base p b v1 v2 : Nat} {l : List UInt8} {w : World} (h : Wr w base p l 0) (h1 : v1 < 18446744073709551616) (h2 : v2 < 18446744073709551616) (htwo : Blk w b 57 #[.int .u64 (v1 : Int), .int .u64 (v2 : Int)]) (hl : l.length ≤ 1099511600000) :
    Calls Tryd.prog 34 #[.pointer (some ⟨p, 0, none⟩), .slice (some ⟨b, 0, none⟩) 2 2] w (Wrote w base p (l ++ vbytes v1 ++ vbytes v2) 0) := by
  have HB := hid h.base
  have HV1 := hid h1
  have HV2 := hid h2
  have HL := hid hl
  have H := hid h
  have HT := hid htwo
  have e1 := vlen_le v1
  have HL2 := hid (show (l ++ vbytes v1).length ≤ 1099511627776 by rw [List.length_append, vbytes_length]; omega)
  clear h hl h1 h2 htwo e1
  go_enter Tryd.func34, Tryd.ntmps34
  go_wp2_with fail
  go_loopw [8] (fun i wr => (i = .int .i64 0 ∧ Kept (wr = w)) ∨ (i = .int .i64 1 ∧ Kept (Wr wr base p (l ++ vbytes v1) 0) ∧ Kept (Keeps base w wr)) ∨ (i = .int .i64 2 ∧ Kept (Wr wr base p (l ++ vbytes v1 ++ vbytes v2) 0) ∧ Kept (Keeps base w wr))) (fun i _ => 2 - (intOf i).toNat)
  case atStart => exact .inl ⟨rfl, hid rfl⟩
  case round =>
    rcases hrel with ⟨rfl, HW0⟩ | ⟨rfl, H1, K1⟩ | ⟨rfl, H1, K1⟩
    · obtain rfl : w = wr := HW0.out.symm
      have c0 := HT.out.cell 0
      go_wp2_with fail
      go_fit (putVar_nat v1 _ HV1.out)
      rintro e w1 ⟨A', m', c', rfl, hr1, hb1⟩
      have HR := hid hr1
      have HB1 := hid hb1
      clear hr1 hb1
      go_wp2_with fail
      go_fit (push_any (H.out.step HB1.out) HR.out.at_ HR.out.1 (Nat.le_refl _) (by have := HL.out; rw [vbytes_length]; have := vlen_le v1; omega))
      rintro e w2 ⟨rfl, h3, h4⟩
      have H3 := hid h3
      have H4 := hid ((Keeps.of HB1.out HB.out).trans h4)
      clear h3 h4
      go_wp2_with fail
      go_roundw
      case rel => exact .inr (.inl ⟨rfl, H3, H4⟩)
      case measure => simp [intOf]
    · have c1 := (K1.out.kept _ _ _ (by decide) (by decide) HT.out).cell 1
      go_wp2_with fail
      go_fit (putVar_nat v2 _ HV2.out)
      rintro e w1 ⟨A', m', c', rfl, hr1, hb1⟩
      have HR := hid hr1
      have HB1 := hid hb1
      clear hr1 hb1
      go_wp2_with fail
      go_fit (push_any (H1.out.step HB1.out) HR.out.at_ HR.out.1 (Nat.le_refl _) (by have := HL2.out; rw [vbytes_length]; have := vlen_le v2; omega))
      rintro e w2 ⟨rfl, h3, h4⟩
      have H3 := hid h3
      have H4 := hid (K1.out.trans ((Keeps.of HB1.out (Nat.le_trans HB.out K1.out.below.size)).trans h4))
      clear h3 h4
      go_wp2_with fail
      go_roundw
      case rel => exact .inr (.inr ⟨rfl, H3, H4⟩)
      case measure => simp [intOf]
    · go_wp2_with fail
      go_end0
      exact ⟨rfl, H1.out, K1.out⟩

set_option maxHeartbeats 4000000 in
theorem wtext2_any {base p b : Nat} {l s1 s2 : List UInt8} {w : World} (h : Wr w base p l 0) (h1 : s1.length ≤ 65536) (h2 : s2.length ≤ 65536) (htwo : Blk w b 9 #[.string (bst s1), .string (bst s2)]) (hl : l.length ≤ 1099511400000) :
    Calls Tryd.prog 35 #[.pointer (some ⟨p, 0, none⟩), .slice (some ⟨b, 0, none⟩) 2 2] w (Wrote w base p (l ++ (vbytes s1.length ++ s1) ++ (vbytes s2.length ++ s2)) 0) := by
  have HB := hid h.base
  have HL := hid hl
  have HS1 := hid h1
  have HS2 := hid h2
  have z1 := bst_size s1
  have z2 := bst_size s2
  have H := hid h
  have HT := hid htwo
  have e1 := vlen_le s1.length
  have HL2 := hid (show (l ++ (vbytes s1.length ++ s1)).length ≤ 1099511500000 by simp only [List.length_append, vbytes_length]; omega)
  clear h hl htwo e1
  go_enter Tryd.func35, Tryd.ntmps35
  go_wp2_with fail
  go_loopw [8] (fun i wr => (i = .int .i64 0 ∧ Kept (wr = w)) ∨ (i = .int .i64 1 ∧ Kept (Wr wr base p (l ++ (vbytes s1.length ++ s1)) 0) ∧ Kept (Keeps base w wr)) ∨ (i = .int .i64 2 ∧ Kept (Wr wr base p (l ++ (vbytes s1.length ++ s1) ++ (vbytes s2.length ++ s2)) 0) ∧ Kept (Keeps base w wr))) (fun i _ => 2 - (intOf i).toNat)
  case atStart => exact .inl ⟨rfl, hid rfl⟩
  case round =>
    rcases hrel with ⟨rfl, HW0⟩ | ⟨rfl, H1, K1⟩ | ⟨rfl, H1, K1⟩
    · obtain rfl : w = wr := HW0.out.symm
      have HK := hid (Keeps.refl base w)
      have c0 := (HK.out.kept _ _ _ (by decide) (by decide) HT.out).cell 0
      have HW := hid (show Below w.heap.size w (w.alloc (.cells #[.int .u64 (s1.length : Int)] 57)) from (Below.refl _ _).alloc (Nat.le_refl _) _)
      have HBS := hid (Nat.le_trans HB.out HK.out.below.size)
      go_wp2_with fail
      go_fit (wnum_any (v := s1.length) (H.out.step HW.out) (by have := HS1.out; omega) (one_new _ _ _) (by have := HL.out; omega))
      rintro e w1 ⟨rfl, q1, q2⟩
      have HQ1 := hid q1
      have HQ2 := hid ((Keeps.of HW.out HBS.out).trans q2)
      clear q1 q2
      go_wp2_with (with_reducible refine wpList_bytes_of _ rfl (.tmp 25) 9 27 5 rfl Tryd.underlying9 Tryd.underlying27 Tryd.underlying5 s1 rfl ?_; intro A1 c1 w2 hc1 hA1 hb1)
      have HA1 := hid hA1
      have HB1 := hid hb1
      clear hA1 hb1
      go_fit (push_any (HQ1.out.step HB1.out) HA1.out rfl (Nat.le_refl _) (by have := HL.out; have := HS1.out; rw [List.length_append, vbytes_length]; have := vlen_le s1.length; omega))
      rintro e w3 ⟨rfl, h3, h4⟩
      rw [List.append_assoc] at h3
      have H3 := hid h3
      have H4 := hid (HK.out.trans ((HQ2.out.trans (Keeps.of HB1.out (Nat.le_trans HBS.out HQ2.out.below.size))).trans h4))
      clear h3 h4
      go_wp2_with fail
      go_roundw
      case rel => exact .inr (.inl ⟨rfl, H3, H4⟩)
      case measure => simp [intOf]
    · skip
      have c0 := (K1.out.kept _ _ _ (by decide) (by decide) HT.out).cell 1
      have HW := hid (show Below wr.heap.size wr (wr.alloc (.cells #[.int .u64 (s2.length : Int)] 57)) from (Below.refl _ _).alloc (Nat.le_refl _) _)
      have HBS := hid (Nat.le_trans HB.out K1.out.below.size)
      go_wp2_with fail
      go_fit (wnum_any (v := s2.length) (H1.out.step HW.out) (by have := HS2.out; omega) (one_new _ _ _) (by have := HL2.out; omega))
      rintro e w1 ⟨rfl, q1, q2⟩
      have HQ1 := hid q1
      have HQ2 := hid ((Keeps.of HW.out HBS.out).trans q2)
      clear q1 q2
      go_wp2_with (with_reducible refine wpList_bytes_of _ rfl (.tmp 25) 9 27 5 rfl Tryd.underlying9 Tryd.underlying27 Tryd.underlying5 s2 rfl ?_; intro A1 c1 w2 hc1 hA1 hb1)
      have HA1 := hid hA1
      have HB1 := hid hb1
      clear hA1 hb1
      go_fit (push_any (HQ1.out.step HB1.out) HA1.out rfl (Nat.le_refl _) (by have := HL2.out; have := HS2.out; rw [List.length_append, vbytes_length]; have := vlen_le s2.length; omega))
      rintro e w3 ⟨rfl, h3, h4⟩
      rw [List.append_assoc] at h3
      have H3 := hid h3
      have H4 := hid (K1.out.trans ((HQ2.out.trans (Keeps.of HB1.out (Nat.le_trans HBS.out HQ2.out.below.size))).trans h4))
      clear h3 h4
      go_wp2_with fail
      go_roundw
      case rel => exact .inr (.inr ⟨rfl, H3, H4⟩)
      case measure => simp [intOf]
    · go_wp2_with fail
      go_end0
      exact ⟨rfl, H1.out, K1.out⟩

end Go.Proofs.YtikggbopoajcbaaDoor
