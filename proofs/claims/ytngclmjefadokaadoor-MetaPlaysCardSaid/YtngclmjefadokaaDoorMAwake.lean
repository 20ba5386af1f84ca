/-
  What the chapter's example fixes: the call that each statement makes first.
-/
import Derived.Test.YtngclmjefadokaaDoorMAct
namespace Go.Proofs.YtngclmjefadokaaDoor
open Go Go.RowKit

theorem crash_d {w : World} {d : Nat} {M R : Nat → Prop} {s : Dk} {A : Option Addr} {n c B : Nat} {l : List (Int × Int)} (h : DA6 w d M R s) (hA : SvAt w B A l) (hn : n = l.length) (hB : B ≤ w.heap.size) (hl : n ≤ 70368744177664) :
    Calls Tryd.prog 15 #[.pointer (some ⟨d, 0, none⟩), .slice A n c] w fun e w' => e = .returned (.tuple #[]) ∧ ∃ M' R', DA6 w' d M' R' (s.crash l) ∧ Turns M R w M' R' w' := by
  obtain ⟨g, c', A', n', cap, ch, nc, fs, h⟩ := h
  exact crash_is h hA hn hB hl
/-- three steps: what a crash leaves that leaves nothing, and one that leaves all -/
theorem crashG_nil : ∀ (os : List POp) (i : Nat) (g : Secs), crashG [] i g os = g
  | [], _, _ => rfl
  | o :: os, i, g => by show crashG [] (i + 1) g os = g; exact crashG_nil os (i + 1) g
theorem MDk.act3 {n : Nat} {s : Dk} {a : Int} {m : Mo} {b : List UInt8} (h : MDk n s a) (hm : MOk s.view a m) (hn : 3 ≤ n) (h0 : 0 ≤ a) (h1 : a + 1 < (n : Int)) (hq : m.q + 1 < 18446744073709551616) (hb : b.length ≤ 400) :
    ((mdisk s (a + (m.nx : Int)) (renc (m.q + 1) b) 3).pend.length = 1) ∧ MOk ((mdisk s (a + (m.nx : Int)) (renc (m.q + 1) b) 3).crash []).view a m ∧ MOk ((mdisk s (a + (m.nx : Int)) (renc (m.q + 1) b) 3).crash [(0, 500)]).view a (m.next b) := by
  have hx := hm.nx
  have hl := renc_le (m.q + 1) b
  obtain ⟨i, hi⟩ : ∃ i, i = a + (m.nx : Int) := ⟨_, rfl⟩
  rw [← hi]
  have hi2 : i = a ∨ i = a + 1 := by omega
  obtain ⟨hf, hv⟩ := h.freed hi2
  obtain ⟨hw, -, -⟩ := h.steps hm hn h0 h1 hq (b := b) (by omega) hi
  have hs := Dk.write_ok hw
  show ((s.free i).sync.write i (renc (m.q + 1) b)).pend.length = 1 ∧ MOk (((s.free i).sync.write i (renc (m.q + 1) b)).crash []).view a m ∧ MOk (((s.free i).sync.write i (renc (m.q + 1) b)).crash [(0, 500)]).view a (m.next b)
  rw [hs]
  have hg : (s.free i).sync.ground = upd s.view i none := hf.ground.trans hv
  refine ⟨rfl, ?_, ?_⟩
  · show MOk (crashG [] 0 (s.free i).sync.ground _) a m
    rw [crashG_nil, hg]
    exact hm.less (by rw [← hi, upd_same]; rfl) fun j hj => upd_other _ _ (by omega)
  · show MOk (applyOp (s.free i).sync.ground ⟨i, some (renc (m.q + 1) b)⟩ 500) a (m.next b)
    rw [hg]
    have ht : torn (renc (m.q + 1) b) (upd s.view i none i) 500 = renc (m.q + 1) b := if_pos (by omega)
    have e : applyOp (upd s.view i none) ⟨i, some (renc (m.q + 1) b)⟩ 500 = upd (upd s.view i none) i (some (torn (renc (m.q + 1) b) (upd s.view i none i) 500)) := rfl
    rw [e, ht]
    refine hm.more hq ?_ fun j hj => ?_
    · rw [← hi, upd_same]; exact msec_renc (by omega) hq (by omega)
    · rw [upd_other _ _ (by omega), upd_other _ _ (by omega)]
theorem SvAt.single (w : World) (x y : Int) {g : Nat} (hg : g = w.heap.size) : SvAt (w.alloc (.cells #[.int .i64 x, .int .i64 y] 67)) (w.heap.size + 1) (some ⟨g, 0, none⟩) [(x, y)] := by
  subst hg
  refine fun _ => ⟨w.heap.size, 0, rfl, Nat.lt_succ_self _, fun i s h => ?_⟩
  match i, h with
  | 0, h =>
    injection h with h
    subst h
    exact ⟨(Blk.new w 67 #[.int .i64 x, .int .i64 y]).cell 0, (Blk.new w 67 #[.int .i64 x, .int .i64 y]).cell 1⟩
  | n + 1, h => cases h
def MAwakeIs : Prop := ∀ w : World, Table w → Calls Tryd.prog 8 #[] w fun e w' => e = .returned (.bool true) ∧ Below w.heap.size w w'
set_option maxHeartbeats 8000000 in
set_option maxRecDepth 100000 in
theorem mawake_yes : MAwakeIs := by
  intro w hT
  have HT := hid hT
  have HNew := hid (face.newYes (n := 9) (w := w) (by decide) (by decide))
  clear hT
  go_enter Tryd.func8, Tryd.ntmps8
  go_wp2_with fail
  go_fit HNew.out
  rintro e w1 ⟨d, M, R, rfl, hd, hnew, hb1⟩
  have HOP := hid (meta_first (a := 0) hd hnew hb1 (by decide) (by decide))
  clear hd hnew hb1
  go_wp2_with fail
  go_fit HOP.out
  rintro e w2 ⟨b, rfl, hst⟩
  have HS2 := hid hst
  have h9 := hst.write HT.out (MDk.new 0) (MOk.new 0) (by decide) (by decide) (by decide) (body := [97]) (by decide)
  rw [show bst [97] = ⟨#[97]⟩ from rfl] at h9
  have HW := hid h9
  clear hst h9
  go_wp2_with fail
  go_fit HW.out
  rintro e w3 ⟨rfl, M3, R3, s3, hst, hk, hm⟩
  have h9 := hst.write HT.out hk hm (by decide) (by decide) (by decide) (body := [98]) (by decide)
  rw [show bst [98] = ⟨#[98]⟩ from rfl] at h9
  have HW := hid h9
  clear hst hk hm h9
  go_wp2_with fail
  go_fit HW.out
  rintro e w4 ⟨rfl, M4, R4, s4, hst, hk, hm⟩
  have hk' := hk
  have hm' := hm
  have HK4 := hid hk
  have HM4 := hid hm
  have h9 := hst.begin_ HT.out hk hm (by decide) (by decide) (by decide) (body := [99]) (by decide) 3
  have h8 := hk'.act3 hm' (b := [99]) (by decide) (by decide) (by decide) (by decide) (by decide)
  have h7 := fun l => (hk'.act hm' (by decide) (by decide) (by decide) (by decide) (b := [99]) (by decide) 3 l).1
  rw [show bst [99] = ⟨#[99]⟩ from rfl, if_neg (by decide), decide_eq_false (by decide)] at h9
  generalize mdisk s4 _ _ 3 = s5 at *
  have HW := hid h9
  have HX := hid h8
  have HY := hid h7
  clear hst hk hm hk' hm' h9 h8 h7
  go_wp2_with fail
  go_fit HW.out
  rintro e w5 ⟨rfl, M5, R5, hst, -⟩
  have HS5 := hid hst
  have HCP := hid (face.copy hst.ma.disk (by rw [HX.out.1]; decide))
  clear hst HW
  go_wp2_with fail
  go_fit HCP.out
  rintro e w6 ⟨c, M6, R6, rfl, hc, hm6, hr6, hb6⟩
  have HC6 := hid hc
  have HS6 := hid (HS5.out.step hb6)
  have HA6 := hid (show ∀ k, M6 k → w5.heap.size ≤ k from hm6)
  have HR6 := hid (show ∀ k, R6 k → ¬ M5 k from hr6)
  have HL5 := hid (show ∀ k, M5 k ∨ R5 k → k < w5.heap.size from HS5.out.ma.disk.lt)
  have HCR := hid (crash_d (l := []) (A := none) (c := 0) (B := 0) HS6.out.ma.disk (fun h => absurd h (by simp)) rfl (Nat.zero_le _) (by decide))
  clear hc hm6 hr6 hb6 HCP
  go_wp2_with fail
  go_fit HCR.out
  rintro e w7 ⟨rfl, M7, R7, hd, ht⟩
  have HS7 := hid (HS6.out.disk hd ht)
  have HC7 := hid (face.beside HC6.out ht (fun k hk x => by have := HA6.out k hk; have := HL5.out k (.inl x); omega) HR6.out)
  have HO7 := hid (show ∀ k, M7 k ∨ R7 k → ¬ M6 k from fun k hk x => by
    have h1 := HA6.out k x
    have h2 := HC6.out.lt k (.inl x)
    have h3 : (M5 k ∨ R5 k) ∨ w6.heap.size ≤ k := hk.elim (fun y => (ht.own k y).imp .inl id) (fun y => (ht.held k y).imp .inr id)
    rcases h3 with h3 | h3
    · have := HL5.out k h3; omega
    · omega)
  have HB7 := hid (show Below w7.heap.size w7 (w7.alloc (.cells #[.int .i64 0, .int .i64 500] 67)) from (Below.refl _ _).alloc (Nat.le_refl _) _)
  have HCR := hid (crash_d (l := [(0, 500)]) (A := some ⟨w7.heap.size, 0, none⟩) (c := 1) (HC7.out.step HB7.out) (SvAt.single w7 0 500 rfl) rfl (by simp) (by decide))
  clear hd ht
  go_wp2_with fail
  go_fit HCR.out
  rintro e w8 ⟨rfl, M8, R8, hd, ht⟩
  have HC8 := hid hd
  have hm7 := HS7.out.step HB7.out
  have HS8 := hid (show Mst w w8 b d M7 R7 _ 0 _ from ⟨⟨(ht.block b hm7.ma.blk.lt (fun x => by have := HA6.out b x; have := HS5.out.ma.blk.lt; omega)).trans hm7.ma.blk, face.beside hm7.ma.disk ht (fun k hk => HO7.out k (.inl hk)) (fun k hk => HO7.out k (.inr hk)), hm7.ma.m, hm7.ma.r, hm7.ma.a0, hm7.ma.a1, hm7.ma.nx1, hm7.ma.q64⟩, hm7.new, (Within.of_turns ht).below0 hm7.below (fun k hk => Nat.le_trans HS5.out.below.size (HA6.out k hk))⟩)
  have h9 := HS8.out.open_ (HY.out []) HX.out.2.1
  rw [show bst ((mo0.next [97]).next [98]).b = ⟨#[98]⟩ from rfl, show (((mo0.next [97]).next [98]).e : Int) = 0 from rfl] at h9
  have HOP := hid h9
  clear hd ht hm7 h9
  go_wp2_with fail
  go_fit HOP.out
  rintro e w9 ⟨b9, rfl, hst, hb9⟩
  have HS9 := hid hst
  have h9 := meta_yes (HC8.out.step hb9) (a := 0) (by decide) (by decide) (fun i b hb => (HY.out [(0, 500)]).len i b hb)
  rw [HX.out.2.2.opened] at h9
  rw [show bst (((mo0.next [97]).next [98]).next [99]).b = ⟨#[99]⟩ from rfl, show ((((mo0.next [97]).next [98]).next [99]).e : Int) = 0 from rfl, show (((mo0.next [97]).next [98]).next [99]).q = 3 from rfl] at h9
  have HOP := hid h9
  clear hst hb9 h9
  go_wp2_with fail
  go_fit HOP.out
  rintro e w10 ⟨b10, rfl, hma, -, hb10⟩
  have HNU := hid (number_is hma.blk)
  have HS10 := hid (HS9.out.step hb10)
  clear hma hb10
  go_wp2_with fail
  go_fit HNU.out
  rintro e w11 ⟨rfl, hw⟩
  obtain rfl : w10 = w11 := hw.symm
  go_wp2_with fail
  go_ret
  exact ⟨rfl, HS10.out.below⟩

end Go.Proofs.YtngclmjefadokaaDoor
