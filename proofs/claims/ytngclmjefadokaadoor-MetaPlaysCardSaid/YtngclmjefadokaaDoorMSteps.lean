/-
  The landed meta page: Steps and Write.
-/
import Derived.Test.YtngclmjefadokaaDoorMFns
namespace Go.Proofs.YtngclmjefadokaaDoor
open Go Go.RowKit

section
variable {s : Dk} {i : Int} {r : List UInt8} {k : Int}
theorem mdisk_0 : mdisk s i r ((0 : Nat) : Int) = s := if_pos (by decide)
theorem mdisk_1 : mdisk s i r ((1 : Nat) : Int) = s.free i := rfl
theorem mdisk_2 : mdisk s i r ((2 : Nat) : Int) = (s.free i).sync := rfl
theorem mdisk_3 : mdisk s i r ((3 : Nat) : Int) = (s.free i).sync.write i r := rfl
theorem mdisk_4 (h : (s.free i).sync.why i r = 0) : mdisk s i r ((4 : Nat) : Int) = ((s.free i).sync.write i r).sync := by
  unfold mdisk
  rw [if_neg (by decide), if_neg (by decide), if_neg (by decide), if_neg (by decide), if_pos h]
theorem mdisk_low (h : k < 1) : mdisk s i r k = s := if_pos h
theorem mdisk_bad (h : 3 ≤ k) (hw : (s.free i).sync.why i r ≠ 0) : mdisk s i r k = (s.free i).sync.write i r := by
  unfold mdisk
  rw [if_neg (by omega), if_neg (by omega), if_neg (by omega)]
  by_cases h4 : k < 4
  · rw [if_pos h4]
  · rw [if_neg h4, if_neg hw]
theorem mdisk_high (h : 4 ≤ k) (hw : (s.free i).sync.why i r = 0) : mdisk s i r k = ((s.free i).sync.write i r).sync := by
  unfold mdisk
  rw [if_neg (by omega), if_neg (by omega), if_neg (by omega), if_neg (by omega), if_pos hw]
theorem free_pend (s : Dk) (i : Int) : (s.free i).pend.length ≤ s.pend.length + 1 := by
  unfold Dk.free
  split
  · omega
  · simp
theorem mdone_not (h : k < 4) : mdone s i r k = false := by unfold mdone; rw [decide_eq_false (by omega)]; rfl
theorem mdone_bad (h : (s.free i).sync.why i r ≠ 0) : mdone s i r k = false := by unfold mdone; rw [decide_eq_false h, Bool.and_false]
theorem mdone_yes (h : 4 ≤ k) (hw : (s.free i).sync.why i r = 0) : mdone s i r k = true := by unfold mdone; rw [decide_eq_true h, decide_eq_true hw]; rfl
theorem mwhy_low (h : k < 3) : mwhy s i r k = 0 := if_pos h
theorem mwhy_high (h : 3 ≤ k) : mwhy s i r k = (s.free i).sync.why i r := if_neg (by omega)
end

/-- on the way through the steps: the disk, with the page, the table and the call's own boxes as they were -/
structure Sp (w0 w1 wr : World) (b d : Nat) (M R M' R' : Nat → Prop) (s' : Dk) : Prop where
  disk : DA6 wr d M' R' s'
  off : ∀ k, k = 0 ∨ k = b ∨ w0.heap.size ≤ k ∧ k < w1.heap.size → ¬ M' k
  r : ¬ R' b
  same : ∀ k, k = 0 ∨ k = b ∨ w0.heap.size ≤ k ∧ k < w1.heap.size → wr.heap[k]? = w1.heap[k]?
  size : w1.heap.size ≤ wr.heap.size
  bl : b < w1.heap.size
  pos : 0 < w1.heap.size
  turns : MTurns b M R w0 M' R' wr
section
variable {w0 w1 wr w2 : World} {b d : Nat} {M R M' R' M2 R2 : Nat → Prop} {s s' : Dk} {a : Int} {nx q : Nat}
theorem Sp.first (h : MA w0 b d M R s a nx q) (hm : ¬ M 0) (hb : Below w0.heap.size w0 w1) : Sp w0 w1 w1 b d M R M R s := by
  have hlt := h.blk.lt
  refine ⟨h.disk.step hb, fun k hk hM => ?_, h.r, fun _ _ => rfl, Nat.le_refl _, Nat.lt_of_lt_of_le hlt hb.size, Nat.lt_of_le_of_lt (Nat.zero_le _) (Nat.lt_of_lt_of_le hlt hb.size), MTurns.of_below hb⟩
  rcases hk with rfl | rfl | hk
  · exact hm hM
  · exact h.m hM
  · have := h.disk.lt k (.inl hM); omega
theorem Sp.step (h : Sp w0 w1 wr b d M R M' R' s') (hb : Below wr.heap.size wr w2) : Sp w0 w1 w2 b d M R M' R' s' :=
  ⟨h.disk.step hb, h.off, h.r, fun k hk => (hb.block k (by have := h.size; have := h.bl; have := h.pos; omega)).trans (h.same k hk), Nat.le_trans h.size hb.size, h.bl, h.pos, h.turns.trans (MTurns.of_below hb)⟩
theorem Sp.call (h : Sp w0 w1 wr b d M R M' R' s') (hd : DA6 w2 d M2 R2 s) (ht : Turns M' R' wr M2 R2 w2) : Sp w0 w1 w2 b d M R M2 R2 s := by
  have hs := h.size
  have hb := h.bl
  have hp := h.pos
  refine ⟨hd, fun k hk hM => ?_, fun x => ?_, fun k hk => (ht.block k (by omega) (h.off k hk)).trans (h.same k hk), Nat.le_trans hs ht.size, hb, hp, h.turns.trans (MTurns.of_turns ht)⟩
  · rcases ht.own k hM with x | x
    · exact h.off k hk x
    · omega
  · rcases ht.held b x with y | y
    · exact h.r y
    · omega
theorem Sp.blk {t : TypeId} {cs : Array Value} {k : Nat} (h : Sp w0 w1 wr b d M R M' R' s') (hx : Blk w1 k t cs) (hk : k = 0 ∨ k = b ∨ w0.heap.size ≤ k ∧ k < w1.heap.size) : Blk wr k t cs := (h.same k hk).trans hx
theorem Sp.caps {g q : Nat} {i : Int} {bb : List UInt8} (h : Sp w0 w1 wr b d M R M' R' s') (hc : Caps w1 g d i q bb) (hg : w0.heap.size ≤ g) : Caps wr g d i q bb := hc.keep fun k h1 h2 => h.same k (.inr (.inr ⟨by omega, by have := hc.lt; omega⟩))
theorem Sp.table (h : Sp w0 w1 wr b d M R M' R' s') (hT : Table w1) : Table wr := fun k hk => (World.cell?_of_block (a := ⟨0, k, none⟩) (h.same 0 (.inl rfl))).trans (hT k hk)
end

theorem store_fn1 (w : World) (a : Addr) (g : Nat) (m : Mode) : (store a (fn1 g) m).run Tryd.prog w = stored Tryd.prog w a (fn1 g) m := store_func w a _ _ _ m
theorem store_fn2 (w : World) (a : Addr) (g : Nat) (m : Mode) : (store a (fn2 g) m).run Tryd.prog w = stored Tryd.prog w a (fn2 g) m := store_func w a _ _ _ m
theorem store_fn3 (w : World) (a : Addr) (g : Nat) (m : Mode) : (store a (fn3 g) m).run Tryd.prog w = stored Tryd.prog w a (fn3 g) m := store_func w a _ _ _ m
/-- the steps, laid in their row -/
theorem arr_set {w2 W : World} {h g d q : Nat} {i : Int} {b : List UInt8} {x0 x1 x2 x3 : Value} (hx : Blk W h 85 #[x0, x1, x2, x3]) (hc : Caps W g d i q b) (hne : h < g ∨ g + 3 ≤ h) (hb : Beyond w2 W) (hh : w2.heap.size ≤ h) :
    Blk ((((W.setCell ⟨h, 0, none⟩ (fn1 g)).setCell ⟨h, 1, none⟩ (fn2 g)).setCell ⟨h, 2, none⟩ (fn3 g)).setCell ⟨h, 3, none⟩ (fn2 g)) h 85 #[fn1 g, fn2 g, fn3 g, fn2 g] ∧ Caps ((((W.setCell ⟨h, 0, none⟩ (fn1 g)).setCell ⟨h, 1, none⟩ (fn2 g)).setCell ⟨h, 2, none⟩ (fn3 g)).setCell ⟨h, 3, none⟩ (fn2 g)) g d i q b ∧ Beyond w2 ((((W.setCell ⟨h, 0, none⟩ (fn1 g)).setCell ⟨h, 1, none⟩ (fn2 g)).setCell ⟨h, 2, none⟩ (fn3 g)).setCell ⟨h, 3, none⟩ (fn2 g)) := by
  refine ⟨by simpa using (((hx.set 0 (fn1 g)).set 1 (fn2 g)).set 2 (fn3 g)).set 3 (fn2 g), hc.keep fun k h1 h2 => ?_, ((((hb.setCell (p := ⟨h, 0, none⟩) hh _).setCell (p := ⟨h, 1, none⟩) hh _).setCell (p := ⟨h, 2, none⟩) hh _).setCell (p := ⟨h, 3, none⟩) hh _)⟩
  have hk : ∀ (W : World) (j : Nat) (u : Value), (W.setCell ⟨h, j, none⟩ u).heap[k]? = W.heap[k]? := fun W j u => Below.heap_setCell _ _ _ _ (by show k ≠ h; omega)
  rw [hk, hk, hk, hk]

set_option maxHeartbeats 16000000 in
set_option maxRecDepth 100000 in
theorem msteps_long {w : World} {b : Nat} {body : List UInt8} {k : Int} (hb : 480 < body.length) : Calls Tryd.prog 14 #[.pointer (some ⟨b, 0, none⟩), .string (bst body), .int .i64 k] w fun e w' => e = .returned (.tuple #[.bool false, .int .i64 120]) ∧ w' = w := by
  have z := bst_size body
  go_enter Tryd.func14, Tryd.ntmps14
  go_wp2_with fail
  go_ret2
  exact ⟨rfl, rfl⟩

set_option maxHeartbeats 16000000 in
set_option maxRecDepth 100000 in
theorem msteps_is {w : World} {b d : Nat} {M R : Nat → Prop} {s : Dk} {a : Int} {nx q : Nat} (h : MA w b d M R s a nx q) (hm0 : ¬ M 0) (hT : Table w) {body : List UInt8} (hb : body.length ≤ 480) (hp : s.pend.length ≤ 900000) (k : Int) :
    Calls Tryd.prog 14 #[.pointer (some ⟨b, 0, none⟩), .string (bst body), .int .i64 k] w fun e w' =>
      e = .returned (.tuple #[.bool (mdone s (a + (nx : Int)) (renc (next64 q) body) k), .int .i64 (mwhy s (a + (nx : Int)) (renc (next64 q) body) k : Int)]) ∧
      ∃ M' R', MA w' b d M' R' (mdisk s (a + (nx : Int)) (renc (next64 q) body) k) a (if mdone s (a + (nx : Int)) (renc (next64 q) body) k then 1 - nx else nx) (if mdone s (a + (nx : Int)) (renc (next64 q) body) k then next64 q else q) ∧ MTurns b M R w M' R' w' := by
  have z := bst_size body
  have hn : ¬ 480 < body.length := by omega
  have ha0 := h.a0
  have ha1 := h.a1
  have hnx := h.nx1
  have hq64 := h.q64
  have hwi : IntKind.i64.wrap (a + (nx : Int)) = a + (nx : Int) := by rw [IntKind.wrap_i64]; omega
  have hwq : IntKind.u64.wrap ((q : Int) + 1) = (next64 q : Int) := by rw [IntKind.wrap_u64]; unfold next64; omega
  obtain ⟨p, hpq⟩ : ∃ p, p = next64 q := ⟨_, rfl⟩
  have HPQ := hid (show p < 18446744073709551616 by rw [hpq]; exact next64_lt q)
  rw [← hpq] at hwq ⊢
  obtain ⟨i, hi⟩ : ∃ i, i = a + (nx : Int) := ⟨_, rfl⟩
  have HI := hid hi
  rw [← hi] at ⊢
  replace hwi := hwi.trans hi.symm
  obtain ⟨r, hr⟩ : ∃ r, r = renc p body := ⟨_, rfl⟩
  have HR := hid hr
  rw [← hr]
  obtain ⟨D, hD⟩ : ∃ D, D = mdone s i r k := ⟨_, rfl⟩
  obtain ⟨Y, hY⟩ : ∃ Y, Y = mwhy s i r k := ⟨_, rfl⟩
  obtain ⟨SD, hSD⟩ : ∃ SD, SD = mdisk s i r k := ⟨_, rfl⟩
  rw [← hD, ← hY, ← hSD]
  have HD := hid hD
  have HY := hid hY
  have HSD := hid hSD
  clear hD hY hSD
  obtain ⟨N, hN⟩ : ∃ N : Int, min k 4 = N := ⟨_, rfl⟩
  have HN := hid (show k < 4 ∧ N = k ∨ 4 ≤ k ∧ N = 4 by omega)
  have HMA := hid h
  have HM0 := hid hm0
  have HT := hid hT
  have HBL := hid hb
  have HP := hid hp
  have x0 := h.blk.cell 0
  have x1 := h.blk.cell 1
  have x2 := h.blk.cell 2
  have x3 := h.blk.cell 3
  clear h hm0 hT hb hp ha0 ha1 hnx hq64 hpq hi hr
  go_enter Tryd.func14, Tryd.ntmps14
  go_upto_region 3 with fail
  have z0 : ∀ W, Beyond w W → W.cell? ⟨b, 0, none⟩ = some (.pointer (some ⟨d, 0, none⟩)) := fun W ho => (HMA.out.blk.below ho HMA.out.blk.lt).cell 0
  have z1 : ∀ W, Beyond w W → W.cell? ⟨b, 1, none⟩ = some (.int .i64 a) := fun W ho => (HMA.out.blk.below ho HMA.out.blk.lt).cell 1
  have z2 : ∀ W, Beyond w W → W.cell? ⟨b, 2, none⟩ = some (.int .i64 (nx : Int)) := fun W ho => (HMA.out.blk.below ho HMA.out.blk.lt).cell 2
  have z3 : ∀ W, Beyond w W → W.cell? ⟨b, 3, none⟩ = some (.int .u64 (q : Int)) := fun W ho => (HMA.out.blk.below ho HMA.out.blk.lt).cell 3
  refine wp_region_held_drew (S := Beyond w) (by kernel_rfl) (Beyond.drew _) (fun hS => ?_)
  refine stT 0 hS ?_
  try simp only [putr]
  refine stT 1 hS ?_
  try simp only [putr]
  refine stT 2 hS ?_
  try simp only [putr]
  refine stT 3 hS ?_
  try simp only [putr]
  refine stT 4 hS ?_
  try simp only [putr]
  refine stT 5 hS ?_
  try simp only [putr]
  refine stT 6 hS ?_
  try simp only [putr]
  refine stT 7 hS ?_
  try simp only [putr]
  refine stT 8 hS ?_
  try simp only [putr]
  refine stT 9 hS ?_
  try simp only [putr]
  refine stT 10 hS ?_
  try simp only [putr]
  refine wpAnyH_done (by kernel_rfl) ?_ _
  have HB2 := hid hS
  clear hS z2 z3 x0 x1 x2 x3
  have z0 : ∀ W, Beyond w.drew W → W.cell? ⟨b, 0, none⟩ = some (.pointer (some ⟨d, 0, none⟩)) := fun W ho => z0 W (Beyond.trans HB2.out ho)
  have z1 : ∀ W, Beyond w.drew W → W.cell? ⟨b, 1, none⟩ = some (.int .i64 a) := fun W ho => z1 W (Beyond.trans HB2.out ho)
  generalize w.drew = w2 at *
  go_upto_region 4 with fail
  have HSO := hid (fun (W : World) => stepsOf_is (w := W) d i p body)
  have st1 := store_fn1
  have st2 := store_fn2
  have st3 := store_fn3
  refine wp_region_held_drew (S := Beyond w2) (by kernel_rfl) (Beyond.drew _) (fun hS => ?_)
  refine stT 0 hS ?_
  try simp only [putr]
  refine stT 1 hS ?_
  try simp only [putr]
  refine stT 2 hS ?_
  try simp only [putr]
  refine stT 3 hS ?_
  try simp only [putr]
  refine stT 4 hS ?_
  try simp only [putr]
  refine stT 5 hS ?_
  try simp only [putr]
  refine stT 6 hS ?_
  try simp only [putr]
  refine stT 7 hS ?_
  try simp only [putr]
  refine stT 8 hS ?_
  try simp only [putr]
  refine stT 9 hS ?_
  try simp only [putr]
  refine stT 10 hS ?_
  try simp only [putr]
  refine stT 11 hS ?_
  try simp only [putr]
  refine stT 12 hS ?_
  try simp only [putr]
  refine rdH [13, 14] ?_
  refine rcH (fun K hK => ?_) ?_
  · skip
    go_simp
    go_fit (HSO.out _)
    rintro e w3 ⟨g, rfl, hc, hg, hb3⟩
    have hS13 := Beyond.step hS hb3
    have HC3 := hid hc
    have HG := hid (Nat.le_trans hS.size hg)
    clear hc hg hb3
    refine hK.out _ _ (by assumption) (fun _ => ?_)
    clear hK K hS
    have hS := hS13
    try simp only [putr]
    refine rdH [14] ?_
    refine rcH (fun K hK => ?_) AllReadyH.nil
    go_simp
    refine hK.out _ _ ((Below.alloc hS hS.size _)) (fun hS14 => ?_)
    have HC0 := hid HC3.out.lt
    have HX4 := hid (Blk.new w3 85 #[.nilFunc, .nilFunc, .nilFunc, .nilFunc])
    have HC3 := hid (HC3.out.keep fun k _ hk => ((Below.refl w3.heap.size w3).alloc (Nat.le_refl _) (.cells #[.nilFunc, .nilFunc, .nilFunc, .nilFunc] 85)).block k (Nat.lt_of_lt_of_le hk HC3.out.lt))
    have HNE := hid (show w3.heap.size < g ∨ g + 3 ≤ w3.heap.size from .inr (by have := HC3.out.lt; simp at this; have := HC0.out; omega))
    have HH := hid hS.size
    have HBW := hid hS14
    generalize w3.alloc (.cells #[.nilFunc, .nilFunc, .nilFunc, .nilFunc] 85) = w4 at *
    generalize w3.heap.size = h4 at *
    have a0 := HX4.out.cell 0
    have a1 := HX4.out.cell 1
    have a2 := HX4.out.cell 2
    have a3 := HX4.out.cell 3
    have f0 := HX4.out.free 0
    have f1 := HX4.out.free 1
    have f2 := HX4.out.free 2
    have f3 := HX4.out.free 3
    clear hK K hS
    have hS := hS14
    try simp only [putr]
    refine rdH [15] ?_
    refine rcH (fun K hK => ?_) AllReadyH.nil
    go_simp
    refine hK.out _ _ ((arr_set HX4.out HC3.out HNE.out hS HH.out).2.2) (fun hS15 => ?_)
    clear hK K hS
    have hS := hS15
    try simp only [Act.put]
    refine wpAnyH_done (by kernel_rfl) ?_ _
    obtain ⟨hx5, hc5, hb5⟩ := arr_set HX4.out HC3.out HNE.out HBW.out HH.out
    have HX5 := hid hx5
    have HC5 := hid hc5
    have HB5 := hid (below_step HB2.out hb5)
    have HH1 := hid (show w.heap.size ≤ h4 ∧ h4 < _ from ⟨Nat.le_trans HB2.out.size HH.out, hx5.lt⟩)
    have HG1 := hid (Nat.le_trans HB2.out.size HG.out)
    clear hx5 hc5 hb5 hS HX4 HC3 HNE HBW a0 a1 a2 a3 f0 f1 f2 f3 st1 st2 st3 z0 z1
    generalize ((((w4.setCell ⟨h4, 0, none⟩ (fn1 g)).setCell ⟨h4, 1, none⟩ (fn2 g)).setCell ⟨h4, 2, none⟩ (fn3 g)).setCell ⟨h4, 3, none⟩ (fn2 g)) = w5 at *
    have HSP := hid (Sp.first HMA.out HM0.out HB5.out)
    have HT5 := hid (HT.out.step HB5.out)
    go_wp2_with fail
    go_loopw [41] (fun x wr => ∃ j : Nat, x = .int .i64 (j : Int) ∧ (j = 0 ∨ (j : Int) ≤ N) ∧ Kept (3 ≤ j → (s.free i).sync.why i r = 0) ∧ Kept (∃ M' R', Sp w w5 wr b d M R M' R' (mdisk s i r (j : Int)))) (fun x _ => N.toNat - (intOf x).toNat)
    case atStart => exact ⟨0, rfl, .inl rfl, hid (fun h => absurd h (by decide)), hid ⟨M, R, HSP.out⟩⟩
    case round =>
      obtain ⟨j, rfl, hj, HW3, HK⟩ := hrel
      obtain ⟨M1, R1, hsp⟩ := HK.out
      clear HSP
      by_cases hlt : (j : Int) < N
      · have hj4 : j = 0 ∨ j = 1 ∨ j = 2 ∨ j = 3 := by have := HN.out; omega
        rcases hj4 with rfl | rfl | rfl | rfl
        · rw [mdisk_0] at hsp
          have HSP1 := hid hsp
          clear hsp
          have hx := HSP1.out.blk HX5.out (.inr (.inr HH1.out))
          have y0 : wr.cell? ⟨h4, 0, none⟩ = some (.func (.func 46) #[] #[.pointer (some ⟨g, 0, none⟩), .pointer (some ⟨g + 1, 0, none⟩)]) := hx.cell 0
          have hcp := HSP1.out.caps HC5.out HG1.out
          have HCA := hid (fn1_is HSP1.out.disk hcp (by have := HP.out; omega))
          clear hx hcp HK
          go_wp2_with fail
          go_fit HCA.out
          rintro e w6 ⟨rfl, M2, R2, hd, ht⟩
          have HSP2 := hid (HSP1.out.call hd ht)
          clear hd ht HCA y0
          go_wp2_with fail
          go_roundw
          case rel => exact ⟨1, rfl, .inr (by have := hlt; omega), hid (fun h => absurd h (by decide)), hid ⟨M2, R2, HSP2.out⟩⟩
          case measure => simp [intOf]; omega
        · rw [mdisk_1] at hsp
          have HSP1 := hid hsp
          clear hsp
          have hx := HSP1.out.blk HX5.out (.inr (.inr HH1.out))
          have y0 : wr.cell? ⟨h4, 1, none⟩ = some (.func (.func 48) #[] #[.pointer (some ⟨g, 0, none⟩)]) := hx.cell 1
          have hcp := HSP1.out.caps HC5.out HG1.out
          have HCA := hid (fn2_is HSP1.out.disk hcp)
          clear hx hcp HK
          go_wp2_with fail
          go_fit HCA.out
          rintro e w6 ⟨rfl, M2, R2, hd, ht⟩
          have HSP2 := hid (HSP1.out.call hd ht)
          clear hd ht HCA y0
          go_wp2_with fail
          go_roundw
          case rel => exact ⟨2, rfl, .inr (by have := hlt; omega), hid (fun h => absurd h (by decide)), hid ⟨M2, R2, HSP2.out⟩⟩
          case measure => simp [intOf]; omega
        · rw [mdisk_2] at hsp
          have HSP1 := hid hsp
          clear hsp
          have hx := HSP1.out.blk HX5.out (.inr (.inr HH1.out))
          have y0 : wr.cell? ⟨h4, 2, none⟩ = some (.func (.func 50) #[] #[.pointer (some ⟨g + 2, 0, none⟩), .pointer (some ⟨g, 0, none⟩), .pointer (some ⟨g + 1, 0, none⟩)]) := hx.cell 2
          have hcp := HSP1.out.caps HC5.out HG1.out
          have HCA := hid (by have h9 := fn3_is HSP1.out.disk hcp (HSP1.out.table HT5.out) HPQ.out HBL.out (show (0 : Nat) ≤ 1000000 by decide); rw [← HR.out] at h9; exact h9)
          clear hx hcp HK
          go_wp2_with fail
          go_fit HCA.out
          rintro e w6 ⟨rfl, M2, R2, hd, ht⟩
          have HSP2 := hid (HSP1.out.call hd ht)
          clear hd ht HCA y0
          by_cases hwy : (s.free i).sync.why i r = 0
          · have HWY := hid hwy
            rw [hwy]
            clear hwy
            go_wp2_with fail
            go_roundw
            case rel => exact ⟨3, rfl, .inr (by have := hlt; omega), hid (fun _ => HWY.out), hid ⟨M2, R2, HSP2.out⟩⟩
            case measure => simp [intOf]; omega
          · have hk3 : 3 ≤ k := by have := HN.out; omega
            have e1 := HD.out.trans (mdone_bad (k := k) hwy)
            have e2 := HY.out.trans (mwhy_high (s := s) (i := i) (r := r) hk3)
            have e3 := HSD.out.trans (mdisk_bad hk3 hwy)
            subst e1 e2 e3
            clear HD HY HSD
            have hne : (((s.free i).sync.why i r : Int) != 0) = true := by simp; omega
            clear hwy hk3
            go_wp2_with fail
            go_ret2
            have hm := HMA.out
            exact ⟨rfl, M2, R2, ⟨HSP2.out.blk (hm.blk.below HB5.out hm.blk.lt) (.inr (.inl rfl)), HSP2.out.disk, HSP2.out.off b (.inr (.inl rfl)), HSP2.out.r, hm.a0, hm.a1, hm.nx1, hm.q64⟩, HSP2.out.turns⟩
        · rw [mdisk_3] at hsp
          have HSP1 := hid hsp
          have HWY := hid (HW3.out (Nat.le_refl _))
          clear hsp
          have hx := HSP1.out.blk HX5.out (.inr (.inr HH1.out))
          have y0 : wr.cell? ⟨h4, 3, none⟩ = some (.func (.func 48) #[] #[.pointer (some ⟨g, 0, none⟩)]) := hx.cell 3
          have hcp := HSP1.out.caps HC5.out HG1.out
          have HCA := hid (fn2_is HSP1.out.disk hcp)
          clear hx hcp HK
          go_wp2_with fail
          go_fit HCA.out
          rintro e w6 ⟨rfl, M2, R2, hd, ht⟩
          have HSP2 := hid (HSP1.out.call hd ht)
          clear hd ht HCA y0
          go_wp2_with fail
          go_roundw
          case rel => exact ⟨4, rfl, .inr (by have := hlt; omega), hid (fun _ => HWY.out), hid ⟨M2, R2, by rw [mdisk_4 HWY.out]; exact HSP2.out⟩⟩
          case measure => simp [intOf]; omega
      · have HSP1 := hid hsp
        clear hsp HK
        have hbx := HSP1.out.blk (HMA.out.blk.below HB5.out HMA.out.blk.lt) (.inr (.inl rfl))
        by_cases hk : k < 4
        · have hwy : mwhy s i r k = 0 := by
            by_cases h3 : k < 3
            · exact mwhy_low h3
            · rw [mwhy_high (by omega)]
              exact HW3.out (by have := HN.out; omega)
          have hds : mdisk s i r (j : Int) = mdisk s i r k := by
            by_cases h0 : k < 1
            · have hj0 : j = 0 := by have := HN.out; omega
              rw [hj0, mdisk_0, mdisk_low h0]
            · rw [show (j : Int) = k by have := HN.out; omega]
          have e1 := HD.out.trans (mdone_not (s := s) (i := i) (r := r) hk)
          have e2 := HY.out.trans hwy
          have e3 := HSD.out.trans hds.symm
          subst e1 e2 e3
          clear HD HY HSD
          have HBX := hid hbx
          clear hwy hds hbx
          go_wp2_with fail
          go_ret2
          have hm := HMA.out
          exact ⟨rfl, M1, R1, ⟨HBX.out, HSP1.out.disk, HSP1.out.off b (.inr (.inl rfl)), HSP1.out.r, hm.a0, hm.a1, hm.nx1, hm.q64⟩, HSP1.out.turns⟩
        · have hj4 : j = 4 := by have := HN.out; omega
          subst hj4
          have hwy := HW3.out (by decide)
          have e1 := HD.out.trans (mdone_yes (s := s) (i := i) (r := r) (k := k) (by omega) hwy)
          have e2 := HY.out.trans ((mwhy_high (s := s) (i := i) (r := r) (k := k) (by omega)).trans hwy)
          have e3 := HSD.out.trans (mdisk_high (s := s) (i := i) (r := r) (k := k) (by omega) hwy)
          subst e1 e2 e3
          clear HD HY HSD
          have hd4 := HSP1.out
          rw [mdisk_4 hwy] at hd4
          have HDK := hid hd4
          have HCO := hid (complete_is hbx (i := nx) HMA.out.nx1 p)
          clear hwy hd4 hbx HSP1
          go_wp2_with fail
          go_fit HCO.out
          rintro e w6 ⟨rfl, hx6, ho6⟩
          have HX6 := hid hx6
          have HO6 := hid ho6
          clear hx6 ho6
          go_wp2_with fail
          go_ret2
          have hm := HMA.out
          have hd := HDK.out
          have hob := hd.off b (.inr (.inl rfl))
          have hor := hd.r
          exact ⟨rfl, M1, R1, ⟨HX6.out, hd.disk.keep HO6.out.size fun k hk => HO6.out.block k (hd.disk.lt k hk) (fun e => by
            injection e with e
            subst e
            exact hk.elim hob hor), hob, hor, hm.a0, hm.a1, Nat.sub_le _ _, HPQ.out⟩, hd.turns.trans (MTurns.of_only HO6.out)⟩
  refine rcH (fun K hK => ?_) AllReadyH.nil
  · skip
    go_simp
    refine hK.out _ _ ((Below.alloc hS hS.size _)) (fun hS14 => ?_)
    have HX4 := hid (show Blk (w2.alloc (.cells #[.nilFunc, .nilFunc, .nilFunc, .nilFunc] 85)).drew w2.heap.size 85 #[.nilFunc, .nilFunc, .nilFunc, .nilFunc] from Blk.new w2 85 #[.nilFunc, .nilFunc, .nilFunc, .nilFunc])
    have HL4 := hid HX4.out.lt
    generalize (w2.alloc (.cells #[.nilFunc, .nilFunc, .nilFunc, .nilFunc] 85)).drew = w4 at *
    clear hK K hS
    have hS := hS14
    try simp only [putr]
    refine rdH [13] ?_
    refine rcH (fun K hK => ?_) AllReadyH.nil
    go_simp
    go_fit (HSO.out _)
    rintro e w3 ⟨g, rfl, hc, hg, hb3⟩
    have hS13 := Beyond.step hS hb3
    have HC3 := hid hc
    have HX4 := hid (HX4.out.below hb3 HX4.out.lt)
    have HNE := hid (show w2.heap.size < g ∨ g + 3 ≤ w2.heap.size from .inl (Nat.lt_of_lt_of_le HL4.out hg))
    have HG := hid (Nat.le_trans hS.size hg)
    have HBW := hid hS13
    have a0 := HX4.out.cell 0
    have a1 := HX4.out.cell 1
    have a2 := HX4.out.cell 2
    have a3 := HX4.out.cell 3
    have f0 := HX4.out.free 0
    have f1 := HX4.out.free 1
    have f2 := HX4.out.free 2
    have f3 := HX4.out.free 3
    clear hc hg hb3
    refine hK.out _ _ (by assumption) (fun _ => ?_)
    clear hK K hS
    have hS := hS13
    try simp only [putr]
    refine rdH [15] ?_
    refine rcH (fun K hK => ?_) AllReadyH.nil
    go_simp
    refine hK.out _ _ ((arr_set HX4.out HC3.out HNE.out hS (Nat.le_refl _)).2.2) (fun hS15 => ?_)
    clear hK K hS
    have hS := hS15
    try simp only [Act.put]
    refine wpAnyH_done (by kernel_rfl) ?_ _
    obtain ⟨hx5, hc5, hb5⟩ := arr_set HX4.out HC3.out HNE.out HBW.out (Nat.le_refl _)
    have HX5 := hid hx5
    have HC5 := hid hc5
    have HB5 := hid (below_step HB2.out hb5)
    have HH1 := hid (show w.heap.size ≤ w2.heap.size ∧ w2.heap.size < _ from ⟨Nat.le_trans HB2.out.size (Nat.le_refl _), hx5.lt⟩)
    have HG1 := hid (Nat.le_trans HB2.out.size HG.out)
    clear hx5 hc5 hb5 hS HX4 HC3 HNE HBW a0 a1 a2 a3 f0 f1 f2 f3 st1 st2 st3 z0 z1
    generalize ((((w3.setCell ⟨w2.heap.size, 0, none⟩ (fn1 g)).setCell ⟨w2.heap.size, 1, none⟩ (fn2 g)).setCell ⟨w2.heap.size, 2, none⟩ (fn3 g)).setCell ⟨w2.heap.size, 3, none⟩ (fn2 g)) = w5 at *
    generalize w2.heap.size = h4 at *
    have HSP := hid (Sp.first HMA.out HM0.out HB5.out)
    have HT5 := hid (HT.out.step HB5.out)
    go_wp2_with fail
    go_loopw [41] (fun x wr => ∃ j : Nat, x = .int .i64 (j : Int) ∧ (j = 0 ∨ (j : Int) ≤ N) ∧ Kept (3 ≤ j → (s.free i).sync.why i r = 0) ∧ Kept (∃ M' R', Sp w w5 wr b d M R M' R' (mdisk s i r (j : Int)))) (fun x _ => N.toNat - (intOf x).toNat)
    case atStart => exact ⟨0, rfl, .inl rfl, hid (fun h => absurd h (by decide)), hid ⟨M, R, HSP.out⟩⟩
    case round =>
      obtain ⟨j, rfl, hj, HW3, HK⟩ := hrel
      obtain ⟨M1, R1, hsp⟩ := HK.out
      clear HSP
      by_cases hlt : (j : Int) < N
      · have hj4 : j = 0 ∨ j = 1 ∨ j = 2 ∨ j = 3 := by have := HN.out; omega
        rcases hj4 with rfl | rfl | rfl | rfl
        · rw [mdisk_0] at hsp
          have HSP1 := hid hsp
          clear hsp
          have hx := HSP1.out.blk HX5.out (.inr (.inr HH1.out))
          have y0 : wr.cell? ⟨h4, 0, none⟩ = some (.func (.func 46) #[] #[.pointer (some ⟨g, 0, none⟩), .pointer (some ⟨g + 1, 0, none⟩)]) := hx.cell 0
          have hcp := HSP1.out.caps HC5.out HG1.out
          have HCA := hid (fn1_is HSP1.out.disk hcp (by have := HP.out; omega))
          clear hx hcp HK
          go_wp2_with fail
          go_fit HCA.out
          rintro e w6 ⟨rfl, M2, R2, hd, ht⟩
          have HSP2 := hid (HSP1.out.call hd ht)
          clear hd ht HCA y0
          go_wp2_with fail
          go_roundw
          case rel => exact ⟨1, rfl, .inr (by have := hlt; omega), hid (fun h => absurd h (by decide)), hid ⟨M2, R2, HSP2.out⟩⟩
          case measure => simp [intOf]; omega
        · rw [mdisk_1] at hsp
          have HSP1 := hid hsp
          clear hsp
          have hx := HSP1.out.blk HX5.out (.inr (.inr HH1.out))
          have y0 : wr.cell? ⟨h4, 1, none⟩ = some (.func (.func 48) #[] #[.pointer (some ⟨g, 0, none⟩)]) := hx.cell 1
          have hcp := HSP1.out.caps HC5.out HG1.out
          have HCA := hid (fn2_is HSP1.out.disk hcp)
          clear hx hcp HK
          go_wp2_with fail
          go_fit HCA.out
          rintro e w6 ⟨rfl, M2, R2, hd, ht⟩
          have HSP2 := hid (HSP1.out.call hd ht)
          clear hd ht HCA y0
          go_wp2_with fail
          go_roundw
          case rel => exact ⟨2, rfl, .inr (by have := hlt; omega), hid (fun h => absurd h (by decide)), hid ⟨M2, R2, HSP2.out⟩⟩
          case measure => simp [intOf]; omega
        · rw [mdisk_2] at hsp
          have HSP1 := hid hsp
          clear hsp
          have hx := HSP1.out.blk HX5.out (.inr (.inr HH1.out))
          have y0 : wr.cell? ⟨h4, 2, none⟩ = some (.func (.func 50) #[] #[.pointer (some ⟨g + 2, 0, none⟩), .pointer (some ⟨g, 0, none⟩), .pointer (some ⟨g + 1, 0, none⟩)]) := hx.cell 2
          have hcp := HSP1.out.caps HC5.out HG1.out
          have HCA := hid (by have h9 := fn3_is HSP1.out.disk hcp (HSP1.out.table HT5.out) HPQ.out HBL.out (show (0 : Nat) ≤ 1000000 by decide); rw [← HR.out] at h9; exact h9)
          clear hx hcp HK
          go_wp2_with fail
          go_fit HCA.out
          rintro e w6 ⟨rfl, M2, R2, hd, ht⟩
          have HSP2 := hid (HSP1.out.call hd ht)
          clear hd ht HCA y0
          by_cases hwy : (s.free i).sync.why i r = 0
          · have HWY := hid hwy
            rw [hwy]
            clear hwy
            go_wp2_with fail
            go_roundw
            case rel => exact ⟨3, rfl, .inr (by have := hlt; omega), hid (fun _ => HWY.out), hid ⟨M2, R2, HSP2.out⟩⟩
            case measure => simp [intOf]; omega
          · have hk3 : 3 ≤ k := by have := HN.out; omega
            have e1 := HD.out.trans (mdone_bad (k := k) hwy)
            have e2 := HY.out.trans (mwhy_high (s := s) (i := i) (r := r) hk3)
            have e3 := HSD.out.trans (mdisk_bad hk3 hwy)
            subst e1 e2 e3
            clear HD HY HSD
            have hne : (((s.free i).sync.why i r : Int) != 0) = true := by simp; omega
            clear hwy hk3
            go_wp2_with fail
            go_ret2
            have hm := HMA.out
            exact ⟨rfl, M2, R2, ⟨HSP2.out.blk (hm.blk.below HB5.out hm.blk.lt) (.inr (.inl rfl)), HSP2.out.disk, HSP2.out.off b (.inr (.inl rfl)), HSP2.out.r, hm.a0, hm.a1, hm.nx1, hm.q64⟩, HSP2.out.turns⟩
        · rw [mdisk_3] at hsp
          have HSP1 := hid hsp
          have HWY := hid (HW3.out (Nat.le_refl _))
          clear hsp
          have hx := HSP1.out.blk HX5.out (.inr (.inr HH1.out))
          have y0 : wr.cell? ⟨h4, 3, none⟩ = some (.func (.func 48) #[] #[.pointer (some ⟨g, 0, none⟩)]) := hx.cell 3
          have hcp := HSP1.out.caps HC5.out HG1.out
          have HCA := hid (fn2_is HSP1.out.disk hcp)
          clear hx hcp HK
          go_wp2_with fail
          go_fit HCA.out
          rintro e w6 ⟨rfl, M2, R2, hd, ht⟩
          have HSP2 := hid (HSP1.out.call hd ht)
          clear hd ht HCA y0
          go_wp2_with fail
          go_roundw
          case rel => exact ⟨4, rfl, .inr (by have := hlt; omega), hid (fun _ => HWY.out), hid ⟨M2, R2, by rw [mdisk_4 HWY.out]; exact HSP2.out⟩⟩
          case measure => simp [intOf]; omega
      · have HSP1 := hid hsp
        clear hsp HK
        have hbx := HSP1.out.blk (HMA.out.blk.below HB5.out HMA.out.blk.lt) (.inr (.inl rfl))
        by_cases hk : k < 4
        · have hwy : mwhy s i r k = 0 := by
            by_cases h3 : k < 3
            · exact mwhy_low h3
            · rw [mwhy_high (by omega)]
              exact HW3.out (by have := HN.out; omega)
          have hds : mdisk s i r (j : Int) = mdisk s i r k := by
            by_cases h0 : k < 1
            · have hj0 : j = 0 := by have := HN.out; omega
              rw [hj0, mdisk_0, mdisk_low h0]
            · rw [show (j : Int) = k by have := HN.out; omega]
          have e1 := HD.out.trans (mdone_not (s := s) (i := i) (r := r) hk)
          have e2 := HY.out.trans hwy
          have e3 := HSD.out.trans hds.symm
          subst e1 e2 e3
          clear HD HY HSD
          have HBX := hid hbx
          clear hwy hds hbx
          go_wp2_with fail
          go_ret2
          have hm := HMA.out
          exact ⟨rfl, M1, R1, ⟨HBX.out, HSP1.out.disk, HSP1.out.off b (.inr (.inl rfl)), HSP1.out.r, hm.a0, hm.a1, hm.nx1, hm.q64⟩, HSP1.out.turns⟩
        · have hj4 : j = 4 := by have := HN.out; omega
          subst hj4
          have hwy := HW3.out (by decide)
          have e1 := HD.out.trans (mdone_yes (s := s) (i := i) (r := r) (k := k) (by omega) hwy)
          have e2 := HY.out.trans ((mwhy_high (s := s) (i := i) (r := r) (k := k) (by omega)).trans hwy)
          have e3 := HSD.out.trans (mdisk_high (s := s) (i := i) (r := r) (k := k) (by omega) hwy)
          subst e1 e2 e3
          clear HD HY HSD
          have hd4 := HSP1.out
          rw [mdisk_4 hwy] at hd4
          have HDK := hid hd4
          have HCO := hid (complete_is hbx (i := nx) HMA.out.nx1 p)
          clear hwy hd4 hbx HSP1
          go_wp2_with fail
          go_fit HCO.out
          rintro e w6 ⟨rfl, hx6, ho6⟩
          have HX6 := hid hx6
          have HO6 := hid ho6
          clear hx6 ho6
          go_wp2_with fail
          go_ret2
          have hm := HMA.out
          have hd := HDK.out
          have hob := hd.off b (.inr (.inl rfl))
          have hor := hd.r
          exact ⟨rfl, M1, R1, ⟨HX6.out, hd.disk.keep HO6.out.size fun k hk => HO6.out.block k (hd.disk.lt k hk) (fun e => by
            injection e with e
            subst e
            exact hk.elim hob hor), hob, hor, hm.a0, hm.a1, Nat.sub_le _ _, HPQ.out⟩, hd.turns.trans (MTurns.of_only HO6.out)⟩

end Go.Proofs.YtngclmjefadokaaDoor
