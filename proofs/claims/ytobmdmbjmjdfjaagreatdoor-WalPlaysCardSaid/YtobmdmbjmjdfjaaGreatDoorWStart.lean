/-
  A new segment is begun.
-/
import Derived.Test.YtobmdmbjmjdfjaaGreatDoorWWrite
namespace Go.Proofs.YtobmdmbjmjdfjaaGreatDoor
open Go Go.RowKit

theorem start_push {w4 w5 w8 : World} {b d c cc mb cb f q k m8 c8 : Nat} {A C Ab A8 : Option Addr} {N : Nat → Prop} {l : Wl} {bb : List UInt8} {o : Obj} (h : LIn w4 b d A c C cc N l) (hrow : Row w4 0 5 Ab mb cb bb) (h5 : w5 = (((w4.setCell ⟨b, 7, none⟩ (.int .i64 (f : Int))).setCell ⟨b, 8, none⟩ (.int .u64 (q : Int))).setCell ⟨b, 9, none⟩ (.slice Ab mb cb))) (hne : bb ≠ []) (hAb : Ab ≠ none)
    (hr8 : GRow eEn 73 w8 0 A8 m8 c8 (l.live.map (·.en) ++ [((f, q) : En)])) (hw : (w5.drew.alloc o).grownBy w8 (Value.slice A l.live.length c).ownBlock) (ho : (Value.slice A8 m8 c8).ownBlock = (Value.slice A l.live.length c).ownBlock ∨ (Value.slice A8 m8 c8).ownBlock = some (w5.drew.alloc o).heap.size)
    (hp : LPl { l with live := l.live ++ [⟨f, q, k⟩], stream := bb }) :
    LIn (w8.setCell ⟨b, 4, none⟩ (.slice A8 m8 c8)) b d A8 c8 Ab cb (fun g => N g ∨ (Value.slice Ab mb cb).ownBlock = some g ∨ (Value.slice A8 m8 c8).ownBlock = some g) { l with live := l.live ++ [⟨f, q, k⟩], stream := bb } ∧ Within N w4 (w8.setCell ⟨b, 4, none⟩ (.slice A8 m8 c8)) ∧
      ∀ g, (Value.slice A8 m8 c8).ownBlock = some g → N g ∨ w4.heap.size ≤ g := by
  have hm8 : m8 = (l.live ++ [(⟨f, q, k⟩ : Sg)]).length := by rw [hr8.1]; simp
  have hmb := hrow.1
  have hs5 : w5.heap.size = w4.heap.size := by rw [h5]; simp
  have hst5 : ∀ g, g ≠ b → w5.heap[g]? = w4.heap[g]? := fun g hg => by
    rw [h5]
    exact ((Below.heap_setCell _ _ _ _ hg).trans (Below.heap_setCell _ _ _ _ hg)).trans (Below.heap_setCell _ _ _ _ hg)
  have hb5 : Blk w5 b 76 #[.pointer (some ⟨d, 0, none⟩), .int .i64 (l.at_ : Int), .int .i64 (l.n : Int), .int .i64 (l.size : Int), .slice A l.live.length c, .int .u64 (l.last : Int), .int .u64 (l.synced : Int), .int .i64 (f : Int), .int .u64 (q : Int), .slice Ab mb cb] := by
    have := ((h.blk.set 7 (.int .i64 (f : Int))).set 8 (.int .u64 (q : Int))).set 9 (.slice Ab mb cb)
    rw [h5]
    simpa using this
  have hou : ∀ g, (Value.slice A l.live.length c).ownBlock = some g → g ≠ b := fun g hg e => own_off h.used.2 h.blk (by decide) (e ▸ hg)
  have hst : ∀ g, g < w4.heap.size → g ≠ b → some g ≠ (Value.slice A l.live.length c).ownBlock → (w8.setCell ⟨b, 4, none⟩ (.slice A8 m8 c8)).heap[g]? = w4.heap[g]? := fun g hg hne hno =>
    (((Below.heap_setCell _ _ _ _ hne).trans (hw.block g (Nat.lt_of_lt_of_le (by rw [← hs5] at hg; exact hg) (by simp)) hno)).trans (Below.heap_alloc _ _ _ (by rw [← hs5] at hg; exact hg))).trans (hst5 g hne)
  have hbk : Blk w8 b 76 _ := (hb5.drew.alloc o).grown hw (fun e => own_off h.used.2 h.blk (by decide) e.symm)
  have hset : (w8.setCell ⟨b, 4, none⟩ (.slice A8 m8 c8)).heap.size = w8.heap.size := by simp
  have hsz : w4.heap.size ≤ w8.heap.size := by rw [← hs5]; exact Nat.le_trans (by simp) hw.size
  have hown : ∀ g, (Value.slice A8 m8 c8).ownBlock = some g → N g ∨ w4.heap.size ≤ g := fun g hg => by
    rcases ho with ho | ho
    · exact .inl (h.mu g (ho ▸ hg))
    · rw [ho] at hg
      injection hg with hg
      exact .inr (by rw [← hg, ← hs5]; simp)
  subst hm8 hmb
  refine ⟨⟨?_, ?_, ?_, ⟨fun e => absurd e hAb, fun e => absurd e hne⟩, .inl h.mb, fun g hg => .inr (.inr hg), fun g hg => .inr (.inl hg), fun g hg => ?_, hp⟩, ⟨?_, ?_, ?_, ?_, fun g hg hn => hst g hg (fun e => hn (e ▸ h.mb)) (fun e => hn (h.mu g e.symm))⟩, hown⟩
  · have := hbk.set 4 (.slice A8 (l.live ++ [(⟨f, q, k⟩ : Sg)]).length c8)
    have hcur : curE { l with live := l.live ++ [⟨f, q, k⟩], stream := bb } = (f, q) := by unfold curE; rw [if_neg hne]; simp [Sg.en]
    rw [hcur]
    simpa using this
  · have : GRow eEn 73 (w8.setCell ⟨b, 4, none⟩ (.slice A8 (l.live ++ [(⟨f, q, k⟩ : Sg)]).length c8)) 0 A8 _ c8 _ := ⟨hr8.1, ownsRow_setCell_other (a := ⟨b, 4, none⟩) hr8.2 (own_off (e := 73) hr8.2 hbk (by decide)) (.slice A8 (l.live ++ [(⟨f, q, k⟩ : Sg)]).length c8)⟩
    simpa [Sg.en] using this
  · refine row_of (N := fun g => (Value.slice Ab bb.length cb).ownBlock = some g) hrow (fun g hg => hg) (fun g hg => hst g (hrow.2.lt g hg).2 (fun e => own_off hrow.2 h.blk (by decide) (e ▸ hg)) (fun e => ?_))
    rcases own_apart hrow.2 h.used.2 (by decide) with h0 | h0
    · rw [h0] at hg; cases hg
    · exact h0 (hg.trans e)
  · rw [hset]
    rcases hg with hg | hg | hg
    · exact Nat.lt_of_lt_of_le (h.lt g hg) hsz
    · exact Nat.lt_of_lt_of_le (hrow.2.lt g hg).2 hsz
    · exact (hr8.2.lt g hg).2
  · show w8.os = w4.os
    rw [hw.os, h5]; rfl
  · show w8.tape = w4.tape
    rw [hw.tape, h5]; rfl
  · show w8.output = w4.output
    rw [hw.output, h5]; rfl
  · rw [hset]; exact hsz

structure Started (w w' : World) (b d : Nat) (N M R : Nat → Prop) (s' : Dk) (l' : Wl) (own : Nat → Prop) : Prop where
  ex : ∃ N' M' R', WA w' b d N' M' R' s' l' ∧ Within (fun k => N k ∨ M k) w w' ∧ (∀ k, N' k ∨ M' k → (N k ∨ M k) ∨ own k ∨ w.heap.size ≤ k) ∧ (∀ k, R' k → R k ∨ w.heap.size ≤ k)
theorem wrSt_pend {p : Int} {st : List UInt8} : ∀ (f : Nat) {s : Dk} {k : Nat}, (wrSt s p st f k).1.pend.length ≤ s.pend.length + f
  | 0, s, k => Nat.le_refl _
  | f + 1, s, k => by
    unfold wrSt
    split
    · dsimp only
      split
      · have := wrSt_pend (p := p) (st := st) f (s := s.write (p + (k : Int)) ((st.drop (512 * k)).take 512)) (k := k + 1)
        have := Dk.write_len s (p + (k : Int)) ((st.drop (512 * k)).take 512)
        omega
      · dsimp only; omega
    · dsimp only; omega
set_option maxHeartbeats 8000000 in
set_option maxRecDepth 100000 in
theorem start_log {w : World} {b d : Nat} {N M R : Nat → Prop} {s : Dk} {l : Wl} (h : WA w b d N M R s l) {q k mb cb : Nat} {Ab : Option Addr} {bb : List UInt8} (hq : q < 18446744073709551616) (hrow : Row w 0 5 Ab mb cb bb) (hne : bb ≠ []) (hbl : bb.length ≤ 512 * l.size)
    (hoff : ∀ g, (Value.slice Ab mb cb).ownBlock = some g → ¬ N g ∧ ¬ M g ∧ ¬ R g) (hp : s.pend.length ≤ 800000) :
    Calls Tryz.prog 37 #[.pointer (some ⟨b, 0, none⟩), .int .u64 (q : Int), .slice Ab mb cb] w fun e w' =>
      if l.fresh < 0 then e = .returned (.int .i64 82) ∧ Started w w' b d N M R s l (fun g => (Value.slice Ab mb cb).ownBlock = some g)
      else if (wrSt s (l.place l.fresh.toNat) bb l.size 0).2 = 0 then e = .returned (.int .i64 0) ∧ Started w w' b d N M R (wrSt s (l.place l.fresh.toNat) bb l.size 0).1 { l with live := l.live ++ [⟨l.fresh.toNat, q, k⟩], stream := bb } (fun g => (Value.slice Ab mb cb).ownBlock = some g)
      else e = .returned (.int .i64 ((wrSt s (l.place l.fresh.toNat) bb l.size 0).2 : Int)) ∧ Started w w' b d N M R (freeN (wrSt s (l.place l.fresh.toNat) bb l.size 0).1 (l.place l.fresh.toNat) l.size).sync { l with stream := [], synced := l.last } (fun g => (Value.slice Ab mb cb).ownBlock = some g) := by
  obtain ⟨A1, c1, C1, cc1, hl⟩ := h.log
  have HW := hid h
  have HROW := hid hrow
  have HNE := hid hne
  have HOF := hid hoff
  have HP := hid hp
  have HBL := hid hbl
  have HQ := hid hq
  have HUN := hid (unused_is hl)
  have hll := hl.pl
  have HPL0 := hid hll
  have hfr : l.fresh < (l.n : Int) := nextI_lt _ _ _ (Nat.le_refl _)
  have hfo : 0 ≤ l.fresh → (!usedBy l.live l.fresh.toNat) = true := fun h0 => nextI_ok (f := fun i => !usedBy l.live i) h0
  have HAB := hid (show Ab ≠ none from fun e => by
    subst e
    rcases hrow.2.2 with ⟨_, h0⟩ | ⟨g, cap, cur, hv, _⟩
    · exact hne (List.length_eq_zero_iff.1 (by rw [← hrow.1]; exact h0))
    · injection hv with e; cases e)
  clear h hl hrow hne hoff hp hbl hq hll
  generalize l.fresh = fr at *
  by_cases h0 : fr < 0
  · simp only [if_pos h0]
    have hu := HUN.out
    unfold UnIs at hu
    simp only [if_neg (show ¬ 0 ≤ fr by omega)] at hu
    have HU := hid hu
    clear hu HUN h0 hfr hfo
    go_enter Tryz.func37, Tryz.ntmps37
    go_wp2_with fail
    go_fit HU.out
    rintro e w1 ⟨rfl, hb1⟩
    have HB1 := hid hb1
    clear hb1
    go_wp2_with fail
    go_ret
    exact ⟨rfl, ⟨N, M, R, HW.out.step HB1.out, Within.of_below HB1.out, fun k hk => .inl hk, fun k hk => .inl hk⟩⟩
  · simp only [if_neg h0]
    obtain ⟨f, rfl⟩ : ∃ f : Nat, fr = (f : Int) := ⟨fr.toNat, by omega⟩
    rw [show ((f : Nat) : Int).toNat = f by simp] at hfo ⊢
    have hu := HUN.out
    unfold UnIs at hu
    simp only [if_pos (show (0 : Int) ≤ (f : Int) by omega)] at hu
    have HU := hid hu
    have HFN := hid (show f < l.n by omega)
    have HFO := hid (hfo (by omega))
    have HWR := hid (fun (W : World) (hW : Below w.heap.size w W) => write_log (HW.out.step hW) (i := f) (old := 0) (m := mb) (c := cb) (B := w.heap.size) (A := Ab) (st := bb) HFN.out (HROW.out.at_.below hW) HROW.out.1 (row_cap HROW.out) hW.size (fun g off e => (HOF.out g (by rw [e]; rfl)).2.1) HBL.out (Nat.zero_le _) (by have := HP.out; omega))
    rw [show 0 / 512 = 0 from rfl] at HWR
    have HWP := hid (wrSt_pend (p := l.place f) (st := bb) l.size (s := s) (k := 0))
    generalize wrSt s (l.place f) bb l.size 0 = r at *
    obtain ⟨s1, e1⟩ := r
    dsimp only at HWR ⊢
    have HSP := hid (show s1.pend.length ≤ 900000 by have h1 := HWP.out; have h2 := HPL0.out.size; have h3 := HP.out; dsimp only at h1; omega)
    clear hu HUN h0 hfr hfo HWP
    by_cases he : e1 = 0
    · subst he
      simp only [↓reduceIte]
      go_enter Tryz.func37, Tryz.ntmps37
      go_wp2_with fail
      go_fit HU.out
      rintro e w1 ⟨rfl, hb1⟩
      have HB1 := hid hb1
      clear hb1
      go_wp2_with fail
      go_fit (HWR.out w1 HB1.out)
      rintro e w4 ⟨rfl, M4, R4, hw4, ht4⟩
      have HW4 := hid hw4
      have HT4 := hid (Turns.behind HB1.out ht4)
      clear hw4 ht4
      obtain ⟨A, c, C, cc, hl⟩ := HW4.out.log
      have HL4 := hid hl
      have HR4 := hid (show Row w4 0 5 Ab mb cb bb from row_of (N := fun g => (Value.slice Ab mb cb).ownBlock = some g) HROW.out (fun g hg => hg) (fun g hg => HT4.out.block g (HROW.out.2.lt g hg).2 (HOF.out g hg).2.1))
      have x4 := hl.blk.cell 4
      have xf4 := hl.blk.free 4
      have x7 := hl.blk.cell 7
      have xf7 := hl.blk.free 7
      have x8 := hl.blk.cell 8
      have xf8 := hl.blk.free 8
      have x9 := hl.blk.cell 9
      have xf9 := hl.blk.free 9
      have HPL := hid (show LPl { l with live := l.live ++ [⟨f, q, k⟩], stream := bb } from by
        have hp := HPL0.out
        have hu := HFO.out
        refine ⟨hp.n2, hp.n, hp.s1, hp.size, hp.place, ?_, fun x hx => ?_, hp.last, hp.synced, HBL.out, fun _ => by simp⟩
        · rw [List.map_append, List.nodup_append]
          refine ⟨hp.nodup, by simp, ?_⟩
          intro x hx y hy
          obtain ⟨z, hz, rfl⟩ := List.mem_map.1 hx
          simp at hy
          subst hy
          exact usedBy_mem (by simpa using hu) z hz
        · have hx : x ∈ l.live ++ [⟨f, q, k⟩] := hx
          rw [List.mem_append] at hx
          rcases hx with hx | hx
          · exact hp.lt x hx
          · simp at hx
            subst hx
            exact ⟨HFN.out, HQ.out⟩)
      have HFIN := hid (fun (wf : World) (A8 : Option Addr) (x8 : Nat × Nat) (hE : LIn wf b d A8 x8.2 Ab cb (fun g => N g ∨ (Value.slice Ab mb cb).ownBlock = some g ∨ (Value.slice A8 x8.1 x8.2).ownBlock = some g) { l with live := l.live ++ [⟨f, q, k⟩], stream := bb } ∧ Within N w4 wf ∧ ∀ g, (Value.slice A8 x8.1 x8.2).ownBlock = some g → N g ∨ w4.heap.size ≤ g) =>
        show Started w wf b d N M R s1 { l with live := l.live ++ [⟨f, q, k⟩], stream := bb } (fun g => (Value.slice Ab mb cb).ownBlock = some g) from by
          obtain ⟨hE1, hE2, hE3⟩ := hE
          have hwsz := HT4.out.size
          have hab : ∀ g, (Value.slice Ab mb cb).ownBlock = some g → ¬ M4 g ∧ ¬ R4 g := fun g hg => ⟨fun x => by
              have h1 := (HROW.out.2.lt g hg).2
              rcases HT4.out.own g x with y | y
              · exact (HOF.out g hg).2.1 y
              · omega, fun x => by
              have h1 := (HROW.out.2.lt g hg).2
              rcases HT4.out.held g x with y | y
              · exact (HOF.out g hg).2.2 y
              · omega⟩
          have hd4 := HW4.out.disk
          have ha4 := HW4.out.apart
          refine ⟨⟨_, M4, R4, ⟨⟨_, _, _, _, hE1⟩, hd4.keep hE2.size (fun g hg => hE2.block g (hd4.lt g hg) (fun x => hg.elim (ha4 g x).1 (ha4 g x).2)), fun g hg => ?_⟩, ?_, fun g hg => ?_, HT4.out.held⟩⟩
          · rcases hg with hg | hg | hg
            · exact ha4 g hg
            · exact hab g hg
            · rcases hE3 g hg with y | y
              · exact ha4 g y
              · exact ⟨fun x => by have := hd4.lt g (.inl x); omega, fun x => by have := hd4.lt g (.inr x); omega⟩
          · exact ((Within.of_turns HT4.out).mono fun _ x => .inr x).then hE2 (fun g x => .inl (.inl x))
          · rcases hg with (hg | hg | hg) | hg
            · exact .inl (.inl hg)
            · exact .inr (.inl hg)
            · rcases hE3 g hg with y | y
              · exact .inl (.inl y)
              · exact .inr (.inr (by omega))
            · rcases HT4.out.own g hg with y | y
              · exact .inl (.inr y)
              · exact .inr (.inr y))
      have HCN := hid (show (l.live.map (·.en)).length + 1 ≤ 1099511627776 by rw [List.length_map]; have := HPL0.out.live; omega)
      have HUS := hid hl.used
      have HNB := hid (show some b ≠ (Value.slice A l.live.length c).ownBlock from fun e => own_off hl.used.2 hl.blk (by decide) e.symm)
      have hb5 := ((hl.blk.set 7 (.int .i64 (f : Int))).set 8 (.int .u64 (q : Int))).set 9 (.slice Ab mb cb)
      have HB5 := hid hb5
      have HU5 := hid (show GRow eEn 73 (((w4.setCell ⟨b, 7, none⟩ (.int .i64 (f : Int))).setCell ⟨b, 8, none⟩ (.int .u64 (q : Int))).setCell ⟨b, 9, none⟩ (.slice Ab mb cb)) 0 A l.live.length c (l.live.map (·.en)) from ⟨hl.used.1, ownsRow_setCell_other (a := ⟨b, 9, none⟩) (ownsRow_setCell_other (a := ⟨b, 8, none⟩) (ownsRow_setCell_other (a := ⟨b, 7, none⟩) hl.used.2 (own_off hl.used.2 hl.blk (by decide)) _) (own_off hl.used.2 hl.blk (by decide)) _) (own_off hl.used.2 hl.blk (by decide)) _⟩)
      clear hl hb5 HUS
      go_upto_region 11 with fail
      obtain ⟨w5, h5⟩ : ∃ w5, w5 = (((w4.setCell ⟨b, 7, none⟩ (.int .i64 (f : Int))).setCell ⟨b, 8, none⟩ (.int .u64 (q : Int))).setCell ⟨b, 9, none⟩ (.slice Ab mb cb)) := ⟨_, rfl⟩
      rw [← h5] at HB5 HU5
      have HB5Q := hid h5
      rw [← h5]
      clear h5 x4 x7 x8 x9 xf4 xf7 xf8 xf9
      have x4 : w5.cell? ⟨b, 4, none⟩ = some (.slice A l.live.length c) := HB5.out.cell 4
      have x7 : w5.cell? ⟨b, 7, none⟩ = some (.int .i64 (f : Int)) := HB5.out.cell 7
      have x8 : w5.cell? ⟨b, 8, none⟩ = some (.int .u64 (q : Int)) := HB5.out.cell 8
      have x4d : w5.drew.cell? ⟨b, 4, none⟩ = some (.slice A l.live.length c) := x4
      have x7d : w5.drew.cell? ⟨b, 7, none⟩ = some (.int .i64 (f : Int)) := x7
      have x8d : w5.drew.cell? ⟨b, 8, none⟩ = some (.int .u64 (q : Int)) := x8
      have hbl := HB5.out.lt
      have HU := hid (show GRow eEn 73 (w5.drew.alloc (.cells #[.int .i64 (f : Int), .int .u64 (q : Int)] 73)) 0 A l.live.length c (l.live.map (·.en)) from GRow.alloc (w := w5.drew) HU5.out _)
      have HX := hid (show GAt eEn (w5.drew.alloc (.cells #[.int .i64 (f : Int), .int .u64 (q : Int)] 73)) (w5.drew.heap.size + 1) (some ⟨w5.heap.size, 0, none⟩) [((f, q) : En)] from GAt.one_at rfl rfl)
      have HBK := hid (Blk.alloc (w := w5.drew) HB5.out (.cells #[.int .i64 (f : Int), .int .u64 (q : Int)] 73))
      refine wp_region_any (by kernel_rfl) ?_
      try (change wpAny _ _ _ _ _ _ _ (World.drew _))
      refine stA 0 ?_; (try simp only [putr]); refine stA 1 ?_; (try simp only [putr]); refine stA 2 ?_; (try simp only [putr]); refine stA 3 ?_; (try simp only [putr]); refine stA 5 ?_; (try simp only [putr]); refine stA 6 ?_; (try simp only [putr]); refine stA 7 ?_; (try simp only [putr]); refine rdA [4, 8] ?_; refine rcA (fun KK hKK => ?_) ?_
      · go_simp; refine hKK _ _ ?_; clear hKK KK; (try simp only [putr]); refine rdA [8] ?_; refine rcA (fun KK hKK => ?_) AllReady.nil; go_simp; refine hKK _ _ ?_; clear hKK KK; (try simp only [putr]); refine rdA [9] ?_; refine rcA (fun KK hKK => ?_) AllReady.nil; go_simp; refine hKK _ _ ?_; clear hKK KK; (try simp only [putr]); refine rdA [10] ?_; refine rcA (fun KK hKK => ?_) AllReady.nil
        refine wp_append_own _ (.tmp 45) (.tmp 50) eEn gi_en (by decide) rfl 0 rfl HU.out rfl rfl (ns := [((f, q) : En)]) HX.out HCN.out (Nat.zero_le _) ?_
        intro A8 m8 c8 w8 hr8 hc8 hb8 hw8 ho8
        refine hKK _ _ ?_; clear hKK KK
        have q4 := (HBK.out.grown hw8 HNB.out).cell 4
        have f4 := (HBK.out.grown hw8 HNB.out).free 4
        (try simp only [putr]); refine stA 11 ?_; (try simp only [putr]); refine stA 12 ?_; (try simp only [putr]); refine rdA [13] ?_; refine rcA (fun KK hKK => ?_) AllReady.nil; go_simp; refine hKK _ _ ?_; clear hKK KK; (try simp only [Act.put]); refine wpAny_done (by kernel_rfl) ?_ _
        have HE := hid (start_push (k := k) HL4.out HR4.out HB5Q.out HNE.out HAB.out hr8 hw8 ho8 HPL.out)
        clear hr8 hw8 ho8 hc8 hb8 q4 f4
        go_wp2_with fail
        go_ret
        exact ⟨rfl, HFIN.out _ A8 (m8, c8) HE.out⟩
      refine rcA (fun KK hKK => ?_) AllReady.nil
      · go_simp; refine hKK _ _ ?_; clear hKK KK; (try simp only [putr]); refine rdA [4, 9] ?_; refine rcA (fun KK hKK => ?_) ?_
        · go_simp; refine hKK _ _ ?_; clear hKK KK; (try simp only [putr]); refine rdA [9] ?_; refine rcA (fun KK hKK => ?_) AllReady.nil; go_simp; refine hKK _ _ ?_; clear hKK KK; (try simp only [putr]); refine rdA [10] ?_; refine rcA (fun KK hKK => ?_) AllReady.nil
          refine wp_append_own _ (.tmp 45) (.tmp 50) eEn gi_en (by decide) rfl 0 rfl HU.out rfl rfl (ns := [((f, q) : En)]) HX.out HCN.out (Nat.zero_le _) ?_
          intro A8 m8 c8 w8 hr8 hc8 hb8 hw8 ho8
          refine hKK _ _ ?_; clear hKK KK
          have q4 := (HBK.out.grown hw8 HNB.out).cell 4
          have f4 := (HBK.out.grown hw8 HNB.out).free 4
          (try simp only [putr]); refine stA 11 ?_; (try simp only [putr]); refine stA 12 ?_; (try simp only [putr]); refine rdA [13] ?_; refine rcA (fun KK hKK => ?_) AllReady.nil; go_simp; refine hKK _ _ ?_; clear hKK KK; (try simp only [Act.put]); refine wpAny_done (by kernel_rfl) ?_ _
          have HE := hid (start_push (k := k) HL4.out HR4.out HB5Q.out HNE.out HAB.out hr8 hw8 ho8 HPL.out)
          clear hr8 hw8 ho8 hc8 hb8 q4 f4
          go_wp2_with fail
          go_ret
          exact ⟨rfl, HFIN.out _ A8 (m8, c8) HE.out⟩
        refine rcA (fun KK hKK => ?_) AllReady.nil
        · go_simp; refine hKK _ _ ?_; clear hKK KK; (try simp only [putr]); refine rdA [4] ?_; refine rcA (fun KK hKK => ?_) AllReady.nil; go_simp; refine hKK _ _ ?_; clear hKK KK; (try simp only [putr]); refine rdA [10] ?_; refine rcA (fun KK hKK => ?_) AllReady.nil
          refine wp_append_own _ (.tmp 45) (.tmp 50) eEn gi_en (by decide) rfl 0 rfl HU.out rfl rfl (ns := [((f, q) : En)]) HX.out HCN.out (Nat.zero_le _) ?_
          intro A8 m8 c8 w8 hr8 hc8 hb8 hw8 ho8
          refine hKK _ _ ?_; clear hKK KK
          have q4 := (HBK.out.grown hw8 HNB.out).cell 4
          have f4 := (HBK.out.grown hw8 HNB.out).free 4
          (try simp only [putr]); refine stA 11 ?_; (try simp only [putr]); refine stA 12 ?_; (try simp only [putr]); refine rdA [13] ?_; refine rcA (fun KK hKK => ?_) AllReady.nil; go_simp; refine hKK _ _ ?_; clear hKK KK; (try simp only [Act.put]); refine wpAny_done (by kernel_rfl) ?_ _
          have HE := hid (start_push (k := k) HL4.out HR4.out HB5Q.out HNE.out HAB.out hr8 hw8 ho8 HPL.out)
          clear hr8 hw8 ho8 hc8 hb8 q4 f4
          go_wp2_with fail
          go_ret
          exact ⟨rfl, HFIN.out _ A8 (m8, c8) HE.out⟩
    · simp only [if_neg he]
      have hne : ((e1 : Int) != 0) = true := by simp; omega
      go_enter Tryz.func37, Tryz.ntmps37
      go_wp2_with fail
      go_fit HU.out
      rintro e w1 ⟨rfl, hb1⟩
      have HB1 := hid hb1
      clear hb1
      go_wp2_with fail
      go_fit (HWR.out w1 HB1.out)
      rintro e w4 ⟨rfl, M4, R4, hw4, ht4⟩
      have HT4 := hid (LTurns.of_turns (N := N) (Turns.behind HB1.out ht4))
      obtain ⟨A, c, C, cc, hl⟩ := hw4.log
      have HSTP := hid (stop_is hl)
      have HW4 := hid hw4
      have HNb := hid hl.mb
      clear hw4 ht4 hl
      go_wp2_with fail
      go_fit HSTP.out
      rintro e w5 ⟨rfl, hl5, ho5⟩
      have HW5 := hid (HW4.out.log' hl5 ho5)
      have HT5 := hid (HT4.out.trans (LTurns.of_only (M := M4) (R := R4) ho5 HNb.out))
      have HFR := hid (free_log HW5.out (i := f) (Nat.le_of_lt HFN.out) HSP.out)
      clear hl5 ho5 HSTP
      go_wp2_with fail
      go_fit HFR.out
      rintro e w6 ⟨rfl, M6, R6, hw6, ht6⟩
      have HT6 := hid (HT5.out.trans ht6)
      have HSY := hid (sync_log hw6)
      clear hw6 ht6 HFR
      go_wp2_with fail
      go_fit HSY.out
      rintro e w7 ⟨rfl, M7, R7, hw7, ht7⟩
      have HW7 := hid hw7
      have HT7 := hid (HT6.out.trans ht7)
      clear hw7 ht7 HSY
      go_wp2_with fail
      go_ret
      exact ⟨rfl, ⟨N, M7, R7, HW7.out, HT7.out.within, fun g hg => (HT7.out.own g hg).imp id .inr, HT7.out.held⟩⟩

end Go.Proofs.YtobmdmbjmjdfjaaGreatDoor
