/-
  A record behind the others of the current segment.
-/
import Derived.Test.YtobmdmbjmjdfjaaGreatDoorWStart
namespace Go.Proofs.YtobmdmbjmjdfjaaGreatDoor
open Go Go.RowKit

theorem bytes_push {w w1 : World} {b d c cc c2 : Nat} {A C C2 : Option Addr} {N : Nat → Prop} {l : Wl} {st : List UInt8} (h : LIn w b d A c C cc N l) (hown : w1.ownsRow 0 5 1 (.slice C2 st.length c2) st.length (bs st)) (hg : w.grownBy w1 (Value.slice C l.stream.length cc).ownBlock)
    (ho : (Value.slice C2 st.length c2).ownBlock = (Value.slice C l.stream.length cc).ownBlock ∨ (Value.slice C2 st.length c2).ownBlock = some w.heap.size) (hs : l.stream ≠ []) (hst : st ≠ []) (hp : LPl { l with stream := st }) :
    LIn (w1.setCell ⟨b, 9, none⟩ (.slice C2 st.length c2)) b d A c C2 c2 (fun g => N g ∨ (Value.slice C2 st.length c2).ownBlock = some g) { l with stream := st } ∧ Within N w (w1.setCell ⟨b, 9, none⟩ (.slice C2 st.length c2)) ∧ ∀ g, (Value.slice C2 st.length c2).ownBlock = some g → N g ∨ w.heap.size ≤ g := by
  have hst9 : ∀ g, g < w.heap.size → g ≠ b → some g ≠ (Value.slice C l.stream.length cc).ownBlock → (w1.setCell ⟨b, 9, none⟩ (.slice C2 st.length c2)).heap[g]? = w.heap[g]? := fun g hg' hne hno => (Below.heap_setCell _ _ _ _ hne).trans (hg.block g hg' hno)
  have hbk : Blk w1 b 76 _ := h.blk.grown hg (fun e => own_off h.bytes.2 h.blk (by decide) e.symm)
  have hset : (w1.setCell ⟨b, 9, none⟩ (.slice C2 st.length c2)).heap.size = w1.heap.size := by simp
  have howng : ∀ g, (Value.slice C2 st.length c2).ownBlock = some g → N g ∨ w.heap.size ≤ g := fun g hg' => by
    rcases ho with ho | ho
    · exact .inl (h.mc g (ho ▸ hg'))
    · rw [ho] at hg'
      injection hg' with hg'
      exact .inr (by omega)
  have hC2 : C2 ≠ none := fun e => by
    subst e
    rcases hown.2 with ⟨_, h0⟩ | ⟨g, cap, cur, hv, _⟩
    · exact hst (List.length_eq_zero_iff.1 h0)
    · injection hv with e; cases e
  refine ⟨⟨?_, ?_, ⟨rfl, ownsRow_setCell_other (a := ⟨b, 9, none⟩) hown (own_off hown hbk (by decide)) _⟩, ⟨fun e => absurd e hC2, fun e => absurd e hst⟩, .inl h.mb, fun g hg' => .inl (h.mu g hg'), fun g hg' => .inr hg', fun g hg' => ?_, hp⟩, ⟨hg.os, hg.tape, hg.output, by rw [hset]; exact hg.size, fun g hg' hn => hst9 g hg' (fun e => hn (e ▸ h.mb)) (fun e => hn (h.mc g e.symm))⟩, howng⟩
  · have := hbk.set 9 (.slice C2 st.length c2)
    have hcur : curE { l with stream := st } = curE l := by unfold curE; rw [if_neg hst, if_neg hs]
    rw [hcur]
    simpa using this
  · refine grow_of (N := fun g => (Value.slice A l.live.length c).ownBlock = some g) h.used (fun g hg' => hg') (fun g hg' => hst9 g (h.used.2.lt g hg').2 (fun e => own_off h.used.2 h.blk (by decide) (e ▸ hg')) (fun e => ?_))
    rcases own_apart h.used.2 h.bytes.2 (by decide) with h0 | h0
    · rw [h0] at hg'; cases hg'
    · exact h0 (hg'.trans e)
  · rw [hset]
    rcases hg' with hg' | hg'
    · exact Nat.lt_of_lt_of_le (h.lt g hg') hg.size
    · exact (hown.lt g hg').2

set_option maxHeartbeats 8000000 in
set_option maxRecDepth 100000 in
theorem extend_log {w : World} {b d : Nat} {N M R : Nat → Prop} {s : Dk} {l : Wl} (h : WA w b d N M R s l) {x : Sg} {nb cb B : Nat} {Ab : Option Addr} {rec_ : List UInt8} (hx : l.live.getLast? = some x) (hs : l.stream ≠ []) (hA : At w B Ab rec_) (hn : nb = rec_.length) (hB : B ≤ w.heap.size) (hlen : (l.stream ++ rec_).length ≤ 512 * l.size) (hp : s.pend.length ≤ 800000) :
    Calls Tryz.prog 38 #[.pointer (some ⟨b, 0, none⟩), .slice Ab nb cb] w fun e w' =>
      e = .returned (.int .i64 ((wrSt s (l.place x.i) (l.stream ++ rec_) l.size (l.stream.length / 512)).2 : Int)) ∧ ∃ N' M' R', WA w' b d N' M' R' (wrSt s (l.place x.i) (l.stream ++ rec_) l.size (l.stream.length / 512)).1
        { l with stream := if (wrSt s (l.place x.i) (l.stream ++ rec_) l.size (l.stream.length / 512)).2 = 0 then l.stream ++ rec_ else [] } ∧ LTurns N M R w N' M' R' w' := by
  obtain ⟨A, c, C, cc, hl⟩ := h.log
  have HW := hid h
  have HL := hid hl
  have HA := hid (hA.more hB)
  have HN := hid hn
  have HP := hid hp
  have HS := hid hs
  obtain ⟨st, hst⟩ : ∃ st, st = l.stream ++ rec_ := ⟨_, rfl⟩
  rw [← hst] at hlen ⊢
  have HST := hid hst
  generalize hr : wrSt s (l.place x.i) st l.size (l.stream.length / 512) = r
  obtain ⟨s1, e1⟩ := r
  have HRR := hid hr
  clear hr
  dsimp only
  have HNE := hid (show st ≠ [] by rw [hst]; intro e; exact hs (List.append_eq_nil_iff.1 e).1)
  have HLEN := hid hlen
  have hx32 : st.length ≤ 32768 := by have := hl.pl.size; omega
  have HLN := hid (show l.stream.length + rec_.length ≤ 140737488355328 by rw [hst, List.length_append] at hx32; omega)
  have hcu : curE l = (x.i, x.base) := by unfold curE; rw [if_neg hs, hx]; rfl
  have HXI := hid (show x.i < l.n from (hl.pl.lt x (List.mem_of_getLast? hx)).1)
  have hc7 : (curE l).1 = x.i := by rw [hcu]
  have x7 : w.cell? ⟨b, 7, none⟩ = some (.int .i64 (x.i : Int)) := by have := hl.blk.cell 7; rw [hc7] at this; exact this
  have x9 : w.cell? ⟨b, 9, none⟩ = some (.slice C l.stream.length cc) := hl.blk.cell 9
  have f9 := hl.blk.free 9
  have HC7 := hid hc7
  obtain ⟨i0, hi, hz0, hz1, hz2⟩ := info_parts info_byte
  have HI := hid hi
  have HZ0 := hid hz0
  have HZ1 := hid hz1
  have HZ2 := hid hz2
  clear h hA hn hB hp hs hst hlen hcu hx hc7 hi hz0 hz1 hz2 hx32
  have HOWN := hid hl.bytes.2
  have hbl := hl.blk.lt
  have HPL := hid (show LPl { l with stream := st } from by
    have hp := hl.pl
    exact ⟨hp.n2, hp.n, hp.s1, hp.size, hp.place, hp.nodup, hp.lt, hp.last, hp.synced, HLEN.out, fun _ => hp.cur HS.out⟩)
  have HNC := hid (show some b ≠ (Value.slice C l.stream.length cc).ownBlock from fun e => own_off hl.bytes.2 hl.blk (by decide) e.symm)
  clear hl
  by_cases he : e1 = 0
  · subst he
    simp only [↓reduceIte]
    go_enter Tryz.func38, Tryz.ntmps38
    go_upto_region 2 with fail
    go_wp2_with (at_builtin; go_must (refine wpList_append_bs _ rfl _ _ _ rfl 0 5 i0 Tryz.underlying74 HI.out HZ0.out HZ1.out HZ2.out (.slice C l.stream.length cc) l.stream rec_ rfl HOWN.out Ab nb cb rfl HN.out HA.out HLN.out (Nat.zero_le _) ?_))
    intro C2 c2 w1 hown1 hg1 ho1
    have hsl : l.stream.length + rec_.length = st.length := by rw [HST.out, List.length_append]
    rw [hsl] at hown1 ho1 ⊢
    rw [← HST.out] at hown1
    clear hsl
    have HPU := hid (bytes_push HL.out hown1 hg1 ho1 HS.out HNE.out HPL.out)
    have f9 := (HL.out.blk.grown hg1 HNC.out).free 9
    have x9 := (HL.out.blk.grown hg1 HNC.out).cell 9
    clear hown1 hg1 ho1 x7
    go_upto_region 3 with fail
    generalize w1.setCell ⟨b, 9, none⟩ (.slice C2 st.length c2) = w2 at *
    obtain ⟨hl2, hw2, hc2⟩ := HPU.out
    have x7 : w2.cell? ⟨b, 7, none⟩ = some (.int .i64 (x.i : Int)) := by
      have := hl2.blk.cell 7
      rw [show curE { l with stream := st } = curE l from by unfold curE; rw [if_neg HNE.out, if_neg HS.out], HC7.out] at this
      exact this
    have x9 : w2.cell? ⟨b, 9, none⟩ = some (.slice C2 st.length c2) := hl2.blk.cell 9
    have x7d : w2.drew.cell? ⟨b, 7, none⟩ = some (.int .i64 (x.i : Int)) := x7
    have x9d : w2.drew.cell? ⟨b, 9, none⟩ = some (.slice C2 st.length c2) := x9
    have hd := HW.out.disk
    have ha := HW.out.apart
    have HW2 := hid (show WA w2 b d (fun g => N g ∨ (Value.slice C2 st.length c2).ownBlock = some g) M R s { l with stream := st } from
      ⟨⟨_, _, _, _, hl2⟩, hd.keep hw2.size (fun g hg => hw2.block g (hd.lt g hg) (fun y => hg.elim (ha g y).1 (ha g y).2)), fun g hg => by
        rcases hg with hg | hg
        · exact ha g hg
        · rcases hc2 g hg with y | y
          · exact ha g y
          · exact ⟨fun z => by have := hd.lt g (.inl z); omega, fun z => by have := hd.lt g (.inr z); omega⟩⟩)
    have HT2 := hid (show LTurns N M R w (fun g => N g ∨ (Value.slice C2 st.length c2).ownBlock = some g) M R w2 from
      ⟨hw2.mono fun _ y => .inl y, fun g hg => by
        rcases hg with (hg | hg) | hg
        · exact .inl (.inl hg)
        · exact (hc2 g hg).imp .inl id
        · exact .inl (.inr hg), fun g hg => .inl hg⟩)
    have HWR := hid (fun (W : World) (hW : Below w2.heap.size w2 W) => write_log (HW2.out.step hW) (i := x.i) (old := l.stream.length) (m := st.length) (c := c2) (B := w2.heap.size) (A := C2) (st := st) HXI.out (hl2.bytes.at_.below hW) rfl (row_cap hl2.bytes) hW.size
      (fun g off e => by
        have : (Value.slice C2 st.length c2).ownBlock = some g := by rw [e]; rfl
        exact (HW2.out.apart g (.inr this)).1) HLEN.out (by rw [HST.out, List.length_append]; omega) (by have := HP.out; omega))
    have HFIN := hid (fun (s1 : Dk) (wf : World) (M4 R4 : Nat → Prop) (l' : Wl) (h4 : WA wf b d (fun g => N g ∨ (Value.slice C2 st.length c2).ownBlock = some g) M4 R4 s1 l') (ht : LTurns (fun g => N g ∨ (Value.slice C2 st.length c2).ownBlock = some g) M R w2 (fun g => N g ∨ (Value.slice C2 st.length c2).ownBlock = some g) M4 R4 wf) =>
      show ∃ N' M' R', WA wf b d N' M' R' s1 l' ∧ LTurns N M R w N' M' R' wf from ⟨_, M4, R4, h4, HT2.out.trans ht⟩)
    clear hl2 hw2 hc2 hd ha HPU
    rw [show wrSt s (Wl.place { l with stream := st } x.i) st (Wl.size { l with stream := st }) (l.stream.length / 512) = (s1, _) from HRR.out] at HWR
    dsimp only at HWR
    go_wp2_with fail
    refine wp_region_any (by kernel_rfl) ?_
    try (change wpAny _ _ _ _ _ _ _ (World.drew _))
    refine stA 0 ?_; (try simp only [putr]); refine stA 1 ?_; (try simp only [putr]); refine stA 2 ?_; (try simp only [putr]); refine stA 3 ?_; (try simp only [putr]); refine stA 4 ?_; (try simp only [putr]); refine stA 6 ?_; (try simp only [putr]); refine stA 7 ?_; (try simp only [putr]); refine stA 8 ?_; (try simp only [putr]); refine stA 9 ?_; (try simp only [putr]); refine rdA [5, 10] ?_; refine rcA (fun KK hKK => ?_) ?_
    · go_simp; refine hKK _ _ ?_; clear hKK KK; (try simp only [putr]); refine rdA [10] ?_; refine rcA (fun KK hKK => ?_) AllReady.nil; go_simp; refine hKK _ _ ?_; clear hKK KK; (try simp only [putr]); refine rdA [11] ?_; refine rcA (fun KK hKK => ?_) AllReady.nil; go_simp
      go_fit (HWR.out _ (Beyond.drew w2))
      rintro e w4 ⟨rfl, M4, R4, hw4, ht4⟩
      refine hKK _ _ ?_; clear hKK KK
      have HW4 := hid hw4
      have HT4 := hid (LTurns.of_turns (N := fun g => N g ∨ (Value.slice C2 st.length c2).ownBlock = some g) (Turns.behind (Beyond.drew w2) ht4))
      clear hw4 ht4
      (try simp only [putr]); refine stA 12 ?_; (try simp only [putr]); refine wpAny_done (by kernel_rfl) ?_ _
      go_wp2_with fail
      go_ret
      exact ⟨rfl, HFIN.out _ _ _ _ _ HW4.out HT4.out⟩
    refine rcA (fun KK hKK => ?_) AllReady.nil
    · go_simp; refine hKK _ _ ?_; clear hKK KK; (try simp only [putr]); refine rdA [5] ?_; refine rcA (fun KK hKK => ?_) AllReady.nil; go_simp; refine hKK _ _ ?_; clear hKK KK; (try simp only [putr]); refine rdA [11] ?_; refine rcA (fun KK hKK => ?_) AllReady.nil; go_simp
      go_fit (HWR.out _ (Beyond.drew w2))
      rintro e w4 ⟨rfl, M4, R4, hw4, ht4⟩
      refine hKK _ _ ?_; clear hKK KK
      have HW4 := hid hw4
      have HT4 := hid (LTurns.of_turns (N := fun g => N g ∨ (Value.slice C2 st.length c2).ownBlock = some g) (Turns.behind (Beyond.drew w2) ht4))
      clear hw4 ht4
      (try simp only [putr]); refine stA 12 ?_; (try simp only [putr]); refine wpAny_done (by kernel_rfl) ?_ _
      go_wp2_with fail
      go_ret
      exact ⟨rfl, HFIN.out _ _ _ _ _ HW4.out HT4.out⟩
  · simp only [if_neg he]
    have hne : ((e1 : Int) != 0) = true := by simp; omega
    clear he
    go_enter Tryz.func38, Tryz.ntmps38
    go_upto_region 2 with fail
    go_wp2_with (at_builtin; go_must (refine wpList_append_bs _ rfl _ _ _ rfl 0 5 i0 Tryz.underlying74 HI.out HZ0.out HZ1.out HZ2.out (.slice C l.stream.length cc) l.stream rec_ rfl HOWN.out Ab nb cb rfl HN.out HA.out HLN.out (Nat.zero_le _) ?_))
    intro C2 c2 w1 hown1 hg1 ho1
    have hsl : l.stream.length + rec_.length = st.length := by rw [HST.out, List.length_append]
    rw [hsl] at hown1 ho1 ⊢
    rw [← HST.out] at hown1
    clear hsl
    have HPU := hid (bytes_push HL.out hown1 hg1 ho1 HS.out HNE.out HPL.out)
    have f9 := (HL.out.blk.grown hg1 HNC.out).free 9
    have x9 := (HL.out.blk.grown hg1 HNC.out).cell 9
    clear hown1 hg1 ho1 x7
    go_upto_region 3 with fail
    generalize w1.setCell ⟨b, 9, none⟩ (.slice C2 st.length c2) = w2 at *
    obtain ⟨hl2, hw2, hc2⟩ := HPU.out
    have x7 : w2.cell? ⟨b, 7, none⟩ = some (.int .i64 (x.i : Int)) := by
      have := hl2.blk.cell 7
      rw [show curE { l with stream := st } = curE l from by unfold curE; rw [if_neg HNE.out, if_neg HS.out], HC7.out] at this
      exact this
    have x9 : w2.cell? ⟨b, 9, none⟩ = some (.slice C2 st.length c2) := hl2.blk.cell 9
    have x7d : w2.drew.cell? ⟨b, 7, none⟩ = some (.int .i64 (x.i : Int)) := x7
    have x9d : w2.drew.cell? ⟨b, 9, none⟩ = some (.slice C2 st.length c2) := x9
    have hd := HW.out.disk
    have ha := HW.out.apart
    have HW2 := hid (show WA w2 b d (fun g => N g ∨ (Value.slice C2 st.length c2).ownBlock = some g) M R s { l with stream := st } from
      ⟨⟨_, _, _, _, hl2⟩, hd.keep hw2.size (fun g hg => hw2.block g (hd.lt g hg) (fun y => hg.elim (ha g y).1 (ha g y).2)), fun g hg => by
        rcases hg with hg | hg
        · exact ha g hg
        · rcases hc2 g hg with y | y
          · exact ha g y
          · exact ⟨fun z => by have := hd.lt g (.inl z); omega, fun z => by have := hd.lt g (.inr z); omega⟩⟩)
    have HT2 := hid (show LTurns N M R w (fun g => N g ∨ (Value.slice C2 st.length c2).ownBlock = some g) M R w2 from
      ⟨hw2.mono fun _ y => .inl y, fun g hg => by
        rcases hg with (hg | hg) | hg
        · exact .inl (.inl hg)
        · exact (hc2 g hg).imp .inl id
        · exact .inl (.inr hg), fun g hg => .inl hg⟩)
    have HWR := hid (fun (W : World) (hW : Below w2.heap.size w2 W) => write_log (HW2.out.step hW) (i := x.i) (old := l.stream.length) (m := st.length) (c := c2) (B := w2.heap.size) (A := C2) (st := st) HXI.out (hl2.bytes.at_.below hW) rfl (row_cap hl2.bytes) hW.size
      (fun g off e => by
        have : (Value.slice C2 st.length c2).ownBlock = some g := by rw [e]; rfl
        exact (HW2.out.apart g (.inr this)).1) HLEN.out (by rw [HST.out, List.length_append]; omega) (by have := HP.out; omega))
    have HFIN := hid (fun (s1 : Dk) (wf : World) (M4 R4 : Nat → Prop) (l' : Wl) (h4 : WA wf b d (fun g => N g ∨ (Value.slice C2 st.length c2).ownBlock = some g) M4 R4 s1 l') (ht : LTurns (fun g => N g ∨ (Value.slice C2 st.length c2).ownBlock = some g) M R w2 (fun g => N g ∨ (Value.slice C2 st.length c2).ownBlock = some g) M4 R4 wf) =>
      show ∃ N' M' R', WA wf b d N' M' R' s1 l' ∧ LTurns N M R w N' M' R' wf from ⟨_, M4, R4, h4, HT2.out.trans ht⟩)
    clear hl2 hw2 hc2 hd ha HPU
    rw [show wrSt s (Wl.place { l with stream := st } x.i) st (Wl.size { l with stream := st }) (l.stream.length / 512) = (s1, _) from HRR.out] at HWR
    dsimp only at HWR
    go_wp2_with fail
    refine wp_region_any (by kernel_rfl) ?_
    try (change wpAny _ _ _ _ _ _ _ (World.drew _))
    refine stA 0 ?_; (try simp only [putr]); refine stA 1 ?_; (try simp only [putr]); refine stA 2 ?_; (try simp only [putr]); refine stA 3 ?_; (try simp only [putr]); refine stA 4 ?_; (try simp only [putr]); refine stA 6 ?_; (try simp only [putr]); refine stA 7 ?_; (try simp only [putr]); refine stA 8 ?_; (try simp only [putr]); refine stA 9 ?_; (try simp only [putr]); refine rdA [5, 10] ?_; refine rcA (fun KK hKK => ?_) ?_
    · go_simp; refine hKK _ _ ?_; clear hKK KK; (try simp only [putr]); refine rdA [10] ?_; refine rcA (fun KK hKK => ?_) AllReady.nil; go_simp; refine hKK _ _ ?_; clear hKK KK; (try simp only [putr]); refine rdA [11] ?_; refine rcA (fun KK hKK => ?_) AllReady.nil; go_simp
      go_fit (HWR.out _ (Beyond.drew w2))
      rintro e w4 ⟨rfl, M4, R4, hw4, ht4⟩
      refine hKK _ _ ?_; clear hKK KK
      have HW4 := hid hw4
      have HT4 := hid (LTurns.of_turns (N := fun g => N g ∨ (Value.slice C2 st.length c2).ownBlock = some g) (Turns.behind (Beyond.drew w2) ht4))
      clear hw4 ht4
      (try simp only [putr]); refine stA 12 ?_; (try simp only [putr]); refine wpAny_done (by kernel_rfl) ?_ _
      obtain ⟨A, c, C, cc, hl⟩ := HW4.out.log
      have HSTP := hid (stop_is hl)
      have HNb := hid hl.mb
      clear hl
      go_wp2_with fail
      go_fit HSTP.out
      rintro e w5 ⟨rfl, hl5, ho5⟩
      have HW5 := hid (HW4.out.log' hl5 ho5)
      have HT5 := hid (HT4.out.trans (LTurns.of_only (M := M4) (R := R4) ho5 HNb.out))
      clear hl5 ho5 HSTP
      go_wp2_with fail
      go_ret
      exact ⟨rfl, HFIN.out _ _ _ _ _ HW5.out HT5.out⟩
    refine rcA (fun KK hKK => ?_) AllReady.nil
    · go_simp; refine hKK _ _ ?_; clear hKK KK; (try simp only [putr]); refine rdA [5] ?_; refine rcA (fun KK hKK => ?_) AllReady.nil; go_simp; refine hKK _ _ ?_; clear hKK KK; (try simp only [putr]); refine rdA [11] ?_; refine rcA (fun KK hKK => ?_) AllReady.nil; go_simp
      go_fit (HWR.out _ (Beyond.drew w2))
      rintro e w4 ⟨rfl, M4, R4, hw4, ht4⟩
      refine hKK _ _ ?_; clear hKK KK
      have HW4 := hid hw4
      have HT4 := hid (LTurns.of_turns (N := fun g => N g ∨ (Value.slice C2 st.length c2).ownBlock = some g) (Turns.behind (Beyond.drew w2) ht4))
      clear hw4 ht4
      (try simp only [putr]); refine stA 12 ?_; (try simp only [putr]); refine wpAny_done (by kernel_rfl) ?_ _
      obtain ⟨A, c, C, cc, hl⟩ := HW4.out.log
      have HSTP := hid (stop_is hl)
      have HNb := hid hl.mb
      clear hl
      go_wp2_with fail
      go_fit HSTP.out
      rintro e w5 ⟨rfl, hl5, ho5⟩
      have HW5 := hid (HW4.out.log' hl5 ho5)
      have HT5 := hid (HT4.out.trans (LTurns.of_only (M := M4) (R := R4) ho5 HNb.out))
      clear hl5 ho5 HSTP
      go_wp2_with fail
      go_ret
      exact ⟨rfl, HFIN.out _ _ _ _ _ HW5.out HT5.out⟩

end Go.Proofs.YtobmdmbjmjdfjaaGreatDoor
