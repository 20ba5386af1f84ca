/-
  The segments that follow one another are put into use.
-/
import Derived.Test.YtobmdmbjmjdfjaaGreatDoorWPl
import Derived.Deep.CutRange
namespace Go.Proofs.YtobmdmbjmjdfjaaGreatDoor
open Go Go.RowKit

def wlc (at_ n size : Nat) (live : List Sg) (last : Nat) : Wl := ⟨at_, n, size, live, [], last, 0⟩
theorem info_en : (Tryz.prog.info? 73).map (fun i => (i.zero, i.size, i.bytes)) = some (some (.agg #[.int .i64 0, .int .u64 0]), 2, 16) := by kernel_rfl
theorem gi_en : GInfo eEn Tryz.prog 71 73 16 := by
  obtain ⟨i0, hi, hz0, hz1, hz2⟩ := info_parts info_en
  exact ⟨Tryz.underlying71, i0, _, hi, hz0, hz1, hz2, rfl⟩
structure Pushed (wq wx : World) (b d : Nat) (N : Nat → Prop) (B g7 : Nat) (z7 : Array Value) (Ar : Option Addr) (mr cr : Nat) (recs : List Rc) (A8 : Option Addr) (c8 : Nat) (l' : Wl) : Prop where
  log : LIn wx b d A8 c8 none 0 (fun k => N k ∨ (Value.slice A8 l'.live.length c8).ownBlock = some k) l'
  z7 : Blk wx g7 108 z7
  recs : GRow eRc 70 wx B Ar mr cr recs
  only : ∀ w1, w1.heap.size ≤ B → Only b w1 wq → Only b w1 wx
  big : ∀ g, (Value.slice A8 l'.live.length c8).ownBlock = some g → B ≤ g
theorem used_push {wq w8 : World} {b d ca B g7 mr cr m8 c8 : Nat} {A Ar A8 : Option Addr} {N : Nat → Prop} {z7 : Array Value} {recs : List Rc} {at_ n size last : Nat} {live : List Sg} {r : Vr} {k : Nat} {o : Obj}
    (h : LIn wq b d A ca none 0 (fun k => N k ∨ (Value.slice A live.length ca).ownBlock = some k) (wlc at_ n size live last) ∧ B ≤ wq.heap.size ∧ b < B ∧ ∀ g, (Value.slice A live.length ca).ownBlock = some g → B ≤ g) (hz : Blk wq g7 108 z7) (hr : GRow eRc 70 wq B Ar mr cr recs)
    (hr8 : GRow eEn 73 w8 0 A8 m8 c8 (live.map (·.en) ++ [((r.i, r.base) : En)])) (hw : ((wq.drew).alloc o).grownBy w8 (Value.slice A live.length ca).ownBlock) (ho : (Value.slice A8 m8 c8).ownBlock = (Value.slice A live.length ca).ownBlock ∨ (Value.slice A8 m8 c8).ownBlock = some ((wq.drew).alloc o).heap.size)
    (hp : LPl (wlc at_ n size (live ++ [⟨r.i, r.base, k⟩]) last)) :
    Pushed wq (w8.setCell ⟨b, 4, none⟩ (.slice A8 m8 c8)) b d N B g7 z7 Ar mr cr recs A8 c8 (wlc at_ n size (live ++ [⟨r.i, r.base, k⟩]) last) := by
  obtain ⟨hl, hB, hbB, hbig⟩ := h
  have hm8 : m8 = (live ++ [(⟨r.i, r.base, k⟩ : Sg)]).length := by rw [hr8.1]; simp
  have hsz : wq.heap.size ≤ w8.heap.size := Nat.le_trans (by simp) hw.size
  have hst : ∀ q, q < wq.heap.size → q ≠ b → some q ≠ (Value.slice A live.length ca).ownBlock → (w8.setCell ⟨b, 4, none⟩ (.slice A8 m8 c8)).heap[q]? = wq.heap[q]? := fun q hq hne hno =>
    ((Below.heap_setCell _ _ _ _ hne).trans (hw.block q (Nat.lt_of_lt_of_le hq (by simp)) hno)).trans (Below.heap_alloc _ _ _ hq)
  have hbk : Blk w8 b 76 _ := (hl.blk.drew.alloc o).grown hw (fun e => by
    have := own_off hl.used.2 hl.blk (by decide)
    exact this e.symm)
  have hset : (w8.setCell ⟨b, 4, none⟩ (.slice A8 m8 c8)).heap.size = w8.heap.size := by simp
  have hown : ∀ g, (Value.slice A8 m8 c8).ownBlock = some g → (Value.slice A live.length ca).ownBlock = some g ∨ wq.heap.size ≤ g := fun g hg => by
    rcases ho with ho | ho
    · exact .inl (ho ▸ hg)
    · rw [ho] at hg
      injection hg with hg
      exact .inr (by rw [← hg]; simp)
  have hNb : ∀ g, N g → g < wq.heap.size := fun g hg => hl.lt g (.inl hg)
  subst hm8
  have hlt8 : ∀ g, (Value.slice A8 (live ++ [(⟨r.i, r.base, k⟩ : Sg)]).length c8).ownBlock = some g → g < w8.heap.size := fun g hg => (hr8.2.lt g hg).2
  refine ⟨⟨?_, ?_, ⟨rfl, World.ownsRow_nil _ _ _ _⟩, ⟨fun _ => rfl, fun _ => rfl⟩, .inl (hl.mb.elim id (fun e => absurd e (own_off hl.used.2 hl.blk (by decide)))), fun g hg => .inr hg, (fun g hg => by cases hg), fun q hq => ?_, hp⟩, ?_, ?_, ?_, ?_⟩
  · have := hbk.set 4 (.slice A8 (live ++ [(⟨r.i, r.base, k⟩ : Sg)]).length c8)
    simpa [wlc, curE] using this
  · have : GRow eEn 73 (w8.setCell ⟨b, 4, none⟩ (.slice A8 (live ++ [(⟨r.i, r.base, k⟩ : Sg)]).length c8)) 0 A8 _ c8 _ := ⟨hr8.1, ownsRow_setCell_other (a := ⟨b, 4, none⟩) hr8.2 (own_off (e := 73) hr8.2 hbk (by decide)) (.slice A8 (live ++ [(⟨r.i, r.base, k⟩ : Sg)]).length c8)⟩
    simpa [wlc, Sg.en] using this
  · rw [hset]
    rcases hq with hq | hq
    · exact Nat.lt_of_lt_of_le (hNb q hq) hsz
    · exact hlt8 q hq
  · exact (hst g7 hz.lt (fun e => by subst e; exact absurd (hz.ne hl.blk (by decide)) (by simp)) (fun e => own_off hl.used.2 hz (by decide) e.symm)).trans hz
  · refine grow_of (N := fun q => (Value.slice Ar mr cr).ownBlock = some q) hr (fun g hg => hg) (fun q hq => hst q (hr.2.lt q hq).2 (fun e => ?_) (fun e => ?_))
    · subst e; exact own_off hr.2 hl.blk (by decide) hq
    · rcases own_apart hr.2 hl.used.2 (by decide) with h0 | h0
      · rw [h0] at hq; cases hq
      · exact h0 (hq.trans e)
  · intro w1 h1 ho1
    refine ⟨by rw [← ho1.os]; exact hw.os, by rw [← ho1.tape]; exact hw.tape, by rw [← ho1.output]; exact hw.output, by rw [hset]; exact Nat.le_trans ho1.size hsz, fun q hq hne => ?_⟩
    refine (hst q (Nat.lt_of_lt_of_le hq ho1.size) (fun e => hne (by rw [e])) (fun e => ?_)).trans (ho1.block q hq hne)
    have := hbig q e.symm
    omega
  · intro g hg
    rcases hown g hg with h0 | h0
    · exact hbig g h0
    · omega

structure Ga (w1 wr : World) (b d : Nat) (N : Nat → Prop) (at_ n size fr : Nat) (m : Secs) (c : Ch) (o : Option Vr) (rows : List Vr) (A : Option Addr) (ca : Nat) (Ar : Option Addr) (mr cr : Nat) (recs : List Rc) : Prop where
  ok : c.Ok n
  found : (wl0 at_ n size fr).found m fr = (wl0 at_ n size fr).chain m fr (n + 1 - c.live.length) c
  known : Known (wl0 at_ n size fr) m c.live
  out : recs.filter (fun r => decide (fr < r.1)) = c.out
  next : c.next = (encO (o.map er)).1
  mem : ∀ r, o = some r → r ∈ rows
  few : recs.length ≤ 500 * c.live.length
  log : LIn wr b d A ca none 0 (fun k => N k ∨ (Value.slice A c.live.length ca).ownBlock = some k) (wlc at_ n size c.live c.last)
  recs : GRow eRc 70 wr w1.heap.size Ar mr cr recs
  only : Only b w1 wr
  big : ∀ g, (Value.slice A c.live.length ca).ownBlock = some g → w1.heap.size ≤ g
theorem Ga.step {w1 wr w' : World} {b d : Nat} {N : Nat → Prop} {at_ n size fr : Nat} {m : Secs} {c : Ch} {o : Option Vr} {rows : List Vr} {A : Option Addr} {ca : Nat} {Ar : Option Addr} {mr cr : Nat} {recs : List Rc} (h : Ga w1 wr b d N at_ n size fr m c o rows A ca Ar mr cr recs) (hb : Below wr.heap.size wr w') : Ga w1 w' b d N at_ n size fr m c o rows A ca Ar mr cr recs :=
  ⟨h.ok, h.found, h.known, h.out, h.next, h.mem, h.few, h.log.below hb, h.recs.below hb, h.only.more hb, h.big⟩
theorem vrC_lit (o : Option Vr) : ∃ (i q : Int) (A : Option Addr) (m c : Nat), vrC o = #[.int .i64 i, .int .u64 q, .slice A m c] := by
  cases o with
  | none => exact ⟨_, _, _, _, _, rfl⟩
  | some x => exact ⟨_, _, _, _, _, rfl⟩

theorem last_push {wq wx w1 : World} {b d : Nat} {N : Nat → Prop} {B g7 : Nat} {z7 : Array Value} {Ar : Option Addr} {mr cr : Nat} {recs : List Rc} {A8 : Option Addr} {c8 L : Nat} {l l' : Wl} (h : Pushed wq wx b d N B g7 z7 Ar mr cr recs A8 c8 l) (ho : Only b w1 wx) (hp : LPl l') (e : l' = { l with last := L }) :
    Pushed w1 (wx.setCell ⟨b, 5, none⟩ (.int .u64 (L : Int))) b d N B g7 z7 Ar mr cr recs A8 c8 l' ∧ Only b w1 (wx.setCell ⟨b, 5, none⟩ (.int .u64 (L : Int))) := by
  subst e
  have hl := h.log
  have ho1 : Only b wx (wx.setCell ⟨b, 5, none⟩ (.int .u64 (L : Int))) := (Only.refl _ _).set _
  have ho2 := ho.set (i := 5) (.int .u64 (L : Int))
  refine ⟨⟨⟨?_, hl.used.kept ho1 (.inr (own_off hl.used.2 hl.blk (by decide))), ⟨hl.bytes.1, hl.bytes.2.kept ho1 (.inr (own_off hl.bytes.2 hl.blk (by decide)))⟩, hl.nil, hl.mb, hl.mu, hl.mc, fun k hk => Nat.lt_of_lt_of_le (hl.lt k hk) ho1.size, hp⟩,
    h.z7.grown ho1 (fun e => by injection e with e; exact h.z7.ne hl.blk (by decide) e), h.recs.kept ho1 (.inr (own_off h.recs.2 hl.blk (by decide))), fun w2 h2 h3 => ?_, h.big⟩, ho2⟩
  · have := hl.blk.set 5 (.int .u64 (L : Int))
    rw [show curE { l with last := L } = curE l from rfl]
    simpa using this
  · exact h3.trans ho2
theorem recs_push {w1 w9 w10 : World} {b d : Nat} {N : Nat → Prop} {g7 : Nat} {z7 : Array Value} {Ar A10 : Option Addr} {mr cr m10 c10 : Nat} {recs recs' : List Rc} {A8 : Option Addr} {c8 : Nat} {l : Wl} {w : World} (h : Pushed w1 w9 b d N w1.heap.size g7 z7 Ar mr cr recs A8 c8 l) (ho : Only b w1 w9)
    (hr : GRow eRc 70 w10 w1.heap.size A10 m10 c10 recs') (hw : w9.grownBy w10 (Value.slice Ar mr cr).ownBlock) (hB1 : Below w.heap.size w w1) (hN : ∀ k, N k → k < w.heap.size) :
    Pushed w1 w10 b d N w1.heap.size g7 z7 A10 m10 c10 recs' A8 c8 l ∧ Only b w1 w10 := by
  have hne : ∀ q, q < w1.heap.size → some q ≠ (Value.slice Ar mr cr).ownBlock := fun q hq e => by have := (h.recs.2.lt q e.symm).1; omega
  have hl := h.log
  have ho2 : Only b w1 w10 := ⟨hw.os.trans ho.os, hw.tape.trans ho.tape, hw.output.trans ho.output, Nat.le_trans ho.size hw.size, fun q hq hn => (hw.block q (Nat.lt_of_lt_of_le hq ho.size) (hne q hq)).trans (ho.block q hq hn)⟩
  refine ⟨⟨hl.keep hw.size (fun k hk => hw.block k (hl.lt k hk) ?_), h.z7.grown hw (fun e => own_off h.recs.2 h.z7 (by decide) e.symm), hr, fun w2 h2 h3 => h3.trans ho2, h.big⟩, ho2⟩
  rcases hk with hk | hk
  · exact hne k (Nat.lt_of_lt_of_le (hN k hk) hB1.size)
  · intro e
    rcases own_apart h.recs.2 hl.used.2 (by decide) with h0 | h0
    · rw [h0] at e; cases e
    · exact h0 (e.symm.trans hk.symm)
theorem ga_next {w1 wz w10 : World} {b d : Nat} {N : Nat → Prop} {at_ n size fr : Nat} {m : Secs} {c c' : Ch} {o o2 : Option Vr} {rows : List Vr} {A A8 Ar A10 : Option Addr} {ca c8 mr cr m10 c10 g7 : Nat} {z7 : Array Value} {recs rs : List Rc} {live' : List Sg} {L : Nat} {nx : Int} (h : Ga w1 wz b d N at_ n size fr m c o rows A ca Ar mr cr recs)
    (hp : Pushed w1 w10 b d N w1.heap.size g7 z7 A10 m10 c10 (recs ++ rs) A8 c8 (wlc at_ n size live' L)) (ho : Only b w1 w10) (hok : c'.Ok n) (hf : (wl0 at_ n size fr).found m fr = (wl0 at_ n size fr).chain m fr (n + 1 - c'.live.length) c')
    (he : c' = ⟨live', L, c.out ++ rs.filter (fun r => decide (fr < r.1)), nx⟩) (hk : Known (wl0 at_ n size fr) m live') (hn : (encO (o2.map er)).1 = c'.next) (hm : ∀ r, o2 = some r → r ∈ rows) (hrs : rs.length ≤ 500) (hll : live'.length = c.live.length + 1) :
    Ga w1 w10 b d N at_ n size fr m c' o2 rows A8 c8 A10 m10 c10 (recs ++ rs) := by
  subst he
  refine ⟨hok, hf, hk, ?_, hn.symm, hm, ?_, hp.log, hp.recs, ho, hp.big⟩
  · rw [List.filter_append, h.out]
  · rw [List.length_append]
    have := h.few
    dsimp only
    omega
def liveLenB (w : World) (b : Nat) : Nat := match w.cell? ⟨b, 4, none⟩ with | some (.slice _ m _) => m | _ => 0
theorem liveLenB_is {w : World} {b m c : Nat} {A : Option Addr} (h : w.cell? ⟨b, 4, none⟩ = some (.slice A m c)) : liveLenB w b = m := by unfold liveLenB; rw [h]
set_option maxHeartbeats 16000000 in
set_option maxRecDepth 100000 in
theorem gather_is {w : World} {b d : Nat} {N M R : Nat → Prop} {s : Dk} {at_ n size fr : Nat} (h : WA w b d N M R s (wl0 at_ n size fr)) (hl : LIn w b d none 0 none 0 N (wl0 at_ n size fr)) (hsm : ∀ i, i < n → (segB s.view size ((wl0 at_ n size fr).place i)).length ≤ 5000) :
    Calls Tryz.prog 25 #[.pointer (some ⟨b, 0, none⟩)] w fun e w' => ∃ Ar mr cr recs N' A c, e = .returned (.slice Ar mr cr) ∧
      recs.filter (fun r => decide (fr < r.1)) = ((wl0 at_ n size fr).found s.view fr).out ∧ RcRow w' (w.heap.size + 1) Ar mr cr recs ∧ recs.length ≤ 40000 ∧ ((wl0 at_ n size fr).found s.view fr).Ok n ∧
      LIn w' b d A c none 0 N' (wlc at_ n size ((wl0 at_ n size fr).found s.view fr).live ((wl0 at_ n size fr).found s.view fr).last) ∧ Only b w w' ∧ (∀ k, N' k → N k ∨ w.heap.size ≤ k) ∧ (∀ g, (Value.slice Ar mr cr).ownBlock = some g → ¬ N' g) := by
  have HFR := hid (show fr < 18446744073709551616 from hl.pl.last)
  have HPL := hid hl.pl
  have hn64 : n ≤ 64 := hl.pl.n
  have HSM := hid hsm
  have HB0 := hid (show Below w.heap.size w (w.alloc (.cells #[.pointer (some ⟨b, 0, none⟩)] 37)) from (Below.refl _ _).alloc (Nat.le_refl _) _)
  have HA0 := hid (h.step HB0.out)
  have HL0 := hid (hl.below HB0.out)
  have hy := Blk.new w 37 #[.pointer (some ⟨b, 0, none⟩)]
  obtain ⟨gb, hgb⟩ : ∃ g, g = w.heap.size := ⟨_, rfl⟩
  rw [← hgb] at hy
  have HBW := hid (show b < w.heap.size from hl.blk.lt)
  have HGB := hid hgb
  have HS0 := hid (show (w.alloc (.cells #[.pointer (some ⟨b, 0, none⟩)] 37)).heap.size = w.heap.size + 1 by simp)
  have HN0 := hid (fun k hk => hl.lt k hk)
  clear h hl hsm
  go_enter Tryz.func25, Tryz.ntmps25
  go_upto_region 1 with fail
  rw [← hgb]
  generalize w.alloc (.cells #[.pointer (some ⟨b, 0, none⟩)] 37) = w0 at *
  have HY0 := hid hy
  have y0 := hy.cell 0
  have HVL := hid (valid_is HA0.out HSM.out)
  clear hgb hy
  go_wp2_with fail
  go_fit HVL.out
  rintro e w1 ⟨A3, m3, c3, rfl, hv3, hb3⟩
  obtain ⟨rows, hg3, hi3⟩ := hv3
  have HG3 := hid hg3
  have HI3 := hid hi3
  have HL1 := hid (HL0.out.below hb3)
  have HB1 := hid (HB0.out.trans (hb3.mono HB0.out.size))
  have HY1 := hid (HY0.out.below hb3 HY0.out.lt)
  have HSZ1 := hid (show w.heap.size + 1 ≤ w1.heap.size by rw [← HS0.out]; exact hb3.size)
  have HRL := hid (show rows.length ≤ 64 by rw [hi3.1]; exact Nat.le_trans (Wl.valid_len _ _ _) hn64)
  have HRM := hid (fun r (hr : r ∈ rows) => show r.m ≤ 500 ∧ r.base < 18446744073709551616 from by
    obtain ⟨rs, h1, h2, h3⟩ := hi3.get hr
    have h4 := lookB_len h2
    have h5 := HSM.out r.i h1
    have h6 : (segB s.view (wl0 at_ n size fr).size ((wl0 at_ n size fr).place r.i)).length ≤ 5000 := h5
    refine ⟨by rw [h3.1]; omega, lookB_lt h2⟩)
  have HGR := hid (grt1_is (gb := gb) (c := c3) (p := firstP fr) HG3.out.at_ HG3.out.1 (Nat.le_refl _) (by have := HRL.out; omega) (fun W hW x hx => first_is (HL1.out.below hW) (HY1.out.below hW HY1.out.lt) x (by have := (HRM.out x hx).1; omega)))
  clear hg3 hi3 hb3 y0 HVL HA0 HL0 HY0
  have HOE := hid (show (encO ((grt (firstP fr) rows).map er)).1 = ((wl0 at_ n size fr).pick s.view fr n).1 by rw [pick_is, grt_er (p := firstP fr) (pe := firstE fr) (fun _ => rfl), HI3.out.er]; rfl)
  have HOM := hid (fun r (hr : grt (firstP fr) rows = some r) => grt_mem hr)
  generalize grt (firstP fr) rows = o at *
  obtain ⟨vi, vq, vA, vm, vc, hvl⟩ := vrC_lit o
  have HV1 := hid hvl
  rw [show vrV o = .agg #[.int .i64 vi, .int .u64 vq, .slice vA vm vc] by rw [← hvl]; rfl] at HGR
  clear hvl
  go_wp2_with fail
  go_fit HGR.out
  rintro e w2 ⟨rfl, hb2⟩
  have HB2 := hid hb2
  clear hb2 HGR
  have HZ0 := hid (show Blk (w2.alloc (.cells #[.int .i64 vi, .int .u64 vq, .slice vA vm vc] 108)) w2.heap.size 108 (vrC o) from by rw [HV1.out]; exact Blk.new w2 108 #[.int .i64 vi, .int .u64 vq, .slice vA vm vc])
  have HG0 := hid (show Ga w1 (w2.alloc (.cells #[.int .i64 vi, .int .u64 vq, .slice vA vm vc] 108)) b d N at_ n size fr s.view ((wl0 at_ n size fr).begin s.view fr) o rows none 0 none 0 0 [] from
    Ga.step (w' := w2.alloc (.cells #[.int .i64 vi, .int .u64 vq, .slice vA vm vc] 108)) (wr := w2) ⟨Wl.begin_ok _ _ HFR.out, rfl, (fun _ h => by cases h), rfl, HOE.out.symm, HOM.out, Nat.zero_le _, (HL1.out.below HB2.out).more (fun _ x => .inl x) (fun k x => x.elim ((HL1.out.below HB2.out).lt k) (fun x => by cases x)), GRow.nil, Only.of_below HB2.out, (fun _ x => by cases x)⟩ ((Below.refl _ _).alloc (Nat.le_refl _) _))
  clear HOE HOM
  go_wp2_with fail
  go_loopw [4, 7, 8] (fun x4 x7 x8 wr => ∃ (c : Ch) (o : Option Vr) (A : Option Addr) (ca : Nat) (Ar : Option Addr) (mr cr g7 : Nat) (recs : List Rc), x4 = .slice Ar mr cr ∧ x7 = .pointer (some ⟨g7, 0, none⟩) ∧ x8 = .bool o.isSome ∧ Kept (Ga w1 wr b d N at_ n size fr s.view c o rows A ca Ar mr cr recs) ∧ Kept (Blk wr g7 108 (vrC o)) ∧ Kept (w1.heap.size ≤ g7)) (fun _ _ _ wr => n - liveLenB wr b)
  case atStart => exact ⟨_, o, none, 0, none, 0, 0, _, [], rfl, rfl, rfl, HG0, HZ0, hid HB2.out.size⟩
  case round =>
    clear HG0 HZ0 HV1 HB2
    obtain ⟨c, o, A, ca, Ar, mr, cr, g7, recs, rfl, rfl, rfl, HG, HZ, HG7⟩ := hrel
    obtain ⟨wz, rfl⟩ : ∃ wz, wz = wr := ⟨_, rfl⟩
    cases o with
    | none =>
      have hnx : c.next < 0 := by rw [HG.out.next]; show (-1 : Int) < 0; omega
      have HFD := hid (show (wl0 at_ n size fr).found s.view fr = c from HG.out.found.trans (Wl.chain_stop _ _ _ hnx _))
      clear hnx
      go_wp2_with fail
      go_ret
      rw [HFD.out]
      have h := HG.out
      refine ⟨Ar, mr, cr, recs, _, A, ca, rfl, h.out, ⟨h.recs.1, Joins.ownsRow_le h.recs.2 HSZ1.out⟩, by have := h.few; have := h.ok.len; omega, h.ok, h.log, (Only.of_below HB1.out).trans h.only, fun k hk => ?_, fun g hg => ?_⟩
      · exact hk.elim .inl (fun x => .inr (by have := h.big k x; have := HSZ1.out; omega))
      · rintro (x | x)
        · have := HN0.out g x
          have := (h.recs.2.lt g hg).1
          have := HSZ1.out
          omega
        · rcases own_apart h.recs.2 h.log.used.2 (by decide) with h0 | h0
          · rw [h0] at hg; cases hg
          · exact h0 (hg.trans x.symm)
    | some r =>
      obtain ⟨rs, hri, hlk, hgr⟩ := HI3.out.get (HG.out.mem r rfl)
      have hnx : c.next = (r.i : Int) := HG.out.next
      have HCS := hid (chStep_eq (fr := fr) (c := c) hnx hlk)
      have HCK := hid (Wl.chStep_ok (from_ := fr) HG.out.ok (by rw [hnx]; omega) : ((wl0 at_ n size fr).chStep s.view fr c).Ok n)
      have HFN := hid (show (wl0 at_ n size fr).found s.view fr = (wl0 at_ n size fr).chain s.view fr (n + 1 - ((wl0 at_ n size fr).chStep s.view fr c).live.length) ((wl0 at_ n size fr).chStep s.view fr c) from by
        rw [HG.out.found, HCS.out]
        have := HG.out.ok.len
        rw [show n + 1 - c.live.length = (n - c.live.length) + 1 by omega, Wl.chain_go _ _ _ _ (by rw [hnx]; omega), HCS.out]
        dsimp only
        rw [List.length_append]
        congr 1
        simp)
      have hrm := (HRM.out r (HG.out.mem r rfl))
      have HRQ := hid (show r.m = rs.length from hgr.1)
      have HRS := hid (show rs.length ≤ 500 by rw [← hgr.1]; exact hrm.1)
      have HGR1 := hid hgr
      have HLK := hid hlk
      have HKN := hid (show Known (wl0 at_ n size fr) s.view (c.live ++ [⟨r.i, r.base, rs.length⟩]) from fun x hx => by
        rw [List.mem_append] at hx
        rcases hx with hx | hx
        · exact HG.out.known x hx
        · simp at hx
          subst hx
          exact ⟨rs, hlk⟩)
      have HPL1 := hid (show ∀ last, last < 18446744073709551616 → LPl (wlc at_ n size (c.live ++ [⟨r.i, r.base, rs.length⟩]) last) from fun last hla => by
        have hp := HPL.out
        have hk := HCK.out
        rw [HCS.out] at hk
        exact ⟨hp.n2, hp.n, hp.s1, hp.size, hp.place, hk.nodup, fun x hx => ⟨hk.lt x hx, by obtain ⟨rs', h'⟩ := HKN.out x hx; exact lookB_lt h'⟩, hla, (show 0 < 18446744073709551616 by decide), Nat.zero_le _, fun x => absurd rfl x⟩)
      have HLZ := hid (liveLenB_is (HG.out.log.blk.cell 4))
      have hbb : b < w1.heap.size := by have := HBW.out; have := HSZ1.out; omega
      have HL := hid (And.intro HG.out.log (And.intro HG.out.only.size (And.intro hbb HG.out.big)))
      have HRE := hid HG.out.recs
      have HPL2 := hid (HPL1.out c.last HG.out.ok.last)
      have HZ7 := hid (show Blk wz g7 108 #[.int .i64 (r.i : Int), .int .u64 (r.base : Int), .slice r.A r.m r.c] from HZ.out)
      have HNG := hid (show some gb ≠ (Value.slice A c.live.length ca).ownBlock from fun e => by have := HG.out.big gb e.symm; have := HY1.out.lt; omega)
      have HNB := hid (show some b ≠ (Value.slice A c.live.length ca).ownBlock from fun e => by have := HG.out.big b e.symm; omega)
      have HNE := hid (show gb ≠ b by rw [HGB.out]; have := HBW.out; omega)
      have HYZ := hid (HY1.out.grown HG.out.only (fun e => HNE.out (by injection e)))
      have z0 := HZ7.out.cell 0
      have z1 := HZ7.out.cell 1
      have y0 := HYZ.out.cell 0
      have x4 : wz.cell? ⟨b, 4, none⟩ = some (.slice A c.live.length ca) := HG.out.log.blk.cell 4
      have f4 := HG.out.log.blk.free 4
      have HCN := hid (show (c.live.map (·.en)).length + 1 ≤ 1099511627776 by rw [List.length_map]; have := HG.out.ok.len; omega)
      have HOL := hid HG.out.ok.len
      clear hnx hlk hgr hrm hbb
      go_upto_region 8 with fail
      go_cut [] from 26 to 36 (fun wx => ∃ A8 c8, Kept (Pushed wz wx b d N w1.heap.size g7 #[.int .i64 (r.i : Int), .int .u64 (r.base : Int), .slice r.A r.m r.c] Ar mr cr recs A8 c8 (wlc at_ n size (c.live ++ [⟨r.i, r.base, rs.length⟩]) c.last)))
      case first =>
        have y0d : wz.drew.cell? ⟨gb, 0, none⟩ = some (.pointer (some ⟨b, 0, none⟩)) := y0
        have z0d : wz.drew.cell? ⟨g7, 0, none⟩ = some (.int .i64 (r.i : Int)) := z0
        have z1d : wz.drew.cell? ⟨g7, 1, none⟩ = some (.int .u64 (r.base : Int)) := z1
        have x4d : wz.drew.cell? ⟨b, 4, none⟩ = some (.slice A c.live.length ca) := x4
        have hgl := HYZ.out.lt
        have hbl := HG.out.log.blk.lt
        have hzl := HZ7.out.lt
        have HU := hid (show GRow eEn 73 ((wz.drew).alloc (.cells #[.int .i64 (r.i : Int), .int .u64 (r.base : Int)] 73)) 0 A c.live.length ca (c.live.map (·.en)) from GRow.alloc (w := wz.drew) HG.out.log.used _)
        have HX := hid (show GAt eEn ((wz.drew).alloc (.cells #[.int .i64 (r.i : Int), .int .u64 (r.base : Int)] 73)) (wz.drew.heap.size + 1) (some ⟨wz.heap.size, 0, none⟩) [((r.i, r.base) : En)] from GAt.one_at rfl rfl)
        have HY := hid (show Blk ((wz.drew).alloc (.cells #[.int .i64 (r.i : Int), .int .u64 (r.base : Int)] 73)) gb 37 #[.pointer (some ⟨b, 0, none⟩)] from Blk.alloc (w := wz.drew) HYZ.out _)
        have HBK := hid (Blk.alloc (w := wz.drew) HG.out.log.blk (.cells #[.int .i64 (r.i : Int), .int .u64 (r.base : Int)] 73))
        refine wp_region_any (by kernel_rfl) ?_
        try (change wpAny _ _ _ _ _ _ _ (World.drew _))
        refine stA 5 ?_; (try simp only [putr]); refine rdA [0, 1, 6] ?_; refine rcA (fun KK hKK => ?_) ?_
        · go_simp; refine hKK _ _ ?_; clear hKK KK; (try simp only [putr]); refine rdA [1, 6] ?_; refine rcA (fun KK hKK => ?_) ?_
          · go_simp; refine hKK _ _ ?_; clear hKK KK; (try simp only [putr]); refine stA 2 ?_; (try simp only [putr]); refine stA 3 ?_; (try simp only [putr]); refine rdA [4, 6] ?_; refine rcA (fun KK hKK => ?_) ?_
            · go_simp; refine hKK _ _ ?_; clear hKK KK; (try simp only [putr]); refine rdA [6] ?_; refine rcA (fun KK hKK => ?_) AllReady.nil; go_simp; refine hKK _ _ ?_; clear hKK KK; (try simp only [putr]); refine rdA [7] ?_; refine rcA (fun KK hKK => ?_) AllReady.nil; go_simp; refine hKK _ _ ?_; clear hKK KK; (try simp only [putr]); refine rdA [8] ?_; refine rcA (fun KK hKK => ?_) AllReady.nil
              refine wp_append_own _ (.tmp 30) (.tmp 33) eEn gi_en (by decide) rfl 0 rfl HU.out rfl rfl (ns := [((r.i, r.base) : En)]) HX.out HCN.out (Nat.zero_le _) ?_
              intro A8 m8 c8 w8 hr8 hc8 hb8 hw8 ho8
              refine hKK _ _ ?_; clear hKK KK
              have y0 := (HY.out.grown hw8 HNG.out).cell 0
              have q4 := (HBK.out.grown hw8 HNB.out).cell 4
              have f4 := (HBK.out.grown hw8 HNB.out).free 4
              (try simp only [putr]); refine stA 9 ?_; (try simp only [putr]); refine stA 10 ?_; (try simp only [putr]); refine rdA [11] ?_; refine rcA (fun KK hKK => ?_) AllReady.nil; go_simp; refine hKK _ _ ?_; clear hKK KK; (try simp only [Act.put]); refine wpAny_done (by kernel_rfl) ?_ _
              have HE := hid (used_push (w8 := w8) HL.out HZ7.out HRE.out hr8 hw8 ho8 HPL2.out)
              clear hr8 hw8 ho8 hc8 hb8 y0 q4 f4
              go_wp2_with fail
              go_meet
              case rel => exact ⟨A8, c8, HE⟩
            refine rcA (fun KK hKK => ?_) AllReady.nil
            · go_simp; refine hKK _ _ ?_; clear hKK KK; (try simp only [putr]); refine rdA [4, 7] ?_; refine rcA (fun KK hKK => ?_) ?_
              · go_simp; refine hKK _ _ ?_; clear hKK KK; (try simp only [putr]); refine rdA [7] ?_; refine rcA (fun KK hKK => ?_) AllReady.nil; go_simp; refine hKK _ _ ?_; clear hKK KK; (try simp only [putr]); refine rdA [8] ?_; refine rcA (fun KK hKK => ?_) AllReady.nil
                refine wp_append_own _ (.tmp 30) (.tmp 33) eEn gi_en (by decide) rfl 0 rfl HU.out rfl rfl (ns := [((r.i, r.base) : En)]) HX.out HCN.out (Nat.zero_le _) ?_
                intro A8 m8 c8 w8 hr8 hc8 hb8 hw8 ho8
                refine hKK _ _ ?_; clear hKK KK
                have y0 := (HY.out.grown hw8 HNG.out).cell 0
                have q4 := (HBK.out.grown hw8 HNB.out).cell 4
                have f4 := (HBK.out.grown hw8 HNB.out).free 4
                (try simp only [putr]); refine stA 9 ?_; (try simp only [putr]); refine stA 10 ?_; (try simp only [putr]); refine rdA [11] ?_; refine rcA (fun KK hKK => ?_) AllReady.nil; go_simp; refine hKK _ _ ?_; clear hKK KK; (try simp only [Act.put]); refine wpAny_done (by kernel_rfl) ?_ _
                have HE := hid (used_push (w8 := w8) HL.out HZ7.out HRE.out hr8 hw8 ho8 HPL2.out)
                clear hr8 hw8 ho8 hc8 hb8 y0 q4 f4
                go_wp2_with fail
                go_meet
                case rel => exact ⟨A8, c8, HE⟩
              refine rcA (fun KK hKK => ?_) AllReady.nil
              · go_simp; refine hKK _ _ ?_; clear hKK KK; (try simp only [putr]); refine rdA [4] ?_; refine rcA (fun KK hKK => ?_) AllReady.nil; go_simp; refine hKK _ _ ?_; clear hKK KK; (try simp only [putr]); refine rdA [8] ?_; refine rcA (fun KK hKK => ?_) AllReady.nil
                refine wp_append_own _ (.tmp 30) (.tmp 33) eEn gi_en (by decide) rfl 0 rfl HU.out rfl rfl (ns := [((r.i, r.base) : En)]) HX.out HCN.out (Nat.zero_le _) ?_
                intro A8 m8 c8 w8 hr8 hc8 hb8 hw8 ho8
                refine hKK _ _ ?_; clear hKK KK
                have y0 := (HY.out.grown hw8 HNG.out).cell 0
                have q4 := (HBK.out.grown hw8 HNB.out).cell 4
                have f4 := (HBK.out.grown hw8 HNB.out).free 4
                (try simp only [putr]); refine stA 9 ?_; (try simp only [putr]); refine stA 10 ?_; (try simp only [putr]); refine rdA [11] ?_; refine rcA (fun KK hKK => ?_) AllReady.nil; go_simp; refine hKK _ _ ?_; clear hKK KK; (try simp only [Act.put]); refine wpAny_done (by kernel_rfl) ?_ _
                have HE := hid (used_push (w8 := w8) HL.out HZ7.out HRE.out hr8 hw8 ho8 HPL2.out)
                clear hr8 hw8 ho8 hc8 hb8 y0 q4 f4
                go_wp2_with fail
                go_meet
                case rel => exact ⟨A8, c8, HE⟩
          refine rcA (fun KK hKK => ?_) AllReady.nil
          · go_simp; refine hKK _ _ ?_; clear hKK KK; (try simp only [putr]); refine rdA [1, 7] ?_; refine rcA (fun KK hKK => ?_) ?_
            · go_simp; refine hKK _ _ ?_; clear hKK KK; (try simp only [putr]); refine stA 2 ?_; (try simp only [putr]); refine stA 3 ?_; (try simp only [putr]); refine rdA [4, 7] ?_; refine rcA (fun KK hKK => ?_) ?_
              · go_simp; refine hKK _ _ ?_; clear hKK KK; (try simp only [putr]); refine rdA [7] ?_; refine rcA (fun KK hKK => ?_) AllReady.nil; go_simp; refine hKK _ _ ?_; clear hKK KK; (try simp only [putr]); refine rdA [8] ?_; refine rcA (fun KK hKK => ?_) AllReady.nil
                refine wp_append_own _ (.tmp 30) (.tmp 33) eEn gi_en (by decide) rfl 0 rfl HU.out rfl rfl (ns := [((r.i, r.base) : En)]) HX.out HCN.out (Nat.zero_le _) ?_
                intro A8 m8 c8 w8 hr8 hc8 hb8 hw8 ho8
                refine hKK _ _ ?_; clear hKK KK
                have y0 := (HY.out.grown hw8 HNG.out).cell 0
                have q4 := (HBK.out.grown hw8 HNB.out).cell 4
                have f4 := (HBK.out.grown hw8 HNB.out).free 4
                (try simp only [putr]); refine stA 9 ?_; (try simp only [putr]); refine stA 10 ?_; (try simp only [putr]); refine rdA [11] ?_; refine rcA (fun KK hKK => ?_) AllReady.nil; go_simp; refine hKK _ _ ?_; clear hKK KK; (try simp only [Act.put]); refine wpAny_done (by kernel_rfl) ?_ _
                have HE := hid (used_push (w8 := w8) HL.out HZ7.out HRE.out hr8 hw8 ho8 HPL2.out)
                clear hr8 hw8 ho8 hc8 hb8 y0 q4 f4
                go_wp2_with fail
                go_meet
                case rel => exact ⟨A8, c8, HE⟩
              refine rcA (fun KK hKK => ?_) AllReady.nil
              · go_simp; refine hKK _ _ ?_; clear hKK KK; (try simp only [putr]); refine rdA [4] ?_; refine rcA (fun KK hKK => ?_) AllReady.nil; go_simp; refine hKK _ _ ?_; clear hKK KK; (try simp only [putr]); refine rdA [8] ?_; refine rcA (fun KK hKK => ?_) AllReady.nil
                refine wp_append_own _ (.tmp 30) (.tmp 33) eEn gi_en (by decide) rfl 0 rfl HU.out rfl rfl (ns := [((r.i, r.base) : En)]) HX.out HCN.out (Nat.zero_le _) ?_
                intro A8 m8 c8 w8 hr8 hc8 hb8 hw8 ho8
                refine hKK _ _ ?_; clear hKK KK
                have y0 := (HY.out.grown hw8 HNG.out).cell 0
                have q4 := (HBK.out.grown hw8 HNB.out).cell 4
                have f4 := (HBK.out.grown hw8 HNB.out).free 4
                (try simp only [putr]); refine stA 9 ?_; (try simp only [putr]); refine stA 10 ?_; (try simp only [putr]); refine rdA [11] ?_; refine rcA (fun KK hKK => ?_) AllReady.nil; go_simp; refine hKK _ _ ?_; clear hKK KK; (try simp only [Act.put]); refine wpAny_done (by kernel_rfl) ?_ _
                have HE := hid (used_push (w8 := w8) HL.out HZ7.out HRE.out hr8 hw8 ho8 HPL2.out)
                clear hr8 hw8 ho8 hc8 hb8 y0 q4 f4
                go_wp2_with fail
                go_meet
                case rel => exact ⟨A8, c8, HE⟩
            refine rcA (fun KK hKK => ?_) AllReady.nil
            · go_simp; refine hKK _ _ ?_; clear hKK KK; (try simp only [putr]); refine rdA [1] ?_; refine rcA (fun KK hKK => ?_) AllReady.nil; go_simp; refine hKK _ _ ?_; clear hKK KK; (try simp only [putr]); refine stA 2 ?_; (try simp only [putr]); refine stA 3 ?_; (try simp only [putr]); refine rdA [4] ?_; refine rcA (fun KK hKK => ?_) AllReady.nil; go_simp; refine hKK _ _ ?_; clear hKK KK; (try simp only [putr]); refine rdA [8] ?_; refine rcA (fun KK hKK => ?_) AllReady.nil
              refine wp_append_own _ (.tmp 30) (.tmp 33) eEn gi_en (by decide) rfl 0 rfl HU.out rfl rfl (ns := [((r.i, r.base) : En)]) HX.out HCN.out (Nat.zero_le _) ?_
              intro A8 m8 c8 w8 hr8 hc8 hb8 hw8 ho8
              refine hKK _ _ ?_; clear hKK KK
              have y0 := (HY.out.grown hw8 HNG.out).cell 0
              have q4 := (HBK.out.grown hw8 HNB.out).cell 4
              have f4 := (HBK.out.grown hw8 HNB.out).free 4
              (try simp only [putr]); refine stA 9 ?_; (try simp only [putr]); refine stA 10 ?_; (try simp only [putr]); refine rdA [11] ?_; refine rcA (fun KK hKK => ?_) AllReady.nil; go_simp; refine hKK _ _ ?_; clear hKK KK; (try simp only [Act.put]); refine wpAny_done (by kernel_rfl) ?_ _
              have HE := hid (used_push (w8 := w8) HL.out HZ7.out HRE.out hr8 hw8 ho8 HPL2.out)
              clear hr8 hw8 ho8 hc8 hb8 y0 q4 f4
              go_wp2_with fail
              go_meet
              case rel => exact ⟨A8, c8, HE⟩
        refine rcA (fun KK hKK => ?_) ?_
        · go_simp; refine hKK _ _ ?_; clear hKK KK; (try simp only [putr]); refine stA 2 ?_; (try simp only [putr]); refine stA 3 ?_; (try simp only [putr]); refine rdA [0, 4, 6] ?_; refine rcA (fun KK hKK => ?_) ?_
          · go_simp; refine hKK _ _ ?_; clear hKK KK; (try simp only [putr]); refine rdA [4, 6] ?_; refine rcA (fun KK hKK => ?_) ?_
            · go_simp; refine hKK _ _ ?_; clear hKK KK; (try simp only [putr]); refine rdA [6] ?_; refine rcA (fun KK hKK => ?_) AllReady.nil; go_simp; refine hKK _ _ ?_; clear hKK KK; (try simp only [putr]); refine rdA [7] ?_; refine rcA (fun KK hKK => ?_) AllReady.nil; go_simp; refine hKK _ _ ?_; clear hKK KK; (try simp only [putr]); refine rdA [8] ?_; refine rcA (fun KK hKK => ?_) AllReady.nil
              refine wp_append_own _ (.tmp 30) (.tmp 33) eEn gi_en (by decide) rfl 0 rfl HU.out rfl rfl (ns := [((r.i, r.base) : En)]) HX.out HCN.out (Nat.zero_le _) ?_
              intro A8 m8 c8 w8 hr8 hc8 hb8 hw8 ho8
              refine hKK _ _ ?_; clear hKK KK
              have y0 := (HY.out.grown hw8 HNG.out).cell 0
              have q4 := (HBK.out.grown hw8 HNB.out).cell 4
              have f4 := (HBK.out.grown hw8 HNB.out).free 4
              (try simp only [putr]); refine stA 9 ?_; (try simp only [putr]); refine stA 10 ?_; (try simp only [putr]); refine rdA [11] ?_; refine rcA (fun KK hKK => ?_) AllReady.nil; go_simp; refine hKK _ _ ?_; clear hKK KK; (try simp only [Act.put]); refine wpAny_done (by kernel_rfl) ?_ _
              have HE := hid (used_push (w8 := w8) HL.out HZ7.out HRE.out hr8 hw8 ho8 HPL2.out)
              clear hr8 hw8 ho8 hc8 hb8 y0 q4 f4
              go_wp2_with fail
              go_meet
              case rel => exact ⟨A8, c8, HE⟩
            refine rcA (fun KK hKK => ?_) AllReady.nil
            · go_simp; refine hKK _ _ ?_; clear hKK KK; (try simp only [putr]); refine rdA [4, 7] ?_; refine rcA (fun KK hKK => ?_) ?_
              · go_simp; refine hKK _ _ ?_; clear hKK KK; (try simp only [putr]); refine rdA [7] ?_; refine rcA (fun KK hKK => ?_) AllReady.nil; go_simp; refine hKK _ _ ?_; clear hKK KK; (try simp only [putr]); refine rdA [8] ?_; refine rcA (fun KK hKK => ?_) AllReady.nil
                refine wp_append_own _ (.tmp 30) (.tmp 33) eEn gi_en (by decide) rfl 0 rfl HU.out rfl rfl (ns := [((r.i, r.base) : En)]) HX.out HCN.out (Nat.zero_le _) ?_
                intro A8 m8 c8 w8 hr8 hc8 hb8 hw8 ho8
                refine hKK _ _ ?_; clear hKK KK
                have y0 := (HY.out.grown hw8 HNG.out).cell 0
                have q4 := (HBK.out.grown hw8 HNB.out).cell 4
                have f4 := (HBK.out.grown hw8 HNB.out).free 4
                (try simp only [putr]); refine stA 9 ?_; (try simp only [putr]); refine stA 10 ?_; (try simp only [putr]); refine rdA [11] ?_; refine rcA (fun KK hKK => ?_) AllReady.nil; go_simp; refine hKK _ _ ?_; clear hKK KK; (try simp only [Act.put]); refine wpAny_done (by kernel_rfl) ?_ _
                have HE := hid (used_push (w8 := w8) HL.out HZ7.out HRE.out hr8 hw8 ho8 HPL2.out)
                clear hr8 hw8 ho8 hc8 hb8 y0 q4 f4
                go_wp2_with fail
                go_meet
                case rel => exact ⟨A8, c8, HE⟩
              refine rcA (fun KK hKK => ?_) AllReady.nil
              · go_simp; refine hKK _ _ ?_; clear hKK KK; (try simp only [putr]); refine rdA [4] ?_; refine rcA (fun KK hKK => ?_) AllReady.nil; go_simp; refine hKK _ _ ?_; clear hKK KK; (try simp only [putr]); refine rdA [8] ?_; refine rcA (fun KK hKK => ?_) AllReady.nil
                refine wp_append_own _ (.tmp 30) (.tmp 33) eEn gi_en (by decide) rfl 0 rfl HU.out rfl rfl (ns := [((r.i, r.base) : En)]) HX.out HCN.out (Nat.zero_le _) ?_
                intro A8 m8 c8 w8 hr8 hc8 hb8 hw8 ho8
                refine hKK _ _ ?_; clear hKK KK
                have y0 := (HY.out.grown hw8 HNG.out).cell 0
                have q4 := (HBK.out.grown hw8 HNB.out).cell 4
                have f4 := (HBK.out.grown hw8 HNB.out).free 4
                (try simp only [putr]); refine stA 9 ?_; (try simp only [putr]); refine stA 10 ?_; (try simp only [putr]); refine rdA [11] ?_; refine rcA (fun KK hKK => ?_) AllReady.nil; go_simp; refine hKK _ _ ?_; clear hKK KK; (try simp only [Act.put]); refine wpAny_done (by kernel_rfl) ?_ _
                have HE := hid (used_push (w8 := w8) HL.out HZ7.out HRE.out hr8 hw8 ho8 HPL2.out)
                clear hr8 hw8 ho8 hc8 hb8 y0 q4 f4
                go_wp2_with fail
                go_meet
                case rel => exact ⟨A8, c8, HE⟩
          refine rcA (fun KK hKK => ?_) ?_
          · go_simp; refine hKK _ _ ?_; clear hKK KK; (try simp only [putr]); refine rdA [0, 6] ?_; refine rcA (fun KK hKK => ?_) ?_
            · go_simp; refine hKK _ _ ?_; clear hKK KK; (try simp only [putr]); refine rdA [6] ?_; refine rcA (fun KK hKK => ?_) AllReady.nil; go_simp; refine hKK _ _ ?_; clear hKK KK; (try simp only [putr]); refine rdA [7] ?_; refine rcA (fun KK hKK => ?_) AllReady.nil; go_simp; refine hKK _ _ ?_; clear hKK KK; (try simp only [putr]); refine rdA [8] ?_; refine rcA (fun KK hKK => ?_) AllReady.nil
              refine wp_append_own _ (.tmp 30) (.tmp 33) eEn gi_en (by decide) rfl 0 rfl HU.out rfl rfl (ns := [((r.i, r.base) : En)]) HX.out HCN.out (Nat.zero_le _) ?_
              intro A8 m8 c8 w8 hr8 hc8 hb8 hw8 ho8
              refine hKK _ _ ?_; clear hKK KK
              have y0 := (HY.out.grown hw8 HNG.out).cell 0
              have q4 := (HBK.out.grown hw8 HNB.out).cell 4
              have f4 := (HBK.out.grown hw8 HNB.out).free 4
              (try simp only [putr]); refine stA 9 ?_; (try simp only [putr]); refine stA 10 ?_; (try simp only [putr]); refine rdA [11] ?_; refine rcA (fun KK hKK => ?_) AllReady.nil; go_simp; refine hKK _ _ ?_; clear hKK KK; (try simp only [Act.put]); refine wpAny_done (by kernel_rfl) ?_ _
              have HE := hid (used_push (w8 := w8) HL.out HZ7.out HRE.out hr8 hw8 ho8 HPL2.out)
              clear hr8 hw8 ho8 hc8 hb8 y0 q4 f4
              go_wp2_with fail
              go_meet
              case rel => exact ⟨A8, c8, HE⟩
            refine rcA (fun KK hKK => ?_) AllReady.nil
            · go_simp; refine hKK _ _ ?_; clear hKK KK; (try simp only [putr]); refine rdA [0, 7] ?_; refine rcA (fun KK hKK => ?_) ?_
              · go_simp; refine hKK _ _ ?_; clear hKK KK; (try simp only [putr]); refine rdA [7] ?_; refine rcA (fun KK hKK => ?_) AllReady.nil; go_simp; refine hKK _ _ ?_; clear hKK KK; (try simp only [putr]); refine rdA [8] ?_; refine rcA (fun KK hKK => ?_) AllReady.nil
                refine wp_append_own _ (.tmp 30) (.tmp 33) eEn gi_en (by decide) rfl 0 rfl HU.out rfl rfl (ns := [((r.i, r.base) : En)]) HX.out HCN.out (Nat.zero_le _) ?_
                intro A8 m8 c8 w8 hr8 hc8 hb8 hw8 ho8
                refine hKK _ _ ?_; clear hKK KK
                have y0 := (HY.out.grown hw8 HNG.out).cell 0
                have q4 := (HBK.out.grown hw8 HNB.out).cell 4
                have f4 := (HBK.out.grown hw8 HNB.out).free 4
                (try simp only [putr]); refine stA 9 ?_; (try simp only [putr]); refine stA 10 ?_; (try simp only [putr]); refine rdA [11] ?_; refine rcA (fun KK hKK => ?_) AllReady.nil; go_simp; refine hKK _ _ ?_; clear hKK KK; (try simp only [Act.put]); refine wpAny_done (by kernel_rfl) ?_ _
                have HE := hid (used_push (w8 := w8) HL.out HZ7.out HRE.out hr8 hw8 ho8 HPL2.out)
                clear hr8 hw8 ho8 hc8 hb8 y0 q4 f4
                go_wp2_with fail
                go_meet
                case rel => exact ⟨A8, c8, HE⟩
              refine rcA (fun KK hKK => ?_) AllReady.nil
              · go_simp; refine hKK _ _ ?_; clear hKK KK; (try simp only [putr]); refine rdA [0, 8] ?_; refine rcA (fun KK hKK => ?_) ?_
                · go_simp; refine hKK _ _ ?_; clear hKK KK; (try simp only [putr]); refine rdA [8] ?_; refine rcA (fun KK hKK => ?_) AllReady.nil
                  refine wp_append_own _ (.tmp 30) (.tmp 33) eEn gi_en (by decide) rfl 0 rfl HU.out rfl rfl (ns := [((r.i, r.base) : En)]) HX.out HCN.out (Nat.zero_le _) ?_
                  intro A8 m8 c8 w8 hr8 hc8 hb8 hw8 ho8
                  refine hKK _ _ ?_; clear hKK KK
                  have y0 := (HY.out.grown hw8 HNG.out).cell 0
                  have q4 := (HBK.out.grown hw8 HNB.out).cell 4
                  have f4 := (HBK.out.grown hw8 HNB.out).free 4
                  (try simp only [putr]); refine stA 9 ?_; (try simp only [putr]); refine stA 10 ?_; (try simp only [putr]); refine rdA [11] ?_; refine rcA (fun KK hKK => ?_) AllReady.nil; go_simp; refine hKK _ _ ?_; clear hKK KK; (try simp only [Act.put]); refine wpAny_done (by kernel_rfl) ?_ _
                  have HE := hid (used_push (w8 := w8) HL.out HZ7.out HRE.out hr8 hw8 ho8 HPL2.out)
                  clear hr8 hw8 ho8 hc8 hb8 y0 q4 f4
                  go_wp2_with fail
                  go_meet
                  case rel => exact ⟨A8, c8, HE⟩
                refine rcA (fun KK hKK => ?_) AllReady.nil
                · refine wp_append_own _ (.tmp 30) (.tmp 33) eEn gi_en (by decide) rfl 0 rfl HU.out rfl rfl (ns := [((r.i, r.base) : En)]) HX.out HCN.out (Nat.zero_le _) ?_
                  intro A8 m8 c8 w8 hr8 hc8 hb8 hw8 ho8
                  refine hKK _ _ ?_; clear hKK KK
                  have y0 := (HY.out.grown hw8 HNG.out).cell 0
                  have q4 := (HBK.out.grown hw8 HNB.out).cell 4
                  have f4 := (HBK.out.grown hw8 HNB.out).free 4
                  (try simp only [putr]); refine rdA [0] ?_; refine rcA (fun KK hKK => ?_) AllReady.nil; go_simp; refine hKK _ _ ?_; clear hKK KK; (try simp only [putr]); refine stA 9 ?_; (try simp only [putr]); refine stA 10 ?_; (try simp only [putr]); refine rdA [11] ?_; refine rcA (fun KK hKK => ?_) AllReady.nil; go_simp; refine hKK _ _ ?_; clear hKK KK; (try simp only [Act.put]); refine wpAny_done (by kernel_rfl) ?_ _
                  have HE := hid (used_push (w8 := w8) HL.out HZ7.out HRE.out hr8 hw8 ho8 HPL2.out)
                  clear hr8 hw8 ho8 hc8 hb8 y0 q4 f4
                  go_wp2_with fail
                  go_meet
                  case rel => exact ⟨A8, c8, HE⟩
          refine rcA (fun KK hKK => ?_) AllReady.nil
          · go_simp; refine hKK _ _ ?_; clear hKK KK; (try simp only [putr]); refine rdA [0, 4, 7] ?_; refine rcA (fun KK hKK => ?_) ?_
            · go_simp; refine hKK _ _ ?_; clear hKK KK; (try simp only [putr]); refine rdA [4, 7] ?_; refine rcA (fun KK hKK => ?_) ?_
              · go_simp; refine hKK _ _ ?_; clear hKK KK; (try simp only [putr]); refine rdA [7] ?_; refine rcA (fun KK hKK => ?_) AllReady.nil; go_simp; refine hKK _ _ ?_; clear hKK KK; (try simp only [putr]); refine rdA [8] ?_; refine rcA (fun KK hKK => ?_) AllReady.nil
                refine wp_append_own _ (.tmp 30) (.tmp 33) eEn gi_en (by decide) rfl 0 rfl HU.out rfl rfl (ns := [((r.i, r.base) : En)]) HX.out HCN.out (Nat.zero_le _) ?_
                intro A8 m8 c8 w8 hr8 hc8 hb8 hw8 ho8
                refine hKK _ _ ?_; clear hKK KK
                have y0 := (HY.out.grown hw8 HNG.out).cell 0
                have q4 := (HBK.out.grown hw8 HNB.out).cell 4
                have f4 := (HBK.out.grown hw8 HNB.out).free 4
                (try simp only [putr]); refine stA 9 ?_; (try simp only [putr]); refine stA 10 ?_; (try simp only [putr]); refine rdA [11] ?_; refine rcA (fun KK hKK => ?_) AllReady.nil; go_simp; refine hKK _ _ ?_; clear hKK KK; (try simp only [Act.put]); refine wpAny_done (by kernel_rfl) ?_ _
                have HE := hid (used_push (w8 := w8) HL.out HZ7.out HRE.out hr8 hw8 ho8 HPL2.out)
                clear hr8 hw8 ho8 hc8 hb8 y0 q4 f4
                go_wp2_with fail
                go_meet
                case rel => exact ⟨A8, c8, HE⟩
              refine rcA (fun KK hKK => ?_) AllReady.nil
              · go_simp; refine hKK _ _ ?_; clear hKK KK; (try simp only [putr]); refine rdA [4] ?_; refine rcA (fun KK hKK => ?_) AllReady.nil; go_simp; refine hKK _ _ ?_; clear hKK KK; (try simp only [putr]); refine rdA [8] ?_; refine rcA (fun KK hKK => ?_) AllReady.nil
                refine wp_append_own _ (.tmp 30) (.tmp 33) eEn gi_en (by decide) rfl 0 rfl HU.out rfl rfl (ns := [((r.i, r.base) : En)]) HX.out HCN.out (Nat.zero_le _) ?_
                intro A8 m8 c8 w8 hr8 hc8 hb8 hw8 ho8
                refine hKK _ _ ?_; clear hKK KK
                have y0 := (HY.out.grown hw8 HNG.out).cell 0
                have q4 := (HBK.out.grown hw8 HNB.out).cell 4
                have f4 := (HBK.out.grown hw8 HNB.out).free 4
                (try simp only [putr]); refine stA 9 ?_; (try simp only [putr]); refine stA 10 ?_; (try simp only [putr]); refine rdA [11] ?_; refine rcA (fun KK hKK => ?_) AllReady.nil; go_simp; refine hKK _ _ ?_; clear hKK KK; (try simp only [Act.put]); refine wpAny_done (by kernel_rfl) ?_ _
                have HE := hid (used_push (w8 := w8) HL.out HZ7.out HRE.out hr8 hw8 ho8 HPL2.out)
                clear hr8 hw8 ho8 hc8 hb8 y0 q4 f4
                go_wp2_with fail
                go_meet
                case rel => exact ⟨A8, c8, HE⟩
            refine rcA (fun KK hKK => ?_) ?_
            · go_simp; refine hKK _ _ ?_; clear hKK KK; (try simp only [putr]); refine rdA [0, 7] ?_; refine rcA (fun KK hKK => ?_) ?_
              · go_simp; refine hKK _ _ ?_; clear hKK KK; (try simp only [putr]); refine rdA [7] ?_; refine rcA (fun KK hKK => ?_) AllReady.nil; go_simp; refine hKK _ _ ?_; clear hKK KK; (try simp only [putr]); refine rdA [8] ?_; refine rcA (fun KK hKK => ?_) AllReady.nil
                refine wp_append_own _ (.tmp 30) (.tmp 33) eEn gi_en (by decide) rfl 0 rfl HU.out rfl rfl (ns := [((r.i, r.base) : En)]) HX.out HCN.out (Nat.zero_le _) ?_
                intro A8 m8 c8 w8 hr8 hc8 hb8 hw8 ho8
                refine hKK _ _ ?_; clear hKK KK
                have y0 := (HY.out.grown hw8 HNG.out).cell 0
                have q4 := (HBK.out.grown hw8 HNB.out).cell 4
                have f4 := (HBK.out.grown hw8 HNB.out).free 4
                (try simp only [putr]); refine stA 9 ?_; (try simp only [putr]); refine stA 10 ?_; (try simp only [putr]); refine rdA [11] ?_; refine rcA (fun KK hKK => ?_) AllReady.nil; go_simp; refine hKK _ _ ?_; clear hKK KK; (try simp only [Act.put]); refine wpAny_done (by kernel_rfl) ?_ _
                have HE := hid (used_push (w8 := w8) HL.out HZ7.out HRE.out hr8 hw8 ho8 HPL2.out)
                clear hr8 hw8 ho8 hc8 hb8 y0 q4 f4
                go_wp2_with fail
                go_meet
                case rel => exact ⟨A8, c8, HE⟩
              refine rcA (fun KK hKK => ?_) AllReady.nil
              · go_simp; refine hKK _ _ ?_; clear hKK KK; (try simp only [putr]); refine rdA [0, 8] ?_; refine rcA (fun KK hKK => ?_) ?_
                · go_simp; refine hKK _ _ ?_; clear hKK KK; (try simp only [putr]); refine rdA [8] ?_; refine rcA (fun KK hKK => ?_) AllReady.nil
                  refine wp_append_own _ (.tmp 30) (.tmp 33) eEn gi_en (by decide) rfl 0 rfl HU.out rfl rfl (ns := [((r.i, r.base) : En)]) HX.out HCN.out (Nat.zero_le _) ?_
                  intro A8 m8 c8 w8 hr8 hc8 hb8 hw8 ho8
                  refine hKK _ _ ?_; clear hKK KK
                  have y0 := (HY.out.grown hw8 HNG.out).cell 0
                  have q4 := (HBK.out.grown hw8 HNB.out).cell 4
                  have f4 := (HBK.out.grown hw8 HNB.out).free 4
                  (try simp only [putr]); refine stA 9 ?_; (try simp only [putr]); refine stA 10 ?_; (try simp only [putr]); refine rdA [11] ?_; refine rcA (fun KK hKK => ?_) AllReady.nil; go_simp; refine hKK _ _ ?_; clear hKK KK; (try simp only [Act.put]); refine wpAny_done (by kernel_rfl) ?_ _
                  have HE := hid (used_push (w8 := w8) HL.out HZ7.out HRE.out hr8 hw8 ho8 HPL2.out)
                  clear hr8 hw8 ho8 hc8 hb8 y0 q4 f4
                  go_wp2_with fail
                  go_meet
                  case rel => exact ⟨A8, c8, HE⟩
                refine rcA (fun KK hKK => ?_) AllReady.nil
                · refine wp_append_own _ (.tmp 30) (.tmp 33) eEn gi_en (by decide) rfl 0 rfl HU.out rfl rfl (ns := [((r.i, r.base) : En)]) HX.out HCN.out (Nat.zero_le _) ?_
                  intro A8 m8 c8 w8 hr8 hc8 hb8 hw8 ho8
                  refine hKK _ _ ?_; clear hKK KK
                  have y0 := (HY.out.grown hw8 HNG.out).cell 0
                  have q4 := (HBK.out.grown hw8 HNB.out).cell 4
                  have f4 := (HBK.out.grown hw8 HNB.out).free 4
                  (try simp only [putr]); refine rdA [0] ?_; refine rcA (fun KK hKK => ?_) AllReady.nil; go_simp; refine hKK _ _ ?_; clear hKK KK; (try simp only [putr]); refine stA 9 ?_; (try simp only [putr]); refine stA 10 ?_; (try simp only [putr]); refine rdA [11] ?_; refine rcA (fun KK hKK => ?_) AllReady.nil; go_simp; refine hKK _ _ ?_; clear hKK KK; (try simp only [Act.put]); refine wpAny_done (by kernel_rfl) ?_ _
                  have HE := hid (used_push (w8 := w8) HL.out HZ7.out HRE.out hr8 hw8 ho8 HPL2.out)
                  clear hr8 hw8 ho8 hc8 hb8 y0 q4 f4
                  go_wp2_with fail
                  go_meet
                  case rel => exact ⟨A8, c8, HE⟩
            refine rcA (fun KK hKK => ?_) AllReady.nil
            · go_simp; refine hKK _ _ ?_; clear hKK KK; (try simp only [putr]); refine rdA [0, 4] ?_; refine rcA (fun KK hKK => ?_) ?_
              · go_simp; refine hKK _ _ ?_; clear hKK KK; (try simp only [putr]); refine rdA [4] ?_; refine rcA (fun KK hKK => ?_) AllReady.nil; go_simp; refine hKK _ _ ?_; clear hKK KK; (try simp only [putr]); refine rdA [8] ?_; refine rcA (fun KK hKK => ?_) AllReady.nil
                refine wp_append_own _ (.tmp 30) (.tmp 33) eEn gi_en (by decide) rfl 0 rfl HU.out rfl rfl (ns := [((r.i, r.base) : En)]) HX.out HCN.out (Nat.zero_le _) ?_
                intro A8 m8 c8 w8 hr8 hc8 hb8 hw8 ho8
                refine hKK _ _ ?_; clear hKK KK
                have y0 := (HY.out.grown hw8 HNG.out).cell 0
                have q4 := (HBK.out.grown hw8 HNB.out).cell 4
                have f4 := (HBK.out.grown hw8 HNB.out).free 4
                (try simp only [putr]); refine stA 9 ?_; (try simp only [putr]); refine stA 10 ?_; (try simp only [putr]); refine rdA [11] ?_; refine rcA (fun KK hKK => ?_) AllReady.nil; go_simp; refine hKK _ _ ?_; clear hKK KK; (try simp only [Act.put]); refine wpAny_done (by kernel_rfl) ?_ _
                have HE := hid (used_push (w8 := w8) HL.out HZ7.out HRE.out hr8 hw8 ho8 HPL2.out)
                clear hr8 hw8 ho8 hc8 hb8 y0 q4 f4
                go_wp2_with fail
                go_meet
                case rel => exact ⟨A8, c8, HE⟩
              refine rcA (fun KK hKK => ?_) AllReady.nil
              · go_simp; refine hKK _ _ ?_; clear hKK KK; (try simp only [putr]); refine rdA [0, 8] ?_; refine rcA (fun KK hKK => ?_) ?_
                · go_simp; refine hKK _ _ ?_; clear hKK KK; (try simp only [putr]); refine rdA [8] ?_; refine rcA (fun KK hKK => ?_) AllReady.nil
                  refine wp_append_own _ (.tmp 30) (.tmp 33) eEn gi_en (by decide) rfl 0 rfl HU.out rfl rfl (ns := [((r.i, r.base) : En)]) HX.out HCN.out (Nat.zero_le _) ?_
                  intro A8 m8 c8 w8 hr8 hc8 hb8 hw8 ho8
                  refine hKK _ _ ?_; clear hKK KK
                  have y0 := (HY.out.grown hw8 HNG.out).cell 0
                  have q4 := (HBK.out.grown hw8 HNB.out).cell 4
                  have f4 := (HBK.out.grown hw8 HNB.out).free 4
                  (try simp only [putr]); refine stA 9 ?_; (try simp only [putr]); refine stA 10 ?_; (try simp only [putr]); refine rdA [11] ?_; refine rcA (fun KK hKK => ?_) AllReady.nil; go_simp; refine hKK _ _ ?_; clear hKK KK; (try simp only [Act.put]); refine wpAny_done (by kernel_rfl) ?_ _
                  have HE := hid (used_push (w8 := w8) HL.out HZ7.out HRE.out hr8 hw8 ho8 HPL2.out)
                  clear hr8 hw8 ho8 hc8 hb8 y0 q4 f4
                  go_wp2_with fail
                  go_meet
                  case rel => exact ⟨A8, c8, HE⟩
                refine rcA (fun KK hKK => ?_) AllReady.nil
                · refine wp_append_own _ (.tmp 30) (.tmp 33) eEn gi_en (by decide) rfl 0 rfl HU.out rfl rfl (ns := [((r.i, r.base) : En)]) HX.out HCN.out (Nat.zero_le _) ?_
                  intro A8 m8 c8 w8 hr8 hc8 hb8 hw8 ho8
                  refine hKK _ _ ?_; clear hKK KK
                  have y0 := (HY.out.grown hw8 HNG.out).cell 0
                  have q4 := (HBK.out.grown hw8 HNB.out).cell 4
                  have f4 := (HBK.out.grown hw8 HNB.out).free 4
                  (try simp only [putr]); refine rdA [0] ?_; refine rcA (fun KK hKK => ?_) AllReady.nil; go_simp; refine hKK _ _ ?_; clear hKK KK; (try simp only [putr]); refine stA 9 ?_; (try simp only [putr]); refine stA 10 ?_; (try simp only [putr]); refine rdA [11] ?_; refine rcA (fun KK hKK => ?_) AllReady.nil; go_simp; refine hKK _ _ ?_; clear hKK KK; (try simp only [Act.put]); refine wpAny_done (by kernel_rfl) ?_ _
                  have HE := hid (used_push (w8 := w8) HL.out HZ7.out HRE.out hr8 hw8 ho8 HPL2.out)
                  clear hr8 hw8 ho8 hc8 hb8 y0 q4 f4
                  go_wp2_with fail
                  go_meet
                  case rel => exact ⟨A8, c8, HE⟩
        refine rcA (fun KK hKK => ?_) AllReady.nil
        · go_simp; refine hKK _ _ ?_; clear hKK KK; (try simp only [putr]); refine rdA [0, 1, 7] ?_; refine rcA (fun KK hKK => ?_) ?_
          · go_simp; refine hKK _ _ ?_; clear hKK KK; (try simp only [putr]); refine rdA [1, 7] ?_; refine rcA (fun KK hKK => ?_) ?_
            · go_simp; refine hKK _ _ ?_; clear hKK KK; (try simp only [putr]); refine stA 2 ?_; (try simp only [putr]); refine stA 3 ?_; (try simp only [putr]); refine rdA [4, 7] ?_; refine rcA (fun KK hKK => ?_) ?_
              · go_simp; refine hKK _ _ ?_; clear hKK KK; (try simp only [putr]); refine rdA [7] ?_; refine rcA (fun KK hKK => ?_) AllReady.nil; go_simp; refine hKK _ _ ?_; clear hKK KK; (try simp only [putr]); refine rdA [8] ?_; refine rcA (fun KK hKK => ?_) AllReady.nil
                refine wp_append_own _ (.tmp 30) (.tmp 33) eEn gi_en (by decide) rfl 0 rfl HU.out rfl rfl (ns := [((r.i, r.base) : En)]) HX.out HCN.out (Nat.zero_le _) ?_
                intro A8 m8 c8 w8 hr8 hc8 hb8 hw8 ho8
                refine hKK _ _ ?_; clear hKK KK
                have y0 := (HY.out.grown hw8 HNG.out).cell 0
                have q4 := (HBK.out.grown hw8 HNB.out).cell 4
                have f4 := (HBK.out.grown hw8 HNB.out).free 4
                (try simp only [putr]); refine stA 9 ?_; (try simp only [putr]); refine stA 10 ?_; (try simp only [putr]); refine rdA [11] ?_; refine rcA (fun KK hKK => ?_) AllReady.nil; go_simp; refine hKK _ _ ?_; clear hKK KK; (try simp only [Act.put]); refine wpAny_done (by kernel_rfl) ?_ _
                have HE := hid (used_push (w8 := w8) HL.out HZ7.out HRE.out hr8 hw8 ho8 HPL2.out)
                clear hr8 hw8 ho8 hc8 hb8 y0 q4 f4
                go_wp2_with fail
                go_meet
                case rel => exact ⟨A8, c8, HE⟩
              refine rcA (fun KK hKK => ?_) AllReady.nil
              · go_simp; refine hKK _ _ ?_; clear hKK KK; (try simp only [putr]); refine rdA [4] ?_; refine rcA (fun KK hKK => ?_) AllReady.nil; go_simp; refine hKK _ _ ?_; clear hKK KK; (try simp only [putr]); refine rdA [8] ?_; refine rcA (fun KK hKK => ?_) AllReady.nil
                refine wp_append_own _ (.tmp 30) (.tmp 33) eEn gi_en (by decide) rfl 0 rfl HU.out rfl rfl (ns := [((r.i, r.base) : En)]) HX.out HCN.out (Nat.zero_le _) ?_
                intro A8 m8 c8 w8 hr8 hc8 hb8 hw8 ho8
                refine hKK _ _ ?_; clear hKK KK
                have y0 := (HY.out.grown hw8 HNG.out).cell 0
                have q4 := (HBK.out.grown hw8 HNB.out).cell 4
                have f4 := (HBK.out.grown hw8 HNB.out).free 4
                (try simp only [putr]); refine stA 9 ?_; (try simp only [putr]); refine stA 10 ?_; (try simp only [putr]); refine rdA [11] ?_; refine rcA (fun KK hKK => ?_) AllReady.nil; go_simp; refine hKK _ _ ?_; clear hKK KK; (try simp only [Act.put]); refine wpAny_done (by kernel_rfl) ?_ _
                have HE := hid (used_push (w8 := w8) HL.out HZ7.out HRE.out hr8 hw8 ho8 HPL2.out)
                clear hr8 hw8 ho8 hc8 hb8 y0 q4 f4
                go_wp2_with fail
                go_meet
                case rel => exact ⟨A8, c8, HE⟩
            refine rcA (fun KK hKK => ?_) AllReady.nil
            · go_simp; refine hKK _ _ ?_; clear hKK KK; (try simp only [putr]); refine rdA [1] ?_; refine rcA (fun KK hKK => ?_) AllReady.nil; go_simp; refine hKK _ _ ?_; clear hKK KK; (try simp only [putr]); refine stA 2 ?_; (try simp only [putr]); refine stA 3 ?_; (try simp only [putr]); refine rdA [4] ?_; refine rcA (fun KK hKK => ?_) AllReady.nil; go_simp; refine hKK _ _ ?_; clear hKK KK; (try simp only [putr]); refine rdA [8] ?_; refine rcA (fun KK hKK => ?_) AllReady.nil
              refine wp_append_own _ (.tmp 30) (.tmp 33) eEn gi_en (by decide) rfl 0 rfl HU.out rfl rfl (ns := [((r.i, r.base) : En)]) HX.out HCN.out (Nat.zero_le _) ?_
              intro A8 m8 c8 w8 hr8 hc8 hb8 hw8 ho8
              refine hKK _ _ ?_; clear hKK KK
              have y0 := (HY.out.grown hw8 HNG.out).cell 0
              have q4 := (HBK.out.grown hw8 HNB.out).cell 4
              have f4 := (HBK.out.grown hw8 HNB.out).free 4
              (try simp only [putr]); refine stA 9 ?_; (try simp only [putr]); refine stA 10 ?_; (try simp only [putr]); refine rdA [11] ?_; refine rcA (fun KK hKK => ?_) AllReady.nil; go_simp; refine hKK _ _ ?_; clear hKK KK; (try simp only [Act.put]); refine wpAny_done (by kernel_rfl) ?_ _
              have HE := hid (used_push (w8 := w8) HL.out HZ7.out HRE.out hr8 hw8 ho8 HPL2.out)
              clear hr8 hw8 ho8 hc8 hb8 y0 q4 f4
              go_wp2_with fail
              go_meet
              case rel => exact ⟨A8, c8, HE⟩
          refine rcA (fun KK hKK => ?_) ?_
          · go_simp; refine hKK _ _ ?_; clear hKK KK; (try simp only [putr]); refine stA 2 ?_; (try simp only [putr]); refine stA 3 ?_; (try simp only [putr]); refine rdA [0, 4, 7] ?_; refine rcA (fun KK hKK => ?_) ?_
            · go_simp; refine hKK _ _ ?_; clear hKK KK; (try simp only [putr]); refine rdA [4, 7] ?_; refine rcA (fun KK hKK => ?_) ?_
              · go_simp; refine hKK _ _ ?_; clear hKK KK; (try simp only [putr]); refine rdA [7] ?_; refine rcA (fun KK hKK => ?_) AllReady.nil; go_simp; refine hKK _ _ ?_; clear hKK KK; (try simp only [putr]); refine rdA [8] ?_; refine rcA (fun KK hKK => ?_) AllReady.nil
                refine wp_append_own _ (.tmp 30) (.tmp 33) eEn gi_en (by decide) rfl 0 rfl HU.out rfl rfl (ns := [((r.i, r.base) : En)]) HX.out HCN.out (Nat.zero_le _) ?_
                intro A8 m8 c8 w8 hr8 hc8 hb8 hw8 ho8
                refine hKK _ _ ?_; clear hKK KK
                have y0 := (HY.out.grown hw8 HNG.out).cell 0
                have q4 := (HBK.out.grown hw8 HNB.out).cell 4
                have f4 := (HBK.out.grown hw8 HNB.out).free 4
                (try simp only [putr]); refine stA 9 ?_; (try simp only [putr]); refine stA 10 ?_; (try simp only [putr]); refine rdA [11] ?_; refine rcA (fun KK hKK => ?_) AllReady.nil; go_simp; refine hKK _ _ ?_; clear hKK KK; (try simp only [Act.put]); refine wpAny_done (by kernel_rfl) ?_ _
                have HE := hid (used_push (w8 := w8) HL.out HZ7.out HRE.out hr8 hw8 ho8 HPL2.out)
                clear hr8 hw8 ho8 hc8 hb8 y0 q4 f4
                go_wp2_with fail
                go_meet
                case rel => exact ⟨A8, c8, HE⟩
              refine rcA (fun KK hKK => ?_) AllReady.nil
              · go_simp; refine hKK _ _ ?_; clear hKK KK; (try simp only [putr]); refine rdA [4] ?_; refine rcA (fun KK hKK => ?_) AllReady.nil; go_simp; refine hKK _ _ ?_; clear hKK KK; (try simp only [putr]); refine rdA [8] ?_; refine rcA (fun KK hKK => ?_) AllReady.nil
                refine wp_append_own _ (.tmp 30) (.tmp 33) eEn gi_en (by decide) rfl 0 rfl HU.out rfl rfl (ns := [((r.i, r.base) : En)]) HX.out HCN.out (Nat.zero_le _) ?_
                intro A8 m8 c8 w8 hr8 hc8 hb8 hw8 ho8
                refine hKK _ _ ?_; clear hKK KK
                have y0 := (HY.out.grown hw8 HNG.out).cell 0
                have q4 := (HBK.out.grown hw8 HNB.out).cell 4
                have f4 := (HBK.out.grown hw8 HNB.out).free 4
                (try simp only [putr]); refine stA 9 ?_; (try simp only [putr]); refine stA 10 ?_; (try simp only [putr]); refine rdA [11] ?_; refine rcA (fun KK hKK => ?_) AllReady.nil; go_simp; refine hKK _ _ ?_; clear hKK KK; (try simp only [Act.put]); refine wpAny_done (by kernel_rfl) ?_ _
                have HE := hid (used_push (w8 := w8) HL.out HZ7.out HRE.out hr8 hw8 ho8 HPL2.out)
                clear hr8 hw8 ho8 hc8 hb8 y0 q4 f4
                go_wp2_with fail
                go_meet
                case rel => exact ⟨A8, c8, HE⟩
            refine rcA (fun KK hKK => ?_) ?_
            · go_simp; refine hKK _ _ ?_; clear hKK KK; (try simp only [putr]); refine rdA [0, 7] ?_; refine rcA (fun KK hKK => ?_) ?_
              · go_simp; refine hKK _ _ ?_; clear hKK KK; (try simp only [putr]); refine rdA [7] ?_; refine rcA (fun KK hKK => ?_) AllReady.nil; go_simp; refine hKK _ _ ?_; clear hKK KK; (try simp only [putr]); refine rdA [8] ?_; refine rcA (fun KK hKK => ?_) AllReady.nil
                refine wp_append_own _ (.tmp 30) (.tmp 33) eEn gi_en (by decide) rfl 0 rfl HU.out rfl rfl (ns := [((r.i, r.base) : En)]) HX.out HCN.out (Nat.zero_le _) ?_
                intro A8 m8 c8 w8 hr8 hc8 hb8 hw8 ho8
                refine hKK _ _ ?_; clear hKK KK
                have y0 := (HY.out.grown hw8 HNG.out).cell 0
                have q4 := (HBK.out.grown hw8 HNB.out).cell 4
                have f4 := (HBK.out.grown hw8 HNB.out).free 4
                (try simp only [putr]); refine stA 9 ?_; (try simp only [putr]); refine stA 10 ?_; (try simp only [putr]); refine rdA [11] ?_; refine rcA (fun KK hKK => ?_) AllReady.nil; go_simp; refine hKK _ _ ?_; clear hKK KK; (try simp only [Act.put]); refine wpAny_done (by kernel_rfl) ?_ _
                have HE := hid (used_push (w8 := w8) HL.out HZ7.out HRE.out hr8 hw8 ho8 HPL2.out)
                clear hr8 hw8 ho8 hc8 hb8 y0 q4 f4
                go_wp2_with fail
                go_meet
                case rel => exact ⟨A8, c8, HE⟩
              refine rcA (fun KK hKK => ?_) AllReady.nil
              · go_simp; refine hKK _ _ ?_; clear hKK KK; (try simp only [putr]); refine rdA [0, 8] ?_; refine rcA (fun KK hKK => ?_) ?_
                · go_simp; refine hKK _ _ ?_; clear hKK KK; (try simp only [putr]); refine rdA [8] ?_; refine rcA (fun KK hKK => ?_) AllReady.nil
                  refine wp_append_own _ (.tmp 30) (.tmp 33) eEn gi_en (by decide) rfl 0 rfl HU.out rfl rfl (ns := [((r.i, r.base) : En)]) HX.out HCN.out (Nat.zero_le _) ?_
                  intro A8 m8 c8 w8 hr8 hc8 hb8 hw8 ho8
                  refine hKK _ _ ?_; clear hKK KK
                  have y0 := (HY.out.grown hw8 HNG.out).cell 0
                  have q4 := (HBK.out.grown hw8 HNB.out).cell 4
                  have f4 := (HBK.out.grown hw8 HNB.out).free 4
                  (try simp only [putr]); refine stA 9 ?_; (try simp only [putr]); refine stA 10 ?_; (try simp only [putr]); refine rdA [11] ?_; refine rcA (fun KK hKK => ?_) AllReady.nil; go_simp; refine hKK _ _ ?_; clear hKK KK; (try simp only [Act.put]); refine wpAny_done (by kernel_rfl) ?_ _
                  have HE := hid (used_push (w8 := w8) HL.out HZ7.out HRE.out hr8 hw8 ho8 HPL2.out)
                  clear hr8 hw8 ho8 hc8 hb8 y0 q4 f4
                  go_wp2_with fail
                  go_meet
                  case rel => exact ⟨A8, c8, HE⟩
                refine rcA (fun KK hKK => ?_) AllReady.nil
                · refine wp_append_own _ (.tmp 30) (.tmp 33) eEn gi_en (by decide) rfl 0 rfl HU.out rfl rfl (ns := [((r.i, r.base) : En)]) HX.out HCN.out (Nat.zero_le _) ?_
                  intro A8 m8 c8 w8 hr8 hc8 hb8 hw8 ho8
                  refine hKK _ _ ?_; clear hKK KK
                  have y0 := (HY.out.grown hw8 HNG.out).cell 0
                  have q4 := (HBK.out.grown hw8 HNB.out).cell 4
                  have f4 := (HBK.out.grown hw8 HNB.out).free 4
                  (try simp only [putr]); refine rdA [0] ?_; refine rcA (fun KK hKK => ?_) AllReady.nil; go_simp; refine hKK _ _ ?_; clear hKK KK; (try simp only [putr]); refine stA 9 ?_; (try simp only [putr]); refine stA 10 ?_; (try simp only [putr]); refine rdA [11] ?_; refine rcA (fun KK hKK => ?_) AllReady.nil; go_simp; refine hKK _ _ ?_; clear hKK KK; (try simp only [Act.put]); refine wpAny_done (by kernel_rfl) ?_ _
                  have HE := hid (used_push (w8 := w8) HL.out HZ7.out HRE.out hr8 hw8 ho8 HPL2.out)
                  clear hr8 hw8 ho8 hc8 hb8 y0 q4 f4
                  go_wp2_with fail
                  go_meet
                  case rel => exact ⟨A8, c8, HE⟩
            refine rcA (fun KK hKK => ?_) AllReady.nil
            · go_simp; refine hKK _ _ ?_; clear hKK KK; (try simp only [putr]); refine rdA [0, 4] ?_; refine rcA (fun KK hKK => ?_) ?_
              · go_simp; refine hKK _ _ ?_; clear hKK KK; (try simp only [putr]); refine rdA [4] ?_; refine rcA (fun KK hKK => ?_) AllReady.nil; go_simp; refine hKK _ _ ?_; clear hKK KK; (try simp only [putr]); refine rdA [8] ?_; refine rcA (fun KK hKK => ?_) AllReady.nil
                refine wp_append_own _ (.tmp 30) (.tmp 33) eEn gi_en (by decide) rfl 0 rfl HU.out rfl rfl (ns := [((r.i, r.base) : En)]) HX.out HCN.out (Nat.zero_le _) ?_
                intro A8 m8 c8 w8 hr8 hc8 hb8 hw8 ho8
                refine hKK _ _ ?_; clear hKK KK
                have y0 := (HY.out.grown hw8 HNG.out).cell 0
                have q4 := (HBK.out.grown hw8 HNB.out).cell 4
                have f4 := (HBK.out.grown hw8 HNB.out).free 4
                (try simp only [putr]); refine stA 9 ?_; (try simp only [putr]); refine stA 10 ?_; (try simp only [putr]); refine rdA [11] ?_; refine rcA (fun KK hKK => ?_) AllReady.nil; go_simp; refine hKK _ _ ?_; clear hKK KK; (try simp only [Act.put]); refine wpAny_done (by kernel_rfl) ?_ _
                have HE := hid (used_push (w8 := w8) HL.out HZ7.out HRE.out hr8 hw8 ho8 HPL2.out)
                clear hr8 hw8 ho8 hc8 hb8 y0 q4 f4
                go_wp2_with fail
                go_meet
                case rel => exact ⟨A8, c8, HE⟩
              refine rcA (fun KK hKK => ?_) AllReady.nil
              · go_simp; refine hKK _ _ ?_; clear hKK KK; (try simp only [putr]); refine rdA [0, 8] ?_; refine rcA (fun KK hKK => ?_) ?_
                · go_simp; refine hKK _ _ ?_; clear hKK KK; (try simp only [putr]); refine rdA [8] ?_; refine rcA (fun KK hKK => ?_) AllReady.nil
                  refine wp_append_own _ (.tmp 30) (.tmp 33) eEn gi_en (by decide) rfl 0 rfl HU.out rfl rfl (ns := [((r.i, r.base) : En)]) HX.out HCN.out (Nat.zero_le _) ?_
                  intro A8 m8 c8 w8 hr8 hc8 hb8 hw8 ho8
                  refine hKK _ _ ?_; clear hKK KK
                  have y0 := (HY.out.grown hw8 HNG.out).cell 0
                  have q4 := (HBK.out.grown hw8 HNB.out).cell 4
                  have f4 := (HBK.out.grown hw8 HNB.out).free 4
                  (try simp only [putr]); refine stA 9 ?_; (try simp only [putr]); refine stA 10 ?_; (try simp only [putr]); refine rdA [11] ?_; refine rcA (fun KK hKK => ?_) AllReady.nil; go_simp; refine hKK _ _ ?_; clear hKK KK; (try simp only [Act.put]); refine wpAny_done (by kernel_rfl) ?_ _
                  have HE := hid (used_push (w8 := w8) HL.out HZ7.out HRE.out hr8 hw8 ho8 HPL2.out)
                  clear hr8 hw8 ho8 hc8 hb8 y0 q4 f4
                  go_wp2_with fail
                  go_meet
                  case rel => exact ⟨A8, c8, HE⟩
                refine rcA (fun KK hKK => ?_) AllReady.nil
                · refine wp_append_own _ (.tmp 30) (.tmp 33) eEn gi_en (by decide) rfl 0 rfl HU.out rfl rfl (ns := [((r.i, r.base) : En)]) HX.out HCN.out (Nat.zero_le _) ?_
                  intro A8 m8 c8 w8 hr8 hc8 hb8 hw8 ho8
                  refine hKK _ _ ?_; clear hKK KK
                  have y0 := (HY.out.grown hw8 HNG.out).cell 0
                  have q4 := (HBK.out.grown hw8 HNB.out).cell 4
                  have f4 := (HBK.out.grown hw8 HNB.out).free 4
                  (try simp only [putr]); refine rdA [0] ?_; refine rcA (fun KK hKK => ?_) AllReady.nil; go_simp; refine hKK _ _ ?_; clear hKK KK; (try simp only [putr]); refine stA 9 ?_; (try simp only [putr]); refine stA 10 ?_; (try simp only [putr]); refine rdA [11] ?_; refine rcA (fun KK hKK => ?_) AllReady.nil; go_simp; refine hKK _ _ ?_; clear hKK KK; (try simp only [Act.put]); refine wpAny_done (by kernel_rfl) ?_ _
                  have HE := hid (used_push (w8 := w8) HL.out HZ7.out HRE.out hr8 hw8 ho8 HPL2.out)
                  clear hr8 hw8 ho8 hc8 hb8 y0 q4 f4
                  go_wp2_with fail
                  go_meet
                  case rel => exact ⟨A8, c8, HE⟩
          refine rcA (fun KK hKK => ?_) AllReady.nil
          · go_simp; refine hKK _ _ ?_; clear hKK KK; (try simp only [putr]); refine rdA [0, 1] ?_; refine rcA (fun KK hKK => ?_) ?_
            · go_simp; refine hKK _ _ ?_; clear hKK KK; (try simp only [putr]); refine rdA [1] ?_; refine rcA (fun KK hKK => ?_) AllReady.nil; go_simp; refine hKK _ _ ?_; clear hKK KK; (try simp only [putr]); refine stA 2 ?_; (try simp only [putr]); refine stA 3 ?_; (try simp only [putr]); refine rdA [4] ?_; refine rcA (fun KK hKK => ?_) AllReady.nil; go_simp; refine hKK _ _ ?_; clear hKK KK; (try simp only [putr]); refine rdA [8] ?_; refine rcA (fun KK hKK => ?_) AllReady.nil
              refine wp_append_own _ (.tmp 30) (.tmp 33) eEn gi_en (by decide) rfl 0 rfl HU.out rfl rfl (ns := [((r.i, r.base) : En)]) HX.out HCN.out (Nat.zero_le _) ?_
              intro A8 m8 c8 w8 hr8 hc8 hb8 hw8 ho8
              refine hKK _ _ ?_; clear hKK KK
              have y0 := (HY.out.grown hw8 HNG.out).cell 0
              have q4 := (HBK.out.grown hw8 HNB.out).cell 4
              have f4 := (HBK.out.grown hw8 HNB.out).free 4
              (try simp only [putr]); refine stA 9 ?_; (try simp only [putr]); refine stA 10 ?_; (try simp only [putr]); refine rdA [11] ?_; refine rcA (fun KK hKK => ?_) AllReady.nil; go_simp; refine hKK _ _ ?_; clear hKK KK; (try simp only [Act.put]); refine wpAny_done (by kernel_rfl) ?_ _
              have HE := hid (used_push (w8 := w8) HL.out HZ7.out HRE.out hr8 hw8 ho8 HPL2.out)
              clear hr8 hw8 ho8 hc8 hb8 y0 q4 f4
              go_wp2_with fail
              go_meet
              case rel => exact ⟨A8, c8, HE⟩
            refine rcA (fun KK hKK => ?_) AllReady.nil
            · go_simp; refine hKK _ _ ?_; clear hKK KK; (try simp only [putr]); refine stA 2 ?_; (try simp only [putr]); refine stA 3 ?_; (try simp only [putr]); refine rdA [0, 4] ?_; refine rcA (fun KK hKK => ?_) ?_
              · go_simp; refine hKK _ _ ?_; clear hKK KK; (try simp only [putr]); refine rdA [4] ?_; refine rcA (fun KK hKK => ?_) AllReady.nil; go_simp; refine hKK _ _ ?_; clear hKK KK; (try simp only [putr]); refine rdA [8] ?_; refine rcA (fun KK hKK => ?_) AllReady.nil
                refine wp_append_own _ (.tmp 30) (.tmp 33) eEn gi_en (by decide) rfl 0 rfl HU.out rfl rfl (ns := [((r.i, r.base) : En)]) HX.out HCN.out (Nat.zero_le _) ?_
                intro A8 m8 c8 w8 hr8 hc8 hb8 hw8 ho8
                refine hKK _ _ ?_; clear hKK KK
                have y0 := (HY.out.grown hw8 HNG.out).cell 0
                have q4 := (HBK.out.grown hw8 HNB.out).cell 4
                have f4 := (HBK.out.grown hw8 HNB.out).free 4
                (try simp only [putr]); refine stA 9 ?_; (try simp only [putr]); refine stA 10 ?_; (try simp only [putr]); refine rdA [11] ?_; refine rcA (fun KK hKK => ?_) AllReady.nil; go_simp; refine hKK _ _ ?_; clear hKK KK; (try simp only [Act.put]); refine wpAny_done (by kernel_rfl) ?_ _
                have HE := hid (used_push (w8 := w8) HL.out HZ7.out HRE.out hr8 hw8 ho8 HPL2.out)
                clear hr8 hw8 ho8 hc8 hb8 y0 q4 f4
                go_wp2_with fail
                go_meet
                case rel => exact ⟨A8, c8, HE⟩
              refine rcA (fun KK hKK => ?_) AllReady.nil
              · go_simp; refine hKK _ _ ?_; clear hKK KK; (try simp only [putr]); refine rdA [0, 8] ?_; refine rcA (fun KK hKK => ?_) ?_
                · go_simp; refine hKK _ _ ?_; clear hKK KK; (try simp only [putr]); refine rdA [8] ?_; refine rcA (fun KK hKK => ?_) AllReady.nil
                  refine wp_append_own _ (.tmp 30) (.tmp 33) eEn gi_en (by decide) rfl 0 rfl HU.out rfl rfl (ns := [((r.i, r.base) : En)]) HX.out HCN.out (Nat.zero_le _) ?_
                  intro A8 m8 c8 w8 hr8 hc8 hb8 hw8 ho8
                  refine hKK _ _ ?_; clear hKK KK
                  have y0 := (HY.out.grown hw8 HNG.out).cell 0
                  have q4 := (HBK.out.grown hw8 HNB.out).cell 4
                  have f4 := (HBK.out.grown hw8 HNB.out).free 4
                  (try simp only [putr]); refine stA 9 ?_; (try simp only [putr]); refine stA 10 ?_; (try simp only [putr]); refine rdA [11] ?_; refine rcA (fun KK hKK => ?_) AllReady.nil; go_simp; refine hKK _ _ ?_; clear hKK KK; (try simp only [Act.put]); refine wpAny_done (by kernel_rfl) ?_ _
                  have HE := hid (used_push (w8 := w8) HL.out HZ7.out HRE.out hr8 hw8 ho8 HPL2.out)
                  clear hr8 hw8 ho8 hc8 hb8 y0 q4 f4
                  go_wp2_with fail
                  go_meet
                  case rel => exact ⟨A8, c8, HE⟩
                refine rcA (fun KK hKK => ?_) AllReady.nil
                · refine wp_append_own _ (.tmp 30) (.tmp 33) eEn gi_en (by decide) rfl 0 rfl HU.out rfl rfl (ns := [((r.i, r.base) : En)]) HX.out HCN.out (Nat.zero_le _) ?_
                  intro A8 m8 c8 w8 hr8 hc8 hb8 hw8 ho8
                  refine hKK _ _ ?_; clear hKK KK
                  have y0 := (HY.out.grown hw8 HNG.out).cell 0
                  have q4 := (HBK.out.grown hw8 HNB.out).cell 4
                  have f4 := (HBK.out.grown hw8 HNB.out).free 4
                  (try simp only [putr]); refine rdA [0] ?_; refine rcA (fun KK hKK => ?_) AllReady.nil; go_simp; refine hKK _ _ ?_; clear hKK KK; (try simp only [putr]); refine stA 9 ?_; (try simp only [putr]); refine stA 10 ?_; (try simp only [putr]); refine rdA [11] ?_; refine rcA (fun KK hKK => ?_) AllReady.nil; go_simp; refine hKK _ _ ?_; clear hKK KK; (try simp only [Act.put]); refine wpAny_done (by kernel_rfl) ?_ _
                  have HE := hid (used_push (w8 := w8) HL.out HZ7.out HRE.out hr8 hw8 ho8 HPL2.out)
                  clear hr8 hw8 ho8 hc8 hb8 y0 q4 f4
                  go_wp2_with fail
                  go_meet
                  case rel => exact ⟨A8, c8, HE⟩
      case rest =>
        obtain ⟨A8, c8, HPU⟩ := hcut
        clear HL HRE HZ7 HYZ z0 z1 y0 x4 f4 HZ HPL2
        obtain ⟨live', hlv⟩ : ∃ v, v = c.live ++ [(⟨r.i, r.base, rs.length⟩ : Sg)] := ⟨_, rfl⟩
        rw [← hlv] at HPU HKN HPL1
        have HLV := hid hlv
        clear hlv
        have HON := hid (HPU.out.only w1 (Nat.le_refl _) HG.out.only)
        have HY2 := hid (HY1.out.grown HON.out (fun e => HNE.out (by injection e)))
        have z1 := HPU.out.z7.cell 1
        have z2 := HPU.out.z7.cell 2
        have y0 := HY2.out.cell 0
        have x5 : wc.cell? ⟨b, 5, none⟩ = some (.int .u64 (c.last : Int)) := HPU.out.log.blk.cell 5
        have f5 := HPU.out.log.blk.free 5
        obtain ⟨G, hG⟩ : ∃ G, G = m64 (r.base + r.m) := ⟨_, rfl⟩
        obtain ⟨L, hL⟩ : ∃ L, L = m64 (r.base + rs.length + 18446744073709551615) := ⟨_, rfl⟩
        have hwl : IntKind.u64.wrap (r.m : Int) = (r.m : Int) := by rw [IntKind.wrap_u64]; have := HRQ.out; have := HRS.out; omega
        have hwg : IntKind.u64.wrap ((r.base : Int) + (r.m : Int)) = (G : Int) := by rw [IntKind.wrap_u64, hG]; unfold m64; omega
        have hwk : IntKind.u64.wrap ((G : Int) - 1) = (L : Int) := by rw [IntKind.wrap_u64, hL, hG, ← HRQ.out]; unfold m64; omega
        have HLL := hid hL
        have HLL64 := hid (show L < 18446744073709551616 by rw [hL]; exact m64_lt _)
        have HG9 := hid (last_push HPU.out HON.out (HPL1.out L HLL64.out) rfl)
        clear hG hL HG7
        go_upto_region 10 with fail
        generalize wc.setCell ⟨b, 5, none⟩ (.int .u64 (L : Int)) = w9 at *
        obtain ⟨hp9, ho9⟩ := HG9.out
        have HP9 := hid hp9
        have HO9 := hid ho9
        have HR9 := hid hp9.recs
        have z2 := hp9.z7.cell 2
        have HA9 := hid (show GAt eRc w9 w9.heap.size r.A rs from GAt.kept (B := w1.heap.size) (P := fun k => w0.heap.size ≤ k ∧ k < w1.heap.size) HGR1.out.at_ (fun q off e hl => ⟨HGR1.out.in_ q off e hl, HGR1.out.at_.in_ q off e hl⟩) ho9.size (fun k hk => ho9.block k hk.2 (fun e => by injection e with e; have := hk.1; have := HS0.out; have := HBW.out; omega)))
        have HLN2 := hid (show recs.length + rs.length ≤ 1099511627776 by have := HG.out.few; have := HOL.out; have := HRS.out; omega)
        have HSZ9 := hid (show w1.heap.size ≤ w9.heap.size from ho9.size)
        have hrq := HRQ.out
        clear hp9 ho9 HG9 HON HPU z1 y0 x5 f5 hwl hwg hwk HY2
        go_wp2_with (at_builtin; go_must (refine wpList_append_own _ rfl _ _ eRc gi_rc (by decide) rfl w1.heap.size rfl HR9.out rfl (show rs.length = rs.length from rfl) HA9.out HLN2.out HSZ9.out ?_))
        intro A10 m10 c10 w10 hr10 hc10 hb10 hw10 ho10
        have HG10 := hid (recs_push HP9.out HO9.out hr10 hw10 HB1.out HN0.out)
        clear hr10 hc10 hb10 hw10 ho10 z2 HR9 HA9 HLN2 HSZ9 hrq
        have z0 := HG10.out.1.z7.cell 0
        have z1 := HG10.out.1.z7.cell 1
        have z2 := HG10.out.1.z7.cell 2
        have HB11 := hid (show Below w10.heap.size w10 (w10.alloc (.cells #[.int .i64 (r.i : Int), .int .u64 (r.base : Int), .slice r.A r.m r.c] 108)) from (Below.refl _ _).alloc (Nat.le_refl _) _)
        have HX11 := hid (Blk.new w10 108 #[.int .i64 (r.i : Int), .int .u64 (r.base : Int), .slice r.A r.m r.c])
        obtain ⟨gn, hgn⟩ : ∃ g, g = w10.heap.size := ⟨_, rfl⟩
        have HGN := hid hgn
        have HOE := hid (show (encO ((grt (nextP L (live'.map (fun (x : Sg) => x.en))) rows).map er)).1 = ((wl0 at_ n size fr).chStep s.view fr c).next by
          rw [grt_er (p := nextP L (live'.map (fun (x : Sg) => x.en))) (pe := nextE L (live'.map (fun (x : Sg) => x.en))) (fun _ => rfl), HI3.out.er, HCS.out, HLL.out, ← HLV.out]
          exact (next_pick (l := wl0 at_ n size fr) HKN.out).symm)
        have HOM := hid (fun r (hr : grt (nextP L (live'.map (fun (x : Sg) => x.en))) rows = some r) => grt_mem hr)
        have HGR := hid (grt2_is (w := w10.alloc (.cells #[.int .i64 (r.i : Int), .int .u64 (r.base : Int), .slice r.A r.m r.c] 108)) (gb := gb) (c := c3) (n := m3) (p := nextP L (live'.map (fun (x : Sg) => x.en))) (vs := rows) (B := w1.heap.size) (A := A3) (GAt.kept (B := w1.heap.size) (P := fun k => w0.heap.size ≤ k ∧ k < w1.heap.size) HG3.out.at_ (fun q off e hl => ⟨HG3.out.in_ q off e hl, HG3.out.at_.in_ q off e hl⟩) (Nat.le_refl _) (fun k hk => (HB11.out.block k (Nat.lt_of_lt_of_le hk.2 HG10.out.2.size)).trans (HG10.out.2.block k hk.2 (fun e => by injection e with e; have := hk.1; have := HS0.out; have := HBW.out; omega)))) HG3.out.1 (Nat.le_trans HG10.out.2.size HB11.out.size) (by have := HRL.out; omega)
          (fun W hW x hx => next_is ((HG10.out.1.log.below HB11.out).below hW) ((((HY1.out.grown HG10.out.2 (fun e => HNE.out (by injection e))).below HB11.out (by have := HY1.out.lt; have := HG10.out.2.size; omega))).below hW (Blk.lt ((HY1.out.grown HG10.out.2 (fun e => HNE.out (by injection e))).below HB11.out (by have := HY1.out.lt; have := HG10.out.2.size; omega)))) x))
        generalize grt (nextP L (live'.map (fun (x : Sg) => x.en))) rows = o2 at *
        obtain ⟨vi, vq, vA, vm, vc, hvl⟩ := vrC_lit o2
        have HV2 := hid hvl
        rw [show vrV o2 = .agg #[.int .i64 vi, .int .u64 vq, .slice vA vm vc] by rw [← hvl]; rfl] at HGR
        clear hvl
        rw [← hgn] at HX11
        go_upto_region 7 with fail
        rw [← hgn]
        generalize w10.alloc (.cells #[.int .i64 (r.i : Int), .int .u64 (r.base : Int), .slice r.A r.m r.c] 108) = w11 at *
        clear z0 z1 z2 hgn
        go_wp2_with fail
        go_fit HGR.out
        rintro e w12 ⟨rfl, hb12⟩
        have HX12 := hid (HX11.out.below hb12 HX11.out.lt)
        have HB12 := hid (HB11.out.trans (hb12.mono HB11.out.size))
        clear hb12 HGR HX11
        have z0 := HX12.out.cell 0
        have z1 := HX12.out.cell 1
        have z2 := HX12.out.cell 2
        have f0 := HX12.out.free 0
        have f1 := HX12.out.free 1
        have f2 := HX12.out.free 2
        go_wp2_with fail
        have HBF := hid (show Below w10.heap.size w10 (((w12.setCell ⟨gn, 0, none⟩ (.int .i64 vi)).setCell ⟨gn, 1, none⟩ (.int .u64 vq)).setCell ⟨gn, 2, none⟩ (.slice vA vm vc)) from ((HB12.out.setCell (p := ⟨gn, 0, none⟩) (by rw [HGN.out]; exact Nat.le_refl _) _).setCell (p := ⟨gn, 1, none⟩) (by rw [HGN.out]; exact Nat.le_refl _) _).setCell (p := ⟨gn, 2, none⟩) (by rw [HGN.out]; exact Nat.le_refl _) _)
        have HXF := hid (show Blk (((w12.setCell ⟨gn, 0, none⟩ (.int .i64 vi)).setCell ⟨gn, 1, none⟩ (.int .u64 vq)).setCell ⟨gn, 2, none⟩ (.slice vA vm vc)) gn 108 (vrC o2) from by
          have := ((HX12.out.set 0 (.int .i64 vi)).set 1 (.int .u64 vq)).set 2 (.slice vA vm vc)
          rw [HV2.out]
          simpa using this)
        have HGF := hid (Ga.step (ga_next HG.out HG10.out.1 HG10.out.2 HCK.out HFN.out (by rw [HCS.out, ← HLV.out, ← HLL.out]) HKN.out HOE.out HOM.out HRS.out (HLV.out ▸ by rw [List.length_append]; rfl)) HBF.out)
        clear z0 z1 z2 f0 f1 f2
        go_roundw
        case rel => exact ⟨_, o2, A8, c8, A10, m10, c10, gn, recs ++ rs, rfl, rfl, rfl, HGF, HXF, hid (by rw [HGN.out]; exact HG10.out.2.size)⟩
        case measure =>
          rw [HLZ.out, liveLenB_is (HGF.out.log.blk.cell 4)]
          have h1 : ((wl0 at_ n size fr).chStep s.view fr c).live.length ≤ n := HCK.out.len
          have h2 : ((wl0 at_ n size fr).chStep s.view fr c).live.length = c.live.length + 1 := by rw [HCS.out]; simp
          show n - ((wl0 at_ n size fr).chStep s.view fr c).live.length < n - c.live.length
          omega

end Go.Proofs.YtobmdmbjmjdfjaaGreatDoor
