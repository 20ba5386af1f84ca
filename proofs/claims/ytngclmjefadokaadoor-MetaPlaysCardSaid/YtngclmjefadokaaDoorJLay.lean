/-
  A disk while an operation is laid. write and free: an operation is laid. Acts: few, do. Over what is to be shown of the landed code. A row of survivors of the call's own, and append to it. do: an act on a disk. Over what is to be shown of the landed code. Write and Free.
-/
import Derived.Test.YtngclmjefadokaaDoorDOps
import Derived.StillTailTactics
import Derived.Maps.OwnRows
import Derived.Test.YtngclmjefadokaaDoorJDisk
import Derived.Test.YtngclmjefadokaaDoorJBytes
import Derived.Maps.AppendAt
import Derived.Lib.SmallJoins
import Derived.Deep.Cut
namespace Go.Proofs.YtngclmjefadokaaDoor
open Go Go.RowKit

/-- as the disk, but the number of sectors in use is u, and what has changed reads as ch; w is the world ahead of the call -/
structure Mid (w wr : World) (d g c : Nat) (A : Option Addr) (n cap : Nat) (ch : Chg) (nc : Nat) (fs : List Value) (M R : Nat → Prop) (s : Dk) (u : Int) : Prop where
  blk : Blk wr d 64 #[.int .i64 (s.size : Int), .int .i64 s.limit, .int .i64 u, .map (some g), .map (some c), .slice A n cap]
  gt : Tab wr g (gT s.ground) (cnt s.size s.ground)
  ct : Tab wr c (cT ch) nc
  row : PRow wr M A n cap fs
  ops : Ops wr R s.pend fs
  md : M d
  mg : M g
  mc : M c
  gc : g ≠ c
  lt : ∀ k, M k ∨ R k → k < w.heap.size
  mr : ∀ k, M k → ¬ R k
  wi : Within M w wr
section
variable {w wr w' : World} {d g c n cap nc : Nat} {A : Option Addr} {ch : Chg} {fs : List Value} {M R : Nat → Prop} {s : Dk} {u : Int}
theorem DIn.mid (h : DIn w d g c A n cap ch nc fs M R s) : Mid w w d g c A n cap ch nc fs M R s (s.used : Int) := ⟨h.blk, h.gt, h.ct, h.row, h.ops, h.md, h.mg, h.mc, h.gc, h.lt, h.mr, Within.refl _ _⟩
theorem Mid.ltr (h : Mid w wr d g c A n cap ch nc fs M R s u) {k : Nat} (hk : M k ∨ R k) : k < wr.heap.size := Nat.lt_of_lt_of_le (h.lt k hk) h.wi.size
theorem Mid.below (h : Mid w wr d g c A n cap ch nc fs M R s u) (hb : Below wr.heap.size wr w') : Mid w w' d g c A n cap ch nc fs M R s u :=
  ⟨h.blk.below hb h.blk.lt, h.gt.below hb, h.ct.below hb, h.row.below hb, h.ops.keep (fun k hk => hb.block k (h.ltr (.inr hk))), h.md, h.mg, h.mc, h.gc, h.lt, h.mr, h.wi.trans (Within.of_below hb)⟩
theorem Mid.use (h : Mid w wr d g c A n cap ch nc fs M R s u) (v : Int) : Mid w (wr.setCell ⟨d, 2, none⟩ (.int .i64 v)) d g c A n cap ch nc fs M R s v := by
  have ho : Only d wr (wr.setCell ⟨d, 2, none⟩ (.int .i64 v)) := (Only.refl _ _).set _
  exact ⟨by simpa using h.blk.set 2 (.int .i64 v), h.gt.only ho (h.gt.ne_blk h.blk), h.ct.only ho (h.ct.ne_blk h.blk), h.row.only ho (h.row.ne h.blk (by decide)), h.ops.keep (fun k hk => ho.block k (h.ltr (.inr hk)) (fun e => by injection e with e; subst e; exact h.mr _ h.md hk)),
    h.md, h.mg, h.mc, h.gc, h.lt, h.mr, h.wi.only ho (.inl h.md)⟩
theorem Mid.chg {ch' : Chg} {nc' : Nat} (h : Mid w wr d g c A n cap ch nc fs M R s u) (ht : Tab w' c (cT ch') nc') (ho : Only c wr w') : Mid w w' d g c A n cap ch' nc' fs M R s u :=
  ⟨h.blk.grown ho (fun e => by injection e with e; exact (h.ct.ne_blk h.blk) e.symm), h.gt.only ho h.gc, ht, h.row.only ho (h.row.ne_tab h.ct), h.ops.keep (fun k hk => ho.block k (h.ltr (.inr hk)) (fun e => by injection e with e; subst e; exact h.mr _ h.mc hk)),
    h.md, h.mg, h.mc, h.gc, h.lt, h.mr, h.wi.only ho (.inl h.mc)⟩
/-- the operation is laid -/
theorem Mid.laid {A' : Option Addr} {c' : Nat} {w6 : World} {f : Value} {i : Int} {v : Option (List UInt8)} {Pb : Nat → Prop} (h : Mid w wr d g c A n cap ch nc fs M R s u)
    (hrow : PRow w6 (fun k => (Value.slice A' (n + 1) c').ownBlock = some k) A' (n + 1) c' (fs ++ [f])) (hg : wr.grownBy w6 (Value.slice A n cap).ownBlock)
    (hloc : (Value.slice A' (n + 1) c').ownBlock = (Value.slice A n cap).ownBlock ∨ (Value.slice A' (n + 1) c').ownBlock = some wr.heap.size)
    (hPb : ∀ k, Pb k → w.heap.size ≤ k ∧ k < wr.heap.size) (hop : OpV wr (fun k => R k ∨ Pb k) ⟨i, v⟩ f) (hu : u = ((cnt s.size (upd s.view i v) : Nat) : Int))
    (hpl : DPl { s with view := upd s.view i v, pend := s.pend ++ [⟨i, v⟩] } ch) :
    ∃ M' R', DA6 (w6.setCell ⟨d, 5, none⟩ (.slice A' (n + 1) c')) d M' R' { s with view := upd s.view i v, pend := s.pend ++ [⟨i, v⟩] } ∧ Turns M R w M' R' (w6.setCell ⟨d, 5, none⟩ (.slice A' (n + 1) c')) := by
  have hws := h.wi.size
  have b6 : Blk w6 d 64 #[.int .i64 (s.size : Int), .int .i64 s.limit, .int .i64 u, .map (some g), .map (some c), .slice A n cap] := h.blk.grown hg (fun e => (h.row.ne h.blk (by decide)) d e.symm rfl)
  have g6 : Tab w6 g (gT s.ground) (cnt s.size s.ground) := h.gt.of_block (hg.block g h.gt.lt (fun e => (h.row.ne_tab h.gt) g e.symm rfl))
  have c6 : Tab w6 c (cT ch) nc := h.ct.of_block (hg.block c h.ct.lt (fun e => (h.row.ne_tab h.ct) c e.symm rfl))
  have hrR : ∀ k, (R k ∨ Pb k) → w6.heap[k]? = wr.heap[k]? := fun k hk => hg.block k (hk.elim (fun hk => h.ltr (.inr hk)) (fun hk => (hPb k hk).2)) (fun e => by
    have hm := h.row.mine k e.symm
    rcases hk with hk | hk
    · exact h.mr k hm hk
    · have := h.lt k (.inl hm); have := (hPb k hk).1; omega)
  have o6 : Ops w6 (fun k => R k ∨ Pb k) (s.pend ++ [⟨i, v⟩]) (fs ++ [f]) := h.ops.snoc (fun k hk => hrR k (.inl hk)) (fun k hk => .inl hk) (hop.keep hrR)
  have ho : Only d w6 (w6.setCell ⟨d, 5, none⟩ (.slice A' (n + 1) c')) := (Only.refl _ _).set _
  have hnew : ∀ k, (Value.slice A' (n + 1) c').ownBlock = some k → M k ∨ wr.heap.size ≤ k := fun k hk => hloc.elim (fun e => .inl (h.row.mine k (e ▸ hk))) (fun e => by rw [e] at hk; injection hk with hk; exact .inr (by omega))
  have hdR : ¬ (R d ∨ Pb d) := fun e => e.elim (h.mr d h.md) (fun e => by have := h.lt d (.inl h.md); have := (hPb d e).1; omega)
  have hwi : Within M w w6 := h.wi.trans ⟨hg.os, hg.tape, hg.output, hg.size, fun k hk hm => hg.block k hk (fun e => hm (h.row.mine k e.symm))⟩
  refine ⟨fun k => M k ∨ (Value.slice A' (n + 1) c').ownBlock = some k, fun k => R k ∨ Pb k, ⟨g, c, A', n + 1, c', ch, nc, fs ++ [f], ?_⟩, (hwi.only ho (.inl h.md)).turns (fun k hk => hk.elim .inl (fun hk => (hnew k hk).imp id (fun hk => by omega))) (fun k hk => hk.imp id (fun hk => (hPb k hk).1))⟩
  refine ⟨?_, g6.only ho (g6.ne_blk b6), c6.only ho (c6.ne_blk b6), (hrow.only ho (hrow.ne b6 (by decide))).more (fun k hk => .inr hk), o6.keep (fun k hk => ho.block k (by
      have h2 := hg.size
      rcases hk with hk | hk
      · have := h.ltr (.inr hk); omega
      · have := (hPb k hk).2; omega) (fun e => by injection e with e; subst e; exact hdR hk)), .inl h.md, .inl h.mg, .inl h.mc, h.gc, ?_, ?_, hpl⟩
  · have := b6.set 5 (.slice A' (n + 1) c')
    rw [hu] at this
    exact (by simpa using this : Blk _ d _ #[.int .i64 (s.size : Int), .int .i64 s.limit, .int .i64 ((cnt s.size (upd s.view i v) : Nat) : Int), .map (some g), .map (some c), .slice A' (n + 1) c'])
  · intro k hk
    have h2 := hg.size
    have e2 : (w6.setCell ⟨d, 5, none⟩ (.slice A' (n + 1) c')).heap.size = w6.heap.size := by simp
    rw [e2]
    rcases hk with (hk | hk) | (hk | hk)
    · have := h.ltr (.inl hk); omega
    · exact hrow.lt k hk
    · have := h.ltr (.inr hk); omega
    · have := (hPb k hk).2; omega
  · intro k hk hr
    rcases hk with hk | hk
    · rcases hr with hr | hr
      · exact h.mr k hk hr
      · have := h.lt k (.inl hk); have := (hPb k hr).1; omega
    · rcases hnew k hk with hm | hm
      · rcases hr with hr | hr
        · exact h.mr k hm hr
        · have := h.lt k (.inl hm); have := (hPb k hr).1; omega
      · rcases hr with hr | hr
        · have := h.ltr (.inr hr); omega
        · have := (hPb k hr).2; omega
end

theorem info_op : (Tryd.prog.info? 90).map (fun i => (i.zero, i.size, i.bytes)) = some (some .nilFunc, 1, 8) := by kernel_rfl

set_option maxRecDepth 100000 in
/-- append(pending, f) -/
theorem wpList_lay (w : World) {ops : Array Oper} {rest : List Oper} {o : Oper} {a : Act} {Q : Exit → Act → World → Prop} (hgd : o.guard = none) (s x : Operand)
    (ho : o.op = .call { callee := .builtin .append, args := #[s, x], argTypes := #[62, 62] })
    {M : Nat → Prop} {A : Option Addr} {n c q : Nat} {fs : List Value} {f : Value} (hs : a.eval s = .slice A n c) (hrow : PRow w M A n c fs) (hx : a.eval x = .slice (some ⟨q, 0, none⟩) 1 1) (hq : w.cell? ⟨q, 0, none⟩ = some f) (hf : f.oneCell' = true) (hlen : n + 1 ≤ 1099511627776)
    (h : ∀ A' c' w', PRow w' (fun k => (Value.slice A' (n + 1) c').ownBlock = some k) A' (n + 1) c' (fs ++ [f]) → w.grownBy w' (Value.slice A n c).ownBlock →
      ((Value.slice A' (n + 1) c').ownBlock = (Value.slice A n c).ownBlock ∨ (Value.slice A' (n + 1) c').ownBlock = some w.heap.size) → wpList Tryd.prog ops Q rest (a.put o.dst (.slice A' (n + 1) c')) w') : wpList Tryd.prog ops Q (o :: rest) a w := by
  refine wpList_plain hgd fun K hK => ?_
  obtain ⟨i0, hi, hz0, hz1, hz2⟩ := info_parts info_op
  have ea : (⟨q, 0, none⟩ : Addr).add 0 = ⟨q, 0, none⟩ := by simp [Addr.add]
  obtain ⟨v', w', hr, h2, h3, _, h5⟩ := run_append_own_at (P := Tryd.prog) w 0 62 o.type 90 i0 _ 1 8 Tryd.underlying62 hi hz0 hz1 hz2 rfl (by decide) (.slice A n c) n fs hrow.own ⟨q, 0, none⟩ 1 1 [f] rfl
    (fun j u hu => by
      have hj : j = 0 := by have := (List.getElem?_eq_some_iff.1 hu).1; simp at this; omega
      subst hj
      rw [ea]
      simpa [hq] using hu) (by simpa using hf) (by unfold maxLen; omega) (by omega) (Nat.zero_le _)
  unfold Oper.wp execOp
  simp only [ho, resolve, invoke, builtin, Sem.run_bind, Sem.run_pure, Result.andThen_ok, List.map_toArray, List.map_cons, List.map_nil, hs, hx, hr]
  obtain ⟨A', c', rfl⟩ := own_shape h2
  exact hK _ _ (h A' c' w' ⟨by have := hrow.len; simp; omega, h2, fun g hg => hg⟩ h3 h5)

end Go.Proofs.YtngclmjefadokaaDoor

namespace Go.Proofs.YtngclmjefadokaaDoor
open Go Go.RowKit

theorem used_le (s : Dk) : s.used ≤ s.size := cnt_le _ _

set_option maxHeartbeats 8000000 in
set_option maxRecDepth 100000 in
theorem lay_is {w : World} {d g c n cap nc : Nat} {A : Option Addr} {ch : Chg} {fs : List Value} {M R : Nat → Prop} {s : Dk} (h : DIn w d g c A n cap ch nc fs M R s) {i : Int} {b : List UInt8} (h0 : 0 ≤ i) (h1 : i < (s.size : Int)) (hb : b.length ≤ 512) (hpl : s.pend.length ≤ 1000000) :
    Calls Tryd.prog 70 #[.pointer (some ⟨d, 0, none⟩), .int .i64 i, .string (bst b)] w fun e w' => e = .returned (.tuple #[]) ∧
      ∃ M' R', DA6 w' d M' R' { s with view := upd s.view i (some b), pend := s.pend ++ [⟨i, some b⟩] } ∧ Turns M R w M' R' w' := by
  have HP := hid (h.pl.lay h0 h1 (some b) (fun x hx => by injection hx with hx; rw [← hx]; exact hb))
  have HCT := hid (show updT (cT ch) i (some (.agg #[.bool true, .string (bst b)])) = cT (updC ch i (some b)) from cT_upd ch i (some b))
  have hcu := cnt_upd (n := s.size) (m := s.view) (some b) h0 h1
  have hul := used_le s
  have hsz := h.pl.sz2
  have hnl : n = s.pend.length := h.row.len.trans h.ops.len
  have HLN := hid (show n + 1 ≤ 1099511627776 by omega)
  have s1 : (w.alloc (.cells #[.int .i64 i] 3)).heap.size = w.heap.size + 1 := by simp
  have HBI := hid (show Blk ((w.alloc (.cells #[.int .i64 i] 3)).alloc (.cells #[.string (bst b)] 9)) w.heap.size 3 #[.int .i64 i] from (Blk.new w _ _).alloc _)
  have hbb := Blk.new (w.alloc (.cells #[.int .i64 i] 3)) 9 #[.string (bst b)]
  rw [s1] at hbb
  have HBB := hid hbb
  have HM := hid (h.mid.below (((Below.refl _ _).alloc (Nat.le_refl _) (.cells #[.int .i64 i] 3)).alloc (by simp) (.cells #[.string (bst b)] 9)))
  have HV := hid (view_is (h.below (((Below.refl _ _).alloc (Nat.le_refl _) (.cells #[.int .i64 i] 3)).alloc (by simp) (.cells #[.string (bst b)] 9))) i)
  have hfu := field_used
  have i0 := HBI.out.cell 0
  have HSZ := hid (show w.heap.size + 1 < ((w.alloc (.cells #[.int .i64 i] 3)).alloc (.cells #[.string (bst b)] 9)).heap.size by simp)
  clear h hbb s1 hnl
  cases hv : s.view i with
  | none =>
    rw [hv] at HV hcu
    rw [show stV none = .agg #[.bool false, .string ⟨#[]⟩] from rfl] at HV
    have HU := hid (show (s.used : Int) + 1 = ((cnt s.size (upd s.view i (some b)) : Nat) : Int) by unfold Dk.used; simp at hcu; omega)
    clear hcu hv
    go_enter Tryd.func70, Tryd.ntmps70
    go_wp2_with fail
    generalize (w.alloc (.cells #[.int .i64 i] 3)).alloc (.cells #[.string (bst b)] 9) = w1 at *
    go_fit HV.out
    rintro e w2 ⟨rfl, hb2⟩
    have HM2 := hid (HM.out.below hb2)
    have HBI2 := hid (HBI.out.below hb2 HBI.out.lt)
    have HBB2 := hid (HBB.out.below hb2 HBB.out.lt)
    have HSZ2 := hid (Nat.lt_of_lt_of_le HSZ.out hb2.size)
    obtain ⟨d0, d1, d2, d3, d4, d5, _, f2, _, _⟩ := six HM2.out.blk
    clear i0 hb2
    go_wp2_with fail
    have HMr := hid (HM2.out.use ((s.used : Int) + 1))
    have HBIr := hid (HBI2.out.far (p := ⟨d, 2, none⟩) (by have := HM2.out.lt d (.inl HM2.out.md); show w.heap.size ≠ d; omega) (.int .i64 ((s.used : Int) + 1)))
    have HBBr := hid (HBB2.out.far (p := ⟨d, 2, none⟩) (by have := HM2.out.lt d (.inl HM2.out.md); show w.heap.size + 1 ≠ d; omega) (.int .i64 ((s.used : Int) + 1)))
    have HSZr := hid (show w.heap.size + 1 ≤ (w2.setCell ⟨d, 2, none⟩ (.int .i64 ((s.used : Int) + 1))).heap.size by have := HSZ2.out; simp; omega)
    generalize w2.setCell ⟨d, 2, none⟩ (.int .i64 ((s.used : Int) + 1)) = wr at *
    have HMd := hid (HMr.out.below ((Below.refl _ _).drew))
    have HBId := hid (show Blk wr.drew w.heap.size 3 #[.int .i64 i] from HBIr.out)
    have HBBd := hid (show Blk wr.drew (w.heap.size + 1) 9 #[.string (bst b)] from HBBr.out)
    have HSZd := hid (show w.heap.size + 1 ≤ wr.drew.heap.size from HSZr.out)
    refine wp_region_still_tail 7 (by kernel_rfl) (by kernel_rfl) ?_
    change wpStill _ _ wr.drew (fun a' => wpList _ _ _ _ a' wr.drew) _ _
    generalize wr.drew = w3 at HMd HBId HBBd HSZd ⊢
    simp only [List.take_succ_cons, List.take_zero, List.drop_succ_cons, List.drop_zero]
    obtain ⟨d0, d1, d2, d3, d4, d5, _, _, _, _⟩ := six HMd.out.blk
    have i0 := HBId.out.cell 0
    have j0 := HBBd.out.cell 0
    repeat still_step
    try refine wpStill_nil ?_
    have HNE := hid (show w.heap.size ≠ c ∧ w.heap.size + 1 ≠ c from by have := HMd.out.lt c (.inl HMd.out.mc); omega)
    go_wp2_with (first
      | (at_mapUpdate; refine wpList_put _ rfl _ _ _ 61 rfl 3 96 Tryd.underlying61 Tryd.underlying3 rfl HMd.out.ct i rfl (.agg #[.bool true, .string (bst b)]) rfl ?_; intro w4 ht4 ho4 hs4; rw [HCT.out] at ht4; have HM4 := hid (HMd.out.chg ht4 ho4); have HBI4 := hid (HBId.out.grown ho4 (fun e => HNE.out.1 (Option.some.inj e))); have HBB4 := hid (HBBd.out.grown ho4 (fun e => HNE.out.2 (Option.some.inj e))); have HSZ4 := hid (Nat.le_trans HSZd.out (Nat.le_of_eq hs4.symm)); have HM5 := hid (HM4.out.below ((Below.refl _ _).alloc (Nat.le_refl _) (.cells #[.func (.func 85) #[] #[.pointer (some ⟨w.heap.size + 1, 0, none⟩), .pointer (some ⟨w.heap.size, 0, none⟩)]] 90))); have HQ5 := hid (Blk.new w4 90 #[.func (.func 85) #[] #[.pointer (some ⟨w.heap.size + 1, 0, none⟩), .pointer (some ⟨w.heap.size, 0, none⟩)]]); clear ht4 ho4 hs4; obtain ⟨q0, q1, q2, q3, q4, q5, _, _, _, _⟩ := six HM4.out.blk)
      | (at_builtin; refine wpList_lay _ rfl _ _ rfl rfl HM5.out.row rfl (HQ5.out.cell 0) rfl HLN.out ?_; intro A6 c6 w6 hr6 hg6 hl6; have HB6 := hid (HM5.out.blk.grown hg6 (fun e => (HM5.out.row.ne HM5.out.blk (by decide)) d e.symm rfl)); have HX6 := hid (And.intro hr6 (And.intro hg6 hl6)); clear hr6 hg6 hl6; obtain ⟨r0, r1, r2, r3, r4, r5, _, _, _, g5⟩ := six HB6.out))
    go_end0
    refine ⟨rfl, HM5.out.laid (Pb := (fun k => k = w.heap.size ∨ k = w.heap.size + 1)) HX6.out.1 HX6.out.2.1 HX6.out.2.2 (fun k hk => ?_) ?_ HU.out HP.out⟩
    · have e1 : (w4.alloc (.cells #[.func (.func 85) #[] #[.pointer (some ⟨w.heap.size + 1, 0, none⟩), .pointer (some ⟨w.heap.size, 0, none⟩)]] 90)).heap.size = w4.heap.size + 1 := by simp
      have := HSZ4.out
      rw [e1]
      omega
    · exact ⟨w.heap.size, .inr (.inl rfl), HBI4.out.alloc _, ⟨w.heap.size + 1, .inr (.inr rfl), HBB4.out.alloc _, rfl⟩⟩
  | some old =>
    rw [hv] at HV hcu
    rw [show stV (some old) = .agg #[.bool true, .string (bst old)] from rfl] at HV
    have HU := hid (show (s.used : Int) = ((cnt s.size (upd s.view i (some b)) : Nat) : Int) by unfold Dk.used; simp at hcu; omega)
    clear hcu hv
    go_enter Tryd.func70, Tryd.ntmps70
    go_wp2_with fail
    generalize (w.alloc (.cells #[.int .i64 i] 3)).alloc (.cells #[.string (bst b)] 9) = w1 at *
    go_fit HV.out
    rintro e w2 ⟨rfl, hb2⟩
    have HMr := hid (HM.out.below hb2)
    have HBIr := hid (HBI.out.below hb2 HBI.out.lt)
    have HBBr := hid (HBB.out.below hb2 HBB.out.lt)
    have HSZr := hid (show w.heap.size + 1 ≤ w2.heap.size from Nat.le_of_lt (Nat.lt_of_lt_of_le HSZ.out hb2.size))
    clear i0 hb2
    go_wp2_with fail
    have HMd := hid (HMr.out.below ((Below.refl _ _).drew))
    have HBId := hid (show Blk w2.drew w.heap.size 3 #[.int .i64 i] from HBIr.out)
    have HBBd := hid (show Blk w2.drew (w.heap.size + 1) 9 #[.string (bst b)] from HBBr.out)
    have HSZd := hid (show w.heap.size + 1 ≤ w2.drew.heap.size from HSZr.out)
    refine wp_region_still_tail 7 (by kernel_rfl) (by kernel_rfl) ?_
    change wpStill _ _ w2.drew (fun a' => wpList _ _ _ _ a' w2.drew) _ _
    generalize w2.drew = w3 at HMd HBId HBBd HSZd ⊢
    simp only [List.take_succ_cons, List.take_zero, List.drop_succ_cons, List.drop_zero]
    obtain ⟨d0, d1, d2, d3, d4, d5, _, _, _, _⟩ := six HMd.out.blk
    have i0 := HBId.out.cell 0
    have j0 := HBBd.out.cell 0
    repeat still_step
    try refine wpStill_nil ?_
    have HNE := hid (show w.heap.size ≠ c ∧ w.heap.size + 1 ≠ c from by have := HMd.out.lt c (.inl HMd.out.mc); omega)
    go_wp2_with (first
      | (at_mapUpdate; refine wpList_put _ rfl _ _ _ 61 rfl 3 96 Tryd.underlying61 Tryd.underlying3 rfl HMd.out.ct i rfl (.agg #[.bool true, .string (bst b)]) rfl ?_; intro w4 ht4 ho4 hs4; rw [HCT.out] at ht4; have HM4 := hid (HMd.out.chg ht4 ho4); have HBI4 := hid (HBId.out.grown ho4 (fun e => HNE.out.1 (Option.some.inj e))); have HBB4 := hid (HBBd.out.grown ho4 (fun e => HNE.out.2 (Option.some.inj e))); have HSZ4 := hid (Nat.le_trans HSZd.out (Nat.le_of_eq hs4.symm)); have HM5 := hid (HM4.out.below ((Below.refl _ _).alloc (Nat.le_refl _) (.cells #[.func (.func 85) #[] #[.pointer (some ⟨w.heap.size + 1, 0, none⟩), .pointer (some ⟨w.heap.size, 0, none⟩)]] 90))); have HQ5 := hid (Blk.new w4 90 #[.func (.func 85) #[] #[.pointer (some ⟨w.heap.size + 1, 0, none⟩), .pointer (some ⟨w.heap.size, 0, none⟩)]]); clear ht4 ho4 hs4; obtain ⟨q0, q1, q2, q3, q4, q5, _, _, _, _⟩ := six HM4.out.blk)
      | (at_builtin; refine wpList_lay _ rfl _ _ rfl rfl HM5.out.row rfl (HQ5.out.cell 0) rfl HLN.out ?_; intro A6 c6 w6 hr6 hg6 hl6; have HB6 := hid (HM5.out.blk.grown hg6 (fun e => (HM5.out.row.ne HM5.out.blk (by decide)) d e.symm rfl)); have HX6 := hid (And.intro hr6 (And.intro hg6 hl6)); clear hr6 hg6 hl6; obtain ⟨r0, r1, r2, r3, r4, r5, _, _, _, g5⟩ := six HB6.out))
    go_end0
    refine ⟨rfl, HM5.out.laid (Pb := (fun k => k = w.heap.size ∨ k = w.heap.size + 1)) HX6.out.1 HX6.out.2.1 HX6.out.2.2 (fun k hk => ?_) ?_ HU.out HP.out⟩
    · have e1 : (w4.alloc (.cells #[.func (.func 85) #[] #[.pointer (some ⟨w.heap.size + 1, 0, none⟩), .pointer (some ⟨w.heap.size, 0, none⟩)]] 90)).heap.size = w4.heap.size + 1 := by simp
      have := HSZ4.out
      rw [e1]
      omega
    · exact ⟨w.heap.size, .inr (.inl rfl), HBI4.out.alloc _, ⟨w.heap.size + 1, .inr (.inr rfl), HBB4.out.alloc _, rfl⟩⟩

set_option maxHeartbeats 8000000 in
set_option maxRecDepth 100000 in
theorem unlay_is {w : World} {d g c n cap nc : Nat} {A : Option Addr} {ch : Chg} {fs : List Value} {M R : Nat → Prop} {s : Dk} (h : DIn w d g c A n cap ch nc fs M R s) {i : Int} {old : List UInt8} (hv : s.view i = some old) (hpl : s.pend.length ≤ 1000000) :
    Calls Tryd.prog 63 #[.pointer (some ⟨d, 0, none⟩), .int .i64 i] w fun e w' => e = .returned (.tuple #[]) ∧
      ∃ M' R', DA6 w' d M' R' { s with view := upd s.view i none, pend := s.pend ++ [⟨i, none⟩] } ∧ Turns M R w M' R' w' := by
  have hin := h.pl.inV i (by rw [hv]; simp)
  have HP := hid (h.pl.lay hin.1 hin.2 none (fun x hx => by cases hx))
  have HCT := hid (show updT (cT ch) i (some (.agg #[.bool false, .string ⟨#[]⟩])) = cT (updC ch i none) from cT_upd ch i none)
  have hcu := cnt_upd (n := s.size) (m := s.view) none hin.1 hin.2
  have hul := used_le s
  have hsz := h.pl.sz2
  have hnl : n = s.pend.length := h.row.len.trans h.ops.len
  have HLN := hid (show n + 1 ≤ 1099511627776 by omega)
  have hpos : 1 ≤ s.used := by unfold Dk.used; rw [hv] at hcu; simp at hcu; omega
  have HU := hid (show (s.used : Int) - 1 = ((cnt s.size (upd s.view i none) : Nat) : Int) by unfold Dk.used; rw [hv] at hcu; simp at hcu; omega)
  have DH := hid h
  obtain ⟨d0, d1, d2, d3, d4, d5, _, f2, _, _⟩ := six h.blk
  have hd := h.lt d (.inl h.md)
  clear h hcu hin hnl hv
  go_enter Tryd.func63, Tryd.ntmps63
  go_wp2_with fail
  have hne : w.heap.size ≠ d := by omega
  have hwa : (w.setCell ⟨d, 2, none⟩ (.int .i64 ((s.used : Int) - 1))).heap.size = w.heap.size := by simp
  have hmr := (DH.out.mid.use ((s.used : Int) - 1)).below ((Below.refl _ _).alloc (Nat.le_refl _) (.cells #[.int .i64 i] 3))
  have hbr := Blk.new (w.setCell ⟨d, 2, none⟩ (.int .i64 ((s.used : Int) - 1))) 3 #[.int .i64 i]
  rw [hwa] at hbr
  have HMr := hid hmr
  have HBIr := hid hbr
  have HSZr := hid (show w.heap.size + 1 ≤ ((w.setCell ⟨d, 2, none⟩ (.int .i64 ((s.used : Int) - 1))).alloc (.cells #[.int .i64 i] 3)).heap.size by simp)
  clear hne hwa hmr hbr
  generalize (w.setCell ⟨d, 2, none⟩ (.int .i64 ((s.used : Int) - 1))).alloc (.cells #[.int .i64 i] 3) = wr at *
  have HMd := hid (HMr.out.below ((Below.refl _ _).drew))
  have HBId := hid (show Blk wr.drew w.heap.size 3 #[.int .i64 i] from HBIr.out)
  have HSZd := hid (show w.heap.size + 1 ≤ wr.drew.heap.size from HSZr.out)
  refine wp_region_still_tail 6 (by kernel_rfl) (by kernel_rfl) ?_
  change wpStill _ _ wr.drew (fun a' => wpList _ _ _ _ a' wr.drew) _ _
  generalize wr.drew = w3 at HMd HBId  HSZd ⊢
  simp only [List.take_succ_cons, List.take_zero, List.drop_succ_cons, List.drop_zero]
  obtain ⟨d0, d1, d2, d3, d4, d5, _, _, _, _⟩ := six HMd.out.blk
  have i0 := HBId.out.cell 0
  repeat still_step
  try refine wpStill_nil ?_
  have HNE := hid (show w.heap.size ≠ c ∧ w.heap.size + 1 ≠ c from by have := HMd.out.lt c (.inl HMd.out.mc); omega)
  go_wp2_with (first
    | (at_mapUpdate; refine wpList_put _ rfl _ _ _ 61 rfl 3 96 Tryd.underlying61 Tryd.underlying3 rfl HMd.out.ct i rfl (.agg #[.bool false, .string ⟨#[]⟩]) rfl ?_; intro w4 ht4 ho4 hs4; rw [HCT.out] at ht4; have HM4 := hid (HMd.out.chg ht4 ho4); have HBI4 := hid (HBId.out.grown ho4 (fun e => HNE.out.1 (Option.some.inj e))); have HSZ4 := hid (Nat.le_trans HSZd.out (Nat.le_of_eq hs4.symm)); have HM5 := hid (HM4.out.below ((Below.refl _ _).alloc (Nat.le_refl _) (.cells #[.func (.func 79) #[] #[.pointer (some ⟨w.heap.size, 0, none⟩)]] 90))); have HQ5 := hid (Blk.new w4 90 #[.func (.func 79) #[] #[.pointer (some ⟨w.heap.size, 0, none⟩)]]); clear ht4 ho4 hs4; obtain ⟨q0, q1, q2, q3, q4, q5, _, _, _, _⟩ := six HM4.out.blk)
    | (at_builtin; refine wpList_lay _ rfl _ _ rfl rfl HM5.out.row rfl (HQ5.out.cell 0) rfl HLN.out ?_; intro A6 c6 w6 hr6 hg6 hl6; have HB6 := hid (HM5.out.blk.grown hg6 (fun e => (HM5.out.row.ne HM5.out.blk (by decide)) d e.symm rfl)); have HX6 := hid (And.intro hr6 (And.intro hg6 hl6)); clear hr6 hg6 hl6; obtain ⟨r0, r1, r2, r3, r4, r5, _, _, _, g5⟩ := six HB6.out))
  go_end0
  refine ⟨rfl, HM5.out.laid (Pb := (fun k => k = w.heap.size)) HX6.out.1 HX6.out.2.1 HX6.out.2.2 (fun k hk => ?_) ?_ HU.out HP.out⟩
  · have e1 : (w4.alloc (.cells #[.func (.func 79) #[] #[.pointer (some ⟨w.heap.size, 0, none⟩)]] 90)).heap.size = w4.heap.size + 1 := by simp
    have := HSZ4.out
    rw [e1]
    omega
  · exact ⟨w.heap.size, .inr rfl, HBI4.out.alloc _, rfl⟩

end Go.Proofs.YtngclmjefadokaaDoor

namespace Go.Proofs.YtngclmjefadokaaDoor
open Go Go.RowKit

/-- an act: its kind, its place, its bytes, its survivors -/
structure Act6 where
  k : Int
  i : Int
  b : List UInt8
  l : List (Int × Int)
def Act6.val (x : Act6) (A : Option Addr) (n c : Nat) : Value := .agg #[.int .i64 x.k, .int .i64 x.i, .string (bst x.b), .slice A n c]
def Act6.few (x : Act6) : Act6 := { x with b := x.b.take 600, l := x.l.take 60 }
theorem SvAt.more {w : World} {B B' : Nat} {A : Option Addr} {l : List (Int × Int)} (h : SvAt w B A l) (hB : B ≤ B') : SvAt w B' A l := fun hl => by
  obtain ⟨b, off, e, hb, hc⟩ := h hl
  exact ⟨b, off, e, by omega, hc⟩
theorem SvAt.below {w w' : World} {B : Nat} {A : Option Addr} {l : List (Int × Int)} (h : SvAt w B A l) (hb : Below B w w') : SvAt w' B A l := fun hl => by
  obtain ⟨b, off, e, hlt, hc⟩ := h hl
  refine ⟨b, off, e, hlt, fun i s hi => ?_⟩
  have hk : ∀ j, w'.cell? ⟨b, j, none⟩ = w.cell? ⟨b, j, none⟩ := fun j => World.cell?_of_block (a := ⟨b, j, none⟩) (hb.block b hlt)
  rw [hk, hk]
  exact hc i s hi
theorem SvAt.take {w : World} {B : Nat} {A : Option Addr} {l : List (Int × Int)} (h : SvAt w B A l) (n : Nat) : SvAt w B A (l.take n) := fun hl => by
  obtain ⟨b, off, e, hb, hc⟩ := h (by rw [List.length_take] at hl; omega)
  refine ⟨b, off, e, hb, fun i s hi => hc i s ?_⟩
  rw [List.getElem?_take] at hi
  split at hi
  · exact hi
  · cases hi

/-- what stands in memory in few: the act's box, a zero act -/
theorem few_blocks (w : World) (t : TypeId) (a0 a1 a2 a3 z0 z1 z2 z3 : Value) :
    Blk ((w.alloc (.cells #[a0, a1, a2, a3] t)).alloc (.cells #[z0, z1, z2, z3] t)) w.heap.size t #[a0, a1, a2, a3] ∧ Blk ((w.alloc (.cells #[a0, a1, a2, a3] t)).alloc (.cells #[z0, z1, z2, z3] t)) (w.heap.size + 1) t #[z0, z1, z2, z3] ∧
      Below w.heap.size w ((w.alloc (.cells #[a0, a1, a2, a3] t)).alloc (.cells #[z0, z1, z2, z3] t)) := by
  have s1 : (w.alloc (.cells #[a0, a1, a2, a3] t)).heap.size = w.heap.size + 1 := by simp
  have n1 := Blk.new (w.alloc (.cells #[a0, a1, a2, a3] t)) t #[z0, z1, z2, z3]
  rw [s1] at n1
  exact ⟨(Blk.new w _ _).alloc _, n1, ((Below.refl _ _).alloc (Nat.le_refl _) _).alloc (by simp) _⟩

end Go.Proofs.YtngclmjefadokaaDoor

namespace Go.Proofs.YtngclmjefadokaaDoor
open Go Go.RowKit

/-- the cells of survivors -/
def scs (l : List (Int × Int)) : List Value := l.flatMap fun x => [.int .i64 x.1, .int .i64 x.2]
theorem scs_cons (x : Int × Int) (l : List (Int × Int)) : scs (x :: l) = .int .i64 x.1 :: .int .i64 x.2 :: scs l := by simp [scs]
theorem scs_append (a b : List (Int × Int)) : scs (a ++ b) = scs a ++ scs b := by simp [scs]
theorem scs_length (l : List (Int × Int)) : (scs l).length = l.length * 2 := by
  induction l with
  | nil => rfl
  | cons x l ih => rw [scs_cons]; simp only [List.length_cons, ih]; omega
theorem scs_one (l : List (Int × Int)) : ∀ u ∈ scs l, u.oneCell' = true := by
  intro u hu
  simp only [scs, List.mem_flatMap] at hu
  obtain ⟨x, _, hx⟩ := hu
  simp at hx
  rcases hx with rfl | rfl <;> rfl
theorem scs_get : ∀ (l : List (Int × Int)) (i : Nat) (x : Int × Int), l[i]? = some x → (scs l)[i * 2]? = some (.int .i64 x.1) ∧ (scs l)[i * 2 + 1]? = some (.int .i64 x.2)
  | [], i, x, h => by simp at h
  | y :: l, 0, x, h => by
    obtain rfl : y = x := by simpa using h
    rw [scs_cons]
    simp
  | y :: l, i + 1, x, h => by
    have ih := scs_get l i x (by simpa using h)
    rw [scs_cons, show (i + 1) * 2 = i * 2 + 1 + 1 by omega]
    simpa using ih
theorem scs_at {l : List (Int × Int)} {j : Nat} {u : Value} (h : (scs l)[j]? = some u) : ∃ i x k, j = i * 2 + k ∧ k < 2 ∧ l[i]? = some x ∧ (k = 0 ∧ u = .int .i64 x.1 ∨ k = 1 ∧ u = .int .i64 x.2) := by
  have hj := (List.getElem?_eq_some_iff.1 h).1
  rw [scs_length] at hj
  have hi : j / 2 < l.length := by omega
  have hx : l[j / 2]? = some l[j / 2] := List.getElem?_eq_getElem hi
  obtain ⟨g0, g1⟩ := scs_get l (j / 2) _ hx
  refine ⟨j / 2, _, j % 2, by omega, by omega, hx, ?_⟩
  rcases (show j % 2 = 0 ∨ j % 2 = 1 by omega) with e | e
  · rw [show j = j / 2 * 2 by omega, g0] at h
    injection h with h
    exact .inl ⟨e, h.symm⟩
  · rw [show j = j / 2 * 2 + 1 by omega, g1] at h
    injection h with h
    exact .inr ⟨e, h.symm⟩

def SvRow (w : World) (base : Nat) (A : Option Addr) (m c : Nat) (l : List (Int × Int)) : Prop :=
  m = l.length ∧ w.ownsRow base 67 2 (.slice A m c) m (scs l)
theorem SvRow.at_ {w : World} {base m c : Nat} {A : Option Addr} {l : List (Int × Int)} (h : SvRow w base A m c l) : SvAt w w.heap.size A l := fun hl => by
  obtain ⟨hm, hown⟩ := h
  rcases hown.2 with ⟨_, h0⟩ | ⟨g, cap, cur, hv, _, hg, _⟩
  · omega
  · have hA : A = some ⟨g, 0, none⟩ := by injection hv
    subst hA
    have hlt : g < w.heap.size := (Array.getElem?_eq_some_iff.1 hg).1
    refine ⟨g, 0, rfl, hlt, fun i x hx => ?_⟩
    obtain ⟨g0, g1⟩ := scs_get l i x hx
    have ea : ∀ j, (⟨g, 0, none⟩ : Addr).add j = ⟨g, 0 + j, none⟩ := by intro j; unfold Addr.add; split <;> simp_all
    have e0 := hown.cells (g := g) rfl _ _ g0
    have e1 := hown.cells (g := g) rfl _ _ g1
    rw [ea] at e0 e1
    exact ⟨e0, by rw [Nat.add_assoc]; exact e1⟩
theorem SvRow.alloc {w : World} {base m c : Nat} {A : Option Addr} {l : List (Int × Int)} (h : SvRow w base A m c l) (o : Obj) : SvRow (w.alloc o) base A m c l := ⟨h.1, h.2.alloc o⟩
theorem SvRow.below {w w' : World} {base m c : Nat} {A : Option Addr} {l : List (Int × Int)} (h : SvRow w base A m c l) (hb : Below w.heap.size w w') : SvRow w' base A m c l := by
  refine ⟨h.1, h.2.kept (row := none) ⟨hb.os, hb.tape, hb.output, hb.size, fun k hk _ => hb.block k hk⟩ ?_⟩
  cases hv : (Value.slice A m c).ownBlock <;> simp
theorem SvRow.cap {w : World} {base m c : Nat} {A : Option Addr} {l : List (Int × Int)} (h : SvRow w base A m c l) : m ≤ c := by
  rcases h.2.2 with ⟨_, h0⟩ | ⟨g, cap, cur, hv, _, _, hnc, _⟩
  · omega
  · injection hv with _ _ hc
    omega
theorem SvRow.off {w : World} {base m c : Nat} {A : Option Addr} {l : List (Int × Int)} (h : SvRow w base A m c l) {M : Nat → Prop} (hM : ∀ k, M k → k < base) : Off M A := by
  intro b off e hm
  have hb := hM b hm
  rcases h.2.2 with ⟨hv, _⟩ | ⟨g, cap, cur, hv, hg, _⟩
  · injection hv with h1
    rw [h1] at e; cases e
  · injection hv with h1
    rw [h1] at e
    injection e with e
    injection e with e1
    omega
theorem SvRow.nil (w : World) (base : Nat) : SvRow w base none 0 0 [] := ⟨rfl, World.ownsRow_nil _ _ _ _⟩
/-- a slice written out without elements -/
theorem SvRow.empty (w : World) {base g : Nat} (hg : g = w.heap.size) (hb : base ≤ w.heap.size) : SvRow (w.alloc (.cells #[] 67)) base (some ⟨g, 0, none⟩) 0 0 [] := by
  subst hg
  exact ⟨rfl, rfl, .inr ⟨w.heap.size, 0, #[], rfl, hb, heap_alloc_new w _, Nat.le_refl _, Nat.zero_le _, rfl, rfl⟩⟩

theorem info_sv : (Tryd.prog.info? 67).map (fun i => (i.zero, i.size, i.bytes)) = some (some (.agg #[.int .i64 0, .int .i64 0]), 2, 16) := by kernel_rfl

set_option maxRecDepth 100000 in
/-- append(l, m...): both slices of survivors -/
theorem wp_append_sv (w : World) {o : Oper} {a : Act} {K : Act → World → Prop} {Q : Exit → Act → World → Prop} (s x : Operand)
    (ho : o.op = .call { callee := .builtin .append, args := #[s, x], argTypes := #[42, 42] })
    (base : Nat) {A A2 : Option Addr} {m c n c2 B : Nat} {ws ns : List (Int × Int)} (hs : a.eval s = .slice A m c) (hrow : SvRow w base A m c ws) (hx : a.eval x = .slice A2 n c2) (hn : n = ns.length) (hA : SvAt w B A2 ns)
    (hlen : ws.length + ns.length ≤ 1099511627776) (hbase : base ≤ w.heap.size)
    (h : ∀ A' m' c' w', SvRow w' base A' m' c' (ws ++ ns) → m' ≤ c' → Below base w w' → w.grownBy w' (Value.slice A m c).ownBlock → K (a.put o.dst (.slice A' m' c')) w') : o.wp Tryd.prog a w K Q := by
  obtain ⟨i0, hi, hz0, hz1, hz2⟩ := info_parts info_sv
  obtain ⟨hm, hown⟩ := hrow
  subst hm hn
  have hrun : ∃ v' w', (Builtin.append_ #[42, 42] o.type #[.slice A ws.length c, .slice A2 ns.length c2]).run Tryd.prog w = .ok v' w' ∧ w'.ownsRow base 67 2 v' (ws ++ ns).length (scs (ws ++ ns)) ∧ w.grownBy w' (Value.slice A ws.length c).ownBlock := by
    rcases A2 with _ | ad
    · have hnn : ns = [] := by
        rcases ns with _ | ⟨y, r⟩
        · rfl
        · obtain ⟨_, _, h, _⟩ := hA (by simp)
          cases h
      subst hnn
      refine ⟨_, w, ?_, by simpa using hown, World.grownBy.refl w _⟩
      rcases hown.2 with ⟨hv, h0⟩ | ⟨g, cap, cur, hv, _, _, hnc, _⟩
      · rw [hv]
        simp [Builtin.append_, run_underlying Tryd.underlying42, sizeOf, typeInfo, hi, Builtin.lenOf, Builtin.firstCells]
      · rw [hv]
        simp [Builtin.append_, run_underlying Tryd.underlying42, sizeOf, typeInfo, hi, Builtin.lenOf, Builtin.firstCells, hnc, storeCells]
    · have hc : ∀ j u, (scs ns)[j]? = some u → w.cell? (ad.add j) = some u := by
        intro j u hu
        obtain ⟨i, y, k, rfl, _, hy, hk⟩ := scs_at hu
        have hi := (List.getElem?_eq_some_iff.1 hy).1
        obtain ⟨b, off, e1, _, hcell⟩ := hA (by omega)
        injection e1 with e1
        subst e1
        have e2 : ∀ j, (⟨b, off, none⟩ : Addr).add j = ⟨b, off + j, none⟩ := by intro j; unfold Addr.add; split <;> simp_all
        obtain ⟨g0, g1⟩ := hcell i y hy
        rw [e2, ← Nat.add_assoc]
        rcases hk with ⟨rfl, rfl⟩ | ⟨rfl, rfl⟩
        · exact g0
        · exact g1
      obtain ⟨v', w', hr, h2, h3, _, _⟩ := run_append_own_at (P := Tryd.prog) w base 42 o.type 67 i0 _ 2 16 Tryd.underlying42 hi hz0 hz1 hz2 rfl (by decide) (.slice A ws.length c) ws.length (scs ws) hown ad ns.length c2 (scs ns) (scs_length ns) hc (scs_one ns)
        (by unfold maxLen; omega) (by omega) hbase
      exact ⟨v', w', hr, by rw [scs_append, List.length_append]; exact h2, h3⟩
  obtain ⟨v', w', hr, h2, h3⟩ := hrun
  unfold Oper.wp execOp
  simp only [ho, resolve, invoke, builtin, Sem.run_bind, Sem.run_pure, Result.andThen_ok, List.map_toArray, List.map_cons, List.map_nil, hs, hx, hr]
  obtain ⟨A', c', rfl⟩ := own_shape h2
  exact h A' _ c' w' ⟨rfl, h2⟩ (SvRow.cap ⟨rfl, h2⟩) ((Below.refl _ _).grown h3 hbase (fun k hk => (hown.lt k hk).1)) h3
theorem wpList_append_sv (w : World) {ops : Array Oper} {rest : List Oper} {o : Oper} {a : Act} {Q : Exit → Act → World → Prop} (hgd : o.guard = none) (s x : Operand)
    (ho : o.op = .call { callee := .builtin .append, args := #[s, x], argTypes := #[42, 42] })
    (base : Nat) {A A2 : Option Addr} {m c n c2 B : Nat} {ws ns : List (Int × Int)} (hs : a.eval s = .slice A m c) (hrow : SvRow w base A m c ws) (hx : a.eval x = .slice A2 n c2) (hn : n = ns.length) (hA : SvAt w B A2 ns)
    (hlen : ws.length + ns.length ≤ 1099511627776) (hbase : base ≤ w.heap.size)
    (h : ∀ A' m' c' w', SvRow w' base A' m' c' (ws ++ ns) → m' ≤ c' → Below base w w' → w.grownBy w' (Value.slice A m c).ownBlock → wpList Tryd.prog ops Q rest (a.put o.dst (.slice A' m' c')) w') : wpList Tryd.prog ops Q (o :: rest) a w :=
  wpList_plain hgd fun _ hK => wp_append_sv w s x ho base hs hrow hx hn hA hlen hbase fun A' m' c' w' h1 h2 h3 h4 => hK _ _ (h A' m' c' w' h1 h2 h3 h4)


end Go.Proofs.YtngclmjefadokaaDoor

namespace Go.Proofs.YtngclmjefadokaaDoor
open Go Go.RowKit

def doE (s : Dk) (x : Act6) : Nat := if x.k = 0 then s.why x.i x.b else if x.k = 1 then s.fwhy x.i else 0
def doS (s : Dk) (x : Act6) : Dk := if x.k = 0 then s.write x.i x.b else if x.k = 1 then s.free x.i else if x.k = 2 then s.sync else if x.k = 3 then s.crash x.l else if x.k = 4 then s.lim x.i else s
/-- an act that isn't too great -/
structure Small (x : Act6) : Prop where
  b : x.b.length ≤ 600
  l : x.l.length ≤ 60
theorem few_small (x : Act6) : Small x.few := ⟨by unfold Act6.few; simp; omega, by unfold Act6.few; simp; omega⟩

theorem Turns.of_below {M R : Nat → Prop} {w w' : World} (hb : Below w.heap.size w w') : Turns M R w M R w' :=
  ⟨hb.os, hb.tape, hb.output, hb.size, fun k hk _ => hb.block k hk, fun _ h => .inl h, fun _ h => .inl h⟩
theorem Turns.behind {M R M' R' : Nat → Prop} {w w1 w' : World} (hb : Below w.heap.size w w1) (ht : Turns M R w1 M' R' w') : Turns M R w M' R' w' :=
  ⟨ht.os.trans hb.os, ht.tape.trans hb.tape, ht.output.trans hb.output, Nat.le_trans hb.size ht.size, fun k hk hm => (ht.block k (Nat.lt_of_lt_of_le hk hb.size) hm).trans (hb.block k hk),
    fun k h => (ht.own k h).imp id (fun h => Nat.le_trans hb.size h), fun k h => (ht.held k h).imp id (fun h => Nat.le_trans hb.size h)⟩
/-- what do shows -/
def Did (DA : DiskAt) (d : Nat) (M R : Nat → Prop) (s : Dk) (x : Act6) (w : World) (e : Ending) (w' : World) : Prop :=
  e = .returned (.int .i64 (doE s x : Int)) ∧ ∃ M' R', DA w' d M' R' (doS s x) ∧ Turns M R w M' R' w'

end Go.Proofs.YtngclmjefadokaaDoor

namespace Go.Proofs.YtngclmjefadokaaDoor
open Go Go.RowKit

set_option maxHeartbeats 8000000 in
set_option maxRecDepth 100000 in
theorem write_is {w : World} {d g c n cap nc : Nat} {A : Option Addr} {ch : Chg} {fs : List Value} {M R : Nat → Prop} {s : Dk} (h : DIn w d g c A n cap ch nc fs M R s) {i : Int} {Ab : Option Addr} {nb cb B : Nat} {b : List UInt8} (hA : At w B Ab b) (hnb : nb = b.length) (hB : B ≤ w.heap.size) (hbl : b.length ≤ 70368744177664) (hpl : s.pend.length ≤ 1000000) :
    Calls Tryd.prog 52 #[.pointer (some ⟨d, 0, none⟩), .int .i64 i, .slice Ab nb cb] w fun e w' =>
      e = .returned (.int .i64 (s.why i b : Int)) ∧ ∃ M' R', DA6 w' d M' R' (s.write i b) ∧ Turns M R w M' R' w' := by
  have HH := hid h
  have HAT := hid hA
  have HBW := hid hB
  have HNB := hid hnb
  have HPN := hid hpl
  obtain ⟨d0, d1, d2, d3, d4, d5, _, _, _, _⟩ := six h.blk
  have HVW := hid (fun (W : World) (hW : Beyond w W) => view_is (h.below hW) i)
  have hd1 : ∀ W, Beyond w W → W.cell? ⟨d, 1, none⟩ = some (.int .i64 s.limit) := fun W hW => (hW.cell (p := ⟨d, 1, none⟩) (h.lt d (.inl h.md))).trans d1
  have hd2 : ∀ W, Beyond w W → W.cell? ⟨d, 2, none⟩ = some (.int .i64 (s.used : Int)) := fun W hW => (hW.cell (p := ⟨d, 2, none⟩) (h.lt d (.inl h.md))).trans d2
  have hfu := field_used
  clear h hA hB hpl
  by_cases h0 : i < 0
  · have e1 : s.why i b = 61 := if_pos (.inl h0)
    have e2 : s.write i b = s := if_neg (by rw [e1]; decide)
    rw [e1, e2]
    clear e1 e2 hd1 hd2
    go_enter Tryd.func52, Tryd.ntmps52
    go_wp2_with fail
    go_ret
    exact ⟨rfl, M, R, ⟨_, _, _, _, _, _, _, _, HH.out⟩, Turns.of_below (Below.refl _ _)⟩
  by_cases h1 : (s.size : Int) ≤ i
  · have e1 : s.why i b = 61 := if_pos (.inr h1)
    have e2 : s.write i b = s := if_neg (by rw [e1]; decide)
    rw [e1, e2]
    clear e1 e2 hd1 hd2
    go_enter Tryd.func52, Tryd.ntmps52
    go_wp2_with fail
    go_ret
    exact ⟨rfl, M, R, ⟨_, _, _, _, _, _, _, _, HH.out⟩, Turns.of_below (Below.refl _ _)⟩
  by_cases h2 : 512 < b.length
  · have e1 : s.why i b = 62 := by unfold Dk.why; rw [if_neg (by omega), if_pos h2]
    have e2 : s.write i b = s := if_neg (by rw [e1]; decide)
    rw [e1, e2]
    clear e1 e2 hd1 hd2
    subst hnb
    go_enter Tryd.func52, Tryd.ntmps52
    go_wp2_with fail
    go_ret
    exact ⟨rfl, M, R, ⟨_, _, _, _, _, _, _, _, HH.out⟩, Turns.of_below (Below.refl _ _)⟩
  have HI0 := hid (show 0 ≤ i by omega)
  have HI1 := hid (show i < (s.size : Int) by omega)
  have HLB := hid (show b.length ≤ 512 by omega)
  have h2n : ¬ 512 < nb := by omega
  cases hv : s.view i with
  | some old =>
    have e1 : s.why i b = 0 := by unfold Dk.why; rw [if_neg (by omega), if_neg h2, if_neg (by rw [hv]; simp)]
    rw [e1, Dk.write_ok e1]
    simp only [hv] at HVW
    rw [show stV (some old) = .agg #[.bool true, .string (bst old)] from rfl] at HVW
    clear e1 hv hnb h2 hbl
    go_enter Tryd.func52, Tryd.ntmps52
    go_wp2_with fail
    refine wp_region_held_drew (S := Beyond w) (by kernel_rfl) (Beyond.drew _) (fun hS => ?_)
    refine stT 0 hS ?_
    try simp only [putr]
    refine stT 1 hS ?_
    try simp only [putr]
    refine rdH [2] ?_
    refine rcH (fun K hK => ?_) AllReadyH.nil
    go_simp
    go_fit (HVW.out _ hS)
    rintro e w5 ⟨rfl, hb5⟩
    have hS2 := Beyond.step hS hb5
    clear hb5
    refine hK.out _ _ (by assumption) (fun _ => ?_)
    clear hK K hS
    have hS := hS2
    try simp only [putr]
    refine stT 3 hS ?_
    try simp only [putr]
    refine stT 4 hS ?_
    try simp only [putr]
    refine stT 5 hS ?_
    try simp only [putr]
    refine stK 6 hS ?_
    try simp only [putr]
    refine stK 7 hS ?_
    try simp only [putr]
    refine stK 8 hS ?_
    try simp only [putr]
    refine stK 9 hS ?_
    try simp only [putr]
    refine stK 10 hS ?_
    try simp only [putr]
    refine stK 11 hS ?_
    try simp only [putr]
    refine stK 12 hS ?_
    try simp only [putr]
    refine stK 13 hS ?_
    try simp only [putr]
    refine stK 14 hS ?_
    try simp only [putr]
    refine stT 15 hS ?_
    try simp only [putr]
    refine stT 16 hS ?_
    try simp only [putr]
    refine wpAnyH_done (by kernel_rfl) ?_ _
    have HB5 := hid (show Below w.heap.size w w5 from hS)
    have HCV := hid (str_of (c := cb) (HAT.out.below (HB5.out.mono HBW.out)) HNB.out)
    have HLY := hid (lay_is (HH.out.below HB5.out) HI0.out HI1.out HLB.out HPN.out)
    have hcv := HCV.out
    clear hS hd1 hd2
    go_wp2_with fail
    go_fit HLY.out
    rintro e w6 ⟨rfl, M', R', hd, ht⟩
    have HX := hid (And.intro hd (Turns.behind HB5.out ht))
    clear hd ht hcv
    go_wp2_with fail
    go_ret
    exact ⟨rfl, M', R', HX.out.1, HX.out.2⟩
  | none =>
    by_cases h3 : s.limit ≤ (s.used : Int)
    · have e1 : s.why i b = 63 := by unfold Dk.why; rw [if_neg (by omega), if_neg h2, if_pos ⟨hv, h3⟩]
      have e2 : s.write i b = s := if_neg (by rw [e1]; decide)
      rw [e1, e2]
      simp only [hv] at HVW
      rw [show stV none = .agg #[.bool false, .string ⟨#[]⟩] from rfl] at HVW
      clear e1 e2 hv hnb h2 hbl
      go_enter Tryd.func52, Tryd.ntmps52
      go_wp2_with fail
      refine wp_region_held_drew (S := Beyond w) (by kernel_rfl) (Beyond.drew _) (fun hS => ?_)
      refine stT 0 hS ?_
      try simp only [putr]
      refine stT 1 hS ?_
      try simp only [putr]
      refine rdH [2] ?_
      refine rcH (fun K hK => ?_) AllReadyH.nil
      go_simp
      go_fit (HVW.out _ hS)
      rintro e w5 ⟨rfl, hb5⟩
      have hS2 := Beyond.step hS hb5
      clear hb5
      refine hK.out _ _ (by assumption) (fun _ => ?_)
      clear hK K hS
      have hS := hS2
      try simp only [putr]
      refine stT 3 hS ?_
      try simp only [putr]
      refine stT 4 hS ?_
      try simp only [putr]
      refine stT 5 hS ?_
      try simp only [putr]
      first | (refine stT 6 hS ?_) | (refine stK 6 hS ?_)
      try simp only [putr]
      first | (refine stT 7 hS ?_) | (refine stK 7 hS ?_)
      try simp only [putr]
      first | (refine stT 8 hS ?_) | (refine stK 8 hS ?_)
      try simp only [putr]
      first | (refine stT 9 hS ?_) | (refine stK 9 hS ?_)
      try simp only [putr]
      first | (refine stT 10 hS ?_) | (refine stK 10 hS ?_)
      try simp only [putr]
      first | (refine stT 11 hS ?_) | (refine stK 11 hS ?_)
      try simp only [putr]
      first | (refine stT 12 hS ?_) | (refine stK 12 hS ?_)
      try simp only [putr]
      first | (refine stT 13 hS ?_) | (refine stK 13 hS ?_)
      try simp only [putr]
      first | (refine stT 14 hS ?_) | (refine stK 14 hS ?_)
      try simp only [putr]
      refine stT 15 hS ?_
      try simp only [putr]
      refine stT 16 hS ?_
      try simp only [putr]
      refine wpAnyH_done (by kernel_rfl) ?_ _
      have HB5 := hid (show Below w.heap.size w w5 from hS)
      clear hS hd1 hd2
      go_wp2_with fail
      go_ret
      exact ⟨rfl, M, R, ⟨_, _, _, _, _, _, _, _, HH.out.below HB5.out⟩, Turns.of_below HB5.out⟩
    · have e1 : s.why i b = 0 := by unfold Dk.why; rw [if_neg (by omega), if_neg h2, if_neg (by rintro ⟨_, q⟩; exact h3 q)]
      rw [e1, Dk.write_ok e1]
      simp only [hv] at HVW
      rw [show stV none = .agg #[.bool false, .string ⟨#[]⟩] from rfl] at HVW
      clear e1 hv hnb h2 hbl
      go_enter Tryd.func52, Tryd.ntmps52
      go_wp2_with fail
      refine wp_region_held_drew (S := Beyond w) (by kernel_rfl) (Beyond.drew _) (fun hS => ?_)
      refine stT 0 hS ?_
      try simp only [putr]
      refine stT 1 hS ?_
      try simp only [putr]
      refine rdH [2] ?_
      refine rcH (fun K hK => ?_) AllReadyH.nil
      go_simp
      go_fit (HVW.out _ hS)
      rintro e w5 ⟨rfl, hb5⟩
      have hS2 := Beyond.step hS hb5
      clear hb5
      refine hK.out _ _ (by assumption) (fun _ => ?_)
      clear hK K hS
      have hS := hS2
      try simp only [putr]
      refine stT 3 hS ?_
      try simp only [putr]
      refine stT 4 hS ?_
      try simp only [putr]
      refine stT 5 hS ?_
      try simp only [putr]
      first | (refine stT 6 hS ?_) | (refine stK 6 hS ?_)
      try simp only [putr]
      first | (refine stT 7 hS ?_) | (refine stK 7 hS ?_)
      try simp only [putr]
      first | (refine stT 8 hS ?_) | (refine stK 8 hS ?_)
      try simp only [putr]
      first | (refine stT 9 hS ?_) | (refine stK 9 hS ?_)
      try simp only [putr]
      first | (refine stT 10 hS ?_) | (refine stK 10 hS ?_)
      try simp only [putr]
      first | (refine stT 11 hS ?_) | (refine stK 11 hS ?_)
      try simp only [putr]
      first | (refine stT 12 hS ?_) | (refine stK 12 hS ?_)
      try simp only [putr]
      first | (refine stT 13 hS ?_) | (refine stK 13 hS ?_)
      try simp only [putr]
      first | (refine stT 14 hS ?_) | (refine stK 14 hS ?_)
      try simp only [putr]
      refine stT 15 hS ?_
      try simp only [putr]
      refine stT 16 hS ?_
      try simp only [putr]
      refine wpAnyH_done (by kernel_rfl) ?_ _
      have HB5 := hid (show Below w.heap.size w w5 from hS)
      have HCV := hid (str_of (c := cb) (HAT.out.below (HB5.out.mono HBW.out)) HNB.out)
      have HLY := hid (lay_is (HH.out.below HB5.out) HI0.out HI1.out HLB.out HPN.out)
      have hcv := HCV.out
      clear hS hd1 hd2
      go_wp2_with fail
      go_fit HLY.out
      rintro e w6 ⟨rfl, M', R', hd, ht⟩
      have HX := hid (And.intro hd (Turns.behind HB5.out ht))
      clear hd ht hcv
      go_wp2_with fail
      go_ret
      exact ⟨rfl, M', R', HX.out.1, HX.out.2⟩

set_option maxHeartbeats 8000000 in
set_option maxRecDepth 100000 in
theorem free_is {w : World} {d g c n cap nc : Nat} {A : Option Addr} {ch : Chg} {fs : List Value} {M R : Nat → Prop} {s : Dk} (h : DIn w d g c A n cap ch nc fs M R s) {i : Int} (hpl : s.pend.length ≤ 1000000) :
    Calls Tryd.prog 47 #[.pointer (some ⟨d, 0, none⟩), .int .i64 i] w fun e w' =>
      e = .returned (.int .i64 (s.fwhy i : Int)) ∧ ∃ M' R', DA6 w' d M' R' (s.free i) ∧ Turns M R w M' R' w' := by
  have HH := hid h
  have HPN := hid hpl
  have HV := hid (view_is h i)
  have hfu := field_used
  clear h hpl
  cases hv : s.view i with
  | none =>
    have e1 : s.fwhy i = 61 := if_pos hv
    have e2 : s.free i = s := if_pos hv
    rw [e1, e2]
    simp only [hv] at HV
    rw [show stV none = .agg #[.bool false, .string ⟨#[]⟩] from rfl] at HV
    clear e1 e2 hv
    go_enter Tryd.func47, Tryd.ntmps47
    go_wp2_with fail
    go_fit HV.out
    rintro e w1 ⟨rfl, hb⟩
    have HB := hid hb
    clear hb
    go_wp2_with fail
    go_ret
    exact ⟨rfl, M, R, ⟨_, _, _, _, _, _, _, _, HH.out.below HB.out⟩, Turns.of_below HB.out⟩
  | some old =>
    have e1 : s.fwhy i = 0 := if_neg (by rw [hv]; simp)
    have e2 : s.free i = { s with view := upd s.view i none, pend := s.pend ++ [⟨i, none⟩] } := if_neg (by rw [hv]; simp)
    rw [e1, e2]
    have HU := hid (fun (W : World) (hW : Beyond w W) => unlay_is (HH.out.below hW) hv HPN.out)
    simp only [hv] at HV
    rw [show stV (some old) = .agg #[.bool true, .string (bst old)] from rfl] at HV
    clear e1 e2 hv
    go_enter Tryd.func47, Tryd.ntmps47
    go_wp2_with fail
    go_fit HV.out
    rintro e w1 ⟨rfl, hb⟩
    have HB := hid hb
    clear hb
    go_wp2_with fail
    go_fit (HU.out _ HB.out)
    rintro e w6 ⟨rfl, M', R', hd, ht⟩
    have HX := hid (And.intro hd (Turns.behind HB.out ht))
    clear hd ht
    go_wp2_with fail
    go_ret
    exact ⟨rfl, M', R', HX.out.1, HX.out.2⟩

end Go.Proofs.YtngclmjefadokaaDoor
