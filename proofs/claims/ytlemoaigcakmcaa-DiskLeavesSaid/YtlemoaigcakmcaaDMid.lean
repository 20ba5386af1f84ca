/-
  A disk while an operation is laid.
-/
import Derived.Test.YtlemoaigcakmcaaDOps
namespace Go.Proofs.Ytlemoaigcakmcaa
open Go Go.RowKit

/-- as the disk, but the number of sectors in use is u, and what has changed reads as ch; w is the world ahead of the call -/
structure Mid (w wr : World) (d g c : Nat) (A : Option Addr) (n cap : Nat) (ch : Chg) (nc : Nat) (fs : List Value) (M R : Nat → Prop) (s : Dk) (u : Int) : Prop where
  blk : Blk wr d 51 #[.int .i64 (s.size : Int), .int .i64 s.limit, .int .i64 u, .map (some g), .map (some c), .slice A n cap]
  gt : Tab wr g (gT s.ground) (cnt s.size s.ground)
  ct : Tab wr c (cT ch) nc
  row : PRow wr M A n cap fs
  ops : Ops wr R s.pend fs
  md : M d
  mg : M g
  mc : M c
  gc : g ≠ c
  lt : ∀ k, M k ∨ R k → k < w.heap.size
  mr : ∀ k, M k → ¬ R k
  wi : Within M w wr
section
variable {w wr w' : World} {d g c n cap nc : Nat} {A : Option Addr} {ch : Chg} {fs : List Value} {M R : Nat → Prop} {s : Dk} {u : Int}
theorem DIn.mid (h : DIn w d g c A n cap ch nc fs M R s) : Mid w w d g c A n cap ch nc fs M R s (s.used : Int) := ⟨h.blk, h.gt, h.ct, h.row, h.ops, h.md, h.mg, h.mc, h.gc, h.lt, h.mr, Within.refl _ _⟩
theorem Mid.ltr (h : Mid w wr d g c A n cap ch nc fs M R s u) {k : Nat} (hk : M k ∨ R k) : k < wr.heap.size := Nat.lt_of_lt_of_le (h.lt k hk) h.wi.size
theorem Mid.below (h : Mid w wr d g c A n cap ch nc fs M R s u) (hb : Below wr.heap.size wr w') : Mid w w' d g c A n cap ch nc fs M R s u :=
  ⟨h.blk.below hb h.blk.lt, h.gt.below hb, h.ct.below hb, h.row.below hb, h.ops.keep (fun k hk => hb.block k (h.ltr (.inr hk))), h.md, h.mg, h.mc, h.gc, h.lt, h.mr, h.wi.trans (Within.of_below hb)⟩
theorem Mid.use (h : Mid w wr d g c A n cap ch nc fs M R s u) (v : Int) : Mid w (wr.setCell ⟨d, 2, none⟩ (.int .i64 v)) d g c A n cap ch nc fs M R s v := by
  have ho : Only d wr (wr.setCell ⟨d, 2, none⟩ (.int .i64 v)) := (Only.refl _ _).set _
  exact ⟨by simpa using h.blk.set 2 (.int .i64 v), h.gt.only ho (h.gt.ne_blk h.blk), h.ct.only ho (h.ct.ne_blk h.blk), h.row.only ho (h.row.ne h.blk (by decide)), h.ops.keep (fun k hk => ho.block k (h.ltr (.inr hk)) (fun e => by injection e with e; subst e; exact h.mr _ h.md hk)),
    h.md, h.mg, h.mc, h.gc, h.lt, h.mr, h.wi.only ho (.inl h.md)⟩
theorem Mid.chg {ch' : Chg} {nc' : Nat} (h : Mid w wr d g c A n cap ch nc fs M R s u) (ht : Tab w' c (cT ch') nc') (ho : Only c wr w') : Mid w w' d g c A n cap ch' nc' fs M R s u :=
  ⟨h.blk.grown ho (fun e => by injection e with e; exact (h.ct.ne_blk h.blk) e.symm), h.gt.only ho h.gc, ht, h.row.only ho (h.row.ne_tab h.ct), h.ops.keep (fun k hk => ho.block k (h.ltr (.inr hk)) (fun e => by injection e with e; subst e; exact h.mr _ h.mc hk)),
    h.md, h.mg, h.mc, h.gc, h.lt, h.mr, h.wi.only ho (.inl h.mc)⟩
/-- the operation is laid -/
theorem Mid.laid {A' : Option Addr} {c' : Nat} {w6 : World} {f : Value} {i : Int} {v : Option (List UInt8)} {Pb : Nat → Prop} (h : Mid w wr d g c A n cap ch nc fs M R s u)
    (hrow : PRow w6 (fun k => (Value.slice A' (n + 1) c').ownBlock = some k) A' (n + 1) c' (fs ++ [f])) (hg : wr.grownBy w6 (Value.slice A n cap).ownBlock)
    (hloc : (Value.slice A' (n + 1) c').ownBlock = (Value.slice A n cap).ownBlock ∨ (Value.slice A' (n + 1) c').ownBlock = some wr.heap.size)
    (hPb : ∀ k, Pb k → w.heap.size ≤ k ∧ k < wr.heap.size) (hop : OpV wr (fun k => R k ∨ Pb k) ⟨i, v⟩ f) (hu : u = ((cnt s.size (upd s.view i v) : Nat) : Int))
    (hpl : DPl { s with view := upd s.view i v, pend := s.pend ++ [⟨i, v⟩] } ch) :
    ∃ M' R', DA6 (w6.setCell ⟨d, 5, none⟩ (.slice A' (n + 1) c')) d M' R' { s with view := upd s.view i v, pend := s.pend ++ [⟨i, v⟩] } ∧ Turns M R w M' R' (w6.setCell ⟨d, 5, none⟩ (.slice A' (n + 1) c')) := by
  have hws := h.wi.size
  have b6 : Blk w6 d 51 #[.int .i64 (s.size : Int), .int .i64 s.limit, .int .i64 u, .map (some g), .map (some c), .slice A n cap] := h.blk.grown hg (fun e => (h.row.ne h.blk (by decide)) d e.symm rfl)
  have g6 : Tab w6 g (gT s.ground) (cnt s.size s.ground) := h.gt.of_block (hg.block g h.gt.lt (fun e => (h.row.ne_tab h.gt) g e.symm rfl))
  have c6 : Tab w6 c (cT ch) nc := h.ct.of_block (hg.block c h.ct.lt (fun e => (h.row.ne_tab h.ct) c e.symm rfl))
  have hrR : ∀ k, (R k ∨ Pb k) → w6.heap[k]? = wr.heap[k]? := fun k hk => hg.block k (hk.elim (fun hk => h.ltr (.inr hk)) (fun hk => (hPb k hk).2)) (fun e => by
    have hm := h.row.mine k e.symm
    rcases hk with hk | hk
    · exact h.mr k hm hk
    · have := h.lt k (.inl hm); have := (hPb k hk).1; omega)
  have o6 : Ops w6 (fun k => R k ∨ Pb k) (s.pend ++ [⟨i, v⟩]) (fs ++ [f]) := h.ops.snoc (fun k hk => hrR k (.inl hk)) (fun k hk => .inl hk) (hop.keep hrR)
  have ho : Only d w6 (w6.setCell ⟨d, 5, none⟩ (.slice A' (n + 1) c')) := (Only.refl _ _).set _
  have hnew : ∀ k, (Value.slice A' (n + 1) c').ownBlock = some k → M k ∨ wr.heap.size ≤ k := fun k hk => hloc.elim (fun e => .inl (h.row.mine k (e ▸ hk))) (fun e => by rw [e] at hk; injection hk with hk; exact .inr (by omega))
  have hdR : ¬ (R d ∨ Pb d) := fun e => e.elim (h.mr d h.md) (fun e => by have := h.lt d (.inl h.md); have := (hPb d e).1; omega)
  have hwi : Within M w w6 := h.wi.trans ⟨hg.os, hg.tape, hg.output, hg.size, fun k hk hm => hg.block k hk (fun e => hm (h.row.mine k e.symm))⟩
  refine ⟨fun k => M k ∨ (Value.slice A' (n + 1) c').ownBlock = some k, fun k => R k ∨ Pb k, ⟨g, c, A', n + 1, c', ch, nc, fs ++ [f], ?_⟩, (hwi.only ho (.inl h.md)).turns (fun k hk => hk.elim .inl (fun hk => (hnew k hk).imp id (fun hk => by omega))) (fun k hk => hk.imp id (fun hk => (hPb k hk).1))⟩
  refine ⟨?_, g6.only ho (g6.ne_blk b6), c6.only ho (c6.ne_blk b6), (hrow.only ho (hrow.ne b6 (by decide))).more (fun k hk => .inr hk), o6.keep (fun k hk => ho.block k (by
      have h2 := hg.size
      rcases hk with hk | hk
      · have := h.ltr (.inr hk); omega
      · have := (hPb k hk).2; omega) (fun e => by injection e with e; subst e; exact hdR hk)), .inl h.md, .inl h.mg, .inl h.mc, h.gc, ?_, ?_, hpl⟩
  · have := b6.set 5 (.slice A' (n + 1) c')
    rw [hu] at this
    exact (by simpa using this : Blk _ d _ #[.int .i64 (s.size : Int), .int .i64 s.limit, .int .i64 ((cnt s.size (upd s.view i v) : Nat) : Int), .map (some g), .map (some c), .slice A' (n + 1) c'])
  · intro k hk
    have h2 := hg.size
    have e2 : (w6.setCell ⟨d, 5, none⟩ (.slice A' (n + 1) c')).heap.size = w6.heap.size := by simp
    rw [e2]
    rcases hk with (hk | hk) | (hk | hk)
    · have := h.ltr (.inl hk); omega
    · exact hrow.lt k hk
    · have := h.ltr (.inr hk); omega
    · have := (hPb k hk).2; omega
  · intro k hk hr
    rcases hk with hk | hk
    · rcases hr with hr | hr
      · exact h.mr k hk hr
      · have := h.lt k (.inl hk); have := (hPb k hr).1; omega
    · rcases hnew k hk with hm | hm
      · rcases hr with hr | hr
        · exact h.mr k hm hr
        · have := h.lt k (.inl hm); have := (hPb k hr).1; omega
      · rcases hr with hr | hr
        · have := h.ltr (.inr hr); omega
        · have := (hPb k hr).2; omega
end

theorem info_op : (Try.prog.info? 60).map (fun i => (i.zero, i.size, i.bytes)) = some (some .nilFunc, 1, 8) := by kernel_rfl

set_option maxRecDepth 100000 in
/-- append(pending, f) -/
theorem wpList_lay (w : World) {ops : Array Oper} {rest : List Oper} {o : Oper} {a : Act} {Q : Exit → Act → World → Prop} (hgd : o.guard = none) (s x : Operand)
    (ho : o.op = .call { callee := .builtin .append, args := #[s, x], argTypes := #[49, 49] })
    {M : Nat → Prop} {A : Option Addr} {n c q : Nat} {fs : List Value} {f : Value} (hs : a.eval s = .slice A n c) (hrow : PRow w M A n c fs) (hx : a.eval x = .slice (some ⟨q, 0, none⟩) 1 1) (hq : w.cell? ⟨q, 0, none⟩ = some f) (hf : f.oneCell' = true) (hlen : n + 1 ≤ 1099511627776)
    (h : ∀ A' c' w', PRow w' (fun k => (Value.slice A' (n + 1) c').ownBlock = some k) A' (n + 1) c' (fs ++ [f]) → w.grownBy w' (Value.slice A n c).ownBlock →
      ((Value.slice A' (n + 1) c').ownBlock = (Value.slice A n c).ownBlock ∨ (Value.slice A' (n + 1) c').ownBlock = some w.heap.size) → wpList Try.prog ops Q rest (a.put o.dst (.slice A' (n + 1) c')) w') : wpList Try.prog ops Q (o :: rest) a w := by
  refine wpList_plain hgd fun K hK => ?_
  obtain ⟨i0, hi, hz0, hz1, hz2⟩ := info_parts info_op
  have ea : (⟨q, 0, none⟩ : Addr).add 0 = ⟨q, 0, none⟩ := by simp [Addr.add]
  obtain ⟨v', w', hr, h2, h3, _, h5⟩ := run_append_own_at (P := Try.prog) w 0 49 o.type 60 i0 _ 1 8 Try.underlying49 hi hz0 hz1 hz2 rfl (by decide) (.slice A n c) n fs hrow.own ⟨q, 0, none⟩ 1 1 [f] rfl
    (fun j u hu => by
      have hj : j = 0 := by have := (List.getElem?_eq_some_iff.1 hu).1; simp at this; omega
      subst hj
      rw [ea]
      simpa [hq] using hu) (by simpa using hf) (by unfold maxLen; omega) (by omega) (Nat.zero_le _)
  unfold Oper.wp execOp
  simp only [ho, resolve, invoke, builtin, Sem.run_bind, Sem.run_pure, Result.andThen_ok, List.map_toArray, List.map_cons, List.map_nil, hs, hx, hr]
  obtain ⟨A', c', rfl⟩ := own_shape h2
  exact hK _ _ (h A' c' w' ⟨by have := hrow.len; simp; omega, h2, fun g hg => hg⟩ h3 h5)

end Go.Proofs.Ytlemoaigcakmcaa
