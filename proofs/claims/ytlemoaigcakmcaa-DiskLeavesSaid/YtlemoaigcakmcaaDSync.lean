/-
  Sync: the ground becomes the view.
-/
import Derived.Test.YtlemoaigcakmcaaDWrite
import Derived.StillTailTactics
namespace Go.Proofs.Ytlemoaigcakmcaa
open Go Go.RowKit

/-- the ground while the changes that are left are still to come -/
def mixL (ch : Chg) (g : Secs) (left : Int → Bool) : Secs := fun i => match ch i with
  | some st => if left i then g i else st
  | none => g i
theorem mix_start (ch : Chg) (g : Secs) : mixL ch g (fun i => (cT ch i).isSome) = g := by
  funext i
  unfold mixL cT
  cases hc : ch i with
  | none => rfl
  | some st => simp only [hc, Option.map_some, Option.isSome_some, if_true]
theorem mix_end (ch : Chg) (g : Secs) {left : Int → Bool} (h : ∀ i, left i = false) : mixL ch g left = over ch g := by
  funext i
  unfold mixL over
  cases ch i <;> simp [h]
theorem mix_step {ch : Chg} {g : Secs} {left : Int → Bool} {i : Int} {st : Option (List UInt8)} (hc : ch i = some st) : mixL ch g (fun j => left j && !decide (j = i)) = upd (mixL ch g left) i st := by
  funext j
  unfold mixL upd
  by_cases h : j = i
  · subst h; rw [hc]; simp
  · simp [h]

/-- behind settle: all of the disk -/
theorem settled_da {w w1 w2 : World} {d g c n cap nc : Nat} {A : Option Addr} {ch : Chg} {fs : List Value} {M R : Nat → Prop} {s : Dk} {G : Secs} (h : DIn w d g c A n cap ch nc fs M R s) (hw1 : Within (fun k => k = g) w w1) (hg1 : Tab w1 g (gT G) (cnt s.size G))
    (hG : ∀ i, G i ≠ none → 0 ≤ i ∧ i < (s.size : Int)) (hl : ∀ i b, G i = some b → b.length ≤ 512)
    (hb2 : Blk w2 d 51 #[.int .i64 (s.size : Int), .int .i64 s.limit, .int .i64 ((cnt s.size G : Nat) : Int), .map (some g), .map (some w1.heap.size), .slice none 0 0]) (ht2 : Tab w2 w1.heap.size (fun _ => none) 0) (ho2 : Only d w1 w2) :
    ∃ M' R', DA6 w2 d M' R' { s with view := G, ground := G, pend := [] } ∧ Turns M R w M' R' w2 := by
  have hgl := hg1.lt
  have hgd : g ≠ d := h.gt.ne_blk h.blk
  have hsz := ht2.lt
  have hws := hw1.size
  have hwm : Within M w w1 := ⟨hw1.os, hw1.tape, hw1.output, hw1.size, fun k hk hm => hw1.block k hk (fun e => hm (by rw [show k = g from e]; exact h.mg))⟩
  refine ⟨fun k => M k ∨ k = w1.heap.size, R, ⟨g, w1.heap.size, none, 0, 0, fun _ => none, 0, [], ?_⟩, (hwm.only ho2 (.inl h.md)).turns (fun k hk => hk.imp id (fun e => by omega)) (fun k hk => .inl hk)⟩
  refine ⟨hb2, hg1.only ho2 hgd, ht2, PRow.nil _ _, Ops.nil _ _, .inl h.md, .inl h.mg, .inr rfl, by omega, fun k hk => ?_, fun k hk hr => ?_, h.pl.settled hG hl⟩
  · rcases hk with (hk | hk) | hk
    · have := h.lt k (.inl hk); omega
    · omega
    · have := h.lt k (.inr hk); omega
  · rcases hk with hk | hk
    · exact h.mr k hk hr
    · have := h.lt k (.inr hr); omega

/-- the loop of Sync under way -/
structure SyL (w wr : World) (g c : Nat) (ch : Chg) (nc : Nat) (G : Secs) (N : Nat) (left : Int → Bool) (k : Nat) : Prop where
  rg : Ranging wr c w.heap.size (cT ch) nc left k
  gt : Tab wr g (gT (mixL ch G left)) (cnt N (mixL ch G left))
  wi : Within (fun k => k = g) w wr
theorem SyL.step {w wr w1 w3 w4 : World} {g c nc N k k1 : Nat} {ch : Chg} {G : Secs} {left : Int → Bool} {i : Int} {st : Option (List UInt8)} (h : SyL w wr g c ch nc G N left k) (hch : ch i = some st) (hrg1 : Ranging w1 c w.heap.size (cT ch) nc (fun j => left j && !decide (j = i)) k1)
    (ho1 : Only w.heap.size wr w1) (hb : Below w1.heap.size w1 w3) {n4 : Nat} (ht4 : Tab w4 g (gT (upd (mixL ch G left) i st)) n4) (hn4 : n4 = cnt N (upd (mixL ch G left) i st)) (ho4 : Only g w3 w4) (hg : g < w.heap.size) (hgc : g ≠ c) :
    SyL w w4 g c ch nc G N (fun j => left j && !decide (j = i)) k1 := by
  subst hn4
  have hs := h.wi.size
  have hb4 : ∀ k, k < w1.heap.size → k ≠ g → w4.heap[k]? = w1.heap[k]? := fun k hk hne => (ho4.block k (Nat.lt_of_lt_of_le hk hb.size) (fun e => hne (Option.some.inj e))).trans (hb.block k hk)
  have hrl := hrg1.lt
  refine ⟨hrg1.of_block (hb4 c hrg1.tab.lt hgc.symm) (hb4 _ hrl (by omega)), by rw [mix_step hch]; exact ht4, ((h.wi.only ho1 (.inr (Nat.le_refl _))).trans (Within.of_below hb)).only ho4 (.inl rfl)⟩
theorem SyL.tab1 {w wr w1 w3 : World} {g c nc N k : Nat} {ch : Chg} {G : Secs} {left : Int → Bool} (h : SyL w wr g c ch nc G N left k) (ho1 : Only w.heap.size wr w1) (hb : Below w1.heap.size w1 w3) (hg : g < w.heap.size) : Tab w3 g (gT (mixL ch G left)) (cnt N (mixL ch G left)) :=
  (h.gt.only ho1 (by omega)).below hb

section
variable {P : Program} (w : World) {ops : Array Oper} {rest : List Oper} {o : Oper} {a : Act} {Q : Exit → Act → World → Prop}
/-- the step, its facts kept -/
theorem wpList_nextC (hg : o.guard = none) (it : Operand) (hop : o.op = Op.next it false) {b r n k : Nat} {ch : Chg} {left : Int → Bool} (hit : a.eval it = .pointer (some ⟨r, 0, none⟩)) (h : Ranging w b r (cT ch) n left k)
    {d : Nat} {y : Value} (hd : w.cell? ⟨d, 3, none⟩ = some y) (hdw : d < w.heap.size) (hdr : d ≠ r)
    (hDone : Kept (∀ i, left i = false) → wpList P ops Q rest (a.put o.dst (.tuple #[.bool false])) w)
    (hMore : ∀ (i : Int) (u : Bool) (x : ByteArray) (w' : World) (k' : Nat), Kept ((∃ st, ch i = some st ∧ u = st.isSome ∧ x = bst (st.getD [])) ∧ left i = true ∧ Ranging w' b r (cT ch) n (fun j => left j && !decide (j = i)) k' ∧ k' < k ∧ Only r w w') →
      w'.cell? ⟨d, 3, none⟩ = some y → d < w'.heap.size → (Instr.entry (.pointer (some ⟨r, 0, none⟩))).run P w' = .ok (.tuple #[.int .i64 i, .agg #[.bool u, .string x]]) w' → wpList P ops Q rest (a.put o.dst (.tuple #[.bool true, .int .i64 i, .agg #[.bool u, .string x]])) w') : wpList P ops Q (o :: rest) a w := by
  refine wpList_nextT w hg it hop hit h (fun hl => hDone (hid hl)) fun i v w' k' hv hl hrg hlt ho hen => ?_
  unfold cT at hv
  cases hc : ch i with
  | none => rw [hc] at hv; cases hv
  | some st =>
    rw [hc] at hv
    injection hv with hv
    have e : v = .agg #[.bool st.isSome, .string (bst (st.getD []))] := hv.symm
    subst e
    exact hMore i _ _ w' k' (hid ⟨⟨st, hc, rfl, rfl⟩, hl, hrg, hlt, ho⟩) ((World.cell?_of_block (a := ⟨d, 3, none⟩) (ho.block d hdw (fun e => hdr (Option.some.inj e)))).trans hd) (Nat.lt_of_lt_of_le hdw ho.size) hen
end

set_option maxHeartbeats 8000000 in
set_option maxRecDepth 100000 in
theorem sync_is {w : World} {d g c n cap nc : Nat} {A : Option Addr} {ch : Chg} {fs : List Value} {M R : Nat → Prop} {s : Dk} (h : DIn w d g c A n cap ch nc fs M R s) :
    Calls Try.prog 10 #[.pointer (some ⟨d, 0, none⟩)] w fun e w' => e = .returned (.tuple #[]) ∧ ∃ M' R', DA6 w' d M' R' s.sync ∧ Turns M R w M' R' w' := by
  have HH := hid h
  obtain ⟨d0, d1, d2, d3, d4, d5, _, _, _, _⟩ := six h.blk
  have HL := hid (show g < w.heap.size ∧ d < w.heap.size ∧ g ≠ d ∧ g ≠ c from ⟨h.lt g (.inl h.mg), h.lt d (.inl h.md), h.gt.ne_blk h.blk, h.gc⟩)
  clear h
  go_enter Try.func10, Try.ntmps10
  go_wp2_with (at_range; refine wpList_rangeT _ rfl _ 48 rfl 3 55 Try.underlying48 rfl HH.out.ct ?_; intro w0 hrg0 hb0; have HS0 := hid (show SyL w w0 g c ch nc s.ground s.size (fun i => (cT ch i).isSome) nc from ⟨hrg0, by rw [mix_start]; exact HH.out.gt.below hb0, Within.of_below hb0⟩); clear hrg0 hb0)
  go_frame
  go_loopw [2] (fun _ wr => ∃ (left : Int → Bool) (k : Nat), Kept (SyL w wr g c ch nc s.ground s.size left k)) (fun _ wr => wr.rangeLeft c w.heap.size)
  case atStart => exact ⟨_, _, HS0⟩
  case round =>
    clear HS0
    obtain ⟨left, k, HS⟩ := hrel
    have HBr := hid (show Blk wr d _ _ from (HS.out.wi.block d HL.out.2.1 (fun e => HL.out.2.2.1 e.symm)).trans HH.out.blk)
    obtain ⟨e0, e1, e2, e3, e4, e5, _, _, _, _⟩ := six HBr.out
    have HDR := hid (show d < wr.heap.size ∧ d ≠ w.heap.size from ⟨HBr.out.lt, by have := HL.out.2.1; omega⟩)
    go_wp2_with (first
      | (at_next; refine wpList_nextC _ rfl _ rfl rfl HS.out.rg e3 HDR.out.1 HDR.out.2 (fun HDN => ?_) (fun i u x w1 k1 HQ q3 hdl hen => ?_))
      | (at_delete; refine wpList_drop _ rfl _ _ 48 3 rfl 55 Try.underlying48 Try.underlying3 rfl (HS.out.tab1 HQ.out.2.2.2.2 ((Below.refl _ _).alloc (Nat.le_refl _) (.cells #[.bool false, .string x] 55)) HL.out.1) i rfl ?_; intro w4 ht4 ho4 hs4; have HX4 := hid (And.intro ht4 ho4); clear ht4 ho4 hs4; go_frame))
    · have HG := hid (show Tab wr g (gT s.view) (cnt s.size s.view) by rw [HH.out.pl.view, ← mix_end ch s.ground HDN.out]; exact HS.out.gt)
      go_fit (settle_is HBr.out HG.out)
      rintro e w2 ⟨rfl, hb2, ht2, ho2⟩
      have HX := hid (settled_da HH.out HS.out.wi HG.out HH.out.pl.inV HH.out.pl.lenV hb2 ht2 ho2)
      clear hb2 ht2 ho2
      go_wp2_with fail
      go_end0
      exact ⟨rfl, HX.out⟩
    · have hut : u = true := by assumption
      have HST := hid (show ∃ b, ch i = some (some b) ∧ x = bst b by
        obtain ⟨⟨st, hc, hu, hx⟩, _⟩ := HQ.out
        cases st with
        | none => rw [hut] at hu; cases hu
        | some b => exact ⟨b, hc, hx⟩)
      obtain ⟨b, hcb, hxb⟩ := HST.out
      have HCB := hid hcb
      have HCT := hid (show updT (gT (mixL ch s.ground left)) i (some (.agg #[.bool true, .string x])) = gT (upd (mixL ch s.ground left) i (some b)) by rw [hxb]; exact gT_upd _ _ _)
      clear hcb hxb hut
      have hbl : Below w1.heap.size w1 ((w1.alloc (.cells #[.bool u, .string x] 55)).drew) := ((Below.refl _ _).alloc (Nat.le_refl _) _).drew
      have HB3 := hid hbl
      have HT3 := hid (HS.out.tab1 HQ.out.2.2.2.2 hbl HL.out.1)
      have HY3 := hid (show Blk ((w1.alloc (.cells #[.bool u, .string x] 55)).drew) w1.heap.size 55 #[.bool u, .string x] from Blk.new w1 _ _)
      have p3 : ((w1.alloc (.cells #[.bool u, .string x] 55)).drew).cell? ⟨d, 3, none⟩ = some (.map (some g)) := (hbl.cell (p := ⟨d, 3, none⟩) hdl).trans q3
      clear hbl
      refine wp_region_still_tail 6 (by kernel_rfl) (by kernel_rfl) ?_
      change wpStill _ _ (w1.alloc (.cells #[.bool u, .string x] 55)).drew (fun a' => wpList _ _ _ _ a' (w1.alloc (.cells #[.bool u, .string x] 55)).drew) _ _
      generalize (w1.alloc (.cells #[.bool u, .string x] 55)).drew = w3 at HB3 HT3 HY3 p3 ⊢
      simp only [List.take_succ_cons, List.take_zero, List.drop_succ_cons, List.drop_zero]
      have y0 := HY3.out.cell 0
      have y1 := HY3.out.cell 1
      repeat still_step
      try refine wpStill_nil ?_
      go_wp2_with (at_mapUpdate; refine wpList_put _ rfl _ _ _ 48 rfl 3 55 Try.underlying48 Try.underlying3 rfl HT3.out i rfl (.agg #[.bool true, .string x]) rfl ?_; intro w4 ht4 ho4 hs4; rw [HCT.out] at ht4; have HX4 := hid (And.intro ht4 ho4); clear ht4 ho4 hs4; go_frame)
      have HN := hid (HH.out.pl.inC i (by rw [HCB.out]; simp))
      have HSN := hid (HS.out.step HCB.out HQ.out.2.2.1 HQ.out.2.2.2.2 HB3.out HX4.out.1 (ground_put HN.out.1 HN.out.2 b) HX4.out.2 HL.out.1 HL.out.2.2.2)
      go_roundw
      case rel => exact ⟨_, k1, HSN⟩
      case measure => rw [HSN.out.rg.left_eq, HS.out.rg.left_eq]; exact HQ.out.2.2.2.1
    · have HST := hid (show ch i = some none by
        obtain ⟨⟨st, hc, hu, hx⟩, _⟩ := HQ.out
        cases st with
        | none => exact hc
        | some b => simp_all)
      have HN := hid (HH.out.pl.inC i (by rw [HST.out]; simp))
      have ht4 := HX4.out.1
      rw [gT_del] at ht4
      have HSN := hid (HS.out.step HST.out HQ.out.2.2.1 HQ.out.2.2.2.2 ((Below.refl _ _).alloc (Nat.le_refl _) (.cells #[.bool false, .string x] 55)) ht4 (ground_del HN.out.1 HN.out.2) HX4.out.2 HL.out.1 HL.out.2.2.2)
      clear ht4
      go_roundw
      case rel => exact ⟨_, k1, HSN⟩
      case measure => rw [HSN.out.rg.left_eq, HS.out.rg.left_eq]; exact HQ.out.2.2.2.1

end Go.Proofs.Ytlemoaigcakmcaa
