/-
  Sync: the ground becomes the view. Copy: a disk by itself. Crash: what survives is done to the ground.
-/
import Derived.Test.YtngclmjefadokaaDoorJLay
import Derived.StillTailTactics
import Derived.Lib.SliceRun
namespace Go.Proofs.YtngclmjefadokaaDoor
open Go Go.RowKit

/-- the ground while the changes that are left are still to come -/
def mixL (ch : Chg) (g : Secs) (left : Int → Bool) : Secs := fun i => match ch i with
  | some st => if left i then g i else st
  | none => g i
theorem mix_start (ch : Chg) (g : Secs) : mixL ch g (fun i => (cT ch i).isSome) = g := by
  funext i
  unfold mixL cT
  cases hc : ch i with
  | none => rfl
  | some st => simp only [hc, Option.map_some, Option.isSome_some, if_true]
theorem mix_end (ch : Chg) (g : Secs) {left : Int → Bool} (h : ∀ i, left i = false) : mixL ch g left = over ch g := by
  funext i
  unfold mixL over
  cases ch i <;> simp [h]
theorem mix_step {ch : Chg} {g : Secs} {left : Int → Bool} {i : Int} {st : Option (List UInt8)} (hc : ch i = some st) : mixL ch g (fun j => left j && !decide (j = i)) = upd (mixL ch g left) i st := by
  funext j
  unfold mixL upd
  by_cases h : j = i
  · subst h; rw [hc]; simp
  · simp [h]

/-- behind settle: all of the disk -/
theorem settled_da {w w1 w2 : World} {d g c n cap nc : Nat} {A : Option Addr} {ch : Chg} {fs : List Value} {M R : Nat → Prop} {s : Dk} {G : Secs} (h : DIn w d g c A n cap ch nc fs M R s) (hw1 : Within (fun k => k = g) w w1) (hg1 : Tab w1 g (gT G) (cnt s.size G))
    (hG : ∀ i, G i ≠ none → 0 ≤ i ∧ i < (s.size : Int)) (hl : ∀ i b, G i = some b → b.length ≤ 512)
    (hb2 : Blk w2 d 64 #[.int .i64 (s.size : Int), .int .i64 s.limit, .int .i64 ((cnt s.size G : Nat) : Int), .map (some g), .map (some w1.heap.size), .slice none 0 0]) (ht2 : Tab w2 w1.heap.size (fun _ => none) 0) (ho2 : Only d w1 w2) :
    ∃ M' R', DA6 w2 d M' R' { s with view := G, ground := G, pend := [] } ∧ Turns M R w M' R' w2 := by
  have hgl := hg1.lt
  have hgd : g ≠ d := h.gt.ne_blk h.blk
  have hsz := ht2.lt
  have hws := hw1.size
  have hwm : Within M w w1 := ⟨hw1.os, hw1.tape, hw1.output, hw1.size, fun k hk hm => hw1.block k hk (fun e => hm (by rw [show k = g from e]; exact h.mg))⟩
  refine ⟨fun k => M k ∨ k = w1.heap.size, R, ⟨g, w1.heap.size, none, 0, 0, fun _ => none, 0, [], ?_⟩, (hwm.only ho2 (.inl h.md)).turns (fun k hk => hk.imp id (fun e => by omega)) (fun k hk => .inl hk)⟩
  refine ⟨hb2, hg1.only ho2 hgd, ht2, PRow.nil _ _, Ops.nil _ _, .inl h.md, .inl h.mg, .inr rfl, by omega, fun k hk => ?_, fun k hk hr => ?_, h.pl.settled hG hl⟩
  · rcases hk with (hk | hk) | hk
    · have := h.lt k (.inl hk); omega
    · omega
    · have := h.lt k (.inr hk); omega
  · rcases hk with hk | hk
    · exact h.mr k hk hr
    · have := h.lt k (.inr hr); omega

/-- the loop of Sync under way -/
structure SyL (w wr : World) (g c : Nat) (ch : Chg) (nc : Nat) (G : Secs) (N : Nat) (left : Int → Bool) (k : Nat) : Prop where
  rg : Ranging wr c w.heap.size (cT ch) nc left k
  gt : Tab wr g (gT (mixL ch G left)) (cnt N (mixL ch G left))
  wi : Within (fun k => k = g) w wr
theorem SyL.step {w wr w1 w3 w4 : World} {g c nc N k k1 : Nat} {ch : Chg} {G : Secs} {left : Int → Bool} {i : Int} {st : Option (List UInt8)} (h : SyL w wr g c ch nc G N left k) (hch : ch i = some st) (hrg1 : Ranging w1 c w.heap.size (cT ch) nc (fun j => left j && !decide (j = i)) k1)
    (ho1 : Only w.heap.size wr w1) (hb : Below w1.heap.size w1 w3) {n4 : Nat} (ht4 : Tab w4 g (gT (upd (mixL ch G left) i st)) n4) (hn4 : n4 = cnt N (upd (mixL ch G left) i st)) (ho4 : Only g w3 w4) (hg : g < w.heap.size) (hgc : g ≠ c) :
    SyL w w4 g c ch nc G N (fun j => left j && !decide (j = i)) k1 := by
  subst hn4
  have hs := h.wi.size
  have hb4 : ∀ k, k < w1.heap.size → k ≠ g → w4.heap[k]? = w1.heap[k]? := fun k hk hne => (ho4.block k (Nat.lt_of_lt_of_le hk hb.size) (fun e => hne (Option.some.inj e))).trans (hb.block k hk)
  have hrl := hrg1.lt
  refine ⟨hrg1.of_block (hb4 c hrg1.tab.lt hgc.symm) (hb4 _ hrl (by omega)), by rw [mix_step hch]; exact ht4, ((h.wi.only ho1 (.inr (Nat.le_refl _))).trans (Within.of_below hb)).only ho4 (.inl rfl)⟩
theorem SyL.tab1 {w wr w1 w3 : World} {g c nc N k : Nat} {ch : Chg} {G : Secs} {left : Int → Bool} (h : SyL w wr g c ch nc G N left k) (ho1 : Only w.heap.size wr w1) (hb : Below w1.heap.size w1 w3) (hg : g < w.heap.size) : Tab w3 g (gT (mixL ch G left)) (cnt N (mixL ch G left)) :=
  (h.gt.only ho1 (by omega)).below hb

section
variable {P : Program} (w : World) {ops : Array Oper} {rest : List Oper} {o : Oper} {a : Act} {Q : Exit → Act → World → Prop}
/-- the step, its facts kept -/
theorem wpList_nextC (hg : o.guard = none) (it : Operand) (hop : o.op = Op.next it false) {b r n k : Nat} {ch : Chg} {left : Int → Bool} (hit : a.eval it = .pointer (some ⟨r, 0, none⟩)) (h : Ranging w b r (cT ch) n left k)
    {d : Nat} {y : Value} (hd : w.cell? ⟨d, 3, none⟩ = some y) (hdw : d < w.heap.size) (hdr : d ≠ r)
    (hDone : Kept (∀ i, left i = false) → wpList P ops Q rest (a.put o.dst (.tuple #[.bool false])) w)
    (hMore : ∀ (i : Int) (u : Bool) (x : ByteArray) (w' : World) (k' : Nat), Kept ((∃ st, ch i = some st ∧ u = st.isSome ∧ x = bst (st.getD [])) ∧ left i = true ∧ Ranging w' b r (cT ch) n (fun j => left j && !decide (j = i)) k' ∧ k' < k ∧ Only r w w') →
      w'.cell? ⟨d, 3, none⟩ = some y → d < w'.heap.size → (Instr.entry (.pointer (some ⟨r, 0, none⟩))).run P w' = .ok (.tuple #[.int .i64 i, .agg #[.bool u, .string x]]) w' → wpList P ops Q rest (a.put o.dst (.tuple #[.bool true, .int .i64 i, .agg #[.bool u, .string x]])) w') : wpList P ops Q (o :: rest) a w := by
  refine wpList_nextT w hg it hop hit h (fun hl => hDone (hid hl)) fun i v w' k' hv hl hrg hlt ho hen => ?_
  unfold cT at hv
  cases hc : ch i with
  | none => rw [hc] at hv; cases hv
  | some st =>
    rw [hc] at hv
    injection hv with hv
    have e : v = .agg #[.bool st.isSome, .string (bst (st.getD []))] := hv.symm
    subst e
    exact hMore i _ _ w' k' (hid ⟨⟨st, hc, rfl, rfl⟩, hl, hrg, hlt, ho⟩) ((World.cell?_of_block (a := ⟨d, 3, none⟩) (ho.block d hdw (fun e => hdr (Option.some.inj e)))).trans hd) (Nat.lt_of_lt_of_le hdw ho.size) hen
end

set_option maxHeartbeats 8000000 in
set_option maxRecDepth 100000 in
theorem sync_is {w : World} {d g c n cap nc : Nat} {A : Option Addr} {ch : Chg} {fs : List Value} {M R : Nat → Prop} {s : Dk} (h : DIn w d g c A n cap ch nc fs M R s) :
    Calls Tryd.prog 49 #[.pointer (some ⟨d, 0, none⟩)] w fun e w' => e = .returned (.tuple #[]) ∧ ∃ M' R', DA6 w' d M' R' s.sync ∧ Turns M R w M' R' w' := by
  have HH := hid h
  obtain ⟨d0, d1, d2, d3, d4, d5, _, _, _, _⟩ := six h.blk
  have HL := hid (show g < w.heap.size ∧ d < w.heap.size ∧ g ≠ d ∧ g ≠ c from ⟨h.lt g (.inl h.mg), h.lt d (.inl h.md), h.gt.ne_blk h.blk, h.gc⟩)
  clear h
  go_enter Tryd.func49, Tryd.ntmps49
  go_wp2_with (at_range; refine wpList_rangeT _ rfl _ 61 rfl 3 96 Tryd.underlying61 rfl HH.out.ct ?_; intro w0 hrg0 hb0; have HS0 := hid (show SyL w w0 g c ch nc s.ground s.size (fun i => (cT ch i).isSome) nc from ⟨hrg0, by rw [mix_start]; exact HH.out.gt.below hb0, Within.of_below hb0⟩); clear hrg0 hb0)
  go_frame
  go_loopw [2] (fun _ wr => ∃ (left : Int → Bool) (k : Nat), Kept (SyL w wr g c ch nc s.ground s.size left k)) (fun _ wr => wr.rangeLeft c w.heap.size)
  case atStart => exact ⟨_, _, HS0⟩
  case round =>
    clear HS0
    obtain ⟨left, k, HS⟩ := hrel
    have HBr := hid (show Blk wr d _ _ from (HS.out.wi.block d HL.out.2.1 (fun e => HL.out.2.2.1 e.symm)).trans HH.out.blk)
    obtain ⟨e0, e1, e2, e3, e4, e5, _, _, _, _⟩ := six HBr.out
    have HDR := hid (show d < wr.heap.size ∧ d ≠ w.heap.size from ⟨HBr.out.lt, by have := HL.out.2.1; omega⟩)
    go_wp2_with (first
      | (at_next; refine wpList_nextC _ rfl _ rfl rfl HS.out.rg e3 HDR.out.1 HDR.out.2 (fun HDN => ?_) (fun i u x w1 k1 HQ q3 hdl hen => ?_))
      | (at_delete; refine wpList_drop _ rfl _ _ 61 3 rfl 96 Tryd.underlying61 Tryd.underlying3 rfl (HS.out.tab1 HQ.out.2.2.2.2 ((Below.refl _ _).alloc (Nat.le_refl _) (.cells #[.bool false, .string x] 96)) HL.out.1) i rfl ?_; intro w4 ht4 ho4 hs4; have HX4 := hid (And.intro ht4 ho4); clear ht4 ho4 hs4; go_frame))
    · have HG := hid (show Tab wr g (gT s.view) (cnt s.size s.view) by rw [HH.out.pl.view, ← mix_end ch s.ground HDN.out]; exact HS.out.gt)
      go_fit (settle_is HBr.out HG.out)
      rintro e w2 ⟨rfl, hb2, ht2, ho2⟩
      have HX := hid (settled_da HH.out HS.out.wi HG.out HH.out.pl.inV HH.out.pl.lenV hb2 ht2 ho2)
      clear hb2 ht2 ho2
      go_wp2_with fail
      go_end0
      exact ⟨rfl, HX.out⟩
    · have hut : u = true := by assumption
      have HST := hid (show ∃ b, ch i = some (some b) ∧ x = bst b by
        obtain ⟨⟨st, hc, hu, hx⟩, _⟩ := HQ.out
        cases st with
        | none => rw [hut] at hu; cases hu
        | some b => exact ⟨b, hc, hx⟩)
      obtain ⟨b, hcb, hxb⟩ := HST.out
      have HCB := hid hcb
      have HCT := hid (show updT (gT (mixL ch s.ground left)) i (some (.agg #[.bool true, .string x])) = gT (upd (mixL ch s.ground left) i (some b)) by rw [hxb]; exact gT_upd _ _ _)
      clear hcb hxb hut
      have hbl : Below w1.heap.size w1 ((w1.alloc (.cells #[.bool u, .string x] 96)).drew) := ((Below.refl _ _).alloc (Nat.le_refl _) _).drew
      have HB3 := hid hbl
      have HT3 := hid (HS.out.tab1 HQ.out.2.2.2.2 hbl HL.out.1)
      have HY3 := hid (show Blk ((w1.alloc (.cells #[.bool u, .string x] 96)).drew) w1.heap.size 96 #[.bool u, .string x] from Blk.new w1 _ _)
      have p3 : ((w1.alloc (.cells #[.bool u, .string x] 96)).drew).cell? ⟨d, 3, none⟩ = some (.map (some g)) := (hbl.cell (p := ⟨d, 3, none⟩) hdl).trans q3
      clear hbl
      refine wp_region_still_tail 6 (by kernel_rfl) (by kernel_rfl) ?_
      change wpStill _ _ (w1.alloc (.cells #[.bool u, .string x] 96)).drew (fun a' => wpList _ _ _ _ a' (w1.alloc (.cells #[.bool u, .string x] 96)).drew) _ _
      generalize (w1.alloc (.cells #[.bool u, .string x] 96)).drew = w3 at HB3 HT3 HY3 p3 ⊢
      simp only [List.take_succ_cons, List.take_zero, List.drop_succ_cons, List.drop_zero]
      have y0 := HY3.out.cell 0
      have y1 := HY3.out.cell 1
      repeat still_step
      try refine wpStill_nil ?_
      go_wp2_with (at_mapUpdate; refine wpList_put _ rfl _ _ _ 61 rfl 3 96 Tryd.underlying61 Tryd.underlying3 rfl HT3.out i rfl (.agg #[.bool true, .string x]) rfl ?_; intro w4 ht4 ho4 hs4; rw [HCT.out] at ht4; have HX4 := hid (And.intro ht4 ho4); clear ht4 ho4 hs4; go_frame)
      have HN := hid (HH.out.pl.inC i (by rw [HCB.out]; simp))
      have HSN := hid (HS.out.step HCB.out HQ.out.2.2.1 HQ.out.2.2.2.2 HB3.out HX4.out.1 (ground_put HN.out.1 HN.out.2 b) HX4.out.2 HL.out.1 HL.out.2.2.2)
      go_roundw
      case rel => exact ⟨_, k1, HSN⟩
      case measure => rw [HSN.out.rg.left_eq, HS.out.rg.left_eq]; exact HQ.out.2.2.2.1
    · have HST := hid (show ch i = some none by
        obtain ⟨⟨st, hc, hu, hx⟩, _⟩ := HQ.out
        cases st with
        | none => exact hc
        | some b => simp_all)
      have HN := hid (HH.out.pl.inC i (by rw [HST.out]; simp))
      have ht4 := HX4.out.1
      rw [gT_del] at ht4
      have HSN := hid (HS.out.step HST.out HQ.out.2.2.1 HQ.out.2.2.2.2 ((Below.refl _ _).alloc (Nat.le_refl _) (.cells #[.bool false, .string x] 96)) ht4 (ground_del HN.out.1 HN.out.2) HX4.out.2 HL.out.1 HL.out.2.2.2)
      clear ht4
      go_roundw
      case rel => exact ⟨_, k1, HSN⟩
      case measure => rw [HSN.out.rg.left_eq, HS.out.rg.left_eq]; exact HQ.out.2.2.2.1

end Go.Proofs.YtngclmjefadokaaDoor

namespace Go.Proofs.YtngclmjefadokaaDoor
open Go Go.RowKit

set_option maxHeartbeats 2000000 in
set_option maxRecDepth 100000 in
theorem clone_tab {w : World} {b n : Nat} {T : TabF} (h : Tab w b T n) : Calls Tryd.prog 33 #[.map (some b)] w fun e w' => e = .returned (.map (some w.heap.size)) ∧ Tab w' w.heap.size T n ∧ Below w.heap.size w w' := by
  obtain ⟨es, clock, hb, hr, hs⟩ := h.out
  have HT := hid (show Tab (w.alloc (.map es clock)) w.heap.size T n from ⟨es, clock, heap_alloc_new w _, hr, hs⟩)
  have hq := fun w => run_eql_map_nil_sl (P := Tryd.prog) w 61 _ _ (some b) Tryd.underlying61
  clear h hr hs
  go_enter Tryd.func33, Tryd.ntmps33
  go_wp2
  rw [run_callFunc_extern Tryd.func53 (by kernel_rfl) (by kernel_rfl) (by kernel_rfl) (e := Extern.MapsClone.clone) (by kernel_rfl), run_maps_clone_sl w 61 hb]
  simp only [Result.andThen]
  rw [Oper.upon_value]
  go_wp2
  rw [run_typeAssert_map_sl _ 61 20 _ _ _ Tryd.underlying61]
  simp only [Result.andThen]
  rw [Oper.upon_value]
  go_wp2
  go_ret
  exact ⟨rfl, HT.out, (Below.refl _ _).alloc (Nat.le_refl _) _⟩

/-- append([]operation{}, l...) -/
theorem wpList_clone (w : World) {ops : Array Oper} {rest : List Oper} {o : Oper} {a : Act} {Q : Exit → Act → World → Prop} (hgd : o.guard = none) (s x : Operand)
    (ho : o.op = .call { callee := .builtin .append, args := #[s, x], argTypes := #[62, 62] })
    {q n c : Nat} {ad : Addr} {fs : List Value} (hs : a.eval s = .slice (some ⟨q, 0, none⟩) 0 0) (hq : w.heap[q]? = some (.cells #[] 90 (0, 0))) (hx : a.eval x = .slice (some ad) n c) (hn : n = fs.length)
    (hcell : ∀ j u, fs[j]? = some u → w.cell? (ad.add j) = some u) (h1 : ∀ u ∈ fs, u.oneCell' = true) (hlen : n ≤ 1099511627776)
    (h : ∀ A' c' w', PRow w' (fun k => q ≤ k) A' n c' fs → Below q w w' → wpList Tryd.prog ops Q rest (a.put o.dst (.slice A' n c')) w') : wpList Tryd.prog ops Q (o :: rest) a w := by
  refine wpList_plain hgd fun K hK => ?_
  obtain ⟨i0, hi, hz0, hz1, hz2⟩ := info_parts info_op
  have hlt : q < w.heap.size := (Array.getElem?_eq_some_iff.1 hq).1
  have hown : w.ownsRow q 90 1 (.slice (some ⟨q, 0, none⟩) 0 0) 0 [] := ⟨rfl, .inr ⟨q, 0, #[], rfl, Nat.le_refl _, hq, Nat.le_refl _, Nat.zero_le _, rfl, rfl⟩⟩
  obtain ⟨v', w', hr, h2, h3, _, h5⟩ := run_append_own_at (P := Tryd.prog) w q 62 o.type 90 i0 _ 1 8 Tryd.underlying62 hi hz0 hz1 hz2 rfl (by decide) (.slice (some ⟨q, 0, none⟩) 0 0) 0 [] hown ad n c fs (by omega) hcell h1
    (by unfold maxLen; omega) (by omega) (Nat.le_of_lt hlt)
  rw [Nat.zero_add, List.nil_append] at h2
  unfold Oper.wp execOp
  simp only [ho, resolve, invoke, builtin, Sem.run_bind, Sem.run_pure, Result.andThen_ok, List.map_toArray, List.map_cons, List.map_nil, hs, hx, hr]
  obtain ⟨A', c', rfl⟩ := own_shape h2
  refine hK _ _ (h A' c' w' ⟨hn, ⟨h2.1, ?_⟩, fun g hg => ?_⟩ ⟨h3.os, h3.tape, h3.output, h3.size, fun k hk => h3.block k (by omega) (fun e => by
    have := Option.some.inj e; show False; have e2 : k = q := this; omega)⟩)
  · rcases h2.2 with h0 | ⟨g, cap, cur, hv, _, r⟩
    · exact .inl h0
    · exact .inr ⟨g, cap, cur, hv, Nat.zero_le _, r⟩
  · rcases h5 with e | e
    · rw [e] at hg
      have : q = g := Option.some.inj hg
      omega
    · rw [e] at hg
      have := Option.some.inj hg
      omega

theorem PRow.of_mine {w : World} {M M' : Nat → Prop} {A : Option Addr} {n c : Nat} {fs : List Value} (h : PRow w M A n c fs) (hm : ∀ g, (Value.slice A n c).ownBlock = some g → M' g) : PRow w M' A n c fs := ⟨h.len, h.own, hm⟩
theorem PRow.addr {w : World} {M : Nat → Prop} {A : Option Addr} {n c : Nat} {fs : List Value} (h : PRow w M A n c fs) : (A = none ∧ n = 0 ∧ c = 0) ∨ ∃ g, A = some ⟨g, 0, none⟩ ∧ g < w.heap.size ∧ ∀ j u, fs[j]? = some u → w.cell? ((⟨g, 0, none⟩ : Addr).add j) = some u := by
  rcases h.own.2 with ⟨hv, h0⟩ | ⟨g, cap, cur, hv, _, hg, _⟩
  · injection hv with e1 e2 e3
    exact .inl ⟨e1, h0, e3⟩
  · have hA : A = some ⟨g, 0, none⟩ := by injection hv
    exact .inr ⟨g, hA, (Array.getElem?_eq_some_iff.1 hg).1, fun j u hu => h.own.cells (g := g) (by rw [hA]; rfl) _ _ hu⟩

set_option maxHeartbeats 2000000 in
set_option maxRecDepth 100000 in
theorem clone_row {w : World} {M : Nat → Prop} {A : Option Addr} {n c : Nat} {fs : List Value} (h : PRow w M A n c fs) (h1 : ∀ u ∈ fs, u.oneCell' = true) (hn : n ≤ 1000000) :
    Calls Tryd.prog 34 #[.slice A n c] w fun e w' => ∃ A' c', e = .returned (.slice A' n c') ∧ PRow w' (fun k => w.heap.size ≤ k) A' n c' fs ∧ Below w.heap.size w w' := by
  rcases h.addr with ⟨rfl, rfl, rfl⟩ | ⟨g, rfl, hg, hc⟩
  · have hf : fs = [] := by have := h.len; exact List.eq_nil_of_length_eq_zero this.symm
    subst hf
    have he := fun W => Go.Lib.run_eql_slice_nil (P := Tryd.prog) W 62 90 none 0 0 0 0 Tryd.underlying62
    clear h h1 hn
    go_enter Tryd.func34, Tryd.ntmps34
    go_wp2_with fail
    go_ret
    exact ⟨none, 0, rfl, PRow.nil _ _, Below.refl _ _⟩
  · have HQ := hid (show (w.alloc (.cells #[] 90)).heap[w.heap.size]? = some (.cells #[] 90 (0, 0)) from heap_alloc_new w _)
    have HB := hid (show Below w.heap.size w (w.alloc (.cells #[] 90)) from (Below.refl _ _).alloc (Nat.le_refl _) _)
    have hblk : ∀ j, ((⟨g, 0, none⟩ : Addr).add j).block = g := fun j => by unfold Addr.add; split <;> rfl
    have HC := hid (fun (j : Nat) (u : Value) (hu : fs[j]? = some u) => (World.cell?_of_block (a := (⟨g, 0, none⟩ : Addr).add j) (HB.out.block _ (by rw [hblk]; exact hg))).trans (hc j u hu))
    clear hblk
    have H1 := hid h1
    have HN := hid (show n ≤ 1099511627776 by omega)
    have HL := hid h.len
    have he := fun W => Go.Lib.run_eql_slice_nil (P := Tryd.prog) W 62 90 (some ⟨g, 0, none⟩) n c 0 0 Tryd.underlying62
    clear h h1 hn hc
    go_enter Tryd.func34, Tryd.ntmps34
    go_wp2_with (at_builtin; refine wpList_clone _ rfl _ _ rfl rfl HQ.out rfl HL.out HC.out H1.out HN.out ?_; intro A7 c7 w7 hr7 hb7; have HR7 := hid (And.intro hr7 (HB.out.trans hb7)); clear hr7 hb7)
    go_ret
    exact ⟨A7, c7, rfl, HR7.out.1, HR7.out.2⟩

set_option maxHeartbeats 4000000 in
set_option maxRecDepth 100000 in
theorem copy_is {w : World} {d g c n cap nc : Nat} {A : Option Addr} {ch : Chg} {fs : List Value} {M R : Nat → Prop} {s : Dk} (h : DIn w d g c A n cap ch nc fs M R s) (hpl : s.pend.length ≤ 1000000) :
    Calls Tryd.prog 21 #[.pointer (some ⟨d, 0, none⟩)] w fun e w' =>
      ∃ d2 M2 R2, e = .returned (.pointer (some ⟨d2, 0, none⟩)) ∧ DA6 w' d2 M2 R2 s ∧ (∀ k, M2 k → w.heap.size ≤ k) ∧ (∀ k, R2 k → ¬ M k) ∧ Below w.heap.size w w' := by
  have HH := hid h
  have HD := hid (h.lt d (.inl h.md))
  have HN := hid (show n ≤ 1000000 by have := h.row.len.trans h.ops.len; omega)
  have H1 := hid (show ∀ u ∈ fs, u.oneCell' = true from fun u hu => by
    obtain ⟨k, hk⟩ := List.mem_iff_getElem?.1 hu
    have hkl : k < s.pend.length := by rw [← h.ops.len]; exact (List.getElem?_eq_some_iff.1 hk).1
    exact (h.ops.at_ k _ u (List.getElem?_eq_getElem hkl) hk).one)
  obtain ⟨d0, d1, d2, d3, d4, d5, _, _, _, _⟩ := six h.blk
  have hd := h.lt d (.inl h.md)
  have hb0 : Below w.heap.size w (w.alloc (.cells #[.int .i64 (s.size : Int), .int .i64 s.limit, .int .i64 (s.used : Int), .map (some g), .map (some c), .slice A n cap] 64)) := (Below.refl _ _).alloc (Nat.le_refl _) _
  have HB0 := hid hb0
  have HN0 := hid (Blk.new w 64 #[.int .i64 (s.size : Int), .int .i64 s.limit, .int .i64 (s.used : Int), .map (some g), .map (some c), .slice A n cap])
  have HCL := hid (clone_tab (h.below hb0).gt)
  clear h hpl hb0
  go_enter Tryd.func21, Tryd.ntmps21
  go_wp2_with fail
  generalize w.alloc (.cells #[.int .i64 (s.size : Int), .int .i64 s.limit, .int .i64 (s.used : Int), .map (some g), .map (some c), .slice A n cap] 64) = w0 at *
  go_fit HCL.out
  rintro e w1 ⟨rfl, ht1, hb1⟩
  have HLT := hid (show w.heap.size < w0.heap.size from HN0.out.lt)
  have hn1 := HN0.out.below hb1 HN0.out.lt
  have hbb1 : Below w.heap.size w w1 := HB0.out.trans (hb1.mono (Nat.le_of_lt HLT.out))
  have HN1 := hid (show Blk (w1.setCell ⟨w.heap.size, 3, none⟩ (.map (some w0.heap.size))) w.heap.size 64 #[.int .i64 (s.size : Int), .int .i64 s.limit, .int .i64 (s.used : Int), .map (some w0.heap.size), .map (some c), .slice A n cap] from by simpa using hn1.set 3 (.map (some w0.heap.size)))
  have HB1 := hid (hbb1.setCell (p := ⟨w.heap.size, 3, none⟩) (Nat.le_refl _) (.map (some w0.heap.size)))
  have HG1 := hid (ht1.only (r := w.heap.size) ((Only.refl _ _).set (i := 3) (.map (some w0.heap.size))) (by have := HLT.out; omega))
  have HCC := hid (clone_tab (HH.out.below HB1.out).ct)
  obtain ⟨m0, m1, m2, m3, m4, m5, _, _, _, _⟩ := six hn1
  have k3 : w1.frozen? ⟨w.heap.size, 3, none⟩ = false := hn1.free 3
  have k4 := HB1.out.cell (p := ⟨d, 4, none⟩) HD.out
  rw [d4] at k4
  clear ht1 hb1 hbb1 hn1
  go_wp2_with fail
  generalize w1.setCell ⟨w.heap.size, 3, none⟩ (.map (some w0.heap.size)) = w2 at *
  obtain ⟨g2, hg2⟩ : ∃ g2, g2 = w0.heap.size := ⟨_, rfl⟩
  rw [← hg2] at HN1 HG1
  have HGE := hid (show w.heap.size ≤ g2 by rw [hg2]; exact Nat.le_of_lt HLT.out)
  clear m0 m1 m2 m3 m4 m5 k3 k4
  go_fit HCC.out
  rintro e w3 ⟨rfl, ht3, hb3⟩
  have HLT2 := hid (show w.heap.size < w2.heap.size ∧ g2 < w2.heap.size from ⟨HN1.out.lt, HG1.out.lt⟩)
  have hn3 := HN1.out.below hb3 HN1.out.lt
  have hbb3 : Below w.heap.size w w3 := HB1.out.trans (hb3.mono (Nat.le_of_lt HLT2.out.1))
  have ho3 : Only w.heap.size w3 (w3.setCell ⟨w.heap.size, 4, none⟩ (.map (some w2.heap.size))) := (Only.refl _ _).set _
  have HN3 := hid (show Blk (w3.setCell ⟨w.heap.size, 4, none⟩ (.map (some w2.heap.size))) w.heap.size 64 #[.int .i64 (s.size : Int), .int .i64 s.limit, .int .i64 (s.used : Int), .map (some g2), .map (some w2.heap.size), .slice A n cap] from by simpa using hn3.set 4 (.map (some w2.heap.size)))
  have HB3 := hid (hbb3.setCell (p := ⟨w.heap.size, 4, none⟩) (Nat.le_refl _) (.map (some w2.heap.size)))
  have HG3 := hid ((HG1.out.below hb3).only ho3 (HG1.out.below hb3 |>.ne_blk hn3))
  have HC3 := hid (ht3.only ho3 (ht3.ne_blk hn3))
  have HCR := hid (clone_row (HH.out.below HB3.out).row H1.out HN.out)
  have k3 : w3.frozen? ⟨w.heap.size, 4, none⟩ = false := hn3.free 4
  have m4 : w3.cell? ⟨w.heap.size, 4, none⟩ = some (.map (some c)) := hn3.cell 4
  have k5 := HB3.out.cell (p := ⟨d, 5, none⟩) HD.out
  rw [d5] at k5
  clear ht3 hb3 hbb3 ho3 hn3
  go_wp2_with fail
  generalize w3.setCell ⟨w.heap.size, 4, none⟩ (.map (some w2.heap.size)) = w4 at *
  obtain ⟨c2, hc2⟩ : ∃ c2, c2 = w2.heap.size := ⟨_, rfl⟩
  rw [← hc2] at HN3 HC3
  have HGE2 := hid (show w.heap.size ≤ c2 ∧ g2 ≠ c2 by rw [hc2]; exact ⟨Nat.le_of_lt HLT2.out.1, by have := HLT2.out.2; omega⟩)
  clear m4 k3 k5
  go_fit HCR.out
  rintro e w5 ⟨A', c', rfl, hr5, hb5⟩
  have hn5 := HN3.out.below hb5 HN3.out.lt
  have hbb5 : Below w.heap.size w w5 := HB3.out.trans (hb5.mono (Nat.le_of_lt HN3.out.lt))
  have k6 : w5.frozen? ⟨w.heap.size, 5, none⟩ = false := hn5.free 5
  have m5 : w5.cell? ⟨w.heap.size, 5, none⟩ = some (.slice A n cap) := hn5.cell 5
  have ho5 : Only w.heap.size w5 (w5.setCell ⟨w.heap.size, 5, none⟩ (.slice A' n c')) := (Only.refl _ _).set _
  have HN5 := hid (show Blk (w5.setCell ⟨w.heap.size, 5, none⟩ (.slice A' n c')) w.heap.size 64 #[.int .i64 (s.size : Int), .int .i64 s.limit, .int .i64 (s.used : Int), .map (some g2), .map (some c2), .slice A' n c'] from by simpa using hn5.set 5 (.slice A' n c'))
  have HB5 := hid (hbb5.setCell (p := ⟨w.heap.size, 5, none⟩) (Nat.le_refl _) (.slice A' n c'))
  have HG5 := hid ((HG3.out.below hb5).only ho5 (HG3.out.below hb5 |>.ne_blk hn5))
  have HC5 := hid ((HC3.out.below hb5).only ho5 (HC3.out.below hb5 |>.ne_blk hn5))
  have HR5 := hid (hr5.only ho5 (hr5.ne hn5 (by decide)))
  have HWS := hid (show w.heap.size < w4.heap.size from HN3.out.lt)
  clear hr5 hb5 hbb5 ho5 hn5 hg2 hc2
  go_wp2_with fail
  generalize w5.setCell ⟨w.heap.size, 5, none⟩ (.slice A' n c') = w6 at *
  go_ret
  refine ⟨w.heap.size, fun k => w.heap.size ≤ k ∧ k < w6.heap.size, R, rfl, ⟨g2, c2, A', n, c', ch, nc, fs, ?_⟩, fun k hk => hk.1, fun k hk hm => HH.out.mr k hm hk, HB5.out⟩
  exact ⟨HN5.out, HG5.out, HC5.out, HR5.out.of_mine (fun k hk => ⟨by have := HR5.out.mine k hk; have := HWS.out; omega, HR5.out.lt k hk⟩), HH.out.ops.keep (fun k hk => HB5.out.block k (HH.out.lt k (.inr hk))), ⟨Nat.le_refl _, HN5.out.lt⟩, ⟨HGE.out, HG5.out.lt⟩, ⟨HGE2.out.1, HC5.out.lt⟩, HGE2.out.2,
    fun k hk => hk.elim (fun hk => hk.2) (fun hk => Nat.lt_of_lt_of_le (HH.out.lt k (.inr hk)) HB5.out.size), fun k hk hr => by have := HH.out.lt k (.inr hr); omega, HH.out.pl⟩

end Go.Proofs.YtngclmjefadokaaDoor

namespace Go.Proofs.YtngclmjefadokaaDoor
open Go Go.RowKit

/-! ### plain -/
/-- the first element of each operation -/
def sT (l : List (Int × Int)) : TabF := fun i => ((l.find? fun s => s.1 == i).map (·.2)).map fun n => .int .i64 n
theorem sT_nil : sT [] = fun _ => none := rfl
theorem sT_old {l : List (Int × Int)} {x : Int × Int} (h : (sT l x.1).isSome = true) : sT (l ++ [x]) = sT l := by
  funext i
  unfold sT at h ⊢
  rw [List.find?_append]
  by_cases hi : i = x.1
  · subst hi
    cases hf : l.find? (fun s => s.1 == x.1) with
    | none => rw [hf] at h; cases h
    | some y => rfl
  · have : [x].find? (fun s => s.1 == i) = none := by simp; exact fun e => hi e.symm
    rw [this]
    cases l.find? (fun s => s.1 == i) <;> rfl
theorem sT_new {l : List (Int × Int)} {x : Int × Int} (h : (sT l x.1).isSome = false) : updT (sT l) x.1 (some (.int .i64 x.2)) = sT (l ++ [x]) := by
  funext i
  unfold updT
  unfold sT at h ⊢
  rw [List.find?_append]
  by_cases hi : i = x.1
  · subst hi
    cases hf : l.find? (fun s => s.1 == x.1) with
    | none => simp
    | some y => rw [hf] at h; cases h
  · have : [x].find? (fun s => s.1 == i) = none := by simp; exact fun e => hi e.symm
    rw [this, if_neg hi]
    cases l.find? (fun s => s.1 == i) <;> rfl
theorem sT_survive (l : List (Int × Int)) (k : Nat) : sT l (k : Int) = (survive l k).map fun n => .int .i64 n := rfl
theorem crashG_snoc (l : List (Int × Int)) (o : POp) : ∀ (os : List POp) (j : Nat) (g : Secs), crashG l j g (os ++ [o]) = match survive l (j + os.length) with
    | some n => applyOp (crashG l j g os) o n
    | none => crashG l j g os
  | [], j, g => by
    simp only [List.nil_append, List.length_nil, Nat.add_zero]
    unfold crashG
    cases survive l j <;> rfl
  | p :: os, j, g => by
    rw [List.cons_append, List.length_cons]
    unfold crashG
    rw [crashG_snoc l o os (j + 1)]
    rw [show j + 1 + os.length = j + (os.length + 1) by omega]
/-- the ground behind the first k operations -/
def cG (l : List (Int × Int)) (s : Dk) (k : Nat) : Secs := crashG l 0 s.ground (s.pend.take k)
theorem cG_zero (l : List (Int × Int)) (s : Dk) : cG l s 0 = s.ground := by unfold cG; rw [List.take_zero]; rfl
theorem cG_all (l : List (Int × Int)) (s : Dk) {k : Nat} (hk : s.pend.length ≤ k) : cG l s k = crashG l 0 s.ground s.pend := by unfold cG; rw [List.take_of_length_le hk]
theorem cG_step {l : List (Int × Int)} {s : Dk} {k : Nat} {o : POp} (ho : s.pend[k]? = some o) : cG l s (k + 1) = match survive l k with
    | some n => applyOp (cG l s k) o n
    | none => cG l s k := by
  have hk := (List.getElem?_eq_some_iff.1 ho).1
  unfold cG
  rw [List.take_add_one, ho, Option.toList_some, crashG_snoc, List.length_take, Nat.min_eq_left (Nat.le_of_lt hk), Nat.zero_add]
/-- what holds of the ground on the way -/
structure GOk (s : Dk) (G : Secs) : Prop where
  inG : ∀ i, G i ≠ none → 0 ≤ i ∧ i < (s.size : Int)
  lenG : ∀ i b, G i = some b → b.length ≤ 512
theorem GOk.apply {s : Dk} {G : Secs} (h : GOk s G) {o : POp} (h0 : 0 ≤ o.i ∧ o.i < (s.size : Int)) (hb : ∀ b, o.b = some b → b.length ≤ 512) (n : Int) : GOk s (applyOp G o n) := by
  unfold applyOp
  refine ⟨fun i hi => ?_, fun i b hi => ?_⟩
  · by_cases e : i = o.i
    · subst e; exact h0
    · rw [upd_other _ _ e] at hi; exact h.inG i hi
  · by_cases e : i = o.i
    · subst e
      rw [upd_same] at hi
      cases hob : o.b with
      | none => rw [hob] at hi; cases hi
      | some x =>
        rw [hob] at hi
        injection hi with hi
        rw [← hi]
        exact torn_len (hb x hob) (fun y hy => h.lenG _ y hy)
    · rw [upd_other _ _ e] at hi; exact h.lenG i b hi
theorem cG_ok {s : Dk} {ch : Chg} (h : DPl s ch) (l : List (Int × Int)) : ∀ k, k ≤ s.pend.length → GOk s (cG l s k)
  | 0, _ => by rw [cG_zero]; exact ⟨h.inG, h.lenG⟩
  | k + 1, hk => by
    have ih := cG_ok h l k (by omega)
    have ho : s.pend[k]? = some (s.pend[k]'(by omega)) := List.getElem?_eq_getElem _
    have hm := List.mem_of_getElem? ho
    rw [cG_step ho]
    cases survive l k with
    | none => exact ih
    | some n => exact ih.apply (h.inP _ hm) (h.lenP _ hm) n

/-- the second loop of Crash under way: sb is the block of what survives -/
structure CrL (w1 wr : World) (g sb : Nat) (l : List (Int × Int)) (ns : Nat) (s : Dk) (k : Nat) : Prop where
  gt : Tab wr g (gT (cG l s k)) (cnt s.size (cG l s k))
  sv : Tab wr sb (sT l) ns
  wi : Within (fun k => k = g) w1 wr
theorem Within.row {w w' : World} {M : Nat → Prop} {A : Option Addr} {n c g k : Nat} {T : TabF} {fs : List Value} (h : Within (fun k => k = g) w w') (hr : PRow w M A n c fs) (hg : Tab w g T k) : PRow w' M A n c fs :=
  hr.of_block fun q hq => h.block q (hr.lt q hq) (fun e => (hr.ne_tab hg) q hq e)
theorem CrL.step {w1 wr w' : World} {g sb ns k : Nat} {l : List (Int × Int)} {s : Dk} (h : CrL w1 wr g sb l ns s k) {G : Secs} (hG : cG l s (k + 1) = G) (ht : Tab w' g (gT G) (cnt s.size G)) (hw : Within (fun k => k = g) wr w') (hsb : sb ≠ g) : CrL w1 w' g sb l ns s (k + 1) :=
  ⟨by rw [hG]; exact ht, h.sv.of_block (hw.block sb h.sv.lt hsb), h.wi.trans hw⟩
theorem CrL.stay {w1 wr : World} {g sb ns k : Nat} {l : List (Int × Int)} {s : Dk} (h : CrL w1 wr g sb l ns s k) (hG : cG l s (k + 1) = cG l s k) : CrL w1 wr g sb l ns s (k + 1) := ⟨by rw [hG]; exact h.gt, h.sv, h.wi⟩

theorem PRow.wrap {w : World} {M : Nat → Prop} {A : Option Addr} {n c : Nat} {fs : List Value} (h : PRow w M A n c fs) {j : Nat} (hj : j < n) : wrap64 ((j : Int) + 1) = (j : Int) + 1 := by
  rcases h.own.2 with ⟨_, h0⟩ | ⟨g, cap, cur, hv, _, _, h1, h2, _⟩
  · omega
  · have h3 : ((cap : Nat) : Int) ≤ 9223372036854775807 := by unfold maxLen at h2; omega
    unfold wrap64
    omega

theorem less_left {n j : Nat} (hj : j < n) (hw : wrap64 ((j : Int) + 1) = (j : Int) + 1) : n - (intOf (.int .i64 (wrap64 ((j : Int) + 1)))).toNat < n - (intOf (.int .i64 (j : Int))).toNat := by
  rw [hw]; simp [intOf]; omega

set_option maxHeartbeats 8000000 in
set_option maxRecDepth 100000 in
theorem crash_is {w : World} {d g c n cap nc : Nat} {A : Option Addr} {ch : Chg} {fs : List Value} {M R : Nat → Prop} {s : Dk} (h : DIn w d g c A n cap ch nc fs M R s) {Al : Option Addr} {m cl B : Nat} {l : List (Int × Int)} (hA : SvAt w B Al l) (hm : m = l.length) (hB : B ≤ w.heap.size) (hml : m ≤ 70368744177664) :
    Calls Tryd.prog 15 #[.pointer (some ⟨d, 0, none⟩), .slice Al m cl] w fun e w' => e = .returned (.tuple #[]) ∧ ∃ M' R', DA6 w' d M' R' (s.crash l) ∧ Turns M R w M' R' w' := by
  have HH := hid h
  have HA := hid (hA.more hB)
  have HM := hid hm
  have HNL := hid (show n = s.pend.length from h.row.len.trans h.ops.len)
  have HL := hid (show g < w.heap.size ∧ d < w.heap.size ∧ g ≠ d ∧ g ≠ c from ⟨h.lt g (.inl h.mg), h.lt d (.inl h.md), h.gt.ne_blk h.blk, h.gc⟩)
  have hmm := @run_makeMap Tryd.prog
  have HT0 := hid (show Tab (w.alloc (.map #[] 0)) w.heap.size (sT (l.take 0)) 0 from Tab.made w)
  have HB0 := hid (show Below w.heap.size w (w.alloc (.map #[] 0)) from (Below.refl _ _).alloc (Nat.le_refl _) _)
  clear h hA hm hB
  go_enter Tryd.func15, Tryd.ntmps15
  go_wp2_with fail
  go_loopw [16] (fun i wr => ∃ k nk : Nat, k ≤ m ∧ i = .int .i64 (k : Int) ∧ Kept (Tab wr w.heap.size (sT (l.take k)) nk) ∧ Kept (Below w.heap.size w wr)) (fun i _ => m - (intOf i).toNat)
  case atStart => exact ⟨0, 0, Nat.zero_le _, rfl, HT0, HB0⟩
  case round =>
    clear HT0 HB0
    obtain ⟨k, nk, hk, rfl, HT, HB⟩ := hrel
    by_cases hlt : k < m
    · have hx : l[k]? = some (l[k]'(by have := HM.out; omega)) := List.getElem?_eq_getElem _
      obtain ⟨x, hxe⟩ : ∃ x, x = l[k]'(by have := HM.out; omega) := ⟨_, rfl⟩
      rw [← hxe] at hx
      obtain ⟨b, off, rfl, hbl, hc⟩ := (HA.out.below HB.out) (by have := HM.out; omega)
      obtain ⟨c0, c1⟩ := hc k x hx
      have HTK := hid (show l.take (k + 1) = l.take k ++ [x] by rw [List.take_add_one, hx]; rfl)
      clear hc hx hxe hbl
      cases hs : sT (l.take k) x.1 with
      | some v =>
        have HS := hid (show ∃ q, (sT (l.take k) x.1).getD (.int .i64 0) = .int .i64 q by
          unfold sT
          cases (l.take k).find? (fun s => s.1 == x.1) with
          | none => exact ⟨0, rfl⟩
          | some y => exact ⟨y.2, rfl⟩)
        have HS2 := hid (show (sT (l.take k) x.1).isSome = true by rw [hs]; rfl)
        clear hs
        obtain ⟨q, hq⟩ := HS.out
        have HQ := hid hq
        clear hq
        go_wp2_with (at_lookup; refine wpList_lookOk _ rfl _ _ 87 rfl 3 3 Tryd.underlying87 Tryd.underlying3 (zero_int _) rfl (HT.out.alloc _) x.1 rfl HQ.out HS2.out ?_)
        go_roundw
        case rel => exact ⟨k + 1, nk, by omega, by go_num, hid (by rw [HTK.out, sT_old HS2.out]; exact HT.out.alloc _), hid (HB.out.alloc HB.out.size _)⟩
        case measure => simp [intOf]; omega
      | none =>
        have HS := hid (show (sT (l.take k) x.1).getD (.int .i64 0) = .int .i64 0 ∧ (sT (l.take k) x.1).isSome = false by rw [hs]; exact ⟨rfl, rfl⟩)
        clear hs
        go_wp2_with (first
          | (at_lookup; refine wpList_lookOk _ rfl _ _ 87 rfl 3 3 Tryd.underlying87 Tryd.underlying3 (zero_int _) rfl (HT.out.alloc _) x.1 rfl HS.out.1 HS.out.2 ?_)
          | (at_mapUpdate; refine wpList_put _ rfl _ _ _ 87 rfl 3 3 Tryd.underlying87 Tryd.underlying3 rfl (HT.out.alloc _) x.1 rfl (.int .i64 x.2) rfl ?_; intro w4 ht4 ho4 hs4; rw [sT_new HS.out.2, ← HTK.out] at ht4; have HX4 := hid (And.intro ht4 ho4); clear ht4 ho4 hs4; go_frame))
        have HB4 := hid (show Below w.heap.size w w4 from (HB.out.alloc HB.out.size (.cells #[.int .i64 x.1, .int .i64 x.2] 67)).trans (HX4.out.2.below (Nat.le_refl _) (by have := HB.out.size; simp; omega)))
        refine ⟨⟨k + 1, _, by omega, by go_num, hid HX4.out.1, HB4⟩, by simp [intOf]; omega⟩
    · obtain rfl : k = m := by omega
      obtain ⟨w1, hw1⟩ : ∃ w1, w1 = wr := ⟨_, rfl⟩
      subst hw1
      have HS1 := hid (show Tab w1 w.heap.size (sT l) nk by rw [← List.take_of_length_le (l := l) (i := k) (by have := HM.out; omega)]; exact HT.out)
      have HD1 := hid (HH.out.below HB.out)
      have HSZ := hid (show g < w1.heap.size ∧ w.heap.size ≠ g from ⟨Nat.lt_of_lt_of_le HL.out.1 HB.out.size, by have := HL.out.1; omega⟩)
      obtain ⟨e0, e1, e2, e3, e4, e5, _, _, _, _⟩ := six HD1.out.blk
      have HC0 := hid (show CrL w1 w1 g w.heap.size l nk s 0 from ⟨by rw [cG_zero]; exact HD1.out.gt, HS1.out, Within.refl _ _⟩)
      clear hlt HT hml
      go_wp2_with fail
      go_loopw [40] (fun i wq => ∃ j : Nat, j ≤ n ∧ i = .int .i64 (j : Int) ∧ Kept (CrL w1 wq g w.heap.size l nk s j)) (fun i _ => n - (intOf i).toNat)
      case atStart => exact ⟨0, Nat.zero_le _, rfl, HC0⟩
      case round =>
        clear HC0
        obtain ⟨j, hj, rfl, HC⟩ := hrel
        have HBq := hid (show Blk wr d _ _ from (HC.out.wi.block d HD1.out.blk.lt (fun e => HL.out.2.2.1 e.symm)).trans HD1.out.blk)
        obtain ⟨q0, q1, q2, q3, q4, q5, _, _, _, _⟩ := six HBq.out
        by_cases hjn : j < n
        · obtain ⟨gq, f, rfl, _, hf, hcell⟩ := (HC.out.wi.row HD1.out.row HD1.out.gt).get hjn
          have hwr : wrap64 ((j : Int) + 1) = (j : Int) + 1 := HD1.out.row.wrap hjn
          have HME := hid (less_left hjn hwr)
          have hjp : j < s.pend.length := by rw [← HNL.out]; exact hjn
          obtain ⟨o, ho⟩ : ∃ o, s.pend[j]? = some o := ⟨_, List.getElem?_eq_getElem hjp⟩
          have HO := hid ho
          have HOM := hid (List.mem_of_getElem? ho)
          have HOK := hid (cG_ok HH.out.pl l j (Nat.le_of_lt hjp))
          have hop : OpV wr R o f := (HD1.out.ops.at_ j o f ho hf).keep (fun k hk => HC.out.wi.block k (HD1.out.lt k (.inr hk)) (fun e => HD1.out.mr g HD1.out.mg (by rw [← show k = g from e]; exact hk)))
          clear ho hjp hf
          cases hsv : survive l j with
          | none =>
            have HST := hid (HC.out.stay (by rw [cG_step HO.out, hsv]))
            have HS := hid (show (sT l (j : Int)).getD (.int .i64 0) = .int .i64 0 ∧ (sT l (j : Int)).isSome = false by rw [sT_survive, hsv]; exact ⟨rfl, rfl⟩)
            clear hsv hop
            go_wp2_with (at_lookup; refine wpList_lookOk _ rfl _ _ 87 rfl 3 3 Tryd.underlying87 Tryd.underlying3 (zero_int _) rfl HC.out.sv (j : Int) rfl HS.out.1 HS.out.2 ?_)
            go_roundw
            case rel => exact ⟨j + 1, by omega, by go_num, HST⟩
            case measure => exact HME.out
          | some q =>
            have HS := hid (show (sT l (j : Int)).getD (.int .i64 0) = .int .i64 q ∧ (sT l (j : Int)).isSome = true by rw [sT_survive, hsv]; exact ⟨rfl, rfl⟩)
            have HG := hid (show cG l s (j + 1) = applyOp (cG l s j) o q by rw [cG_step HO.out, hsv])
            have HIN := hid (HH.out.pl.inP o HOM.out)
            clear hsv
            obtain ⟨bi, _, hbi, hm⟩ := hop
            have HBI := hid hbi
            clear hbi
            cases hob : o.b with
            | none =>
              rw [hob] at hm
              obtain rfl := hm
              have HCL := hid (freed_is HC.out.gt HBI.out q (ground_del HIN.out.1 HIN.out.2))
              have HAP := hid (show applyOp (cG l s j) o q = upd (cG l s j) o.i none by unfold applyOp; rw [hob]; rfl)
              clear hob
              go_wp2_with (at_lookup; refine wpList_lookOk _ rfl _ _ 87 rfl 3 3 Tryd.underlying87 Tryd.underlying3 (zero_int _) rfl HC.out.sv (j : Int) rfl HS.out.1 HS.out.2 ?_)
              go_fit HCL.out
              rintro e w5 ⟨rfl, ht5, hw5⟩
              rw [gT_del] at ht5
              have HST := hid (HC.out.step (HG.out.trans HAP.out) ht5 hw5 HSZ.out.2)
              clear ht5 hw5
              go_wp2_with fail
              go_roundw
              case rel => exact ⟨j + 1, by omega, by go_num, HST⟩
              case measure => exact HME.out
            | some b =>
              rw [hob] at hm
              obtain ⟨bb, _, hbb, rfl⟩ := hm
              have HCL := hid (wrote_is HC.out.gt HBI.out hbb q (HH.out.pl.lenP o HOM.out b hob) (fun x hx => HOK.out.lenG _ x hx) (ground_put HIN.out.1 HIN.out.2 (torn b (cG l s j o.i) q)))
              have HAP := hid (show applyOp (cG l s j) o q = upd (cG l s j) o.i (some (torn b (cG l s j o.i) q)) by unfold applyOp; rw [hob]; rfl)
              clear hob hbb
              go_wp2_with (at_lookup; refine wpList_lookOk _ rfl _ _ 87 rfl 3 3 Tryd.underlying87 Tryd.underlying3 (zero_int _) rfl HC.out.sv (j : Int) rfl HS.out.1 HS.out.2 ?_)
              go_fit HCL.out
              rintro e w5 ⟨rfl, ht5, hw5⟩
              rw [gT_upd] at ht5
              have HST := hid (HC.out.step (HG.out.trans HAP.out) ht5 hw5 HSZ.out.2)
              clear ht5 hw5
              go_wp2_with fail
              go_roundw
              case rel => exact ⟨j + 1, by omega, by go_num, HST⟩
              case measure => exact HME.out
        · obtain rfl : j = n := by omega
          have HG := hid (show cG l s j = crashG l 0 s.ground s.pend from cG_all l s (by rw [← HNL.out]; exact Nat.le_refl _))
          have HOK := hid (cG_ok HH.out.pl l j (by rw [← HNL.out]; exact Nat.le_refl _))
          go_wp2_with fail
          go_fit (settle_is HBq.out HC.out.gt)
          rintro e w2 ⟨rfl, hb2, ht2, ho2⟩
          obtain ⟨M', R', h1, h2⟩ := settled_da HD1.out HC.out.wi HC.out.gt HOK.out.inG HOK.out.lenG hb2 ht2 ho2
          rw [HG.out] at h1
          have HX := hid (And.intro h1 (Turns.behind HB.out h2))
          clear hb2 ht2 ho2 h1 h2
          go_wp2_with fail
          go_end0
          exact ⟨rfl, M', R', HX.out.1, HX.out.2⟩

end Go.Proofs.YtngclmjefadokaaDoor
