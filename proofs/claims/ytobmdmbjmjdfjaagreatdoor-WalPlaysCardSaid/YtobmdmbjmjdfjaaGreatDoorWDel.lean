/-
  The records up to a number are taken out.
-/
import Derived.Test.YtobmdmbjmjdfjaaGreatDoorWGather
import Derived.Lib.SliceRun
namespace Go.Proofs.YtobmdmbjmjdfjaaGreatDoor
open Go Go.RowKit

structure RcBlk (w : World) (g : Nat) (L : List Rc) : Prop where
  at_ : ∀ t x, L[t]? = some x → w.cell? ⟨g, t * 2, none⟩ = some (.int .u64 (x.1 : Int)) ∧ w.cell? ⟨g, t * 2 + 1, none⟩ = some (.string (bst x.2))
  fr : ∀ q, w.frozen? ⟨g, q, none⟩ = false
  lt : g < w.heap.size
theorem RcBlk.below {w w' : World} {g : Nat} {L : List Rc} (h : RcBlk w g L) (hb : Below w.heap.size w w') : RcBlk w' g L :=
  ⟨fun t x hx => ⟨(hb.cell (p := ⟨g, _, none⟩) h.lt).trans (h.at_ t x hx).1, (hb.cell (p := ⟨g, _, none⟩) h.lt).trans (h.at_ t x hx).2⟩, fun q => by
    have := hb.block g h.lt
    have e := h.fr q
    unfold World.frozen? at e ⊢
    rw [this]
    exact e, Nat.lt_of_lt_of_le h.lt hb.size⟩
theorem RcBlk.set {w : World} {g i : Nat} {L : List Rc} (h : RcBlk w g L) (hi : i < L.length) (x : Rc) : RcBlk ((w.setCell ⟨g, i * 2, none⟩ (.int .u64 (x.1 : Int))).setCell ⟨g, i * 2 + 1, none⟩ (.string (bst x.2))) g (L.set i x) := by
  obtain ⟨c0, c1⟩ := h.at_ i _ (List.getElem?_eq_getElem hi)
  have s0 : (w.setCell ⟨g, i * 2, none⟩ (.int .u64 (x.1 : Int))).cell? ⟨g, i * 2, none⟩ = some (.int .u64 (x.1 : Int)) := World.cell?_setCell_same _ _ _ (by rw [c0])
  have s1 : ∀ v : Value, ((w.setCell ⟨g, i * 2, none⟩ v).setCell ⟨g, i * 2 + 1, none⟩ (.string (bst x.2))).cell? ⟨g, i * 2 + 1, none⟩ = some (.string (bst x.2)) := fun v => World.cell?_setCell_same _ _ _ (by
    rw [World.cell?_setCell_other _ _ _ _ (fun e => by injection e with _ e _; omega), c1])
  refine ⟨fun t y hy => ?_, fun q => by rw [World.frozen?_setCell, World.frozen?_setCell]; exact h.fr q, by simpa using h.lt⟩
  by_cases e : t = i
  · subst e
    rw [List.getElem?_set_self hi] at hy
    injection hy with hy
    subst hy
    exact ⟨by rw [World.cell?_setCell_other _ _ _ _ (fun e => by injection e with _ e _; omega)]; exact s0, s1 _⟩
  · rw [List.getElem?_set_ne (by omega)] at hy
    obtain ⟨d0, d1⟩ := h.at_ t y hy
    exact ⟨by rw [World.cell?_setCell_other _ _ _ _ (fun e => by injection e with _ e _; omega), World.cell?_setCell_other _ _ _ _ (fun e => by injection e with _ e _; omega)]; exact d0, by rw [World.cell?_setCell_other _ _ _ _ (fun e => by injection e with _ e _; omega), World.cell?_setCell_other _ _ _ _ (fun e => by injection e with _ e _; omega)]; exact d1⟩
theorem RcBlk.of {w : World} {base g m c : Nat} {L : List Rc} (h : GRow eRc 70 w base (some ⟨g, 0, none⟩) m c L) : RcBlk w g L := by
  have hl := (h.2.lt g rfl).2
  refine ⟨fun t x hx => ?_, fun q => ?_, hl⟩
  · have ht := (List.getElem?_eq_some_iff.1 hx).1
    obtain ⟨b, off, y, e, hb, hy, c0, c1⟩ := h.at_.rc ht
    injection e with e
    injection e with e1 e2 _
    subst e1 e2
    rw [hx] at hy
    injection hy with hy
    subst hy
    rw [Nat.zero_add] at c0 c1
    exact ⟨c0, c1⟩
  · rcases h.2.2 with ⟨hv, _⟩ | ⟨g', cap, cur, hv, _, hg, _⟩
    · injection hv with e; cases e
    · injection hv with e
      injection e with e
      injection e with e
      subst e
      simp [World.frozen?, hg]
theorem setCells_within (g : Nat) : ∀ (vs : List Value) (o : Nat) (w : World), Within (fun k => k = g) w (w.setCells g o vs)
  | [], _, _ => Within.refl _ _
  | v :: r, o, w => (show Within (fun k => k = g) w (w.setCell ⟨g, o, none⟩ v) from ⟨rfl, rfl, rfl, by simp, fun k _ hne => Below.heap_setCell w _ _ _ hne⟩).trans (setCells_within g r (o + 1) _)
theorem run_clear_rc {w : World} {g i n c : Nat} {L : List Rc} (h : RcBlk w g L) (hi : i < L.length) (hn : n = L.length - i) :
    ∃ w', (∀ ty : TypeId, (Builtin.clear_ #[38] ty #[.slice (some ⟨g, i * 2, none⟩) n c]).run Tryz.prog w = .ok (.tuple #[]) w') ∧ Within (fun k => k = g) w w' ∧ ∀ t x, t < i → L[t]? = some x → w'.cell? ⟨g, t * 2, none⟩ = some (.int .u64 (x.1 : Int)) ∧ w'.cell? ⟨g, t * 2 + 1, none⟩ = some (.string (bst x.2)) := by
  obtain ⟨i0, hi0, hz0, hz1, hz2⟩ := info_parts info_rc
  have hv : ∀ w, (zeroValue 70).run Tryz.prog w = .ok (.agg #[.int .u64 0, .string ⟨#[]⟩]) w := fun w => by simp [zeroValue, typeInfo, hi0, hz0]
  obtain ⟨vs, hvs⟩ : ∃ vs, vs = (Builtin.zeroCells (Value.cells (.agg #[.int .u64 0, .string ⟨#[]⟩])) n).toList := ⟨_, rfl⟩
  have hlen : vs.length = n * 2 := by rw [hvs]; simp [Builtin.zeroCells, Value.cells]
  have hone : ∀ v ∈ vs, v.oneCell' = true := by
    intro v hv
    rw [hvs] at hv
    simp only [Builtin.zeroCells, Value.cells] at hv
    simp at hv
    obtain ⟨a, ha, rfl⟩ := hv
    have : a % 2 = 0 ∨ a % 2 = 1 := by omega
    rcases this with e | e <;> simp [e] <;> rfl
  have hsome : ∀ j, j < n * 2 → (w.cell? ⟨g, i * 2 + j, none⟩).isSome = true := fun j hj => by
    have ht : i + j / 2 < L.length := by omega
    obtain ⟨c0, c1⟩ := h.at_ _ _ (List.getElem?_eq_getElem ht)
    have : j % 2 = 0 ∨ j % 2 = 1 := by omega
    rcases this with e | e
    · rw [show i * 2 + j = (i + j / 2) * 2 by omega, c0]; rfl
    · rw [show i * 2 + j = (i + j / 2) * 2 + 1 by omega, c1]; rfl
  have hst := run_storeCells_cells (P := Tryz.prog) g (i * 2) vs 0 w (by intro j hj; simpa using hsome j (by omega)) (by intro j hj; simpa using h.fr _) hone
  simp only [Nat.add_zero] at hst
  refine ⟨w.setCells g (i * 2) vs, ?_, setCells_within g vs _ w, fun t x ht hx => ?_⟩
  · intro ty
    obtain ⟨m, rfl⟩ : ∃ m, n = m + 1 := ⟨n - 1, by omega⟩
    have e : (Builtin.zeroCells (Value.cells (.agg #[.int .u64 0, .string ⟨#[]⟩])) (m + 1)).toList = vs := hvs.symm
    simp [Builtin.clear_, run_underlying Tryz.underlying38, hv, e, hst]
  · obtain ⟨c0, c1⟩ := h.at_ t x hx
    exact ⟨(World.cell?_setCells_out _ _ _ _ _ (fun _ _ => .inl (by dsimp only; omega))).trans c0, (World.cell?_setCells_out _ _ _ _ _ (fun _ _ => .inl (by dsimp only; omega))).trans c1⟩

set_option maxHeartbeats 8000000 in
set_option maxRecDepth 100000 in
theorem del1_is {w : World} {gf : Nat} {fr : Nat} (x : Rc) (hg : Blk w gf 24 #[.int .u64 (fr : Int)]) :
    Calls Tryz.prog 29 #[.agg #[.int .u64 (x.1 : Int), .string (bst x.2)], .pointer (some ⟨gf, 0, none⟩)] w fun e w' => e = .returned (.bool (decide (x.1 ≤ fr))) ∧ Below w.heap.size w w' := by
  have HB := hid (show Below w.heap.size w (w.alloc (.cells #[.int .u64 (x.1 : Int), .string (bst x.2)] 70)) from (Below.refl _ _).alloc (Nat.le_refl _) _)
  have y0 := (hg.alloc (.cells #[.int .u64 (x.1 : Int), .string (bst x.2)] 70)).cell 0
  have x0 := (Blk.new w 70 #[.int .u64 (x.1 : Int), .string (bst x.2)]).cell 0
  clear hg
  go_enter Tryz.func29, Tryz.ntmps29
  go_upto_region 1 with fail
  generalize w.alloc (.cells #[.int .u64 (x.1 : Int), .string (bst x.2)] 70) = w1 at *
  by_cases hx : x.1 ≤ fr
  · have hxi : (x.1 : Int) ≤ (fr : Int) := by omega
    have HD := hid (decide_eq_true hx)
    clear hx
    go_wp2_with fail
    go_ret
    rw [HD.out]
    exact ⟨rfl, HB.out⟩
  · have hxi : ¬ (x.1 : Int) ≤ (fr : Int) := by omega
    have HD := hid (decide_eq_false hx)
    clear hx
    go_wp2_with fail
    go_ret
    rw [HD.out]
    exact ⟨rfl, HB.out⟩
def FirstIs (L : List Rc) (fr : Nat) (e : Ending) : Prop := (e = .returned (.int .i64 (-1)) ∧ ∀ (t : Nat) (x : Rc), L[t]? = some x → ¬ x.1 ≤ fr) ∨ (∃ (k : Nat) (x : Rc), e = .returned (.int .i64 (k : Int)) ∧ L[k]? = some x ∧ x.1 ≤ fr ∧ ∀ (t : Nat) (y : Rc), t < k → L[t]? = some y → ¬ y.1 ≤ fr)
set_option maxHeartbeats 8000000 in
set_option maxRecDepth 100000 in
theorem index_rc {w : World} {A : Option Addr} {n c gf B : Nat} {L : List Rc} {fr : Nat} (hA : GAt eRc w B A L) (hn : n = L.length) (hB : B ≤ w.heap.size) (hll : L.length ≤ 100000) (hg : Blk w gf 24 #[.int .u64 (fr : Int)]) :
    Calls Tryz.prog 54 #[.slice A n c, .func (.func 29) #[] #[.pointer (some ⟨gf, 0, none⟩)]] w fun e w' => FirstIs L fr e ∧ Below w.heap.size w w' := by
  have HA := hid (hA.more hB)
  have HG := hid hg
  have HN := hid hn
  have hll : n ≤ 100000 := by omega
  clear hA hn hg hB
  go_enter Tryz.func54, Tryz.ntmps54
  go_wp2_with fail
  go_loopw [8] (fun j wr => ∃ i : Nat, i ≤ n ∧ j = .int .i64 (i : Int) ∧ Kept (∀ (t : Nat) (y : Rc), t < i → L[t]? = some y → ¬ y.1 ≤ fr) ∧ Kept (Below w.heap.size w wr)) (fun j _ => n - (intOf j).toNat)
  case atStart => exact ⟨0, Nat.zero_le _, rfl, hid (fun t y h => absurd h (Nat.not_lt_zero _)), hid (Below.refl _ _)⟩
  case round =>
    obtain ⟨i, hi, rfl, HK, HB⟩ := hrel
    by_cases hlt : i < n
    · obtain ⟨bb, off, x, rfl, hb, hx, d0, d1⟩ := (HA.out.below HB.out).rc (i := i) (by rw [← HN.out]; exact hlt)
      have HU := hid (del1_is x (HG.out.below HB.out HG.out.lt))
      have HX := hid hx
      clear hx
      by_cases hxi : x.1 ≤ fr
      · have HXI := hid hxi
        rw [decide_eq_true hxi] at HU
        clear hxi
        go_wp2_with fail
        go_fit HU.out
        rintro e w1 ⟨rfl, hb1⟩
        have HB1 := hid (HB.out.trans (hb1.mono HB.out.size))
        clear hb1
        go_wp2_with fail
        go_ret
        exact ⟨.inr ⟨i, x, rfl, HX.out, HXI.out, HK.out⟩, HB1.out⟩
      · have HXI := hid hxi
        rw [decide_eq_false hxi] at HU
        clear hxi
        go_wp2_with fail
        go_fit HU.out
        rintro e w1 ⟨rfl, hb1⟩
        have HB1 := hid (HB.out.trans (hb1.mono HB.out.size))
        clear hb1
        go_wp2_with fail
        go_roundw
        case rel => exact ⟨i + 1, by omega, by go_num, hid (fun t y ht hy => by
          by_cases e : t = i
          · subst e
            rw [HX.out] at hy
            injection hy with hy
            subst hy
            exact HXI.out
          · exact HK.out t y (by omega) hy), HB1⟩
        case measure => simp [intOf]; omega
    · have HI := hid (show i = L.length by have := HN.out; omega)
      go_wp2_with fail
      go_ret
      exact ⟨.inl ⟨rfl, fun t x hx => HK.out t x (by rw [HI.out]; exact (List.getElem?_eq_some_iff.1 hx).1) hx⟩, HB.out⟩

structure KInv (L D : List Rc) (fr i j : Nat) : Prop where
  len : D.length = L.length
  lt : i < j
  le : j ≤ L.length
  pre : D.take i = (L.take j).filter (fun r => decide (fr < r.1))
  high : ∀ t, j ≤ t → D[t]? = L[t]?
theorem KInv.keep {L D : List Rc} {fr i j : Nat} {x : Rc} (h : KInv L D fr i j) (hx : L[j]? = some x) (hk : ¬ x.1 ≤ fr) : KInv L (D.set i x) fr (i + 1) (j + 1) := by
  have hj := (List.getElem?_eq_some_iff.1 hx).1
  have hl := h.len
  have hij := h.lt
  refine ⟨by rw [List.length_set]; exact hl, by omega, hj, ?_, fun t ht => by rw [List.getElem?_set_ne (by omega)]; exact h.high t (by omega)⟩
  have e1 : (D.set i x).take (i + 1) = D.take i ++ [x] := by
    have hi : i < (D.set i x).length := by rw [List.length_set]; omega
    rw [List.take_succ_eq_append_getElem hi]
    congr 1
    · rw [List.take_set_of_le (Nat.le_refl _)]
    · rw [List.getElem_set_self]
  rw [e1, h.pre, List.take_succ_eq_append_getElem hj, List.filter_append]
  congr 1
  rw [(List.getElem?_eq_some_iff.1 hx).2]
  have : fr < x.1 := by omega
  simp [this]
theorem KInv.skip {L D : List Rc} {fr i j : Nat} {x : Rc} (h : KInv L D fr i j) (hx : L[j]? = some x) (hk : x.1 ≤ fr) : KInv L D fr i (j + 1) := by
  have hj := (List.getElem?_eq_some_iff.1 hx).1
  refine ⟨h.len, by have := h.lt; omega, hj, ?_, fun t ht => h.high t (by omega)⟩
  rw [h.pre, List.take_succ_eq_append_getElem hj, List.filter_append, (List.getElem?_eq_some_iff.1 hx).2]
  have : ¬ fr < x.1 := by omega
  simp [this]
theorem filter_all {L : List Rc} {fr : Nat} (h : ∀ (t : Nat) (x : Rc), L[t]? = some x → ¬ x.1 ≤ fr) : L.filter (fun r => decide (fr < r.1)) = L := by
  rw [List.filter_eq_self]
  intro x hx
  obtain ⟨t, ht, rfl⟩ := List.mem_iff_getElem.1 hx
  have := h t _ (List.getElem?_eq_getElem ht)
  simp
  omega
theorem KInv.start {L : List Rc} {fr k : Nat} {x : Rc} (hx : L[k]? = some x) (hk : x.1 ≤ fr) (h : ∀ (t : Nat) (y : Rc), t < k → L[t]? = some y → ¬ y.1 ≤ fr) : KInv L L fr k (k + 1) := by
  have hj := (List.getElem?_eq_some_iff.1 hx).1
  refine ⟨rfl, by omega, hj, ?_, fun _ _ => rfl⟩
  rw [List.take_succ_eq_append_getElem hj, List.filter_append, (List.getElem?_eq_some_iff.1 hx).2]
  have : ¬ fr < x.1 := by omega
  rw [filter_all (L := L.take k) (fr := fr) (fun t y hy => by
    rw [List.getElem?_take] at hy
    split at hy
    · exact h t y (by assumption) hy
    · cases hy)]
  simp [this]
theorem slice_to_rc {A : Option Addr} {m c n : Nat} (hc : m ≤ c) (hn : n ≤ m) :
    ∃ A', (∀ (k : IntKind) (W : World), (Instr.slice 38 (.slice A m c) none (some (.int k (n : Int))) none).run Tryz.prog W = .ok (.slice A' n c) W) ∧ (A' = A ∨ A' = A.map (·.add 0)) := by
  obtain ⟨i0, hi, hz0, hz1, hz2⟩ := info_parts info_rc
  refine ⟨if c = 0 then A else A.map (·.add 0), fun k W => ?_, by split <;> simp⟩
  have e : Tryz.prog.elem 38 = 70 := by kernel_rfl
  rw [run_slice_h (P := Tryz.prog) W 38 A m c (by rw [e]; exact Tryz.underlying38) k n (by omega) (by omega), e]
  simp [sizeOf, typeInfo, hi, hz1, sliced]
theorem slice_from_rc {g m c n : Nat} (hc : m ≤ c) (hn : n < m) :
    ∀ (k : IntKind) (W : World), (Instr.slice 38 (.slice (some ⟨g, 0, none⟩) m c) (some (.int k (n : Int))) none none).run Tryz.prog W = .ok (.slice (some ⟨g, n * 2, none⟩) (m - n) (c - n)) W := by
  obtain ⟨i0, hi, hz0, hz1, hz2⟩ := info_parts info_rc
  intro k W
  have e : Tryz.prog.elem 38 = 70 := by kernel_rfl
  rw [run_slice_l (P := Tryz.prog) W 38 _ m c (by rw [e]; exact Tryz.underlying38) k n (by omega) (by omega), e]
  have h0 : c ≠ n := by omega
  simp [sizeOf, typeInfo, hi, hz1, sliced, h0, Addr.add]
  omega
set_option maxHeartbeats 8000000 in
set_option maxRecDepth 100000 in
theorem delete_is {w : World} {A : Option Addr} {base m c gf : Nat} {L : List Rc} {fr : Nat} (hA : GRow eRc 70 w base A m c L) (hll : L.length ≤ 100000) (hg : Blk w gf 24 #[.int .u64 (fr : Int)]) :
    Calls Tryz.prog 28 #[.slice A m c, .func (.func 29) #[] #[.pointer (some ⟨gf, 0, none⟩)]] w fun e w' => ∃ A' m' c', e = .returned (.slice A' m' c') ∧ GAt eRc w' w'.heap.size A' (L.filter fun r => decide (fr < r.1)) ∧ m' = (L.filter fun r => decide (fr < r.1)).length ∧ m' ≤ c' ∧ Within (fun k => (Value.slice A m c).ownBlock = some k) w w' := by
  have HA := hid hA
  have HM := hid hA.1
  have HC := hid hA.cap
  have HG := hid hg
  have HI := hid (index_rc (c := c) hA.at_ hA.1 (Nat.le_refl _) hll hg)
  have hm : m ≤ 100000 := by rw [hA.1]; exact hll
  clear hA hg hll
  go_enter Tryz.func28, Tryz.ntmps28
  go_wp2_with fail
  go_fit HI.out
  rintro e w1 ⟨⟨rfl, hall⟩ | ⟨k, x, rfl, hx, hk, hlow⟩, hb1⟩
  · have HF := hid (filter_all hall)
    have HA1 := hid (HA.out.below hb1)
    have HB1 := hid hb1
    clear hall hb1
    go_wp2_with fail
    go_ret
    rw [HF.out]
    exact ⟨_, _, _, rfl, HA1.out.at_, HM.out, HC.out, Within.of_below HB1.out⟩
  · have hkm : k < m := by rw [HM.out]; exact (List.getElem?_eq_some_iff.1 hx).1
    have HK0 := hid (KInv.start hx hk hlow)
    have HA1 := hid (HA.out.below hb1)
    have HB1 := hid hb1
    have HG1 := hid (HG.out.below hb1 HG.out.lt)
    obtain ⟨b0, off0, y0, hA0, _⟩ := HA1.out.at_.get (i := k) (by rw [← HM.out]; exact hkm)
    obtain rfl : off0 = 0 := by
      rcases HA1.out.2.2 with ⟨hv, _⟩ | ⟨g', cap, cur, hv, _⟩
      · injection hv with e; rw [hA0] at e; cases e
      · injection hv with e; rw [hA0] at e; injection e with e; injection e
    subst hA0
    have hr0 := RcBlk.of HA1.out
    have HNF := hid (fun k' => show (Value.slice (some ⟨b0, 0, none⟩) m c).ownBlock = some k' ↔ b0 = k' by simp [Value.ownBlock])
    have HFB := hid (show gf ≠ b0 from fun e => own_off HA1.out.2 HG1.out (by decide) (by rw [e]; rfl))
    have HR0 := hid hr0
    have hne : ((k : Int) == -1) = false := beq_eq_false_iff_ne.2 (by omega)
    clear hr0 hx hk hlow hb1 HA HA1 HG HI
    go_wp2_with fail
    go_loopw [5, 6] (fun a j wr => ∃ (i t : Nat) (D : List Rc), a = .int .i64 (i : Int) ∧ j = .int .i64 (t : Int) ∧ t ≤ m ∧ Kept (RcBlk wr b0 D) ∧ Kept (KInv L D fr i t) ∧ Kept (Within (fun k => k = b0) w1 wr)) (fun _ j _ => m - (intOf j).toNat)
    case atStart => exact ⟨k, k + 1, L, rfl, by go_num, by omega, HR0, HK0, hid (Within.refl _ _)⟩
    case round =>
      clear HR0 HK0 hne
      obtain ⟨i, t, D, rfl, rfl, ht, HR, HK, HW⟩ := hrel
      by_cases hlt : t < m
      · have hxt : L[t]? = some (L[t]'(by rw [← HM.out]; exact hlt)) := List.getElem?_eq_getElem _
        generalize L[t]'(by rw [← HM.out]; exact hlt) = x at hxt
        obtain ⟨d0, d1⟩ := HR.out.at_ t x (by rw [HK.out.high t (Nat.le_refl _)]; exact hxt)
        have HX := hid hxt
        have him : i < m := by have := HK.out.lt; omega
        have HIM := hid (show i < D.length by rw [HK.out.len, ← HM.out]; exact him)
        have HB9 := hid (show Below wr.heap.size wr (wr.alloc (.cells #[.int .u64 (x.1 : Int), .string (bst x.2)] 70)) from (Below.refl _ _).alloc (Nat.le_refl _) _)
        have hx9 := Blk.new wr 70 #[.int .u64 (x.1 : Int), .string (bst x.2)]
        obtain ⟨g9, hg9⟩ : ∃ g, g = wr.heap.size := ⟨_, rfl⟩
        rw [← hg9] at hx9
        have HX9 := hid hx9
        have HN9 := hid (show g9 ≠ b0 by rw [hg9]; have := HR.out.lt; omega)
        clear hxt hx9
        go_upto_region 8 with fail
        rw [← hg9]
        generalize wr.alloc (.cells #[.int .u64 (x.1 : Int), .string (bst x.2)] 70) = w9 at *
        have HR9 := hid (HR.out.below HB9.out)
        have HW9 := hid (HW.out.trans (Within.of_below HB9.out))
        have HU := hid (del1_is (gf := gf) (fr := fr) x (show Blk w9 gf _ _ from (HW9.out.block gf HG1.out.lt HFB.out).trans HG1.out))
        have z0 := HX9.out.cell 0
        have z1 := HX9.out.cell 1
        clear HR HW HB9 hg9 d0 d1
        by_cases hxi : x.1 ≤ fr
        · have HXI := hid hxi
          rw [decide_eq_true hxi] at HU
          clear hxi
          go_wp2_with fail
          go_fit HU.out
          rintro e w5 ⟨rfl, hb5⟩
          have HR5 := hid (HR9.out.below hb5)
          have HW5 := hid (HW9.out.trans (Within.of_below hb5))
          clear hb5 z0 z1
          go_wp2_with fail
          go_roundw
          case rel => exact ⟨i, t + 1, D, rfl, by go_num, by omega, HR5, hid (HK.out.skip HX.out HXI.out), HW5⟩
          case measure => simp [intOf]; omega
        · have HXI := hid hxi
          rw [decide_eq_false hxi] at HU
          clear hxi
          go_wp2_with fail
          go_fit HU.out
          rintro e w5 ⟨rfl, hb5⟩
          have HR5 := hid (HR9.out.below hb5)
          have HW5 := hid (HW9.out.trans (Within.of_below hb5))
          have hx5 := HX9.out.below hb5 HX9.out.lt
          clear hb5 z0 z1
          have z0 := hx5.cell 0
          have z1 := hx5.cell 1
          obtain ⟨q0, q1⟩ := HR5.out.at_ i _ (List.getElem?_eq_getElem HIM.out)
          have f0 := HR5.out.fr (i * 2)
          have f1 := HR5.out.fr (i * 2 + 1)
          clear hx5
          go_wp2_with fail
          have HR6 := hid (HR5.out.set HIM.out x)
          have HW6 := hid (show Within (fun k => k = b0) w1 ((w5.setCell ⟨b0, i * 2, none⟩ (.int .u64 (x.1 : Int))).setCell ⟨b0, i * 2 + 1, none⟩ (.string (bst x.2))) from (HW5.out.trans (setCells_within b0 [.int .u64 (x.1 : Int), .string (bst x.2)] (i * 2) w5)))
          go_roundw
          case rel => exact ⟨i + 1, t + 1, D.set i x, by go_num, by go_num, by omega, HR6, hid (HK.out.keep HX.out HXI.out), HW6⟩
          case measure => simp [intOf]; omega
      · obtain rfl : t = m := by omega
        have him : i < t := HK.out.lt
        have HDL := hid (show D.length = t by rw [HK.out.len, HM.out])
        have hsl := slice_from_rc (g := b0) (n := i) HC.out him
        obtain ⟨A5, hs5, hA5⟩ := slice_to_rc (A := some ⟨b0, 0, none⟩) (n := i) HC.out (by omega)
        obtain ⟨w6, hcl, hwi, hce⟩ := run_clear_rc (c := c - i) (n := t - i) HR.out (i := i) (by rw [HDL.out]; exact him) (by rw [HDL.out])
        have HCE := hid hce
        have HWI := hid (show Within (fun k => (Value.slice (some ⟨b0, 0, none⟩) t c).ownBlock = some k) w w6 from ((Within.of_below HB1.out).trans ((HW.out.trans hwi).mono fun q hq => by rw [hq]; rfl)))
        have HA6 := hid hA5
        have HSZ := hid (show b0 < w6.heap.size from Nat.lt_of_lt_of_le HR.out.lt hwi.size)
        have HFE := hid (show (L.filter fun r => decide (fr < r.1)) = D.take i from by
          have := HK.out.pre
          rw [HM.out, List.take_length] at this
          exact this.symm)
        have HIL := hid (show i ≤ c by have := HC.out; omega)
        clear hce hwi hA5
        go_wp2_with fail
        go_ret
        rw [HFE.out]
        refine ⟨A5, i, c, rfl, fun _ => ⟨b0, 0, ?_, HSZ.out, fun q x j u hq hu => ?_⟩, by rw [List.length_take, HDL.out]; omega, HIL.out, HWI.out⟩
        · rcases HA6.out with e | e
          · exact e
          · rw [e]; rfl
        · have hqi : q < i := by have := (List.getElem?_eq_some_iff.1 hq).1; rw [List.length_take] at this; omega
          rw [List.getElem?_take, if_pos hqi] at hq
          obtain ⟨c0, c1⟩ := HCE.out q x hqi hq
          rw [Nat.zero_add]
          match j, hu with
          | 0, hu => injection hu with hu; subst hu; exact c0
          | 1, hu => injection hu with hu; subst hu; exact c1

end Go.Proofs.YtobmdmbjmjdfjaaGreatDoor
