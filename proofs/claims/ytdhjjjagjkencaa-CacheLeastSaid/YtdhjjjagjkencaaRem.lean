/-
  The landed cache: remove, Len.
-/
import Derived.Test.YtdhjjjagjkencaaCaIn
import Derived.Deep.Cut
namespace Go.Proofs.Ytdhjjjagjkencaa
open Go Go.RowKit

set_option maxHeartbeats 4000000 in
set_option maxRecDepth 100000 in
theorem len_any {w : World} {cb room mb eb : Nat} {ps : List Nat} {vl : Nat → En} {pv nx : Nat → Nat} {m : TabF} (h : CaIn w cb room mb eb ps vl pv nx m) :
    Calls Try.prog 19 #[(.pointer (some ⟨cb, 0, none⟩))] w fun e w' => e = .returned (.int .i64 (ps.length : Int)) ∧ w' = w := by
  have HT := hid h.tab
  have c1 := h.blk.cell 1
  clear h
  go_enter Try.func19, Try.ntmps19
  go_wp2_with (at_len; refine wpList_lenT _ rfl _ 58 rfl 3 55 Try.underlying58 rfl HT.out ?_)
  go_ret
  exact ⟨rfl, rfl⟩

theorem unlink_in {w : World} {cb room mb eb p : Nat} {l1 l2 : List Nat} {vl : Nat → En} {pv nx : Nat → Nat} {m : TabF} (h : CaIn w cb room mb eb (l1 ++ p :: l2) vl pv nx m) :
    Calls Try.prog 22 #[(.pointer (some ⟨p, 0, none⟩))] w fun e w' => e = .returned (.tuple #[]) ∧ Nodes w' (fun k => k = eb ∨ k ∈ l1 ++ p :: l2) vl (upd pv (nx p) (pv p)) (upd nx (pv p) (nx p)) ∧ Within (fun k => k = eb ∨ k ∈ l1 ++ p :: l2) w w' := by
  obtain ⟨_, ha, hb⟩ := h.ring.out
  have hn := h.ring.nodup
  have hpe : p ≠ eb := fun e => (List.nodup_cons.1 hn).1 (by rw [← e]; simp)
  have hp1 : p ∉ l1 := fun hm => (List.nodup_append.1 (List.nodup_cons.1 hn).2).2.2 p hm p (by simp) rfl
  have hp2 : p ∉ l2 := (List.nodup_cons.1 (List.nodup_append.1 (List.nodup_cons.1 hn).2).2.1).1
  refine unlink_any h.nodes (.inr (by simp)) ?_ ?_ (fun e => ?_) (fun e => ?_)
  · rcases List.mem_cons.1 ha with e | hm
    · exact .inl e
    · exact .inr (by simp [hm])
  · rcases List.mem_append.1 hb with hm | hm
    · exact .inr (by simp [hm])
    · exact .inl (by simpa using hm)
  · rw [← e] at ha
    exact (List.mem_cons.1 ha).elim hpe hp1
  · rw [← e] at hb
    exact (List.mem_append.1 hb).elim hp2 (fun q => hpe (by simpa using q))

set_option maxHeartbeats 4000000 in
set_option maxRecDepth 100000 in
theorem remove_any {w : World} {cb room mb eb p : Nat} {l1 l2 : List Nat} {vl : Nat → En} {pv nx : Nat → Nat} {m : TabF} (h : CaIn w cb room mb eb (l1 ++ p :: l2) vl pv nx m) :
    Calls Try.prog 24 #[(.pointer (some ⟨cb, 0, none⟩)), (.pointer (some ⟨p, 0, none⟩))] w fun e w' => e = .returned (vl p).val ∧ (∃ pv' nx' m', CaIn w' cb room mb eb (l1 ++ l2) vl pv' nx' m') ∧ Within (CaS cb mb eb (l1 ++ p :: l2)) w w' := by
  have hb1 := (Below.refl w.heap.size w).alloc (Nat.le_refl _) (.cells #[.int .i64 0, .string ⟨#[]⟩, .bool false] 32)
  have h1 := h.step hb1
  have HG1 := hid (Blk.new w 32 #[.int .i64 0, .string ⟨#[]⟩, .bool false])
  have HU := hid (unlink_in h1)
  have hgp : ∀ k, k = eb ∨ k ∈ l1 ++ p :: l2 → k ≠ w.heap.size := fun k hk e => by have := h.lt (.inr (.inr hk)); omega
  have hgm : mb ≠ w.heap.size := fun e => by have := h.lt (k := mb) (.inr (.inl rfl)); omega
  have HNG := hid (And.intro hgp hgm)
  have HAP := hid h.apart
  have HC1 := hid h1.blk
  have HT1 := hid h1.tab
  have HRI := hid h.ring.out.1
  have hnd := (List.nodup_cons.1 h.ring.nodup).2
  have HIS := hid (h.is.out h.ids hnd)
  have HIDS := hid (h.ids.sub (qs := l1 ++ l2) (fun b hb => by simp at hb ⊢; rcases hb with h | h <;> simp [h]))
  have hmp : (m (vl p).i).isSome = true := by rw [(h.is (vl p).i (ptr p)).2 ⟨p, by simp, rfl, rfl⟩]; rfl
  have HMP := hid hmp
  have HW1 := hid (Within.of_below (M := CaS cb mb eb (l1 ++ p :: l2)) hb1)
  clear hb1 h h1 hgp hgm hnd hmp
  generalize upd pv (nx p) (pv p) = pv' at *
  generalize upd nx (pv p) (nx p) = nx' at *
  obtain ⟨x, hx⟩ : ∃ x, vl p = x := ⟨_, rfl⟩
  have HX := hid hx
  rw [hx] at HIS HMP ⊢
  clear hx
  go_enter Try.func24, Try.ntmps24
  go_wp2_with fail
  generalize w.alloc (.cells #[.int .i64 0, .string ⟨#[]⟩, .bool false] 32) = w1 at *
  obtain ⟨g, hg⟩ : ∃ g, w.heap.size = g := ⟨_, rfl⟩
  rw [hg] at HG1 HNG ⊢
  have HGE := hid hg
  clear hg
  go_fit HU.out
  rintro e w2 ⟨rfl, hn2, hw2⟩
  have HN2 := hid hn2
  have HW2 := hid (HW1.out.then hw2 (fun k hk => .inl (.inr (.inr hk))))
  have ht2 : Tab w2 mb m (l1 ++ p :: l2).length := HT1.out.within hw2 (fun hk => (HAP.out.2 mb hk).2 rfl)
  have HC2 := hid (HC1.out.within hw2 (fun hk => (HAP.out.2 cb hk).1 rfl))
  have HT2 := hid (show Tab w2.drew mb m (l1 ++ p :: l2).length from ht2.of_block rfl)
  have HG2 := hid (HG1.out.within hw2 (fun hk => HNG.out.1 g hk rfl))
  clear ht2 hn2 hw2 HU HC1 HT1 HG1
  have c1 := HC2.out.cell 1
  have c1' : w2.drew.cell? ⟨cb, 1, none⟩ = some _ := c1
  have hf := five (HN2.out.at_ p (.inr (by simp)))
  rw [HX.out] at hf
  have d0 : w2.cell? ⟨p, 0, none⟩ = some (.int .i64 x.i) := hf.1
  have d0' : w2.drew.cell? ⟨p, 0, none⟩ = some (.int .i64 x.i) := hf.1
  clear hf
  go_upto_region 2 with fail
  go_still_tail 9, (by kernel_rfl)
  change wpList _ _ _ _ _ w2.drew
  go_upto_region 3 with (at_delete; refine wpList_drop _ rfl _ _ 58 3 rfl 55 Try.underlying58 Try.underlying3 rfl HT2.out x.i rfl ?_; intro w3 ht ho hs; have HT3 := hid (And.intro ht ho); clear ht ho hs; go_frame)
  have hN3 : Nodes w3 (fun k => k = eb ∨ k ∈ l1 ++ p :: l2) vl pv' nx' := HN2.out.keep fun c hc => HT3.out.2.block c (HN2.out.at_ c hc).lt (fun e => by injection e with e; exact (HAP.out.2 c hc).2 e)
  have HN3 := hid hN3
  have HC3 := hid (HC2.out.drew.grown HT3.out.2 (fun e => by injection e with e; exact HAP.out.1 e.symm))
  have HG3 := hid (HG2.out.drew.grown HT3.out.2 (fun e => by injection e with e; exact HNG.out.2 e.symm))
  have hT3 : Tab w3 mb (updT m x.i none) (l1 ++ l2).length := by have := HT3.out.1; rw [HMP.out, if_pos rfl] at this; rw [show (l1 ++ l2).length = (l1 ++ p :: l2).length - 1 by simp]; exact this
  have HT4 := hid hT3
  have HW3 := hid (HW2.out.drew.then (Within.of_only (M := CaS cb mb eb (l1 ++ p :: l2)) HT3.out.2 (.inl (.inr (.inl rfl)))) (fun k hk => .inl hk))
  clear hN3 hT3 c1 c1' d0 d0' HC2 HG2 HT2 HN2 HT3
  have hf := five (HN3.out.at_ p (.inr (by simp)))
  rw [HX.out] at hf
  obtain ⟨d0, d1, d2, _⟩ := hf
  have x0 := HG3.out.cell 0
  have x1 := HG3.out.cell 1
  have x2 := HG3.out.cell 2
  have f0 := HG3.out.free 0
  have f1 := HG3.out.free 1
  have f2 := HG3.out.free 2
  have HB9 := hid (show Below w3.heap.size w3 w3 from Below.refl _ _)
  go_wp2_with fail
  have hz : Blk (((w3.setCell ⟨g, 0, none⟩ (.int .i64 x.i)).setCell ⟨g, 1, none⟩ (.string (bst x.b))).setCell ⟨g, 2, none⟩ (.bool x.d)) g 32 #[.int .i64 x.i, .string (bst x.b), .bool x.d] := by
    have := ((HG3.out.set 0 (.int .i64 x.i)).set 1 (.string (bst x.b))).set 2 (.bool x.d)
    simpa using this
  have hk : ∀ k, k ≠ g → (((w3.setCell ⟨g, 0, none⟩ (.int .i64 x.i)).setCell ⟨g, 1, none⟩ (.string (bst x.b))).setCell ⟨g, 2, none⟩ (.bool x.d)).heap[k]? = w3.heap[k]? := fun k hk => (Below.heap_setCell _ ⟨g, 2, none⟩ _ k hk).trans ((Below.heap_setCell _ ⟨g, 1, none⟩ _ k hk).trans (Below.heap_setCell _ ⟨g, 0, none⟩ _ k hk))
  have hw : Within (CaS cb mb eb (l1 ++ p :: l2)) w (((w3.setCell ⟨g, 0, none⟩ (.int .i64 x.i)).setCell ⟨g, 1, none⟩ (.string (bst x.b))).setCell ⟨g, 2, none⟩ (.bool x.d)) := ((HW3.out.set (p := ⟨g, 0, none⟩) (.inr (Nat.le_of_eq HGE.out)) _).set (p := ⟨g, 1, none⟩) (.inr (Nat.le_of_eq HGE.out)) _).set (p := ⟨g, 2, none⟩) (.inr (Nat.le_of_eq HGE.out)) _
  have HZ := hid hz
  have HK := hid hk
  have HW := hid hw
  clear x0 x1 x2 f0 f1 f2 d0 d1 d2 hz hk hw
  generalize ((w3.setCell ⟨g, 0, none⟩ (.int .i64 x.i)).setCell ⟨g, 1, none⟩ (.string (bst x.b))).setCell ⟨g, 2, none⟩ (.bool x.d) = w4 at *
  have t0 := HZ.out.cell 0
  have t1 := HZ.out.cell 1
  have t2 := HZ.out.cell 2
  refine bodyPost_ret (v := .agg #[.int .i64 x.i, .string (bst x.b), .bool x.d]) (by simp [results, Try.results24, go_sem, *]) rfl ?_
  refine ⟨rfl, ⟨pv', nx', _, ⟨(HK.out cb (HC3.out.ne HG3.out (by decide))).trans HC3.out, HT4.out.of_block (HK.out mb HNG.out.2), (HN3.out.keep fun c hc => HK.out c (HNG.out.1 c hc)).mono (fun c hc => hc.imp id (fun q => by simp at q ⊢; rcases q with h | h <;> simp [h])), HRI.out, HIS.out, HIDS.out⟩⟩, HW.out⟩

end Go.Proofs.Ytdhjjjagjkencaa
