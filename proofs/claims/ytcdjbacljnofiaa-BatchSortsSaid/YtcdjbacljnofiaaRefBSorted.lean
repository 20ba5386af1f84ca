/-
  The document's Sorted, by its contract.
-/
import Derived.Test.YtcdjbacljnofiaaSort
import Derived.Test.YtcdjbacljnofiaaWSlices
import Derived.Test.YtcdjbacljnofiaaJBytes
import Derived.Test.YtcdjbacljnofiaaRefBCheck
namespace Go.Proofs.Ytcdjbacljnofiaa
open Go Go.RowKit

/-- what stands in memory while writes are put in -/
structure St3 (w wr : World) (c r s : Int) (A0 : Option Addr) (n cap : Nat) (A : Option Addr) (m c1 : Nat) (l : List Wt) : Prop where
  b1 : Blk wr w.heap.size 25 #[.int .u64 c, .int .u64 r, .int .u64 s, .slice A0 n cap]
  b2 : Blk wr (w.heap.size + 1) 25 #[.int .u64 0, .int .u64 0, .int .u64 0, .slice none 0 0]
  row : WRow wr w.heap.size A m c1 l
  below : Below w.heap.size w wr
section
variable {w wr w' : World} {c r s : Int} {A0 A A' : Option Addr} {n cap m c1 m' c1' : Nat} {l l' : List Wt}
theorem St3.lt (h : St3 w wr c r s A0 n cap A m c1 l) : w.heap.size + 1 < wr.heap.size := h.b2.lt
theorem St3.step (h : St3 w wr c r s A0 n cap A m c1 l) (hb : Below wr.heap.size wr w') : St3 w w' c r s A0 n cap A m c1 l := by
  have := h.lt
  exact ⟨h.b1.below hb (by omega), h.b2.below hb (by omega), h.row.below hb, below_step h.below hb⟩
theorem St3.drewN (h : St3 w wr c r s A0 n cap A m c1 l) (k : Nat) : St3 w (wr.drewN k) c r s A0 n cap A m c1 l := h.step (below_drewN (Below.refl _ _) k)
theorem St3.to (h : St3 w wr c r s A0 n cap A m c1 l) (hr : WRow w' w.heap.size A' m' c1' l') (hb : Below wr.heap.size wr w') : St3 w w' c r s A0 n cap A' m' c1' l' := by
  have := h.lt
  exact ⟨h.b1.below hb (by omega), h.b2.below hb (by omega), hr, below_step h.below hb⟩
theorem St3.res (h : St3 w wr c r s A0 n cap A m c1 l) (u0 u1 u2 u3 v : Value) :
    Blk (((((wr.setCell ⟨w.heap.size, 3, none⟩ v).setCell ⟨w.heap.size + 1, 0, none⟩ u0).setCell ⟨w.heap.size + 1, 1, none⟩ u1).setCell ⟨w.heap.size + 1, 2, none⟩ u2).setCell ⟨w.heap.size + 1, 3, none⟩ u3) (w.heap.size + 1) 25 #[u0, u1, u2, u3] ∧
      WRow (((((wr.setCell ⟨w.heap.size, 3, none⟩ v).setCell ⟨w.heap.size + 1, 0, none⟩ u0).setCell ⟨w.heap.size + 1, 1, none⟩ u1).setCell ⟨w.heap.size + 1, 2, none⟩ u2).setCell ⟨w.heap.size + 1, 3, none⟩ u3) w.heap.size A m c1 l ∧
      Below w.heap.size w (((((wr.setCell ⟨w.heap.size, 3, none⟩ v).setCell ⟨w.heap.size + 1, 0, none⟩ u0).setCell ⟨w.heap.size + 1, 1, none⟩ u1).setCell ⟨w.heap.size + 1, 2, none⟩ u2).setCell ⟨w.heap.size + 1, 3, none⟩ u3) := by
  have n1 := own_ne_cells h.row.2 h.b1 (by decide)
  have n2 := own_ne_cells h.row.2 h.b2 (by decide)
  refine ⟨((((h.b2.far (by simp) v).set 0 u0).set 1 u1).set 2 u2).set 3 u3, ⟨h.row.1, ?_⟩, ((((h.below.setCell (by simp) _).setCell (by simp) _).setCell (by simp) _).setCell (by simp) _).setCell (by simp) _⟩
  exact ownsRow_setCell_other (ownsRow_setCell_other (ownsRow_setCell_other (ownsRow_setCell_other (ownsRow_setCell_other h.row.2 n1 v) n2 u0) n2 u1) n2 u2) n2 u3
end
theorem fold_snoc {ws : List Wt} {k : Nat} {x : Wt} (h : ws[k]? = some x) : (ws.take (k + 1)).foldl ins [] = ins ((ws.take k).foldl ins []) x := by
  rw [take_snoc h, List.foldl_append]
  rfl
theorem fold_len (ws : List Wt) : ∀ acc : List Wt, (ws.foldl ins acc).length = acc.length + ws.length := by
  induction ws with
  | nil => intro acc; simp
  | cons x ws ih => intro acc; rw [List.foldl_cons, ih, ins_length, List.length_cons]; omega
theorem posn_fix {l : List Wt} {k : List UInt8} {a : Nat} (h : posn l k a = posn l k l.length) (hf : posn l k a = a) : posn l k l.length = a := h.symm.trans hf

set_option maxRecDepth 100000 in
set_option maxHeartbeats 8000000 in
theorem refBSorted_any {c r s : Int} {A : Option Addr} {n cap B : Nat} {ws : List Wt} {w : World} (hA : WAt w B A ws) (hn : n = ws.length) (hB : B ≤ w.heap.size) (hl : n ≤ 80) :
    Calls Try.prog 16 #[.agg #[.int .u64 c, .int .u64 r, .int .u64 s, .slice A n cap]] w fun e w' =>
      ∃ A' m' c', e = .returned (.agg #[.int .u64 c, .int .u64 r, .int .u64 s, .slice A' m' c']) ∧ WRow w' w.heap.size A' m' c' (sortW ws) ∧ Below w.heap.size w w' := by
  have HN := hid hn
  have HA := hid hA
  have HBX := hid hB
  have s1 : (w.alloc (.cells #[.int .u64 c, .int .u64 r, .int .u64 s, .slice A n cap] 25)).heap.size = w.heap.size + 1 := by simp
  have n1 := Blk.new (w.alloc (.cells #[.int .u64 c, .int .u64 r, .int .u64 s, .slice A n cap] 25)) 25 #[.int .u64 0, .int .u64 0, .int .u64 0, .slice none 0 0]
  rw [s1] at n1
  have HS0 := hid (show St3 w (((w.alloc (.cells #[.int .u64 c, .int .u64 r, .int .u64 s, .slice A n cap] 25)).alloc (.cells #[.int .u64 0, .int .u64 0, .int .u64 0, .slice none 0 0] 25)).alloc (.cells #[] 43)) c r s A n cap (some ⟨w.heap.size + 1 + 1, 0, none⟩) 0 0 [] from
    ⟨((Blk.new w _ _).alloc _).alloc _, n1.alloc _, WRow.empty _ (by simp) (by simp; omega), (((Below.refl _ _).alloc (Nat.le_refl _) _).alloc (by simp) _).alloc (by simp; omega) _⟩)
  clear hA hn hB s1 n1
  go_enter Try.func16, Try.ntmps16
  go_wp2_with fail
  go_loopw [3, 4] (fun u i wr => ∃ (k : Nat) (A1 : Option Addr) (m1 c1 : Nat) (L : List Wt), k ≤ n ∧ u = .slice A1 m1 c1 ∧ i = .int .i64 (k : Int) ∧ L = (ws.take k).foldl ins [] ∧ St3 w wr c r s A n cap A1 m1 c1 L) (fun _ i _ => n - (intOf i).toNat)
  case atStart => exact ⟨0, _, _, _, [], Nat.zero_le _, rfl, rfl, by simp, HS0.out⟩
  case round =>
    clear HS0
    obtain ⟨k, A1, m1, c1, L, hk, rfl, rfl, hL, hst⟩ := hrel
    have HL := hid hL
    have HST := hid hst
    have HLL := hid (show L.length ≤ 80 by rw [hL, fold_len, List.length_take]; simp; omega)
    clear hL hst
    obtain ⟨b0, b1, b2, b3, _, _, _, f3⟩ := four HST.out.b1
    by_cases hlt : k < n
    · obtain ⟨b, off, x, rfl, hb, hx, d0, d1, d2⟩ := (HA.out.below (HST.out.below.mono HBX.out)).get (k := k) (by rw [← HN.out]; exact hlt)
      have HFS := hid (fold_snoc hx)
      have HM := hid HST.out.row.1
      have hm80 : m1 ≤ 80 := by rw [HM.out]; exact HLL.out
      have hcap := HST.out.row.cap
      have HRA := hid HST.out.row.at_
      clear hx
      go_wp2_with fail
      go_loopw [5] (fun i wq => ∃ (a mm : Nat), a ≤ m1 ∧ i = .int .i64 (a : Int) ∧ posn L x.k a = posn L x.k L.length ∧ wq = wr.drewN mm) (fun i _ => (intOf i).toNat)
      case atStart => exact ⟨m1, 0, Nat.le_refl _, rfl, by rw [HM.out], rfl⟩
      case round =>
        obtain ⟨a, mm, ha, rfl, hp, rfl⟩ := hrel
        have HP := hid hp
        clear hp
        by_cases hpos : 0 < a
        case neg =>
          have HPA := hid (show posn L x.k L.length = a by rw [← HP.out, show a = 0 by omega]; rfl)
          have HXK := hid (show True from trivial)
          go_wp2_with fail
          go_quiet (fail)
          go_wp2_with fail
          generalize hwq : (World.drewN (World.drewN wr mm) _) = wq
          have HSQ := hid (show St3 w wq c r s (some ⟨b, off, none⟩) n cap _ m1 c1 L by rw [← hwq]; exact (HST.out.drewN _).drewN _)
          have e0 : wq.cell? ⟨b, off + k * 3, none⟩ = some (.string (bst x.k)) := by rw [← hwq]; exact d0
          have e1 : wq.cell? ⟨b, off + k * 3 + 1, none⟩ = some (.string (bst x.v)) := by rw [← hwq]; exact d1
          have e2 : wq.cell? ⟨b, off + k * 3 + 2, none⟩ = some (.bool x.g) := by rw [← hwq]; exact d2
          clear hwq b0 b1 b2 b3 f3
          obtain ⟨_, _, _, b3, _, _, _, _⟩ := four HSQ.out.b1
          have hbl : b < wq.heap.size := by have := HSQ.out.lt; have := HBX.out; omega
          have hwl : w.heap.size < wq.heap.size := by have := HSQ.out.lt; omega
          have q3 : ∀ W, Beyond wq W → W.cell? ⟨w.heap.size, 3, none⟩ = some (.slice (some ⟨b, off, none⟩) n cap) := fun W h => (Below.cell (p := ⟨w.heap.size, 3, none⟩) h hwl).trans b3
          have qx0 : ∀ W, Beyond wq W → W.cell? ⟨b, off + k * 3, none⟩ = some (.string (bst x.k)) := fun W h => (Below.cell (p := ⟨b, off + k * 3, none⟩) h hbl).trans e0
          have qx1 : ∀ W, Beyond wq W → W.cell? ⟨b, off + k * 3 + 1, none⟩ = some (.string (bst x.v)) := fun W h => (Below.cell (p := ⟨b, off + k * 3 + 1, none⟩) h hbl).trans e1
          have qx2 : ∀ W, Beyond wq W → W.cell? ⟨b, off + k * 3 + 2, none⟩ = some (.bool x.g) := fun W h => (Below.cell (p := ⟨b, off + k * 3 + 2, none⟩) h hbl).trans e2
          have HTL := hid (show (L.take a).length = a by rw [List.length_take, ← HM.out]; omega)
          obtain ⟨A2, hsl2, hA2⟩ := wslice_to (n := a) HSQ.out.row.at_ HSQ.out.row.1 HSQ.out.row.cap ha
          obtain ⟨A6, hsl6, hA6⟩ := wslice_from (n := a) HSQ.out.row.at_ HSQ.out.row.1 HSQ.out.row.cap ha
          have HT2 := hid (show ∀ W, Beyond wq W → WAt W wq.heap.size A2 (L.take a) from fun W h => hA2.below h)
          have HT6 := hid (show ∀ W, Beyond wq W → WAt W wq.heap.size A6 (L.drop a) from fun W h => hA6.below h)
          clear hA2 hA6 e0 e1 e2 b3 d0 d1 d2
          refine wp_region_held_drew (S := Beyond wq) (by kernel_rfl) (Beyond.drew _) (fun hS => ?_)
          refine take_step (i := 1) (by simp only [List.getElem?_toArray, List.getElem?_cons_succ, List.getElem?_cons_zero]; rfl) (by kernel_rfl) (by kernel_rfl) (by kernel_rfl) (by intro _ _ _ h; exact h) (by rfl) (fun W hW => by go_simp; first | done | with_reducible rfl) hS ?_
          try simp only [Act.put, List.setIfInBounds_toArray, List.set_cons_zero, List.set_cons_succ]
          refine take_step (i := 2) (by simp only [List.getElem?_toArray, List.getElem?_cons_succ, List.getElem?_cons_zero]; rfl) (by kernel_rfl) (by kernel_rfl) (by kernel_rfl) (by intro _ _ _ h; exact h) (by rfl) (fun W hW => by go_simp; first | done | with_reducible rfl) hS ?_
          try simp only [Act.put, List.setIfInBounds_toArray, List.set_cons_zero, List.set_cons_succ]
          refine take_step (i := 3) (by simp only [List.getElem?_toArray, List.getElem?_cons_succ, List.getElem?_cons_zero]; rfl) (by kernel_rfl) (by kernel_rfl) (by kernel_rfl) (by intro _ _ _ h; exact h) (by rfl) (fun W hW => by go_simp; first | done | with_reducible rfl) hS ?_
          try simp only [Act.put, List.setIfInBounds_toArray, List.set_cons_zero, List.set_cons_succ]
          refine take_step (i := 5) (by simp only [List.getElem?_toArray, List.getElem?_cons_succ, List.getElem?_cons_zero]; rfl) (by kernel_rfl) (by kernel_rfl) (by kernel_rfl) (by intro _ _ _ h; exact h) (by rfl) (fun W hW => by go_simp; first | done | with_reducible rfl) hS ?_
          try simp only [Act.put, List.setIfInBounds_toArray, List.set_cons_zero, List.set_cons_succ]
          refine take_step (i := 6) (by simp only [List.getElem?_toArray, List.getElem?_cons_succ, List.getElem?_cons_zero]; rfl) (by kernel_rfl) (by kernel_rfl) (by kernel_rfl) (by intro _ _ _ h; exact h) (by rfl) (fun W hW => by go_simp; first | done | with_reducible rfl) hS ?_
          try simp only [Act.put, List.setIfInBounds_toArray, List.set_cons_zero, List.set_cons_succ]
          refine take_step (i := 7) (by simp only [List.getElem?_toArray, List.getElem?_cons_succ, List.getElem?_cons_zero]; rfl) (by kernel_rfl) (by kernel_rfl) (by kernel_rfl) (by intro _ _ _ h; exact h) (by rfl) (fun W hW => by go_simp; first | done | with_reducible rfl) hS ?_
          try simp only [Act.put, List.setIfInBounds_toArray, List.set_cons_zero, List.set_cons_succ]
          refine take_step (i := 8) (by simp only [List.getElem?_toArray, List.getElem?_cons_succ, List.getElem?_cons_zero]; rfl) (by kernel_rfl) (by kernel_rfl) (by kernel_rfl) (by intro _ _ _ h; exact h) (by rfl) (fun W hW => by go_simp; first | done | with_reducible rfl) hS ?_
          try simp only [Act.put, List.setIfInBounds_toArray, List.set_cons_zero, List.set_cons_succ]
          refine take_step (i := 9) (by simp only [List.getElem?_toArray, List.getElem?_cons_succ, List.getElem?_cons_zero]; rfl) (by kernel_rfl) (by kernel_rfl) (by kernel_rfl) (by intro _ _ _ h; exact h) (by rfl) (fun W hW => by go_simp; first | done | with_reducible rfl) hS ?_
          try simp only [Act.put, List.setIfInBounds_toArray, List.set_cons_zero, List.set_cons_succ]
          refine wpAnyH_ready (rs := [0, 10]) (by kernel_rfl) (by simp) ?_
          refine AllReadyH.cons (by simp only [List.getElem?_toArray, List.getElem?_cons_zero]; rfl) (fun K hK => ?_) ?_
          · skip
            go_simp
            refine hK.out _ _ (Below.alloc hS (Below.size hS) _) (fun hS0 => ?_)
            clear hK K hS
            have hS := hS0
            try simp only [Act.put, List.setIfInBounds_toArray, List.set_cons_zero, List.set_cons_succ]
            refine wpAnyH_ready (rs := [4, 10]) (by kernel_rfl) (by simp) ?_
            refine AllReadyH.cons (by simp only [List.getElem?_toArray, List.getElem?_cons_succ, List.getElem?_cons_zero]; rfl) (fun K hK => ?_) ?_
            · skip
              refine wp_append_ws _ (.tmp 36) (.tmp 39) rfl wq.heap.size (ns := L.take a) rfl (WRow.empty wq.drew rfl (Nat.le_refl _)) rfl HTL.out.symm (HT2.out _ hS) (by have := HTL.out; have := HLL.out; simp; omega) (Below.size hS) ?_
              intro A4 m4 c4 w4 hr4 hm4 hb4 hg4
              refine hK.out _ _ (Below.trans hS hb4) (fun hS4 => ?_)
              have HR4 := hid hr4
              clear hr4 hb4 hg4 hm4
              clear hK K hS
              have hS := hS4
              try simp only [Act.put, List.setIfInBounds_toArray, List.set_cons_zero, List.set_cons_succ]
              refine wpAnyH_ready (rs := [10]) (by kernel_rfl) (by simp) ?_
              refine AllReadyH.cons (by simp only [List.getElem?_toArray, List.getElem?_cons_succ, List.getElem?_cons_zero]; rfl) (fun K hK => ?_) AllReadyH.nil
              go_simp
              refine hK.out _ _ (Below.alloc hS (Below.size hS) _) (fun hS10 => ?_)
              have HX10 := hid (WAt.one w4 x (g := w4.heap.size) (rfl))
              clear hK K hS
              have hS := hS10
              try simp only [Act.put, List.setIfInBounds_toArray, List.set_cons_zero, List.set_cons_succ]
              refine wpAnyH_ready (rs := [11]) (by kernel_rfl) (by simp) ?_
              refine AllReadyH.cons (by simp only [List.getElem?_toArray, List.getElem?_cons_succ, List.getElem?_cons_zero]; rfl) (fun K hK => ?_) AllReadyH.nil
              refine wp_append_ws _ (.tmp 40) (.tmp 46) rfl wq.heap.size rfl (HR4.out.alloc _) rfl rfl (ns := [x]) HX10.out (by have := HTL.out; have := HLL.out; simp at *; omega) (Below.size hS) ?_
              intro A5 m5 c5 w5 hr5 hm5 hb5 hg5
              refine hK.out _ _ (Below.trans hS hb5) (fun hS11 => ?_)
              have HR5 := hid hr5
              have HM5 := hid hm5
              clear hr5 hb5 hg5 hm5 HX10 HR4
              clear hK K hS
              have hS := hS11
              try simp only [Act.put, List.setIfInBounds_toArray, List.set_cons_zero, List.set_cons_succ]
              refine take_step (i := 12) (by simp only [List.getElem?_toArray, List.getElem?_cons_succ, List.getElem?_cons_zero]; rfl) (by kernel_rfl) (by kernel_rfl) (by kernel_rfl) (by intro _ _ _ h; exact h) (by rfl) (fun W hW => by go_simp; first | done | with_reducible rfl) hS ?_
              try simp only [Act.put, List.setIfInBounds_toArray, List.set_cons_zero, List.set_cons_succ]
              refine wpAnyH_done (by kernel_rfl) ?_ _
              have HS5 := hid hS11
              have HI := hid (show L.take a ++ x :: L.drop a = ins L x by unfold ins; rw [HPA.out])
              have HLD := hid (show m1 - a = (L.drop a).length by rw [List.length_drop, ← HM.out])
              have HLE := hid (show (L.take a ++ [x]).length + (L.drop a).length ≤ 1099511627776 by have := HTL.out; have := HLL.out; simp at *; omega)
              clear q3 qx0 qx1 qx2 hsl2
              go_wp2_with (at_builtin; go_must (refine wpList_append_ws _ rfl _ _ rfl wq.heap.size rfl HR5.out rfl HLD.out (HT6.out _ HS5.out) HLE.out (Below.size HS5.out) ?_))
              intro A7 m7 c7 w7 hr7 hm7 hb7 hg7
              have hwle : w.heap.size ≤ wq.heap.size := by have := HSQ.out.lt; omega
              have HR7 := hid (show WRow w7 w.heap.size A7 m7 c7 (ins L x) by rw [← HI.out]; exact hr7.le hwle)
              have HB7 := hid (Below.trans HS5.out hb7)
              clear hr7 hb7 hg7 hm7 hS11 hS
              go_wp2_with fail
              go_roundw
              case rel => exact ⟨k + 1, A7, m7, c7, ins L x, by omega, rfl, by go_num, by rw [HFS.out, HL.out], HSQ.out.to HR7.out HB7.out⟩
              case measure => simp [intOf]; omega
            refine AllReadyH.cons (by simp only [List.getElem?_toArray, List.getElem?_cons_succ, List.getElem?_cons_zero]; rfl) (fun K hK => ?_) AllReadyH.nil
            · skip
              go_simp
              refine hK.out _ _ (Below.alloc hS (Below.size hS) _) (fun hS10 => ?_)
              have HX10 := hid (WAt.one (wq.drew.alloc (.cells #[] 43)) x (g := wq.heap.size + 1) (by simp))
              clear hK K hS
              have hS := hS10
              try simp only [Act.put, List.setIfInBounds_toArray, List.set_cons_zero, List.set_cons_succ]
              refine wpAnyH_ready (rs := [4]) (by kernel_rfl) (by simp) ?_
              refine AllReadyH.cons (by simp only [List.getElem?_toArray, List.getElem?_cons_succ, List.getElem?_cons_zero]; rfl) (fun K hK => ?_) AllReadyH.nil
              refine wp_append_ws _ (.tmp 36) (.tmp 39) rfl wq.heap.size (ns := L.take a) rfl ((WRow.empty wq.drew rfl (Nat.le_refl _)).alloc _) rfl HTL.out.symm (HT2.out _ hS) (by have := HTL.out; have := HLL.out; simp; omega) (Below.size hS) ?_
              intro A4 m4 c4 w4 hr4 hm4 hb4 hg4
              refine hK.out _ _ (Below.trans hS hb4) (fun hS4 => ?_)
              have HR4 := hid hr4
              have HX10 := hid (HX10.out.grown hg4 (by simp) (fun b off e => by simp [Value.ownBlock] at e ⊢; omega))
              clear hr4 hb4 hg4 hm4
              clear hK K hS
              have hS := hS4
              try simp only [Act.put, List.setIfInBounds_toArray, List.set_cons_zero, List.set_cons_succ]
              refine wpAnyH_ready (rs := [11]) (by kernel_rfl) (by simp) ?_
              refine AllReadyH.cons (by simp only [List.getElem?_toArray, List.getElem?_cons_succ, List.getElem?_cons_zero]; rfl) (fun K hK => ?_) AllReadyH.nil
              refine wp_append_ws _ (.tmp 40) (.tmp 46) rfl wq.heap.size rfl (HR4.out) rfl rfl (ns := [x]) HX10.out (by have := HTL.out; have := HLL.out; simp at *; omega) (Below.size hS) ?_
              intro A5 m5 c5 w5 hr5 hm5 hb5 hg5
              refine hK.out _ _ (Below.trans hS hb5) (fun hS11 => ?_)
              have HR5 := hid hr5
              have HM5 := hid hm5
              clear hr5 hb5 hg5 hm5 HX10 HR4
              clear hK K hS
              have hS := hS11
              try simp only [Act.put, List.setIfInBounds_toArray, List.set_cons_zero, List.set_cons_succ]
              refine take_step (i := 12) (by simp only [List.getElem?_toArray, List.getElem?_cons_succ, List.getElem?_cons_zero]; rfl) (by kernel_rfl) (by kernel_rfl) (by kernel_rfl) (by intro _ _ _ h; exact h) (by rfl) (fun W hW => by go_simp; first | done | with_reducible rfl) hS ?_
              try simp only [Act.put, List.setIfInBounds_toArray, List.set_cons_zero, List.set_cons_succ]
              refine wpAnyH_done (by kernel_rfl) ?_ _
              have HS5 := hid hS11
              have HI := hid (show L.take a ++ x :: L.drop a = ins L x by unfold ins; rw [HPA.out])
              have HLD := hid (show m1 - a = (L.drop a).length by rw [List.length_drop, ← HM.out])
              have HLE := hid (show (L.take a ++ [x]).length + (L.drop a).length ≤ 1099511627776 by have := HTL.out; have := HLL.out; simp at *; omega)
              clear q3 qx0 qx1 qx2 hsl2
              go_wp2_with (at_builtin; go_must (refine wpList_append_ws _ rfl _ _ rfl wq.heap.size rfl HR5.out rfl HLD.out (HT6.out _ HS5.out) HLE.out (Below.size HS5.out) ?_))
              intro A7 m7 c7 w7 hr7 hm7 hb7 hg7
              have hwle : w.heap.size ≤ wq.heap.size := by have := HSQ.out.lt; omega
              have HR7 := hid (show WRow w7 w.heap.size A7 m7 c7 (ins L x) by rw [← HI.out]; exact hr7.le hwle)
              have HB7 := hid (Below.trans HS5.out hb7)
              clear hr7 hb7 hg7 hm7 hS11 hS
              go_wp2_with fail
              go_roundw
              case rel => exact ⟨k + 1, A7, m7, c7, ins L x, by omega, rfl, by go_num, by rw [HFS.out, HL.out], HSQ.out.to HR7.out HB7.out⟩
              case measure => simp [intOf]; omega
          refine AllReadyH.cons (by simp only [List.getElem?_toArray, List.getElem?_cons_succ, List.getElem?_cons_zero]; rfl) (fun K hK => ?_) AllReadyH.nil
          · skip
            go_simp
            refine hK.out _ _ (Below.alloc hS (Below.size hS) _) (fun hS10 => ?_)
            have HX10 := hid (WAt.one wq.drew x (g := wq.heap.size) (rfl))
            clear hK K hS
            have hS := hS10
            try simp only [Act.put, List.setIfInBounds_toArray, List.set_cons_zero, List.set_cons_succ]
            refine wpAnyH_ready (rs := [0]) (by kernel_rfl) (by simp) ?_
            refine AllReadyH.cons (by simp only [List.getElem?_toArray, List.getElem?_cons_zero]; rfl) (fun K hK => ?_) AllReadyH.nil
            go_simp
            refine hK.out _ _ (Below.alloc hS (Below.size hS) _) (fun hS0 => ?_)
            clear hK K hS
            have hS := hS0
            try simp only [Act.put, List.setIfInBounds_toArray, List.set_cons_zero, List.set_cons_succ]
            refine wpAnyH_ready (rs := [4]) (by kernel_rfl) (by simp) ?_
            refine AllReadyH.cons (by simp only [List.getElem?_toArray, List.getElem?_cons_succ, List.getElem?_cons_zero]; rfl) (fun K hK => ?_) AllReadyH.nil
            refine wp_append_ws _ (.tmp 36) (.tmp 39) rfl wq.heap.size (ns := L.take a) rfl (WRow.empty (wq.drew.alloc (.cells #[.string (bst x.k), .string (bst x.v), .bool x.g] 43)) (by simp) (by simp)) rfl HTL.out.symm (HT2.out _ hS) (by have := HTL.out; have := HLL.out; simp; omega) (Below.size hS) ?_
            intro A4 m4 c4 w4 hr4 hm4 hb4 hg4
            refine hK.out _ _ (Below.trans hS hb4) (fun hS4 => ?_)
            have HR4 := hid hr4
            have HX10 := hid ((HX10.out.below ((Below.refl _ _).alloc (by simp) (.cells #[] 43))).grown hg4 (by simp) (fun b off e => by simp [Value.ownBlock] at e ⊢; omega))
            clear hr4 hb4 hg4 hm4
            clear hK K hS
            have hS := hS4
            try simp only [Act.put, List.setIfInBounds_toArray, List.set_cons_zero, List.set_cons_succ]
            refine wpAnyH_ready (rs := [11]) (by kernel_rfl) (by simp) ?_
            refine AllReadyH.cons (by simp only [List.getElem?_toArray, List.getElem?_cons_succ, List.getElem?_cons_zero]; rfl) (fun K hK => ?_) AllReadyH.nil
            refine wp_append_ws _ (.tmp 40) (.tmp 46) rfl wq.heap.size rfl (HR4.out) rfl rfl (ns := [x]) HX10.out (by have := HTL.out; have := HLL.out; simp at *; omega) (Below.size hS) ?_
            intro A5 m5 c5 w5 hr5 hm5 hb5 hg5
            refine hK.out _ _ (Below.trans hS hb5) (fun hS11 => ?_)
            have HR5 := hid hr5
            have HM5 := hid hm5
            clear hr5 hb5 hg5 hm5 HX10 HR4
            clear hK K hS
            have hS := hS11
            try simp only [Act.put, List.setIfInBounds_toArray, List.set_cons_zero, List.set_cons_succ]
            refine take_step (i := 12) (by simp only [List.getElem?_toArray, List.getElem?_cons_succ, List.getElem?_cons_zero]; rfl) (by kernel_rfl) (by kernel_rfl) (by kernel_rfl) (by intro _ _ _ h; exact h) (by rfl) (fun W hW => by go_simp; first | done | with_reducible rfl) hS ?_
            try simp only [Act.put, List.setIfInBounds_toArray, List.set_cons_zero, List.set_cons_succ]
            refine wpAnyH_done (by kernel_rfl) ?_ _
            have HS5 := hid hS11
            have HI := hid (show L.take a ++ x :: L.drop a = ins L x by unfold ins; rw [HPA.out])
            have HLD := hid (show m1 - a = (L.drop a).length by rw [List.length_drop, ← HM.out])
            have HLE := hid (show (L.take a ++ [x]).length + (L.drop a).length ≤ 1099511627776 by have := HTL.out; have := HLL.out; simp at *; omega)
            clear q3 qx0 qx1 qx2 hsl2
            go_wp2_with (at_builtin; go_must (refine wpList_append_ws _ rfl _ _ rfl wq.heap.size rfl HR5.out rfl HLD.out (HT6.out _ HS5.out) HLE.out (Below.size HS5.out) ?_))
            intro A7 m7 c7 w7 hr7 hm7 hb7 hg7
            have hwle : w.heap.size ≤ wq.heap.size := by have := HSQ.out.lt; omega
            have HR7 := hid (show WRow w7 w.heap.size A7 m7 c7 (ins L x) by rw [← HI.out]; exact hr7.le hwle)
            have HB7 := hid (Below.trans HS5.out hb7)
            clear hr7 hb7 hg7 hm7 hS11 hS
            go_wp2_with fail
            go_roundw
            case rel => exact ⟨k + 1, A7, m7, c7, ins L x, by omega, rfl, by go_num, by rw [HFS.out, HL.out], HSQ.out.to HR7.out HB7.out⟩
            case measure => simp [intOf]; omega
        · obtain ⟨j, rfl⟩ : ∃ j, a = j + 1 := ⟨a - 1, by omega⟩
          obtain ⟨b', off', y, hA1, hb', hy, p0, p1, p2⟩ := HRA.out.get (k := j) (by rw [← HM.out]; omega)
          subst hA1
          have hidx : ((j + 1 : Nat) : Int) - 1 = (j : Int) := by omega
          have t1 := bst_toList x.k
          have t2 := bst_toList y.k
          have HY := hid hy
          clear hy
          obtain ⟨K, hK⟩ : ∃ K, K = bst x.k := ⟨_, rfl⟩
          obtain ⟨K2, hK2⟩ : ∃ K, K = bst y.k := ⟨_, rfl⟩
          rw [← hK] at t1
          rw [← hK2] at t2 p0
          have HKX := hid hK
          have d0' := d0
          rw [← hK] at d0'
          clear hK hK2 d0
          rcases leK_cases y.k x.k with ⟨g1, g2⟩ | ⟨g1, g3, g2⟩ | ⟨g1, g3, g2⟩
          · have HPA := hid (show posn L x.k L.length = j + 1 by rw [← HP.out, posn_yes HY.out g2])
            clear g2
            go_wp2_with fail
            go_quiet (fail)
            go_wp2_with fail
            have hKe := HKX.out
            subst hKe
            have d0 := d0'
            generalize hja : j + 1 = a at *
            generalize hwq : (World.drewN (World.drewN wr mm) _) = wq
            have HSQ := hid (show St3 w wq c r s (some ⟨b, off, none⟩) n cap _ m1 c1 L by rw [← hwq]; exact (HST.out.drewN _).drewN _)
            have e0 : wq.cell? ⟨b, off + k * 3, none⟩ = some (.string (bst x.k)) := by rw [← hwq]; exact d0
            have e1 : wq.cell? ⟨b, off + k * 3 + 1, none⟩ = some (.string (bst x.v)) := by rw [← hwq]; exact d1
            have e2 : wq.cell? ⟨b, off + k * 3 + 2, none⟩ = some (.bool x.g) := by rw [← hwq]; exact d2
            clear hwq b0 b1 b2 b3 f3
            obtain ⟨_, _, _, b3, _, _, _, _⟩ := four HSQ.out.b1
            have hbl : b < wq.heap.size := by have := HSQ.out.lt; have := HBX.out; omega
            have hwl : w.heap.size < wq.heap.size := by have := HSQ.out.lt; omega
            have q3 : ∀ W, Beyond wq W → W.cell? ⟨w.heap.size, 3, none⟩ = some (.slice (some ⟨b, off, none⟩) n cap) := fun W h => (Below.cell (p := ⟨w.heap.size, 3, none⟩) h hwl).trans b3
            have qx0 : ∀ W, Beyond wq W → W.cell? ⟨b, off + k * 3, none⟩ = some (.string (bst x.k)) := fun W h => (Below.cell (p := ⟨b, off + k * 3, none⟩) h hbl).trans e0
            have qx1 : ∀ W, Beyond wq W → W.cell? ⟨b, off + k * 3 + 1, none⟩ = some (.string (bst x.v)) := fun W h => (Below.cell (p := ⟨b, off + k * 3 + 1, none⟩) h hbl).trans e1
            have qx2 : ∀ W, Beyond wq W → W.cell? ⟨b, off + k * 3 + 2, none⟩ = some (.bool x.g) := fun W h => (Below.cell (p := ⟨b, off + k * 3 + 2, none⟩) h hbl).trans e2
            have HTL := hid (show (L.take a).length = a by rw [List.length_take, ← HM.out]; omega)
            obtain ⟨A2, hsl2, hA2⟩ := wslice_to (n := a) HSQ.out.row.at_ HSQ.out.row.1 HSQ.out.row.cap ha
            obtain ⟨A6, hsl6, hA6⟩ := wslice_from (n := a) HSQ.out.row.at_ HSQ.out.row.1 HSQ.out.row.cap ha
            have HT2 := hid (show ∀ W, Beyond wq W → WAt W wq.heap.size A2 (L.take a) from fun W h => hA2.below h)
            have HT6 := hid (show ∀ W, Beyond wq W → WAt W wq.heap.size A6 (L.drop a) from fun W h => hA6.below h)
            clear hA2 hA6 e0 e1 e2 b3 d0 d1 d2
            refine wp_region_held_drew (S := Beyond wq) (by kernel_rfl) (Beyond.drew _) (fun hS => ?_)
            refine take_step (i := 1) (by simp only [List.getElem?_toArray, List.getElem?_cons_succ, List.getElem?_cons_zero]; rfl) (by kernel_rfl) (by kernel_rfl) (by kernel_rfl) (by intro _ _ _ h; exact h) (by rfl) (fun W hW => by go_simp; first | done | with_reducible rfl) hS ?_
            try simp only [Act.put, List.setIfInBounds_toArray, List.set_cons_zero, List.set_cons_succ]
            refine take_step (i := 2) (by simp only [List.getElem?_toArray, List.getElem?_cons_succ, List.getElem?_cons_zero]; rfl) (by kernel_rfl) (by kernel_rfl) (by kernel_rfl) (by intro _ _ _ h; exact h) (by rfl) (fun W hW => by go_simp; first | done | with_reducible rfl) hS ?_
            try simp only [Act.put, List.setIfInBounds_toArray, List.set_cons_zero, List.set_cons_succ]
            refine take_step (i := 3) (by simp only [List.getElem?_toArray, List.getElem?_cons_succ, List.getElem?_cons_zero]; rfl) (by kernel_rfl) (by kernel_rfl) (by kernel_rfl) (by intro _ _ _ h; exact h) (by rfl) (fun W hW => by go_simp; first | done | with_reducible rfl) hS ?_
            try simp only [Act.put, List.setIfInBounds_toArray, List.set_cons_zero, List.set_cons_succ]
            refine take_step (i := 5) (by simp only [List.getElem?_toArray, List.getElem?_cons_succ, List.getElem?_cons_zero]; rfl) (by kernel_rfl) (by kernel_rfl) (by kernel_rfl) (by intro _ _ _ h; exact h) (by rfl) (fun W hW => by go_simp; first | done | with_reducible rfl) hS ?_
            try simp only [Act.put, List.setIfInBounds_toArray, List.set_cons_zero, List.set_cons_succ]
            refine take_step (i := 6) (by simp only [List.getElem?_toArray, List.getElem?_cons_succ, List.getElem?_cons_zero]; rfl) (by kernel_rfl) (by kernel_rfl) (by kernel_rfl) (by intro _ _ _ h; exact h) (by rfl) (fun W hW => by go_simp; first | done | with_reducible rfl) hS ?_
            try simp only [Act.put, List.setIfInBounds_toArray, List.set_cons_zero, List.set_cons_succ]
            refine take_step (i := 7) (by simp only [List.getElem?_toArray, List.getElem?_cons_succ, List.getElem?_cons_zero]; rfl) (by kernel_rfl) (by kernel_rfl) (by kernel_rfl) (by intro _ _ _ h; exact h) (by rfl) (fun W hW => by go_simp; first | done | with_reducible rfl) hS ?_
            try simp only [Act.put, List.setIfInBounds_toArray, List.set_cons_zero, List.set_cons_succ]
            refine take_step (i := 8) (by simp only [List.getElem?_toArray, List.getElem?_cons_succ, List.getElem?_cons_zero]; rfl) (by kernel_rfl) (by kernel_rfl) (by kernel_rfl) (by intro _ _ _ h; exact h) (by rfl) (fun W hW => by go_simp; first | done | with_reducible rfl) hS ?_
            try simp only [Act.put, List.setIfInBounds_toArray, List.set_cons_zero, List.set_cons_succ]
            refine take_step (i := 9) (by simp only [List.getElem?_toArray, List.getElem?_cons_succ, List.getElem?_cons_zero]; rfl) (by kernel_rfl) (by kernel_rfl) (by kernel_rfl) (by intro _ _ _ h; exact h) (by rfl) (fun W hW => by go_simp; first | done | with_reducible rfl) hS ?_
            try simp only [Act.put, List.setIfInBounds_toArray, List.set_cons_zero, List.set_cons_succ]
            refine wpAnyH_ready (rs := [0, 10]) (by kernel_rfl) (by simp) ?_
            refine AllReadyH.cons (by simp only [List.getElem?_toArray, List.getElem?_cons_zero]; rfl) (fun K hK => ?_) ?_
            · skip
              go_simp
              refine hK.out _ _ (Below.alloc hS (Below.size hS) _) (fun hS0 => ?_)
              clear hK K hS
              have hS := hS0
              try simp only [Act.put, List.setIfInBounds_toArray, List.set_cons_zero, List.set_cons_succ]
              refine wpAnyH_ready (rs := [4, 10]) (by kernel_rfl) (by simp) ?_
              refine AllReadyH.cons (by simp only [List.getElem?_toArray, List.getElem?_cons_succ, List.getElem?_cons_zero]; rfl) (fun K hK => ?_) ?_
              · skip
                refine wp_append_ws _ (.tmp 36) (.tmp 39) rfl wq.heap.size (ns := L.take a) rfl (WRow.empty wq.drew rfl (Nat.le_refl _)) rfl HTL.out.symm (HT2.out _ hS) (by have := HTL.out; have := HLL.out; simp; omega) (Below.size hS) ?_
                intro A4 m4 c4 w4 hr4 hm4 hb4 hg4
                refine hK.out _ _ (Below.trans hS hb4) (fun hS4 => ?_)
                have HR4 := hid hr4
                clear hr4 hb4 hg4 hm4
                clear hK K hS
                have hS := hS4
                try simp only [Act.put, List.setIfInBounds_toArray, List.set_cons_zero, List.set_cons_succ]
                refine wpAnyH_ready (rs := [10]) (by kernel_rfl) (by simp) ?_
                refine AllReadyH.cons (by simp only [List.getElem?_toArray, List.getElem?_cons_succ, List.getElem?_cons_zero]; rfl) (fun K hK => ?_) AllReadyH.nil
                go_simp
                refine hK.out _ _ (Below.alloc hS (Below.size hS) _) (fun hS10 => ?_)
                have HX10 := hid (WAt.one w4 x (g := w4.heap.size) (rfl))
                clear hK K hS
                have hS := hS10
                try simp only [Act.put, List.setIfInBounds_toArray, List.set_cons_zero, List.set_cons_succ]
                refine wpAnyH_ready (rs := [11]) (by kernel_rfl) (by simp) ?_
                refine AllReadyH.cons (by simp only [List.getElem?_toArray, List.getElem?_cons_succ, List.getElem?_cons_zero]; rfl) (fun K hK => ?_) AllReadyH.nil
                refine wp_append_ws _ (.tmp 40) (.tmp 46) rfl wq.heap.size rfl (HR4.out.alloc _) rfl rfl (ns := [x]) HX10.out (by have := HTL.out; have := HLL.out; simp at *; omega) (Below.size hS) ?_
                intro A5 m5 c5 w5 hr5 hm5 hb5 hg5
                refine hK.out _ _ (Below.trans hS hb5) (fun hS11 => ?_)
                have HR5 := hid hr5
                have HM5 := hid hm5
                clear hr5 hb5 hg5 hm5 HX10 HR4
                clear hK K hS
                have hS := hS11
                try simp only [Act.put, List.setIfInBounds_toArray, List.set_cons_zero, List.set_cons_succ]
                refine take_step (i := 12) (by simp only [List.getElem?_toArray, List.getElem?_cons_succ, List.getElem?_cons_zero]; rfl) (by kernel_rfl) (by kernel_rfl) (by kernel_rfl) (by intro _ _ _ h; exact h) (by rfl) (fun W hW => by go_simp; first | done | with_reducible rfl) hS ?_
                try simp only [Act.put, List.setIfInBounds_toArray, List.set_cons_zero, List.set_cons_succ]
                refine wpAnyH_done (by kernel_rfl) ?_ _
                have HS5 := hid hS11
                have HI := hid (show L.take a ++ x :: L.drop a = ins L x by unfold ins; rw [HPA.out])
                have HLD := hid (show m1 - a = (L.drop a).length by rw [List.length_drop, ← HM.out])
                have HLE := hid (show (L.take a ++ [x]).length + (L.drop a).length ≤ 1099511627776 by have := HTL.out; have := HLL.out; simp at *; omega)
                clear q3 qx0 qx1 qx2 hsl2
                go_wp2_with (at_builtin; go_must (refine wpList_append_ws _ rfl _ _ rfl wq.heap.size rfl HR5.out rfl HLD.out (HT6.out _ HS5.out) HLE.out (Below.size HS5.out) ?_))
                intro A7 m7 c7 w7 hr7 hm7 hb7 hg7
                have hwle : w.heap.size ≤ wq.heap.size := by have := HSQ.out.lt; omega
                have HR7 := hid (show WRow w7 w.heap.size A7 m7 c7 (ins L x) by rw [← HI.out]; exact hr7.le hwle)
                have HB7 := hid (Below.trans HS5.out hb7)
                clear hr7 hb7 hg7 hm7 hS11 hS
                go_wp2_with fail
                go_roundw
                case rel => exact ⟨k + 1, A7, m7, c7, ins L x, by omega, rfl, by go_num, by rw [HFS.out, HL.out], HSQ.out.to HR7.out HB7.out⟩
                case measure => simp [intOf]; omega
              refine AllReadyH.cons (by simp only [List.getElem?_toArray, List.getElem?_cons_succ, List.getElem?_cons_zero]; rfl) (fun K hK => ?_) AllReadyH.nil
              · skip
                go_simp
                refine hK.out _ _ (Below.alloc hS (Below.size hS) _) (fun hS10 => ?_)
                have HX10 := hid (WAt.one (wq.drew.alloc (.cells #[] 43)) x (g := wq.heap.size + 1) (by simp))
                clear hK K hS
                have hS := hS10
                try simp only [Act.put, List.setIfInBounds_toArray, List.set_cons_zero, List.set_cons_succ]
                refine wpAnyH_ready (rs := [4]) (by kernel_rfl) (by simp) ?_
                refine AllReadyH.cons (by simp only [List.getElem?_toArray, List.getElem?_cons_succ, List.getElem?_cons_zero]; rfl) (fun K hK => ?_) AllReadyH.nil
                refine wp_append_ws _ (.tmp 36) (.tmp 39) rfl wq.heap.size (ns := L.take a) rfl ((WRow.empty wq.drew rfl (Nat.le_refl _)).alloc _) rfl HTL.out.symm (HT2.out _ hS) (by have := HTL.out; have := HLL.out; simp; omega) (Below.size hS) ?_
                intro A4 m4 c4 w4 hr4 hm4 hb4 hg4
                refine hK.out _ _ (Below.trans hS hb4) (fun hS4 => ?_)
                have HR4 := hid hr4
                have HX10 := hid (HX10.out.grown hg4 (by simp) (fun b off e => by simp [Value.ownBlock] at e ⊢; omega))
                clear hr4 hb4 hg4 hm4
                clear hK K hS
                have hS := hS4
                try simp only [Act.put, List.setIfInBounds_toArray, List.set_cons_zero, List.set_cons_succ]
                refine wpAnyH_ready (rs := [11]) (by kernel_rfl) (by simp) ?_
                refine AllReadyH.cons (by simp only [List.getElem?_toArray, List.getElem?_cons_succ, List.getElem?_cons_zero]; rfl) (fun K hK => ?_) AllReadyH.nil
                refine wp_append_ws _ (.tmp 40) (.tmp 46) rfl wq.heap.size rfl (HR4.out) rfl rfl (ns := [x]) HX10.out (by have := HTL.out; have := HLL.out; simp at *; omega) (Below.size hS) ?_
                intro A5 m5 c5 w5 hr5 hm5 hb5 hg5
                refine hK.out _ _ (Below.trans hS hb5) (fun hS11 => ?_)
                have HR5 := hid hr5
                have HM5 := hid hm5
                clear hr5 hb5 hg5 hm5 HX10 HR4
                clear hK K hS
                have hS := hS11
                try simp only [Act.put, List.setIfInBounds_toArray, List.set_cons_zero, List.set_cons_succ]
                refine take_step (i := 12) (by simp only [List.getElem?_toArray, List.getElem?_cons_succ, List.getElem?_cons_zero]; rfl) (by kernel_rfl) (by kernel_rfl) (by kernel_rfl) (by intro _ _ _ h; exact h) (by rfl) (fun W hW => by go_simp; first | done | with_reducible rfl) hS ?_
                try simp only [Act.put, List.setIfInBounds_toArray, List.set_cons_zero, List.set_cons_succ]
                refine wpAnyH_done (by kernel_rfl) ?_ _
                have HS5 := hid hS11
                have HI := hid (show L.take a ++ x :: L.drop a = ins L x by unfold ins; rw [HPA.out])
                have HLD := hid (show m1 - a = (L.drop a).length by rw [List.length_drop, ← HM.out])
                have HLE := hid (show (L.take a ++ [x]).length + (L.drop a).length ≤ 1099511627776 by have := HTL.out; have := HLL.out; simp at *; omega)
                clear q3 qx0 qx1 qx2 hsl2
                go_wp2_with (at_builtin; go_must (refine wpList_append_ws _ rfl _ _ rfl wq.heap.size rfl HR5.out rfl HLD.out (HT6.out _ HS5.out) HLE.out (Below.size HS5.out) ?_))
                intro A7 m7 c7 w7 hr7 hm7 hb7 hg7
                have hwle : w.heap.size ≤ wq.heap.size := by have := HSQ.out.lt; omega
                have HR7 := hid (show WRow w7 w.heap.size A7 m7 c7 (ins L x) by rw [← HI.out]; exact hr7.le hwle)
                have HB7 := hid (Below.trans HS5.out hb7)
                clear hr7 hb7 hg7 hm7 hS11 hS
                go_wp2_with fail
                go_roundw
                case rel => exact ⟨k + 1, A7, m7, c7, ins L x, by omega, rfl, by go_num, by rw [HFS.out, HL.out], HSQ.out.to HR7.out HB7.out⟩
                case measure => simp [intOf]; omega
            refine AllReadyH.cons (by simp only [List.getElem?_toArray, List.getElem?_cons_succ, List.getElem?_cons_zero]; rfl) (fun K hK => ?_) AllReadyH.nil
            · skip
              go_simp
              refine hK.out _ _ (Below.alloc hS (Below.size hS) _) (fun hS10 => ?_)
              have HX10 := hid (WAt.one wq.drew x (g := wq.heap.size) (rfl))
              clear hK K hS
              have hS := hS10
              try simp only [Act.put, List.setIfInBounds_toArray, List.set_cons_zero, List.set_cons_succ]
              refine wpAnyH_ready (rs := [0]) (by kernel_rfl) (by simp) ?_
              refine AllReadyH.cons (by simp only [List.getElem?_toArray, List.getElem?_cons_zero]; rfl) (fun K hK => ?_) AllReadyH.nil
              go_simp
              refine hK.out _ _ (Below.alloc hS (Below.size hS) _) (fun hS0 => ?_)
              clear hK K hS
              have hS := hS0
              try simp only [Act.put, List.setIfInBounds_toArray, List.set_cons_zero, List.set_cons_succ]
              refine wpAnyH_ready (rs := [4]) (by kernel_rfl) (by simp) ?_
              refine AllReadyH.cons (by simp only [List.getElem?_toArray, List.getElem?_cons_succ, List.getElem?_cons_zero]; rfl) (fun K hK => ?_) AllReadyH.nil
              refine wp_append_ws _ (.tmp 36) (.tmp 39) rfl wq.heap.size (ns := L.take a) rfl (WRow.empty (wq.drew.alloc (.cells #[.string (bst x.k), .string (bst x.v), .bool x.g] 43)) (by simp) (by simp)) rfl HTL.out.symm (HT2.out _ hS) (by have := HTL.out; have := HLL.out; simp; omega) (Below.size hS) ?_
              intro A4 m4 c4 w4 hr4 hm4 hb4 hg4
              refine hK.out _ _ (Below.trans hS hb4) (fun hS4 => ?_)
              have HR4 := hid hr4
              have HX10 := hid ((HX10.out.below ((Below.refl _ _).alloc (by simp) (.cells #[] 43))).grown hg4 (by simp) (fun b off e => by simp [Value.ownBlock] at e ⊢; omega))
              clear hr4 hb4 hg4 hm4
              clear hK K hS
              have hS := hS4
              try simp only [Act.put, List.setIfInBounds_toArray, List.set_cons_zero, List.set_cons_succ]
              refine wpAnyH_ready (rs := [11]) (by kernel_rfl) (by simp) ?_
              refine AllReadyH.cons (by simp only [List.getElem?_toArray, List.getElem?_cons_succ, List.getElem?_cons_zero]; rfl) (fun K hK => ?_) AllReadyH.nil
              refine wp_append_ws _ (.tmp 40) (.tmp 46) rfl wq.heap.size rfl (HR4.out) rfl rfl (ns := [x]) HX10.out (by have := HTL.out; have := HLL.out; simp at *; omega) (Below.size hS) ?_
              intro A5 m5 c5 w5 hr5 hm5 hb5 hg5
              refine hK.out _ _ (Below.trans hS hb5) (fun hS11 => ?_)
              have HR5 := hid hr5
              have HM5 := hid hm5
              clear hr5 hb5 hg5 hm5 HX10 HR4
              clear hK K hS
              have hS := hS11
              try simp only [Act.put, List.setIfInBounds_toArray, List.set_cons_zero, List.set_cons_succ]
              refine take_step (i := 12) (by simp only [List.getElem?_toArray, List.getElem?_cons_succ, List.getElem?_cons_zero]; rfl) (by kernel_rfl) (by kernel_rfl) (by kernel_rfl) (by intro _ _ _ h; exact h) (by rfl) (fun W hW => by go_simp; first | done | with_reducible rfl) hS ?_
              try simp only [Act.put, List.setIfInBounds_toArray, List.set_cons_zero, List.set_cons_succ]
              refine wpAnyH_done (by kernel_rfl) ?_ _
              have HS5 := hid hS11
              have HI := hid (show L.take a ++ x :: L.drop a = ins L x by unfold ins; rw [HPA.out])
              have HLD := hid (show m1 - a = (L.drop a).length by rw [List.length_drop, ← HM.out])
              have HLE := hid (show (L.take a ++ [x]).length + (L.drop a).length ≤ 1099511627776 by have := HTL.out; have := HLL.out; simp at *; omega)
              clear q3 qx0 qx1 qx2 hsl2
              go_wp2_with (at_builtin; go_must (refine wpList_append_ws _ rfl _ _ rfl wq.heap.size rfl HR5.out rfl HLD.out (HT6.out _ HS5.out) HLE.out (Below.size HS5.out) ?_))
              intro A7 m7 c7 w7 hr7 hm7 hb7 hg7
              have hwle : w.heap.size ≤ wq.heap.size := by have := HSQ.out.lt; omega
              have HR7 := hid (show WRow w7 w.heap.size A7 m7 c7 (ins L x) by rw [← HI.out]; exact hr7.le hwle)
              have HB7 := hid (Below.trans HS5.out hb7)
              clear hr7 hb7 hg7 hm7 hS11 hS
              go_wp2_with fail
              go_roundw
              case rel => exact ⟨k + 1, A7, m7, c7, ins L x, by omega, rfl, by go_num, by rw [HFS.out, HL.out], HSQ.out.to HR7.out HB7.out⟩
              case measure => simp [intOf]; omega
          · have HPA := hid (show posn L x.k L.length = j + 1 by rw [← HP.out, posn_yes HY.out g2])
            clear g2
            go_wp2_with fail
            go_quiet (fail)
            go_wp2_with fail
            have hKe := HKX.out
            subst hKe
            have d0 := d0'
            generalize hja : j + 1 = a at *
            generalize hwq : (World.drewN (World.drewN wr mm) _) = wq
            have HSQ := hid (show St3 w wq c r s (some ⟨b, off, none⟩) n cap _ m1 c1 L by rw [← hwq]; exact (HST.out.drewN _).drewN _)
            have e0 : wq.cell? ⟨b, off + k * 3, none⟩ = some (.string (bst x.k)) := by rw [← hwq]; exact d0
            have e1 : wq.cell? ⟨b, off + k * 3 + 1, none⟩ = some (.string (bst x.v)) := by rw [← hwq]; exact d1
            have e2 : wq.cell? ⟨b, off + k * 3 + 2, none⟩ = some (.bool x.g) := by rw [← hwq]; exact d2
            clear hwq b0 b1 b2 b3 f3
            obtain ⟨_, _, _, b3, _, _, _, _⟩ := four HSQ.out.b1
            have hbl : b < wq.heap.size := by have := HSQ.out.lt; have := HBX.out; omega
            have hwl : w.heap.size < wq.heap.size := by have := HSQ.out.lt; omega
            have q3 : ∀ W, Beyond wq W → W.cell? ⟨w.heap.size, 3, none⟩ = some (.slice (some ⟨b, off, none⟩) n cap) := fun W h => (Below.cell (p := ⟨w.heap.size, 3, none⟩) h hwl).trans b3
            have qx0 : ∀ W, Beyond wq W → W.cell? ⟨b, off + k * 3, none⟩ = some (.string (bst x.k)) := fun W h => (Below.cell (p := ⟨b, off + k * 3, none⟩) h hbl).trans e0
            have qx1 : ∀ W, Beyond wq W → W.cell? ⟨b, off + k * 3 + 1, none⟩ = some (.string (bst x.v)) := fun W h => (Below.cell (p := ⟨b, off + k * 3 + 1, none⟩) h hbl).trans e1
            have qx2 : ∀ W, Beyond wq W → W.cell? ⟨b, off + k * 3 + 2, none⟩ = some (.bool x.g) := fun W h => (Below.cell (p := ⟨b, off + k * 3 + 2, none⟩) h hbl).trans e2
            have HTL := hid (show (L.take a).length = a by rw [List.length_take, ← HM.out]; omega)
            obtain ⟨A2, hsl2, hA2⟩ := wslice_to (n := a) HSQ.out.row.at_ HSQ.out.row.1 HSQ.out.row.cap ha
            obtain ⟨A6, hsl6, hA6⟩ := wslice_from (n := a) HSQ.out.row.at_ HSQ.out.row.1 HSQ.out.row.cap ha
            have HT2 := hid (show ∀ W, Beyond wq W → WAt W wq.heap.size A2 (L.take a) from fun W h => hA2.below h)
            have HT6 := hid (show ∀ W, Beyond wq W → WAt W wq.heap.size A6 (L.drop a) from fun W h => hA6.below h)
            clear hA2 hA6 e0 e1 e2 b3 d0 d1 d2
            refine wp_region_held_drew (S := Beyond wq) (by kernel_rfl) (Beyond.drew _) (fun hS => ?_)
            refine take_step (i := 1) (by simp only [List.getElem?_toArray, List.getElem?_cons_succ, List.getElem?_cons_zero]; rfl) (by kernel_rfl) (by kernel_rfl) (by kernel_rfl) (by intro _ _ _ h; exact h) (by rfl) (fun W hW => by go_simp; first | done | with_reducible rfl) hS ?_
            try simp only [Act.put, List.setIfInBounds_toArray, List.set_cons_zero, List.set_cons_succ]
            refine take_step (i := 2) (by simp only [List.getElem?_toArray, List.getElem?_cons_succ, List.getElem?_cons_zero]; rfl) (by kernel_rfl) (by kernel_rfl) (by kernel_rfl) (by intro _ _ _ h; exact h) (by rfl) (fun W hW => by go_simp; first | done | with_reducible rfl) hS ?_
            try simp only [Act.put, List.setIfInBounds_toArray, List.set_cons_zero, List.set_cons_succ]
            refine take_step (i := 3) (by simp only [List.getElem?_toArray, List.getElem?_cons_succ, List.getElem?_cons_zero]; rfl) (by kernel_rfl) (by kernel_rfl) (by kernel_rfl) (by intro _ _ _ h; exact h) (by rfl) (fun W hW => by go_simp; first | done | with_reducible rfl) hS ?_
            try simp only [Act.put, List.setIfInBounds_toArray, List.set_cons_zero, List.set_cons_succ]
            refine take_step (i := 5) (by simp only [List.getElem?_toArray, List.getElem?_cons_succ, List.getElem?_cons_zero]; rfl) (by kernel_rfl) (by kernel_rfl) (by kernel_rfl) (by intro _ _ _ h; exact h) (by rfl) (fun W hW => by go_simp; first | done | with_reducible rfl) hS ?_
            try simp only [Act.put, List.setIfInBounds_toArray, List.set_cons_zero, List.set_cons_succ]
            refine take_step (i := 6) (by simp only [List.getElem?_toArray, List.getElem?_cons_succ, List.getElem?_cons_zero]; rfl) (by kernel_rfl) (by kernel_rfl) (by kernel_rfl) (by intro _ _ _ h; exact h) (by rfl) (fun W hW => by go_simp; first | done | with_reducible rfl) hS ?_
            try simp only [Act.put, List.setIfInBounds_toArray, List.set_cons_zero, List.set_cons_succ]
            refine take_step (i := 7) (by simp only [List.getElem?_toArray, List.getElem?_cons_succ, List.getElem?_cons_zero]; rfl) (by kernel_rfl) (by kernel_rfl) (by kernel_rfl) (by intro _ _ _ h; exact h) (by rfl) (fun W hW => by go_simp; first | done | with_reducible rfl) hS ?_
            try simp only [Act.put, List.setIfInBounds_toArray, List.set_cons_zero, List.set_cons_succ]
            refine take_step (i := 8) (by simp only [List.getElem?_toArray, List.getElem?_cons_succ, List.getElem?_cons_zero]; rfl) (by kernel_rfl) (by kernel_rfl) (by kernel_rfl) (by intro _ _ _ h; exact h) (by rfl) (fun W hW => by go_simp; first | done | with_reducible rfl) hS ?_
            try simp only [Act.put, List.setIfInBounds_toArray, List.set_cons_zero, List.set_cons_succ]
            refine take_step (i := 9) (by simp only [List.getElem?_toArray, List.getElem?_cons_succ, List.getElem?_cons_zero]; rfl) (by kernel_rfl) (by kernel_rfl) (by kernel_rfl) (by intro _ _ _ h; exact h) (by rfl) (fun W hW => by go_simp; first | done | with_reducible rfl) hS ?_
            try simp only [Act.put, List.setIfInBounds_toArray, List.set_cons_zero, List.set_cons_succ]
            refine wpAnyH_ready (rs := [0, 10]) (by kernel_rfl) (by simp) ?_
            refine AllReadyH.cons (by simp only [List.getElem?_toArray, List.getElem?_cons_zero]; rfl) (fun K hK => ?_) ?_
            · skip
              go_simp
              refine hK.out _ _ (Below.alloc hS (Below.size hS) _) (fun hS0 => ?_)
              clear hK K hS
              have hS := hS0
              try simp only [Act.put, List.setIfInBounds_toArray, List.set_cons_zero, List.set_cons_succ]
              refine wpAnyH_ready (rs := [4, 10]) (by kernel_rfl) (by simp) ?_
              refine AllReadyH.cons (by simp only [List.getElem?_toArray, List.getElem?_cons_succ, List.getElem?_cons_zero]; rfl) (fun K hK => ?_) ?_
              · skip
                refine wp_append_ws _ (.tmp 36) (.tmp 39) rfl wq.heap.size (ns := L.take a) rfl (WRow.empty wq.drew rfl (Nat.le_refl _)) rfl HTL.out.symm (HT2.out _ hS) (by have := HTL.out; have := HLL.out; simp; omega) (Below.size hS) ?_
                intro A4 m4 c4 w4 hr4 hm4 hb4 hg4
                refine hK.out _ _ (Below.trans hS hb4) (fun hS4 => ?_)
                have HR4 := hid hr4
                clear hr4 hb4 hg4 hm4
                clear hK K hS
                have hS := hS4
                try simp only [Act.put, List.setIfInBounds_toArray, List.set_cons_zero, List.set_cons_succ]
                refine wpAnyH_ready (rs := [10]) (by kernel_rfl) (by simp) ?_
                refine AllReadyH.cons (by simp only [List.getElem?_toArray, List.getElem?_cons_succ, List.getElem?_cons_zero]; rfl) (fun K hK => ?_) AllReadyH.nil
                go_simp
                refine hK.out _ _ (Below.alloc hS (Below.size hS) _) (fun hS10 => ?_)
                have HX10 := hid (WAt.one w4 x (g := w4.heap.size) (rfl))
                clear hK K hS
                have hS := hS10
                try simp only [Act.put, List.setIfInBounds_toArray, List.set_cons_zero, List.set_cons_succ]
                refine wpAnyH_ready (rs := [11]) (by kernel_rfl) (by simp) ?_
                refine AllReadyH.cons (by simp only [List.getElem?_toArray, List.getElem?_cons_succ, List.getElem?_cons_zero]; rfl) (fun K hK => ?_) AllReadyH.nil
                refine wp_append_ws _ (.tmp 40) (.tmp 46) rfl wq.heap.size rfl (HR4.out.alloc _) rfl rfl (ns := [x]) HX10.out (by have := HTL.out; have := HLL.out; simp at *; omega) (Below.size hS) ?_
                intro A5 m5 c5 w5 hr5 hm5 hb5 hg5
                refine hK.out _ _ (Below.trans hS hb5) (fun hS11 => ?_)
                have HR5 := hid hr5
                have HM5 := hid hm5
                clear hr5 hb5 hg5 hm5 HX10 HR4
                clear hK K hS
                have hS := hS11
                try simp only [Act.put, List.setIfInBounds_toArray, List.set_cons_zero, List.set_cons_succ]
                refine take_step (i := 12) (by simp only [List.getElem?_toArray, List.getElem?_cons_succ, List.getElem?_cons_zero]; rfl) (by kernel_rfl) (by kernel_rfl) (by kernel_rfl) (by intro _ _ _ h; exact h) (by rfl) (fun W hW => by go_simp; first | done | with_reducible rfl) hS ?_
                try simp only [Act.put, List.setIfInBounds_toArray, List.set_cons_zero, List.set_cons_succ]
                refine wpAnyH_done (by kernel_rfl) ?_ _
                have HS5 := hid hS11
                have HI := hid (show L.take a ++ x :: L.drop a = ins L x by unfold ins; rw [HPA.out])
                have HLD := hid (show m1 - a = (L.drop a).length by rw [List.length_drop, ← HM.out])
                have HLE := hid (show (L.take a ++ [x]).length + (L.drop a).length ≤ 1099511627776 by have := HTL.out; have := HLL.out; simp at *; omega)
                clear q3 qx0 qx1 qx2 hsl2
                go_wp2_with (at_builtin; go_must (refine wpList_append_ws _ rfl _ _ rfl wq.heap.size rfl HR5.out rfl HLD.out (HT6.out _ HS5.out) HLE.out (Below.size HS5.out) ?_))
                intro A7 m7 c7 w7 hr7 hm7 hb7 hg7
                have hwle : w.heap.size ≤ wq.heap.size := by have := HSQ.out.lt; omega
                have HR7 := hid (show WRow w7 w.heap.size A7 m7 c7 (ins L x) by rw [← HI.out]; exact hr7.le hwle)
                have HB7 := hid (Below.trans HS5.out hb7)
                clear hr7 hb7 hg7 hm7 hS11 hS
                go_wp2_with fail
                go_roundw
                case rel => exact ⟨k + 1, A7, m7, c7, ins L x, by omega, rfl, by go_num, by rw [HFS.out, HL.out], HSQ.out.to HR7.out HB7.out⟩
                case measure => simp [intOf]; omega
              refine AllReadyH.cons (by simp only [List.getElem?_toArray, List.getElem?_cons_succ, List.getElem?_cons_zero]; rfl) (fun K hK => ?_) AllReadyH.nil
              · skip
                go_simp
                refine hK.out _ _ (Below.alloc hS (Below.size hS) _) (fun hS10 => ?_)
                have HX10 := hid (WAt.one (wq.drew.alloc (.cells #[] 43)) x (g := wq.heap.size + 1) (by simp))
                clear hK K hS
                have hS := hS10
                try simp only [Act.put, List.setIfInBounds_toArray, List.set_cons_zero, List.set_cons_succ]
                refine wpAnyH_ready (rs := [4]) (by kernel_rfl) (by simp) ?_
                refine AllReadyH.cons (by simp only [List.getElem?_toArray, List.getElem?_cons_succ, List.getElem?_cons_zero]; rfl) (fun K hK => ?_) AllReadyH.nil
                refine wp_append_ws _ (.tmp 36) (.tmp 39) rfl wq.heap.size (ns := L.take a) rfl ((WRow.empty wq.drew rfl (Nat.le_refl _)).alloc _) rfl HTL.out.symm (HT2.out _ hS) (by have := HTL.out; have := HLL.out; simp; omega) (Below.size hS) ?_
                intro A4 m4 c4 w4 hr4 hm4 hb4 hg4
                refine hK.out _ _ (Below.trans hS hb4) (fun hS4 => ?_)
                have HR4 := hid hr4
                have HX10 := hid (HX10.out.grown hg4 (by simp) (fun b off e => by simp [Value.ownBlock] at e ⊢; omega))
                clear hr4 hb4 hg4 hm4
                clear hK K hS
                have hS := hS4
                try simp only [Act.put, List.setIfInBounds_toArray, List.set_cons_zero, List.set_cons_succ]
                refine wpAnyH_ready (rs := [11]) (by kernel_rfl) (by simp) ?_
                refine AllReadyH.cons (by simp only [List.getElem?_toArray, List.getElem?_cons_succ, List.getElem?_cons_zero]; rfl) (fun K hK => ?_) AllReadyH.nil
                refine wp_append_ws _ (.tmp 40) (.tmp 46) rfl wq.heap.size rfl (HR4.out) rfl rfl (ns := [x]) HX10.out (by have := HTL.out; have := HLL.out; simp at *; omega) (Below.size hS) ?_
                intro A5 m5 c5 w5 hr5 hm5 hb5 hg5
                refine hK.out _ _ (Below.trans hS hb5) (fun hS11 => ?_)
                have HR5 := hid hr5
                have HM5 := hid hm5
                clear hr5 hb5 hg5 hm5 HX10 HR4
                clear hK K hS
                have hS := hS11
                try simp only [Act.put, List.setIfInBounds_toArray, List.set_cons_zero, List.set_cons_succ]
                refine take_step (i := 12) (by simp only [List.getElem?_toArray, List.getElem?_cons_succ, List.getElem?_cons_zero]; rfl) (by kernel_rfl) (by kernel_rfl) (by kernel_rfl) (by intro _ _ _ h; exact h) (by rfl) (fun W hW => by go_simp; first | done | with_reducible rfl) hS ?_
                try simp only [Act.put, List.setIfInBounds_toArray, List.set_cons_zero, List.set_cons_succ]
                refine wpAnyH_done (by kernel_rfl) ?_ _
                have HS5 := hid hS11
                have HI := hid (show L.take a ++ x :: L.drop a = ins L x by unfold ins; rw [HPA.out])
                have HLD := hid (show m1 - a = (L.drop a).length by rw [List.length_drop, ← HM.out])
                have HLE := hid (show (L.take a ++ [x]).length + (L.drop a).length ≤ 1099511627776 by have := HTL.out; have := HLL.out; simp at *; omega)
                clear q3 qx0 qx1 qx2 hsl2
                go_wp2_with (at_builtin; go_must (refine wpList_append_ws _ rfl _ _ rfl wq.heap.size rfl HR5.out rfl HLD.out (HT6.out _ HS5.out) HLE.out (Below.size HS5.out) ?_))
                intro A7 m7 c7 w7 hr7 hm7 hb7 hg7
                have hwle : w.heap.size ≤ wq.heap.size := by have := HSQ.out.lt; omega
                have HR7 := hid (show WRow w7 w.heap.size A7 m7 c7 (ins L x) by rw [← HI.out]; exact hr7.le hwle)
                have HB7 := hid (Below.trans HS5.out hb7)
                clear hr7 hb7 hg7 hm7 hS11 hS
                go_wp2_with fail
                go_roundw
                case rel => exact ⟨k + 1, A7, m7, c7, ins L x, by omega, rfl, by go_num, by rw [HFS.out, HL.out], HSQ.out.to HR7.out HB7.out⟩
                case measure => simp [intOf]; omega
            refine AllReadyH.cons (by simp only [List.getElem?_toArray, List.getElem?_cons_succ, List.getElem?_cons_zero]; rfl) (fun K hK => ?_) AllReadyH.nil
            · skip
              go_simp
              refine hK.out _ _ (Below.alloc hS (Below.size hS) _) (fun hS10 => ?_)
              have HX10 := hid (WAt.one wq.drew x (g := wq.heap.size) (rfl))
              clear hK K hS
              have hS := hS10
              try simp only [Act.put, List.setIfInBounds_toArray, List.set_cons_zero, List.set_cons_succ]
              refine wpAnyH_ready (rs := [0]) (by kernel_rfl) (by simp) ?_
              refine AllReadyH.cons (by simp only [List.getElem?_toArray, List.getElem?_cons_zero]; rfl) (fun K hK => ?_) AllReadyH.nil
              go_simp
              refine hK.out _ _ (Below.alloc hS (Below.size hS) _) (fun hS0 => ?_)
              clear hK K hS
              have hS := hS0
              try simp only [Act.put, List.setIfInBounds_toArray, List.set_cons_zero, List.set_cons_succ]
              refine wpAnyH_ready (rs := [4]) (by kernel_rfl) (by simp) ?_
              refine AllReadyH.cons (by simp only [List.getElem?_toArray, List.getElem?_cons_succ, List.getElem?_cons_zero]; rfl) (fun K hK => ?_) AllReadyH.nil
              refine wp_append_ws _ (.tmp 36) (.tmp 39) rfl wq.heap.size (ns := L.take a) rfl (WRow.empty (wq.drew.alloc (.cells #[.string (bst x.k), .string (bst x.v), .bool x.g] 43)) (by simp) (by simp)) rfl HTL.out.symm (HT2.out _ hS) (by have := HTL.out; have := HLL.out; simp; omega) (Below.size hS) ?_
              intro A4 m4 c4 w4 hr4 hm4 hb4 hg4
              refine hK.out _ _ (Below.trans hS hb4) (fun hS4 => ?_)
              have HR4 := hid hr4
              have HX10 := hid ((HX10.out.below ((Below.refl _ _).alloc (by simp) (.cells #[] 43))).grown hg4 (by simp) (fun b off e => by simp [Value.ownBlock] at e ⊢; omega))
              clear hr4 hb4 hg4 hm4
              clear hK K hS
              have hS := hS4
              try simp only [Act.put, List.setIfInBounds_toArray, List.set_cons_zero, List.set_cons_succ]
              refine wpAnyH_ready (rs := [11]) (by kernel_rfl) (by simp) ?_
              refine AllReadyH.cons (by simp only [List.getElem?_toArray, List.getElem?_cons_succ, List.getElem?_cons_zero]; rfl) (fun K hK => ?_) AllReadyH.nil
              refine wp_append_ws _ (.tmp 40) (.tmp 46) rfl wq.heap.size rfl (HR4.out) rfl rfl (ns := [x]) HX10.out (by have := HTL.out; have := HLL.out; simp at *; omega) (Below.size hS) ?_
              intro A5 m5 c5 w5 hr5 hm5 hb5 hg5
              refine hK.out _ _ (Below.trans hS hb5) (fun hS11 => ?_)
              have HR5 := hid hr5
              have HM5 := hid hm5
              clear hr5 hb5 hg5 hm5 HX10 HR4
              clear hK K hS
              have hS := hS11
              try simp only [Act.put, List.setIfInBounds_toArray, List.set_cons_zero, List.set_cons_succ]
              refine take_step (i := 12) (by simp only [List.getElem?_toArray, List.getElem?_cons_succ, List.getElem?_cons_zero]; rfl) (by kernel_rfl) (by kernel_rfl) (by kernel_rfl) (by intro _ _ _ h; exact h) (by rfl) (fun W hW => by go_simp; first | done | with_reducible rfl) hS ?_
              try simp only [Act.put, List.setIfInBounds_toArray, List.set_cons_zero, List.set_cons_succ]
              refine wpAnyH_done (by kernel_rfl) ?_ _
              have HS5 := hid hS11
              have HI := hid (show L.take a ++ x :: L.drop a = ins L x by unfold ins; rw [HPA.out])
              have HLD := hid (show m1 - a = (L.drop a).length by rw [List.length_drop, ← HM.out])
              have HLE := hid (show (L.take a ++ [x]).length + (L.drop a).length ≤ 1099511627776 by have := HTL.out; have := HLL.out; simp at *; omega)
              clear q3 qx0 qx1 qx2 hsl2
              go_wp2_with (at_builtin; go_must (refine wpList_append_ws _ rfl _ _ rfl wq.heap.size rfl HR5.out rfl HLD.out (HT6.out _ HS5.out) HLE.out (Below.size HS5.out) ?_))
              intro A7 m7 c7 w7 hr7 hm7 hb7 hg7
              have hwle : w.heap.size ≤ wq.heap.size := by have := HSQ.out.lt; omega
              have HR7 := hid (show WRow w7 w.heap.size A7 m7 c7 (ins L x) by rw [← HI.out]; exact hr7.le hwle)
              have HB7 := hid (Below.trans HS5.out hb7)
              clear hr7 hb7 hg7 hm7 hS11 hS
              go_wp2_with fail
              go_roundw
              case rel => exact ⟨k + 1, A7, m7, c7, ins L x, by omega, rfl, by go_num, by rw [HFS.out, HL.out], HSQ.out.to HR7.out HB7.out⟩
              case measure => simp [intOf]; omega
          · have HPN := hid (show posn L x.k j = posn L x.k L.length by rw [← HP.out, posn_no HY.out g2])
            clear g2
            go_wp2_with fail
            go_quiet (fail)
            go_wp2_with fail
            go_roundw
            case rel => exact ⟨j, _, by omega, rfl, HPN.out, rfl⟩
            case measure => simp [intOf]
    · have HE := hid (show sortW ws = L by rw [HL.out, List.take_of_length_le (by rw [← HN.out]; omega)]; rfl)
      obtain ⟨x0, x1, x2, x3, g0, g1, g2, g3⟩ := four HST.out.b2
      go_wp2_with fail
      obtain ⟨r0, r1, r2⟩ := HST.out.res (.int .u64 c) (.int .u64 r) (.int .u64 s) (.slice A1 m1 c1) (.slice A1 m1 c1)
      generalize (((((wr.setCell ⟨w.heap.size, 3, none⟩ (.slice A1 m1 c1)).setCell ⟨w.heap.size + 1, 0, none⟩ (.int .u64 c)).setCell ⟨w.heap.size + 1, 1, none⟩ (.int .u64 r)).setCell ⟨w.heap.size + 1, 2, none⟩ (.int .u64 s)).setCell ⟨w.heap.size + 1, 3, none⟩ (.slice A1 m1 c1)) = w9 at *
      clear x0 x1 x2 x3 g0 g1 g2 g3 b0 b1 b2 b3 f3
      obtain ⟨x0, x1, x2, x3, _, _, _, _⟩ := four r0
      exact bodyPost_ret (v := .agg #[.int .u64 c, .int .u64 r, .int .u64 s, .slice A1 m1 c1]) (by simp [results, Try.results16, go_sem, x0, x1, x2, x3]) rfl ⟨A1, m1, c1, rfl, by rw [HE.out]; exact r1, r2⟩

end Go.Proofs.Ytcdjbacljnofiaa
