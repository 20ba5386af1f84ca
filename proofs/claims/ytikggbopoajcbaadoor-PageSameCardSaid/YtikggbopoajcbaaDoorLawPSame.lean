/-
  PageSame: its walk.
-/
import Derived.Test.YtikggbopoajcbaaDoorPgAwake
import Derived.Test.YtikggbopoajcbaaDoorPgFew
import Derived.Test.YtikggbopoajcbaaDoorLawPOf
namespace Go.Proofs.YtikggbopoajcbaaDoor
open Go Go.RowKit

set_option maxHeartbeats 8000000 in
set_option maxRecDepth 100000 in
theorem psame_walk (leaf : Bool) (next : Int) (l : List Cl) (A : Option Addr) (c : Nat) (leaf2 : Bool) (next2 : Int) (l2 : List Cl) (A2 : Option Addr) (c2 : Nat) (w : World) (ha : CAt w w.heap.size A l) (hc : l.length ≤ c) (ha2 : CAt w w.heap.size A2 l2) (hc2 : l2.length ≤ c2) (hT : Table w) :
    Calls Tryd.prog 9 #[pageV leaf next A l.length c, pageV leaf2 next2 A2 l2.length c2] w fun e w' => e = .returned (.bool true) ∧ Below w.heap.size w w' := by
  obtain ⟨n, hn⟩ : ∃ n, n = l.length := ⟨_, rfl⟩
  obtain ⟨n2, hn2⟩ : ∃ n, n = l2.length := ⟨_, rfl⟩
  rw [← hn] at hc ⊢
  rw [← hn2] at hc2 ⊢
  have hb1 : Below w.heap.size w ((w.alloc (.cells #[.bool leaf, .int .i64 next, .slice A n c] 24)).alloc (.cells #[.bool leaf2, .int .i64 next2, .slice A2 n2 c2] 24)) := ((Below.refl _ _).alloc (Nat.le_refl _) _).alloc (by simp) _
  have HB := hid hb1
  have HX := hid (show PBlk ((w.alloc (.cells #[.bool leaf, .int .i64 next, .slice A n c] 24)).alloc (.cells #[.bool leaf2, .int .i64 next2, .slice A2 n2 c2] 24)) w.heap.size leaf next A n c from (Blk.new w 24 #[.bool leaf, .int .i64 next, .slice A n c]).alloc _)
  have HY := hid (show PBlk ((w.alloc (.cells #[.bool leaf, .int .i64 next, .slice A n c] 24)).alloc (.cells #[.bool leaf2, .int .i64 next2, .slice A2 n2 c2] 24)) (w.heap.size + 1) leaf2 next2 A2 n2 c2 by
    have := Blk.new (w.alloc (.cells #[.bool leaf, .int .i64 next, .slice A n c] 24)) 24 #[.bool leaf2, .int .i64 next2, .slice A2 n2 c2]
    rwa [show (w.alloc (.cells #[.bool leaf, .int .i64 next, .slice A n c] 24)).heap.size = w.heap.size + 1 by simp] at this)
  have HAW := hid (fun (W : World) (hW : Below w.heap.size w W) => awake_yes W (hT.step hW))
  have HF := hid (few_any (leaf := leaf) (next := next) (c := c) (CAt.step ha (Nat.le_refl _) hb1) hn hb1.size)
  have HF2 := hid (fun (W : World) (hW : Below ((w.alloc (.cells #[.bool leaf, .int .i64 next, .slice A n c] 24)).alloc (.cells #[.bool leaf2, .int .i64 next2, .slice A2 n2 c2] 24)).heap.size ((w.alloc (.cells #[.bool leaf, .int .i64 next, .slice A n c] 24)).alloc (.cells #[.bool leaf2, .int .i64 next2, .slice A2 n2 c2] 24)) W) => few_any (leaf := leaf2) (next := next2) (c := c2) (CAt.step ha2 (Nat.le_refl _) (hb1.trans (hW.mono hb1.size))) hn2 (hb1.trans (hW.mono hb1.size)).size)
  by_cases hf : fewC l = true
  · by_cases hf2 : fewC l2 = true
    · have HC := hid (CS.few (CAt.step ha (Nat.le_refl _) hb1) hn hc hb1.size hf)
      have HD := hid (CS.few (CAt.step ha2 (Nat.le_refl _) hb1) hn2 hc2 hb1.size hf2)
      rw [hf] at HF
      rw [hf2] at HF2
      have HN := hid (show n ≤ 100 ∧ n2 ≤ 100 from ⟨hn ▸ (few_of hf).len, hn2 ▸ (few_of hf2).len⟩)
      have HLN := hid (show (l ++ l2).length = n + n2 by rw [List.length_append, ← hn, ← hn2])
      clear hb1 hT ha hc ha2 hc2 hn hn2 hf hf2
      unfold pageV at HF HF2 ⊢
      go_enter Tryd.func9, Tryd.ntmps9
      go_wp2_with fail
      generalize (w.alloc (.cells #[.bool leaf, .int .i64 next, .slice A n c] 24)).alloc (.cells #[.bool leaf2, .int .i64 next2, .slice A2 n2 c2] 24) = w1 at *
      obtain ⟨g, hg⟩ : ∃ g, w.heap.size = g := ⟨_, rfl⟩
      rw [hg] at HX HY ⊢
      have HGE := hid hg
      clear hg
      have x0 := HX.out.cell 0
      have x1 := HX.out.cell 1
      have x2 := HX.out.cell 2
      have y0 := HY.out.cell 0
      have y1 := HY.out.cell 1
      have y2 := HY.out.cell 2

      go_fit HF.out
      rintro e w2 ⟨rfl, hb2⟩
      have HB2 := hid (below_step HB.out hb2)
      have HK2 := hid hb2
      have HX2 := hid (HX.out.below hb2 HX.out.lt)
      have HY2 := hid (HY.out.below hb2 HY.out.lt)
      clear hb2 HF x0 x1 x2 y0 y1 y2
      have x0 := HX2.out.cell 0
      have x1 := HX2.out.cell 1
      have x2 := HX2.out.cell 2
      have y0 := HY2.out.cell 0
      have y1 := HY2.out.cell 1
      have y2 := HY2.out.cell 2
      go_wp2_with fail
      go_fit (HF2.out _ HK2.out)
      rintro e w3 ⟨rfl, hb3⟩
      have HB3 := hid (below_step HB2.out hb3)
      have HK3 := hid (HK2.out.trans (hb3.mono HK2.out.size))
      have HX3 := hid (HX2.out.below hb3 HX2.out.lt)
      have HY3 := hid (HY2.out.below hb3 HY2.out.lt)
      clear hb3 HF2 x0 x1 x2 y0 y1 y2
      have x0 := HX3.out.cell 0
      have x1 := HX3.out.cell 1
      have x2 := HX3.out.cell 2
      have y0 := HY3.out.cell 0
      have y1 := HY3.out.cell 1
      have y2 := HY3.out.cell 2
      have HJ := hid (join_any (leaf := leaf) (leaf2 := leaf2) (next := next) (next2 := next2) (HC.out.step HK3.out) (HD.out.step HK3.out) (by have := HN.out; omega))
      have HC3 := hid (HC.out.step HK3.out)
      have HD3 := hid (HD.out.step HK3.out)
      clear HC HD HX HY HX2 HY2 HK2 HK3
      unfold pageV at HJ
      go_wp2_with fail
      go_fit HJ.out
      rintro e w4 ⟨A5, m5, c5, rfl, h5, hb4⟩
      obtain rfl : m5 = n + n2 := h5.len.trans HLN.out
      obtain ⟨m5, hm5⟩ : ∃ m, n + n2 = m := ⟨_, rfl⟩
      rw [hm5] at h5 ⊢
      have ha4 := (Below.refl w4.heap.size w4).alloc (Nat.le_refl _) (.cells #[.bool leaf, .int .i64 next2, .slice A5 m5 c5] 24)
      have HB5 := hid (below_step (below_step HB3.out hb4) ha4)
      have HZ5 := hid (show PBlk (w4.alloc (.cells #[.bool leaf, .int .i64 next2, .slice A5 m5 c5] 24)) w4.heap.size leaf next2 A5 m5 c5 from Blk.new w4 _ _)
      have HX5 := hid (show PBlk (w4.alloc (.cells #[.bool leaf, .int .i64 next2, .slice A5 m5 c5] 24)) g leaf next A n c from (HX3.out.below hb4 HX3.out.lt).below ha4 (Nat.lt_of_lt_of_le HX3.out.lt hb4.size))
      have HY5 := hid (show PBlk (w4.alloc (.cells #[.bool leaf, .int .i64 next2, .slice A5 m5 c5] 24)) (g + 1) leaf2 next2 A2 n2 c2 from (HY3.out.below hb4 HY3.out.lt).below ha4 (Nat.lt_of_lt_of_le HY3.out.lt hb4.size))
      have HC5 := hid (show CS (w4.alloc (.cells #[.bool leaf, .int .i64 next2, .slice A5 m5 c5] 24)) _ A n c l from (HC3.out.step hb4).step ha4)
      have HD5 := hid (show CS (w4.alloc (.cells #[.bool leaf, .int .i64 next2, .slice A5 m5 c5] 24)) _ A2 n2 c2 l2 from (HD3.out.step hb4).step ha4)
      clear ha4 hb4 h5 HX3 HY3 HC3 HD3 HJ x0 x1 x2 y0 y1 y2
      go_upto_region 4 with fail
      generalize w4.alloc (.cells #[.bool leaf, .int .i64 next2, .slice A5 m5 c5] 24) = w5 at *
      obtain ⟨g5, hg5⟩ : ∃ g, w4.heap.size = g := ⟨_, rfl⟩
      rw [hg5] at HZ5 ⊢
      clear hg5
      have HM := hid hm5
      have hn1 := HN.out.1
      have hn22 := HN.out.2
      have hwr : IntKind.i64.wrap ((n : Int) + (n2 : Int)) = (m5 : Int) := by rw [IntWalk.i64_in _ ⟨by omega, by omega⟩]; omega
      clear hm5
      have HA5 := hid (fun (W : World) (hW : Beyond w5 W) => HAW.out W (below_step HB5.out hW))
      have HS5 := hid (fun (W : World) (hW : Beyond w5 W) => same_any (leaf := leaf) (leaf2 := leaf2) (next := next) (next2 := next2) (HC5.out.step hW) (HD5.out.step hW))
      have HR5 := hid (fun (W : World) (hW : Beyond w5 W) => refSame_any (leaf := leaf) (leaf2 := leaf2) (next := next) (next2 := next2) (HC5.out.step hW) (HD5.out.step hW))
      have HT5 := hid (fun (W : World) (hW : Beyond w5 W) => same_any (leaf := leaf) (leaf2 := leaf) (next := next) (next2 := next) (HC5.out.step hW) (HC5.out.step hW))
      rw [sameP_self] at HT5
      generalize sameP leaf next l leaf2 next2 l2 = D at HS5 HR5
      unfold pageV at HS5 HR5 HT5
      have z00 : ∀ W, Beyond w5 W → W.cell? ⟨g, 0, none⟩ = some (.bool leaf) := fun W hW => (HX5.out.below hW HX5.out.lt).cell 0
      have z01 : ∀ W, Beyond w5 W → W.cell? ⟨g, 1, none⟩ = some (.int .i64 next) := fun W hW => (HX5.out.below hW HX5.out.lt).cell 1
      have z02 : ∀ W, Beyond w5 W → W.cell? ⟨g, 2, none⟩ = some (.slice A n c) := fun W hW => (HX5.out.below hW HX5.out.lt).cell 2
      have z10 : ∀ W, Beyond w5 W → W.cell? ⟨g + 1, 0, none⟩ = some (.bool leaf2) := fun W hW => (HY5.out.below hW HY5.out.lt).cell 0
      have z11 : ∀ W, Beyond w5 W → W.cell? ⟨g + 1, 1, none⟩ = some (.int .i64 next2) := fun W hW => (HY5.out.below hW HY5.out.lt).cell 1
      have z12 : ∀ W, Beyond w5 W → W.cell? ⟨g + 1, 2, none⟩ = some (.slice A2 n2 c2) := fun W hW => (HY5.out.below hW HY5.out.lt).cell 2
      have z50 : ∀ W, Beyond w5 W → W.cell? ⟨g5, 0, none⟩ = some (.bool leaf) := fun W hW => (HZ5.out.below hW HZ5.out.lt).cell 0
      have z51 : ∀ W, Beyond w5 W → W.cell? ⟨g5, 1, none⟩ = some (.int .i64 next2) := fun W hW => (HZ5.out.below hW HZ5.out.lt).cell 1
      have z52 : ∀ W, Beyond w5 W → W.cell? ⟨g5, 2, none⟩ = some (.slice A5 m5 c5) := fun W hW => (HZ5.out.below hW HZ5.out.lt).cell 2
      refine wp_region_held_drew (S := Beyond w5) (by kernel_rfl) (Beyond.drew _) (fun hS => ?_)
      refine wpAnyH_ready (rs := [0]) (by kernel_rfl) (by simp) ?_
      refine AllReadyH.cons (by simp only [List.getElem?_toArray, List.getElem?_cons_zero]; rfl) (fun K hK => ?_) AllReadyH.nil
      go_simp
      go_fit (HA5.out _ hS)
      rintro e wa ⟨rfl, hba⟩
      have hS0 := Beyond.step hS hba
      clear hba
      refine hK.out _ _ (by assumption) (fun _ => ?_)
      clear hK K hS
      have hS := hS0
      try simp only [Act.put, List.setIfInBounds_toArray, List.set_cons_zero, List.set_cons_succ]
      refine take_step (i := 1) (by simp only [List.getElem?_toArray, List.getElem?_cons_succ, List.getElem?_cons_zero]; rfl) (by kernel_rfl) (by kernel_rfl) (by kernel_rfl) (by intro _ _ _ h; exact h) (by rfl) (fun W hW => by go_simp; first | done | with_reducible rfl) hS ?_
      try simp only [Act.put, List.setIfInBounds_toArray, List.set_cons_zero, List.set_cons_succ]
      first | (refine take_step (i := 2) (by simp only [List.getElem?_toArray, List.getElem?_cons_succ, List.getElem?_cons_zero]; rfl) (by kernel_rfl) (by kernel_rfl) (by kernel_rfl) (by intro _ _ _ h; exact h) (by rfl) (fun W hW => by go_simp; first | done | with_reducible rfl) hS ?_) | (refine skip_step (i := 2) (by simp only [List.getElem?_toArray, List.getElem?_cons_succ, List.getElem?_cons_zero]; rfl) (by kernel_rfl) (by kernel_rfl) (by kernel_rfl) (by intro _ _ _ h; exact h) (by rfl) hS ?_)
      try simp only [Act.put, List.setIfInBounds_toArray, List.set_cons_zero, List.set_cons_succ]
      first | (refine take_step (i := 3) (by simp only [List.getElem?_toArray, List.getElem?_cons_succ, List.getElem?_cons_zero]; rfl) (by kernel_rfl) (by kernel_rfl) (by kernel_rfl) (by intro _ _ _ h; exact h) (by rfl) (fun W hW => by go_simp; first | done | with_reducible rfl) hS ?_) | (refine skip_step (i := 3) (by simp only [List.getElem?_toArray, List.getElem?_cons_succ, List.getElem?_cons_zero]; rfl) (by kernel_rfl) (by kernel_rfl) (by kernel_rfl) (by intro _ _ _ h; exact h) (by rfl) hS ?_)
      try simp only [Act.put, List.setIfInBounds_toArray, List.set_cons_zero, List.set_cons_succ]
      first | (refine take_step (i := 5) (by simp only [List.getElem?_toArray, List.getElem?_cons_succ, List.getElem?_cons_zero]; rfl) (by kernel_rfl) (by kernel_rfl) (by kernel_rfl) (by intro _ _ _ h; exact h) (by rfl) (fun W hW => by go_simp; first | done | with_reducible rfl) hS ?_) | (refine skip_step (i := 5) (by simp only [List.getElem?_toArray, List.getElem?_cons_succ, List.getElem?_cons_zero]; rfl) (by kernel_rfl) (by kernel_rfl) (by kernel_rfl) (by intro _ _ _ h; exact h) (by rfl) hS ?_)
      try simp only [Act.put, List.setIfInBounds_toArray, List.set_cons_zero, List.set_cons_succ]
      first | (refine take_step (i := 6) (by simp only [List.getElem?_toArray, List.getElem?_cons_succ, List.getElem?_cons_zero]; rfl) (by kernel_rfl) (by kernel_rfl) (by kernel_rfl) (by intro _ _ _ h; exact h) (by rfl) (fun W hW => by go_simp; first | done | with_reducible rfl) hS ?_) | (refine skip_step (i := 6) (by simp only [List.getElem?_toArray, List.getElem?_cons_succ, List.getElem?_cons_zero]; rfl) (by kernel_rfl) (by kernel_rfl) (by kernel_rfl) (by intro _ _ _ h; exact h) (by rfl) hS ?_)
      try simp only [Act.put, List.setIfInBounds_toArray, List.set_cons_zero, List.set_cons_succ]
      refine wpAnyH_ready (rs := [4]) (by kernel_rfl) (by simp) ?_
      refine AllReadyH.cons (by simp only [List.getElem?_toArray, List.getElem?_cons_succ, List.getElem?_cons_zero]; rfl) (fun K hK => ?_) AllReadyH.nil
      go_simp
      go_fit (HS5.out _ hS)
      rintro e wb ⟨rfl, hbb⟩
      have hS4 := Beyond.step hS hbb
      clear hbb
      refine hK.out _ _ (by assumption) (fun _ => ?_)
      clear hK K hS
      have hS := hS4
      try simp only [Act.put, List.setIfInBounds_toArray, List.set_cons_zero, List.set_cons_succ]
      refine wpAnyH_ready (rs := [7]) (by kernel_rfl) (by simp) ?_
      refine AllReadyH.cons (by simp only [List.getElem?_toArray, List.getElem?_cons_succ, List.getElem?_cons_zero]; rfl) (fun K hK => ?_) AllReadyH.nil
      go_simp
      go_fit (HR5.out _ hS)
      rintro e wc ⟨rfl, hbc⟩
      have hS7 := Beyond.step hS hbc
      clear hbc
      refine hK.out _ _ (by assumption) (fun _ => ?_)
      clear hK K hS
      have hS := hS7
      try simp only [Act.put, List.setIfInBounds_toArray, List.set_cons_zero, List.set_cons_succ]
      first | (refine take_step (i := 8) (by simp only [List.getElem?_toArray, List.getElem?_cons_succ, List.getElem?_cons_zero]; rfl) (by kernel_rfl) (by kernel_rfl) (by kernel_rfl) (by intro _ _ _ h; exact h) (by rfl) (fun W hW => by go_simp; first | done | with_reducible rfl) hS ?_) | (refine skip_step (i := 8) (by simp only [List.getElem?_toArray, List.getElem?_cons_succ, List.getElem?_cons_zero]; rfl) (by kernel_rfl) (by kernel_rfl) (by kernel_rfl) (by intro _ _ _ h; exact h) (by rfl) hS ?_)
      try simp only [Act.put, List.setIfInBounds_toArray, List.set_cons_zero, List.set_cons_succ]
      refine take_step (i := 9) (by simp only [List.getElem?_toArray, List.getElem?_cons_succ, List.getElem?_cons_zero]; rfl) (by kernel_rfl) (by kernel_rfl) (by kernel_rfl) (by intro _ _ _ h; exact h) (by rfl) (fun W hW => by go_simp; first | done | with_reducible rfl) hS ?_
      try simp only [Act.put, List.setIfInBounds_toArray, List.set_cons_zero, List.set_cons_succ]
      refine take_step (i := 10) (by simp only [List.getElem?_toArray, List.getElem?_cons_succ, List.getElem?_cons_zero]; rfl) (by kernel_rfl) (by kernel_rfl) (by kernel_rfl) (by intro _ _ _ h; exact h) (by rfl) (fun W hW => by go_simp; first | done | with_reducible rfl) hS ?_
      try simp only [Act.put, List.setIfInBounds_toArray, List.set_cons_zero, List.set_cons_succ]
      first | (refine take_step (i := 11) (by simp only [List.getElem?_toArray, List.getElem?_cons_succ, List.getElem?_cons_zero]; rfl) (by kernel_rfl) (by kernel_rfl) (by kernel_rfl) (by intro _ _ _ h; exact h) (by rfl) (fun W hW => by go_simp; first | done | with_reducible rfl) hS ?_) | (refine skip_step (i := 11) (by simp only [List.getElem?_toArray, List.getElem?_cons_succ, List.getElem?_cons_zero]; rfl) (by kernel_rfl) (by kernel_rfl) (by kernel_rfl) (by intro _ _ _ h; exact h) (by rfl) hS ?_)
      try simp only [Act.put, List.setIfInBounds_toArray, List.set_cons_zero, List.set_cons_succ]
      first | (refine take_step (i := 12) (by simp only [List.getElem?_toArray, List.getElem?_cons_succ, List.getElem?_cons_zero]; rfl) (by kernel_rfl) (by kernel_rfl) (by kernel_rfl) (by intro _ _ _ h; exact h) (by rfl) (fun W hW => by go_simp; first | done | with_reducible rfl) hS ?_) | (refine skip_step (i := 12) (by simp only [List.getElem?_toArray, List.getElem?_cons_succ, List.getElem?_cons_zero]; rfl) (by kernel_rfl) (by kernel_rfl) (by kernel_rfl) (by intro _ _ _ h; exact h) (by rfl) hS ?_)
      try simp only [Act.put, List.setIfInBounds_toArray, List.set_cons_zero, List.set_cons_succ]
      refine wpAnyH_ready (rs := [13]) (by kernel_rfl) (by simp) ?_
      refine AllReadyH.cons (by simp only [List.getElem?_toArray, List.getElem?_cons_succ, List.getElem?_cons_zero]; rfl) (fun K hK => ?_) AllReadyH.nil
      go_simp
      go_fit (HT5.out _ hS)
      rintro e wd ⟨rfl, hbd⟩
      have hS13 := Beyond.step hS hbd
      clear hbd
      refine hK.out _ _ (by assumption) (fun _ => ?_)
      clear hK K hS
      have hS := hS13
      try simp only [Act.put, List.setIfInBounds_toArray, List.set_cons_zero, List.set_cons_succ]
      refine take_step (i := 14) (by simp only [List.getElem?_toArray, List.getElem?_cons_succ, List.getElem?_cons_zero]; rfl) (by kernel_rfl) (by kernel_rfl) (by kernel_rfl) (by intro _ _ _ h; exact h) (by rfl) (fun W hW => by go_simp; first | done | with_reducible rfl) hS ?_
      try simp only [Act.put, List.setIfInBounds_toArray, List.set_cons_zero, List.set_cons_succ]
      refine take_step (i := 15) (by simp only [List.getElem?_toArray, List.getElem?_cons_succ, List.getElem?_cons_zero]; rfl) (by kernel_rfl) (by kernel_rfl) (by kernel_rfl) (by intro _ _ _ h; exact h) (by rfl) (fun W hW => by go_simp; first | done | with_reducible rfl) hS ?_
      try simp only [Act.put, List.setIfInBounds_toArray, List.set_cons_zero, List.set_cons_succ]
      first | (refine take_step (i := 16) (by simp only [List.getElem?_toArray, List.getElem?_cons_succ, List.getElem?_cons_zero]; rfl) (by kernel_rfl) (by kernel_rfl) (by kernel_rfl) (by intro _ _ _ h; exact h) (by rfl) (fun W hW => by go_simp; first | done | with_reducible rfl) hS ?_) | (refine skip_step (i := 16) (by simp only [List.getElem?_toArray, List.getElem?_cons_succ, List.getElem?_cons_zero]; rfl) (by kernel_rfl) (by kernel_rfl) (by kernel_rfl) (by intro _ _ _ h; exact h) (by rfl) hS ?_)
      try simp only [Act.put, List.setIfInBounds_toArray, List.set_cons_zero, List.set_cons_succ]
      first | (refine take_step (i := 17) (by simp only [List.getElem?_toArray, List.getElem?_cons_succ, List.getElem?_cons_zero]; rfl) (by kernel_rfl) (by kernel_rfl) (by kernel_rfl) (by intro _ _ _ h; exact h) (by rfl) (fun W hW => by go_simp; first | done | with_reducible rfl) hS ?_) | (refine skip_step (i := 17) (by simp only [List.getElem?_toArray, List.getElem?_cons_succ, List.getElem?_cons_zero]; rfl) (by kernel_rfl) (by kernel_rfl) (by kernel_rfl) (by intro _ _ _ h; exact h) (by rfl) hS ?_)
      try simp only [Act.put, List.setIfInBounds_toArray, List.set_cons_zero, List.set_cons_succ]
      first | (refine take_step (i := 18) (by simp only [List.getElem?_toArray, List.getElem?_cons_succ, List.getElem?_cons_zero]; rfl) (by kernel_rfl) (by kernel_rfl) (by kernel_rfl) (by intro _ _ _ h; exact h) (by rfl) (fun W hW => by go_simp; first | done | with_reducible rfl) hS ?_) | (refine skip_step (i := 18) (by simp only [List.getElem?_toArray, List.getElem?_cons_succ, List.getElem?_cons_zero]; rfl) (by kernel_rfl) (by kernel_rfl) (by kernel_rfl) (by intro _ _ _ h; exact h) (by rfl) hS ?_)
      try simp only [Act.put, List.setIfInBounds_toArray, List.set_cons_zero, List.set_cons_succ]
      first | (refine take_step (i := 19) (by simp only [List.getElem?_toArray, List.getElem?_cons_succ, List.getElem?_cons_zero]; rfl) (by kernel_rfl) (by kernel_rfl) (by kernel_rfl) (by intro _ _ _ h; exact h) (by rfl) (fun W hW => by go_simp; first | done | with_reducible rfl) hS ?_) | (refine skip_step (i := 19) (by simp only [List.getElem?_toArray, List.getElem?_cons_succ, List.getElem?_cons_zero]; rfl) (by kernel_rfl) (by kernel_rfl) (by kernel_rfl) (by intro _ _ _ h; exact h) (by rfl) hS ?_)
      try simp only [Act.put, List.setIfInBounds_toArray, List.set_cons_zero, List.set_cons_succ]
      first | (refine take_step (i := 20) (by simp only [List.getElem?_toArray, List.getElem?_cons_succ, List.getElem?_cons_zero]; rfl) (by kernel_rfl) (by kernel_rfl) (by kernel_rfl) (by intro _ _ _ h; exact h) (by rfl) (fun W hW => by go_simp; first | done | with_reducible rfl) hS ?_) | (refine skip_step (i := 20) (by simp only [List.getElem?_toArray, List.getElem?_cons_succ, List.getElem?_cons_zero]; rfl) (by kernel_rfl) (by kernel_rfl) (by kernel_rfl) (by intro _ _ _ h; exact h) (by rfl) hS ?_)
      try simp only [Act.put, List.setIfInBounds_toArray, List.set_cons_zero, List.set_cons_succ]
      refine take_step (i := 21) (by simp only [List.getElem?_toArray, List.getElem?_cons_succ, List.getElem?_cons_zero]; rfl) (by kernel_rfl) (by kernel_rfl) (by kernel_rfl) (by intro _ _ _ h; exact h) (by rfl) (fun W hW => by go_simp; first | done | with_reducible rfl) hS ?_
      try simp only [Act.put, List.setIfInBounds_toArray, List.set_cons_zero, List.set_cons_succ]
      refine take_step (i := 22) (by simp only [List.getElem?_toArray, List.getElem?_cons_succ, List.getElem?_cons_zero]; rfl) (by kernel_rfl) (by kernel_rfl) (by kernel_rfl) (by intro _ _ _ h; exact h) (by rfl) (fun W hW => by go_simp; first | done | with_reducible rfl) hS ?_
      try simp only [Act.put, List.setIfInBounds_toArray, List.set_cons_zero, List.set_cons_succ]
      first | (refine take_step (i := 23) (by simp only [List.getElem?_toArray, List.getElem?_cons_succ, List.getElem?_cons_zero]; rfl) (by kernel_rfl) (by kernel_rfl) (by kernel_rfl) (by intro _ _ _ h; exact h) (by rfl) (fun W hW => by go_simp; first | done | with_reducible rfl) hS ?_) | (refine skip_step (i := 23) (by simp only [List.getElem?_toArray, List.getElem?_cons_succ, List.getElem?_cons_zero]; rfl) (by kernel_rfl) (by kernel_rfl) (by kernel_rfl) (by intro _ _ _ h; exact h) (by rfl) hS ?_)
      try simp only [Act.put, List.setIfInBounds_toArray, List.set_cons_zero, List.set_cons_succ]
      first | (refine take_step (i := 24) (by simp only [List.getElem?_toArray, List.getElem?_cons_succ, List.getElem?_cons_zero]; rfl) (by kernel_rfl) (by kernel_rfl) (by kernel_rfl) (by intro _ _ _ h; exact h) (by rfl) (fun W hW => by go_simp; first | done | with_reducible rfl) hS ?_) | (refine skip_step (i := 24) (by simp only [List.getElem?_toArray, List.getElem?_cons_succ, List.getElem?_cons_zero]; rfl) (by kernel_rfl) (by kernel_rfl) (by kernel_rfl) (by intro _ _ _ h; exact h) (by rfl) hS ?_)
      try simp only [Act.put, List.setIfInBounds_toArray, List.set_cons_zero, List.set_cons_succ]
      first | (refine take_step (i := 25) (by simp only [List.getElem?_toArray, List.getElem?_cons_succ, List.getElem?_cons_zero]; rfl) (by kernel_rfl) (by kernel_rfl) (by kernel_rfl) (by intro _ _ _ h; exact h) (by rfl) (fun W hW => by go_simp; first | done | with_reducible rfl) hS ?_) | (refine skip_step (i := 25) (by simp only [List.getElem?_toArray, List.getElem?_cons_succ, List.getElem?_cons_zero]; rfl) (by kernel_rfl) (by kernel_rfl) (by kernel_rfl) (by intro _ _ _ h; exact h) (by rfl) hS ?_)
      try simp only [Act.put, List.setIfInBounds_toArray, List.set_cons_zero, List.set_cons_succ]
      first | (refine take_step (i := 26) (by simp only [List.getElem?_toArray, List.getElem?_cons_succ, List.getElem?_cons_zero]; rfl) (by kernel_rfl) (by kernel_rfl) (by kernel_rfl) (by intro _ _ _ h; exact h) (by rfl) (fun W hW => by go_simp; first | done | with_reducible rfl) hS ?_) | (refine skip_step (i := 26) (by simp only [List.getElem?_toArray, List.getElem?_cons_succ, List.getElem?_cons_zero]; rfl) (by kernel_rfl) (by kernel_rfl) (by kernel_rfl) (by intro _ _ _ h; exact h) (by rfl) hS ?_)
      try simp only [Act.put, List.setIfInBounds_toArray, List.set_cons_zero, List.set_cons_succ]
      first | (refine take_step (i := 27) (by simp only [List.getElem?_toArray, List.getElem?_cons_succ, List.getElem?_cons_zero]; rfl) (by kernel_rfl) (by kernel_rfl) (by kernel_rfl) (by intro _ _ _ h; exact h) (by rfl) (fun W hW => by go_simp; first | done | with_reducible rfl) hS ?_) | (refine skip_step (i := 27) (by simp only [List.getElem?_toArray, List.getElem?_cons_succ, List.getElem?_cons_zero]; rfl) (by kernel_rfl) (by kernel_rfl) (by kernel_rfl) (by intro _ _ _ h; exact h) (by rfl) hS ?_)
      try simp only [Act.put, List.setIfInBounds_toArray, List.set_cons_zero, List.set_cons_succ]
      refine take_step (i := 28) (by simp only [List.getElem?_toArray, List.getElem?_cons_succ, List.getElem?_cons_zero]; rfl) (by kernel_rfl) (by kernel_rfl) (by kernel_rfl) (by intro _ _ _ h; exact h) (by rfl) (fun W hW => by go_simp; first | done | with_reducible rfl) hS ?_
      try simp only [Act.put, List.setIfInBounds_toArray, List.set_cons_zero, List.set_cons_succ]
      refine take_step (i := 29) (by simp only [List.getElem?_toArray, List.getElem?_cons_succ, List.getElem?_cons_zero]; rfl) (by kernel_rfl) (by kernel_rfl) (by kernel_rfl) (by intro _ _ _ h; exact h) (by rfl) (fun W hW => by go_simp; first | done | with_reducible rfl) hS ?_
      try simp only [Act.put, List.setIfInBounds_toArray, List.set_cons_zero, List.set_cons_succ]
      first | (refine take_step (i := 30) (by simp only [List.getElem?_toArray, List.getElem?_cons_succ, List.getElem?_cons_zero]; rfl) (by kernel_rfl) (by kernel_rfl) (by kernel_rfl) (by intro _ _ _ h; exact h) (by rfl) (fun W hW => by go_simp; first | done | with_reducible rfl) hS ?_) | (refine skip_step (i := 30) (by simp only [List.getElem?_toArray, List.getElem?_cons_succ, List.getElem?_cons_zero]; rfl) (by kernel_rfl) (by kernel_rfl) (by kernel_rfl) (by intro _ _ _ h; exact h) (by rfl) hS ?_)
      try simp only [Act.put, List.setIfInBounds_toArray, List.set_cons_zero, List.set_cons_succ]
      first | (refine take_step (i := 31) (by simp only [List.getElem?_toArray, List.getElem?_cons_succ, List.getElem?_cons_zero]; rfl) (by kernel_rfl) (by kernel_rfl) (by kernel_rfl) (by intro _ _ _ h; exact h) (by rfl) (fun W hW => by go_simp; first | done | with_reducible rfl) hS ?_) | (refine skip_step (i := 31) (by simp only [List.getElem?_toArray, List.getElem?_cons_succ, List.getElem?_cons_zero]; rfl) (by kernel_rfl) (by kernel_rfl) (by kernel_rfl) (by intro _ _ _ h; exact h) (by rfl) hS ?_)
      try simp only [Act.put, List.setIfInBounds_toArray, List.set_cons_zero, List.set_cons_succ]
      first | (refine take_step (i := 32) (by simp only [List.getElem?_toArray, List.getElem?_cons_succ, List.getElem?_cons_zero]; rfl) (by kernel_rfl) (by kernel_rfl) (by kernel_rfl) (by intro _ _ _ h; exact h) (by rfl) (fun W hW => by go_simp; first | done | with_reducible rfl) hS ?_) | (refine skip_step (i := 32) (by simp only [List.getElem?_toArray, List.getElem?_cons_succ, List.getElem?_cons_zero]; rfl) (by kernel_rfl) (by kernel_rfl) (by kernel_rfl) (by intro _ _ _ h; exact h) (by rfl) hS ?_)
      try simp only [Act.put, List.setIfInBounds_toArray, List.set_cons_zero, List.set_cons_succ]
      first | (refine take_step (i := 33) (by simp only [List.getElem?_toArray, List.getElem?_cons_succ, List.getElem?_cons_zero]; rfl) (by kernel_rfl) (by kernel_rfl) (by kernel_rfl) (by intro _ _ _ h; exact h) (by rfl) (fun W hW => by go_simp; first | done | with_reducible rfl) hS ?_) | (refine skip_step (i := 33) (by simp only [List.getElem?_toArray, List.getElem?_cons_succ, List.getElem?_cons_zero]; rfl) (by kernel_rfl) (by kernel_rfl) (by kernel_rfl) (by intro _ _ _ h; exact h) (by rfl) hS ?_)
      try simp only [Act.put, List.setIfInBounds_toArray, List.set_cons_zero, List.set_cons_succ]
      first | (refine take_step (i := 34) (by simp only [List.getElem?_toArray, List.getElem?_cons_succ, List.getElem?_cons_zero]; rfl) (by kernel_rfl) (by kernel_rfl) (by kernel_rfl) (by intro _ _ _ h; exact h) (by rfl) (fun W hW => by go_simp; first | done | with_reducible rfl) hS ?_) | (refine skip_step (i := 34) (by simp only [List.getElem?_toArray, List.getElem?_cons_succ, List.getElem?_cons_zero]; rfl) (by kernel_rfl) (by kernel_rfl) (by kernel_rfl) (by intro _ _ _ h; exact h) (by rfl) hS ?_)
      try simp only [Act.put, List.setIfInBounds_toArray, List.set_cons_zero, List.set_cons_succ]
      first | (refine take_step (i := 35) (by simp only [List.getElem?_toArray, List.getElem?_cons_succ, List.getElem?_cons_zero]; rfl) (by kernel_rfl) (by kernel_rfl) (by kernel_rfl) (by intro _ _ _ h; exact h) (by rfl) (fun W hW => by go_simp; first | done | with_reducible rfl) hS ?_) | (refine skip_step (i := 35) (by simp only [List.getElem?_toArray, List.getElem?_cons_succ, List.getElem?_cons_zero]; rfl) (by kernel_rfl) (by kernel_rfl) (by kernel_rfl) (by intro _ _ _ h; exact h) (by rfl) hS ?_)
      try simp only [Act.put, List.setIfInBounds_toArray, List.set_cons_zero, List.set_cons_succ]
      first | (refine take_step (i := 36) (by simp only [List.getElem?_toArray, List.getElem?_cons_succ, List.getElem?_cons_zero]; rfl) (by kernel_rfl) (by kernel_rfl) (by kernel_rfl) (by intro _ _ _ h; exact h) (by rfl) (fun W hW => by go_simp; first | done | with_reducible rfl) hS ?_) | (refine skip_step (i := 36) (by simp only [List.getElem?_toArray, List.getElem?_cons_succ, List.getElem?_cons_zero]; rfl) (by kernel_rfl) (by kernel_rfl) (by kernel_rfl) (by intro _ _ _ h; exact h) (by rfl) hS ?_)
      try simp only [Act.put, List.setIfInBounds_toArray, List.set_cons_zero, List.set_cons_succ]
      first | (refine take_step (i := 37) (by simp only [List.getElem?_toArray, List.getElem?_cons_succ, List.getElem?_cons_zero]; rfl) (by kernel_rfl) (by kernel_rfl) (by kernel_rfl) (by intro _ _ _ h; exact h) (by rfl) (fun W hW => by go_simp; first | done | with_reducible rfl) hS ?_) | (refine skip_step (i := 37) (by simp only [List.getElem?_toArray, List.getElem?_cons_succ, List.getElem?_cons_zero]; rfl) (by kernel_rfl) (by kernel_rfl) (by kernel_rfl) (by intro _ _ _ h; exact h) (by rfl) hS ?_)
      try simp only [Act.put, List.setIfInBounds_toArray, List.set_cons_zero, List.set_cons_succ]
      first | (refine take_step (i := 38) (by simp only [List.getElem?_toArray, List.getElem?_cons_succ, List.getElem?_cons_zero]; rfl) (by kernel_rfl) (by kernel_rfl) (by kernel_rfl) (by intro _ _ _ h; exact h) (by rfl) (fun W hW => by go_simp; first | done | with_reducible rfl) hS ?_) | (refine skip_step (i := 38) (by simp only [List.getElem?_toArray, List.getElem?_cons_succ, List.getElem?_cons_zero]; rfl) (by kernel_rfl) (by kernel_rfl) (by kernel_rfl) (by intro _ _ _ h; exact h) (by rfl) hS ?_)
      try simp only [Act.put, List.setIfInBounds_toArray, List.set_cons_zero, List.set_cons_succ]
      first | (refine take_step (i := 39) (by simp only [List.getElem?_toArray, List.getElem?_cons_succ, List.getElem?_cons_zero]; rfl) (by kernel_rfl) (by kernel_rfl) (by kernel_rfl) (by intro _ _ _ h; exact h) (by rfl) (fun W hW => by go_simp; first | done | with_reducible rfl) hS ?_) | (refine skip_step (i := 39) (by simp only [List.getElem?_toArray, List.getElem?_cons_succ, List.getElem?_cons_zero]; rfl) (by kernel_rfl) (by kernel_rfl) (by kernel_rfl) (by intro _ _ _ h; exact h) (by rfl) hS ?_)
      try simp only [Act.put, List.setIfInBounds_toArray, List.set_cons_zero, List.set_cons_succ]
      first | (refine take_step (i := 40) (by simp only [List.getElem?_toArray, List.getElem?_cons_succ, List.getElem?_cons_zero]; rfl) (by kernel_rfl) (by kernel_rfl) (by kernel_rfl) (by intro _ _ _ h; exact h) (by rfl) (fun W hW => by go_simp; first | done | with_reducible rfl) hS ?_) | (refine skip_step (i := 40) (by simp only [List.getElem?_toArray, List.getElem?_cons_succ, List.getElem?_cons_zero]; rfl) (by kernel_rfl) (by kernel_rfl) (by kernel_rfl) (by intro _ _ _ h; exact h) (by rfl) hS ?_)
      try simp only [Act.put, List.setIfInBounds_toArray, List.set_cons_zero, List.set_cons_succ]
      refine take_step (i := 41) (by simp only [List.getElem?_toArray, List.getElem?_cons_succ, List.getElem?_cons_zero]; rfl) (by kernel_rfl) (by kernel_rfl) (by kernel_rfl) (by intro _ _ _ h; exact h) (by rfl) (fun W hW => by go_simp; first | done | with_reducible rfl) hS ?_
      try simp only [Act.put, List.setIfInBounds_toArray, List.set_cons_zero, List.set_cons_succ]
      refine take_step (i := 42) (by simp only [List.getElem?_toArray, List.getElem?_cons_succ, List.getElem?_cons_zero]; rfl) (by kernel_rfl) (by kernel_rfl) (by kernel_rfl) (by intro _ _ _ h; exact h) (by rfl) (fun W hW => by go_simp; first | done | with_reducible rfl) hS ?_
      try simp only [Act.put, List.setIfInBounds_toArray, List.set_cons_zero, List.set_cons_succ]
      refine wpAnyH_done (by kernel_rfl) ?_ _
      have HFN := hid (below_step HB5.out hS13)
      go_wp2_with fail
      go_ret
      exact ⟨rfl, HFN.out⟩
    · have hf2' : fewC l2 = false := by simpa using hf2
      rw [hf] at HF
      rw [hf2'] at HF2
      clear hb1 hT ha hc ha2 hc2 hn hn2 hf hf2 hf2'
      unfold pageV at HF HF2 ⊢
      go_enter Tryd.func9, Tryd.ntmps9
      go_wp2_with fail
      generalize (w.alloc (.cells #[.bool leaf, .int .i64 next, .slice A n c] 24)).alloc (.cells #[.bool leaf2, .int .i64 next2, .slice A2 n2 c2] 24) = w1 at *
      obtain ⟨g, hg⟩ : ∃ g, w.heap.size = g := ⟨_, rfl⟩
      rw [hg] at HX HY ⊢
      have HGE := hid hg
      clear hg
      have x0 := HX.out.cell 0
      have x1 := HX.out.cell 1
      have x2 := HX.out.cell 2
      have y0 := HY.out.cell 0
      have y1 := HY.out.cell 1
      have y2 := HY.out.cell 2

      go_fit HF.out
      rintro e w2 ⟨rfl, hb2⟩
      have HB2 := hid (below_step HB.out hb2)
      have HK2 := hid hb2
      have HX2 := hid (HX.out.below hb2 HX.out.lt)
      have HY2 := hid (HY.out.below hb2 HY.out.lt)
      clear hb2 HF x0 x1 x2 y0 y1 y2
      have x0 := HX2.out.cell 0
      have x1 := HX2.out.cell 1
      have x2 := HX2.out.cell 2
      have y0 := HY2.out.cell 0
      have y1 := HY2.out.cell 1
      have y2 := HY2.out.cell 2
      go_wp2_with fail
      go_fit (HF2.out _ HK2.out)
      rintro e w3 ⟨rfl, hb3⟩
      have HB3 := hid (below_step HB2.out hb3)
      have HK3 := hid (HK2.out.trans (hb3.mono HK2.out.size))
      have HX3 := hid (HX2.out.below hb3 HX2.out.lt)
      have HY3 := hid (HY2.out.below hb3 HY2.out.lt)
      clear hb3 HF2 x0 x1 x2 y0 y1 y2
      have x0 := HX3.out.cell 0
      have x1 := HX3.out.cell 1
      have x2 := HX3.out.cell 2
      have y0 := HY3.out.cell 0
      have y1 := HY3.out.cell 1
      have y2 := HY3.out.cell 2
      go_wp2_with fail
      go_fit (HAW.out _ HB3.out)
      rintro e w9 ⟨rfl, hbz⟩
      have HBZ := hid (below_step HB3.out hbz)
      clear hbz
      go_wp2_with fail
      go_ret
      exact ⟨rfl, HBZ.out⟩
  · have hf' : fewC l = false := by simpa using hf
    rw [hf'] at HF
    clear hb1 hT ha hc ha2 hc2 hn hn2 hf hf' HF2
    unfold pageV at HF ⊢
    go_enter Tryd.func9, Tryd.ntmps9
    go_wp2_with fail
    generalize (w.alloc (.cells #[.bool leaf, .int .i64 next, .slice A n c] 24)).alloc (.cells #[.bool leaf2, .int .i64 next2, .slice A2 n2 c2] 24) = w1 at *
    obtain ⟨g, hg⟩ : ∃ g, w.heap.size = g := ⟨_, rfl⟩
    rw [hg] at HX HY ⊢
    have HGE := hid hg
    clear hg
    have x0 := HX.out.cell 0
    have x1 := HX.out.cell 1
    have x2 := HX.out.cell 2
    have y0 := HY.out.cell 0
    have y1 := HY.out.cell 1
    have y2 := HY.out.cell 2

    go_fit HF.out
    rintro e w2 ⟨rfl, hb2⟩
    have HB2 := hid (below_step HB.out hb2)
    have HK2 := hid hb2
    have HX2 := hid (HX.out.below hb2 HX.out.lt)
    have HY2 := hid (HY.out.below hb2 HY.out.lt)
    clear hb2 HF x0 x1 x2 y0 y1 y2
    have x0 := HX2.out.cell 0
    have x1 := HX2.out.cell 1
    have x2 := HX2.out.cell 2
    have y0 := HY2.out.cell 0
    have y1 := HY2.out.cell 1
    have y2 := HY2.out.cell 2
    go_wp2_with fail
    go_fit (HAW.out _ HB2.out)
    rintro e w9 ⟨rfl, hbz⟩
    have HBZ := hid (below_step HB2.out hbz)
    clear hbz
    go_wp2_with fail
    go_ret
    exact ⟨rfl, HBZ.out⟩

end Go.Proofs.YtikggbopoajcbaaDoor
