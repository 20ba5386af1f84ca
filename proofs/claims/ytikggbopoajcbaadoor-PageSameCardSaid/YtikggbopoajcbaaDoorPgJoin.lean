/-
  The landed Join.
-/
import Derived.Test.YtikggbopoajcbaaDoorPgSame
import Derived.Test.YtikggbopoajcbaaDoorPgPut
import Derived.Test.YtikggbopoajcbaaDoorRegion
namespace Go.Proofs.YtikggbopoajcbaaDoor
open Go Go.RowKit

/-- what holds while a Join runs: the two pages' variables are as they were, the result's is there -/
structure JoinS (B : Nat) (w1 : World) (g : Nat) (leaf : Bool) (next : Int) (A : Option Addr) (n c : Nat) (leaf2 : Bool) (next2 : Int) (A2 : Option Addr) (n2 c2 : Nat) (W : World) : Prop where
  below : Below B w1 W
  one : PBlk W g leaf next A n c
  two : PBlk W (g + 1) leaf2 next2 A2 n2 c2
  res : ∃ a b d, Blk W (g + 1 + 1) 24 #[a, b, d]
theorem JoinS.step {B : Nat} {w1 W W' : World} {g : Nat} {leaf : Bool} {next : Int} {A : Option Addr} {n c : Nat} {leaf2 : Bool} {next2 : Int} {A2 : Option Addr} {n2 c2 : Nat} (h : JoinS B w1 g leaf next A n c leaf2 next2 A2 n2 c2 W) (hb : Below W.heap.size W W') (hB : B ≤ W.heap.size) : JoinS B w1 g leaf next A n c leaf2 next2 A2 n2 c2 W' := by
  obtain ⟨a, b, d, hr⟩ := h.res
  exact ⟨h.below.trans (hb.mono hB), h.one.below hb h.one.lt, h.two.below hb h.two.lt, a, b, d, hr.below hb hr.lt⟩

theorem joinS_set {B : Nat} {w1 W : World} {g : Nat} {leaf : Bool} {next : Int} {A : Option Addr} {n c : Nat} {leaf2 : Bool} {next2 : Int} {A2 : Option Addr} {n2 c2 : Nat} (h : JoinS B w1 g leaf next A n c leaf2 next2 A2 n2 c2 W) (hB : B ≤ g) (u0 u1 u2 : Value) : JoinS B w1 g leaf next A n c leaf2 next2 A2 n2 c2 (((W.setCell ⟨g + 1 + 1, 0, none⟩ u0).setCell ⟨g + 1 + 1, 1, none⟩ u1).setCell ⟨g + 1 + 1, 2, none⟩ u2) := by
  obtain ⟨a, b, d, hr⟩ := h.res
  refine ⟨below_set3 h.below (by omega) u0 u1 u2, ((h.one.far (by show g ≠ g + 1 + 1; omega) u0).far (by show g ≠ g + 1 + 1; omega) u1).far (by show g ≠ g + 1 + 1; omega) u2, ((h.two.far (by show g + 1 ≠ g + 1 + 1; omega) u0).far (by show g + 1 ≠ g + 1 + 1; omega) u1).far (by show g + 1 ≠ g + 1 + 1; omega) u2, _, _, _, ((hr.set 0 u0).set 1 u1).set 2 u2⟩

set_option maxHeartbeats 4000000 in
set_option maxRecDepth 100000 in
theorem join_any {leaf leaf2 : Bool} {next next2 : Int} {A A2 : Option Addr} {n c B n2 c2 B2 : Nat} {l l2 : List Cl} {w : World} (h : CS w B A n c l) (h2 : CS w B2 A2 n2 c2 l2) (hn : n + n2 ≤ 549755813888) :
    Calls Tryd.prog 29 #[pageV leaf next A n c, pageV leaf2 next2 A2 n2 c2] w fun e w' => ∃ A' m' c', e = .returned (pageV leaf next2 A' m' c') ∧ CS w' w'.heap.size A' m' c' (l ++ l2) ∧ Below w.heap.size w w' := by
  have hb1 : Below w.heap.size w (w.alloc (.cells #[.bool leaf, .int .i64 next, .slice A n c] 24)) := (Below.refl _ _).alloc (Nat.le_refl _) _
  have hb2 := hb1.alloc hb1.size (.cells #[.bool leaf2, .int .i64 next2, .slice A2 n2 c2] 24)
  have hb3 := hb2.alloc hb2.size (.cells #[.bool false, .int .i64 0, .slice none 0 0] 24)
  have HB := hid hb3
  have e1 : (w.alloc (.cells #[.bool leaf, .int .i64 next, .slice A n c] 24)).heap.size = w.heap.size + 1 := by simp
  have e2 : ((w.alloc (.cells #[.bool leaf, .int .i64 next, .slice A n c] 24)).alloc (.cells #[.bool leaf2, .int .i64 next2, .slice A2 n2 c2] 24)).heap.size = w.heap.size + 1 + 1 := by simp
  have k2 := Blk.new (w.alloc (.cells #[.bool leaf, .int .i64 next, .slice A n c] 24)) 24 #[.bool leaf2, .int .i64 next2, .slice A2 n2 c2]
  have k3 := Blk.new ((w.alloc (.cells #[.bool leaf, .int .i64 next, .slice A n c] 24)).alloc (.cells #[.bool leaf2, .int .i64 next2, .slice A2 n2 c2] 24)) 24 #[.bool false, .int .i64 0, .slice none 0 0]
  rw [e1] at k2
  rw [e2] at k3
  have HJ := hid (show JoinS w.heap.size (((w.alloc (.cells #[.bool leaf, .int .i64 next, .slice A n c] 24)).alloc (.cells #[.bool leaf2, .int .i64 next2, .slice A2 n2 c2] 24)).alloc (.cells #[.bool false, .int .i64 0, .slice none 0 0] 24)) w.heap.size leaf next A n c leaf2 next2 A2 n2 c2 ((((w.alloc (.cells #[.bool leaf, .int .i64 next, .slice A n c] 24)).alloc (.cells #[.bool leaf2, .int .i64 next2, .slice A2 n2 c2] 24)).alloc (.cells #[.bool false, .int .i64 0, .slice none 0 0] 24))).drew from ⟨(Below.refl _ _).drew, ((Blk.new w _ _).alloc _).alloc _, k2.alloc _, _, _, _, k3⟩)
  have HC := hid h
  have HC2 := hid h2
  have HN := hid hn
  clear h h2 hn hb1 hb2 hb3 e1 e2 k2 k3
  unfold pageV
  go_enter Tryd.func29, Tryd.ntmps29
  go_wp2_with fail
  generalize ((w.alloc (.cells #[.bool leaf, .int .i64 next, .slice A n c] 24)).alloc (.cells #[.bool leaf2, .int .i64 next2, .slice A2 n2 c2] 24)).alloc (.cells #[.bool false, .int .i64 0, .slice none 0 0] 24) = w1 at *
  obtain ⟨g, hg⟩ : ∃ g, w.heap.size = g := ⟨_, rfl⟩
  rw [hg] at HJ ⊢
  have HGE := hid hg
  clear hg
  have z0 : ∀ W, JoinS g w1 g leaf next A n c leaf2 next2 A2 n2 c2 W → W.cell? ⟨g, 0, none⟩ = some (.bool leaf) := fun W hW => hW.one.cell 0
  have z2 : ∀ W, JoinS g w1 g leaf next A n c leaf2 next2 A2 n2 c2 W → W.cell? ⟨g, 2, none⟩ = some (.slice A n c) := fun W hW => hW.one.cell 2
  have y1 : ∀ W, JoinS g w1 g leaf next A n c leaf2 next2 A2 n2 c2 W → W.cell? ⟨g + 1, 1, none⟩ = some (.int .i64 next2) := fun W hW => hW.two.cell 1
  have y2 : ∀ W, JoinS g w1 g leaf next A n c leaf2 next2 A2 n2 c2 W → W.cell? ⟨g + 1, 2, none⟩ = some (.slice A2 n2 c2) := fun W hW => hW.two.cell 2
  have HGL := hid (show g ≤ w1.heap.size by have := HB.out.size; have := HGE.out; omega)
  have HLR := hid (show g + 1 + 1 < w1.heap.size by obtain ⟨_, _, _, h⟩ := HJ.out.res; exact h.lt)
  have HNB := hid (show Below w1.heap.size w1.drew ((w1.alloc (.cells #[.slice A n c, .slice A2 n2 c2] 22)).drew) from ((Below.refl w1.heap.size w1.drew).alloc (Nat.le_refl _) (.cells #[.slice A n c, .slice A2 n2 c2] 22)))
  have HQ := hid (show Blk ((w1.alloc (.cells #[.slice A n c, .slice A2 n2 c2] 22)).drew) w1.heap.size 22 #[.slice A n c, .slice A2 n2 c2] from Blk.new w1 _ _)
  have HBA := hid (show Below g w (w1.alloc (.cells #[.slice A n c, .slice A2 n2 c2] 22)).drew by rw [← HGE.out]; exact HB.out.trans (Below.trans (show Below w.heap.size w1 w1.drew from (Below.refl _ _).drew) (HNB.out.mono HB.out.size)))
  refine wp_region_held_drew (S := JoinS g w1 g leaf next A n c leaf2 next2 A2 n2 c2) (by kernel_rfl) HJ.out (fun hS => ?_)
  refine take_step (i := 0) (by simp only [List.getElem?_toArray, List.getElem?_cons_zero]; rfl) (by kernel_rfl) (by kernel_rfl) (by kernel_rfl) (by intro _ _ _ h; exact h) (by rfl) (fun W hW => by go_simp; first | done | with_reducible rfl) hS ?_
  try simp only [Act.put, List.setIfInBounds_toArray, List.set_cons_zero, List.set_cons_succ]
  refine take_step (i := 1) (by simp only [List.getElem?_toArray, List.getElem?_cons_succ, List.getElem?_cons_zero]; rfl) (by kernel_rfl) (by kernel_rfl) (by kernel_rfl) (by intro _ _ _ h; exact h) (by rfl) (fun W hW => by go_simp; first | done | with_reducible rfl) hS ?_
  try simp only [Act.put, List.setIfInBounds_toArray, List.set_cons_zero, List.set_cons_succ]
  refine take_step (i := 2) (by simp only [List.getElem?_toArray, List.getElem?_cons_succ, List.getElem?_cons_zero]; rfl) (by kernel_rfl) (by kernel_rfl) (by kernel_rfl) (by intro _ _ _ h; exact h) (by rfl) (fun W hW => by go_simp; first | done | with_reducible rfl) hS ?_
  try simp only [Act.put, List.setIfInBounds_toArray, List.set_cons_zero, List.set_cons_succ]
  refine take_step (i := 3) (by simp only [List.getElem?_toArray, List.getElem?_cons_succ, List.getElem?_cons_zero]; rfl) (by kernel_rfl) (by kernel_rfl) (by kernel_rfl) (by intro _ _ _ h; exact h) (by rfl) (fun W hW => by go_simp; first | done | with_reducible rfl) hS ?_
  try simp only [Act.put, List.setIfInBounds_toArray, List.set_cons_zero, List.set_cons_succ]
  refine take_step (i := 4) (by simp only [List.getElem?_toArray, List.getElem?_cons_succ, List.getElem?_cons_zero]; rfl) (by kernel_rfl) (by kernel_rfl) (by kernel_rfl) (by intro _ _ _ h; exact h) (by rfl) (fun W hW => by go_simp; first | done | with_reducible rfl) hS ?_
  try simp only [Act.put, List.setIfInBounds_toArray, List.set_cons_zero, List.set_cons_succ]
  refine take_step (i := 5) (by simp only [List.getElem?_toArray, List.getElem?_cons_succ, List.getElem?_cons_zero]; rfl) (by kernel_rfl) (by kernel_rfl) (by kernel_rfl) (by intro _ _ _ h; exact h) (by rfl) (fun W hW => by go_simp; first | done | with_reducible rfl) hS ?_
  try simp only [Act.put, List.setIfInBounds_toArray, List.set_cons_zero, List.set_cons_succ]
  refine take_step (i := 6) (by simp only [List.getElem?_toArray, List.getElem?_cons_succ, List.getElem?_cons_zero]; rfl) (by kernel_rfl) (by kernel_rfl) (by kernel_rfl) (by intro _ _ _ h; exact h) (by rfl) (fun W hW => by go_simp; first | done | with_reducible rfl) hS ?_
  try simp only [Act.put, List.setIfInBounds_toArray, List.set_cons_zero, List.set_cons_succ]
  refine take_step (i := 7) (by simp only [List.getElem?_toArray, List.getElem?_cons_succ, List.getElem?_cons_zero]; rfl) (by kernel_rfl) (by kernel_rfl) (by kernel_rfl) (by intro _ _ _ h; exact h) (by rfl) (fun W hW => by go_simp; first | done | with_reducible rfl) hS ?_
  try simp only [Act.put, List.setIfInBounds_toArray, List.set_cons_zero, List.set_cons_succ]
  refine wpAnyH_ready (rs := [8]) (by kernel_rfl) (by simp) ?_
  refine AllReadyH.cons (by simp only [List.getElem?_toArray, List.getElem?_cons_succ, List.getElem?_cons_zero]; rfl) (fun K hK => ?_) AllReadyH.nil
  go_simp
  refine hK.out _ _ (hS.step HNB.out HGL.out) (fun hS8 => ?_)
  skip
  clear hK K hS
  have hS := hS8
  try simp only [Act.put, List.setIfInBounds_toArray, List.set_cons_zero, List.set_cons_succ]
  refine wpAnyH_ready (rs := [9]) (by kernel_rfl) (by simp) ?_
  refine AllReadyH.cons (by simp only [List.getElem?_toArray, List.getElem?_cons_succ, List.getElem?_cons_zero]; rfl) (fun K hK => ?_) AllReadyH.nil
  go_simp
  go_fit (concat_any (HC.out.below HBA.out (by have := HC.out.low; have := HGE.out; omega)) (HC2.out.below HBA.out (by have := HC2.out.low; have := HGE.out; omega)) HN.out HQ.out)
  rintro e w5 ⟨A5, m5, c5, rfl, hr5, hb5⟩
  have hS9 := hS.step hb5 (by have := HGL.out; simp; omega)
  have HR5 := hid hr5
  have HB5 := hid hb5
  clear hr5 hb5
  obtain ⟨ra, rb, rd, hres⟩ := hS9.res
  have r0 := hres.cell 0
  have r1 := hres.cell 1
  have r2 := hres.cell 2
  have s0 := hres.free 0
  have s1 := hres.free 1
  have s2 := hres.free 2
  refine hK.out _ _ (by assumption) (fun _ => ?_)
  clear hK K hS
  have hS := hS9
  try simp only [Act.put, List.setIfInBounds_toArray, List.set_cons_zero, List.set_cons_succ]
  refine take_step (i := 10) (by simp only [List.getElem?_toArray, List.getElem?_cons_succ, List.getElem?_cons_zero]; rfl) (by kernel_rfl) (by kernel_rfl) (by kernel_rfl) (by intro _ _ _ h; exact h) (by rfl) (fun W hW => by go_simp; first | done | with_reducible rfl) hS ?_
  try simp only [Act.put, List.setIfInBounds_toArray, List.set_cons_zero, List.set_cons_succ]
  refine wpAnyH_ready (rs := [11]) (by kernel_rfl) (by simp) ?_
  refine AllReadyH.cons (by simp only [List.getElem?_toArray, List.getElem?_cons_succ, List.getElem?_cons_zero]; rfl) (fun K hK => ?_) AllReadyH.nil
  go_simp
  refine hK.out _ _ (joinS_set hS (Nat.le_refl _) _ _ _) (fun hS11 => ?_)
  skip
  clear hK K hS
  have hS := hS11
  try simp only [Act.put]
  refine wpAnyH_done (by kernel_rfl) ?_ _
  have HW5 := hid (show Below w.heap.size w w5 by have h1 := HBA.out; rw [← HGE.out] at h1; exact h1.trans (HB5.out.mono (by have := HB.out.size; simp; omega)))
  have hlt9 : g + 1 + 1 < (w1.alloc (.cells #[.slice A n c, .slice A2 n2 c2] 22)).drew.heap.size := Nat.lt_of_lt_of_le HLR.out HNB.out.size
  have HRF := hid (((HR5.out.set (p := ⟨g + 1 + 1, 0, none⟩) hlt9 (.bool leaf)).set (p := ⟨g + 1 + 1, 1, none⟩) hlt9 (.int .i64 next2)).set (p := ⟨g + 1 + 1, 2, none⟩) hlt9 (.slice A5 m5 c5))
  have HBF := hid (below_set3 (g := g + 1 + 1) HW5.out (by have := HGE.out; omega) (.bool leaf) (.int .i64 next2) (.slice A5 m5 c5))
  have hln : (l ++ l2).length ≤ 549755813888 := by rw [List.length_append, ← HC.out.len, ← HC2.out.len]; exact HN.out
  have HLL := hid hln
  clear hS8 hS9 z0 z2 y1 y2 HQ HBA HNB HJ hln hlt9
  go_wp2_with fail
  refine bodyPost_ret (v := pageV leaf next2 A5 m5 c5) (by simp [results, Tryd.results29, go_sem, pageV, *]) rfl ?_
  exact ⟨A5, m5, c5, rfl, CS.row HRF.out HLL.out, HBF.out⟩

end Go.Proofs.YtikggbopoajcbaaDoor
