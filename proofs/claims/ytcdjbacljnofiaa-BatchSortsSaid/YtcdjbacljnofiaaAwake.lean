/-
  What the chapter's example fixes: the call that each statement makes first.
-/
import Derived.Test.YtcdjbacljnofiaaFace
import Derived.Test.YtcdjbacljnofiaaBGetIs
import Derived.Test.YtcdjbacljnofiaaJBytes
import Derived.Deep.DeepFit
namespace Go.Proofs.Ytcdjbacljnofiaa
open Go Go.RowKit

def badWs : List Wt := [⟨[98], [], false⟩, ⟨[97], [], false⟩]
theorem ex_chk : chk exWs = 0 := by decide +kernel
theorem ex_enc : benc ⟨1, 2, 3, exWs⟩ = [1, 2, 3, 2, 1, 97, 0, 1, 120, 1, 98, 1] := by decide +kernel
theorem ex_get : bget [1, 2, 3, 2, 1, 97, 0, 1, 120, 1, 98, 1] = some ⟨1, 2, 3, exWs⟩ := by rw [← ex_enc]; exact bget_benc (b := ⟨1, 2, 3, exWs⟩) ex_chk (by decide) (by decide) (by decide)
theorem ex_find : findW exWs [98] = some ⟨[98], [], true⟩ := by decide +kernel
theorem ex_few : isFew exWs = true := by decide +kernel
theorem bad_few : isFew badWs = true := by decide +kernel
theorem bad_chk : chk badWs = 54 := by decide +kernel
theorem bad_sort : chk (sortW badWs) = 0 := by decide +kernel
theorem bad_meets : meets badWs exWs = true := by decide +kernel

structure BadMem (w5 v7 : World) : Prop where
  gone : v7.cell? ⟨w5.heap.size, 2, none⟩ = some (.bool true)
  b0 : v7.cell? ⟨w5.heap.size + 1 + 1, 0, none⟩ = some (.int .u64 0)
  b1 : v7.cell? ⟨w5.heap.size + 1 + 1, 1, none⟩ = some (.int .u64 0)
  b2 : v7.cell? ⟨w5.heap.size + 1 + 1, 2, none⟩ = some (.int .u64 0)
  b3 : v7.cell? ⟨w5.heap.size + 1 + 1, 3, none⟩ = some (.slice (some ⟨w5.heap.size + 1, 0, none⟩) 2 2)
  at_ : BAt v7 v7.heap.size (some ⟨w5.heap.size + 1, 0, none⟩) 2 2 badWs
  below : Below w5.heap.size w5 v7
  size : w5.heap.size + 1 + 1 < v7.heap.size
theorem bad_mem (w5 : World) : BadMem w5 (((w5.alloc (.cells #[.string (bst [98]), .string (bst []), .bool true] 43)).alloc (.cells #[.string ⟨#[98]⟩, .string ⟨#[]⟩, .bool false, .string ⟨#[97]⟩, .string ⟨#[]⟩, .bool false] 43)).alloc (.cells #[.int .u64 0, .int .u64 0, .int .u64 0, .slice (some ⟨w5.heap.size + 1, 0, none⟩) 2 2] 25)) := by
  have s1 : (w5.alloc (.cells #[.string (bst [98]), .string (bst []), .bool true] 43)).heap.size = w5.heap.size + 1 := by simp
  have g1 : (w5.alloc (.cells #[.string (bst [98]), .string (bst []), .bool true] 43)).cell? ⟨w5.heap.size, 2, none⟩ = some (.bool true) := by rw [cell_of_row _ _ _ _ _ _ (heap_alloc_new w5 _)]; rfl
  have hb1 : Below w5.heap.size w5 (w5.alloc (.cells #[.string (bst [98]), .string (bst []), .bool true] 43)) := (Below.refl _ _).alloc (Nat.le_refl _) _
  generalize w5.alloc (.cells #[.string (bst [98]), .string (bst []), .bool true] 43) = u at *
  have g2 : (u.alloc (.cells (wcs badWs).toArray 43)).cell? ⟨w5.heap.size, 2, none⟩ = some (.bool true) := (World.cell?_alloc_lt u _ ⟨w5.heap.size, 2, none⟩ (by show w5.heap.size < _; omega)).trans g1
  have s2 : (u.alloc (.cells (wcs badWs).toArray 43)).heap.size = w5.heap.size + 1 + 1 := by simp [s1]
  have hrow : WRow (u.alloc (.cells (wcs badWs).toArray 43)) w5.heap.size (some ⟨w5.heap.size + 1, 0, none⟩) 2 2 badWs := by
    rw [← s1]
    exact ⟨rfl, rfl, .inr ⟨u.heap.size, 2, (wcs badWs).toArray, rfl, by omega, heap_alloc_new u _, Nat.le_refl _, by decide, rfl, rfl⟩⟩
  have hb2 := hb1.alloc hb1.size (.cells (wcs badWs).toArray 43)
  change BadMem w5 ((u.alloc (.cells (wcs badWs).toArray 43)).alloc _)
  generalize u.alloc (.cells (wcs badWs).toArray 43) = v at *
  obtain ⟨c0, c1, c2, c3⟩ := box_cells v 25 (.int .u64 0) (.int .u64 0) (.int .u64 0) (.slice (some ⟨w5.heap.size + 1, 0, none⟩) 2 2)
  rw [s2] at c0 c1 c2 c3
  exact ⟨(World.cell?_alloc_lt v _ ⟨w5.heap.size, 2, none⟩ (by show w5.heap.size < _; omega)).trans g2, c0, c1, c2, c3, BAt.row (hrow.alloc _) bad_few, hb2.alloc hb2.size _, by simp [s2]⟩

set_option maxRecDepth 100000 in
set_option maxHeartbeats 8000000 in
theorem awake_yes (hF : Face) (w : World) :
    Calls Try.prog 11 #[] w fun e w' => e = .returned (.bool true) ∧ Below w.heap.size w w' := by
  have HF := hid hF
  clear hF
  go_enter Try.func11, Try.ntmps11
  go_wp2_with fail
  go_fit (example_any w)
  rintro e w1 ⟨A1, n1, c1, rfl, hr1, hb1⟩
  have HB1 := hid hb1
  have HX1 := hid (BAt.row hr1 ex_few)
  clear hr1 hb1
  go_wp2_with fail
  go_fit (HF.out.putYes (c := 1) (r := 2) (s := 3) ex_chk HX1.out (by decide) (by decide) (by decide))
  rw [ex_enc]
  rintro e w2 ⟨A2, m2, c2, rfl, hr2, hb2⟩
  have HR2 := hid hr2
  have HB2 := hid (below_step HB1.out hb2)
  clear hr2 hb2 HX1
  go_wp2_with fail
  go_fit (HF.out.get HR2.out.at_ HR2.out.1 (row_cap HR2.out) (Nat.le_refl _) (by decide))
  rw [ex_get]
  rintro e w3 ⟨h3, hb3⟩
  rcases h3 with ⟨h3, _⟩ | ⟨b3, A3, n3, c3, h3, rfl, hr3⟩
  · cases h3
  obtain rfl := Option.some.inj h3
  have HB3 := hid (below_step HB2.out hb3)
  have HR2 := hid (HR2.out.below hb3)
  have HX3 := hid (BAt.row hr3 ex_few)
  clear h3 hb3 hr3
  have HC3 := hid (box_cells w3 25 (.int .u64 1) (.int .u64 2) (.int .u64 3) (.slice A3 n3 c3))
  have HB3b := hid (HB3.out.alloc HB3.out.size (.cells #[.int .u64 1, .int .u64 2, .int .u64 3, .slice A3 n3 c3] 25))
  have HAL := hid (show Below w3.heap.size w3 (w3.alloc (.cells #[.int .u64 1, .int .u64 2, .int .u64 3, .slice A3 n3 c3] 25)) from (Below.refl _ _).alloc (Nat.le_refl _) _)
  have HX3 := hid (HX3.out.step HAL.out)
  have HR2 := hid (HR2.out.below HAL.out)
  have HL3 := hid (show w3.heap.size < (w3.alloc (.cells #[.int .u64 1, .int .u64 2, .int .u64 3, .slice A3 n3 c3] 25)).heap.size by simp)
  go_wp2_with fail
  generalize w3.alloc (.cells #[.int .u64 1, .int .u64 2, .int .u64 3, .slice A3 n3 c3] 25) = v3 at *
  go_fit (example_any v3)
  rintro e w4 ⟨A4, n4, c4, rfl, hr4, hb4⟩
  have HX4 := hid (BAt.row hr4 ex_few)
  have HB4 := hid (below_step HB3b.out hb4)
  have HK4 := hid hb4
  clear hr4 hb4
  go_wp2_with fail
  go_fit (HF.out.find [98] HX4.out)
  rw [ex_find]
  rintro e w5 ⟨rfl, hb5⟩
  have HB5 := hid (below_step HB4.out hb5)
  have HK5 := hid (below_step HK4.out hb5)
  clear hb5 HX4 HK4
  have HR2 := hid (HR2.out.below HK5.out)
  have HX3 := hid (HX3.out.step HK5.out)
  unfold findV
  dsimp only
  go_wp2_with fail
  have HM := hid (bad_mem w5)
  generalize (((w5.alloc (.cells #[.string (bst [98]), .string (bst []), .bool true] 43)).alloc (.cells #[.string ⟨#[98]⟩, .string ⟨#[]⟩, .bool false, .string ⟨#[97]⟩, .string ⟨#[]⟩, .bool false] 43)).alloc (.cells #[.int .u64 0, .int .u64 0, .int .u64 0, .slice (some ⟨w5.heap.size + 1, 0, none⟩) 2 2] 25)) = v7 at *
  have HX3 := hid (HX3.out.step HM.out.below)
  have HR2 := hid (HR2.out.below HM.out.below)
  have HB7 := hid (below_step HB5.out HM.out.below)
  have HK7 := hid (below_step HK5.out HM.out.below)
  have HXB := hid HM.out.at_
  have hl7 : w3.heap.size < v7.heap.size := Nat.lt_of_lt_of_le HL3.out HK7.out.size
  have hs7 := HM.out.size
  have cv : ∀ W, Beyond v7 W → (convert 32 9 (.slice A2 m2 c2)).run Try.prog W = .ok (.string ⟨#[1, 2, 3, 2, 1, 97, 0, 1, 120, 1, 98, 1]⟩) W := fun W hW => str_of (HR2.out.at_.below hW) HR2.out.1
  have lift : ∀ (p : Addr) (x : Value), p.block < v7.heap.size → v7.cell? p = some x → ∀ W, Beyond v7 W → W.cell? p = some x := fun p x hp hx W hW => (Below.cell hW hp).trans hx
  have LF := hid lift
  clear lift
  have q0 := LF.out ⟨w3.heap.size, 0, none⟩ _ hl7 ((HK7.out.cell (p := ⟨w3.heap.size, 0, none⟩) HL3.out).trans HC3.out.1)
  have q1 := LF.out ⟨w3.heap.size, 1, none⟩ _ hl7 ((HK7.out.cell (p := ⟨w3.heap.size, 1, none⟩) HL3.out).trans HC3.out.2.1)
  have q2 := LF.out ⟨w3.heap.size, 2, none⟩ _ hl7 ((HK7.out.cell (p := ⟨w3.heap.size, 2, none⟩) HL3.out).trans HC3.out.2.2.1)
  have q3 := LF.out ⟨w3.heap.size, 3, none⟩ _ hl7 ((HK7.out.cell (p := ⟨w3.heap.size, 3, none⟩) HL3.out).trans HC3.out.2.2.2)
  have g2 := LF.out ⟨w5.heap.size, 2, none⟩ _ (by show w5.heap.size < _; omega) HM.out.gone
  have r0 := LF.out ⟨w5.heap.size + 1 + 1, 0, none⟩ _ hs7 HM.out.b0
  have r1 := LF.out ⟨w5.heap.size + 1 + 1, 1, none⟩ _ hs7 HM.out.b1
  have r2 := LF.out ⟨w5.heap.size + 1 + 1, 2, none⟩ _ hs7 HM.out.b2
  have r3 := LF.out ⟨w5.heap.size + 1 + 1, 3, none⟩ _ hs7 HM.out.b3
  clear hs7 hl7
  refine wp_region_held_drew (S := Beyond v7) (by kernel_rfl) (Beyond.drew _) (fun hS => ?_)
  refine take_step (i := 0) (by simp only [List.getElem?_toArray, List.getElem?_cons_zero]; rfl) (by kernel_rfl) (by kernel_rfl) (by kernel_rfl) (by intro _ _ _ h; exact h) (by rfl) (fun W hW => by go_simp; first | done | with_reducible rfl) hS ?_
  try simp only [Act.put, List.setIfInBounds_toArray, List.set_cons_zero, List.set_cons_succ]
  refine take_step (i := 1) (by simp only [List.getElem?_toArray, List.getElem?_cons_succ, List.getElem?_cons_zero]; rfl) (by kernel_rfl) (by kernel_rfl) (by kernel_rfl) (by intro _ _ _ h; exact h) (by rfl) (fun W hW => by go_simp; first | done | with_reducible rfl) hS ?_
  try simp only [Act.put, List.setIfInBounds_toArray, List.set_cons_zero, List.set_cons_succ]
  refine take_step (i := 2) (by simp only [List.getElem?_toArray, List.getElem?_cons_succ, List.getElem?_cons_zero]; rfl) (by kernel_rfl) (by kernel_rfl) (by kernel_rfl) (by intro _ _ _ h; exact h) (by rfl) (fun W hW => by go_simp; first | done | with_reducible rfl) hS ?_
  try simp only [Act.put, List.setIfInBounds_toArray, List.set_cons_zero, List.set_cons_succ]
  refine take_step (i := 3) (by simp only [List.getElem?_toArray, List.getElem?_cons_succ, List.getElem?_cons_zero]; rfl) (by kernel_rfl) (by kernel_rfl) (by kernel_rfl) (by intro _ _ _ h; exact h) (by rfl) (fun W hW => by go_simp; first | done | with_reducible rfl) hS ?_
  try simp only [Act.put, List.setIfInBounds_toArray, List.set_cons_zero, List.set_cons_succ]
  first | (refine take_step (i := 4) (by simp only [List.getElem?_toArray, List.getElem?_cons_succ, List.getElem?_cons_zero]; rfl) (by kernel_rfl) (by kernel_rfl) (by kernel_rfl) (by intro _ _ _ h; exact h) (by rfl) (fun W hW => by go_simp; first | done | with_reducible rfl) hS ?_) | (refine skip_step (i := 4) (by simp only [List.getElem?_toArray, List.getElem?_cons_succ, List.getElem?_cons_zero]; rfl) (by kernel_rfl) (by kernel_rfl) (by kernel_rfl) (by intro _ _ _ h; exact h) (by rfl) hS ?_)
  try simp only [Act.put, List.setIfInBounds_toArray, List.set_cons_zero, List.set_cons_succ]
  first | (refine take_step (i := 5) (by simp only [List.getElem?_toArray, List.getElem?_cons_succ, List.getElem?_cons_zero]; rfl) (by kernel_rfl) (by kernel_rfl) (by kernel_rfl) (by intro _ _ _ h; exact h) (by rfl) (fun W hW => by go_simp; first | done | with_reducible rfl) hS ?_) | (refine skip_step (i := 5) (by simp only [List.getElem?_toArray, List.getElem?_cons_succ, List.getElem?_cons_zero]; rfl) (by kernel_rfl) (by kernel_rfl) (by kernel_rfl) (by intro _ _ _ h; exact h) (by rfl) hS ?_)
  try simp only [Act.put, List.setIfInBounds_toArray, List.set_cons_zero, List.set_cons_succ]
  refine take_step (i := 6) (by simp only [List.getElem?_toArray, List.getElem?_cons_succ, List.getElem?_cons_zero]; rfl) (by kernel_rfl) (by kernel_rfl) (by kernel_rfl) (by intro _ _ _ h; exact h) (by rfl) (fun W hW => by go_simp; first | done | with_reducible rfl) hS ?_
  try simp only [Act.put, List.setIfInBounds_toArray, List.set_cons_zero, List.set_cons_succ]
  refine take_step (i := 7) (by simp only [List.getElem?_toArray, List.getElem?_cons_succ, List.getElem?_cons_zero]; rfl) (by kernel_rfl) (by kernel_rfl) (by kernel_rfl) (by intro _ _ _ h; exact h) (by rfl) (fun W hW => by go_simp; first | done | with_reducible rfl) hS ?_
  try simp only [Act.put, List.setIfInBounds_toArray, List.set_cons_zero, List.set_cons_succ]
  first | (refine take_step (i := 8) (by simp only [List.getElem?_toArray, List.getElem?_cons_succ, List.getElem?_cons_zero]; rfl) (by kernel_rfl) (by kernel_rfl) (by kernel_rfl) (by intro _ _ _ h; exact h) (by rfl) (fun W hW => by go_simp; first | done | with_reducible rfl) hS ?_) | (refine skip_step (i := 8) (by simp only [List.getElem?_toArray, List.getElem?_cons_succ, List.getElem?_cons_zero]; rfl) (by kernel_rfl) (by kernel_rfl) (by kernel_rfl) (by intro _ _ _ h; exact h) (by rfl) hS ?_)
  try simp only [Act.put, List.setIfInBounds_toArray, List.set_cons_zero, List.set_cons_succ]
  refine wpAnyH_ready (rs := [9]) (by kernel_rfl) (by simp) ?_
  refine AllReadyH.cons (by simp only [List.getElem?_toArray, List.getElem?_cons_succ, List.getElem?_cons_zero]; rfl) (fun K hK => ?_) AllReadyH.nil
  go_simp
  go_fit (example_any _)
  rintro e v9 ⟨A9, n9, c9, rfl, hr9, hb9⟩
  have hS9 := Beyond.step hS hb9
  have HX9 := hid (BAt.row hr9 ex_few)
  have HY3 := hid (HX3.out.step hS9)
  clear hr9 hb9
  refine hK.out _ _ (by assumption) (fun _ => ?_)
  clear hK K hS
  have hS := hS9
  try simp only [Act.put, List.setIfInBounds_toArray, List.set_cons_zero, List.set_cons_succ]
  refine wpAnyH_ready (rs := [10]) (by kernel_rfl) (by simp) ?_
  refine AllReadyH.cons (by simp only [List.getElem?_toArray, List.getElem?_cons_succ, List.getElem?_cons_zero]; rfl) (fun K hK => ?_) AllReadyH.nil
  go_simp
  go_fit (rSame_yes HY3.out HX9.out)
  rintro e v10 ⟨rfl, hb10⟩
  have hS10 := Beyond.step hS hb10
  clear hb10
  refine hK.out _ _ (by assumption) (fun _ => ?_)
  clear hK K hS
  have hS := hS10
  try simp only [Act.put, List.setIfInBounds_toArray, List.set_cons_zero, List.set_cons_succ]
  refine take_step (i := 11) (by simp only [List.getElem?_toArray, List.getElem?_cons_succ, List.getElem?_cons_zero]; rfl) (by kernel_rfl) (by kernel_rfl) (by kernel_rfl) (by intro _ _ _ h; exact h) (by rfl) (fun W hW => by go_simp; first | done | with_reducible rfl) hS ?_
  try simp only [Act.put, List.setIfInBounds_toArray, List.set_cons_zero, List.set_cons_succ]
  refine take_step (i := 12) (by simp only [List.getElem?_toArray, List.getElem?_cons_succ, List.getElem?_cons_zero]; rfl) (by kernel_rfl) (by kernel_rfl) (by kernel_rfl) (by intro _ _ _ h; exact h) (by rfl) (fun W hW => by go_simp; first | done | with_reducible rfl) hS ?_
  try simp only [Act.put, List.setIfInBounds_toArray, List.set_cons_zero, List.set_cons_succ]
  first | (refine take_step (i := 13) (by simp only [List.getElem?_toArray, List.getElem?_cons_succ, List.getElem?_cons_zero]; rfl) (by kernel_rfl) (by kernel_rfl) (by kernel_rfl) (by intro _ _ _ h; exact h) (by rfl) (fun W hW => by go_simp; first | done | with_reducible rfl) hS ?_) | (refine skip_step (i := 13) (by simp only [List.getElem?_toArray, List.getElem?_cons_succ, List.getElem?_cons_zero]; rfl) (by kernel_rfl) (by kernel_rfl) (by kernel_rfl) (by intro _ _ _ h; exact h) (by rfl) hS ?_)
  try simp only [Act.put, List.setIfInBounds_toArray, List.set_cons_zero, List.set_cons_succ]
  first | (refine take_step (i := 14) (by simp only [List.getElem?_toArray, List.getElem?_cons_succ, List.getElem?_cons_zero]; rfl) (by kernel_rfl) (by kernel_rfl) (by kernel_rfl) (by intro _ _ _ h; exact h) (by rfl) (fun W hW => by go_simp; first | done | with_reducible rfl) hS ?_) | (refine skip_step (i := 14) (by simp only [List.getElem?_toArray, List.getElem?_cons_succ, List.getElem?_cons_zero]; rfl) (by kernel_rfl) (by kernel_rfl) (by kernel_rfl) (by intro _ _ _ h; exact h) (by rfl) hS ?_)
  try simp only [Act.put, List.setIfInBounds_toArray, List.set_cons_zero, List.set_cons_succ]
  refine take_step (i := 15) (by simp only [List.getElem?_toArray, List.getElem?_cons_succ, List.getElem?_cons_zero]; rfl) (by kernel_rfl) (by kernel_rfl) (by kernel_rfl) (by intro _ _ _ h; exact h) (by rfl) (fun W hW => by go_simp; first | done | with_reducible rfl) hS ?_
  try simp only [Act.put, List.setIfInBounds_toArray, List.set_cons_zero, List.set_cons_succ]
  refine take_step (i := 16) (by simp only [List.getElem?_toArray, List.getElem?_cons_succ, List.getElem?_cons_zero]; rfl) (by kernel_rfl) (by kernel_rfl) (by kernel_rfl) (by intro _ _ _ h; exact h) (by rfl) (fun W hW => by go_simp; first | done | with_reducible rfl) hS ?_
  try simp only [Act.put, List.setIfInBounds_toArray, List.set_cons_zero, List.set_cons_succ]
  first | (refine take_step (i := 17) (by simp only [List.getElem?_toArray, List.getElem?_cons_succ, List.getElem?_cons_zero]; rfl) (by kernel_rfl) (by kernel_rfl) (by kernel_rfl) (by intro _ _ _ h; exact h) (by rfl) (fun W hW => by go_simp; first | done | with_reducible rfl) hS ?_) | (refine skip_step (i := 17) (by simp only [List.getElem?_toArray, List.getElem?_cons_succ, List.getElem?_cons_zero]; rfl) (by kernel_rfl) (by kernel_rfl) (by kernel_rfl) (by intro _ _ _ h; exact h) (by rfl) hS ?_)
  try simp only [Act.put, List.setIfInBounds_toArray, List.set_cons_zero, List.set_cons_succ]
  first | (refine take_step (i := 18) (by simp only [List.getElem?_toArray, List.getElem?_cons_succ, List.getElem?_cons_zero]; rfl) (by kernel_rfl) (by kernel_rfl) (by kernel_rfl) (by intro _ _ _ h; exact h) (by rfl) (fun W hW => by go_simp; first | done | with_reducible rfl) hS ?_) | (refine skip_step (i := 18) (by simp only [List.getElem?_toArray, List.getElem?_cons_succ, List.getElem?_cons_zero]; rfl) (by kernel_rfl) (by kernel_rfl) (by kernel_rfl) (by intro _ _ _ h; exact h) (by rfl) hS ?_)
  try simp only [Act.put, List.setIfInBounds_toArray, List.set_cons_zero, List.set_cons_succ]
  refine take_step (i := 19) (by simp only [List.getElem?_toArray, List.getElem?_cons_succ, List.getElem?_cons_zero]; rfl) (by kernel_rfl) (by kernel_rfl) (by kernel_rfl) (by intro _ _ _ h; exact h) (by rfl) (fun W hW => by go_simp; first | done | with_reducible rfl) hS ?_
  try simp only [Act.put, List.setIfInBounds_toArray, List.set_cons_zero, List.set_cons_succ]
  refine take_step (i := 20) (by simp only [List.getElem?_toArray, List.getElem?_cons_succ, List.getElem?_cons_zero]; rfl) (by kernel_rfl) (by kernel_rfl) (by kernel_rfl) (by intro _ _ _ h; exact h) (by rfl) (fun W hW => by go_simp; first | done | with_reducible rfl) hS ?_
  try simp only [Act.put, List.setIfInBounds_toArray, List.set_cons_zero, List.set_cons_succ]
  first | (refine take_step (i := 21) (by simp only [List.getElem?_toArray, List.getElem?_cons_succ, List.getElem?_cons_zero]; rfl) (by kernel_rfl) (by kernel_rfl) (by kernel_rfl) (by intro _ _ _ h; exact h) (by rfl) (fun W hW => by go_simp; first | done | with_reducible rfl) hS ?_) | (refine skip_step (i := 21) (by simp only [List.getElem?_toArray, List.getElem?_cons_succ, List.getElem?_cons_zero]; rfl) (by kernel_rfl) (by kernel_rfl) (by kernel_rfl) (by intro _ _ _ h; exact h) (by rfl) hS ?_)
  try simp only [Act.put, List.setIfInBounds_toArray, List.set_cons_zero, List.set_cons_succ]
  refine take_step (i := 22) (by simp only [List.getElem?_toArray, List.getElem?_cons_succ, List.getElem?_cons_zero]; rfl) (by kernel_rfl) (by kernel_rfl) (by kernel_rfl) (by intro _ _ _ h; exact h) (by rfl) (fun W hW => by go_simp; first | done | with_reducible rfl) hS ?_
  try simp only [Act.put, List.setIfInBounds_toArray, List.set_cons_zero, List.set_cons_succ]
  refine take_step (i := 23) (by simp only [List.getElem?_toArray, List.getElem?_cons_succ, List.getElem?_cons_zero]; rfl) (by kernel_rfl) (by kernel_rfl) (by kernel_rfl) (by intro _ _ _ h; exact h) (by rfl) (fun W hW => by go_simp; first | done | with_reducible rfl) hS ?_
  try simp only [Act.put, List.setIfInBounds_toArray, List.set_cons_zero, List.set_cons_succ]
  first | (refine take_step (i := 24) (by simp only [List.getElem?_toArray, List.getElem?_cons_succ, List.getElem?_cons_zero]; rfl) (by kernel_rfl) (by kernel_rfl) (by kernel_rfl) (by intro _ _ _ h; exact h) (by rfl) (fun W hW => by go_simp; first | done | with_reducible rfl) hS ?_) | (refine skip_step (i := 24) (by simp only [List.getElem?_toArray, List.getElem?_cons_succ, List.getElem?_cons_zero]; rfl) (by kernel_rfl) (by kernel_rfl) (by kernel_rfl) (by intro _ _ _ h; exact h) (by rfl) hS ?_)
  try simp only [Act.put, List.setIfInBounds_toArray, List.set_cons_zero, List.set_cons_succ]
  refine wpAnyH_ready (rs := [25]) (by kernel_rfl) (by simp) ?_
  refine AllReadyH.cons (by simp only [List.getElem?_toArray, List.getElem?_cons_succ, List.getElem?_cons_zero]; rfl) (fun K hK => ?_) AllReadyH.nil
  go_simp
  go_fit (HF.out.check (HXB.out.step hS))
  rintro e v25 ⟨rfl, hb25⟩
  have hS25 := Beyond.step hS hb25
  clear hb25
  rw [bad_chk]
  refine hK.out _ _ (by assumption) (fun _ => ?_)
  clear hK K hS
  have hS := hS25
  try simp only [Act.put, List.setIfInBounds_toArray, List.set_cons_zero, List.set_cons_succ]
  first | (refine take_step (i := 26) (by simp only [List.getElem?_toArray, List.getElem?_cons_succ, List.getElem?_cons_zero]; rfl) (by kernel_rfl) (by kernel_rfl) (by kernel_rfl) (by intro _ _ _ h; exact h) (by rfl) (fun W hW => by go_simp; first | done | with_reducible rfl) hS ?_) | (refine skip_step (i := 26) (by simp only [List.getElem?_toArray, List.getElem?_cons_succ, List.getElem?_cons_zero]; rfl) (by kernel_rfl) (by kernel_rfl) (by kernel_rfl) (by intro _ _ _ h; exact h) (by rfl) hS ?_)
  try simp only [Act.put, List.setIfInBounds_toArray, List.set_cons_zero, List.set_cons_succ]
  refine take_step (i := 27) (by simp only [List.getElem?_toArray, List.getElem?_cons_succ, List.getElem?_cons_zero]; rfl) (by kernel_rfl) (by kernel_rfl) (by kernel_rfl) (by intro _ _ _ h; exact h) (by rfl) (fun W hW => by go_simp; first | done | with_reducible rfl) hS ?_
  try simp only [Act.put, List.setIfInBounds_toArray, List.set_cons_zero, List.set_cons_succ]
  refine take_step (i := 28) (by simp only [List.getElem?_toArray, List.getElem?_cons_succ, List.getElem?_cons_zero]; rfl) (by kernel_rfl) (by kernel_rfl) (by kernel_rfl) (by intro _ _ _ h; exact h) (by rfl) (fun W hW => by go_simp; first | done | with_reducible rfl) hS ?_
  try simp only [Act.put, List.setIfInBounds_toArray, List.set_cons_zero, List.set_cons_succ]
  first | (refine take_step (i := 29) (by simp only [List.getElem?_toArray, List.getElem?_cons_succ, List.getElem?_cons_zero]; rfl) (by kernel_rfl) (by kernel_rfl) (by kernel_rfl) (by intro _ _ _ h; exact h) (by rfl) (fun W hW => by go_simp; first | done | with_reducible rfl) hS ?_) | (refine skip_step (i := 29) (by simp only [List.getElem?_toArray, List.getElem?_cons_succ, List.getElem?_cons_zero]; rfl) (by kernel_rfl) (by kernel_rfl) (by kernel_rfl) (by intro _ _ _ h; exact h) (by rfl) hS ?_)
  try simp only [Act.put, List.setIfInBounds_toArray, List.set_cons_zero, List.set_cons_succ]
  refine wpAnyH_ready (rs := [30]) (by kernel_rfl) (by simp) ?_
  refine AllReadyH.cons (by simp only [List.getElem?_toArray, List.getElem?_cons_succ, List.getElem?_cons_zero]; rfl) (fun K hK => ?_) AllReadyH.nil
  go_simp
  go_fit (HF.out.sorted (HXB.out.step hS))
  rintro e v30 ⟨A30, n30, c30, rfl, hr30, hb30⟩
  have hS30 := Beyond.step hS hb30
  have HX30 := hid (BAt.row hr30 (few_sort bad_few))
  clear hr30 hb30
  refine hK.out _ _ (by assumption) (fun _ => ?_)
  clear hK K hS
  have hS := hS30
  try simp only [Act.put, List.setIfInBounds_toArray, List.set_cons_zero, List.set_cons_succ]
  refine wpAnyH_ready (rs := [31]) (by kernel_rfl) (by simp) ?_
  refine AllReadyH.cons (by simp only [List.getElem?_toArray, List.getElem?_cons_succ, List.getElem?_cons_zero]; rfl) (fun K hK => ?_) AllReadyH.nil
  go_simp
  go_fit (HF.out.check HX30.out)
  rintro e v31 ⟨rfl, hb31⟩
  have hS31 := Beyond.step hS hb31
  clear hb31
  rw [bad_sort]
  refine hK.out _ _ (by assumption) (fun _ => ?_)
  clear hK K hS
  have hS := hS31
  try simp only [Act.put, List.setIfInBounds_toArray, List.set_cons_zero, List.set_cons_succ]
  first | (refine take_step (i := 32) (by simp only [List.getElem?_toArray, List.getElem?_cons_succ, List.getElem?_cons_zero]; rfl) (by kernel_rfl) (by kernel_rfl) (by kernel_rfl) (by intro _ _ _ h; exact h) (by rfl) (fun W hW => by go_simp; first | done | with_reducible rfl) hS ?_) | (refine skip_step (i := 32) (by simp only [List.getElem?_toArray, List.getElem?_cons_succ, List.getElem?_cons_zero]; rfl) (by kernel_rfl) (by kernel_rfl) (by kernel_rfl) (by intro _ _ _ h; exact h) (by rfl) hS ?_)
  try simp only [Act.put, List.setIfInBounds_toArray, List.set_cons_zero, List.set_cons_succ]
  refine take_step (i := 33) (by simp only [List.getElem?_toArray, List.getElem?_cons_succ, List.getElem?_cons_zero]; rfl) (by kernel_rfl) (by kernel_rfl) (by kernel_rfl) (by intro _ _ _ h; exact h) (by rfl) (fun W hW => by go_simp; first | done | with_reducible rfl) hS ?_
  try simp only [Act.put, List.setIfInBounds_toArray, List.set_cons_zero, List.set_cons_succ]
  refine take_step (i := 34) (by simp only [List.getElem?_toArray, List.getElem?_cons_succ, List.getElem?_cons_zero]; rfl) (by kernel_rfl) (by kernel_rfl) (by kernel_rfl) (by intro _ _ _ h; exact h) (by rfl) (fun W hW => by go_simp; first | done | with_reducible rfl) hS ?_
  try simp only [Act.put, List.setIfInBounds_toArray, List.set_cons_zero, List.set_cons_succ]
  first | (refine take_step (i := 35) (by simp only [List.getElem?_toArray, List.getElem?_cons_succ, List.getElem?_cons_zero]; rfl) (by kernel_rfl) (by kernel_rfl) (by kernel_rfl) (by intro _ _ _ h; exact h) (by rfl) (fun W hW => by go_simp; first | done | with_reducible rfl) hS ?_) | (refine skip_step (i := 35) (by simp only [List.getElem?_toArray, List.getElem?_cons_succ, List.getElem?_cons_zero]; rfl) (by kernel_rfl) (by kernel_rfl) (by kernel_rfl) (by intro _ _ _ h; exact h) (by rfl) hS ?_)
  try simp only [Act.put, List.setIfInBounds_toArray, List.set_cons_zero, List.set_cons_succ]
  refine wpAnyH_ready (rs := [36]) (by kernel_rfl) (by simp) ?_
  refine AllReadyH.cons (by simp only [List.getElem?_toArray, List.getElem?_cons_succ, List.getElem?_cons_zero]; rfl) (fun K hK => ?_) AllReadyH.nil
  go_simp
  go_fit (example_any _)
  rintro e v36 ⟨A36, n36, c36, rfl, hr36, hb36⟩
  have hS36 := Beyond.step hS hb36
  have HX36 := hid (BAt.row hr36 ex_few)
  have HYB := hid (HXB.out.step hS36)
  clear hr36 hb36
  refine hK.out _ _ (by assumption) (fun _ => ?_)
  clear hK K hS
  have hS := hS36
  try simp only [Act.put, List.setIfInBounds_toArray, List.set_cons_zero, List.set_cons_succ]
  refine wpAnyH_ready (rs := [37]) (by kernel_rfl) (by simp) ?_
  refine AllReadyH.cons (by simp only [List.getElem?_toArray, List.getElem?_cons_succ, List.getElem?_cons_zero]; rfl) (fun K hK => ?_) AllReadyH.nil
  go_simp
  go_fit (HF.out.meets HYB.out HX36.out)
  rintro e v37 ⟨rfl, hb37⟩
  have hS37 := Beyond.step hS hb37
  clear hb37
  rw [bad_meets]
  refine hK.out _ _ (by assumption) (fun _ => ?_)
  clear hK K hS
  have hS := hS37
  try simp only [Act.put, List.setIfInBounds_toArray, List.set_cons_zero, List.set_cons_succ]
  refine take_step (i := 38) (by simp only [List.getElem?_toArray, List.getElem?_cons_succ, List.getElem?_cons_zero]; rfl) (by kernel_rfl) (by kernel_rfl) (by kernel_rfl) (by intro _ _ _ h; exact h) (by rfl) (fun W hW => by go_simp; first | done | with_reducible rfl) hS ?_
  try simp only [Act.put, List.setIfInBounds_toArray, List.set_cons_zero, List.set_cons_succ]
  refine take_step (i := 39) (by simp only [List.getElem?_toArray, List.getElem?_cons_succ, List.getElem?_cons_zero]; rfl) (by kernel_rfl) (by kernel_rfl) (by kernel_rfl) (by intro _ _ _ h; exact h) (by rfl) (fun W hW => by go_simp; first | done | with_reducible rfl) hS ?_
  try simp only [Act.put, List.setIfInBounds_toArray, List.set_cons_zero, List.set_cons_succ]
  first | (refine take_step (i := 40) (by simp only [List.getElem?_toArray, List.getElem?_cons_succ, List.getElem?_cons_zero]; rfl) (by kernel_rfl) (by kernel_rfl) (by kernel_rfl) (by intro _ _ _ h; exact h) (by rfl) (fun W hW => by go_simp; first | done | with_reducible rfl) hS ?_) | (refine skip_step (i := 40) (by simp only [List.getElem?_toArray, List.getElem?_cons_succ, List.getElem?_cons_zero]; rfl) (by kernel_rfl) (by kernel_rfl) (by kernel_rfl) (by intro _ _ _ h; exact h) (by rfl) hS ?_)
  try simp only [Act.put, List.setIfInBounds_toArray, List.set_cons_zero, List.set_cons_succ]
  first | (refine take_step (i := 41) (by simp only [List.getElem?_toArray, List.getElem?_cons_succ, List.getElem?_cons_zero]; rfl) (by kernel_rfl) (by kernel_rfl) (by kernel_rfl) (by intro _ _ _ h; exact h) (by rfl) (fun W hW => by go_simp; first | done | with_reducible rfl) hS ?_) | (refine skip_step (i := 41) (by simp only [List.getElem?_toArray, List.getElem?_cons_succ, List.getElem?_cons_zero]; rfl) (by kernel_rfl) (by kernel_rfl) (by kernel_rfl) (by intro _ _ _ h; exact h) (by rfl) hS ?_)
  try simp only [Act.put, List.setIfInBounds_toArray, List.set_cons_zero, List.set_cons_succ]
  refine wpAnyH_ready (rs := [42]) (by kernel_rfl) (by simp) ?_
  refine AllReadyH.cons (by simp only [List.getElem?_toArray, List.getElem?_cons_succ, List.getElem?_cons_zero]; rfl) (fun K hK => ?_) AllReadyH.nil
  go_simp
  go_fit (HF.out.same_yes (HXB.out.step hS) (HXB.out.step hS))
  rintro e v42 ⟨rfl, hb42⟩
  have hS42 := Beyond.step hS hb42
  clear hb42
  refine hK.out _ _ (by assumption) (fun _ => ?_)
  clear hK K hS
  have hS := hS42
  try simp only [Act.put, List.setIfInBounds_toArray, List.set_cons_zero, List.set_cons_succ]
  refine take_step (i := 43) (by simp only [List.getElem?_toArray, List.getElem?_cons_succ, List.getElem?_cons_zero]; rfl) (by kernel_rfl) (by kernel_rfl) (by kernel_rfl) (by intro _ _ _ h; exact h) (by rfl) (fun W hW => by go_simp; first | done | with_reducible rfl) hS ?_
  try simp only [Act.put, List.setIfInBounds_toArray, List.set_cons_zero, List.set_cons_succ]
  refine take_step (i := 44) (by simp only [List.getElem?_toArray, List.getElem?_cons_succ, List.getElem?_cons_zero]; rfl) (by kernel_rfl) (by kernel_rfl) (by kernel_rfl) (by intro _ _ _ h; exact h) (by rfl) (fun W hW => by go_simp; first | done | with_reducible rfl) hS ?_
  try simp only [Act.put, List.setIfInBounds_toArray, List.set_cons_zero]
  refine wpAnyH_done (by kernel_rfl) ?_ _
  go_wp2_with fail
  go_ret
  exact ⟨rfl, below_step HB7.out hS42⟩

end Go.Proofs.Ytcdjbacljnofiaa
