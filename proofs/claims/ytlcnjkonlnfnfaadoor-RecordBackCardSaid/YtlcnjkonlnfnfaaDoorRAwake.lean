/-
  What the chapter's examples fix: the call that each statement makes first. Over what is to be shown of the landed code.
-/
import Derived.Test.YtlcnjkonlnfnfaaDoorRFace
import Derived.Test.YtlcnjkonlnfnfaaDoorJBytes
namespace Go.Proofs.YtlcnjkonlnfnfaaDoor
open Go Go.RowKit

theorem ex_len (q : Nat) (hq : q = 1 ∨ q = 2) : (renc q [97]).length = 11 := by
  rw [renc_length]
  rcases hq with rfl | rfl <;> decide
theorem ex_renc : renc 1 [97] = [0, 0, 0, 7] ++ ([1, 1, 97] ++ sum4 [1, 1, 97]) := by
  have h : rfld 1 [97] = [1, 1, 97] := by decide
  have hl : (rsealed 1 [97]).length = 7 := by rw [rsealed_length]; decide
  unfold renc
  rw [hl]
  unfold rsealed
  rw [h]
  have : be 7 4 = [0, 0, 0, 7] := by decide
  rw [this]
theorem ex_scan : rscan (renc 1 [97] ++ (renc 2 [97]).take 10) 1 = ([(1, [97])], 11) := by
  have h := rget_renc (q := 1) (b := [97]) (by decide) (by decide) ((renc 2 [97]).take 10)
  rw [ex_len 1 (.inl rfl)] at h
  rw [scan_go h]
  have h2 : (renc 1 [97] ++ (renc 2 [97]).take 10).drop 11 = (renc 2 [97]).take 10 := by
    have : (renc 1 [97] ++ (renc 2 [97]).take 10).drop (renc 1 [97]).length = (renc 2 [97]).take 10 := List.drop_left
    rwa [ex_len 1 (.inl rfl)] at this
  rw [h2]
  have h3 : rget ((renc 2 [97]).take 10) = none := rget_short (q := 2) (b := [97]) (t := (renc 2 [97]).drop 10) (List.take_append_drop 10 _) (by decide) (by rw [List.length_drop, ex_len 2 (.inr rfl)]; decide)
  rw [scan_stop (fun p b k h => by rw [h3] at h; cases h)]
  rfl

def RAwakeIs : Prop := ∀ w : World, Table w → Calls Tryd.prog 8 #[] w fun e w' => e = .returned (.bool true) ∧ Below w.heap.size w w'

set_option maxHeartbeats 8000000 in
set_option maxRecDepth 100000 in
theorem rawake_yes (hF : RFace) : RAwakeIs := by
  intro w hT
  have HF := hid hF
  have HT := hid hT
  have HP1 := hid (hF.putYes (q := 1) (b := [97]) (w := w) (by decide) (by decide) hT)
  have HSL := hid (fun (W : World) => refSeal_any [1, 1, 97] W (by decide))
  clear hF hT
  go_enter Tryd.func8, Tryd.ntmps8
  go_wp2_with fail
  go_fit HP1.out
  rintro e w1 ⟨Aa, ma, ca, rfl, hra, hb1⟩
  have HB1 := hid hb1
  have HRA1 := hid hra
  have HP2 := hid (HF.out.putYes (q := 2) (b := [97]) (w := w1) (by decide) (by decide) (HT.out.step hb1))
  clear hra hb1
  go_wp2_with fail
  go_fit HP2.out
  rintro e w2 ⟨Ab, mb, cb, rfl, hrb, hb2⟩
  have HB2 := hid (below_step HB1.out hb2)
  have HRA := hid (HRA1.out.below hb2)
  have HRB := hid hrb
  have hma : ma = 11 := HRA1.out.1.trans (ex_len 1 (.inl rfl))
  have hmb : mb = 11 := hrb.1.trans (ex_len 2 (.inr rfl))
  subst hma hmb
  have hcv : ∀ W, Beyond w2 W → (convert 26 9 (.slice Aa 11 ca)).run Tryd.prog W = .ok (.string (bst (renc 1 [97]))) W := fun W hW => str_of (HRA.out.at_.below hW) (ex_len 1 (.inl rfl)).symm
  obtain ⟨Z, hZ⟩ : ∃ Z, Z = [1, 1, 97] ++ sum4 [1, 1, 97] := ⟨_, rfl⟩
  have happ : (⟨#[0, 0, 0, 7]⟩ : ByteArray) ++ bst Z = bst (renc 1 [97]) := by rw [ex_renc, hZ]; exact bst_append _ _
  have zZ : (bst Z).size = 7 := by rw [hZ, bst_size, List.length_append, sum4_length]; rfl
  rw [← hZ] at HSL
  clear hZ
  have htl := bst_toList (renc 1 [97])
  clear hb2 hrb
  go_wp2_with fail
  refine wp_region_held_drew (S := Beyond w2) (by kernel_rfl) (Beyond.drew _) (fun hS => ?_)
  refine take_step (i := 0) (by simp only [List.getElem?_toArray, List.getElem?_cons_zero]; rfl) (by kernel_rfl) (by kernel_rfl) (by kernel_rfl) (by intro _ _ _ h; exact h) (by rfl) (fun W hW => by go_simp; first | done | with_reducible rfl) hS ?_
  try simp only [Act.put, List.setIfInBounds_toArray, List.set_cons_zero, List.set_cons_succ]
  refine take_step (i := 1) (by simp only [List.getElem?_toArray, List.getElem?_cons_succ, List.getElem?_cons_zero]; rfl) (by kernel_rfl) (by kernel_rfl) (by kernel_rfl) (by intro _ _ _ h; exact h) (by rfl) (fun W hW => by go_simp; first | done | with_reducible rfl) hS ?_
  try simp only [Act.put, List.setIfInBounds_toArray, List.set_cons_zero, List.set_cons_succ]
  refine take_step (i := 2) (by simp only [List.getElem?_toArray, List.getElem?_cons_succ, List.getElem?_cons_zero]; rfl) (by kernel_rfl) (by kernel_rfl) (by kernel_rfl) (by intro _ _ _ h; exact h) (by rfl) (fun W hW => by go_simp; first | done | with_reducible rfl) hS ?_
  try simp only [Act.put, List.setIfInBounds_toArray, List.set_cons_zero, List.set_cons_succ]
  first | (refine take_step (i := 3) (by simp only [List.getElem?_toArray, List.getElem?_cons_succ, List.getElem?_cons_zero]; rfl) (by kernel_rfl) (by kernel_rfl) (by kernel_rfl) (by intro _ _ _ h; exact h) (by rfl) (fun W hW => by go_simp; first | done | with_reducible rfl) hS ?_) | (refine skip_step (i := 3) (by simp only [List.getElem?_toArray, List.getElem?_cons_succ, List.getElem?_cons_zero]; rfl) (by kernel_rfl) (by kernel_rfl) (by kernel_rfl) (by intro _ _ _ h; exact h) (by rfl) hS ?_)
  try simp only [Act.put, List.setIfInBounds_toArray, List.set_cons_zero, List.set_cons_succ]
  first | (refine take_step (i := 4) (by simp only [List.getElem?_toArray, List.getElem?_cons_succ, List.getElem?_cons_zero]; rfl) (by kernel_rfl) (by kernel_rfl) (by kernel_rfl) (by intro _ _ _ h; exact h) (by rfl) (fun W hW => by go_simp; first | done | with_reducible rfl) hS ?_) | (refine skip_step (i := 4) (by simp only [List.getElem?_toArray, List.getElem?_cons_succ, List.getElem?_cons_zero]; rfl) (by kernel_rfl) (by kernel_rfl) (by kernel_rfl) (by intro _ _ _ h; exact h) (by rfl) hS ?_)
  try simp only [Act.put, List.setIfInBounds_toArray, List.set_cons_zero, List.set_cons_succ]
  refine take_step (i := 5) (by simp only [List.getElem?_toArray, List.getElem?_cons_succ, List.getElem?_cons_zero]; rfl) (by kernel_rfl) (by kernel_rfl) (by kernel_rfl) (by intro _ _ _ h; exact h) (by rfl) (fun W hW => by go_simp; first | done | with_reducible rfl) hS ?_
  try simp only [Act.put, List.setIfInBounds_toArray, List.set_cons_zero, List.set_cons_succ]
  refine take_step (i := 6) (by simp only [List.getElem?_toArray, List.getElem?_cons_succ, List.getElem?_cons_zero]; rfl) (by kernel_rfl) (by kernel_rfl) (by kernel_rfl) (by intro _ _ _ h; exact h) (by rfl) (fun W hW => by go_simp; first | done | with_reducible rfl) hS ?_
  try simp only [Act.put, List.setIfInBounds_toArray, List.set_cons_zero, List.set_cons_succ]
  first | (refine take_step (i := 7) (by simp only [List.getElem?_toArray, List.getElem?_cons_succ, List.getElem?_cons_zero]; rfl) (by kernel_rfl) (by kernel_rfl) (by kernel_rfl) (by intro _ _ _ h; exact h) (by rfl) (fun W hW => by go_simp; first | done | with_reducible rfl) hS ?_) | (refine skip_step (i := 7) (by simp only [List.getElem?_toArray, List.getElem?_cons_succ, List.getElem?_cons_zero]; rfl) (by kernel_rfl) (by kernel_rfl) (by kernel_rfl) (by intro _ _ _ h; exact h) (by rfl) hS ?_)
  try simp only [Act.put, List.setIfInBounds_toArray, List.set_cons_zero, List.set_cons_succ]
  first | (refine take_step (i := 8) (by simp only [List.getElem?_toArray, List.getElem?_cons_succ, List.getElem?_cons_zero]; rfl) (by kernel_rfl) (by kernel_rfl) (by kernel_rfl) (by intro _ _ _ h; exact h) (by rfl) (fun W hW => by go_simp; first | done | with_reducible rfl) hS ?_) | (refine skip_step (i := 8) (by simp only [List.getElem?_toArray, List.getElem?_cons_succ, List.getElem?_cons_zero]; rfl) (by kernel_rfl) (by kernel_rfl) (by kernel_rfl) (by intro _ _ _ h; exact h) (by rfl) hS ?_)
  try simp only [Act.put, List.setIfInBounds_toArray, List.set_cons_zero, List.set_cons_succ]
  first | (refine take_step (i := 9) (by simp only [List.getElem?_toArray, List.getElem?_cons_succ, List.getElem?_cons_zero]; rfl) (by kernel_rfl) (by kernel_rfl) (by kernel_rfl) (by intro _ _ _ h; exact h) (by rfl) (fun W hW => by go_simp; first | done | with_reducible rfl) hS ?_) | (refine skip_step (i := 9) (by simp only [List.getElem?_toArray, List.getElem?_cons_succ, List.getElem?_cons_zero]; rfl) (by kernel_rfl) (by kernel_rfl) (by kernel_rfl) (by intro _ _ _ h; exact h) (by rfl) hS ?_)
  try simp only [Act.put, List.setIfInBounds_toArray, List.set_cons_zero, List.set_cons_succ]
  refine take_step (i := 10) (by simp only [List.getElem?_toArray, List.getElem?_cons_succ, List.getElem?_cons_zero]; rfl) (by kernel_rfl) (by kernel_rfl) (by kernel_rfl) (by intro _ _ _ h; exact h) (by rfl) (fun W hW => by go_simp; first | done | with_reducible rfl) hS ?_
  try simp only [Act.put, List.setIfInBounds_toArray, List.set_cons_zero, List.set_cons_succ]
  refine take_step (i := 11) (by simp only [List.getElem?_toArray, List.getElem?_cons_succ, List.getElem?_cons_zero]; rfl) (by kernel_rfl) (by kernel_rfl) (by kernel_rfl) (by intro _ _ _ h; exact h) (by rfl) (fun W hW => by go_simp; first | done | with_reducible rfl) hS ?_
  try simp only [Act.put, List.setIfInBounds_toArray, List.set_cons_zero, List.set_cons_succ]
  first | (refine take_step (i := 12) (by simp only [List.getElem?_toArray, List.getElem?_cons_succ, List.getElem?_cons_zero]; rfl) (by kernel_rfl) (by kernel_rfl) (by kernel_rfl) (by intro _ _ _ h; exact h) (by rfl) (fun W hW => by go_simp; first | done | with_reducible rfl) hS ?_) | (refine skip_step (i := 12) (by simp only [List.getElem?_toArray, List.getElem?_cons_succ, List.getElem?_cons_zero]; rfl) (by kernel_rfl) (by kernel_rfl) (by kernel_rfl) (by intro _ _ _ h; exact h) (by rfl) hS ?_)
  try simp only [Act.put, List.setIfInBounds_toArray, List.set_cons_zero, List.set_cons_succ]
  first | (refine take_step (i := 13) (by simp only [List.getElem?_toArray, List.getElem?_cons_succ, List.getElem?_cons_zero]; rfl) (by kernel_rfl) (by kernel_rfl) (by kernel_rfl) (by intro _ _ _ h; exact h) (by rfl) (fun W hW => by go_simp; first | done | with_reducible rfl) hS ?_) | (refine skip_step (i := 13) (by simp only [List.getElem?_toArray, List.getElem?_cons_succ, List.getElem?_cons_zero]; rfl) (by kernel_rfl) (by kernel_rfl) (by kernel_rfl) (by intro _ _ _ h; exact h) (by rfl) hS ?_)
  try simp only [Act.put, List.setIfInBounds_toArray, List.set_cons_zero, List.set_cons_succ]
  first | (refine take_step (i := 14) (by simp only [List.getElem?_toArray, List.getElem?_cons_succ, List.getElem?_cons_zero]; rfl) (by kernel_rfl) (by kernel_rfl) (by kernel_rfl) (by intro _ _ _ h; exact h) (by rfl) (fun W hW => by go_simp; first | done | with_reducible rfl) hS ?_) | (refine skip_step (i := 14) (by simp only [List.getElem?_toArray, List.getElem?_cons_succ, List.getElem?_cons_zero]; rfl) (by kernel_rfl) (by kernel_rfl) (by kernel_rfl) (by intro _ _ _ h; exact h) (by rfl) hS ?_)
  try simp only [Act.put, List.setIfInBounds_toArray, List.set_cons_zero, List.set_cons_succ]
  refine take_step (i := 15) (by simp only [List.getElem?_toArray, List.getElem?_cons_succ, List.getElem?_cons_zero]; rfl) (by kernel_rfl) (by kernel_rfl) (by kernel_rfl) (by intro _ _ _ h; exact h) (by rfl) (fun W hW => by go_simp; first | done | with_reducible rfl) hS ?_
  try simp only [Act.put, List.setIfInBounds_toArray, List.set_cons_zero, List.set_cons_succ]
  refine take_step (i := 16) (by simp only [List.getElem?_toArray, List.getElem?_cons_succ, List.getElem?_cons_zero]; rfl) (by kernel_rfl) (by kernel_rfl) (by kernel_rfl) (by intro _ _ _ h; exact h) (by rfl) (fun W hW => by go_simp; first | done | with_reducible rfl) hS ?_
  try simp only [Act.put, List.setIfInBounds_toArray, List.set_cons_zero, List.set_cons_succ]
  first | (refine take_step (i := 17) (by simp only [List.getElem?_toArray, List.getElem?_cons_succ, List.getElem?_cons_zero]; rfl) (by kernel_rfl) (by kernel_rfl) (by kernel_rfl) (by intro _ _ _ h; exact h) (by rfl) (fun W hW => by go_simp; first | done | with_reducible rfl) hS ?_) | (refine skip_step (i := 17) (by simp only [List.getElem?_toArray, List.getElem?_cons_succ, List.getElem?_cons_zero]; rfl) (by kernel_rfl) (by kernel_rfl) (by kernel_rfl) (by intro _ _ _ h; exact h) (by rfl) hS ?_)
  try simp only [Act.put, List.setIfInBounds_toArray, List.set_cons_zero, List.set_cons_succ]
  first | (refine take_step (i := 18) (by simp only [List.getElem?_toArray, List.getElem?_cons_succ, List.getElem?_cons_zero]; rfl) (by kernel_rfl) (by kernel_rfl) (by kernel_rfl) (by intro _ _ _ h; exact h) (by rfl) (fun W hW => by go_simp; first | done | with_reducible rfl) hS ?_) | (refine skip_step (i := 18) (by simp only [List.getElem?_toArray, List.getElem?_cons_succ, List.getElem?_cons_zero]; rfl) (by kernel_rfl) (by kernel_rfl) (by kernel_rfl) (by intro _ _ _ h; exact h) (by rfl) hS ?_)
  try simp only [Act.put, List.setIfInBounds_toArray, List.set_cons_zero, List.set_cons_succ]
  refine wpAnyH_ready (rs := [19]) (by kernel_rfl) (by simp) ?_
  refine AllReadyH.cons (by simp only [List.getElem?_toArray, List.getElem?_cons_succ, List.getElem?_cons_zero]; rfl) (fun K hK => ?_) AllReadyH.nil
  go_simp
  go_fit (HSL.out _)
  rintro e w5 ⟨rfl, hb5⟩
  have hS19 := Beyond.step hS hb5
  clear hb5
  refine hK.out _ _ (by assumption) (fun _ => ?_)
  clear hK K hS
  have hS := hS19
  try simp only [Act.put, List.setIfInBounds_toArray, List.set_cons_zero, List.set_cons_succ]
  first | (refine take_step (i := 20) (by simp only [List.getElem?_toArray, List.getElem?_cons_succ, List.getElem?_cons_zero]; rfl) (by kernel_rfl) (by kernel_rfl) (by kernel_rfl) (by intro _ _ _ h; exact h) (by rfl) (fun W hW => by go_simp; first | done | with_reducible rfl) hS ?_) | (refine skip_step (i := 20) (by simp only [List.getElem?_toArray, List.getElem?_cons_succ, List.getElem?_cons_zero]; rfl) (by kernel_rfl) (by kernel_rfl) (by kernel_rfl) (by intro _ _ _ h; exact h) (by rfl) hS ?_)
  try simp only [Act.put, List.setIfInBounds_toArray, List.set_cons_zero, List.set_cons_succ]
  first | (refine take_step (i := 21) (by simp only [List.getElem?_toArray, List.getElem?_cons_succ, List.getElem?_cons_zero]; rfl) (by kernel_rfl) (by kernel_rfl) (by kernel_rfl) (by intro _ _ _ h; exact h) (by rfl) (fun W hW => by go_simp; first | done | with_reducible rfl) hS ?_) | (refine skip_step (i := 21) (by simp only [List.getElem?_toArray, List.getElem?_cons_succ, List.getElem?_cons_zero]; rfl) (by kernel_rfl) (by kernel_rfl) (by kernel_rfl) (by intro _ _ _ h; exact h) (by rfl) hS ?_)
  try simp only [Act.put, List.setIfInBounds_toArray, List.set_cons_zero, List.set_cons_succ]
  refine take_step (i := 22) (by simp only [List.getElem?_toArray, List.getElem?_cons_succ, List.getElem?_cons_zero]; rfl) (by kernel_rfl) (by kernel_rfl) (by kernel_rfl) (by intro _ _ _ h; exact h) (by rfl) (fun W hW => by go_simp; first | done | with_reducible rfl) hS ?_
  try simp only [Act.put, List.setIfInBounds_toArray, List.set_cons_zero, List.set_cons_succ]
  refine wpAnyH_done (by kernel_rfl) ?_ _
  have HB3 := hid (below_step HB2.out hS)
  have HR3 := hid (HRA.out.below hS)
  have HRB3 := hid (HRB.out.below hS)
  clear hS hcv
  go_wp2_with fail
  generalize w5 = w3 at *
  have HT3 := hid (HT.out.step HB3.out)
  have HRE := hid (show Row (w3.drew.alloc (.cells #[] 5)) w3.heap.size 5 (some ⟨w3.heap.size, 0, none⟩) 0 0 [] from ⟨rfl, own_empty w3.drew 5⟩)
  have HA1 := hid (show At (w3.drew.alloc (.cells #[] 5)) (w3.drew.alloc (.cells #[] 5)).heap.size Aa (renc 1 [97]) from (HR3.out.at_.below (((Below.refl _ _).drew).alloc (Nat.le_refl _) _)).more (by show w3.heap.size ≤ (w3.heap.push _).size; simp))
  have HN1 := hid (show ([] : List UInt8).length + (renc 1 [97]).length ≤ 140737488355328 by rw [ex_len 1 (.inl rfl)]; decide)
  have HSZ1 := hid (show w3.heap.size ≤ (w3.drew.alloc (.cells #[] 5)).heap.size from by show w3.heap.size ≤ (w3.heap.push _).size; simp)
  have hcb : (10 : Int) ≤ (cb : Int) := by have := row_cap HRB3.out; omega
  refine wp_region_held_drew (S := Beyond w3) (by kernel_rfl) (Beyond.drew _) (fun hS => ?_)
  refine take_step (i := 1) (by simp only [List.getElem?_toArray, List.getElem?_cons_succ, List.getElem?_cons_zero]; rfl) (by kernel_rfl) (by kernel_rfl) (by kernel_rfl) (by intro _ _ _ h; exact h) (by rfl) (fun W hW => by go_simp; first | done | with_reducible rfl) hS ?_
  try simp only [Act.put, List.setIfInBounds_toArray, List.set_cons_zero, List.set_cons_succ]
  refine take_step (i := 3) (by simp only [List.getElem?_toArray, List.getElem?_cons_succ, List.getElem?_cons_zero]; rfl) (by kernel_rfl) (by kernel_rfl) (by kernel_rfl) (by intro _ _ _ h; exact h) (by rfl) (fun W hW => by go_simp; first | done | with_reducible rfl) hS ?_
  try simp only [Act.put, List.setIfInBounds_toArray, List.set_cons_zero, List.set_cons_succ]
  refine take_step (i := 4) (by simp only [List.getElem?_toArray, List.getElem?_cons_succ, List.getElem?_cons_zero]; rfl) (by kernel_rfl) (by kernel_rfl) (by kernel_rfl) (by intro _ _ _ h; exact h) (by rfl) (fun W hW => by go_simp; first | done | with_reducible rfl) hS ?_
  try simp only [Act.put, List.setIfInBounds_toArray, List.set_cons_zero, List.set_cons_succ]
  refine wpAnyH_ready (rs := [0]) (by kernel_rfl) (by simp) ?_
  refine AllReadyH.cons (by simp only [List.getElem?_toArray, List.getElem?_cons_zero]; rfl) (fun K hK => ?_) AllReadyH.nil
  go_simp
  refine hK.out _ _ (Below.alloc hS (Below.size hS) _) (fun hS0 => ?_)
  clear hK K hS
  have hS := hS0
  try simp only [Act.put, List.setIfInBounds_toArray, List.set_cons_zero, List.set_cons_succ]
  refine wpAnyH_ready (rs := [2]) (by kernel_rfl) (by simp) ?_
  refine AllReadyH.cons (by simp only [List.getElem?_toArray, List.getElem?_cons_succ, List.getElem?_cons_zero]; rfl) (fun K hK => ?_) AllReadyH.nil
  refine wp_append_row _ _ _ rfl w3.heap.size rfl HRE.out rfl (ex_len 1 (.inl rfl)).symm HA1.out HN1.out HSZ1.out ?_
  intro A6 m6 c6 w6 hr6 hc6 hb6
  refine hK.out _ _ (Below.trans hS hb6) (fun hS2 => ?_)
  rw [List.nil_append] at hr6
  have HR6 := hid hr6
  have HA6 := hid ((HRB3.out.at_.take 10).below ((hS2).mono (Nat.le_refl _)))
  have HN6 := hid (show (renc 1 [97]).length + ((renc 2 [97]).take 10).length ≤ 140737488355328 by rw [List.length_take, ex_len 1 (.inl rfl), ex_len 2 (.inr rfl)]; decide)
  have HL6 := hid (show 10 = ((renc 2 [97]).take 10).length by rw [List.length_take, ex_len 2 (.inr rfl)]; rfl)
  have HSZ6 := hid (show w3.heap.size ≤ w6.heap.size from Below.size hS2)
  clear hr6 hc6 hb6
  clear hK K hS
  have hS := hS2
  try simp only [Act.put, List.setIfInBounds_toArray, List.set_cons_zero, List.set_cons_succ]
  refine wpAnyH_ready (rs := [5]) (by kernel_rfl) (by simp) ?_
  refine AllReadyH.cons (by simp only [List.getElem?_toArray, List.getElem?_cons_succ, List.getElem?_cons_zero]; rfl) (fun K hK => ?_) AllReadyH.nil
  refine wp_append_row _ _ _ rfl w3.heap.size rfl HR6.out rfl HL6.out (HA6.out.more HSZ6.out) HN6.out HSZ6.out ?_
  intro A7 m7 c7 w7 hr7 hc7 hb7
  refine hK.out _ _ (Below.trans hS hb7) (fun hS5 => ?_)
  have hsc := HF.out.scan (q := 1) (c := c7) hr7.at_ hr7.1 hc7 (Nat.le_refl _) (by rw [List.length_append, List.length_take, ex_len 1 (.inl rfl), ex_len 2 (.inr rfl)]; decide) (by decide) (HT3.out.step (show Below w3.heap.size w3 w7 from hS5))
  rw [ex_scan] at hsc
  have HSC := hid hsc
  clear hr7 hc7 hb7 hsc
  clear hK K hS
  have hS := hS5
  try simp only [Act.put, List.setIfInBounds_toArray, List.set_cons_zero, List.set_cons_succ]
  refine wpAnyH_ready (rs := [6]) (by kernel_rfl) (by simp) ?_
  refine AllReadyH.cons (by simp only [List.getElem?_toArray, List.getElem?_cons_succ, List.getElem?_cons_zero]; rfl) (fun K hK => ?_) AllReadyH.nil
  go_simp
  go_fit (HSC.out)
  rintro e w8 ⟨A8, m8, c8, rfl, hr8, hm8, hc8, hb8⟩
  have HX8 := hid (And.intro hr8 (And.intro hm8 hc8))
  have hS6 := Beyond.step hS hb8
  clear hr8 hm8 hc8 hb8
  refine hK.out _ _ (by assumption) (fun _ => ?_)
  clear hK K hS
  have hS := hS6
  refine take_step (i := 7) (by simp only [List.getElem?_toArray, List.getElem?_cons_succ, List.getElem?_cons_zero]; rfl) (by kernel_rfl) (by kernel_rfl) (by kernel_rfl) (by intro _ _ _ h; exact h) (by rfl) (fun W hW => by go_simp; first | done | with_reducible rfl) hS ?_
  try simp only [Act.put, List.setIfInBounds_toArray, List.set_cons_zero, List.set_cons_succ]
  refine take_step (i := 8) (by simp only [List.getElem?_toArray, List.getElem?_cons_succ, List.getElem?_cons_zero]; rfl) (by kernel_rfl) (by kernel_rfl) (by kernel_rfl) (by intro _ _ _ h; exact h) (by rfl) (fun W hW => by go_simp; first | done | with_reducible rfl) hS ?_
  try simp only [Act.put, List.setIfInBounds_toArray, List.set_cons_zero, List.set_cons_succ]
  refine take_step (i := 9) (by simp only [List.getElem?_toArray, List.getElem?_cons_succ, List.getElem?_cons_zero]; rfl) (by kernel_rfl) (by kernel_rfl) (by kernel_rfl) (by intro _ _ _ h; exact h) (by rfl) (fun W hW => by go_simp; first | done | with_reducible rfl) hS ?_
  try simp only [Act.put, List.setIfInBounds_toArray, List.set_cons_zero, List.set_cons_succ]
  refine take_step (i := 10) (by simp only [List.getElem?_toArray, List.getElem?_cons_succ, List.getElem?_cons_zero]; rfl) (by kernel_rfl) (by kernel_rfl) (by kernel_rfl) (by intro _ _ _ h; exact h) (by rfl) (fun W hW => by go_simp; first | done | with_reducible rfl) hS ?_
  try simp only [Act.put, List.setIfInBounds_toArray, List.set_cons_zero, List.set_cons_succ]
  refine take_step (i := 11) (by simp only [List.getElem?_toArray, List.getElem?_cons_succ, List.getElem?_cons_zero]; rfl) (by kernel_rfl) (by kernel_rfl) (by kernel_rfl) (by intro _ _ _ h; exact h) (by rfl) (fun W hW => by go_simp; first | done | with_reducible rfl) hS ?_
  try simp only [Act.put, List.setIfInBounds_toArray, List.set_cons_zero, List.set_cons_succ]
  refine wpAnyH_done (by kernel_rfl) ?_ _
  have HB8 := hid (below_step HB3.out hS)
  have HS8 := hid (show Below w3.heap.size w3 w8 from hS)
  clear hS
  have hm8 : m8 = 1 := HX8.out.2.1
  subst hm8
  obtain ⟨b8, o8, x8, rfl, _, hx8, c0, c1⟩ := RcAt.get (k := 0) HX8.out.1 (by decide)
  obtain rfl : x8 = (1, [97]) := by simpa using hx8.symm
  have heq : ∀ W, (binOp .eql 24 (.agg #[.int .u64 1, .string ⟨#[97]⟩]) (.agg #[.int .u64 1, .string ⟨#[97]⟩])).run Tryd.prog W = .ok (.bool true) W := fun W => by have h := eql_rc (1, [97]) (1, [97]) W; rw [decide_eq_true rfl] at h; exact h
  rw [Nat.zero_mul, Nat.add_zero] at c0 c1
  have c0' : w8.cell? ⟨b8, o8, none⟩ = some (.int .u64 1) := c0
  have c1' : w8.cell? ⟨b8, o8 + 1, none⟩ = some (.string ⟨#[97]⟩) := c1
  clear c0 c1
  have HZ8 := hid (HF.out.size (q := 1) (b := [97]) (w := w8) (by decide) (by decide) (HT3.out.step HS8.out))
  rw [ex_len 1 (.inl rfl)] at HZ8
  clear hx8
  go_wp2_with fail
  go_fit HZ8.out
  rintro e w9 ⟨rfl, hb9⟩
  have HB9 := hid (below_step HB8.out hb9)
  clear hb9
  go_wp2_with fail
  go_ret
  exact ⟨rfl, HB9.out⟩

end Go.Proofs.YtlcnjkonlnfnfaaDoor
