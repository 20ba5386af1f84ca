/-
  What the chapter's example fixes: the call that each statement makes.
-/
import Derived.Test.YtikggbopoajcbaaDoorPgBytes
import Derived.Test.YtikggbopoajcbaaDoorPgOf
import Derived.Test.YtikggbopoajcbaaDoorPgSplit
import Derived.Test.YtikggbopoajcbaaDoorPgJoin
import Derived.Test.YtikggbopoajcbaaDoorPgFind
import Derived.Test.YtikggbopoajcbaaDoorJRefS
import Derived.Deep.DeepFit
import Derived.Deep.Cut
namespace Go.Proofs.YtikggbopoajcbaaDoor
open Go Go.RowKit

def exC : List Cl := [⟨[97], [49]⟩, ⟨[99], [50]⟩]
def exF : List UInt8 := [1, 7, 2, 1, 97, 1, 49, 1, 99, 1, 50]
theorem ex_fields : pfields true 7 exC = exF := by decide +kernel
theorem ex_chk : pchk 7 exC = 0 := by decide +kernel
theorem ex_pof : pof exF = some (true, 7, exC) := by decide +kernel
theorem ex_fnd : fnd [98] exC = 1 := by decide +kernel
theorem ex_has : hasK [98] exC = false := by decide +kernel
theorem ex_half : halfC exC = 1 := by decide +kernel
theorem ex_size : psize 7 exC = 15 := by decide +kernel
theorem ex_sum : csum exC ≤ 100 := by decide +kernel
theorem ex_ris : risesC exC = true := by decide +kernel
theorem ex_same : sameP true 7 exC true 7 exC = true := by decide +kernel
theorem pofB_seal (f : List UInt8) (s : List UInt8 → List UInt8) (h : (s f).length = 4) : pofB (f ++ s f) s = pof f := by
  unfold pofB
  have hl : (f ++ s f).length = f.length + 4 := by rw [List.length_append, h]
  rw [hl, show f.length + 4 - 4 = f.length by omega, List.take_left' rfl, List.drop_left' rfl, if_neg (by simp)]

set_option maxHeartbeats 8000000 in
set_option maxRecDepth 100000 in
theorem example_any (w : World) :
    Calls Tryd.prog 31 #[] w fun e w' => ∃ A, e = .returned (pageV true 7 A 2 2) ∧ CS w' w'.heap.size A 2 2 exC ∧ Below w.heap.size w w' := by
  go_enter Tryd.func31, Tryd.ntmps31
  go_wp2_with fail
  have hp := (Blk.new w 24 #[.bool true, .int .i64 7, .slice (some ⟨w.heap.size + 1, 0, none⟩) 2 2]).alloc (.cells #[.string ⟨#[97]⟩, .string ⟨#[49]⟩, .string ⟨#[99]⟩, .string ⟨#[50]⟩] 44)
  have hs : (w.alloc (.cells #[.bool true, .int .i64 7, .slice (some ⟨w.heap.size + 1, 0, none⟩) 2 2] 24)).heap.size = w.heap.size + 1 := by simp
  have hb := (((Below.refl w.heap.size w).alloc (Nat.le_refl _) (.cells #[.bool true, .int .i64 7, .slice (some ⟨w.heap.size + 1, 0, none⟩) 2 2] 24))).alloc (by simp) (.cells #[.string ⟨#[97]⟩, .string ⟨#[49]⟩, .string ⟨#[99]⟩, .string ⟨#[50]⟩] 44)
  have hg : GB ((w.alloc (.cells #[.bool true, .int .i64 7, .slice (some ⟨w.heap.size + 1, 0, none⟩) 2 2] 24)).alloc (.cells #[.string ⟨#[97]⟩, .string ⟨#[49]⟩, .string ⟨#[99]⟩, .string ⟨#[50]⟩] 44)) (w.heap.size + 1) exC := by
    have := Blk.new (w.alloc (.cells #[.bool true, .int .i64 7, .slice (some ⟨w.heap.size + 1, 0, none⟩) 2 2] 24)) 44 #[.string ⟨#[97]⟩, .string ⟨#[49]⟩, .string ⟨#[99]⟩, .string ⟨#[50]⟩]
    rw [hs] at this
    exact this
  generalize (w.alloc (.cells #[.bool true, .int .i64 7, .slice (some ⟨w.heap.size + 1, 0, none⟩) 2 2] 24)).alloc (.cells #[.string ⟨#[97]⟩, .string ⟨#[49]⟩, .string ⟨#[99]⟩, .string ⟨#[50]⟩] 44) = w1 at *
  have d0 := hp.cell 0
  have d1 := hp.cell 1
  have d2 := hp.cell 2
  exact bodyPost_ret (v := pageV true 7 (some ⟨w.heap.size + 1, 0, none⟩) 2 2) (by simp [results, Tryd.results31, go_sem, pageV, d0, d1, d2]) rfl ⟨_, rfl, ⟨GAt.more (GB.at_ hg) hg.lt, rfl, Nat.le_refl _, by decide, Nat.le_refl _⟩, hb⟩

set_option maxHeartbeats 8000000 in
set_option maxRecDepth 100000 in
theorem awake_yes (w : World) (hT : Table w) :
    Calls Tryd.prog 11 #[] w fun e w' => e = .returned (.bool true) ∧ Below w.heap.size w w' := by
  have HT := hid hT
  have HX := hid (fun (W : World) => example_any W)
  clear hT
  unfold pageV at HX
  go_enter Tryd.func11, Tryd.ntmps11
  go_wp2_with fail
  go_fit (HX.out w)
  rintro e w1 ⟨A1, rfl, h1, hb1⟩
  have HB1 := hid hb1
  have HY1 := hid (pbytes_yes (leaf := true) (next := 7) h1 ex_chk (HT.out.step hb1))
  unfold pageV at HY1
  rw [show ((7 : Int)).toNat = 7 from rfl, ex_fields] at HY1
  clear h1 hb1
  go_wp2_with fail
  go_fit HY1.out
  rintro e w2 ⟨A2, m2, c2, rfl, hr2, hb2⟩
  have HB2 := hid (below_step HB1.out hb2)
  have HR2 := hid (show At w2 w2.heap.size A2 (exF ++ sum4 exF) ∧ m2 = (exF ++ sum4 exF).length ∧ m2 ≤ c2 from ⟨hr2.at_, hr2.1, row_cap hr2⟩)
  have HO2 := hid (ofpage_any HR2.out.1 HR2.out.2.1 HR2.out.2.2 (Nat.le_refl _) (by rw [List.length_append, sum4_length]; decide))
  rw [pofB_seal _ _ (sum4_length _), ex_pof] at HO2
  clear hr2 hb2 HY1
  go_wp2_with fail
  go_fit HO2.out
  rintro e w3 ⟨⟨A3, rfl, h3⟩, hb3⟩
  have ha := (Below.refl w3.heap.size w3).alloc (Nat.le_refl _) (.cells #[.bool true, .int .i64 7, .slice A3 2 2] 24)
  have HB4 := hid (below_step (below_step HB2.out hb3) ha)
  have HP4 := hid (show PBlk (w3.alloc (.cells #[.bool true, .int .i64 7, .slice A3 2 2] 24)) w3.heap.size true 7 A3 2 2 from Blk.new w3 _ _)
  have HC4 := hid (show CS (w3.alloc (.cells #[.bool true, .int .i64 7, .slice A3 2 2] 24)) w3.heap.size A3 2 2 exC from CS.step h3 ha)
  have HR4 := hid (show At (w3.alloc (.cells #[.bool true, .int .i64 7, .slice A3 2 2] 24)) w2.heap.size A2 (exF ++ sum4 exF) from (HR2.out.1.below hb3).below (ha.mono hb3.size))
  have HM2 := hid HR2.out.2.1
  have HRB := hid (show w2.heap.size ≤ (w3.alloc (.cells #[.bool true, .int .i64 7, .slice A3 2 2] 24)).heap.size from Nat.le_trans hb3.size (by simp))
  unfold pageV
  dsimp only
  rw [show exC.length = 2 from rfl]
  clear h3 hb3 ha HO2 HB1 HB2 HR2
  go_upto_region 3 with fail
  generalize w3.alloc (.cells #[.bool true, .int .i64 7, .slice A3 2 2] 24) = w4 at *
  obtain ⟨g3, hg3⟩ : ∃ g, w3.heap.size = g := ⟨_, rfl⟩
  rw [hg3] at HP4 HC4 ⊢
  clear hg3
  go_wp2_with fail
  go_fit (HX.out w4)
  rintro e w5 ⟨A5, rfl, h5, hb5⟩
  have HF5 := hid (find_any (leaf := true) (next := 7) (K := [98]) h5 (mono_of (ris_of ex_ris) _))
  rw [ex_fnd, ex_has] at HF5
  have HK5 := hid hb5
  unfold pageV at HF5
  clear h5 hb5
  go_wp2_with fail
  go_fit HF5.out
  rintro e w6 ⟨rfl, hb6⟩
  have HK6 := hid (below_step HK5.out hb6)
  clear hb6 HF5 HK5
  go_wp2_with fail
  go_fit (HX.out w6)
  rintro e w7 ⟨A7, rfl, h7, hb7⟩
  have HK7 := hid (below_step HK6.out hb7)
  have HS7 := hid (split_any (leaf := true) (next := 7) h7 (by decide) (Nat.le_trans ex_sum (by decide)))
  rw [ex_half] at HS7
  unfold pageV at HS7
  clear h7 hb7 HK6
  go_wp2_with fail
  go_fit HS7.out
  rintro e w8 ⟨A8, B8, rfl, h8, k8, hb8⟩
  have HK8 := hid (below_step HK7.out hb8)
  have ha := ((Below.refl w8.heap.size w8).alloc (Nat.le_refl _) (.cells #[.bool true, .int .i64 7, .slice A8 1 1] 24)).alloc (by simp) (.cells #[.bool true, .int .i64 7, .slice B8 1 1] 24)
  have HK9 := hid (below_step HK8.out ha)
  have HA9 := hid (show CS ((w8.alloc (.cells #[.bool true, .int .i64 7, .slice A8 1 1] 24)).alloc (.cells #[.bool true, .int .i64 7, .slice B8 1 1] 24)) w8.heap.size A8 1 1 [⟨[97], [49]⟩] from CS.step h8 ha)
  have HB9 := hid (show CS ((w8.alloc (.cells #[.bool true, .int .i64 7, .slice A8 1 1] 24)).alloc (.cells #[.bool true, .int .i64 7, .slice B8 1 1] 24)) w8.heap.size B8 1 1 [⟨[99], [50]⟩] from CS.step k8 ha)
  have HQ7 := hid (show PBlk ((w8.alloc (.cells #[.bool true, .int .i64 7, .slice A8 1 1] 24)).alloc (.cells #[.bool true, .int .i64 7, .slice B8 1 1] 24)) w8.heap.size true 7 A8 1 1 from (Blk.new w8 _ _).alloc _)
  have HQ8 := hid (show PBlk ((w8.alloc (.cells #[.bool true, .int .i64 7, .slice A8 1 1] 24)).alloc (.cells #[.bool true, .int .i64 7, .slice B8 1 1] 24)) (w8.heap.size + 1) true 7 B8 1 1 by
    have := Blk.new (w8.alloc (.cells #[.bool true, .int .i64 7, .slice A8 1 1] 24)) 24 #[.bool true, .int .i64 7, .slice B8 1 1]
    rwa [show (w8.alloc (.cells #[.bool true, .int .i64 7, .slice A8 1 1] 24)).heap.size = w8.heap.size + 1 by simp] at this)
  clear h8 k8 hb8 ha HS7 HK7 HK8
  go_upto_region 5 with fail
  generalize (w8.alloc (.cells #[.bool true, .int .i64 7, .slice A8 1 1] 24)).alloc (.cells #[.bool true, .int .i64 7, .slice B8 1 1] 24) = w9 at *
  obtain ⟨g7, hg7⟩ : ∃ g, w8.heap.size = g := ⟨_, rfl⟩
  rw [hg7] at HA9 HB9 HQ7 HQ8 ⊢
  clear hg7
  have HP9 := hid (HP4.out.below HK9.out HP4.out.lt)
  have HC9 := hid (HC4.out.step HK9.out)
  have HR9 := hid (HR4.out.below (HK9.out.mono HRB.out))
  have HW9 := hid (below_step HB4.out HK9.out)
  have HRC := hid (Nat.le_trans HRB.out HK9.out.size)
  clear HP4 HC4 HR4 HB4 HK9 HT
  obtain ⟨L, hL⟩ : ∃ L, L = exF ++ sum4 exF := ⟨_, rfl⟩
  have HSE := hid (fun (W : World) => refSeal_any exF W (by decide))
  rw [← hL] at HR9 HM2 HSE
  clear hL
  have zc : ∀ W, Beyond w9 W → (convert 27 9 (.slice A2 m2 c2)).run Tryd.prog W = .ok (.string (bst L)) W := fun W hW => str_of (HR9.out.below (Below.mono hW HRC.out)) HM2.out
  have z30 : ∀ W, Beyond w9 W → W.cell? ⟨g3, 0, none⟩ = some (.bool true) := fun W hW => (HP9.out.below hW HP9.out.lt).cell 0
  have z31 : ∀ W, Beyond w9 W → W.cell? ⟨g3, 1, none⟩ = some (.int .i64 7) := fun W hW => (HP9.out.below hW HP9.out.lt).cell 1
  have z32 : ∀ W, Beyond w9 W → W.cell? ⟨g3, 2, none⟩ = some (.slice A3 2 2) := fun W hW => (HP9.out.below hW HP9.out.lt).cell 2
  have z70 : ∀ W, Beyond w9 W → W.cell? ⟨g7, 0, none⟩ = some (.bool true) := fun W hW => (HQ7.out.below hW HQ7.out.lt).cell 0
  have z71 : ∀ W, Beyond w9 W → W.cell? ⟨g7, 1, none⟩ = some (.int .i64 7) := fun W hW => (HQ7.out.below hW HQ7.out.lt).cell 1
  have z72 : ∀ W, Beyond w9 W → W.cell? ⟨g7, 2, none⟩ = some (.slice A8 1 1) := fun W hW => (HQ7.out.below hW HQ7.out.lt).cell 2
  have z80 : ∀ W, Beyond w9 W → W.cell? ⟨g7 + 1, 0, none⟩ = some (.bool true) := fun W hW => (HQ8.out.below hW HQ8.out.lt).cell 0
  have z81 : ∀ W, Beyond w9 W → W.cell? ⟨g7 + 1, 1, none⟩ = some (.int .i64 7) := fun W hW => (HQ8.out.below hW HQ8.out.lt).cell 1
  have z82 : ∀ W, Beyond w9 W → W.cell? ⟨g7 + 1, 2, none⟩ = some (.slice B8 1 1) := fun W hW => (HQ8.out.below hW HQ8.out.lt).cell 2
  have HSM := hid (fun (W : World) (A' : Option Addr) (hW : Beyond w9 W) (h : CS W W.heap.size A' 2 2 exC) => refSame_any (leaf := true) (leaf2 := true) (next := 7) (next2 := 7) (HC9.out.step hW) h)
  rw [ex_same] at HSM
  have HSZ := hid (fun (W : World) (A' : Option Addr) (h : CS W W.heap.size A' 2 2 exC) => psize_any (leaf := true) (next := 7) h (Nat.le_trans ex_sum (by decide)) (by decide))
  rw [show ((7 : Int)).toNat = 7 from rfl, ex_size] at HSZ
  have HJN := hid (fun (W : World) (hW : Beyond w9 W) => join_any (leaf := true) (leaf2 := true) (next := 7) (next2 := 7) (HA9.out.step hW) (HB9.out.step hW) (by decide))
  rw [show ([⟨[97], [49]⟩] ++ [⟨[99], [50]⟩] : List Cl) = exC from rfl] at HJN
  have HSA := hid (fun (W : World) (A' A2 : Option Addr) (m c : Nat) (h2 : CS W W.heap.size A2 m c exC) (h : CS W W.heap.size A' 2 2 exC) => same_any (leaf := true) (leaf2 := true) (next := 7) (next2 := 7) h2 h)
  rw [ex_same] at HSA
  unfold pageV at HSM HSZ HJN HSA
  clear HR9 HP9 HQ7 HQ8 HC9 HA9 HB9
  refine wp_region_held_drew (S := Beyond w9) (by kernel_rfl) (Beyond.drew _) (fun hS => ?_)
  refine take_step (i := 0) (by simp only [List.getElem?_toArray, List.getElem?_cons_zero]; rfl) (by kernel_rfl) (by kernel_rfl) (by kernel_rfl) (by intro _ _ _ h; exact h) (by rfl) (fun W hW => by go_simp; first | done | with_reducible rfl) hS ?_
  try simp only [Act.put, List.setIfInBounds_toArray, List.set_cons_zero, List.set_cons_succ]
  refine take_step (i := 1) (by simp only [List.getElem?_toArray, List.getElem?_cons_succ, List.getElem?_cons_zero]; rfl) (by kernel_rfl) (by kernel_rfl) (by kernel_rfl) (by intro _ _ _ h; exact h) (by rfl) (fun W hW => by go_simp; first | done | with_reducible rfl) hS ?_
  try simp only [Act.put, List.setIfInBounds_toArray, List.set_cons_zero, List.set_cons_succ]
  refine wpAnyH_ready (rs := [2]) (by kernel_rfl) (by simp) ?_
  refine AllReadyH.cons (by simp only [List.getElem?_toArray, List.getElem?_cons_succ, List.getElem?_cons_zero]; rfl) (fun K hK => ?_) AllReadyH.nil
  go_simp
  go_fit (HSE.out _)
  rintro e ws ⟨rfl, hbs⟩
  have hS2 := Beyond.step hS hbs
  clear hbs
  refine hK.out _ _ (by assumption) (fun _ => ?_)
  clear hK K hS
  have hS := hS2
  try simp only [Act.put, List.setIfInBounds_toArray, List.set_cons_zero, List.set_cons_succ]
  refine take_step (i := 3) (by simp only [List.getElem?_toArray, List.getElem?_cons_succ, List.getElem?_cons_zero]; rfl) (by kernel_rfl) (by kernel_rfl) (by kernel_rfl) (by intro _ _ _ h; exact h) (by rfl) (fun W hW => by go_simp; first | done | with_reducible rfl) hS ?_
  try simp only [Act.put, List.setIfInBounds_toArray, List.set_cons_zero, List.set_cons_succ]
  refine take_step (i := 4) (by simp only [List.getElem?_toArray, List.getElem?_cons_succ, List.getElem?_cons_zero]; rfl) (by kernel_rfl) (by kernel_rfl) (by kernel_rfl) (by intro _ _ _ h; exact h) (by rfl) (fun W hW => by go_simp; first | done | with_reducible rfl) hS ?_
  try simp only [Act.put, List.setIfInBounds_toArray, List.set_cons_zero, List.set_cons_succ]
  first | (refine take_step (i := 5) (by simp only [List.getElem?_toArray, List.getElem?_cons_succ, List.getElem?_cons_zero]; rfl) (by kernel_rfl) (by kernel_rfl) (by kernel_rfl) (by intro _ _ _ h; exact h) (by rfl) (fun W hW => by go_simp; first | done | with_reducible rfl) hS ?_) | (refine skip_step (i := 5) (by simp only [List.getElem?_toArray, List.getElem?_cons_succ, List.getElem?_cons_zero]; rfl) (by kernel_rfl) (by kernel_rfl) (by kernel_rfl) (by intro _ _ _ h; exact h) (by rfl) hS ?_)
  try simp only [Act.put, List.setIfInBounds_toArray, List.set_cons_zero, List.set_cons_succ]
  first | (refine take_step (i := 6) (by simp only [List.getElem?_toArray, List.getElem?_cons_succ, List.getElem?_cons_zero]; rfl) (by kernel_rfl) (by kernel_rfl) (by kernel_rfl) (by intro _ _ _ h; exact h) (by rfl) (fun W hW => by go_simp; first | done | with_reducible rfl) hS ?_) | (refine skip_step (i := 6) (by simp only [List.getElem?_toArray, List.getElem?_cons_succ, List.getElem?_cons_zero]; rfl) (by kernel_rfl) (by kernel_rfl) (by kernel_rfl) (by intro _ _ _ h; exact h) (by rfl) hS ?_)
  try simp only [Act.put, List.setIfInBounds_toArray, List.set_cons_zero, List.set_cons_succ]
  refine take_step (i := 7) (by simp only [List.getElem?_toArray, List.getElem?_cons_succ, List.getElem?_cons_zero]; rfl) (by kernel_rfl) (by kernel_rfl) (by kernel_rfl) (by intro _ _ _ h; exact h) (by rfl) (fun W hW => by go_simp; first | done | with_reducible rfl) hS ?_
  try simp only [Act.put, List.setIfInBounds_toArray, List.set_cons_zero, List.set_cons_succ]
  refine take_step (i := 8) (by simp only [List.getElem?_toArray, List.getElem?_cons_succ, List.getElem?_cons_zero]; rfl) (by kernel_rfl) (by kernel_rfl) (by kernel_rfl) (by intro _ _ _ h; exact h) (by rfl) (fun W hW => by go_simp; first | done | with_reducible rfl) hS ?_
  try simp only [Act.put, List.setIfInBounds_toArray, List.set_cons_zero, List.set_cons_succ]
  first | (refine take_step (i := 9) (by simp only [List.getElem?_toArray, List.getElem?_cons_succ, List.getElem?_cons_zero]; rfl) (by kernel_rfl) (by kernel_rfl) (by kernel_rfl) (by intro _ _ _ h; exact h) (by rfl) (fun W hW => by go_simp; first | done | with_reducible rfl) hS ?_) | (refine skip_step (i := 9) (by simp only [List.getElem?_toArray, List.getElem?_cons_succ, List.getElem?_cons_zero]; rfl) (by kernel_rfl) (by kernel_rfl) (by kernel_rfl) (by intro _ _ _ h; exact h) (by rfl) hS ?_)
  try simp only [Act.put, List.setIfInBounds_toArray, List.set_cons_zero, List.set_cons_succ]
  refine wpAnyH_ready (rs := [10]) (by kernel_rfl) (by simp) ?_
  refine AllReadyH.cons (by simp only [List.getElem?_toArray, List.getElem?_cons_succ, List.getElem?_cons_zero]; rfl) (fun K hK => ?_) AllReadyH.nil
  go_simp
  go_fit (HX.out _)
  rintro e wa ⟨Aa, rfl, ha, hba⟩
  have hS10 := Beyond.step hS hba
  have HCa := hid ha
  clear ha hba
  refine hK.out _ _ (by assumption) (fun _ => ?_)
  clear hK K hS
  have hS := hS10
  try simp only [Act.put, List.setIfInBounds_toArray, List.set_cons_zero, List.set_cons_succ]
  refine wpAnyH_ready (rs := [11]) (by kernel_rfl) (by simp) ?_
  refine AllReadyH.cons (by simp only [List.getElem?_toArray, List.getElem?_cons_succ, List.getElem?_cons_zero]; rfl) (fun K hK => ?_) AllReadyH.nil
  go_simp
  go_fit (HSM.out _ _ hS HCa.out)
  rintro e wb ⟨rfl, hbb⟩
  have hS11 := Beyond.step hS hbb
  clear hbb HCa
  refine hK.out _ _ (by assumption) (fun _ => ?_)
  clear hK K hS
  have hS := hS11
  try simp only [Act.put, List.setIfInBounds_toArray, List.set_cons_zero, List.set_cons_succ]
  refine take_step (i := 12) (by simp only [List.getElem?_toArray, List.getElem?_cons_succ, List.getElem?_cons_zero]; rfl) (by kernel_rfl) (by kernel_rfl) (by kernel_rfl) (by intro _ _ _ h; exact h) (by rfl) (fun W hW => by go_simp; first | done | with_reducible rfl) hS ?_
  try simp only [Act.put, List.setIfInBounds_toArray, List.set_cons_zero, List.set_cons_succ]
  refine take_step (i := 13) (by simp only [List.getElem?_toArray, List.getElem?_cons_succ, List.getElem?_cons_zero]; rfl) (by kernel_rfl) (by kernel_rfl) (by kernel_rfl) (by intro _ _ _ h; exact h) (by rfl) (fun W hW => by go_simp; first | done | with_reducible rfl) hS ?_
  try simp only [Act.put, List.setIfInBounds_toArray, List.set_cons_zero, List.set_cons_succ]
  first | (refine take_step (i := 14) (by simp only [List.getElem?_toArray, List.getElem?_cons_succ, List.getElem?_cons_zero]; rfl) (by kernel_rfl) (by kernel_rfl) (by kernel_rfl) (by intro _ _ _ h; exact h) (by rfl) (fun W hW => by go_simp; first | done | with_reducible rfl) hS ?_) | (refine skip_step (i := 14) (by simp only [List.getElem?_toArray, List.getElem?_cons_succ, List.getElem?_cons_zero]; rfl) (by kernel_rfl) (by kernel_rfl) (by kernel_rfl) (by intro _ _ _ h; exact h) (by rfl) hS ?_)
  try simp only [Act.put, List.setIfInBounds_toArray, List.set_cons_zero, List.set_cons_succ]
  first | (refine take_step (i := 15) (by simp only [List.getElem?_toArray, List.getElem?_cons_succ, List.getElem?_cons_zero]; rfl) (by kernel_rfl) (by kernel_rfl) (by kernel_rfl) (by intro _ _ _ h; exact h) (by rfl) (fun W hW => by go_simp; first | done | with_reducible rfl) hS ?_) | (refine skip_step (i := 15) (by simp only [List.getElem?_toArray, List.getElem?_cons_succ, List.getElem?_cons_zero]; rfl) (by kernel_rfl) (by kernel_rfl) (by kernel_rfl) (by intro _ _ _ h; exact h) (by rfl) hS ?_)
  try simp only [Act.put, List.setIfInBounds_toArray, List.set_cons_zero, List.set_cons_succ]
  refine take_step (i := 16) (by simp only [List.getElem?_toArray, List.getElem?_cons_succ, List.getElem?_cons_zero]; rfl) (by kernel_rfl) (by kernel_rfl) (by kernel_rfl) (by intro _ _ _ h; exact h) (by rfl) (fun W hW => by go_simp; first | done | with_reducible rfl) hS ?_
  try simp only [Act.put, List.setIfInBounds_toArray, List.set_cons_zero, List.set_cons_succ]
  refine take_step (i := 17) (by simp only [List.getElem?_toArray, List.getElem?_cons_succ, List.getElem?_cons_zero]; rfl) (by kernel_rfl) (by kernel_rfl) (by kernel_rfl) (by intro _ _ _ h; exact h) (by rfl) (fun W hW => by go_simp; first | done | with_reducible rfl) hS ?_
  try simp only [Act.put, List.setIfInBounds_toArray, List.set_cons_zero, List.set_cons_succ]
  first | (refine take_step (i := 18) (by simp only [List.getElem?_toArray, List.getElem?_cons_succ, List.getElem?_cons_zero]; rfl) (by kernel_rfl) (by kernel_rfl) (by kernel_rfl) (by intro _ _ _ h; exact h) (by rfl) (fun W hW => by go_simp; first | done | with_reducible rfl) hS ?_) | (refine skip_step (i := 18) (by simp only [List.getElem?_toArray, List.getElem?_cons_succ, List.getElem?_cons_zero]; rfl) (by kernel_rfl) (by kernel_rfl) (by kernel_rfl) (by intro _ _ _ h; exact h) (by rfl) hS ?_)
  try simp only [Act.put, List.setIfInBounds_toArray, List.set_cons_zero, List.set_cons_succ]
  first | (refine take_step (i := 19) (by simp only [List.getElem?_toArray, List.getElem?_cons_succ, List.getElem?_cons_zero]; rfl) (by kernel_rfl) (by kernel_rfl) (by kernel_rfl) (by intro _ _ _ h; exact h) (by rfl) (fun W hW => by go_simp; first | done | with_reducible rfl) hS ?_) | (refine skip_step (i := 19) (by simp only [List.getElem?_toArray, List.getElem?_cons_succ, List.getElem?_cons_zero]; rfl) (by kernel_rfl) (by kernel_rfl) (by kernel_rfl) (by intro _ _ _ h; exact h) (by rfl) hS ?_)
  try simp only [Act.put, List.setIfInBounds_toArray, List.set_cons_zero, List.set_cons_succ]
  refine take_step (i := 20) (by simp only [List.getElem?_toArray, List.getElem?_cons_succ, List.getElem?_cons_zero]; rfl) (by kernel_rfl) (by kernel_rfl) (by kernel_rfl) (by intro _ _ _ h; exact h) (by rfl) (fun W hW => by go_simp; first | done | with_reducible rfl) hS ?_
  try simp only [Act.put, List.setIfInBounds_toArray, List.set_cons_zero, List.set_cons_succ]
  refine take_step (i := 21) (by simp only [List.getElem?_toArray, List.getElem?_cons_succ, List.getElem?_cons_zero]; rfl) (by kernel_rfl) (by kernel_rfl) (by kernel_rfl) (by intro _ _ _ h; exact h) (by rfl) (fun W hW => by go_simp; first | done | with_reducible rfl) hS ?_
  try simp only [Act.put, List.setIfInBounds_toArray, List.set_cons_zero, List.set_cons_succ]
  first | (refine take_step (i := 22) (by simp only [List.getElem?_toArray, List.getElem?_cons_succ, List.getElem?_cons_zero]; rfl) (by kernel_rfl) (by kernel_rfl) (by kernel_rfl) (by intro _ _ _ h; exact h) (by rfl) (fun W hW => by go_simp; first | done | with_reducible rfl) hS ?_) | (refine skip_step (i := 22) (by simp only [List.getElem?_toArray, List.getElem?_cons_succ, List.getElem?_cons_zero]; rfl) (by kernel_rfl) (by kernel_rfl) (by kernel_rfl) (by intro _ _ _ h; exact h) (by rfl) hS ?_)
  try simp only [Act.put, List.setIfInBounds_toArray, List.set_cons_zero, List.set_cons_succ]
  first | (refine take_step (i := 23) (by simp only [List.getElem?_toArray, List.getElem?_cons_succ, List.getElem?_cons_zero]; rfl) (by kernel_rfl) (by kernel_rfl) (by kernel_rfl) (by intro _ _ _ h; exact h) (by rfl) (fun W hW => by go_simp; first | done | with_reducible rfl) hS ?_) | (refine skip_step (i := 23) (by simp only [List.getElem?_toArray, List.getElem?_cons_succ, List.getElem?_cons_zero]; rfl) (by kernel_rfl) (by kernel_rfl) (by kernel_rfl) (by intro _ _ _ h; exact h) (by rfl) hS ?_)
  try simp only [Act.put, List.setIfInBounds_toArray, List.set_cons_zero, List.set_cons_succ]
  refine take_step (i := 24) (by simp only [List.getElem?_toArray, List.getElem?_cons_succ, List.getElem?_cons_zero]; rfl) (by kernel_rfl) (by kernel_rfl) (by kernel_rfl) (by intro _ _ _ h; exact h) (by rfl) (fun W hW => by go_simp; first | done | with_reducible rfl) hS ?_
  try simp only [Act.put, List.setIfInBounds_toArray, List.set_cons_zero, List.set_cons_succ]
  refine take_step (i := 25) (by simp only [List.getElem?_toArray, List.getElem?_cons_succ, List.getElem?_cons_zero]; rfl) (by kernel_rfl) (by kernel_rfl) (by kernel_rfl) (by intro _ _ _ h; exact h) (by rfl) (fun W hW => by go_simp; first | done | with_reducible rfl) hS ?_
  try simp only [Act.put, List.setIfInBounds_toArray, List.set_cons_zero, List.set_cons_succ]
  first | (refine take_step (i := 26) (by simp only [List.getElem?_toArray, List.getElem?_cons_succ, List.getElem?_cons_zero]; rfl) (by kernel_rfl) (by kernel_rfl) (by kernel_rfl) (by intro _ _ _ h; exact h) (by rfl) (fun W hW => by go_simp; first | done | with_reducible rfl) hS ?_) | (refine skip_step (i := 26) (by simp only [List.getElem?_toArray, List.getElem?_cons_succ, List.getElem?_cons_zero]; rfl) (by kernel_rfl) (by kernel_rfl) (by kernel_rfl) (by intro _ _ _ h; exact h) (by rfl) hS ?_)
  try simp only [Act.put, List.setIfInBounds_toArray, List.set_cons_zero, List.set_cons_succ]
  first | (refine take_step (i := 27) (by simp only [List.getElem?_toArray, List.getElem?_cons_succ, List.getElem?_cons_zero]; rfl) (by kernel_rfl) (by kernel_rfl) (by kernel_rfl) (by intro _ _ _ h; exact h) (by rfl) (fun W hW => by go_simp; first | done | with_reducible rfl) hS ?_) | (refine skip_step (i := 27) (by simp only [List.getElem?_toArray, List.getElem?_cons_succ, List.getElem?_cons_zero]; rfl) (by kernel_rfl) (by kernel_rfl) (by kernel_rfl) (by intro _ _ _ h; exact h) (by rfl) hS ?_)
  try simp only [Act.put, List.setIfInBounds_toArray, List.set_cons_zero, List.set_cons_succ]
  refine take_step (i := 28) (by simp only [List.getElem?_toArray, List.getElem?_cons_succ, List.getElem?_cons_zero]; rfl) (by kernel_rfl) (by kernel_rfl) (by kernel_rfl) (by intro _ _ _ h; exact h) (by rfl) (fun W hW => by go_simp; first | done | with_reducible rfl) hS ?_
  try simp only [Act.put, List.setIfInBounds_toArray, List.set_cons_zero, List.set_cons_succ]
  refine take_step (i := 29) (by simp only [List.getElem?_toArray, List.getElem?_cons_succ, List.getElem?_cons_zero]; rfl) (by kernel_rfl) (by kernel_rfl) (by kernel_rfl) (by intro _ _ _ h; exact h) (by rfl) (fun W hW => by go_simp; first | done | with_reducible rfl) hS ?_
  try simp only [Act.put, List.setIfInBounds_toArray, List.set_cons_zero, List.set_cons_succ]
  first | (refine take_step (i := 30) (by simp only [List.getElem?_toArray, List.getElem?_cons_succ, List.getElem?_cons_zero]; rfl) (by kernel_rfl) (by kernel_rfl) (by kernel_rfl) (by intro _ _ _ h; exact h) (by rfl) (fun W hW => by go_simp; first | done | with_reducible rfl) hS ?_) | (refine skip_step (i := 30) (by simp only [List.getElem?_toArray, List.getElem?_cons_succ, List.getElem?_cons_zero]; rfl) (by kernel_rfl) (by kernel_rfl) (by kernel_rfl) (by intro _ _ _ h; exact h) (by rfl) hS ?_)
  try simp only [Act.put, List.setIfInBounds_toArray, List.set_cons_zero, List.set_cons_succ]
  first | (refine take_step (i := 31) (by simp only [List.getElem?_toArray, List.getElem?_cons_succ, List.getElem?_cons_zero]; rfl) (by kernel_rfl) (by kernel_rfl) (by kernel_rfl) (by intro _ _ _ h; exact h) (by rfl) (fun W hW => by go_simp; first | done | with_reducible rfl) hS ?_) | (refine skip_step (i := 31) (by simp only [List.getElem?_toArray, List.getElem?_cons_succ, List.getElem?_cons_zero]; rfl) (by kernel_rfl) (by kernel_rfl) (by kernel_rfl) (by intro _ _ _ h; exact h) (by rfl) hS ?_)
  try simp only [Act.put, List.setIfInBounds_toArray, List.set_cons_zero, List.set_cons_succ]
  first | (refine take_step (i := 32) (by simp only [List.getElem?_toArray, List.getElem?_cons_succ, List.getElem?_cons_zero]; rfl) (by kernel_rfl) (by kernel_rfl) (by kernel_rfl) (by intro _ _ _ h; exact h) (by rfl) (fun W hW => by go_simp; first | done | with_reducible rfl) hS ?_) | (refine skip_step (i := 32) (by simp only [List.getElem?_toArray, List.getElem?_cons_succ, List.getElem?_cons_zero]; rfl) (by kernel_rfl) (by kernel_rfl) (by kernel_rfl) (by intro _ _ _ h; exact h) (by rfl) hS ?_)
  try simp only [Act.put, List.setIfInBounds_toArray, List.set_cons_zero, List.set_cons_succ]
  first | (refine take_step (i := 33) (by simp only [List.getElem?_toArray, List.getElem?_cons_succ, List.getElem?_cons_zero]; rfl) (by kernel_rfl) (by kernel_rfl) (by kernel_rfl) (by intro _ _ _ h; exact h) (by rfl) (fun W hW => by go_simp; first | done | with_reducible rfl) hS ?_) | (refine skip_step (i := 33) (by simp only [List.getElem?_toArray, List.getElem?_cons_succ, List.getElem?_cons_zero]; rfl) (by kernel_rfl) (by kernel_rfl) (by kernel_rfl) (by intro _ _ _ h; exact h) (by rfl) hS ?_)
  try simp only [Act.put, List.setIfInBounds_toArray, List.set_cons_zero, List.set_cons_succ]
  refine take_step (i := 34) (by simp only [List.getElem?_toArray, List.getElem?_cons_succ, List.getElem?_cons_zero]; rfl) (by kernel_rfl) (by kernel_rfl) (by kernel_rfl) (by intro _ _ _ h; exact h) (by rfl) (fun W hW => by go_simp; first | done | with_reducible rfl) hS ?_
  try simp only [Act.put, List.setIfInBounds_toArray, List.set_cons_zero, List.set_cons_succ]
  refine take_step (i := 35) (by simp only [List.getElem?_toArray, List.getElem?_cons_succ, List.getElem?_cons_zero]; rfl) (by kernel_rfl) (by kernel_rfl) (by kernel_rfl) (by intro _ _ _ h; exact h) (by rfl) (fun W hW => by go_simp; first | done | with_reducible rfl) hS ?_
  try simp only [Act.put, List.setIfInBounds_toArray, List.set_cons_zero, List.set_cons_succ]
  first | (refine take_step (i := 36) (by simp only [List.getElem?_toArray, List.getElem?_cons_succ, List.getElem?_cons_zero]; rfl) (by kernel_rfl) (by kernel_rfl) (by kernel_rfl) (by intro _ _ _ h; exact h) (by rfl) (fun W hW => by go_simp; first | done | with_reducible rfl) hS ?_) | (refine skip_step (i := 36) (by simp only [List.getElem?_toArray, List.getElem?_cons_succ, List.getElem?_cons_zero]; rfl) (by kernel_rfl) (by kernel_rfl) (by kernel_rfl) (by intro _ _ _ h; exact h) (by rfl) hS ?_)
  try simp only [Act.put, List.setIfInBounds_toArray, List.set_cons_zero, List.set_cons_succ]
  first | (refine take_step (i := 37) (by simp only [List.getElem?_toArray, List.getElem?_cons_succ, List.getElem?_cons_zero]; rfl) (by kernel_rfl) (by kernel_rfl) (by kernel_rfl) (by intro _ _ _ h; exact h) (by rfl) (fun W hW => by go_simp; first | done | with_reducible rfl) hS ?_) | (refine skip_step (i := 37) (by simp only [List.getElem?_toArray, List.getElem?_cons_succ, List.getElem?_cons_zero]; rfl) (by kernel_rfl) (by kernel_rfl) (by kernel_rfl) (by intro _ _ _ h; exact h) (by rfl) hS ?_)
  try simp only [Act.put, List.setIfInBounds_toArray, List.set_cons_zero, List.set_cons_succ]
  first | (refine take_step (i := 38) (by simp only [List.getElem?_toArray, List.getElem?_cons_succ, List.getElem?_cons_zero]; rfl) (by kernel_rfl) (by kernel_rfl) (by kernel_rfl) (by intro _ _ _ h; exact h) (by rfl) (fun W hW => by go_simp; first | done | with_reducible rfl) hS ?_) | (refine skip_step (i := 38) (by simp only [List.getElem?_toArray, List.getElem?_cons_succ, List.getElem?_cons_zero]; rfl) (by kernel_rfl) (by kernel_rfl) (by kernel_rfl) (by intro _ _ _ h; exact h) (by rfl) hS ?_)
  try simp only [Act.put, List.setIfInBounds_toArray, List.set_cons_zero, List.set_cons_succ]
  first | (refine take_step (i := 39) (by simp only [List.getElem?_toArray, List.getElem?_cons_succ, List.getElem?_cons_zero]; rfl) (by kernel_rfl) (by kernel_rfl) (by kernel_rfl) (by intro _ _ _ h; exact h) (by rfl) (fun W hW => by go_simp; first | done | with_reducible rfl) hS ?_) | (refine skip_step (i := 39) (by simp only [List.getElem?_toArray, List.getElem?_cons_succ, List.getElem?_cons_zero]; rfl) (by kernel_rfl) (by kernel_rfl) (by kernel_rfl) (by intro _ _ _ h; exact h) (by rfl) hS ?_)
  try simp only [Act.put, List.setIfInBounds_toArray, List.set_cons_zero, List.set_cons_succ]
  refine take_step (i := 40) (by simp only [List.getElem?_toArray, List.getElem?_cons_succ, List.getElem?_cons_zero]; rfl) (by kernel_rfl) (by kernel_rfl) (by kernel_rfl) (by intro _ _ _ h; exact h) (by rfl) (fun W hW => by go_simp; first | done | with_reducible rfl) hS ?_
  try simp only [Act.put, List.setIfInBounds_toArray, List.set_cons_zero, List.set_cons_succ]
  refine take_step (i := 41) (by simp only [List.getElem?_toArray, List.getElem?_cons_succ, List.getElem?_cons_zero]; rfl) (by kernel_rfl) (by kernel_rfl) (by kernel_rfl) (by intro _ _ _ h; exact h) (by rfl) (fun W hW => by go_simp; first | done | with_reducible rfl) hS ?_
  try simp only [Act.put, List.setIfInBounds_toArray, List.set_cons_zero, List.set_cons_succ]
  refine wpAnyH_ready (rs := [42]) (by kernel_rfl) (by simp) ?_
  refine AllReadyH.cons (by simp only [List.getElem?_toArray, List.getElem?_cons_succ, List.getElem?_cons_zero]; rfl) (fun K hK => ?_) AllReadyH.nil
  go_simp
  go_fit (HX.out _)
  rintro e wc ⟨Ac, rfl, hc, hbc⟩
  have hS42 := Beyond.step hS hbc
  have HCc := hid hc
  clear hc hbc
  refine hK.out _ _ (by assumption) (fun _ => ?_)
  clear hK K hS
  have hS := hS42
  try simp only [Act.put, List.setIfInBounds_toArray, List.set_cons_zero, List.set_cons_succ]
  refine wpAnyH_ready (rs := [43]) (by kernel_rfl) (by simp) ?_
  refine AllReadyH.cons (by simp only [List.getElem?_toArray, List.getElem?_cons_succ, List.getElem?_cons_zero]; rfl) (fun K hK => ?_) AllReadyH.nil
  go_simp
  go_fit (HSZ.out _ _ HCc.out)
  rintro e wd ⟨rfl, hbd⟩
  have hS43 := Beyond.step hS hbd
  clear hbd HCc
  refine hK.out _ _ (by assumption) (fun _ => ?_)
  clear hK K hS
  have hS := hS43
  try simp only [Act.put, List.setIfInBounds_toArray, List.set_cons_zero, List.set_cons_succ]
  first | (refine take_step (i := 44) (by simp only [List.getElem?_toArray, List.getElem?_cons_succ, List.getElem?_cons_zero]; rfl) (by kernel_rfl) (by kernel_rfl) (by kernel_rfl) (by intro _ _ _ h; exact h) (by rfl) (fun W hW => by go_simp; first | done | with_reducible rfl) hS ?_) | (refine skip_step (i := 44) (by simp only [List.getElem?_toArray, List.getElem?_cons_succ, List.getElem?_cons_zero]; rfl) (by kernel_rfl) (by kernel_rfl) (by kernel_rfl) (by intro _ _ _ h; exact h) (by rfl) hS ?_)
  try simp only [Act.put, List.setIfInBounds_toArray, List.set_cons_zero, List.set_cons_succ]
  refine take_step (i := 45) (by simp only [List.getElem?_toArray, List.getElem?_cons_succ, List.getElem?_cons_zero]; rfl) (by kernel_rfl) (by kernel_rfl) (by kernel_rfl) (by intro _ _ _ h; exact h) (by rfl) (fun W hW => by go_simp; first | done | with_reducible rfl) hS ?_
  try simp only [Act.put, List.setIfInBounds_toArray, List.set_cons_zero, List.set_cons_succ]
  refine take_step (i := 46) (by simp only [List.getElem?_toArray, List.getElem?_cons_succ, List.getElem?_cons_zero]; rfl) (by kernel_rfl) (by kernel_rfl) (by kernel_rfl) (by intro _ _ _ h; exact h) (by rfl) (fun W hW => by go_simp; first | done | with_reducible rfl) hS ?_
  try simp only [Act.put, List.setIfInBounds_toArray, List.set_cons_zero, List.set_cons_succ]
  first | (refine take_step (i := 47) (by simp only [List.getElem?_toArray, List.getElem?_cons_succ, List.getElem?_cons_zero]; rfl) (by kernel_rfl) (by kernel_rfl) (by kernel_rfl) (by intro _ _ _ h; exact h) (by rfl) (fun W hW => by go_simp; first | done | with_reducible rfl) hS ?_) | (refine skip_step (i := 47) (by simp only [List.getElem?_toArray, List.getElem?_cons_succ, List.getElem?_cons_zero]; rfl) (by kernel_rfl) (by kernel_rfl) (by kernel_rfl) (by intro _ _ _ h; exact h) (by rfl) hS ?_)
  try simp only [Act.put, List.setIfInBounds_toArray, List.set_cons_zero, List.set_cons_succ]
  first | (refine take_step (i := 48) (by simp only [List.getElem?_toArray, List.getElem?_cons_succ, List.getElem?_cons_zero]; rfl) (by kernel_rfl) (by kernel_rfl) (by kernel_rfl) (by intro _ _ _ h; exact h) (by rfl) (fun W hW => by go_simp; first | done | with_reducible rfl) hS ?_) | (refine skip_step (i := 48) (by simp only [List.getElem?_toArray, List.getElem?_cons_succ, List.getElem?_cons_zero]; rfl) (by kernel_rfl) (by kernel_rfl) (by kernel_rfl) (by intro _ _ _ h; exact h) (by rfl) hS ?_)
  try simp only [Act.put, List.setIfInBounds_toArray, List.set_cons_zero, List.set_cons_succ]
  refine wpAnyH_ready (rs := [49]) (by kernel_rfl) (by simp) ?_
  refine AllReadyH.cons (by simp only [List.getElem?_toArray, List.getElem?_cons_succ, List.getElem?_cons_zero]; rfl) (fun K hK => ?_) AllReadyH.nil
  go_simp
  go_fit (HJN.out _ hS)
  rintro e wj ⟨Aj, mj, cj, rfl, hj, hbj⟩
  have hS49 := Beyond.step hS hbj
  have HCj := hid hj
  clear hj hbj
  refine hK.out _ _ (by assumption) (fun _ => ?_)
  clear hK K hS
  have hS := hS49
  try simp only [Act.put, List.setIfInBounds_toArray, List.set_cons_zero, List.set_cons_succ]
  refine wpAnyH_ready (rs := [50]) (by kernel_rfl) (by simp) ?_
  refine AllReadyH.cons (by simp only [List.getElem?_toArray, List.getElem?_cons_succ, List.getElem?_cons_zero]; rfl) (fun K hK => ?_) AllReadyH.nil
  go_simp
  go_fit (HX.out _)
  rintro e wk ⟨Ak, rfl, hk, hbk⟩
  have hS50 := Beyond.step hS hbk
  have HCk := hid hk
  have HCi := hid (show CS wk wk.heap.size Aj mj cj exC from (HCj.out.step hbk).more hbk.size (Nat.le_refl _))
  clear hk hbk HCj
  refine hK.out _ _ (by assumption) (fun _ => ?_)
  clear hK K hS
  have hS := hS50
  try simp only [Act.put, List.setIfInBounds_toArray, List.set_cons_zero, List.set_cons_succ]
  refine wpAnyH_ready (rs := [51]) (by kernel_rfl) (by simp) ?_
  refine AllReadyH.cons (by simp only [List.getElem?_toArray, List.getElem?_cons_succ, List.getElem?_cons_zero]; rfl) (fun K hK => ?_) AllReadyH.nil
  go_simp
  go_fit (HSA.out _ _ _ _ _ HCi.out HCk.out)
  rintro e wl ⟨rfl, hbl⟩
  have hS51 := Beyond.step hS hbl
  clear hbl
  refine hK.out _ _ (by assumption) (fun _ => ?_)
  clear hK K hS
  have hS := hS51
  try simp only [Act.put, List.setIfInBounds_toArray, List.set_cons_zero, List.set_cons_succ]
  refine take_step (i := 52) (by simp only [List.getElem?_toArray, List.getElem?_cons_succ, List.getElem?_cons_zero]; rfl) (by kernel_rfl) (by kernel_rfl) (by kernel_rfl) (by intro _ _ _ h; exact h) (by rfl) (fun W hW => by go_simp; first | done | with_reducible rfl) hS ?_
  try simp only [Act.put, List.setIfInBounds_toArray, List.set_cons_zero, List.set_cons_succ]
  refine take_step (i := 53) (by simp only [List.getElem?_toArray, List.getElem?_cons_succ, List.getElem?_cons_zero]; rfl) (by kernel_rfl) (by kernel_rfl) (by kernel_rfl) (by intro _ _ _ h; exact h) (by rfl) (fun W hW => by go_simp; first | done | with_reducible rfl) hS ?_
  try simp only [Act.put, List.setIfInBounds_toArray, List.set_cons_zero]
  refine wpAnyH_done (by kernel_rfl) ?_ _
  have HFN := hid (below_step HW9.out hS51)
  go_wp2_with fail
  go_ret
  exact ⟨rfl, HFN.out⟩

end Go.Proofs.YtikggbopoajcbaaDoor
