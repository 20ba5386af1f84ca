/-
  The document's Put of a record.
-/
import Derived.Test.YtlcnjkonlnfnfaaDoorRec
import Derived.Test.YtlcnjkonlnfnfaaDoorRefText
import Derived.Test.YtlcnjkonlnfnfaaDoorRefSeal
import Derived.Test.YtlcnjkonlnfnfaaDoorRefNum
import Derived.Test.YtlcnjkonlnfnfaaDoorJBytes
namespace Go.Proofs.YtlcnjkonlnfnfaaDoor
open Go Go.RowKit

set_option maxHeartbeats 2000000 in
theorem refRPut_no (q : Int) (b : List UInt8) (w : World) (hb : 32768 < b.length) :
    Calls Tryd.prog 10 #[.agg #[.int .u64 q, .string (bst b)]] w fun e w' => e = .returned (.tuple #[.string (bst []), .int .i64 70]) ∧ Below w.heap.size w w' := by
  have z := bst_size b
  go_enter Tryd.func10, Tryd.ntmps10
  go_wp2_with fail
  go_ret2
  exact ⟨rfl, (Below.refl _ _).alloc (Nat.le_refl _) _⟩

set_option maxHeartbeats 8000000 in
theorem refRPut_yes (q : Nat) (b : List UInt8) (w : World) (hq : q < 18446744073709551616) (hb : b.length ≤ 32768) :
    Calls Tryd.prog 10 #[.agg #[.int .u64 (q : Int), .string (bst b)]] w fun e w' => e = .returned (.tuple #[.string (bst (renc q b)), .int .i64 0]) ∧ Below w.heap.size w w' := by
  have z := bst_size b
  have HVAR := hid (fun (W : World) => refVar_any q W hq)
  have HTXT := hid (fun (W : World) => refText_any b W (by omega))
  have hfl := rfld_length q b
  have hsl := rsealed_length q b
  have hv1 := vlen_le q
  have hv2 := vlen_le b.length
  have HSL := hid (fun (W : World) => refSeal_any (rfld q b) W (by omega))
  have HPT := hid (fun (W : World) => refPut_yes (rsealed q b).length 4 W (by decide) (by decide) (by omega))
  have e1 : bst (vbytes q) ++ bst (vbytes b.length ++ b) = bst (rfld q b) := bst_append _ _
  have e2 : bst (be (rsealed q b).length 4) ++ bst (rsealed q b) = bst (renc q b) := bst_append _ _
  have z1 : (bst (vbytes q)).size = vlen q := by rw [bst_size, vbytes_length]
  have z2 : (bst (vbytes b.length ++ b)).size = vlen b.length + b.length := by rw [bst_size, List.length_append, vbytes_length]
  have z3 : (bst (be (rsealed q b).length 4)).size = 4 := by rw [bst_size, be_length]
  have z4 := bst_size (rsealed q b)
  have hs1 : ¬ 9223372036854775807 < (bst (vbytes q)).size + (bst (vbytes b.length ++ b)).size := by omega
  have hs2 : ¬ 9223372036854775807 < (bst (be (rsealed q b).length 4)).size + (bst (rsealed q b)).size := by omega
  rw [show rfld q b ++ sum4 (rfld q b) = rsealed q b from rfl] at HSL
  obtain ⟨L, hL⟩ : ∃ L, L = (rsealed q b).length := ⟨_, rfl⟩
  rw [← hL] at HPT e2 z3 z4 hs2 hsl
  have hL2 : L ≤ 40000 := by omega
  have hd : (L / 256 ^ 4 == 0) = true := by rw [Nat.div_eq_of_lt (by omega)]; rfl
  rw [hd] at HPT
  have HB1 := hid (show Below w.heap.size w (w.alloc (.cells #[.int .u64 (q : Int), .string (bst b)] 24)) from (Below.refl _ _).alloc (Nat.le_refl _) _)
  have hbk := Blk.new w 24 #[.int .u64 (q : Int), .string (bst b)]
  have hc0 : ∀ W, Beyond (w.alloc (.cells #[.int .u64 (q : Int), .string (bst b)] 24)) W → W.cell? ⟨w.heap.size, 0, none⟩ = some (.int .u64 (q : Int)) := fun W hW => (hbk.below hW hbk.lt).cell 0
  have hc1 : ∀ W, Beyond (w.alloc (.cells #[.int .u64 (q : Int), .string (bst b)] 24)) W → W.cell? ⟨w.heap.size, 1, none⟩ = some (.string (bst b)) := fun W hW => (hbk.below hW hbk.lt).cell 1
  clear hq hfl hsl hv1 hv2 hL hd hbk z1 z2 z3
  go_enter Tryd.func10, Tryd.ntmps10
  go_wp2_with fail
  generalize w.alloc (.cells #[.int .u64 (q : Int), .string (bst b)] 24) = w1 at *
  refine wp_region_held_drew (S := Beyond w1) (by kernel_rfl) (Beyond.drew _) (fun hS => ?_)
  refine take_step (i := 0) (by simp only [List.getElem?_toArray, List.getElem?_cons_zero]; rfl) (by kernel_rfl) (by kernel_rfl) (by kernel_rfl) (by intro _ _ _ h; exact h) (by rfl) (fun W hW => by go_simp; first | done | with_reducible rfl) hS ?_
  try simp only [Act.put, List.setIfInBounds_toArray, List.set_cons_zero, List.set_cons_succ]
  refine take_step (i := 1) (by simp only [List.getElem?_toArray, List.getElem?_cons_succ, List.getElem?_cons_zero]; rfl) (by kernel_rfl) (by kernel_rfl) (by kernel_rfl) (by intro _ _ _ h; exact h) (by rfl) (fun W hW => by go_simp; first | done | with_reducible rfl) hS ?_
  try simp only [Act.put, List.setIfInBounds_toArray, List.set_cons_zero, List.set_cons_succ]
  refine take_step (i := 3) (by simp only [List.getElem?_toArray, List.getElem?_cons_succ, List.getElem?_cons_zero]; rfl) (by kernel_rfl) (by kernel_rfl) (by kernel_rfl) (by intro _ _ _ h; exact h) (by rfl) (fun W hW => by go_simp; first | done | with_reducible rfl) hS ?_
  try simp only [Act.put, List.setIfInBounds_toArray, List.set_cons_zero, List.set_cons_succ]
  refine take_step (i := 4) (by simp only [List.getElem?_toArray, List.getElem?_cons_succ, List.getElem?_cons_zero]; rfl) (by kernel_rfl) (by kernel_rfl) (by kernel_rfl) (by intro _ _ _ h; exact h) (by rfl) (fun W hW => by go_simp; first | done | with_reducible rfl) hS ?_
  try simp only [Act.put, List.setIfInBounds_toArray, List.set_cons_zero, List.set_cons_succ]
  refine wpAnyH_ready (rs := [2]) (by kernel_rfl) (by simp) ?_
  refine AllReadyH.cons (by simp only [List.getElem?_toArray, List.getElem?_cons_succ, List.getElem?_cons_zero]; rfl) (fun K hK => ?_) AllReadyH.nil
  go_simp
  go_fit (HVAR.out _)
  rintro e w3 ⟨rfl, hb3⟩
  have hS2 := Beyond.step hS hb3
  clear hb3
  refine hK.out _ _ (by assumption) (fun _ => ?_)
  clear hK K hS
  have hS := hS2
  try simp only [Act.put, List.setIfInBounds_toArray, List.set_cons_zero, List.set_cons_succ]
  refine wpAnyH_ready (rs := [5]) (by kernel_rfl) (by simp) ?_
  refine AllReadyH.cons (by simp only [List.getElem?_toArray, List.getElem?_cons_succ, List.getElem?_cons_zero]; rfl) (fun K hK => ?_) AllReadyH.nil
  go_simp
  go_fit (HTXT.out _)
  rintro e w4 ⟨rfl, hb4⟩
  have hS5 := Beyond.step hS hb4
  clear hb4
  refine hK.out _ _ (by assumption) (fun _ => ?_)
  clear hK K hS
  have hS := hS5
  try simp only [Act.put, List.setIfInBounds_toArray, List.set_cons_zero, List.set_cons_succ]
  refine take_step (i := 6) (by simp only [List.getElem?_toArray, List.getElem?_cons_succ, List.getElem?_cons_zero]; rfl) (by kernel_rfl) (by kernel_rfl) (by kernel_rfl) (by intro _ _ _ h; exact h) (by rfl) (fun W hW => by go_simp; first | done | with_reducible rfl) hS ?_
  try simp only [Act.put, List.setIfInBounds_toArray, List.set_cons_zero, List.set_cons_succ]
  refine wpAnyH_ready (rs := [7]) (by kernel_rfl) (by simp) ?_
  refine AllReadyH.cons (by simp only [List.getElem?_toArray, List.getElem?_cons_succ, List.getElem?_cons_zero]; rfl) (fun K hK => ?_) AllReadyH.nil
  go_simp
  go_fit (HSL.out _)
  rintro e w5 ⟨rfl, hb5⟩
  have hS7 := Beyond.step hS hb5
  clear hb5
  refine hK.out _ _ (by assumption) (fun _ => ?_)
  clear hK K hS
  have hS := hS7
  try simp only [Act.put, List.setIfInBounds_toArray, List.set_cons_zero, List.set_cons_succ]
  refine take_step (i := 8) (by simp only [List.getElem?_toArray, List.getElem?_cons_succ, List.getElem?_cons_zero]; rfl) (by kernel_rfl) (by kernel_rfl) (by kernel_rfl) (by intro _ _ _ h; exact h) (by rfl) (fun W hW => by go_simp; first | done | with_reducible rfl) hS ?_
  try simp only [Act.put, List.setIfInBounds_toArray, List.set_cons_zero, List.set_cons_succ]
  refine wpAnyH_done (by kernel_rfl) ?_ _
  have HB5 := hid (below_step HB1.out hS)
  clear hS hc0 hc1
  go_wp2_with fail
  go_fit (HPT.out _)
  rintro e w6 ⟨rfl, hb6⟩
  have HB6 := hid (below_step HB5.out hb6)
  clear hb6
  go_wp2_with fail
  go_ret2
  exact ⟨rfl, HB6.out⟩

end Go.Proofs.YtlcnjkonlnfnfaaDoor
