/-
  The document's sealing and opening, by their contracts.
-/
import Derived.Test.YtlcnjkonlnfnfaaDoorRefMore
import Derived.Test.YtlcnjkonlnfnfaaDoorJSum
namespace Go.Proofs.YtlcnjkonlnfnfaaDoor
open Go Go.RowKit

theorem sum4_cells (l : List UInt8) (v : Int) (hv : v = v32 (more 0#32 l)) :
    #[Value.int .u8 (v / (16777216 : Int)), .int .u8 (v / (65536 : Int) % (256 : Int)), .int .u8 (v / (256 : Int) % (256 : Int)), .int .u8 (v % (256 : Int))] = (bs (sum4 l)).toArray := by
  have h := (more 0#32 l).isLt
  have e : v = ((more 0#32 l).toNat : Int) := hv
  obtain ⟨n, hn⟩ : ∃ n, n = (more 0#32 l).toNat := ⟨_, rfl⟩
  rw [← hn] at e h
  have e4 : sum4 l = [UInt8.ofNat (n / 256 ^ 3), UInt8.ofNat (n / 256 ^ 2), UInt8.ofNat (n / 256 ^ 1), UInt8.ofNat (n / 256 ^ 0)] := by
    unfold sum4
    rw [← hn]
    rfl
  rw [e4, e]
  simp only [bs, List.map_cons, List.map_nil, UInt8.toNat_ofNat']
  congr 1
  simp only [List.cons.injEq, Value.int.injEq, true_and, and_true]
  omega

theorem sum4_conv (l : List UInt8) (v : Int) (hv : v = v32 (more 0#32 l)) (W : World) :
    (convert 26 9 (.slice (some ⟨W.heap.size, 0, none⟩) 4 4)).run Tryd.prog
      (W.alloc (.cells #[Value.int .u8 (v / (16777216 : Int)), .int .u8 (v / (65536 : Int) % (256 : Int)), .int .u8 (v / (256 : Int) % (256 : Int)), .int .u8 (v % (256 : Int))] 5)) =
    .ok (.string (bst (sum4 l))) (W.alloc (.cells #[Value.int .u8 (v / (16777216 : Int)), .int .u8 (v / (65536 : Int) % (256 : Int)), .int .u8 (v / (256 : Int) % (256 : Int)), .int .u8 (v % (256 : Int))] 5)) := by
  rw [sum4_cells l v hv]
  exact str_of (At.lits W (sum4 l) 5 rfl) (sum4_length l).symm

set_option maxHeartbeats 400000 in
theorem refSeal_any (l : List UInt8) (w : World) (hl : l.length ≤ 70368744177664) :
    Calls Tryd.prog 17 #[.string (bst l)] w fun e w' => e = .returned (.string (bst (l ++ sum4 l))) ∧ Below w.heap.size w w' := by
  have hz := bst_size l
  have hz2 := bst_size (sum4 l)
  rw [sum4_length] at hz2
  have hap := bst_append l (sum4 l)
  obtain ⟨v, hv⟩ : ∃ v, v = v32 (more 0#32 l) := ⟨_, rfl⟩
  have h0 := v32_lo (more 0#32 l)
  have h1 := v32_hi (more 0#32 l)
  have HO := hid (refOf_any l w hl)
  rw [← hv] at h0 h1 HO
  have hcv := sum4_conv l v hv
  clear hv
  go_enter Tryd.func17, Tryd.ntmps17
  go_wp2_with fail
  go_fit HO.out
  rintro e w1 ⟨rfl, rfl⟩
  go_wp2_with fail
  go_ret
  exact ⟨rfl, (Below.refl _ _).alloc (Nat.le_refl _) _⟩

end Go.Proofs.YtlcnjkonlnfnfaaDoor
