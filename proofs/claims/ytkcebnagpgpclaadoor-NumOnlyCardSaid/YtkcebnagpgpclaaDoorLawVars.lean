/-
  NumVars: its walk.
-/
import Derived.Test.YtkcebnagpgpclaaDoorLawBack
import Derived.Deep.RegionHeld3
namespace Go.Proofs.YtkcebnagpgpclaaDoor
open Go Go.RowKit

/-- the world has gone on from 'w' by blocks of its own alone -/
def Beyond (w w' : World) : Prop := Below w.heap.size w w'
theorem Beyond.drew (w : World) : Beyond w w.drew := (Below.refl _ _).drew
theorem Beyond.step {w a b : World} (h : Beyond w a) (k : Below a.heap.size a b) : Beyond w b := below_step h k
theorem Beyond.table {w w' : World} (h : Beyond w w') (hT : Table w) : Table w' := hT.step h

set_option maxHeartbeats 2000000 in
theorem vars_walk (s : List UInt8) (v : Int) (hv : 0 ≤ v ∧ v < 18446744073709551616) (w : World) (hT : Table w) :
    Calls Tryd.prog 5 #[.string (bst s), .int .u64 v] w fun e w' => e = .returned (.bool true) ∧ Below w.heap.size w w' := by
  have HT := hid hT
  have hz := bst_size s
  clear hT
  obtain ⟨V, rfl⟩ : ∃ V : Nat, v = V := ⟨v.toNat, by omega⟩
  have HV := hid (show V < 18446744073709551616 by omega)
  clear hv
  by_cases hlen : 1000 < s.length
  · go_enter Tryd.func5, Tryd.ntmps5
    go_wp2_with fail
    go_fit (awake_yes w HT.out)
    rintro e w1 ⟨rfl, hb1⟩
    go_wp2_with fail
    go_ret
    exact ⟨rfl, hb1⟩
  · have happ := bst_append s (vbytes V)
    have hz2 := bst_size (vbytes V)
    rw [vbytes_length] at hz2
    have hvl := vlen_le V
    go_enter Tryd.func5, Tryd.ntmps5
    go_wp2_with (with_reducible refine wpList_bytes_of _ rfl (.tmp 10) 9 24 5 rfl Tryd.underlying9 Tryd.underlying24 Tryd.underlying5 s rfl ?_; intro A1 c1 w1 hc1 hA1 hb1)
    go_fit (putVar_is (v := V) rfl hA1 (Nat.le_refl _) (by omega) HV.out)
    rintro e w2 ⟨A2, m2, c2, rfl, hr2, hb2⟩
    have HB2 := hid (below_step hb1 hb2)
    have HR := hid hr2
    have hm2 : m2 = s.length + vlen V := by rw [hr2.1, List.length_append, vbytes_length]
    have hmi : (m2 : Int) - (s.length : Int) = (vlen V : Int) := by omega
    clear hA1 hb1 hc1 hr2 hb2 hm2
    go_wp2_with fail
    have hcv : ∀ W, Beyond w2 W → (convert 24 9 (.slice A2 m2 c2)).run Tryd.prog W = .ok (.string (bst (s ++ vbytes V))) W := fun W hW => str_of (HR.out.at_.below hW) HR.out.1
    have HT2 := hid (HT.out.step HB2.out)
    have hstart := Beyond.drew w2
    have hns : ¬ (9223372036854775807 < s.length + vlen V) := by omega
    have hwr : IntKind.i64.wrap ((vlen V : Nat) : Int) = ((vlen V : Nat) : Int) := by rw [IntKind.wrap_i64]; omega
    go_region_held3 (fun W => Beyond w2 W) (first | assumption | exact hk3 | exact hk4) (first
      | (go_at_call 11; refine (awake_yes _ ?_).mono ?_; exact Beyond.table (by assumption) HT2.out; rintro e w3 ⟨rfl, hb3⟩; have hk3 := Beyond.step (by assumption) hb3; clear hb3)
      | (go_at_call 17; refine (refVar_any V _ HV.out).mono ?_; rintro e w4 ⟨rfl, hb4⟩; have hk4 := Beyond.step (by assumption) hb4; clear hb4)
      | (go_at_call 18; refine (size_any V _ HV.out).mono ?_; rintro e w5 ⟨rfl, rfl⟩))
    go_wp2_with fail
    go_ret
    exact ⟨rfl, below_step HB2.out hk4⟩

end Go.Proofs.YtkcebnagpgpclaaDoor
