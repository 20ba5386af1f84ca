/-
  KeysIn: its walk.
-/
import Derived.Test.YticdlmdkjdfmbaaDoorAwake
namespace Go.Proofs.YticdlmdkjdfmbaaDoor
open Go Go.RowKit

set_option maxHeartbeats 2000000 in
theorem in_walk (k f t : List UInt8) (w : World) (hT : Table w) :
    Calls Tryd.prog 10 #[.string (bst k), .string (bst f), .string (bst t)] w fun e w' => e = .returned (.bool true) ∧ Below w.heap.size w w' := by
  have HT := hid hT
  clear hT
  have h1 := bst_toList k
  have h2 := bst_toList f
  have h3 := bst_toList t
  obtain ⟨T, hT⟩ : ∃ T, T = bst t := ⟨_, rfl⟩
  rcases tri f k with ⟨h4, h5, h6, h7, h8⟩ | ⟨rfl, h4, h8⟩ | ⟨h4, h5, h6, h7, h8⟩
  · obtain ⟨K, hK⟩ : ∃ K, K = bst k := ⟨_, rfl⟩
    obtain ⟨F, hF⟩ : ∃ F, F = bst f := ⟨_, rfl⟩
    have HI := hid (fun o w => in_any k f t o w)
    unfold inB at HI
    rw [← hK, ← hF, ← hT, h8] at HI
    rw [← hK] at h1 ⊢
    rw [← hF] at h2 ⊢
    rw [← hT] at h3 ⊢
    clear hK hF hT h8
    go_enter Tryd.func10, Tryd.ntmps10
    go_wp2_with fail
    go_fit (awake_yes w HT.out)
    rintro e w1 ⟨rfl, hb1⟩
    have HB1 := hid hb1
    clear hb1
    go_wp2_with fail
    go_fit (HI.out false w1)
    rintro e w2 ⟨rfl, rfl⟩
    go_wp2_with fail
    go_fit (HI.out true w1)
    rintro e w2 ⟨rfl, rfl⟩
    go_wp2_with fail
    go_ret
    exact ⟨rfl, HB1.out⟩
  · obtain ⟨K, hK⟩ : ∃ K, K = bst f := ⟨_, rfl⟩
    have HI := hid (fun o w => in_any f f t o w)
    unfold inB at HI
    rw [← hK, ← hT, h8] at HI
    rw [← hK] at h1 ⊢
    rw [← hT] at h3 ⊢
    clear hK hT h8 h2
    go_enter Tryd.func10, Tryd.ntmps10
    go_wp2_with fail
    go_fit (awake_yes w HT.out)
    rintro e w1 ⟨rfl, hb1⟩
    have HB1 := hid hb1
    clear hb1
    go_wp2_with fail
    go_fit (HI.out false w1)
    rintro e w2 ⟨rfl, rfl⟩
    go_wp2_with fail
    go_fit (HI.out true w1)
    rintro e w2 ⟨rfl, rfl⟩
    go_wp2_with fail
    go_ret
    exact ⟨rfl, HB1.out⟩
  · obtain ⟨K, hK⟩ : ∃ K, K = bst k := ⟨_, rfl⟩
    obtain ⟨F, hF⟩ : ∃ F, F = bst f := ⟨_, rfl⟩
    have HI := hid (fun o w => in_any k f t o w)
    unfold inB at HI
    rw [← hK, ← hF, ← hT, h8] at HI
    rw [← hK] at h1 ⊢
    rw [← hF] at h2 ⊢
    rw [← hT] at h3 ⊢
    clear hK hF hT h8
    go_enter Tryd.func10, Tryd.ntmps10
    go_wp2_with fail
    go_fit (awake_yes w HT.out)
    rintro e w1 ⟨rfl, hb1⟩
    have HB1 := hid hb1
    clear hb1
    go_wp2_with fail
    go_fit (HI.out false w1)
    rintro e w2 ⟨rfl, rfl⟩
    go_wp2_with fail
    go_fit (HI.out true w1)
    rintro e w2 ⟨rfl, rfl⟩
    go_wp2_with fail
    go_ret
    exact ⟨rfl, HB1.out⟩

end Go.Proofs.YticdlmdkjdfmbaaDoor
