/-
  KeysPrefix: its walk.
-/
import Derived.Test.YticdlmdkjdfmbaaDoorAwake
namespace Go.Proofs.YticdlmdkjdfmbaaDoor
open Go Go.RowKit

theorem range_none {p k : List UInt8} (h : endL p = none) : inB k p [] true = p.isPrefixOf k := by
  have := endL_range p k
  rw [h] at this
  rw [← this, inB, leB_not]
  rfl
theorem range_some {p k e : List UInt8} (h : endL p = some e) : inB k p e false = p.isPrefixOf k := by
  have := endL_range p k
  rw [h] at this
  rw [← this, inB, leB_not]
  rfl

set_option maxHeartbeats 2000000 in
theorem prefix_walk (k p : List UInt8) (w : World) (hT : Table w) :
    Calls Tryd.prog 8 #[.string (bst k), .string (bst p)] w fun e w' => e = .returned (.bool true) ∧ Below w.heap.size w w' := by
  have HT := hid hT
  clear hT
  have z1 := bst_size k
  have z2 := bst_size p
  by_cases hk : 1000 < k.length
  · go_enter Tryd.func8, Tryd.ntmps8
    go_wp2_with fail
    go_fit (awake_yes w HT.out)
    rintro e w1 ⟨rfl, hb1⟩
    go_wp2_with fail
    go_ret
    exact ⟨rfl, hb1⟩
  by_cases ho : 1000 < p.length
  · go_enter Tryd.func8, Tryd.ntmps8
    go_wp2_with fail
    go_fit (awake_yes w HT.out)
    rintro e w1 ⟨rfl, hb1⟩
    go_wp2_with fail
    go_ret
    exact ⟨rfl, hb1⟩
  obtain ⟨B, hB⟩ : ∃ B, B = p.isPrefixOf k := ⟨_, rfl⟩
  have HB := hid (fun w => begins_any k p w)
  rw [← hB] at HB
  have HP := hid (show p.length ≤ 70368744177664 by omega)
  cases he : endL p with
  | none =>
    have HE := hid he
    have HI := hid (fun w => in_any k p [] true w)
    rw [range_none he, ← hB] at HI
    have h0 := bst_toList []
    clear hB he
    go_enter Tryd.func8, Tryd.ntmps8
    go_wp2_with fail
    go_fit (end_no HE.out HP.out)
    rintro e w1 ⟨rfl, hb1⟩
    have HB1 := hid hb1
    clear hb1
    go_wp2_with fail
    go_fit (HB.out w1)
    rintro e w2 ⟨rfl, rfl⟩
    go_wp2_with fail
    go_fit (awake_yes w1 (HT.out.step HB1.out))
    rintro e w2 ⟨rfl, hb2⟩
    have HB2 := hid (below_step HB1.out hb2)
    clear hb2
    go_wp2_with fail
    go_fit (HI.out w2)
    rintro e w3 ⟨rfl, rfl⟩
    go_wp2_with fail
    go_ret
    exact ⟨rfl, HB2.out⟩
  | some en =>
    have HE := hid he
    have HI := hid (fun w => in_any k p en false w)
    rw [range_some he, ← hB] at HI
    have hm := endL_more p en he
    have hl : Op.bytesLess en p = false ∧ (en == p) = false := by
      rcases tri p en with ⟨_, b5, _, b7, _⟩ | ⟨rfl, b4, _⟩ | ⟨b4, _⟩
      · exact ⟨b5, b7⟩
      · rw [b4] at hm; cases hm
      · rw [b4] at hm; cases hm
    obtain ⟨l1, l2⟩ := hl
    have h1 := bst_toList en
    have h2 := bst_toList p
    have HEND := hid (fun w => end_yes (w := w) HE.out HP.out)
    obtain ⟨K, hK⟩ : ∃ K, K = bst en := ⟨_, rfl⟩
    obtain ⟨P, hP⟩ : ∃ P, P = bst p := ⟨_, rfl⟩
    rw [← hK] at h1
    rw [← hP] at h2 z2 ⊢
    rw [← hK, ← hP] at HEND HI
    rw [← hP] at HB
    clear hB he hm hK hP
    go_enter Tryd.func8, Tryd.ntmps8
    go_wp2_with fail
    go_fit (HEND.out w)
    rintro e w1 ⟨rfl, hb1⟩
    have HB1 := hid hb1
    clear hb1
    go_wp2_with fail
    go_fit (HB.out w1)
    rintro e w2 ⟨rfl, rfl⟩
    go_wp2_with fail
    go_fit (awake_yes w1 (HT.out.step HB1.out))
    rintro e w2 ⟨rfl, hb2⟩
    have HB2 := hid (below_step HB1.out hb2)
    clear hb2
    go_wp2_with fail
    go_fit (HI.out w2)
    rintro e w3 ⟨rfl, rfl⟩
    go_wp2_with fail
    go_ret
    exact ⟨rfl, HB2.out⟩

end Go.Proofs.YticdlmdkjdfmbaaDoor
