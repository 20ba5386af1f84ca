/-
  A row of writes of the call's own, as the library's sort sees it; and behind the sort.
-/
import Derived.Test.YtcdjbacljnofiaaStable
import Derived.Test.YtcdjbacljnofiaaStrCmp
import Derived.Test.YtcdjbacljnofiaaWRow
namespace Go.Proofs.Ytcdjbacljnofiaa
open Go Go.RowKit Go.Sort

theorem enc3_len (x : Wt) : (enc3 x).length = 3 := rfl
theorem enc3_one (x : Wt) : ∀ v ∈ enc3 x, v.oneCell' = true := by
  intro v hv
  simp [enc3] at hv
  rcases hv with rfl | rfl | rfl <;> rfl
theorem wcs_enc3 (ws : List Wt) (i c : Nat) (hi : i < ws.length) (hc : c < 3) : (wcs ws)[i * 3 + c]? = some (enc3 ws.toArray[i]!)[c]! := by
  have hx : ws[i]? = some ws[i] := List.getElem?_eq_getElem hi
  have e : ws.toArray[i]! = ws[i] := by
    rw [getElem!_pos ws.toArray i (by simpa using hi)]; simp
  obtain ⟨g0, g1, g2⟩ := wcs_get ws i _ hx
  rw [e]
  rcases (show c = 0 ∨ c = 1 ∨ c = 2 by omega) with rfl | rfl | rfl
  · exact g0
  · exact g1
  · exact g2
theorem WRow.rowK {w : World} {base g n c : Nat} {ws : List Wt} (h : WRow w base (some ⟨g, 0, none⟩) n c ws) : RowK enc3 3 w g 0 ws.toArray ∧ base ≤ g ∧ g < w.heap.size := by
  obtain ⟨hn, hown⟩ := h
  subst hn
  rcases hown.2 with ⟨hv, _⟩ | ⟨g', cap, cur, hv, hb, hg, hnc, hcm, hcs, htk⟩
  · cases hv
  · have hgg : g = g' := by injection hv with hv; injection hv with hv; injection hv
    subst hgg
    have hlt : g < w.heap.size := (Array.getElem?_eq_some_iff.1 hg).1
    refine ⟨⟨enc3_len, enc3_one, ?_, hlt⟩, hb, hlt⟩
    intro j hj
    rw [size_flatK, List.size_toArray] at hj
    rw [get_flatK _ _ _ _ (by rw [List.size_toArray]; exact hj)]
    have hw := wcs_enc3 ws (j / 3) (j % 3) (by omega) (Nat.mod_lt _ (by decide))
    have e : j / 3 * 3 + j % 3 = j := by omega
    rw [e] at hw
    have hc := hown.cells (g := g) rfl _ _ hw
    have ea : (⟨g, 0, none⟩ : Addr).add j = ⟨g, 0 + j, none⟩ := by unfold Addr.add; split <;> simp_all
    rw [ea] at hc
    refine ⟨hc, ?_⟩
    unfold World.frozen?
    simp [hg]
theorem sw_block {w : World} {g n : Nat} {d : Array Wt} {os : Array Obj} {cur : Array Value} {e : TypeId} {fr : Nat × Nat} (hg : w.heap[g]? = some (.cells cur e fr)) :
    ∃ cur', (sortWorldK enc3 3 w g 0 n d os).heap[g]? = some (.cells cur' e fr) ∧ cur'.size = cur.size := by
  have hlt : g < w.heap.size := (Array.getElem?_eq_some_iff.1 hg).1
  unfold sortWorldK
  rw [heap_grow_old _ _ (by rw [size_putRowK]; exact hlt)]
  unfold putRowK putRow mapBlock Sort.ahead
  simp only [Array.getElem?_modify, if_true, hg, Option.map_some, onCells]
  exact ⟨_, rfl, by simp [putCells]⟩
theorem sw_below {w : World} {g n base : Nat} {d : Array Wt} {os : Array Obj} (hb : base ≤ g) (hle : base ≤ w.heap.size) : Below base w (sortWorldK enc3 3 w g 0 n d os) := by
  refine ⟨rfl, rfl, rfl, size_sortWorldK_c enc3 3 w g 0 n d os, fun k hk => ?_⟩
  unfold sortWorldK
  rw [heap_grow_old _ _ (by rw [size_putRowK]; show k < w.heap.size; omega)]
  unfold putRowK putRow mapBlock Sort.ahead
  simp only [Array.getElem?_modify]
  rw [if_neg (by omega)]
/-- behind the sort: the row holds what was sorted -/
theorem WRow.sorted {w w' : World} {base g n c : Nat} {ws ws' : List Wt} {d' : Array Wt} (h : WRow w base (some ⟨g, 0, none⟩) n c ws) (hle : base ≤ w.heap.size) (hd : d'.toList = ws') (hl : ws'.length = ws.length) (S : SWK enc3 3 w g 0 d' w') :
    WRow w' base (some ⟨g, 0, none⟩) n c ws' ∧ Below base w w' := by
  obtain ⟨R, hb, hlt⟩ := h.rowK
  have hsz : d'.size = ws.toArray.size := by have h1 := Array.length_toList (xs := d'); rw [hd] at h1; rw [← h1, hl]; simp
  have hH := S.holds R.hblk R.hH hsz
  obtain ⟨hn, hown⟩ := h
  subst hn
  rcases hown.2 with ⟨hv, _⟩ | ⟨g', cap, cur, hv, _, hg, hnc, hcm, hcs, htk⟩
  · cases hv
  · have hgg : g = g' := by injection hv with hv; injection hv with hv; injection hv
    subst hgg
    obtain ⟨m, os, rfl⟩ := S
    obtain ⟨cur', hg', hcs'⟩ := sw_block (n := m) (d := d') (os := os) hg
    refine ⟨⟨hl.symm, by rw [wcs_length, hl], .inr ⟨g, cap, cur', hv, hb, hg', hnc, hcm, by rw [hcs']; exact hcs, ?_⟩⟩, sw_below hb hle⟩
    have hcapl : ws.length * 3 ≤ cur'.size := by rw [hcs', hcs]; exact Nat.mul_le_mul_right 3 hnc
    apply List.ext_getElem?
    intro j
    by_cases hj : j < ws.length * 3
    · rw [List.getElem?_take, if_pos hj]
      have hw := wcs_enc3 ws' (j / 3) (j % 3) (by omega) (Nat.mod_lt _ (by decide))
      have e : j / 3 * 3 + j % 3 = j := by omega
      rw [e] at hw
      rw [hw]
      have hjs : j < d'.size * 3 := by rw [hsz, List.size_toArray]; exact hj
      have hc := (hH j (by rw [size_flatK]; exact hjs)).1
      rw [get_flatK _ _ _ _ hjs, Nat.zero_add] at hc
      have hd2 : ws'.toArray = d' := by rw [← hd]
      rw [hd2]
      have hcell := cell_of_row _ _ j _ _ _ hg'
      rw [hcell] at hc
      rw [Array.getElem?_toList]
      exact hc
    · rw [List.getElem?_eq_none (by rw [List.length_take]; omega), List.getElem?_eq_none (by rw [wcs_length, hl]; omega)]

end Go.Proofs.Ytcdjbacljnofiaa
