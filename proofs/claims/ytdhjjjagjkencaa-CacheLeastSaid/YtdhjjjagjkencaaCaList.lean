/-
  The landed cache: List.
-/
import Derived.Test.YtdhjjjagjkencaaEach
namespace Go.Proofs.Ytdhjjjagjkencaa
open Go Go.RowKit

theorem take_next {α : Type} {l : List α} {j : Nat} {x : α} (h : l[j]? = some x) : l.take (j + 1) = l.take j ++ [x] := by
  obtain ⟨hh, e⟩ := List.getElem?_eq_some_iff.1 h
  rw [List.take_succ_eq_append_getElem hh, e]
set_option maxHeartbeats 4000000 in
set_option maxRecDepth 100000 in
theorem list_any {S : Nat → Prop} {w : World} {cb room : Nat} {l : List En} (h : CA S w cb room l) (hl : l.length ≤ 100000) :
    Calls Try.prog 18 #[(.pointer (some ⟨cb, 0, none⟩))] w fun e w' => ∃ A m c, e = .returned (.slice A m c) ∧ GRow eEn 32 w' (w.heap.size + 1) A m c l ∧ Below w.heap.size w w' := by
  obtain ⟨mb, eb, ps, vl, pv, nx, m, hc, hll, hS⟩ := h.out
  have hb1 := (Below.refl w.heap.size w).alloc (Nat.le_refl _) (.cells #[.slice none 0 0] 28)
  have HS1 := hid (ESlot.made w)
  have eg := enters_of (P := Try.prog) Try.func30 (by kernel_rfl) (by kernel_rfl)
  have hlt : ∀ k, k = eb ∨ k ∈ ps → k < w.heap.size := fun k hk => hc.lt (.inr (.inr hk))
  have hpl : ps.length ≤ 100000 := by rw [hll] at hl; simpa using hl
  have HE := hid (each_any (f := 30) (cap := w.heap.size) eg (I := fun j W => CaIn W cb room mb eb ps vl pv nx m ∧ ESlot W w.heap.size ((ps.take j).map vl) ∧ Below w.heap.size w W)
    (fun j W hI => ⟨vl, pv, nx, m, hI.1⟩)
    (fun j W p hp hI => (keepL_is hI.2.1 (hI.1.nodes.at_ p (.inr (List.mem_of_getElem? hp))) (by have := List.length_take_le j ps; simp; omega)).mono fun e w' ⟨e1, e2, e3⟩ => ⟨e1, hI.1.keep (fun k hk => e3.block k (hc.lt hk)), by rw [take_next hp, List.map_append]; exact e2, hI.2.2.trans e3⟩)
    (w := w.alloc (.cells #[.slice none 0 0] 28)) ⟨hc.step hb1, by simpa using HS1.out, hb1⟩)
  rw [List.take_of_length_le (Nat.le_refl _), ← hll] at HE
  clear h hl hc hll hS hb1 eg hlt hpl HS1
  go_enter Try.func18, Try.ntmps18
  go_wp2_with fail
  go_fit HE.out
  rintro e w2 ⟨rfl, h1, h2, h3⟩
  obtain ⟨A, m', c', hb, hr⟩ := h2
  have c0 := hb.cell 0
  have HR := hid (And.intro hr h3)
  clear h1 h3 hb hr HE
  go_wp2_with fail
  go_ret
  exact ⟨A, m', c', rfl, HR.out.1, HR.out.2⟩

end Go.Proofs.Ytdhjjjagjkencaa
