/-
  Rows of records, by the generic rows.
-/
import Derived.Test.YtobmdmbjmjdfjaaGreatDoorJRec
import Derived.Test.YtobmdmbjmjdfjaaGreatDoorJBytes
namespace Go.Proofs.YtobmdmbjmjdfjaaGreatDoor
open Go Go.RowKit

theorem GAt.grownIn {α : Type} {E : Enc α} {w w' : World} {B : Nat} {A : Option Addr} {l : List α} (h : GAt E w B A l) {row : Option Nat} (hg : w.grownBy w' row) (hB : B ≤ w.heap.size) (hne : In (fun q => some q ≠ row) A l) : GAt E w' B A l := fun hl => by
  obtain ⟨b, off, e, hb, hc⟩ := h hl
  exact ⟨b, off, e, hb, fun i x j u hi hu => (World.cell?_of_block (a := ⟨b, _, none⟩) (hg.block b (by omega) (hne b off e hl))).trans (hc i x j u hi hu)⟩
def eRc : Enc Rc := ⟨2, fun x => [.int .u64 (x.1 : Int), .string (bst x.2)], fun _ => rfl, fun _ u h => by simp at h; rcases h with rfl | rfl <;> rfl, by decide⟩
theorem gi_rc : GInfo eRc Tryz.prog 38 70 24 := by
  obtain ⟨i0, hi, hz0, hz1, hz2⟩ := info_parts info_rc
  exact ⟨Tryz.underlying38, i0, _, hi, hz0, hz1, hz2, rfl⟩
theorem RcRow.g {w : World} {base m c : Nat} {A : Option Addr} {l : List Rc} (h : RcRow w base A m c l) : GRow eRc 70 w base A m c l := h
theorem GAt.rc {w : World} {B i : Nat} {A : Option Addr} {l : List Rc} (h : GAt eRc w B A l) (hi : i < l.length) : ∃ b off x, A = some ⟨b, off, none⟩ ∧ b < B ∧ l[i]? = some x ∧ w.cell? ⟨b, off + i * 2, none⟩ = some (.int .u64 (x.1 : Int)) ∧ w.cell? ⟨b, off + i * 2 + 1, none⟩ = some (.string (bst x.2)) := by
  obtain ⟨b, off, x, e, hb, hx, hc⟩ := h.get hi
  exact ⟨b, off, x, e, hb, hx, hc 0 _ rfl, hc 1 _ rfl⟩

end Go.Proofs.YtobmdmbjmjdfjaaGreatDoor
