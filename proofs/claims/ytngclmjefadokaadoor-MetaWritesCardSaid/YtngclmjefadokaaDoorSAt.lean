/-
  A slice of strings in memory.
-/
import Derived.Test.YtngclmjefadokaaDoorJBytes
namespace Go.Proofs.YtngclmjefadokaaDoor
open Go Go.RowKit

/-- a slice of strings -/
def SAt (w : World) (B : Nat) (A : Option Addr) (l : List (List UInt8)) : Prop := 0 < l.length → ∃ b off, A = some ⟨b, off, none⟩ ∧ b < B ∧ ∀ i s, l[i]? = some s → w.cell? ⟨b, off + i, none⟩ = some (.string (bst s))
theorem SAt.get {w w' : World} {B k : Nat} {A : Option Addr} {l : List (List UInt8)} (h : SAt w B A l) (hb : Below B w w') (hk : k < l.length) : ∃ b off, A = some ⟨b, off, none⟩ ∧ w'.cell? ⟨b, off + k, none⟩ = some (.string (bst l[k])) := by
  obtain ⟨b, off, e, hlt, hc⟩ := h (by omega)
  exact ⟨b, off, e, (World.cell?_of_block (a := ⟨b, off + k, none⟩) (hb.block b hlt)).trans (hc k _ (List.getElem?_eq_getElem hk))⟩

end Go.Proofs.YtngclmjefadokaaDoor
