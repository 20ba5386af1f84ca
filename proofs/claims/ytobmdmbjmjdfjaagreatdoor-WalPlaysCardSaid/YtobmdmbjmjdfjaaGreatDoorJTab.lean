/-
  From a walk to its card: what all laws of this seat share. The table of widths: what it holds, and that it stays.
-/
import Derived.Test.YtobmdmbjmjdfjaaGreatDoorJBytes
import Derived.Test.YtobmdmbjmjdfjaaGreatDoorCards
import Derived.Test.YtobmdmbjmjdfjaaGreatDoorTie
import Derived.Deep.DeepHandedRow
import Derived.Lib.LaidTab
namespace Go.Proofs.YtobmdmbjmjdfjaaGreatDoor
open Go Go.RowKit Go.ChangeShapes Go.WideShapes Go.ChangeAt

theorem own : ownKnob Tryz.prog.godebug = none := by kernel_rfl

def Table (w : World) : Prop := ∀ k : Nat, k < 9 → w.cell? ⟨0, k, none⟩ = some (.int .u64 (8 * (k : Int)))

theorem Table.below {w w' : World} (h : Table w) (h0 : 0 < w.heap.size) (hb : Below w.heap.size w w') : Table w' := fun k hk => (hb.cell (p := ⟨0, k, none⟩) h0).trans (h k hk)
theorem Table.pos {w : World} (h : Table w) : 0 < w.heap.size := World.block_lt_of_cell? w _ (h 0 (by decide))
theorem Table.alloc {w : World} (h : Table w) (o : Obj) : Table (w.alloc o) := fun k hk => (World.cell?_alloc_lt w o _ (by exact h.pos)).trans (h k hk)

theorem Table.step {w w' : World} (h : Table w) (hb : Below w.heap.size w w') : Table w' := h.below h.pos hb
theorem Beyond.table {w w' : World} (h : Beyond w w') (hT : Table w) : Table w' := hT.step h

theorem gTab : Tryz.prog.globalNamed "lapstone/num.widthBits" = some 0 := by kernel_rfl
theorem gTabType : (Tryz.prog.globals[0]?).map (·.type) = some 167 := by kernel_rfl
theorem cellsTab : Tryz.prog.cellsOf 167 = 9 := by kernel_rfl
theorem cellsUint : Tryz.prog.cellsOf 166 = 1 := by kernel_rfl

theorem table {W : World} (h : laidMetH Tryz.prog [("lapstone/num.widthBits", Rows.laid_lapstone_num_widthBits)] W) : Table W := by
  have t : Lib.TabIs Tryz.prog W "lapstone/num.widthBits" .u64 [0, 8, 16, 24, 32, 40, 48, 56, 64] :=
    Lib.tabIs_of_head (rest := []) gTab gTabType Tryz.underlying167 Tryz.underlying166 cellsUint cellsTab h
  intro k hk
  match k, hk with
  | 0, _ => exact t.cell gTab 0 (by decide)
  | 1, _ => exact t.cell gTab 1 (by decide)
  | 2, _ => exact t.cell gTab 2 (by decide)
  | 3, _ => exact t.cell gTab 3 (by decide)
  | 4, _ => exact t.cell gTab 4 (by decide)
  | 5, _ => exact t.cell gTab 5 (by decide)
  | 6, _ => exact t.cell gTab 6 (by decide)
  | 7, _ => exact t.cell gTab 7 (by decide)
  | 8, _ => exact t.cell gTab 8 (by decide)
  | k + 9, h => exact absurd h (by omega)

noncomputable def laidWorld (os : Os) : World :=
  { World.holding Tryz.prog os ⟨#[], #[], []⟩ with heap := (World.holding Tryz.prog os ⟨#[], #[], []⟩).heap.modify 0 fun
      | .cells _ t frozen => .cells #[.int .u64 0, .int .u64 8, .int .u64 16, .int .u64 24, .int .u64 32, .int .u64 40, .int .u64 48, .int .u64 56, .int .u64 64] t frozen
      | o => o }

end Go.Proofs.YtobmdmbjmjdfjaaGreatDoor
