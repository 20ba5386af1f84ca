/-
  From a walk to its card: what all laws of this seat share. The table of widths: what it holds, and that it stays.
-/
import Derived.Test.YtngclmjefadokaaDoorJBytes
import Derived.Test.YtngclmjefadokaaDoorCards
import Derived.Test.YtngclmjefadokaaDoorTie
import Derived.Deep.DeepHandedRow
import Derived.Lib.LaidTab
namespace Go.Proofs.YtngclmjefadokaaDoor
open Go Go.RowKit Go.ChangeShapes Go.WideShapes Go.ChangeAt

theorem own : ownKnob Tryd.prog.godebug = none := by kernel_rfl
/-- a row whose arguments lie in no memory: the call makes blocks of its own alone -/
theorem post_plain {H : Type} {enc : TypeId × Value → H} {P : Program} {f : Func} {s : ChangeSpec} {W W' : World} {args : Array Value} {v : Value} {ds gs : List (DataW H)}
    (hW : DataW.Whole enc P f.params.toList s.vars false W args.toList ds gs [])
    (hres : DataW.TrodAll enc P W' W.heap.size (fun _ => false) false f.resultTypes.toList (v.resultList f.resultTypes.size) (s.fn H (ds ++ gs)).results [])
    (hargs : DataW.TrodAll enc P W' 0 (fun b => decide (b < W.heap.size)) true f.params.toList args.toList (s.fn H (ds ++ gs)).args [])
    (hvars : DataW.TrodVars enc P W' (fun b => decide (b < W.heap.size)) s.vars (s.fn H (ds ++ gs)).vars []) (hb : Below W.heap.size W W') :
    s.post enc P f false true false false W args v W' :=
  ⟨ds, gs, [], [], [], [], hW, hres, hargs, hvars, hb.frame _, fun h => by cases h⟩

end Go.Proofs.YtngclmjefadokaaDoor

namespace Go.Proofs.YtngclmjefadokaaDoor
open Go Go.RowKit Go.ChangeShapes Go.WideShapes Go.ChangeAt

/-- the number of bits of each width, as the table holds it -/
def Table (w : World) : Prop := ∀ k : Nat, k < 9 → w.cell? ⟨0, k, none⟩ = some (.int .u64 (8 * (k : Int)))

theorem Table.below {w w' : World} (h : Table w) (h0 : 0 < w.heap.size) (hb : Below w.heap.size w w') : Table w' := fun k hk => (hb.cell (p := ⟨0, k, none⟩) h0).trans (h k hk)
theorem Table.pos {w : World} (h : Table w) : 0 < w.heap.size := World.block_lt_of_cell? w _ (h 0 (by decide))
theorem Table.alloc {w : World} (h : Table w) (o : Obj) : Table (w.alloc o) := fun k hk => (World.cell?_alloc_lt w o _ (by exact h.pos)).trans (h k hk)

theorem Table.step {w w' : World} (h : Table w) (hb : Below w.heap.size w w') : Table w' := h.below h.pos hb
theorem Beyond.table {w w' : World} (h : Beyond w w') (hT : Table w) : Table w' := hT.step h

theorem gTab : Tryd.prog.globalNamed "lapstone/num.widthBits" = some 0 := by kernel_rfl
theorem gTabType : (Tryd.prog.globals[0]?).map (·.type) = some 156 := by kernel_rfl
theorem cellsTab : Tryd.prog.cellsOf 156 = 9 := by kernel_rfl
theorem cellsUint : Tryd.prog.cellsOf 155 = 1 := by kernel_rfl

/-- what the row's list gives -/
theorem table {W : World} (h : laidMetH Tryd.prog [("lapstone/num.widthBits", Rows.laid_lapstone_num_widthBits)] W) : Table W := by
  have t : Lib.TabIs Tryd.prog W "lapstone/num.widthBits" .u64 [0, 8, 16, 24, 32, 40, 48, 56, 64] :=
    Lib.tabIs_of_head (rest := []) gTab gTabType Tryd.underlying156 Tryd.underlying155 cellsUint cellsTab h
  intro k hk
  match k, hk with
  | 0, _ => exact t.cell gTab 0 (by decide)
  | 1, _ => exact t.cell gTab 1 (by decide)
  | 2, _ => exact t.cell gTab 2 (by decide)
  | 3, _ => exact t.cell gTab 3 (by decide)
  | 4, _ => exact t.cell gTab 4 (by decide)
  | 5, _ => exact t.cell gTab 5 (by decide)
  | 6, _ => exact t.cell gTab 6 (by decide)
  | 7, _ => exact t.cell gTab 7 (by decide)
  | 8, _ => exact t.cell gTab 8 (by decide)
  | k + 9, h => exact absurd h (by omega)

/-- a world for the witness: the settled one, the table holding what its initialiser lays -/
noncomputable def laidWorld (os : Os) : World :=
  { World.holding Tryd.prog os ⟨#[], #[], []⟩ with heap := (World.holding Tryd.prog os ⟨#[], #[], []⟩).heap.modify 0 fun
      | .cells _ t frozen => .cells #[.int .u64 0, .int .u64 8, .int .u64 16, .int .u64 24, .int .u64 32, .int .u64 40, .int .u64 48, .int .u64 56, .int .u64 64] t frozen
      | o => o }

end Go.Proofs.YtngclmjefadokaaDoor
