/-
  From a walk to its card: what all laws of this seat share.
-/
import Derived.Test.YtkcebnagpgpclaaDoorAwake
import Derived.Test.YtkcebnagpgpclaaDoorCards
import Derived.Test.YtkcebnagpgpclaaDoorTie
import Derived.Deep.DeepHandedRow
import Derived.Lib.LaidTab
namespace Go.Proofs.YtkcebnagpgpclaaDoor
open Go Go.RowKit Go.ChangeShapes Go.WideShapes Go.ChangeAt

theorem pos_of_below {w w' : World} (h0 : 0 < w.heap.size) (h : Below w.heap.size w w') : 0 < w'.heap.size := Nat.lt_of_lt_of_le h0 h.size
theorem below_step {w a b : World} (h : Below w.heap.size w a) (k : Below a.heap.size a b) : Below w.heap.size w b := h.trans (k.mono h.size)
theorem Table.step {w w' : World} (h : Table w) (hb : Below w.heap.size w w') : Table w' := h.below h.pos hb

theorem own : ownKnob Tryd.prog.godebug = none := by kernel_rfl
theorem gTab : Tryd.prog.globalNamed "lapstone/num.widthBits" = some 0 := by kernel_rfl
theorem gTabType : (Tryd.prog.globals[0]?).map (·.type) = some 49 := by kernel_rfl
theorem cellsTab : Tryd.prog.cellsOf 49 = 9 := by kernel_rfl
theorem cellsUint : Tryd.prog.cellsOf 48 = 1 := by kernel_rfl

/-- what the row's list gives -/
theorem table {W : World} (h : laidMetH Tryd.prog [("lapstone/num.widthBits", Rows.laid_lapstone_num_widthBits)] W) : Table W := by
  have t : Lib.TabIs Tryd.prog W "lapstone/num.widthBits" .u64 [0, 8, 16, 24, 32, 40, 48, 56, 64] :=
    Lib.tabIs_of_head (rest := []) gTab gTabType Tryd.underlying49 Tryd.underlying48 cellsUint cellsTab h
  intro k hk
  match k, hk with
  | 0, _ => exact t.cell gTab 0 (by decide)
  | 1, _ => exact t.cell gTab 1 (by decide)
  | 2, _ => exact t.cell gTab 2 (by decide)
  | 3, _ => exact t.cell gTab 3 (by decide)
  | 4, _ => exact t.cell gTab 4 (by decide)
  | 5, _ => exact t.cell gTab 5 (by decide)
  | 6, _ => exact t.cell gTab 6 (by decide)
  | 7, _ => exact t.cell gTab 7 (by decide)
  | 8, _ => exact t.cell gTab 8 (by decide)
  | k + 9, h => exact absurd h (by omega)

/-- a row whose arguments lie in no memory: the call makes blocks of its own alone -/
theorem post_plain {H : Type} {enc : TypeId × Value → H} {P : Program} {f : Func} {s : ChangeSpec} {W W' : World} {args : Array Value} {v : Value} {ds gs : List (DataW H)}
    (hW : DataW.Whole enc P f.params.toList s.vars false W args.toList ds gs [])
    (hres : DataW.TrodAll enc P W' W.heap.size (fun _ => false) false f.resultTypes.toList (v.resultList f.resultTypes.size) (s.fn H (ds ++ gs)).results [])
    (hargs : DataW.TrodAll enc P W' 0 (fun b => decide (b < W.heap.size)) true f.params.toList args.toList (s.fn H (ds ++ gs)).args [])
    (hvars : DataW.TrodVars enc P W' (fun b => decide (b < W.heap.size)) s.vars (s.fn H (ds ++ gs)).vars []) (hb : Below W.heap.size W W') :
    s.post enc P f false true false false W args v W' :=
  ⟨ds, gs, [], [], [], [], hW, hres, hargs, hvars, hb.frame _, fun h => by cases h⟩

theorem wf_u64 {n : Int} (h : (Lit.int .u64 n).wf = true) : 0 ≤ n ∧ n < 18446744073709551616 := by
  simp [Lit.wf, IntKind.min, IntKind.max, IntKind.signed, IntKind.bits] at h
  omega
theorem wf_i64 {n : Int} (h : (Lit.int .i64 n).wf = true) : -9223372036854775808 ≤ n ∧ n ≤ 9223372036854775807 := by
  simp [Lit.wf, IntKind.min, IntKind.max, IntKind.signed, IntKind.bits] at h
  omega

/-- a world for the witness: the settled one, the table holding what its initialiser lays -/
noncomputable def laidWorld (os : Os) : World :=
  { World.holding Tryd.prog os ⟨#[], #[], []⟩ with heap := (World.holding Tryd.prog os ⟨#[], #[], []⟩).heap.modify 0 fun
      | .cells _ t frozen => .cells #[.int .u64 0, .int .u64 8, .int .u64 16, .int .u64 24, .int .u64 32, .int .u64 40, .int .u64 48, .int .u64 56, .int .u64 64] t frozen
      | o => o }

end Go.Proofs.YtkcebnagpgpclaaDoor
