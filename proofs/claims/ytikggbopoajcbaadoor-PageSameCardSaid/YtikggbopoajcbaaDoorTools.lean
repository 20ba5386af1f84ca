/-
  From a walk to its card: what all laws of this seat share.
-/
import Derived.Test.YtikggbopoajcbaaDoorWords
import Derived.Test.YtikggbopoajcbaaDoorCards
import Derived.Test.YtikggbopoajcbaaDoorTie
import Derived.Deep.DeepHandedRow
namespace Go.Proofs.YtikggbopoajcbaaDoor
open Go Go.RowKit Go.ChangeShapes Go.WideShapes Go.ChangeAt

theorem own : ownKnob Tryd.prog.godebug = none := by kernel_rfl
/-- a row whose arguments lie in no memory: the call makes blocks of its own alone -/
theorem post_plain {H : Type} {enc : TypeId × Value → H} {P : Program} {f : Func} {s : ChangeSpec} {W W' : World} {args : Array Value} {v : Value} {ds gs : List (DataW H)}
    (hW : DataW.Whole enc P f.params.toList s.vars false W args.toList ds gs [])
    (hres : DataW.TrodAll enc P W' W.heap.size (fun _ => false) false f.resultTypes.toList (v.resultList f.resultTypes.size) (s.fn H (ds ++ gs)).results [])
    (hargs : DataW.TrodAll enc P W' 0 (fun b => decide (b < W.heap.size)) true f.params.toList args.toList (s.fn H (ds ++ gs)).args [])
    (hvars : DataW.TrodVars enc P W' (fun b => decide (b < W.heap.size)) s.vars (s.fn H (ds ++ gs)).vars []) (hb : Below W.heap.size W W') :
    s.post enc P f false true false false W args v W' :=
  ⟨ds, gs, [], [], [], [], hW, hres, hargs, hvars, hb.frame _, fun h => by cases h⟩

end Go.Proofs.YtikggbopoajcbaaDoor
