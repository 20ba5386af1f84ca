/-
  The closure that keeps a record: append to the variable it holds.
-/
import Derived.Test.YtlcnjkonlnfnfaaDoorRNext
import Derived.Test.YtlcnjkonlnfnfaaDoorRefRScan
namespace Go.Proofs.YtlcnjkonlnfnfaaDoor
open Go Go.RowKit

/-- a variable that holds a row of records of the call's own, which lies behind it -/
def SlotAt (w : World) (s : Nat) (done : List Rc) : Prop := ∃ A m c, Blk w s 38 #[.slice A m c] ∧ RcRow w (s + 1) A m c done
theorem SlotAt.lt {w : World} {s : Nat} {done : List Rc} (h : SlotAt w s done) : s < w.heap.size := by
  obtain ⟨_, _, _, hb, _⟩ := h
  exact hb.lt
theorem SlotAt.step {w w' : World} {s : Nat} {done : List Rc} (h : SlotAt w s done) (hb : Below w.heap.size w w') : SlotAt w' s done := by
  obtain ⟨A, m, c, h1, h2⟩ := h
  exact ⟨A, m, c, h1.below hb h1.lt, h2.below hb⟩
theorem SlotAt.only {w w' : World} {s r : Nat} {done : List Rc} (h : SlotAt w s done) (ho : Only r w w') (hr : r < s) : SlotAt w' s done := by
  obtain ⟨A, m, c, h1, h2⟩ := h
  refine ⟨A, m, c, h1.grown ho (fun e => by injection e; omega), h2.1, h2.2.kept ho (.inr fun e => ?_)⟩
  have := (h2.2.lt r e).1
  omega

set_option maxHeartbeats 4000000 in
set_option maxRecDepth 100000 in
theorem keep_is {w : World} {s q : Nat} {b : List UInt8} {done : List Rc} (h : SlotAt w s done) (hl : done.length ≤ 100000) :
    Calls Tryd.prog 40 #[.agg #[.int .u64 (q : Int), .string (bst b)], .pointer (some ⟨s, 0, none⟩)] w fun e w' => e = .returned (.tuple #[]) ∧ SlotAt w' s (done ++ [(q, b)]) ∧ Below s w w' := by
  obtain ⟨A, m, c, hb, hr⟩ := h
  have HLN := hid (show done.length + [(q, b)].length ≤ 1099511627776 by simp; omega)
  have hlt := hb.lt
  have HLT := hid hlt
  have hb1 : Below w.heap.size w ((w.alloc (.cells #[.int .u64 (q : Int), .string (bst b)] 24)).alloc (.cells #[.int .u64 (q : Int), .string (bst b)] 24)) :=
    ((Below.refl _ _).alloc (Nat.le_refl _) _).alloc (by simp) _
  have HB1 := hid hb1
  have HR1 := hid (hr.below hb1)
  have HS1 := hid (hb.below hb1 hlt)
  have HO1 := hid (show RcAt ((w.alloc (.cells #[.int .u64 (q : Int), .string (bst b)] 24)).alloc (.cells #[.int .u64 (q : Int), .string (bst b)] 24)) (w.heap.size + 2) (some ⟨w.heap.size + 1, 0, none⟩) [(q, b)] from by
    have := RcAt.one (w.alloc (.cells #[.int .u64 (q : Int), .string (bst b)] 24)) (q, b)
    simpa using this)
  have HSZ := hid (show s + 1 ≤ ((w.alloc (.cells #[.int .u64 (q : Int), .string (bst b)] 24)).alloc (.cells #[.int .u64 (q : Int), .string (bst b)] 24)).heap.size by simp; omega)
  have c0 : w.cell? ⟨s, 0, none⟩ = some (.slice A m c) := hb.cell 0
  clear hb1 hb hr
  go_enter Tryd.func40, Tryd.ntmps40
  go_wp2_with (at_builtin; go_must (refine wpList_append_rc _ rfl _ _ rfl (s + 1) rfl HR1.out rfl rfl HO1.out HLN.out HSZ.out ?_))
  intro A7 m7 c7 w7 hr7 hm7 hb7 hg7
  have hs7 : Blk w7 s 38 #[.slice A m c] := HS1.out.below hb7 (by omega)
  have f0 := hs7.free 0
  have d0 : w7.cell? ⟨s, 0, none⟩ = some (.slice A m c) := hs7.cell 0
  have HF := hid (And.intro hr7 (And.intro hb7 hs7))
  clear hr7 hb7 hg7 hs7
  go_wp2_with fail
  go_end0
  obtain ⟨hr7, hb7, hs7⟩ := HF.out
  have hne : (Value.slice A7 m7 c7).ownBlock ≠ some s := fun e => by have := (hr7.2.lt s e).1; omega
  refine ⟨rfl, ⟨A7, m7, c7, hs7.set 0 _, hr7.1, ownsRow_setCell_other hr7.2 hne _⟩, ?_⟩
  exact Below.setCell (p := ⟨s, 0, none⟩) ((HB1.out.mono (Nat.le_of_lt HLT.out)).trans (hb7.mono (Nat.le_succ s))) (Nat.le_refl _) _

end Go.Proofs.YtlcnjkonlnfnfaaDoor
