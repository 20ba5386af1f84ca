/-
  RecordGets: its walk, over what is to be shown of the landed code.
-/
import Derived.Test.YtlcnjkonlnfnfaaDoorRAwake
namespace Go.Proofs.YtlcnjkonlnfnfaaDoor
open Go Go.RowKit

/-- what is got, as a value that will be boxed -/
theorem recV_shown (o : Option (Nat × List UInt8 × Nat)) : ∃ (q : Nat) (b : List UInt8) (k : Nat) (ok : Bool), recV o = .tuple #[.agg #[.int .u64 (q : Int), .string (bst b)], .int .i64 (k : Int), .bool ok] := by
  cases o with
  | none => exact ⟨0, [], 0, false, rfl⟩
  | some x => exact ⟨x.1, x.2.1, x.2.2, true, rfl⟩

set_option maxHeartbeats 4000000 in
set_option maxRecDepth 100000 in
theorem rgets_walk (hF : RFace) (l : List UInt8) (w : World) (hT : Table w) :
    Calls Tryd.prog 4 #[.string (bst l)] w fun e w' => e = .returned (.bool true) ∧ Below w.heap.size w w' := by
  have HF := hid hF
  have HAW := hid (rawake_yes hF)
  have HT := hid hT
  have z1 := bst_size l
  clear hF hT
  by_cases hk : 1000 < l.length
  · go_enter Tryd.func4, Tryd.ntmps4
    go_wp2_with fail
    go_fit (HAW.out w HT.out)
    rintro e w1 ⟨rfl, hb1⟩
    go_wp2_with fail
    go_ret
    exact ⟨rfl, hb1⟩
  have HK := hid (show l.length ≤ 1000 by omega)
  obtain ⟨q, b, k, ok, hr⟩ := recV_shown (rget l)
  have HR := hid hr
  clear hr
  have heq : ∀ W, (binOp .eql 24 (.agg #[.int .u64 (q : Int), .string (bst b)]) (.agg #[.int .u64 (q : Int), .string (bst b)])).run Tryd.prog W = .ok (.bool true) W := fun W => by have h := eql_rc (q, b) (q, b) W; rw [decide_eq_true rfl] at h; exact h
  go_enter Tryd.func4, Tryd.ntmps4
  go_wp2_with (with_reducible refine wpList_bytes_of _ rfl (.tmp 14) 9 26 5 rfl Tryd.underlying9 Tryd.underlying26 Tryd.underlying5 l rfl ?_; intro A c0 w1 hc0 hA hb1)
  go_fit (HF.out.get hA rfl hc0 (Nat.le_refl _) (by have := HK.out; omega) (HT.out.step hb1))
  rintro e w2 ⟨rfl, hb2⟩
  rw [HR.out]
  have HB2 := hid (below_step hb1 hb2)
  clear hb2 hb1 hA hc0
  have HX2 := hid (Blk.new w2 24 #[.int .u64 (q : Int), .string (bst b)])
  have HB2b := hid (HB2.out.alloc HB2.out.size (.cells #[.int .u64 (q : Int), .string (bst b)] 24))
  go_wp2_with fail
  generalize hv2 : w2.alloc (.cells #[.int .u64 (q : Int), .string (bst b)] 24) = v2 at *
  clear hv2
  go_fit (refRGet_any l v2 (by have := HK.out; omega))
  rintro e w3 ⟨rfl, hb3⟩
  rw [HR.out]
  have HB3 := hid (below_step HB2b.out hb3)
  have HX3 := hid (Blk.new w3 24 #[.int .u64 (q : Int), .string (bst b)])
  have HX2 := hid (HX2.out.below hb3 HX2.out.lt)
  have hal : Below w3.heap.size w3 (w3.alloc (.cells #[.int .u64 (q : Int), .string (bst b)] 24)) := (Below.refl _ _).alloc (Nat.le_refl _) _
  have HX2 := hid (HX2.out.below hal HX2.out.lt)
  have HB3b := hid (HB3.out.alloc HB3.out.size (.cells #[.int .u64 (q : Int), .string (bst b)] 24))
  clear hb3 hal
  go_wp2_with fail
  generalize hv3 : w3.alloc (.cells #[.int .u64 (q : Int), .string (bst b)] 24) = v3 at *
  clear hv3
  go_fit (HAW.out v3 (HT.out.step HB3b.out))
  rintro e w4 ⟨rfl, hb4⟩
  have HX2 := hid (HX2.out.below hb4 HX2.out.lt)
  have HX3 := hid (HX3.out.below hb4 HX3.out.lt)
  have HB4 := hid (below_step HB3b.out hb4)
  clear hb4
  have x0 := HX2.out.cell 0
  have x1 := HX2.out.cell 1
  have y0 := HX3.out.cell 0
  have y1 := HX3.out.cell 1
  go_wp2_with fail
  go_ret
  exact ⟨rfl, HB4.out⟩

end Go.Proofs.YtlcnjkonlnfnfaaDoor
