/-
  == and != of writes.
-/
import Derived.Test.YtcdjbacljnofiaaWAt
namespace Go.Proofs.Ytcdjbacljnofiaa
open Go Go.RowKit

def wb (x y : Wt) : Bool := x.k == y.k && (x.v == y.v && x.g == y.g)
theorem wb_is (x y : Wt) : wb x y = decide (x = y) := by
  rw [Bool.eq_iff_iff]
  obtain ⟨k, v, g⟩ := x
  obtain ⟨k', v', g'⟩ := y
  simp [wb]

theorem neq_w (x y : Wt) (W : World) : (binOp .neq 43 (.agg #[.string (bst x.k), .string (bst x.v), .bool x.g]) (.agg #[.string (bst y.k), .string (bst y.v), .bool y.g])).run Try.prog W = .ok (.bool (!decide (x = y))) W := by
  rw [← wb_is]
  have h1 := bst_toList x.k
  have h2 := bst_toList x.v
  have h3 := bst_toList y.k
  have h4 := bst_toList y.v
  unfold wb
  cases e1 : x.k == y.k <;> cases e2 : x.v == y.v <;> cases e3 : x.g == y.g <;> go_simp
theorem eql_w (x y : Wt) (W : World) : (binOp .eql 43 (.agg #[.string (bst x.k), .string (bst x.v), .bool x.g]) (.agg #[.string (bst y.k), .string (bst y.v), .bool y.g])).run Try.prog W = .ok (.bool (decide (x = y))) W := by
  rw [← wb_is]
  have h1 := bst_toList x.k
  have h2 := bst_toList x.v
  have h3 := bst_toList y.k
  have h4 := bst_toList y.v
  unfold wb
  cases e1 : x.k == y.k <;> cases e2 : x.v == y.v <;> cases e3 : x.g == y.g <;> go_simp

end Go.Proofs.Ytcdjbacljnofiaa
