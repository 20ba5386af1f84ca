/-
  A field is itself: != of two that are the same.
-/
import Derived.Test.YtamieogikmnpcaaTkFd
namespace Go.Proofs.Ytamieogikmnpcaa
open Go Go.RowKit

theorem neq_same (f : Fd) (W : World) : (binOp .neq 28 f.val f.val).run Try.prog W = .ok (.bool false) W := by
  unfold Fd.val
  go_simp

theorem neq_agg (k v m : Int) (s : ByteArray) (y : Bool) (W : World) :
    (binOp .neq 28 (.agg #[.int .i64 k, .int .u64 v, .string s, .bool y, .int .i64 m]) (.agg #[.int .i64 k, .int .u64 v, .string s, .bool y, .int .i64 m])).run Try.prog W = .ok (.bool false) W := by
  go_simp

end Go.Proofs.Ytamieogikmnpcaa
