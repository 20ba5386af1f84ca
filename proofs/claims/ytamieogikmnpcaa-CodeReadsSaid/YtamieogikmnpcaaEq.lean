/-
  A field is itself: != of two that are the same.
-/
import Derived.Test.YtamieogikmnpcaaTkFd
namespace Go.Proofs.Ytamieogikmnpcaa
open Go Go.RowKit

theorem neq_same (f : Fd) (W : World) : (binOp .neq 28 f.val f.val).run Try.prog W = .ok (.bool false) W := by
  unfold Fd.val
  go_simp

end Go.Proofs.Ytamieogikmnpcaa
