/-
  Parts of strings.
-/
import Derived.Test.YtdhjjjagjkencaaBase
namespace Go.Proofs.Ytdhjjjagjkencaa
open Go Go.RowKit

theorem bstDrop (s : List UInt8) (n : Nat) : (bst s).extract n s.length = bst (s.drop n) := by
  apply ByteArray.ext
  apply Array.toList_inj.1
  simp [bst, List.take_of_length_le]
theorem bstTake (s : List UInt8) (n : Nat) : (bst s).extract 0 n = bst (s.take n) := by
  apply ByteArray.ext
  apply Array.toList_inj.1
  simp [bst]

end Go.Proofs.Ytdhjjjagjkencaa
