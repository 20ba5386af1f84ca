/-
  A step of a reader that may have gone wrong already, and the document's, for any of the four kinds.
-/
import Derived.Test.YtamieogikmnpcaaFields
import Derived.Test.YtamieogikmnpcaaRefTake
import Derived.Test.YtamieogikmnpcaaEq
namespace Go.Proofs.Ytamieogikmnpcaa
open Go Go.RowKit

theorem refTake_any (q : Nat) (hq : q ≤ 3) (most : Int) (hmost : -9223372036854775808 ≤ most ∧ most ≤ 9223372036854775807) (l : List UInt8) (w : World) (hl : l.length ≤ 4096) :
    Calls Try.prog 15 #[.int .i64 (q : Int), .int .i64 most, .string (bst l)] w (TookRef q most l w) := by
  have h4 : q = 0 ∨ q = 1 ∨ q = 2 ∨ q = 3 := by omega
  rcases h4 with rfl | rfl | rfl | rfl
  · exact refTake_num most l w hl
  · exact refTake_text most l w hl
  · exact refTake_flag most l w hl
  · exact refTake_count most hmost l w hl

theorem rtext_len (l : List UInt8) : (rtext l).2.1.length ≤ l.length := by
  have h := rnum_len l
  unfold rtext
  split
  · exact Nat.le_refl _
  · split
    · exact Nat.le_refl _
    · split
      · exact Nat.le_refl _
      · simp; omega
theorem rflag_len (l : List UInt8) : (rflag l).2.1.length ≤ l.length := by
  rcases l with _ | ⟨x, l⟩
  · exact Nat.le_refl _
  · simp only [rflag]
    split <;> simp
theorem rcount_len (most : Int) (l : List UInt8) : (rcount most l).2.1.length ≤ l.length := by
  have h := rnum_len l
  unfold rcount
  split
  · exact Nat.le_refl _
  · split
    · exact Nat.le_refl _
    · exact h
theorem tk_len (q : Nat) (most : Int) (l : List UInt8) : (tk q most l).2.1.length ≤ l.length := by
  unfold tk
  split
  · exact rnum_len l
  · split
    · exact rtext_len l
    · split
      · exact rflag_len l
      · exact rcount_len most l

end Go.Proofs.Ytamieogikmnpcaa
