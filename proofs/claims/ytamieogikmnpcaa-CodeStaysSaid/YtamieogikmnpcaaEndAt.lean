/-
  End, by its answer.
-/
import Derived.Test.YtamieogikmnpcaaReader
namespace Go.Proofs.Ytamieogikmnpcaa
open Go Go.RowKit

theorem end_to {r e0 x : Nat} {l : List UInt8} {w : World} (h : endOf l e0 = x) (hr : Rd w r l e0) :
    Calls Try.prog 17 #[.pointer (some ⟨r, 0, none⟩)] w fun e w' => e = .returned (.int .i64 (x : Int)) ∧ w = w' := by
  subst h
  exact end_any r e0 l w hr

end Go.Proofs.Ytamieogikmnpcaa
