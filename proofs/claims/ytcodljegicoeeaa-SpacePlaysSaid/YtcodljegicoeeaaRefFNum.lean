/-
  The document's Num: by its contract.
-/
import Derived.Test.YtcodljegicoeeaaTkFd
import Derived.BigQuiet
import Derived.Deep.QuietTactic
import Derived.Test.YtcodljegicoeeaaRefGetVar
namespace Go.Proofs.Ytcodljegicoeeaa
open Go Go.RowKit

set_option maxHeartbeats 1000000 in
theorem refNum_any (l : List UInt8) (w : World) (hl : l.length ≤ 70000) :
    Calls Try.prog 29 #[.string (bst l)] w fun e w' =>
      e = .returned (.tuple #[.int .u64 ((rnum l).1 : Int), .string (bst (rnum l).2.1), .int .i64 ((rnum l).2.2 : Int)]) ∧ Below w.heap.size w w' := by
  have hN := rnum_all l
  generalize rnum l = o at hN ⊢
  have HL := hid hl
  have hz := bst_size l
  clear hl
  cases hN with
  | good v n h hn hl' hv hb =>
    have Hh := hid h
    have hex := bst_drop l n
    have h0 : (n : Int) ≤ (l.length : Int) := by omega
    have h00 : (0 : Int) ≤ (n : Int) := by omega
    clear h hn hb hl'
    go_enter Try.func29, Try.ntmps29
    go_wp2_with fail
    go_fit (refGetVar_is Hh.out HL.out)
    rintro e w' ⟨rfl, rfl⟩
    go_wp2_with fail
    go_quiet (fail)
    go_wp2_with fail
    go_ret3
    exact ⟨rfl, below_drewN (Below.refl _ _) _⟩
  | short h =>
    have Hh := hid h
    clear h
    go_enter Try.func29, Try.ntmps29
    go_wp2_with fail
    go_fit (refGetVar_is Hh.out HL.out)
    rintro e w' ⟨rfl, rfl⟩
    go_wp2_with fail
    go_ret3
    exact ⟨rfl, Below.refl _ _⟩
  | form h =>
    have Hh := hid h
    clear h
    go_enter Try.func29, Try.ntmps29
    go_wp2_with fail
    go_fit (refGetVar_is Hh.out HL.out)
    rintro e w' ⟨rfl, rfl⟩
    go_wp2_with fail
    go_ret3
    exact ⟨rfl, Below.refl _ _⟩

end Go.Proofs.Ytcodljegicoeeaa
