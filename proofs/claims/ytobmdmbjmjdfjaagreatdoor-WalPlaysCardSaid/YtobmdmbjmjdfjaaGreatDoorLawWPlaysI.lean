/-
  WalPlays: its walk, the number as an integer.
-/
import Derived.Test.YtobmdmbjmjdfjaaGreatDoorLawWPlays
import Derived.Test.YtobmdmbjmjdfjaaGreatDoorWArgs
namespace Go.Proofs.YtobmdmbjmjdfjaaGreatDoor
open Go Go.RowKit

theorem wplays_int (p0 p1 p2 p3 : Int) (fr : Int) (A : Option Addr) (c : Nat) (xs : List Act8) (w : World) (hp : p1 ≤ 9223372036854775807) (hfr : 0 ≤ fr ∧ fr < 18446744073709551616) (hA : ActsAt8 w w.heap.size A xs) (hT : Table w) :
    Calls Tryz.prog 3 #[.agg #[.int .i64 p0, .int .i64 p1, .int .i64 p2, .int .i64 p3], .int .u64 fr, .slice A xs.length c] w fun e w' => e = .returned (.bool true) ∧ Below w.heap.size w w' := by
  obtain ⟨q, rfl⟩ : ∃ q : Nat, fr = (q : Int) := ⟨fr.toNat, by omega⟩
  exact wplays_walk p0 p1 p2 p3 q A c xs w hp (by omega) hA hT

end Go.Proofs.YtobmdmbjmjdfjaaGreatDoor
