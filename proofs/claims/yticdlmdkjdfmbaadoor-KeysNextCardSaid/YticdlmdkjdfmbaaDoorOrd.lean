/-
  order: by its contract.
-/
import Derived.Test.YticdlmdkjdfmbaaDoorWords
import Derived.Test.YticdlmdkjdfmbaaDoorCmpL
namespace Go.Proofs.YticdlmdkjdfmbaaDoor
open Go Go.RowKit

set_option maxHeartbeats 400000 in
theorem order_any (x y : Int) (w : World) :
    Calls Tryd.prog 29 #[.int .i64 x, .int .i64 y] w fun e w' => e = .returned (.int .i64 (ordI x y)) ∧ w = w' := by
  rcases Int.lt_trichotomy x y with h | h | h
  · have e : ordI x y = -1 := by unfold ordI; rw [if_pos h]
    rw [e]; clear e
    go_enter Tryd.func29, Tryd.ntmps29
    go_wp2
    go_ret
    exact ⟨rfl, rfl⟩
  · have e : ordI x y = 0 := by unfold ordI; rw [if_neg (by omega), if_neg (by omega)]
    rw [e]; clear e
    subst h
    go_enter Tryd.func29, Tryd.ntmps29
    go_wp2
    go_ret
    exact ⟨rfl, rfl⟩
  · have e : ordI x y = 1 := by unfold ordI; rw [if_neg (by omega), if_pos h]
    rw [e]; clear e
    go_enter Tryd.func29, Tryd.ntmps29
    go_wp2
    go_ret
    exact ⟨rfl, rfl⟩

end Go.Proofs.YticdlmdkjdfmbaaDoor
