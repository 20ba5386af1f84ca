/-
  sum.Step by its contract.
-/
import Derived.Test.YtignjgjoejimcaaDoorV32
import Derived.Test.YtignjgjoejimcaaDoorWords
import Derived.Deep.DeepFit
namespace Go.Proofs.YtignjgjoejimcaaDoor
open Go Go.RowKit

set_option maxHeartbeats 400000 in
theorem step_any (s : BitVec 32) (b : Bool) (w : World) :
    Calls Tryd.prog 14 #[.int .u32 (v32 s), .bool b] w fun e w' => e = .returned (.int .u32 (v32 (~~~(rstep (~~~s) b)))) ∧ w = w' := by
  have hsg : IntKind.u32.signed = false := rfl
  have hn := v32_not s
  obtain ⟨R, hR⟩ : ∃ R, R = ~~~s := ⟨_, rfl⟩
  rw [← hR] at hn ⊢
  clear hR
  have h0 := v32_lo R
  have h1 := v32_hi R
  have hm := v32_msb R
  have hs := v32_shl R 1
  rw [Int.pow_one] at hs
  cases hb : (R.msb ^^ b)
  · have e : rstep R b = R <<< 1 := by unfold rstep; rw [hb]; simp
    have ht : (R.msb == b) = true := by revert hb; cases R.msb <;> cases b <;> simp
    rw [e]
    clear e hb
    have hn2 := v32_not (R <<< 1)
    go_enter Tryd.func14, Tryd.ntmps14
    go_wp2
    go_ret
    exact ⟨rfl, rfl⟩
  · have e : rstep R b = R <<< 1 ^^^ poly := by unfold rstep; rw [hb]; simp
    have ht : (R.msb == b) = false := by revert hb; cases R.msb <;> cases b <;> simp
    rw [e]
    clear e hb
    have hp := v32_xor (R <<< 1) poly
    rw [v32_poly] at hp
    have hn2 := v32_not (R <<< 1 ^^^ poly)
    go_enter Tryd.func14, Tryd.ntmps14
    go_wp2
    go_ret
    exact ⟨rfl, rfl⟩

end Go.Proofs.YtignjgjoejimcaaDoor
