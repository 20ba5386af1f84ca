/-
  The closure that a reader's step tells of its errors: the first one stays.
-/
import Derived.Test.YtcodljegicoeeaaBlk
namespace Go.Proofs.Ytcodljegicoeeaa
open Go Go.RowKit

theorem enters_of {P : Program} {f : FuncId} {fn : Func} (hf : P.funcs[f]? = some fn) (hn : (fn.name == "runtime.NumGoroutine") = false) (hb : fn.body.isNone = false) (args : Array Value) (w : World) :
    (callFunc f args).run P w = .ok (.enter f args) w := by
  have h1 : fn.name ≠ "runtime.NumGoroutine" := by simpa using hn
  have h2 : ¬ fn.body = none := fun h => by rw [h] at hb; cases hb
  simp [callFunc, hf, h1, h2]

structure Fails (f : FuncId) : Prop where
  enters : ∀ (args : Array Value) (w : World), (callFunc f args).run Try.prog w = .ok (.enter f args) w
  first : ∀ (x : Int) (q r : Nat) (A : Option Addr) (m c : Nat) (w : World), RB w r A m c 0 → QB w q r →
    Calls Try.prog f #[.int .i64 x, .pointer (some ⟨q, 0, none⟩)] w fun e w' => e = .returned (.tuple #[]) ∧ w' = w.setCell ⟨r, 1, none⟩ (.int .i64 x)
  again : ∀ (x : Int) (q r : Nat) (A : Option Addr) (m c : Nat) (e : Int) (w : World), e ≠ 0 → RB w r A m c e → QB w q r →
    Calls Try.prog f #[.int .i64 x, .pointer (some ⟨q, 0, none⟩)] w fun e w' => e = .returned (.tuple #[]) ∧ w = w'

set_option maxHeartbeats 400000 in
theorem failsI : Fails 44 := by
  refine ⟨enters_of Try.func44 (by kernel_rfl) (by kernel_rfl), fun x q r A m c w hr hq => ?_, fun x q r A m c e w he hr hq => ?_⟩
  · have h0 := hr.c0
    have h1 := hr.c1
    have f1 := hr.f1
    have hq0 := hq.c0
    go_enter Try.func44, Try.ntmps44
    go_wp2
    go_end0
    exact ⟨rfl, rfl⟩
  · have h0 := hr.c0
    have h1 := hr.c1
    have hq0 := hq.c0
    have hb : (e == 0) = false := by simpa using he
    go_enter Try.func44, Try.ntmps44
    go_wp2
    go_end0
    exact ⟨rfl, rfl⟩

end Go.Proofs.Ytcodljegicoeeaa
