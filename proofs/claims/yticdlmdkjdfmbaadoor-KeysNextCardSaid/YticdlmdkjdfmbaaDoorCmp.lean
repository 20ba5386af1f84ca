/-
  num.Cmp and the document's Cmp, by their contracts.
-/
import Derived.Test.YticdlmdkjdfmbaaDoorOrd
import Derived.Test.YticdlmdkjdfmbaaDoorLists
import Derived.Lib.MinMax
import Derived.Deep.QuietTactic
import Derived.BigQuiet
import Derived.Deep.Draws
namespace Go.Proofs.YticdlmdkjdfmbaaDoor
open Go Go.RowKit

theorem wrap_byte (x : UInt8) : wrap64 (x.toNat : Int) = (x.toNat : Int) := by
  have := x.toNat_lt
  unfold wrap64
  omega
theorem quiet_more {P : Program} {f : FuncId} {args : Array Value} {w : World} {a n : Nat} {v : Value}
    (h : Calls P f args (w.drewN (a + n)) fun e w' => e = .returned v ∧ w.drewN (a + n) = w') :
    Calls P f args (w.drewN (a + n)) fun e w'' => e = .returned v ∧ ∃ m, w'' = w.drewN (a + m) :=
  h.mono fun _ _ ⟨he, hm⟩ => ⟨he, n, hm.symm⟩
theorem ret1 {a b : Int} (h : a = b) : Ending.returned (.int .i64 a) = Ending.returned (.int .i64 b) := by rw [h]

set_option maxHeartbeats 1000000 in
theorem cmp_any (A A' : Option Addr) (c d B : Nat) (a b : List UInt8) (w : World) (hA : At w B A a) (hA' : At w B A' b) (ha : a.length ≤ 70368744177664) (hb : b.length ≤ 70368744177664) :
    Calls Tryd.prog 17 #[.slice A a.length c, .slice A' b.length d] w fun e w' => e = .returned (.int .i64 (cmpL a b)) ∧ ∃ n, w' = w.drewN n := by
  go_enter Tryd.func17, Tryd.ntmps17
  go_wp2_with fail
  go_loopw [11] (fun i wr => ∃ k n : Nat, k ≤ a.length ∧ k ≤ b.length ∧ cmpL a b = cmpL (a.drop k) (b.drop k) ∧ i = .int .i64 (k : Int) ∧ wr = w.drewN n) (fun i _ => a.length - (intOf i).toNat)
  case atStart => exact ⟨0, 0, by omega, by omega, by simp, rfl, rfl⟩
  case round =>
    obtain ⟨k, n, hka, hkb, hc, rfl, rfl⟩ := hrel
    have HC := hid hc
    clear hc
    by_cases hlt : k < a.length ∧ k < b.length
    · obtain ⟨h1, h2⟩ := hlt
      obtain ⟨b1, o1, rfl, hb1, hcell1⟩ := hA (by omega)
      obtain ⟨b2, o2, rfl, hb2, hcell2⟩ := hA' (by omega)
      have hx : ∃ x, a[k]? = some x := ⟨_, List.getElem?_eq_getElem h1⟩
      obtain ⟨x, hx⟩ := hx
      have hy : ∃ y, b[k]? = some y := ⟨_, List.getElem?_eq_getElem h2⟩
      obtain ⟨y, hy⟩ := hy
      have c1 := hcell1 k x hx
      have c2 := hcell2 k y hy
      have hd1 := hid (drop_cons hx)
      have hd2 := hid (drop_cons hy)
      clear hx hy hcell1 hcell2 hA hA'
      by_cases hxy : x = y
      · subst hxy
        have HN := hid (HC.out.trans (by rw [hd1.out, hd2.out, cmpL_same rfl]))
        go_wp2_with fail
        go_quiet (fail)
        go_wp2_with fail
        go_roundw
        case rel => exact ⟨k + 1, _, by omega, by omega, HN.out, by go_num, rfl⟩
        case measure => simp [intOf]; omega
      · have HN := hid (HC.out.trans (by rw [hd1.out, hd2.out, cmpL_ne hxy]))
        have hne : ((x.toNat : Int) != (y.toNat : Int)) = true := by
          have : x.toNat ≠ y.toNat := fun e => hxy (UInt8.toNat_inj.1 e)
          simp; omega
        clear hxy
        go_wp2_with fail
        go_quiet (fail)
        go_wp2_with fail
        go_quiet ((go_at_call 29; exact quiet_more (order_any _ _ _)))
        go_wp2_with fail
        go_ret
        exact ⟨ret1 (by rw [wrap_byte, wrap_byte]; exact HN.out.symm), _, by rw [World.drewN_drewN, World.drewN_drewN]⟩
    · have HE := hid (HC.out.trans (cmpL_end (by rcases (show a.length ≤ k ∨ b.length ≤ k by omega) with h | h; exact .inl (List.drop_eq_nil_of_le h); exact .inr (List.drop_eq_nil_of_le h))))
      clear hA hA'
      go_wp2_with (go_at_call 29; refine (order_any _ _ _).mono ?_; rintro e w' ⟨rfl, rfl⟩)
      go_ret
      exact ⟨ret1 (by rw [HE.out, List.length_drop, List.length_drop, ordI_sub hka hkb]), n, rfl⟩

theorem cmp_is {A A' : Option Addr} {c d B m n : Nat} {a b : List UInt8} {w : World} (hm : m = a.length) (hn : n = b.length) (hA : At w B A a) (hA' : At w B A' b) (ha : a.length ≤ 70368744177664) (hb : b.length ≤ 70368744177664) :
    Calls Tryd.prog 17 #[.slice A m c, .slice A' n d] w fun e w' => e = .returned (.int .i64 (cmpL a b)) ∧ ∃ n, w' = w.drewN n := by
  subst hm hn
  exact cmp_any A A' c d B a b w hA hA' ha hb

end Go.Proofs.YticdlmdkjdfmbaaDoor
