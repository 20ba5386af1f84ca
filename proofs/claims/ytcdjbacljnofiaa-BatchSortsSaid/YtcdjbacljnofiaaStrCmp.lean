/-
  Go's own comparison of strings, and the closures that compare writes by their keys.
-/
import Derived.Test.YtcdjbacljnofiaaWAt
import Derived.Lib.Bytealg
import Derived.Lib.Walk
import Derived.Shelf.SlSortCmp.KitK
import Derived.Test.YtcdjbacljnofiaaSortIs
namespace Go.Proofs.Ytcdjbacljnofiaa
open Go Go.RowKit Go.Sort

theorem cmpL_compareBytes : ∀ a b : List UInt8, Lib.compareBytes a b = cmpL a b
  | [], [] => rfl
  | [], _ :: _ => rfl
  | _ :: _, [] => rfl
  | x :: a, y :: b => by
    have ih := cmpL_compareBytes a b
    unfold Lib.compareBytes cmpL
    by_cases h : x = y
    · subst h
      rw [if_neg (by simp), if_neg (by simp), if_pos rfl, ih]
    · rw [if_neg h]
      have hn : x.toNat ≠ y.toNat := fun e => h (UInt8.toNat_inj.1 e)
      by_cases h1 : x.toNat < y.toNat
      · rw [if_pos (UInt8.lt_iff_toNat_lt.2 h1), if_pos h1]
      · rw [if_neg (fun e => h1 (UInt8.lt_iff_toNat_lt.1 e)), if_neg h1, if_pos (UInt8.lt_iff_toNat_lt.2 (by omega))]

set_option maxHeartbeats 1000000 in
set_option maxRecDepth 100000 in
theorem cmpStr0 (a b : ByteArray) (w : World) :
    Calls Try.prog 47 #[.string a, .string b] w fun e w' => e = .returned (.int .i64 (Lib.compareBytes a.data.toList b.data.toList)) ∧ w = w' := by
  go_enter Try.func47, Try.ntmps47
  go_wp2
  rw [run_callFunc_extern Try.func61 (by kernel_rfl) (by kernel_rfl) (by kernel_rfl) (e := Extern.BytealgCompare.compare) (by kernel_rfl), Lib.run_compareString]
  simp only [Result.andThen]
  rw [Oper.upon_value]
  go_wp2
  go_ret
  exact ⟨rfl, rfl⟩

set_option maxHeartbeats 1000000 in
theorem cmpStr (a b : List UInt8) (w : World) :
    Calls Try.prog 29 #[.string (bst a), .string (bst b)] w fun e w' => e = .returned (.int .i64 (cmpL a b)) ∧ w = w' := by
  have H := hid (cmpStr0 (bst a) (bst b) w)
  have e : Lib.compareBytes (bst a).data.toList (bst b).data.toList = cmpL a b := cmpL_compareBytes a b
  go_enter Try.func29, Try.ntmps29
  go_wp2_with fail
  go_fit H.out
  rintro e w2 ⟨rfl, rfl⟩
  go_wp2_with fail
  go_ret
  exact ⟨rfl, rfl⟩

/-- a write's three cells -/
def enc3 (x : Wt) : List Value := [.string (bst x.k), .string (bst x.v), .bool x.g]

set_option maxHeartbeats 1000000 in
theorem byKey_any (x y : Wt) (w : World) :
    Calls Try.prog 28 #[.agg #[.string (bst x.k), .string (bst x.v), .bool x.g], .agg #[.string (bst y.k), .string (bst y.v), .bool y.g]] w fun e w' =>
      e = .returned (.int .i64 (cfW x y)) ∧ ∃ q os, w' = grow (w.drewN q) os := by
  have H := hid (fun W => cmpStr x.k y.k W)
  go_enter Try.func28, Try.ntmps28
  go_wp2_with fail
  go_fit (H.out _)
  rintro e w2 ⟨rfl, rfl⟩
  go_wp2_with fail
  go_ret
  exact ⟨rfl, 0, _, by rw [alloc_eq_grow, alloc_eq_grow, grow_grow]; rfl⟩

set_option maxHeartbeats 1000000 in
theorem toKey_any (x : Wt) (k : List UInt8) (w : World) :
    Calls Try.prog 45 #[.agg #[.string (bst x.k), .string (bst x.v), .bool x.g], .string (bst k)] w fun e w' =>
      e = .returned (.int .i64 (cmpL x.k k)) ∧ Below w.heap.size w w' := by
  have H := hid (fun W => cmpStr x.k k W)
  go_enter Try.func45, Try.ntmps45
  go_wp2_with fail
  go_fit (H.out _)
  rintro e w2 ⟨rfl, rfl⟩
  go_wp2_with fail
  go_ret
  exact ⟨rfl, (Below.refl _ _).alloc (Nat.le_refl _) _⟩

end Go.Proofs.Ytcdjbacljnofiaa
