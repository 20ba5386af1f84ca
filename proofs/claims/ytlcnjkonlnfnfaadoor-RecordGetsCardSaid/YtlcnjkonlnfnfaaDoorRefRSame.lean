/-
  == and != of records; the document's Same.
-/
import Derived.Test.YtlcnjkonlnfnfaaDoorRecRow
import Derived.Deep.QuietTactic
import Derived.BigQuiet
import Derived.Deep.Draws
namespace Go.Proofs.YtlcnjkonlnfnfaaDoor
open Go Go.RowKit

abbrev Rc := Nat × List UInt8
def rcb (x y : Rc) : Bool := ((x.1 : Int) == (y.1 : Int)) && (x.2 == y.2)
theorem rcb_is (x y : Rc) : rcb x y = decide (x = y) := by
  rw [Bool.eq_iff_iff]
  obtain ⟨q, b⟩ := x
  obtain ⟨q', b'⟩ := y
  simp [rcb]
  intro _
  omega
theorem neq_rc (x y : Rc) (W : World) : (binOp .neq 24 (.agg #[.int .u64 (x.1 : Int), .string (bst x.2)]) (.agg #[.int .u64 (y.1 : Int), .string (bst y.2)])).run Tryd.prog W = .ok (.bool (!decide (x = y))) W := by
  rw [← rcb_is]
  have h1 := bst_toList x.2
  have h2 := bst_toList y.2
  unfold rcb
  cases e1 : (x.1 : Int) == (y.1 : Int) <;> cases e2 : x.2 == y.2 <;> go_simp
theorem eql_rc (x y : Rc) (W : World) : (binOp .eql 24 (.agg #[.int .u64 (x.1 : Int), .string (bst x.2)]) (.agg #[.int .u64 (y.1 : Int), .string (bst y.2)])).run Tryd.prog W = .ok (.bool (decide (x = y))) W := by
  rw [← rcb_is]
  have h1 := bst_toList x.2
  have h2 := bst_toList y.2
  unfold rcb
  cases e1 : (x.1 : Int) == (y.1 : Int) <;> cases e2 : x.2 == y.2 <;> go_simp

theorem RcAt.get {w : World} {B k : Nat} {A : Option Addr} {rs : List Rc} (h : RcAt w B A rs) (hk : k < rs.length) : ∃ b off x, A = some ⟨b, off, none⟩ ∧ b < B ∧ rs[k]? = some x ∧ w.cell? ⟨b, off + k * 2, none⟩ = some (.int .u64 (x.1 : Int)) ∧ w.cell? ⟨b, off + k * 2 + 1, none⟩ = some (.string (bst x.2)) := by
  obtain ⟨b, off, e, hb, hc⟩ := h (by omega)
  obtain ⟨h1, h2⟩ := hc k _ (List.getElem?_eq_getElem hk)
  exact ⟨b, off, _, e, hb, List.getElem?_eq_getElem hk, h1, h2⟩
theorem rdrop_eq {ws ws' : List Rc} {k : Nat} {x y : Rc} (h : ws[k]? = some x) (h' : ws'[k]? = some y) : decide (ws.drop k = ws'.drop k) = (decide (x = y) && decide (ws.drop (k + 1) = ws'.drop (k + 1))) := by
  obtain ⟨hk, hx⟩ := List.getElem?_eq_some_iff.1 h
  obtain ⟨hk', hy⟩ := List.getElem?_eq_some_iff.1 h'
  rw [List.drop_eq_getElem_cons hk, List.drop_eq_getElem_cons hk', hx, hy, Bool.eq_iff_iff]
  simp

set_option maxHeartbeats 2000000 in
theorem refRSame_any {A A' : Option Addr} {n n' cap cap' B : Nat} {ws ws' : List Rc} {w : World} (hA : RcAt w B A ws) (hA' : RcAt w B A' ws') (hn : n = ws.length) (hn' : n' = ws'.length) (_hB : B ≤ w.heap.size) (hl : n ≤ 70368744177664) :
    Calls Tryd.prog 16 #[.slice A n cap, .slice A' n' cap'] w fun e w' => e = .returned (.bool (decide (ws = ws'))) ∧ Below w.heap.size w w' := by
  have HA := hid hA
  have HA' := hid hA'
  have HN := hid hn
  have HN' := hid hn'
  clear hA hA' hn hn'
  obtain ⟨D, hD⟩ : ∃ D, D = decide (ws = ws') := ⟨_, rfl⟩
  rw [← hD]
  have HD := hid hD
  clear hD
  by_cases e4 : n = n'
  case neg =>
    obtain rfl : D = false := by rw [HD.out]; simp; intro h; apply e4; rw [HN.out, HN'.out, h]
    have f1 : ((n : Int) != (n' : Int)) = true := by simp; omega
    go_enter Tryd.func16, Tryd.ntmps16
    go_wp2_with fail
    go_ret
    exact ⟨rfl, Below.refl _ _⟩
  subst e4
  have HD2 := hid (show D = decide (ws.drop 0 = ws'.drop 0) by rw [HD.out]; simp)
  go_enter Tryd.func16, Tryd.ntmps16
  go_wp2_with fail
  go_loopw [5] (fun i wr => ∃ k m : Nat, k ≤ n ∧ i = .int .i64 (k : Int) ∧ D = decide (ws.drop k = ws'.drop k) ∧ wr = w.drewN m) (fun i _ => n - (intOf i).toNat)
  case atStart => exact ⟨0, 0, Nat.zero_le _, rfl, HD2.out, rfl⟩
  case round =>
    obtain ⟨k, m, hk, rfl, hd, rfl⟩ := hrel
    have HDK := hid hd
    clear hd
    by_cases hlt : k < n
    · obtain ⟨b, off, x, rfl, hb, hx, d0, d1⟩ := HA.out.get (k := k) (by rw [← HN.out]; exact hlt)
      obtain ⟨b', off', y, rfl, hb', hy, p0, p1⟩ := HA'.out.get (k := k) (by rw [← HN'.out]; exact hlt)
      have HX := hid (HDK.out.trans (rdrop_eq hx hy))
      have hne := neq_rc x y
      clear hx hy
      by_cases hxy : x = y
      · rw [decide_eq_true hxy] at HX hne
        have HX2 := hid (show D = decide (ws.drop (k + 1) = ws'.drop (k + 1)) from HX.out)
        clear hxy
        go_wp2_with fail
        go_quiet (fail)
        go_wp2_with fail
        go_roundw
        case rel => exact ⟨k + 1, _, by omega, by go_num, HX2.out, rfl⟩
        case measure => simp [intOf]; omega
      · rw [decide_eq_false hxy] at HX hne
        obtain rfl : D = false := HX.out
        clear hxy
        go_wp2_with fail
        go_quiet (fail)
        go_wp2_with fail
        go_ret
        exact ⟨rfl, below_drewN (below_drewN (Below.refl _ _) _) _⟩
    · obtain rfl : k = n := by omega
      obtain rfl : D = true := by
        rw [HDK.out, List.drop_of_length_le (by rw [HN.out]; exact Nat.le_refl _), List.drop_of_length_le (by rw [HN'.out]; exact Nat.le_refl _)]
        rfl
      go_wp2_with fail
      go_ret
      exact ⟨rfl, below_drewN (Below.refl _ _) _⟩

end Go.Proofs.YtlcnjkonlnfnfaaDoor
