/-
  The document's Same and Meets, by their contracts.
-/
import Derived.Test.YtcdjbacljnofiaaWEq
import Derived.Deep.QuietTactic
import Derived.BigQuiet
import Derived.Deep.Draws
namespace Go.Proofs.Ytcdjbacljnofiaa
open Go Go.RowKit

theorem int_ne {a b : Int} (h : a ≠ b) : (a != b) = true ∧ (a == b) = false := by simp [h]
theorem int_eq (a : Int) : (a != a) = false ∧ (a == a) = true := by simp

theorem drop_eq {ws ws' : List Wt} {k : Nat} {x y : Wt} (h : ws[k]? = some x) (h' : ws'[k]? = some y) : decide (ws.drop k = ws'.drop k) = (decide (x = y) && decide (ws.drop (k + 1) = ws'.drop (k + 1))) := by
  obtain ⟨hk, hx⟩ := List.getElem?_eq_some_iff.1 h
  obtain ⟨hk', hy⟩ := List.getElem?_eq_some_iff.1 h'
  rw [List.drop_eq_getElem_cons hk, List.drop_eq_getElem_cons hk', hx, hy, Bool.eq_iff_iff]
  simp

/-- two boxed batches -/
theorem box_two (w : World) (t : TypeId) (a b c d a' b' c' d' : Value) :
    (((w.alloc (.cells #[a, b, c, d] t)).alloc (.cells #[a', b', c', d'] t)).cell? ⟨w.heap.size, 3, none⟩ = some d) ∧ (((w.alloc (.cells #[a, b, c, d] t)).alloc (.cells #[a', b', c', d'] t)).cell? ⟨w.heap.size + 1, 3, none⟩ = some d') := by
  constructor
  · rw [World.cell?_alloc_lt _ _ _ (by simp)]
    exact (box_cells w t a b c d).2.2.2
  · have := (box_cells (w.alloc (.cells #[a, b, c, d] t)) t a' b' c' d').2.2.2
    rwa [show (w.alloc (.cells #[a, b, c, d] t)).heap.size = w.heap.size + 1 by simp] at this

set_option maxHeartbeats 2000000 in
theorem refSame_any {c r s c' r' s' : Int} {A A' : Option Addr} {n n' cap cap' B : Nat} {ws ws' : List Wt} {w : World} (hA : WAt w B A ws) (hA' : WAt w B A' ws') (hn : n = ws.length) (hn' : n' = ws'.length) (hB : B ≤ w.heap.size) (hl : n ≤ 70368744177664) (hl' : n' ≤ 70368744177664) :
    Calls Try.prog 14 #[.agg #[.int .u64 c, .int .u64 r, .int .u64 s, .slice A n cap], .agg #[.int .u64 c', .int .u64 r', .int .u64 s', .slice A' n' cap']] w fun e w' =>
      e = .returned (.bool (decide (c = c' ∧ r = r' ∧ s = s' ∧ ws = ws'))) ∧ Below w.heap.size w w' := by
  have hb1 : Below w.heap.size w ((w.alloc (.cells #[.int .u64 c, .int .u64 r, .int .u64 s, .slice A n cap] 25)).alloc (.cells #[.int .u64 c', .int .u64 r', .int .u64 s', .slice A' n' cap'] 25)) :=
    ((Below.refl _ _).alloc (Nat.le_refl _) _).alloc (by simp) _
  obtain ⟨b3, b3'⟩ := box_two w 25 (.int .u64 c) (.int .u64 r) (.int .u64 s) (.slice A n cap) (.int .u64 c') (.int .u64 r') (.int .u64 s') (.slice A' n' cap')
  have HB3 := hid b3
  have HB3' := hid b3'
  have HB1 := hid hb1
  have HA := hid (hA.below (hb1.mono hB))
  have HA' := hid (hA'.below (hb1.mono hB))
  have HN := hid hn
  have HN' := hid hn'
  clear hA hA' hn hn' b3 b3' hb1
  obtain ⟨D, hD⟩ : ∃ D, D = decide (c = c' ∧ r = r' ∧ s = s' ∧ ws = ws') := ⟨_, rfl⟩
  rw [← hD]
  have HD := hid hD
  clear hD
  by_cases e1 : c = c'
  case neg =>
    obtain rfl : D = false := by rw [HD.out]; simp [e1]
    obtain ⟨f1, f2⟩ := int_ne e1
    go_enter Try.func14, Try.ntmps14
    go_wp2_with fail
    go_ret
    exact ⟨rfl, HB1.out⟩
  subst e1
  by_cases e2 : r = r'
  case neg =>
    obtain rfl : D = false := by rw [HD.out]; simp [e2]
    obtain ⟨f1, f2⟩ := int_ne e2
    go_enter Try.func14, Try.ntmps14
    go_wp2_with fail
    go_ret
    exact ⟨rfl, HB1.out⟩
  subst e2
  by_cases e3 : s = s'
  case neg =>
    obtain rfl : D = false := by rw [HD.out]; simp [e3]
    obtain ⟨f1, f2⟩ := int_ne e3
    go_enter Try.func14, Try.ntmps14
    go_wp2_with fail
    go_ret
    exact ⟨rfl, HB1.out⟩
  subst e3
  by_cases e4 : n = n'
  case neg =>
    obtain rfl : D = false := by rw [HD.out]; simp; intro h; apply e4; rw [HN.out, HN'.out, h]
    have f1 : ((n : Int) != (n' : Int)) = true := by simp; omega
    go_enter Try.func14, Try.ntmps14
    go_wp2_with fail
    go_ret
    exact ⟨rfl, HB1.out⟩
  subst e4
  have HD2 := hid (show D = decide (ws.drop 0 = ws'.drop 0) by rw [HD.out]; simp)
  go_enter Try.func14, Try.ntmps14
  go_wp2_with fail
  generalize ((w.alloc (.cells #[.int .u64 c, .int .u64 r, .int .u64 s, .slice A n cap] 25)).alloc (.cells #[.int .u64 c, .int .u64 r, .int .u64 s, .slice A' n cap'] 25)) = w1 at *
  go_loopw [5] (fun i wr => ∃ k m : Nat, k ≤ n ∧ i = .int .i64 (k : Int) ∧ D = decide (ws.drop k = ws'.drop k) ∧ wr = w1.drewN m) (fun i _ => n - (intOf i).toNat)
  case atStart => exact ⟨0, 0, Nat.zero_le _, rfl, HD2.out, rfl⟩
  case round =>
    obtain ⟨k, m, hk, rfl, hd, rfl⟩ := hrel
    have HDK := hid hd
    clear hd
    have b3 := HB3.out
    have b3' := HB3'.out
    by_cases hlt : k < n
    · obtain ⟨b, off, x, rfl, hb, hx, d0, d1, d2⟩ := HA.out.get (k := k) (by rw [← HN.out]; exact hlt)
      obtain ⟨b', off', y, rfl, hb', hy, p0, p1, p2⟩ := HA'.out.get (k := k) (by rw [← HN'.out]; exact hlt)
      have HX := hid (HDK.out.trans (drop_eq hx hy))
      have hne := neq_w x y
      clear hx hy
      by_cases hxy : x = y
      · rw [decide_eq_true hxy] at HX hne
        have HX2 := hid (show D = decide (ws.drop (k + 1) = ws'.drop (k + 1)) from HX.out)
        clear hxy
        go_wp2_with fail
        go_quiet (fail)
        go_wp2_with fail
        go_roundw
        case rel => exact ⟨k + 1, _, by omega, by go_num, HX2.out, rfl⟩
        case measure => simp [intOf]; omega
      · rw [decide_eq_false hxy] at HX hne
        obtain rfl : D = false := HX.out
        clear hxy
        go_wp2_with fail
        go_quiet (fail)
        go_wp2_with fail
        go_ret
        exact ⟨rfl, below_drewN (below_drewN HB1.out _) _⟩
    · obtain rfl : D = true := by rw [HDK.out, List.drop_of_length_le (by rw [← HN.out]; omega), List.drop_of_length_le (by rw [← HN'.out]; omega)]; rfl
      go_wp2_with fail
      go_ret
      exact ⟨rfl, below_drewN HB1.out _⟩

theorem any_drop {ws : List Wt} {k : Nat} {x : Wt} (f : Wt → Bool) (h : ws[k]? = some x) : (ws.drop k).any f = (f x || (ws.drop (k + 1)).any f) := by
  obtain ⟨hk, hx⟩ := List.getElem?_eq_some_iff.1 h
  rw [List.drop_eq_getElem_cons hk, hx, List.any_cons]

set_option maxHeartbeats 2000000 in
theorem refMeets_any {c r s c' r' s' : Int} {A A' : Option Addr} {n n' cap cap' B : Nat} {ws ws' : List Wt} {w : World} (hA : WAt w B A ws) (hA' : WAt w B A' ws') (hn : n = ws.length) (hn' : n' = ws'.length) (hB : B ≤ w.heap.size) (hl : n ≤ 70368744177664) (hl' : n' ≤ 70368744177664) :
    Calls Try.prog 22 #[.agg #[.int .u64 c, .int .u64 r, .int .u64 s, .slice A n cap], .agg #[.int .u64 c', .int .u64 r', .int .u64 s', .slice A' n' cap']] w fun e w' =>
      e = .returned (.bool (meets ws ws')) ∧ Below w.heap.size w w' := by
  have hb1 : Below w.heap.size w ((w.alloc (.cells #[.int .u64 c, .int .u64 r, .int .u64 s, .slice A n cap] 25)).alloc (.cells #[.int .u64 c', .int .u64 r', .int .u64 s', .slice A' n' cap'] 25)) :=
    ((Below.refl _ _).alloc (Nat.le_refl _) _).alloc (by simp) _
  obtain ⟨b3, b3'⟩ := box_two w 25 (.int .u64 c) (.int .u64 r) (.int .u64 s) (.slice A n cap) (.int .u64 c') (.int .u64 r') (.int .u64 s') (.slice A' n' cap')
  have HB3 := hid b3
  have HB3' := hid b3'
  have HB1 := hid hb1
  have HA := hid (hA.below (hb1.mono hB))
  have HA' := hid (hA'.below (hb1.mono hB))
  have HN := hid hn
  have HN' := hid hn'
  clear hA hA' hn hn' b3 b3' hb1
  obtain ⟨D, hD⟩ : ∃ D, D = meets ws ws' := ⟨_, rfl⟩
  rw [← hD]
  have HD := hid (show D = (ws.drop 0).any (fun x => ws'.any fun y => x.k == y.k) from hD)
  clear hD
  go_enter Try.func22, Try.ntmps22
  go_wp2_with fail
  generalize ((w.alloc (.cells #[.int .u64 c, .int .u64 r, .int .u64 s, .slice A n cap] 25)).alloc (.cells #[.int .u64 c', .int .u64 r', .int .u64 s', .slice A' n' cap'] 25)) = w1 at *
  go_loopw [5] (fun i wr => ∃ k m : Nat, k ≤ n ∧ i = .int .i64 (k : Int) ∧ D = (ws.drop k).any (fun x => ws'.any fun y => x.k == y.k) ∧ wr = w1.drewN m) (fun i _ => n - (intOf i).toNat)
  case atStart => exact ⟨0, 0, Nat.zero_le _, rfl, HD.out, rfl⟩
  case round =>
    obtain ⟨k, m, hk, rfl, hd, rfl⟩ := hrel
    have HDK := hid hd
    clear hd
    have b3 := HB3.out
    by_cases hlt : k < n
    · obtain ⟨b, off, x, rfl, hb, hx, d0, d1, d2⟩ := HA.out.get (k := k) (by rw [← HN.out]; exact hlt)
      have HX := hid (HDK.out.trans (any_drop _ hx))
      have t1 := bst_toList x.k
      obtain ⟨K, hK⟩ : ∃ K, K = bst x.k := ⟨_, rfl⟩
      rw [← hK] at d0 t1
      have HIN := hid (show D = ((ws'.drop 0).any (fun y => x.k == y.k) || (ws.drop (k + 1)).any (fun x => ws'.any fun y => x.k == y.k)) from HX.out)
      clear hx hK
      go_wp2_with fail
      go_loopw [6] (fun i wr => ∃ j m' : Nat, j ≤ n' ∧ i = .int .i64 (j : Int) ∧ D = ((ws'.drop j).any (fun y => x.k == y.k) || (ws.drop (k + 1)).any (fun x => ws'.any fun y => x.k == y.k)) ∧ wr = w1.drewN m') (fun i _ => n' - (intOf i).toNat)
      case atStart => exact ⟨0, m, Nat.zero_le _, rfl, HIN.out, rfl⟩
      case round =>
        obtain ⟨j, m', hj, rfl, hd', rfl⟩ := hrel
        have HDJ := hid hd'
        clear hd'
        have b3' := HB3'.out
        by_cases hlt' : j < n'
        · obtain ⟨b', off', y, rfl, hb', hy, p0, p1, p2⟩ := HA'.out.get (k := j) (by rw [← HN'.out]; exact hlt')
          have HY := hid (show D = ((x.k == y.k || (ws'.drop (j + 1)).any (fun y => x.k == y.k)) || (ws.drop (k + 1)).any (fun x => ws'.any fun y => x.k == y.k)) by rw [HDJ.out, any_drop _ hy])
          have t2 := bst_toList y.k
          obtain ⟨K', hK'⟩ : ∃ K', K' = bst y.k := ⟨_, rfl⟩
          rw [← hK'] at p0 t2
          clear hy hK'
          cases he : x.k == y.k with
          | true =>
            obtain rfl : D = true := by rw [HY.out, he]; rfl
            go_wp2_with fail
            go_quiet (fail)
            go_wp2_with fail
            go_ret
            exact ⟨rfl, below_drewN (below_drewN HB1.out _) _⟩
          | false =>
            have HY2 := hid (show D = ((ws'.drop (j + 1)).any (fun y => x.k == y.k) || (ws.drop (k + 1)).any (fun x => ws'.any fun y => x.k == y.k)) by rw [HY.out, he]; rfl)
            go_wp2_with fail
            go_quiet (fail)
            go_wp2_with fail
            go_roundw
            case rel => exact ⟨j + 1, _, by omega, by go_num, HY2.out, rfl⟩
            case measure => simp [intOf]; omega
        · have HY2 := hid (show D = (ws.drop (k + 1)).any (fun x => ws'.any fun y => x.k == y.k) by rw [HDJ.out, List.drop_of_length_le (by rw [← HN'.out]; omega)]; rfl)
          go_wp2_with fail
          go_roundw
          case rel => exact ⟨k + 1, _, by omega, by go_num, HY2.out, rfl⟩
          case measure => simp [intOf]; omega
    · obtain rfl : D = false := by rw [HDK.out, List.drop_of_length_le (by rw [← HN.out]; omega)]; rfl
      go_wp2_with fail
      go_ret
      exact ⟨rfl, below_drewN HB1.out _⟩

end Go.Proofs.Ytcdjbacljnofiaa
