/-
  few: by its contract.
-/
import Derived.Test.YtcdjbacljnofiaaWAt
namespace Go.Proofs.Ytcdjbacljnofiaa
open Go Go.RowKit

/-- a batch that isn't too great -/
def isFew (ws : List Wt) : Bool := decide (ws.length ≤ 80) && ws.all fun x => decide (x.k.length ≤ 5000) && decide (x.v.length ≤ 5000)
theorem isFew_drop {ws : List Wt} {k : Nat} {x : Wt} (h : ws[k]? = some x) : (ws.drop k).all (fun x => decide (x.k.length ≤ 5000) && decide (x.v.length ≤ 5000)) = ((decide (x.k.length ≤ 5000) && decide (x.v.length ≤ 5000)) && (ws.drop (k + 1)).all (fun x => decide (x.k.length ≤ 5000) && decide (x.v.length ≤ 5000))) := by
  obtain ⟨hk, hx⟩ := List.getElem?_eq_some_iff.1 h
  rw [List.drop_eq_getElem_cons hk, List.all_cons, hx]

set_option maxHeartbeats 1000000 in
theorem few_any (c r s : Int) {A : Option Addr} {n cap B : Nat} {ws : List Wt} {w : World} (hA : WAt w B A ws) (hn : n = ws.length) (_hc : n ≤ cap) (hB : B ≤ w.heap.size) :
    Calls Try.prog 10 #[.agg #[.int .u64 c, .int .u64 r, .int .u64 s, .slice A n cap]] w fun e w' => e = .returned (.bool (isFew ws)) ∧ Below w.heap.size w w' := by
  obtain ⟨D, hD⟩ : ∃ D, D = isFew ws := ⟨_, rfl⟩
  rw [← hD]
  have HD := hid hD
  have HN := hid hn
  have hb1 : Below w.heap.size w (w.alloc (.cells #[.int .u64 c, .int .u64 r, .int .u64 s, .slice A n cap] 25)) := (Below.refl _ _).alloc (Nat.le_refl _) _
  have HB1 := hid hb1
  have HA := hid (hA.below (hb1.mono hB))
  clear hD hn hb1 hA
  by_cases h80 : 80 < n
  · obtain rfl : D = false := by rw [HD.out, isFew, decide_eq_false (by rw [← HN.out]; omega)]; rfl
    go_enter Try.func10, Try.ntmps10
    go_wp2_with fail
    go_ret
    exact ⟨rfl, HB1.out⟩
  · have HD2 := hid (show D = ws.all (fun x => decide (x.k.length ≤ 5000) && decide (x.v.length ≤ 5000)) by rw [HD.out, isFew, decide_eq_true (by rw [← HN.out]; omega)]; rfl)
    go_enter Try.func10, Try.ntmps10
    go_wp2_with fail
    go_loop [3] (fun i => ∃ k : Nat, k ≤ n ∧ i = .int .i64 (k : Int) ∧ D = (ws.drop k).all (fun x => decide (x.k.length ≤ 5000) && decide (x.v.length ≤ 5000))) (fun i => n - (intOf i).toNat)
    case atStart => exact ⟨0, Nat.zero_le _, rfl, HD2.out⟩
    case round =>
      obtain ⟨k, hk, rfl, hd⟩ := hrel
      have HDK := hid hd
      clear hd
      by_cases hlt : k < n
      · obtain ⟨b, off, x, rfl, hb, hx, c0, c1, c2⟩ := HA.out.get (k := k) (by rw [← HN.out]; exact hlt)
        have HX := hid (HDK.out.trans (isFew_drop hx))
        have z1 := bst_size x.k
        have z2 := bst_size x.v
        clear hx
        by_cases h1 : 5000 < x.k.length
        · obtain rfl : D = false := by rw [HX.out, decide_eq_false (by omega)]; rfl
          go_wp2_with fail
          go_ret
          exact ⟨rfl, HB1.out⟩
        · by_cases h2 : 5000 < x.v.length
          · obtain rfl : D = false := by rw [HX.out, decide_eq_false (p := x.v.length ≤ 5000) (by omega)]; simp
            go_wp2_with fail
            go_ret
            exact ⟨rfl, HB1.out⟩
          · have HX2 := hid (show D = (ws.drop (k + 1)).all (fun x => decide (x.k.length ≤ 5000) && decide (x.v.length ≤ 5000)) by rw [HX.out, decide_eq_true (p := x.k.length ≤ 5000) (by omega), decide_eq_true (p := x.v.length ≤ 5000) (by omega)]; rfl)
            go_wp2_with fail
            go_round
            case rel => exact ⟨k + 1, by omega, by go_num, HX2.out⟩
            case measure => simp [intOf]; omega
      · obtain rfl : D = true := by rw [HDK.out, List.drop_of_length_le (by rw [← HN.out]; omega)]; rfl
        go_wp2_with fail
        go_ret
        exact ⟨rfl, HB1.out⟩

end Go.Proofs.Ytcdjbacljnofiaa
