/-
  The document's Check, by its contract.
-/
import Derived.Test.YtcdjbacljnofiaaWAt
import Derived.Deep.QuietTactic
import Derived.BigQuiet
import Derived.Deep.Draws
namespace Go.Proofs.Ytcdjbacljnofiaa
open Go Go.RowKit

theorem leK_cases (f k : List UInt8) : (Op.bytesLess f k = true ∧ leK f k = true) ∨ (Op.bytesLess f k = false ∧ (f == k) = true ∧ leK f k = true) ∨ (Op.bytesLess f k = false ∧ (f == k) = false ∧ leK f k = false) := by
  unfold leK
  cases Op.bytesLess f k <;> cases f == k <;> simp

set_option maxHeartbeats 2000000 in
theorem refBCheck_any (c r s : Int) {A : Option Addr} {n cap B : Nat} {ws : List Wt} {w : World} (hA : WAt w B A ws) (hn : n = ws.length) (hB : B ≤ w.heap.size) :
    Calls Try.prog 13 #[.agg #[.int .u64 c, .int .u64 r, .int .u64 s, .slice A n cap]] w fun e w' => e = .returned (.int .i64 (chk ws : Int)) ∧ Below w.heap.size w w' := by
  obtain ⟨D, hD⟩ : ∃ D, D = chk ws := ⟨_, rfl⟩
  rw [← hD]
  have HD := hid hD
  have HN := hid hn
  have hb1 : Below w.heap.size w (w.alloc (.cells #[.int .u64 c, .int .u64 r, .int .u64 s, .slice A n cap] 25)) := (Below.refl _ _).alloc (Nat.le_refl _) _
  obtain ⟨_, _, _, hc3⟩ := box_cells w 25 (.int .u64 c) (.int .u64 r) (.int .u64 s) (.slice A n cap)
  have HC3 := hid hc3
  have HB1 := hid hb1
  have HSZ := hid (show (w.alloc (.cells #[.int .u64 c, .int .u64 r, .int .u64 s, .slice A n cap] 25)).heap.size = w.heap.size + 1 by simp)
  have HA := hid (hA.below (hb1.mono hB))
  clear hD hn hb1 hA hc3
  by_cases h0 : n = 0
  · obtain rfl : D = 50 := by rw [HD.out, chk, if_pos (by rw [← HN.out]; exact h0)]
    subst h0
    go_enter Try.func13, Try.ntmps13
    go_wp2_with fail
    go_ret
    exact ⟨rfl, HB1.out⟩
  by_cases h8 : 8 < n
  · obtain rfl : D = 51 := by rw [HD.out, chk, if_neg (by rw [← HN.out]; exact h0), if_pos (by rw [← HN.out]; exact h8)]
    go_enter Try.func13, Try.ntmps13
    go_wp2_with fail
    go_ret
    exact ⟨rfl, HB1.out⟩
  have hn0 : ((n : Int) == 0) = false := by simp; omega
  have HD2 := hid (show D = chks none ws by rw [HD.out, chk, if_neg (by rw [← HN.out]; exact h0), if_neg (by rw [← HN.out]; exact h8)])
  go_enter Try.func13, Try.ntmps13
  go_wp2_with fail
  generalize (w.alloc (.cells #[.int .u64 c, .int .u64 r, .int .u64 s, .slice A n cap] 25)) = w1 at *
  go_loopw [3] (fun i wr => ∃ k : Nat, k ≤ n ∧ i = .int .i64 (k : Int) ∧ D = chks (prevK ws k) (ws.drop k) ∧ Below w1.heap.size w1 wr) (fun i _ => n - (intOf i).toNat)
  case atStart => exact ⟨0, Nat.zero_le _, rfl, HD2.out, Below.refl _ _⟩
  case round =>
    obtain ⟨k, hk, rfl, hd, hbw⟩ := hrel
    have HDK := hid hd
    have HBW := hid hbw
    have hend := below_step HB1.out hbw
    have c3 := (hbw.cell (p := ⟨w.heap.size, 3, none⟩) (by show w.heap.size < w1.heap.size; rw [HSZ.out]; omega)).trans HC3.out
    have HEND := hid hend
    clear hd hbw hend
    by_cases hlt : k < n
    · obtain ⟨b, off, x, rfl, hb, hx, d0, d1, d2⟩ := (HA.out.below (HBW.out.mono (by rw [HSZ.out]; omega))).get (k := k) (by rw [← HN.out]; exact hlt)
      have HX := hid (HDK.out.trans (chks_drop hx))
      have z1 := bst_size x.k
      have z2 := bst_size x.v
      have HXX := hid hx
      clear hx
      by_cases h1 : x.k.length < 1 ∨ 64 < x.k.length
      · obtain rfl : D = 52 := by rw [HX.out, chk1_key h1]; rfl
        rcases h1 with h1 | h1
        · go_wp2_with fail
          go_ret
          exact ⟨rfl, HEND.out.alloc HEND.out.size _⟩
        · go_wp2_with fail
          go_ret
          exact ⟨rfl, HEND.out.alloc HEND.out.size _⟩
      have hk1 : ¬ x.k.length < 1 := fun h => h1 (.inl h)
      have hk64 : ¬ 64 < x.k.length := fun h => h1 (.inr h)
      by_cases h2 : 256 < x.v.length
      · obtain rfl : D = 53 := by rw [HX.out, chk1_val hk1 hk64 (.inl h2)]; rfl
        go_wp2_with fail
        go_ret
        exact ⟨rfl, HEND.out.alloc HEND.out.size _⟩
      by_cases h3 : x.g = true ∧ 0 < x.v.length
      · obtain rfl : D = 53 := by rw [HX.out, chk1_val hk1 hk64 (.inr h3)]; rfl
        obtain ⟨h3, h4⟩ := h3
        rw [h3] at d2
        go_wp2_with fail
        go_ret
        exact ⟨rfl, HEND.out.alloc HEND.out.size _⟩
      have HG3 := hid h3
      have HH1 := hid hk1
      have HH2 := hid hk64
      have HH3 := hid h2
      have hend2 := hid (HEND.out.alloc HEND.out.size (.cells #[.string (bst x.k), .string (bst x.v), .bool x.g] 43))
      have HW1 := hid (HBW.out.alloc HBW.out.size (.cells #[.string (bst x.k), .string (bst x.v), .bool x.g] 43))
      have hwl : w.heap.size < wr.heap.size := Nat.lt_of_lt_of_le (by rw [HSZ.out]; omega) HBW.out.size
      have c3w := (World.cell?_alloc_lt wr (.cells #[.string (bst x.k), .string (bst x.v), .bool x.g] 43) ⟨w.heap.size, 3, none⟩ hwl).trans c3
      by_cases hk0 : 0 < k
      · obtain ⟨b', off', x0, e0, _, hx0, p0, _, _⟩ := (HA.out.below (HBW.out.mono (by rw [HSZ.out]; omega))).get (k := k - 1) (by rw [← HN.out]; omega)
        injection e0 with e0
        injection e0 with e1 e2 _
        subst e1 e2
        have hpk : prevK ws k = some x0.k := by
          have := prevK_succ hx0
          rwa [show k - 1 + 1 = k by omega] at this
        have hidx : (k : Int) - 1 = ((k - 1 : Nat) : Int) := by omega
        have t1 := bst_toList x.k
        have t2 := bst_toList x0.k
        have HCH := hid (show chk1 (prevK ws k) x = if leK x.k x0.k then 54 else 0 by rw [hpk, chk1_more HH1.out HH2.out HH3.out HG3.out])
        obtain ⟨K, hK⟩ : ∃ K, K = bst x.k := ⟨_, rfl⟩
        obtain ⟨K0, hK0⟩ : ∃ K0, K0 = bst x0.k := ⟨_, rfl⟩
        have p0w := (World.cell?_alloc_lt wr (.cells #[.string (bst x.k), .string (bst x.v), .bool x.g] 43) ⟨b, off + (k - 1) * 3, none⟩ (by show b < _; omega)).trans p0
        rw [← hK] at d0 z1 t1 hend2 HW1 c3w p0w
        rw [← hK0] at p0w t2
        clear p0
        clear hx0 hpk hK hK0 h1 h3 hwl
        rcases leK_cases x.k x0.k with ⟨g1, g2⟩ | ⟨g1, g3, g2⟩ | ⟨g1, g3, g2⟩
        · obtain rfl : D = 54 := by rw [HX.out, HCH.out, g2]; rfl
          clear g2
          cases hg : x.g with
          | false =>
            rw [hg] at d2 hend2 HW1 c3w p0w
            go_wp2_with fail
            go_quiet (fail)
            go_wp2_with fail
            go_ret
            exact ⟨rfl, below_drewN hend2.out _⟩
          | true =>
            rw [hg] at d2 hend2 HW1 c3w p0w
            have hv0 : ¬ 0 < x.v.length := fun h => HG3.out ⟨hg, h⟩
            go_wp2_with fail
            go_quiet (fail)
            go_wp2_with fail
            go_ret
            exact ⟨rfl, below_drewN hend2.out _⟩
        · obtain rfl : D = 54 := by rw [HX.out, HCH.out, g2]; rfl
          clear g2
          cases hg : x.g with
          | false =>
            rw [hg] at d2 hend2 HW1 c3w p0w
            go_wp2_with fail
            go_quiet (fail)
            go_wp2_with fail
            go_ret
            exact ⟨rfl, below_drewN hend2.out _⟩
          | true =>
            rw [hg] at d2 hend2 HW1 c3w p0w
            have hv0 : ¬ 0 < x.v.length := fun h => HG3.out ⟨hg, h⟩
            go_wp2_with fail
            go_quiet (fail)
            go_wp2_with fail
            go_ret
            exact ⟨rfl, below_drewN hend2.out _⟩
        · have HN1 := hid (show D = chks (prevK ws (k + 1)) (ws.drop (k + 1)) by rw [HX.out, HCH.out, g2, prevK_succ HXX.out]; rfl)
          clear g2
          cases hg : x.g with
          | false =>
            rw [hg] at d2 hend2 HW1 c3w p0w
            go_wp2_with fail
            go_quiet (fail)
            go_wp2_with fail
            go_roundw
            case rel => exact ⟨k + 1, by omega, by go_num, HN1.out, below_drewN HW1.out _⟩
            case measure => simp [intOf]; omega
          | true =>
            rw [hg] at d2 hend2 HW1 c3w p0w
            have hv0 : ¬ 0 < x.v.length := fun h => HG3.out ⟨hg, h⟩
            go_wp2_with fail
            go_quiet (fail)
            go_wp2_with fail
            go_roundw
            case rel => exact ⟨k + 1, by omega, by go_num, HN1.out, below_drewN HW1.out _⟩
            case measure => simp [intOf]; omega
      · have HN1 := hid (show D = chks (prevK ws (k + 1)) (ws.drop (k + 1)) by rw [HX.out, prevK_succ HXX.out, show k = 0 by omega, show prevK ws 0 = none from rfl, chk1_first HH1.out HH2.out HH3.out HG3.out, if_pos rfl])
        clear h1 h3
        cases hg : x.g with
        | false =>
          rw [hg] at d2 hend2 HW1 c3w
          go_wp2_with fail
          go_quiet (fail)
          go_wp2_with fail
          go_roundw
          case rel => exact ⟨k + 1, by omega, by go_num, HN1.out, below_drewN HW1.out _⟩
          case measure => simp [intOf]; omega
        | true =>
          rw [hg] at d2 hend2 HW1 c3w
          have hv0 : ¬ 0 < x.v.length := fun h => HG3.out ⟨hg, h⟩
          go_wp2_with fail
          go_quiet (fail)
          go_wp2_with fail
          go_roundw
          case rel => exact ⟨k + 1, by omega, by go_num, HN1.out, below_drewN HW1.out _⟩
          case measure => simp [intOf]; omega
    · obtain rfl : D = 0 := by rw [HDK.out, List.drop_of_length_le (by rw [← HN.out]; omega)]; rfl
      go_wp2_with fail
      go_ret
      exact ⟨rfl, HEND.out⟩

end Go.Proofs.Ytcdjbacljnofiaa
