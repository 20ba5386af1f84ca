/-
  The landed Same, Join, over the library's Equal, Grow, Concat.
-/
import Derived.Test.YtikggbopoajcbaaDoorRefPgB
import Derived.Test.YtikggbopoajcbaaDoorPgCut
import Derived.Lib.AppendZeros
namespace Go.Proofs.YtikggbopoajcbaaDoor
open Go Go.RowKit

set_option maxHeartbeats 4000000 in
set_option maxRecDepth 100000 in
theorem equal_any {A A2 : Option Addr} {n c B n2 c2 B2 : Nat} {l l2 : List Cl} {w : World} (h : CS w B A n c l) (h2 : CS w B2 A2 n2 c2 l2) :
    Calls Tryd.prog 59 #[.slice A n c, .slice A2 n2 c2] w fun e w' => e = .returned (.bool (decide (l = l2))) ∧ Below w.heap.size w w' := by
  have HC := hid h
  have HC2 := hid h2
  have HLN := hid h.len
  have HLN2 := hid h2.len
  have hm1 := h.most
  have hm2 := h2.most
  obtain ⟨D, hD⟩ : ∃ D, D = decide (l = l2) := ⟨_, rfl⟩
  rw [← hD]
  by_cases g3 : n = n2
  case neg =>
    obtain rfl : D = false := by rw [hD, decide_eq_false]; exact fun e => g3 (by rw [h.len, h2.len, e])
    have g3' : ((n : Int) == (n2 : Int)) = false := by simpa using fun e => g3 (by omega)
    have g3'' : ((n : Int) != (n2 : Int)) = true := by simpa using fun e => g3 (by omega)
    clear hD h h2
    go_enter Tryd.func59, Tryd.ntmps59
    go_wp2_with fail
    go_ret
    exact ⟨rfl, Below.refl _ _⟩
  subst g3
  have HD := hid hD
  clear hD h h2
  go_enter Tryd.func59, Tryd.ntmps59
  go_wp2_with fail
  go_loopw [5, 13] (fun _ i wr => ∃ k : Nat, k ≤ n ∧ i = .int .i64 (k : Int) ∧ Kept (l.take k = l2.take k) ∧ Kept (Below w.heap.size w wr)) (fun _ i _ => n - (intOf i).toNat)
  case atStart => exact ⟨0, Nat.zero_le _, rfl, hid rfl, hid (Below.refl _ _)⟩
  case round =>
    obtain ⟨k, hk, rfl, HE, HW⟩ := hrel
    by_cases hlt : k < n
    · obtain ⟨b, off, x, rfl, hb, hx, c0, c1⟩ := (HC.out.step HW.out).at_.get (i := k) (by rw [← HLN.out]; exact hlt)
      obtain ⟨b', off', y, rfl, hb', hy, d0, d1⟩ := (HC2.out.step HW.out).at_.get (i := k) (by rw [← HLN2.out]; exact hlt)
      have hnq := fun W => neq_cl x y W
      have HXX := hid hx
      have HYY := hid hy
      clear hx hy hb hb'
      by_cases hxy : x = y
      · have HE2 := hid (show l.take (k + 1) = l2.take (k + 1) by
          have a1 := List.getElem?_eq_some_iff.1 HXX.out
          have a2 := List.getElem?_eq_some_iff.1 HYY.out
          rw [List.take_succ_eq_append_getElem a1.1, List.take_succ_eq_append_getElem a2.1, a1.2, a2.2, HE.out, hxy])
        rw [decide_eq_true hxy] at hnq
        clear hxy
        go_wp2_with fail
        go_quiet (fail)
        go_wp2_with fail
        go_roundw
        case rel => exact ⟨k + 1, by omega, by go_num, HE2, hid (below_drewN HW.out _)⟩
        case measure => simp [intOf]; omega
      · obtain rfl : D = false := by
          rw [HD.out]
          exact decide_eq_false (fun e => by
            have a := HXX.out
            rw [e, HYY.out] at a
            injection a with a
            exact hxy a.symm)
        rw [decide_eq_false hxy] at hnq
        clear hxy
        go_wp2_with fail
        go_quiet (fail)
        go_wp2_with fail
        go_ret
        exact ⟨rfl, below_drewN HW.out _⟩
    · obtain rfl : D = true := by
        rw [HD.out]
        have e := HE.out
        rw [List.take_of_length_le (by rw [← HLN.out]; omega), List.take_of_length_le (by rw [← HLN2.out]; omega)] at e
        exact decide_eq_true e
      go_wp2_with fail
      go_ret
      exact ⟨rfl, HW.out⟩

set_option maxHeartbeats 4000000 in
set_option maxRecDepth 100000 in
theorem same_any {leaf leaf2 : Bool} {next next2 : Int} {A A2 : Option Addr} {n c B n2 c2 B2 : Nat} {l l2 : List Cl} {w : World} (h : CS w B A n c l) (h2 : CS w B2 A2 n2 c2 l2) :
    Calls Tryd.prog 30 #[pageV leaf next A n c, pageV leaf2 next2 A2 n2 c2] w fun e w' => e = .returned (.bool (sameP leaf next l leaf2 next2 l2)) ∧ Below w.heap.size w w' := by
  have hb1 : Below w.heap.size w (w.alloc (.cells #[.bool leaf, .int .i64 next, .slice A n c] 24)) := (Below.refl _ _).alloc (Nat.le_refl _) _
  have hb2 := hb1.alloc hb1.size (.cells #[.bool leaf2, .int .i64 next2, .slice A2 n2 c2] 24)
  have HB := hid hb2
  have HQ := hid (equal_any (h.step hb2) (h2.step hb2))
  obtain ⟨D, hD⟩ : ∃ D, D = sameP leaf next l leaf2 next2 l2 := ⟨_, rfl⟩
  rw [← hD]
  unfold sameP at hD
  unfold pageV
  clear h h2 hb1 hb2
  by_cases g1 : leaf = leaf2
  case neg =>
    obtain rfl : D = false := by rw [hD, decide_eq_false]; exact fun e => g1 e.1
    have g1' : (leaf == leaf2) = false := by simpa using g1
    have g1'' : (leaf != leaf2) = true := by simpa using g1
    clear hD
    go_enter Tryd.func30, Tryd.ntmps30
    go_wp2_with fail
    go_ret
    exact ⟨rfl, HB.out⟩
  subst g1
  have g1' : (leaf == leaf) = true := by simp
  have g1'' : (leaf != leaf) = false := by simp
  by_cases g2 : next = next2
  case neg =>
    obtain rfl : D = false := by rw [hD, decide_eq_false]; exact fun e => g2 e.2.1
    have g2' : (next == next2) = false := by simpa using g2
    have g2'' : (next != next2) = true := by simpa using g2
    clear hD
    go_enter Tryd.func30, Tryd.ntmps30
    go_wp2_with fail
    go_ret
    exact ⟨rfl, HB.out⟩
  subst g2
  have g2' : (next == next) = true := by simp
  obtain rfl : D = decide (l = l2) := by rw [hD]; simp
  clear hD
  generalize decide (l = l2) = D at *
  go_enter Tryd.func30, Tryd.ntmps30
  go_wp2_with fail
  go_fit HQ.out
  rintro e w3 ⟨rfl, hb3⟩
  have HB3 := hid (below_step HB.out hb3)
  clear hb3
  go_wp2_with fail
  go_ret
  exact ⟨rfl, HB3.out⟩

theorem zero_cells (n : Nat) : (Builtin.zeroCells (Value.agg #[Value.string ByteArray.empty, Value.string ByteArray.empty]).cells n).size = n * 2 := by
  rw [size_zeroCells]; rfl

set_option maxHeartbeats 4000000 in
set_option maxRecDepth 100000 in
theorem grow_any {n : Nat} {w : World} (hn : n ≤ 549755813888) :
    Calls Tryd.prog 79 #[.slice none 0 0, .int .i64 (n : Int)] w fun e w' => ∃ A' c', e = .returned (.slice A' 0 c') ∧ GRow eCl 44 w' w.heap.size A' 0 c' [] ∧ Below w.heap.size w w' := by
  by_cases h0 : n = 0
  · subst h0
    go_enter Tryd.func79, Tryd.ntmps79
    go_wp2_with fail
    go_ret
    exact ⟨none, 0, rfl, GRow.nil, Below.refl _ _⟩
  · have hpos : 0 < n := by omega
    have hposz : (0 : Int) < (n : Int) := by omega
    obtain ⟨i0, hi, hz0, hz1, hz2⟩ := info_parts info_cell
    have hrun := fun W => Go.Lib.run_append_nil_zeros (P := Tryd.prog) W 22 3 22 44 i0 _ .i64 .i64 Tryd.underlying22 Tryd.underlying3 hi hz0 n hpos (by rw [hz1]; decide) (by omega) (by rw [hz2]; omega)
    have hge := grownCap_ge w n 0 44
    have hcm := grownCap_le_maxLen w n 0 44 (by unfold maxLen; omega)
    have hsl : ∀ (W : World) (C : Nat), (Instr.slice 22 (.slice (some ⟨w.heap.size, 0, none⟩) n C) none (some (.int .i64 0)) none).run Tryd.prog W = .ok (.slice (some ⟨w.heap.size, 0, none⟩) 0 C) W := fun W C => by
      have e : Tryd.prog.elem 22 = 44 := by kernel_rfl
      rw [run_slice_h (P := Tryd.prog) W 22 (some ⟨w.heap.size, 0, none⟩) n C (by rw [e]; exact Tryd.underlying22) .i64 0 (by omega) (by omega), cell_size]
      have ea : (⟨w.heap.size, 0, none⟩ : Addr).add 0 = ⟨w.heap.size, 0, none⟩ := by unfold Addr.add; simp
      by_cases hC : C = 0
      · simp [sliced, hC]
      · simp [sliced, hC, ea]
    go_enter Tryd.func79, Tryd.ntmps79
    go_wp2_with (at_builtin; refine Lib.wpList_append_run _ rfl _ _ _ _ rfl _ _ rfl rfl _ _ (hrun _) ?_)
    go_ret
    refine ⟨_, _, rfl, ⟨rfl, ?_⟩, ((Below.refl _ _).alloc (Nat.le_refl _) _).drew⟩
    exact World.ownsRow_made w _ (grownCap w n 0 44) (Nat.le_refl _) hcm (by
      rw [Array.size_append]
      have e1 := zero_cells n
      have e2 := zero_cells (grownCap w n 0 44 - n)
      rw [show (#[Value.string ByteArray.empty, Value.string ByteArray.empty] : Array Value) = (Value.agg #[Value.string ByteArray.empty, Value.string ByteArray.empty]).cells from rfl, e1, e2, ← Nat.add_mul]
      congr 1
      omega)

set_option maxHeartbeats 4000000 in
set_option maxRecDepth 100000 in
theorem concat_any {A A2 : Option Addr} {g n c B n2 c2 B2 : Nat} {l l2 : List Cl} {w : World} (h : CS w B A n c l) (h2 : CS w B2 A2 n2 c2 l2) (hn : n + n2 ≤ 549755813888) (hg : Blk w g 22 #[.slice A n c, .slice A2 n2 c2]) :
    Calls Tryd.prog 58 #[.slice (some ⟨g, 0, none⟩) 2 2] w fun e w' => ∃ A' m' c', e = .returned (.slice A' m' c') ∧ GRow eCl 44 w' w.heap.size A' m' c' (l ++ l2) ∧ Below w.heap.size w w' := by
  have HC := hid h
  have HC2 := hid h2
  have HG := hid hg
  have hm1 := h.most
  have hm2 := h2.most
  have HLN := hid h.len
  have HLN2 := hid h2.len
  have g0 := hg.cell 0
  have g1 := hg.cell 1
  obtain ⟨N, hN⟩ : ∃ N, N = n + n2 := ⟨_, rfl⟩
  rw [← hN] at hn
  have HNN := hid (show (n : Int) + (n2 : Int) = (N : Int) by omega)
  have HGR := hid (grow_any (w := w) hn)
  clear h h2 hg
  go_enter Tryd.func58, Tryd.ntmps58
  go_wp2_with fail
  go_loopw [3, 5, 11] (fun s _ i wr => wr = w ∧ ((i = .int .i64 0 ∧ s = .int .i64 0) ∨ (i = .int .i64 1 ∧ s = .int .i64 (n : Int)) ∨ (i = .int .i64 2 ∧ s = .int .i64 ((n : Int) + (n2 : Int))))) (fun _ _ i _ => 2 - (intOf i).toNat)
  case atStart => exact ⟨rfl, .inl ⟨rfl, rfl⟩⟩
  case round =>
    obtain ⟨hw0, hr⟩ := hrel
    obtain rfl : w = wr := hw0.symm
    rcases hr with ⟨rfl, rfl⟩ | ⟨rfl, rfl⟩ | ⟨rfl, rfl⟩
    · go_wp2_with fail
      go_roundw
      case rel => refine ⟨?_, .inr (.inl ⟨?_, ?_⟩)⟩ <;> first | rfl | trivial | simp
      case measure => simp [intOf]
    · go_wp2_with fail
      go_roundw
      case rel => refine ⟨?_, .inr (.inr ⟨?_, ?_⟩)⟩ <;> first | rfl | trivial | simp
      case measure => simp [intOf]
    · go_wp2_with fail
      rw [HNN.out]
      go_fit HGR.out
      rintro e w1 ⟨A3, c3, rfl, hr3, hb3⟩
      have HR3 := hid hr3
      have HB3 := hid hb3
      clear hr3 hb3 g0 g1 HGR
      go_wp2_with fail
      go_loopw [6, 8, 27] (fun v _ i wr => ∃ (k : Nat) (A' : Option Addr) (m' c' : Nat) (acc : List Cl), i = .int .i64 (k : Int) ∧ v = .slice A' m' c' ∧ Kept (GRow eCl 44 wr w.heap.size A' m' c' acc) ∧ Kept (Below w.heap.size w wr) ∧ ((k = 0 ∧ acc = []) ∨ (k = 1 ∧ acc = l) ∨ (k = 2 ∧ acc = l ++ l2))) (fun _ _ i _ => 2 - (intOf i).toNat)
      case atStart => exact ⟨0, A3, 0, c3, [], rfl, rfl, HR3, HB3, .inl ⟨rfl, rfl⟩⟩
      case round =>
        obtain ⟨k, A4, m4, c4, acc, rfl, rfl, HR, HB, hk⟩ := hrel
        have HGW := hid (HG.out.below HB.out HG.out.lt)
        have g0 := HGW.out.cell 0
        have g1 := HGW.out.cell 1
        clear HR3 HB3
        rcases hk with ⟨rfl, rfl⟩ | ⟨rfl, rfl⟩ | ⟨rfl, rfl⟩
        · have HCK := hid (HC.out.step HB.out)
          have HZ := hid (show (([] : List Cl)).length + (l).length ≤ 1099511627776 by simp only [List.length_nil]; have := HLN.out; omega)
          go_wp2_with (at_builtin; go_must (refine wpList_append_g _ rfl _ _ eCl gi_cell (by decide) rfl w.heap.size rfl HR.out rfl HCK.out.len HCK.out.at_ HZ.out HB.out.size ?_))
          intro A5 m5 c5 w5 hr5 _ hb5 _
          have HR5 := hid hr5
          have HB5 := hid (HB.out.trans hb5)
          clear hr5 hb5
          go_wp2_with fail
          go_roundw
          case rel => exact ⟨1, A5, m5, c5, _, by first | rfl | go_num, rfl, HR5, HB5, .inr (.inl ⟨rfl, by simp⟩)⟩
          case measure => simp [intOf]
        · have HCK := hid (HC2.out.step HB.out)
          have HZ := hid (show (acc).length + (l2).length ≤ 1099511627776 by have := HLN.out; have := HLN2.out; omega)
          go_wp2_with (at_builtin; go_must (refine wpList_append_g _ rfl _ _ eCl gi_cell (by decide) rfl w.heap.size rfl HR.out rfl HCK.out.len HCK.out.at_ HZ.out HB.out.size ?_))
          intro A5 m5 c5 w5 hr5 _ hb5 _
          have HR5 := hid hr5
          have HB5 := hid (HB.out.trans hb5)
          clear hr5 hb5
          go_wp2_with fail
          go_roundw
          case rel => exact ⟨2, A5, m5, c5, _, by first | rfl | go_num, rfl, HR5, HB5, .inr (.inr ⟨rfl, rfl⟩)⟩
          case measure => simp [intOf]
        · go_wp2_with fail
          go_ret
          exact ⟨A4, m4, c4, rfl, HR.out, HB.out⟩

end Go.Proofs.YtikggbopoajcbaaDoor
