/-
  The landed Sorted, by its contract.
-/
import Derived.Test.YtcdjbacljnofiaaRowSort
import Derived.Test.YtcdjbacljnofiaaRefBSorted
import Derived.Lib.SliceRun
namespace Go.Proofs.Ytcdjbacljnofiaa
open Go Go.RowKit Go.Sort

theorem WRow.shape {w : World} {base m c : Nat} {A : Option Addr} {ws : List Wt} (h : WRow w base A m c ws) : (A = none ∧ m = 0 ∧ c = 0 ∧ ws = []) ∨ ∃ g, A = some ⟨g, 0, none⟩ := by
  obtain ⟨hm, hown⟩ := h
  rcases hown.2 with ⟨hv, h0⟩ | ⟨g, cap, cur, hv, _⟩
  · injection hv with h1 h2 h3
    exact .inl ⟨h1, h0, h3, List.eq_nil_of_length_eq_zero (by omega)⟩
  · injection hv with h1
    exact .inr ⟨g, h1⟩

set_option maxHeartbeats 1000000 in
set_option maxRecDepth 100000 in
theorem sclone_any {A : Option Addr} {n cap B : Nat} {ws : List Wt} {w : World} (hA : WAt w B A ws) (hn : n = ws.length) (hB : B ≤ w.heap.size) (hl : n ≤ 1099511627775) :
    Calls Try.prog 30 #[.slice A n cap] w fun e w' => ∃ A' m' c', e = .returned (.slice A' m' c') ∧ WRow w' w.heap.size A' m' c' ws ∧ Below w.heap.size w w' := by
  have HA := hid hA
  have HN := hid hn
  have HB := hid hB
  cases A with
  | none =>
    obtain rfl : ws = [] := by
      rcases ws with _ | ⟨y, r⟩
      · rfl
      · obtain ⟨_, _, h, _⟩ := hA.out (by simp)
        cases h
    clear hA hn hB
    have he := fun W => Go.Lib.run_eql_slice_nil (P := Try.prog) W 23 43 none n cap 0 0 Try.underlying23
    go_enter Try.func30, Try.ntmps30
    go_wp2_with fail
    go_ret
    exact ⟨none, 0, 0, rfl, WRow.nil w _, Below.refl _ _⟩
  | some ad =>
    have HR0 := hid (WRow.empty w (base := w.heap.size) rfl (Nat.le_refl _))
    have HB0 := hid (show Below w.heap.size w (w.alloc (.cells #[] 43)) from (Below.refl _ _).alloc (Nat.le_refl _) _)
    have HA2 := hid (hA.below (HB0.out.mono hB))
    have HL := hid (show ([] : List Wt).length + ws.length ≤ 1099511627776 by simp; omega)
    clear hA hn hB
    have he := fun W => Go.Lib.run_eql_slice_nil (P := Try.prog) W 23 43 (some ad) n cap 0 0 Try.underlying23
    go_enter Try.func30, Try.ntmps30
    go_wp2_with (at_builtin; go_must (refine wpList_append_ws _ rfl _ _ rfl w.heap.size rfl HR0.out rfl HN.out HA2.out HL.out (by simp) ?_))
    intro A7 m7 c7 w7 hr7 hm7 hb7 hg7
    have HR7 := hid hr7
    have HB7 := hid (HB0.out.trans hb7)
    clear hr7 hm7 hb7 hg7
    go_wp2_with fail
    go_ret
    exact ⟨A7, m7, c7, rfl, HR7.out, HB7.out⟩

set_option maxHeartbeats 1000000 in
theorem insert_nil (fv : Value) (w : World) : Calls Try.prog 62 #[.slice none 0 0, .int .i64 0, .int .i64 0, fv] w fun e w' => e = .returned (.tuple #[]) ∧ w = w' := by
  go_enter Try.func62, Try.ntmps62
  go_wp2_with fail
  go_loopw [8] (fun i wr => i = .int .i64 1 ∧ wr = w) (fun i _ => 0)
  case atStart => exact ⟨rfl, rfl⟩
  case round =>
    obtain ⟨rfl, rfl⟩ := hrel
    go_wp2_with fail
    go_end0
    exact ⟨rfl, rfl⟩
set_option maxHeartbeats 1000000 in
theorem stable_nil (fv : Value) (w : World) : Calls Try.prog 48 #[.slice none 0 0, .int .i64 0, fv] w fun e w' => e = .returned (.tuple #[]) ∧ w = w' := by
  go_enter Try.func48, Try.ntmps48
  go_wp2_with fail
  go_loopw [7, 8] (fun i j wr => i = .int .i64 0 ∧ j = .int .i64 20 ∧ wr = w) (fun i _ _ => 0)
  case atStart => exact ⟨rfl, rfl, rfl⟩
  case round =>
    obtain ⟨rfl, rfl, rfl⟩ := hrel
    go_wp2_with fail
    go_fit (insert_nil fv _)
    rintro e w1 ⟨rfl, rfl⟩
    go_wp2_with fail
    go_loopw [6] (fun i wq => i = .int .i64 20 ∧ wq = wr) (fun i _ => 0)
    case atStart => exact ⟨rfl, rfl⟩
    case round =>
      obtain ⟨rfl, rfl⟩ := hrel
      go_wp2_with fail
      go_end0
      exact ⟨rfl, rfl⟩
set_option maxHeartbeats 1000000 in
theorem sortStable_nil (fv : Value) (w : World) : Calls Try.prog 31 #[.slice none 0 0, fv] w fun e w' => e = .returned (.tuple #[]) ∧ w = w' := by
  go_enter Try.func31, Try.ntmps31
  go_wp2_with fail
  go_fit (stable_nil fv _)
  rintro e w1 ⟨rfl, rfl⟩
  go_wp2_with fail
  go_end0
  exact ⟨rfl, rfl⟩

/-- the sort of a row of the call's own -/
theorem sortRow_any {w : World} {base m c : Nat} {A : Option Addr} {ws : List Wt} (h : WRow w base A m c ws) (hle : base ≤ w.heap.size) (hm : m ≤ 1099511627775) :
    Calls Try.prog 31 #[.slice A m c, .func (.func 28) #[] #[]] w fun e w' => e = .returned (.tuple #[]) ∧ WRow w' base A m c (sortW ws) ∧ Below base w w' := by
  rcases h.shape with ⟨rfl, rfl, rfl, rfl⟩ | ⟨g, rfl⟩
  · refine Calls.mono (sortStable_nil _ w) ?_
    rintro e w' ⟨rfl, rfl⟩
    exact ⟨rfl, h, Below.refl _ _⟩
  · obtain ⟨R, hb, hlt⟩ := h.rowK
    have hm' := h.1
    have hsz : ws.toArray.size = m := by rw [hm']; simp
    have G : SRow Try.prog enc3 3 w g 0 ws.toArray := ⟨sLaid, R, by omega⟩
    have hc : CmpLays Try.prog 28 #[] enc3 3 cfW g 0 ws.toArray.size w := fun n os dk _ x y => byKey_any x y _
    have := sortStable_any G 28 #[] (enters_of Try.func28 (by kernel_rfl) rfl) hc c w (SWK.start R.hH)
    rw [hsz] at this
    refine Calls.mono this ?_
    rintro e w' ⟨rfl, d', hd, _, S⟩
    have hs := h.sorted hle (ws' := sortW ws) (by rw [hd]) (sortW_length ws) S
    exact ⟨rfl, hs.1, hs.2⟩

theorem St3.res2 {w wr : World} {c r s : Int} {A0 A : Option Addr} {n cap m c1 : Nat} {l : List Wt} (h : St3 w wr c r s A0 n cap A m c1 l) (u0 u1 u2 u3 : Value) :
    Blk ((((wr.setCell ⟨w.heap.size + 1, 0, none⟩ u0).setCell ⟨w.heap.size + 1, 1, none⟩ u1).setCell ⟨w.heap.size + 1, 2, none⟩ u2).setCell ⟨w.heap.size + 1, 3, none⟩ u3) (w.heap.size + 1) 25 #[u0, u1, u2, u3] ∧
      WRow ((((wr.setCell ⟨w.heap.size + 1, 0, none⟩ u0).setCell ⟨w.heap.size + 1, 1, none⟩ u1).setCell ⟨w.heap.size + 1, 2, none⟩ u2).setCell ⟨w.heap.size + 1, 3, none⟩ u3) w.heap.size A m c1 l ∧
      Below w.heap.size w ((((wr.setCell ⟨w.heap.size + 1, 0, none⟩ u0).setCell ⟨w.heap.size + 1, 1, none⟩ u1).setCell ⟨w.heap.size + 1, 2, none⟩ u2).setCell ⟨w.heap.size + 1, 3, none⟩ u3) := by
  have n2 := own_ne_cells h.row.2 h.b2 (by decide)
  refine ⟨(((h.b2.set 0 u0).set 1 u1).set 2 u2).set 3 u3, ⟨h.row.1, ?_⟩, (((h.below.setCell (by simp) _).setCell (by simp) _).setCell (by simp) _).setCell (by simp) _⟩
  exact ownsRow_setCell_other (ownsRow_setCell_other (ownsRow_setCell_other (ownsRow_setCell_other h.row.2 n2 u0) n2 u1) n2 u2) n2 u3

set_option maxRecDepth 100000 in
set_option maxHeartbeats 4000000 in
theorem sorted_any {c r s : Int} {A : Option Addr} {n cap B : Nat} {ws : List Wt} {w : World} (hA : WAt w B A ws) (hn : n = ws.length) (hB : B ≤ w.heap.size) (hl : n ≤ 1099511627775) :
    Calls Try.prog 15 #[.agg #[.int .u64 c, .int .u64 r, .int .u64 s, .slice A n cap]] w fun e w' =>
      ∃ A' m' c', e = .returned (.agg #[.int .u64 c, .int .u64 r, .int .u64 s, .slice A' m' c']) ∧ WRow w' w.heap.size A' m' c' (sortW ws) ∧ Below w.heap.size w w' := by
  have HN := hid hn
  have HBX := hid hB
  have HL := hid (show ws.length ≤ 1099511627775 by omega)
  have s1 : (w.alloc (.cells #[.int .u64 c, .int .u64 r, .int .u64 s, .slice A n cap] 25)).heap.size = w.heap.size + 1 := by simp
  have n1 := Blk.new (w.alloc (.cells #[.int .u64 c, .int .u64 r, .int .u64 s, .slice A n cap] 25)) 25 #[.int .u64 0, .int .u64 0, .int .u64 0, .slice none 0 0]
  rw [s1] at n1
  have hb0 : Below w.heap.size w ((w.alloc (.cells #[.int .u64 c, .int .u64 r, .int .u64 s, .slice A n cap] 25)).alloc (.cells #[.int .u64 0, .int .u64 0, .int .u64 0, .slice none 0 0] 25)) := ((Below.refl _ _).alloc (Nat.le_refl _) _).alloc (by simp) _
  have HS0 := hid (show St3 w ((w.alloc (.cells #[.int .u64 c, .int .u64 r, .int .u64 s, .slice A n cap] 25)).alloc (.cells #[.int .u64 0, .int .u64 0, .int .u64 0, .slice none 0 0] 25)) c r s A n cap none 0 0 [] from
    ⟨(Blk.new w _ _).alloc _, n1, WRow.nil _ _, hb0⟩)
  have HSZ := hid (show ((w.alloc (.cells #[.int .u64 c, .int .u64 r, .int .u64 s, .slice A n cap] 25)).alloc (.cells #[.int .u64 0, .int .u64 0, .int .u64 0, .slice none 0 0] 25)).heap.size = w.heap.size + 2 by simp)
  have HA := hid (hA.below (hb0.mono hB))
  clear hA hn hB s1 n1 hb0 hl
  go_enter Try.func15, Try.ntmps15
  go_wp2_with fail
  generalize ((w.alloc (.cells #[.int .u64 c, .int .u64 r, .int .u64 s, .slice A n cap] 25)).alloc (.cells #[.int .u64 0, .int .u64 0, .int .u64 0, .slice none 0 0] 25)) = w2 at *
  go_fit (sclone_any HA.out HN.out (by rw [HSZ.out]; have := HBX.out; omega) (by rw [HN.out]; exact HL.out))
  rintro e w3 ⟨A3, m3, c3, rfl, hr3, hb3⟩
  have HR3 := hid hr3
  have HS3 := hid (HS0.out.to (hr3.le (by rw [HSZ.out]; omega)) hb3)
  have HB3 := hid hb3
  clear hr3 hb3
  obtain ⟨b0, b1, b2, b3, f0, f1, f2, f3⟩ := four HS3.out.b1
  go_wp2_with fail
  have hr4 : WRow (w3.setCell ⟨w.heap.size, 3, none⟩ (.slice A3 m3 c3)) (w.heap.size + 2) A3 m3 c3 ws := by
    have := HR3.out
    rw [HSZ.out] at this
    have ne := own_ne_cells this.2 HS3.out.b1 (by decide)
    exact ⟨this.1, ownsRow_setCell_other this.2 ne _⟩
  have hq1 := HS3.out.b1.set 3 (.slice A3 m3 c3)
  have hq2 := HS3.out.b2.far (p := ⟨w.heap.size, 3, none⟩) (by simp) (.slice A3 m3 c3)
  have hq3 : Below w.heap.size w (w3.setCell ⟨w.heap.size, 3, none⟩ (.slice A3 m3 c3)) := HS3.out.below.setCell (by simp) _
  generalize w3.setCell ⟨w.heap.size, 3, none⟩ (.slice A3 m3 c3) = w4 at *
  have hlt := Blk.lt hq2
  have HQ1 := hid hq1
  have HQ2 := hid hq2
  have HQ3 := hid hq3
  have HM := hid (show m3 ≤ 1099511627775 by rw [hr4.1]; exact HL.out)
  have HC := hid (sortRow_any hr4 (by omega) HM.out)
  clear hr4 hq1 hq2 hq3 b0 b1 b2 b3 f0 f1 f2 f3 HS3 HR3 HS0 HB3
  go_fit HC.out
  rintro e w5 ⟨rfl, hr5, hb5⟩
  have HS5 := hid (show St3 w w5 c r s A3 m3 c3 A3 m3 c3 (sortW ws) from ⟨HQ1.out.below hb5 (by omega), HQ2.out.below hb5 (by omega), hr5.le (by omega), HQ3.out.trans (hb5.mono (by omega))⟩)
  clear hr5 hb5 HC HQ1 HQ2 HQ3
  obtain ⟨b0, b1, b2, b3, f0, f1, f2, f3⟩ := four HS5.out.b1
  obtain ⟨x0, x1, x2, x3, g0, g1, g2, g3⟩ := four HS5.out.b2
  go_wp2_with fail
  obtain ⟨r0, r1, r2⟩ := HS5.out.res2 (.int .u64 c) (.int .u64 r) (.int .u64 s) (.slice A3 m3 c3)
  generalize ((((w5.setCell ⟨w.heap.size + 1, 0, none⟩ (.int .u64 c)).setCell ⟨w.heap.size + 1, 1, none⟩ (.int .u64 r)).setCell ⟨w.heap.size + 1, 2, none⟩ (.int .u64 s)).setCell ⟨w.heap.size + 1, 3, none⟩ (.slice A3 m3 c3)) = w9 at *
  clear x0 x1 x2 x3 g0 g1 g2 g3 b0 b1 b2 b3 f0 f1 f2 f3
  obtain ⟨x0, x1, x2, x3, _, _, _, _⟩ := four r0
  exact bodyPost_ret (v := .agg #[.int .u64 c, .int .u64 r, .int .u64 s, .slice A3 m3 c3]) (by simp [results, Try.results15, go_sem, x0, x1, x2, x3]) rfl ⟨A3, m3, c3, rfl, r1, r2⟩

end Go.Proofs.Ytcdjbacljnofiaa
