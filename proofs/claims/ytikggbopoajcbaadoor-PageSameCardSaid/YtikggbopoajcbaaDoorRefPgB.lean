/-
  The document's Rises, Same.
-/
import Derived.Test.YtikggbopoajcbaaDoorPgMem
import Derived.BigQuiet
import Derived.Deep.QuietTactic
namespace Go.Proofs.YtikggbopoajcbaaDoor
open Go Go.RowKit

set_option maxHeartbeats 4000000 in
set_option maxRecDepth 100000 in
theorem refRises_any {leaf : Bool} {next : Int} {A : Option Addr} {n c B : Nat} {l : List Cl} {w : World} (h : CS w B A n c l) :
    Calls Tryd.prog 21 #[pageV leaf next A n c] w fun e w' => e = .returned (.bool (risesC l)) ∧ Below w.heap.size w w' := by
  have hb1 : Below w.heap.size w (w.alloc (.cells #[.bool leaf, .int .i64 next, .slice A n c] 24)) := (Below.refl _ _).alloc (Nat.le_refl _) _
  have HB := hid hb1
  have HX := hid (Blk.new w 24 #[.bool leaf, .int .i64 next, .slice A n c])
  have HC := hid (h.step hb1)
  have HML := hid h.most
  have HLN := hid h.len
  obtain ⟨D, hD⟩ : ∃ D, D = risesC l := ⟨_, rfl⟩
  rw [← hD]
  have HD := hid hD
  clear h hD hb1
  unfold pageV
  go_enter Tryd.func21, Tryd.ntmps21
  go_wp2_with fail
  generalize w.alloc (.cells #[.bool leaf, .int .i64 next, .slice A n c] 24) = w1 at *
  obtain ⟨g, hg⟩ : ∃ g, w.heap.size = g := ⟨_, rfl⟩
  rw [hg] at HX ⊢
  clear hg
  go_loopw [3] (fun i wr => ∃ k : Nat, 1 ≤ k ∧ (k ≤ n ∨ k = 1) ∧ i = .int .i64 (k : Int) ∧ Kept (D = risesO (prevC l k) (l.drop k)) ∧ Kept (Below w1.heap.size w1 wr)) (fun i _ => n - (intOf i).toNat)
  case atStart => exact ⟨1, Nat.le_refl _, .inr rfl, rfl, hid (by
    rw [HD.out]
    rcases l with _ | ⟨x, r⟩
    · rfl
    · simp [risesC, risesO, riseO, prevC]), hid (Below.refl _ _)⟩
  case round =>
    obtain ⟨k, hk1, hk, rfl, HE, HW⟩ := hrel
    have HXW := hid (HX.out.below HW.out HX.out.lt)
    have x2 := HXW.out.cell 2
    have hnm := HML.out
    by_cases hlt : k < n
    · obtain ⟨b, off, x, rfl, hb, hx, c0, c1⟩ := (HC.out.step HW.out).at_.get (i := k) (by rw [← HLN.out]; exact hlt)
      obtain ⟨b', off', y, he, _, hy, d0, d1⟩ := (HC.out.step HW.out).at_.get (i := k - 1) (by rw [← HLN.out]; omega)
      injection he with he
      injection he with e1 e2 _
      subst e1 e2
      have hpk : prevC l k = some y.k := by
        have := prevC_succ hy
        rwa [show k - 1 + 1 = k by omega] at this
      have HE2 := hid (show D = (Op.bytesLess y.k x.k && risesO (some x.k) (l.drop (k + 1))) by rw [HE.out, hpk, risesO_drop hx]; rfl)
      have HPS := hid (prevC_succ hx)
      have t1 := bst_toList x.k
      have t2 := bst_toList y.k
      have hidx : (k : Int) - 1 = ((k - 1 : Nat) : Int) := by omega
      obtain ⟨XB, hX⟩ : ∃ K, K = bst x.k := ⟨_, rfl⟩
      obtain ⟨YB, hY⟩ : ∃ K, K = bst y.k := ⟨_, rfl⟩
      rw [← hX] at c0 t1
      rw [← hY] at d0 t2
      clear hX hY hx hy hpk hb c1 d1
      cases hr : Op.bytesLess y.k x.k with
      | false =>
        obtain rfl : D = false := by rw [HE2.out, hr]; rfl
        go_wp2_with fail
        go_quiet (fail)
        go_wp2_with fail
        go_ret
        exact ⟨rfl, below_drewN (below_step HB.out HW.out) _⟩
      | true =>
        have HE3 := hid (show D = risesO (some x.k) (l.drop (k + 1)) by rw [HE2.out, hr]; rfl)
        go_wp2_with fail
        go_quiet (fail)
        go_wp2_with fail
        go_roundw
        case rel => exact ⟨k + 1, by omega, .inl (by omega), by go_num, hid (by rw [HE3.out, HPS.out]), hid (below_drewN HW.out _)⟩
        case measure => simp [intOf]; omega
    · obtain rfl : D = true := by rw [HE.out, List.drop_eq_nil_of_le (by rw [← HLN.out]; omega)]; cases prevC l k <;> rfl
      go_wp2_with fail
      go_ret
      exact ⟨rfl, below_step HB.out HW.out⟩

def sameP (a : Bool) (i : Int) (l : List Cl) (b : Bool) (j : Int) (m : List Cl) : Bool := decide (a = b ∧ i = j ∧ l = m)
theorem neq_cl (x y : Cl) (W : World) : (binOp .neq 44 (.agg #[.string (bst x.k), .string (bst x.v)]) (.agg #[.string (bst y.k), .string (bst y.v)])).run Tryd.prog W = .ok (.bool (!decide (x = y))) W := by
  have e : decide (x = y) = (x.k == y.k && x.v == y.v) := by
    rw [Bool.eq_iff_iff]
    obtain ⟨k, v⟩ := x
    obtain ⟨k', v'⟩ := y
    simp
  rw [e]
  have h1 := bst_toList x.k
  have h2 := bst_toList x.v
  have h3 := bst_toList y.k
  have h4 := bst_toList y.v
  cases e1 : x.k == y.k <;> cases e2 : x.v == y.v <;> go_simp

set_option maxHeartbeats 4000000 in
set_option maxRecDepth 100000 in
theorem refSame_any {leaf leaf2 : Bool} {next next2 : Int} {A A2 : Option Addr} {n c B n2 c2 B2 : Nat} {l l2 : List Cl} {w : World} (h : CS w B A n c l) (h2 : CS w B2 A2 n2 c2 l2) :
    Calls Tryd.prog 20 #[pageV leaf next A n c, pageV leaf2 next2 A2 n2 c2] w fun e w' => e = .returned (.bool (sameP leaf next l leaf2 next2 l2)) ∧ Below w.heap.size w w' := by
  have hb1 : Below w.heap.size w (w.alloc (.cells #[.bool leaf, .int .i64 next, .slice A n c] 24)) := (Below.refl _ _).alloc (Nat.le_refl _) _
  have hb2 := hb1.alloc hb1.size (.cells #[.bool leaf2, .int .i64 next2, .slice A2 n2 c2] 24)
  have HB := hid hb2
  have HX := hid ((Blk.new w 24 #[.bool leaf, .int .i64 next, .slice A n c]).alloc (.cells #[.bool leaf2, .int .i64 next2, .slice A2 n2 c2] 24))
  have HY := hid (Blk.new (w.alloc (.cells #[.bool leaf, .int .i64 next, .slice A n c] 24)) 24 #[.bool leaf2, .int .i64 next2, .slice A2 n2 c2])
  have HC := hid (h.step hb2)
  have HC2 := hid (h2.step hb2)
  have HML := hid h.most
  have HML2 := hid h2.most
  have HLN := hid h.len
  have HLN2 := hid h2.len
  have hm1 := h.most
  have hm2 := h2.most
  obtain ⟨D, hD⟩ : ∃ D, D = sameP leaf next l leaf2 next2 l2 := ⟨_, rfl⟩
  rw [← hD]
  unfold sameP at hD
  unfold pageV
  by_cases g1 : leaf = leaf2
  case neg =>
    obtain rfl : D = false := by rw [hD, decide_eq_false]; exact fun e => g1 e.1
    have g1' : (leaf == leaf2) = false := by simpa using g1
    have g1'' : (leaf != leaf2) = true := by simpa using g1
    clear hD h h2 hb1 hb2
    go_enter Tryd.func20, Tryd.ntmps20
    go_wp2_with fail
    go_ret
    exact ⟨rfl, HB.out⟩
  subst g1
  have g1' : (leaf == leaf) = true := by simp
  have g1'' : (leaf != leaf) = false := by simp
  by_cases g2 : next = next2
  case neg =>
    obtain rfl : D = false := by rw [hD, decide_eq_false]; exact fun e => g2 e.2.1
    have g2' : (next == next2) = false := by simpa using g2
    have g2'' : (next != next2) = true := by simpa using g2
    clear hD h h2 hb1 hb2
    go_enter Tryd.func20, Tryd.ntmps20
    go_wp2_with fail
    go_ret
    exact ⟨rfl, HB.out⟩
  subst g2
  by_cases g3 : n = n2
  case neg =>
    obtain rfl : D = false := by rw [hD, decide_eq_false]; exact fun e => g3 (by rw [h.len, h2.len, e.2.2])
    have g3' : ((n : Int) == (n2 : Int)) = false := by simpa using fun e => g3 (by omega)
    have g3'' : ((n : Int) != (n2 : Int)) = true := by simpa using fun e => g3 (by omega)
    clear hD h h2 hb1 hb2
    go_enter Tryd.func20, Tryd.ntmps20
    go_wp2_with fail
    go_ret
    exact ⟨rfl, HB.out⟩
  subst g3
  have HD := hid (show D = decide (l = l2) by rw [hD]; simp)
  clear hD h h2 hb1 hb2
  go_enter Tryd.func20, Tryd.ntmps20
  go_wp2_with fail
  generalize (w.alloc (.cells #[.bool leaf, .int .i64 next, .slice A n c] 24)).alloc (.cells #[.bool leaf, .int .i64 next, .slice A2 n c2] 24) = w1 at *
  obtain ⟨g, hg⟩ : ∃ g, w.heap.size = g := ⟨_, rfl⟩
  obtain ⟨g', hg'⟩ : ∃ g', (w.alloc (.cells #[.bool leaf, .int .i64 next, .slice A n c] 24)).heap.size = g' := ⟨_, rfl⟩
  rw [hg'] at HY
  have hgg : w.heap.size + 1 = g' := by rw [← hg']; simp
  simp only [hgg]
  rw [hg] at HX ⊢
  clear hg hg' hgg
  go_loopw [5] (fun i wr => ∃ k : Nat, k ≤ n ∧ i = .int .i64 (k : Int) ∧ Kept (l.take k = l2.take k) ∧ Kept (Below w1.heap.size w1 wr)) (fun i _ => n - (intOf i).toNat)
  case atStart => exact ⟨0, Nat.zero_le _, rfl, hid rfl, hid (Below.refl _ _)⟩
  case round =>
    obtain ⟨k, hk, rfl, HE, HW⟩ := hrel
    have HXW := hid (HX.out.below HW.out HX.out.lt)
    have HYW := hid (HY.out.below HW.out HY.out.lt)
    have x2 := HXW.out.cell 2
    have y2 := HYW.out.cell 2
    by_cases hlt : k < n
    · obtain ⟨b, off, x, rfl, hb, hx, c0, c1⟩ := (HC.out.step HW.out).at_.get (i := k) (by rw [← HLN.out]; exact hlt)
      obtain ⟨b', off', y, rfl, hb', hy, d0, d1⟩ := (HC2.out.step HW.out).at_.get (i := k) (by rw [← HLN2.out]; exact hlt)
      have hnq := fun W => neq_cl x y W
      have HXX := hid hx
      have HYY := hid hy
      clear hx hy hb hb'
      by_cases hxy : x = y
      · have HE2 := hid (show l.take (k + 1) = l2.take (k + 1) by
          have a1 := List.getElem?_eq_some_iff.1 HXX.out
          have a2 := List.getElem?_eq_some_iff.1 HYY.out
          rw [List.take_succ_eq_append_getElem a1.1, List.take_succ_eq_append_getElem a2.1, a1.2, a2.2, HE.out, hxy])
        rw [decide_eq_true hxy] at hnq
        clear hxy
        go_wp2_with fail
        go_quiet (fail)
        go_wp2_with fail
        go_roundw
        case rel => exact ⟨k + 1, by omega, by go_num, HE2, hid (below_drewN HW.out _)⟩
        case measure => simp [intOf]; omega
      · obtain rfl : D = false := by
          rw [HD.out]
          exact decide_eq_false (fun e => by
            have a := HXX.out
            rw [e, HYY.out] at a
            injection a with a
            exact hxy a.symm)
        rw [decide_eq_false hxy] at hnq
        clear hxy
        go_wp2_with fail
        go_quiet (fail)
        go_wp2_with fail
        go_ret
        exact ⟨rfl, below_drewN (below_step HB.out HW.out) _⟩
    · obtain rfl : D = true := by
        rw [HD.out]
        have e := HE.out
        rw [List.take_of_length_le (by rw [← HLN.out]; omega), List.take_of_length_le (by rw [← HLN2.out]; omega)] at e
        exact decide_eq_true e
      go_wp2_with fail
      go_ret
      exact ⟨rfl, below_step HB.out HW.out⟩

end Go.Proofs.YtikggbopoajcbaaDoor
