/-
  The document's cache: find, Same, without.
-/
import Derived.Test.YtdhjjjagjkencaaCaMem
import Derived.Deep.DeepFit
import Derived.BigQuiet
namespace Go.Proofs.Ytdhjjjagjkencaa
open Go Go.RowKit

/-- what find answers -/
def findI (k : Int) (l : List En) : Int := if posE k l < l.length then (posE k l : Int) else -1
set_option maxHeartbeats 4000000 in
set_option maxRecDepth 100000 in
theorem refFindE_any {k : Int} {A : Option Addr} {n c B : Nat} {l : List En} {w : World} (h : ES w B A n c l) :
    Calls Try.prog 20 #[.slice A n c, .int .i64 k] w fun e w' => e = .returned (.int .i64 (findI k l)) ∧ w' = w := by
  have HA := hid h
  have HLN := hid h.len
  have hmost := h.most
  obtain ⟨D, hD⟩ : ∃ D, D = findI k l := ⟨_, rfl⟩
  rw [← hD]
  have HD := hid hD
  clear h hD
  go_enter Try.func20, Try.ntmps20
  go_wp2_with fail
  go_loop [5] (fun i => ∃ j : Nat, j ≤ n ∧ i = .int .i64 (j : Int) ∧ j ≤ posE k l) (fun i => n - (intOf i).toNat)
  case atStart => exact ⟨0, Nat.zero_le _, rfl, Nat.zero_le _⟩
  case round =>
    obtain ⟨j, hj, rfl, hp⟩ := hrel
    have HP := hid hp
    clear hp
    by_cases hlt : j < n
    · obtain ⟨b, off, x, rfl, hb, hx, c0, c1, c2⟩ := HA.out.at_.get (i := j) (by rw [← HLN.out]; exact hlt)
      have HX := hid hx
      clear hx
      by_cases he : x.i = k
      · subst he
        obtain rfl : D = (j : Int) := by rw [HD.out, findI, posE_is HX.out rfl HP.out, if_pos (by rw [← HLN.out]; exact hlt)]
        go_wp2_with fail
        go_ret
        exact ⟨rfl, rfl⟩
      · have he' : (x.i == k) = false := by simpa using he
        go_wp2_with fail
        go_round
        case rel => exact ⟨j + 1, by omega, by go_num, posE_next HX.out he HP.out⟩
        case measure => simp [intOf]; omega
    · obtain rfl : D = -1 := by rw [HD.out, findI, if_neg (by rw [← HLN.out]; have := HP.out; omega)]
      go_wp2_with fail
      go_ret
      exact ⟨rfl, rfl⟩

theorem neq_en (x y : En) (W : World) : (binOp .neq 32 (.agg #[.int .i64 x.i, .string (bst x.b), .bool x.d]) (.agg #[.int .i64 y.i, .string (bst y.b), .bool y.d])).run Try.prog W = .ok (.bool (!decide (x = y))) W := by
  have e : decide (x = y) = (x.i == y.i && x.b == y.b && x.d == y.d) := by
    rw [Bool.eq_iff_iff]
    obtain ⟨k, v, d⟩ := x
    obtain ⟨k', v', d'⟩ := y
    simp [and_assoc]
  rw [e]
  have h1 := bst_toList x.b
  have h3 := bst_toList y.b
  cases e1 : x.i == y.i <;> cases e2 : x.b == y.b <;> cases e3 : x.d == y.d <;> go_simp

set_option maxHeartbeats 4000000 in
set_option maxRecDepth 100000 in
theorem refSameE_any {A A2 : Option Addr} {n c B n2 c2 B2 : Nat} {l l2 : List En} {w : World} (h : ES w B A n c l) (h2 : ES w B2 A2 n2 c2 l2) :
    Calls Try.prog 16 #[.slice A n c, .slice A2 n2 c2] w fun e w' => e = .returned (.bool (decide (l = l2))) ∧ Below w.heap.size w w' := by
  have HC := hid h
  have HC2 := hid h2
  have HLN := hid h.len
  have HLN2 := hid h2.len
  have hm1 := h.most
  have hm2 := h2.most
  obtain ⟨D, hD⟩ : ∃ D, D = decide (l = l2) := ⟨_, rfl⟩
  rw [← hD]
  by_cases g3 : n = n2
  case neg =>
    obtain rfl : D = false := by rw [hD, decide_eq_false]; exact fun e => g3 (by rw [h.len, h2.len, e])
    have g3' : ((n : Int) == (n2 : Int)) = false := by simpa using fun e => g3 (by omega)
    have g3'' : ((n : Int) != (n2 : Int)) = true := by simpa using fun e => g3 (by omega)
    clear hD h h2
    go_enter Try.func16, Try.ntmps16
    go_wp2_with fail
    go_ret
    exact ⟨rfl, Below.refl _ _⟩
  subst g3
  have HD := hid hD
  clear hD h h2
  go_enter Try.func16, Try.ntmps16
  go_wp2_with fail
  go_loopw [5] (fun i wr => ∃ k : Nat, k ≤ n ∧ i = .int .i64 (k : Int) ∧ Kept (l.take k = l2.take k) ∧ Kept (Below w.heap.size w wr)) (fun i _ => n - (intOf i).toNat)
  case atStart => exact ⟨0, Nat.zero_le _, rfl, hid rfl, hid (Below.refl _ _)⟩
  case round =>
    obtain ⟨k, hk, rfl, HE, HW⟩ := hrel
    by_cases hlt : k < n
    · obtain ⟨b, off, x, rfl, hb, hx, c0, c1, c2⟩ := (HC.out.step HW.out).at_.get (i := k) (by rw [← HLN.out]; exact hlt)
      obtain ⟨b', off', y, rfl, hb', hy, d0, d1, d2⟩ := (HC2.out.step HW.out).at_.get (i := k) (by rw [← HLN2.out]; exact hlt)
      have hnq := fun W => neq_en x y W
      have HXX := hid hx
      have HYY := hid hy
      clear hx hy hb hb'
      by_cases hxy : x = y
      · have HE2 := hid (show l.take (k + 1) = l2.take (k + 1) by
          have a1 := List.getElem?_eq_some_iff.1 HXX.out
          have a2 := List.getElem?_eq_some_iff.1 HYY.out
          rw [List.take_succ_eq_append_getElem a1.1, List.take_succ_eq_append_getElem a2.1, a1.2, a2.2, HE.out, hxy])
        rw [decide_eq_true hxy] at hnq
        clear hxy
        go_wp2_with fail
        go_quiet (fail)
        go_wp2_with fail
        go_roundw
        case rel => exact ⟨k + 1, by omega, by go_num, HE2, hid (below_drewN HW.out _)⟩
        case measure => simp [intOf]; omega
      · obtain rfl : D = false := by
          rw [HD.out]
          exact decide_eq_false (fun e => by
            have a := HXX.out
            rw [e, HYY.out] at a
            injection a with a
            exact hxy a.symm)
        rw [decide_eq_false hxy] at hnq
        clear hxy
        go_wp2_with fail
        go_quiet (fail)
        go_wp2_with fail
        go_ret
        exact ⟨rfl, below_drewN HW.out _⟩
    · obtain rfl : D = true := by
        rw [HD.out]
        have := HE.out
        rw [List.take_of_length_le (by rw [← HLN.out]; omega), List.take_of_length_le (by rw [← HLN2.out]; omega)] at this
        simpa using this
      go_wp2_with fail
      go_ret
      exact ⟨rfl, HW.out⟩

/-- the entries ahead of k, without j -/
def outT (j k : Nat) (l : List En) : List En := outE j (l.take k)
theorem outT_same {j : Nat} {l : List En} {x : En} (hx : l[j]? = some x) : outT j (j + 1) l = outT j j l := by
  unfold outT
  have hj := (List.getElem?_eq_some_iff.1 hx).1
  rw [outE_all (l := l.take j) (by rw [List.length_take]; omega)]
  unfold outE
  rw [List.take_take, Nat.min_eq_left (by omega), List.drop_of_length_le (by rw [List.length_take]; omega), List.append_nil]
theorem outT_next {j k : Nat} {l : List En} {x : En} (hx : l[k]? = some x) (hne : k ≠ j) : outT j (k + 1) l = outT j k l ++ [x] := by
  unfold outT
  obtain ⟨hk, e⟩ := List.getElem?_eq_some_iff.1 hx
  have hl : (l.take k).length = k := by rw [List.length_take]; omega
  rw [List.take_succ_eq_append_getElem hk, e]
  rcases Nat.lt_or_ge k j with h | h
  · rw [outE_all (by rw [List.length_append, hl, List.length_singleton]; omega), outE_all (by omega)]
  · unfold outE
    rw [List.take_append_of_le_length (by omega), List.drop_append_of_le_length (by omega), List.append_assoc]

theorem outT_len (j k : Nat) (l : List En) : (outT j k l).length ≤ k := by
  unfold outT
  exact Nat.le_trans (outE_le _ _) (by rw [List.length_take]; omega)
theorem outT_all {j n : Nat} {l : List En} (h : l.length ≤ n) : outT j n l = outE j l := by
  unfold outT
  rw [List.take_of_length_le h]
set_option maxHeartbeats 4000000 in
set_option maxRecDepth 100000 in
theorem refWithout_any {j : Int} {J : Nat} {A : Option Addr} {n c B : Nat} {l : List En} {w : World} (h : ES w B A n c l) (hJ : ∀ k : Nat, k < n → ((k : Int) = j ↔ k = J)) :
    Calls Try.prog 21 #[.slice A n c, .int .i64 j] w fun e w' => ∃ A' m' c', e = .returned (.slice A' m' c') ∧ GRow eEn 32 w' w.heap.size A' m' c' (outE J l) ∧ Below w.heap.size w w' := by
  have HA := hid h
  have HLN := hid h.len
  have HJ := hid hJ
  have hmost := h.most
  have HB0 := hid (show Below w.heap.size w (w.alloc (.cells #[] 32)) from (Below.refl _ _).alloc (Nat.le_refl _) _)
  have HR0 := hid (GRow.empty (E := eEn) (e := 32) w rfl (Nat.le_refl _))
  clear h hJ
  go_enter Try.func21, Try.ntmps21
  go_wp2_with fail
  go_loopw [5, 6] (fun s i wr => ∃ (k m c2 : Nat) (A2 : Option Addr), s = .slice A2 m c2 ∧ i = .int .i64 (k : Int) ∧ k ≤ n ∧ Kept (GRow eEn 32 wr w.heap.size A2 m c2 (outT J k l)) ∧ Kept (Below w.heap.size w wr)) (fun _ i _ => n - (intOf i).toNat)
  case atStart => exact ⟨0, 0, 0, _, rfl, rfl, Nat.zero_le _, by simpa [outT, outE] using HR0, HB0⟩
  case round =>
    obtain ⟨k, m, c2, A2, rfl, rfl, hk, HR, HB⟩ := hrel
    clear HB0 HR0
    by_cases hlt : k < n
    · obtain ⟨b, off, x, rfl, hb, hx, c0, c1, e2⟩ := (HA.out.below HB.out HA.out.low).at_.get (i := k) (by rw [← HLN.out]; exact hlt)
      have HX := hid hx
      clear hx
      by_cases he : k = J
      · have hkj := (HJ.out k hlt).2 he
        have HR2 := hid (show GRow eEn 32 wr w.heap.size A2 m c2 (outT J (k + 1) l) by have := HR.out; rw [he] at this ⊢; rw [outT_same (by rw [← he]; exact HX.out)]; exact this)
        have hq : ((k : Int) != j) = false := by simpa using hkj
        clear hkj he
        go_wp2_with fail
        go_roundw
        case rel => exact ⟨k + 1, m, c2, A2, rfl, by go_num, by omega, HR2, HB⟩
        case measure => simp [intOf]; omega
      · have hkj : ¬ (k : Int) = j := fun e => he ((HJ.out k hlt).1 e)
        have hq : ((k : Int) != j) = true := by simpa using hkj
        have HLA := hid (show (outT J k l).length + ([x] : List En).length ≤ 1099511627776 by have := outT_len J k l; rw [List.length_singleton]; omega)
        have HNX := hid (outT_next HX.out he)
        clear he hkj
        go_wp2_with (at_builtin; go_must (refine wpList_append_g _ rfl _ _ eEn gi_en (by decide) rfl w.heap.size rfl (HR.out.alloc _) rfl rfl (GAt.one _ x 32 rfl) HLA.out (HB.out.alloc HB.out.size _).size ?_); intro A6 m6 c6 w6 hr6 hc6 hb6 hg6)
        have HR6 := hid (show GRow eEn 32 w6 w.heap.size A6 m6 c6 (outT J (k + 1) l) by rw [HNX.out]; exact hr6)
        have HB6 := hid ((HB.out.alloc HB.out.size (.cells #[.int .i64 x.i, .string (bst x.b), .bool x.d] 32)).trans hb6)
        clear hr6 hb6 hg6 HLA
        go_roundw
        case rel => exact ⟨k + 1, m6, c6, A6, rfl, by go_num, by omega, HR6, HB6⟩
        case measure => simp [intOf]; omega
    · have HR9 := hid (show GRow eEn 32 wr w.heap.size A2 m c2 (outE J l) by rw [← outT_all (j := J) (n := k) (l := l) (by rw [← HLN.out]; omega)]; exact HR.out)
      go_wp2_with fail
      go_ret
      exact ⟨_, _, _, rfl, HR9.out, HB.out⟩

end Go.Proofs.Ytdhjjjagjkencaa
