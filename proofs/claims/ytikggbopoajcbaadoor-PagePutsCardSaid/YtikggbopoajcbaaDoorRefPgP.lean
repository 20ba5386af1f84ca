/-
  The document's Put.
-/
import Derived.Test.YtikggbopoajcbaaDoorPgPut
import Derived.Deep.CutRange
namespace Go.Proofs.YtikggbopoajcbaaDoor
open Go Go.RowKit

/-- what holds while a Put runs, behind its variables -/
structure PutS (w0 w : World) (b0 g : Nat) (leaf : Bool) (next : Int) (A : Option Addr) (n c : Nat) (x : Cl) (A' : Option Addr) (m' c' : Nat) (acc : List Cl) : Prop where
  vars : PutW w g leaf next A n c x
  row : GRow eCl 44 w b0 A' m' c' acc
  below : Below b0 w0 w
  lo : g + 1 + 1 < b0
  b0s : b0 = w0.heap.size
section
variable {w0 w w' : World} {b0 g : Nat} {leaf : Bool} {next : Int} {A : Option Addr} {n c : Nat} {x : Cl} {A' A2 : Option Addr} {m' c' m2 c2 : Nat} {acc acc2 : List Cl}
theorem PutS.sz (h : PutS w0 w b0 g leaf next A n c x A' m' c' acc) : b0 ≤ w.heap.size := by rw [h.b0s]; exact h.below.size
theorem PutS.szA (h : PutS w0 w b0 g leaf next A n c x A' m' c' acc) (o : Obj) : b0 ≤ (w.alloc o).heap.size := Nat.le_trans h.sz (by simp)
theorem PutS.drew (h : PutS w0 w b0 g leaf next A n c x A' m' c' acc) {k : Nat} (e : w.drewN k = w') : PutS w0 w' b0 g leaf next A n c x A' m' c' acc := by
  subst e
  exact ⟨h.vars.step (below_drewN (Below.refl _ _) _), h.row.below (below_drewN (Below.refl _ _) _), below_drewN h.below _, h.lo, h.b0s⟩
theorem PutS.app (h : PutS w0 w b0 g leaf next A n c x A' m' c' acc) {o : Obj} (hr : GRow eCl 44 w' b0 A2 m2 c2 acc2) (hb : Below b0 (w.alloc o) w') : PutS w0 w' b0 g leaf next A n c x A2 m2 c2 acc2 := by
  have hb1 := ((Below.refl b0 w).alloc h.sz o).trans hb
  have hl := h.lo
  exact ⟨⟨h.vars.page.below hb1 (by omega), h.vars.cell.below hb1 (by omega), h.vars.res.below hb1 hl⟩, hr, h.below.trans hb1, hl, h.b0s⟩
end

set_option maxHeartbeats 4000000 in
set_option maxRecDepth 100000 in
theorem refPut_any {leaf : Bool} {next : Int} {A : Option Addr} {n c B : Nat} {l : List Cl} {x : Cl} {w : World} (h : CS w B A n c l) (hn : n ≤ 1000000) (hm : Ris l) :
    Calls Tryd.prog 25 #[pageV leaf next A n c, x.val] w fun e w' => ∃ A' m' c', e = .returned (pageV leaf next A' m' c') ∧ CS w' w'.heap.size A' m' c' (putC x l) ∧ Below w.heap.size w w' := by
  have hb1 := ((Below.refl w.heap.size w).alloc (Nat.le_refl _) (.cells #[.bool leaf, .int .i64 next, .slice A n c] 24))
  have hb2 := hb1.alloc hb1.size (.cells #[.string (bst x.k), .string (bst x.v)] 44)
  have hb3 := hb2.alloc hb2.size (.cells #[.bool false, .int .i64 0, .slice none 0 0] 24)
  have HB := hid hb3
  have HP := hid (putW_new w leaf next A n c x)
  have HC := hid (h.step hb3)
  have HML := hid hn
  have HLN := hid h.len
  have HLW := hid h.low
  have hsz : (((w.alloc (.cells #[.bool leaf, .int .i64 next, .slice A n c] 24)).alloc (.cells #[.string (bst x.k), .string (bst x.v)] 44)).alloc (.cells #[.bool false, .int .i64 0, .slice none 0 0] 24)).heap.size = w.heap.size + 1 + 1 + 1 := by simp
  have HPC := hid (putG_is x l hm)
  have HPL := hid (putC_len x l)
  clear hb1 hb2 hb3 h hm
  unfold pageV
  unfold Cl.val
  go_enter Tryd.func25, Tryd.ntmps25
  go_upto_region 1 with fail
  generalize ((w.alloc (.cells #[.bool leaf, .int .i64 next, .slice A n c] 24)).alloc (.cells #[.string (bst x.k), .string (bst x.v)] 44)).alloc (.cells #[.bool false, .int .i64 0, .slice none 0 0] 24) = w1 at *
  obtain ⟨g, hg⟩ : ∃ g, w.heap.size = g := ⟨_, rfl⟩
  rw [hg] at HP hsz ⊢
  have HGE := hid hg
  clear hg
  obtain ⟨b0, hb0⟩ : ∃ b0, b0 = w1.heap.size := ⟨_, rfl⟩
  have HBB := hid (show B ≤ b0 by have := HLW.out; have := HGE.out; omega)
  have HS0 := hid (show PutS w1 (w1.alloc (.cells #[] 44)) b0 g leaf next A n c x (some ⟨w1.heap.size, 0, none⟩) 0 0 [] from ⟨HP.out.step ((Below.refl _ _).alloc (Nat.le_refl _) _), GRow.empty w1 rfl (by omega), (Below.refl _ _).alloc (by omega) _, by omega, hb0⟩)
  clear hb0 hsz HP
  go_wp2_with fail
  generalize w1.alloc (.cells #[] 44) = w2 at *
  go_loopw [5, 6, 7] (fun v d i wr => ∃ (k : Nat) (A' : Option Addr) (m' c' : Nat) (acc : List Cl) (D : Bool), k ≤ n ∧ v = .slice A' m' c' ∧ d = .bool D ∧ i = .int .i64 (k : Int) ∧ Kept (PutS w1 wr b0 g leaf next A n c x A' m' c' acc) ∧ Kept (putG x false l = acc ++ putG x D (l.drop k))) (fun _ _ i _ => n - (intOf i).toNat)
  case atStart => exact ⟨0, _, 0, 0, [], false, Nat.zero_le _, rfl, rfl, rfl, HS0, hid (by simp)⟩
  case round =>
    obtain ⟨k, A4, m4, c4, acc, D, hk, rfl, rfl, rfl, HS, HG⟩ := hrel
    clear HS0
    have b2 := HS.out.vars.page.cell 2
    have hnm := HML.out
    by_cases hlt : k < n
    · obtain ⟨b, off, y, rfl, hb, hy, d0, d1⟩ := ((HC.out.below HS.out.below HBB.out)).at_.get (i := k) (by rw [← HLN.out]; exact hlt)
      have HY := hid hy
      have HAL := hid (show acc.length ≤ 1000001 by
        have h1 := congrArg List.length HG.out
        rw [HPC.out, List.length_append] at h1
        have := HPL.out
        have := HLN.out
        omega)
      have t1 := bst_toList y.k
      have t2 := bst_toList x.k
      have q0 := HS.out.vars.cell.cell 0
      have q1 := HS.out.vars.cell.cell 1
      clear hy hb
      by_cases heq : y.k = x.k
      · have HEQ := hid heq
        have he1 : (y.k == x.k) = true := by simp [heq]
        have he2 : (y.k != x.k) = false := by simp [heq]
        clear heq
        cases D with
        | true =>
          go_wp2_with fail
          go_quiet (fail)
          generalize hw5 : World.drewN wr _ = w5
          have HS5 := hid (HS.out.drew hw5)
          clear hw5
          clear HS
          clear b2 q0 q1 d0 d1

          have b2 := HS5.out.vars.page.cell 2
          have q0 := HS5.out.vars.cell.cell 0
          have q1 := HS5.out.vars.cell.cell 1
          have d0 := ((HC.out.below HS5.out.below HBB.out).at_.at HY.out).1
          have d1 := ((HC.out.below HS5.out.below HBB.out).at_.at HY.out).2
          go_wp2_with fail
          go_quiet (fail)
          generalize hw7 : World.drewN w5 _ = w7
          have HS7 := hid (HS5.out.drew hw7)
          clear HS5 hw7
          clear b2 q0 q1 d0 d1

          have b2 := HS7.out.vars.page.cell 2
          have q0 := HS7.out.vars.cell.cell 0
          have q1 := HS7.out.vars.cell.cell 1
          have d0 := ((HC.out.below HS7.out.below HBB.out).at_.at HY.out).1
          have d1 := ((HC.out.below HS7.out.below HBB.out).at_.at HY.out).2
          go_wp2_with fail
          go_roundw
          case rel => exact ⟨k + 1, _, _, _, _, true, by omega, rfl, rfl, by go_num, HS7, hid (by rw [HG.out, putG_drop HY.out]; simp [HEQ.out])⟩
          case measure => simp [intOf]; omega
        | false =>
          have HLT := hid (show ltk x.k y = false by unfold ltk; rw [HEQ.out]; exact pgless_self _)
          have hlt2 : Op.bytesLess y.k x.k = false := HLT.out
          go_wp2_with fail
          go_quiet (fail)
          generalize hw5 : World.drewN wr _ = w5
          have HS5 := hid (HS.out.drew hw5)
          clear hw5
          clear HS
          clear b2 q0 q1 d0 d1

          have b2 := HS5.out.vars.page.cell 2
          have q0 := HS5.out.vars.cell.cell 0
          have q1 := HS5.out.vars.cell.cell 1
          have d0 := ((HC.out.below HS5.out.below HBB.out).at_.at HY.out).1
          have d1 := ((HC.out.below HS5.out.below HBB.out).at_.at HY.out).2

          have HL6 := hid (show (acc).length + ([x] : List Cl).length ≤ 1099511627776 by have := HAL.out; simp only [List.length_singleton]; omega)

          go_wp2_with (at_builtin; go_must (refine wpList_append_g _ rfl _ _ eCl gi_cell (by decide) rfl b0 rfl (HS5.out.row.alloc _) rfl rfl (GAt.one _ x 44 (E := eCl) rfl) HL6.out (HS5.out.szA _) ?_))
          intro A6 m6 c6 w6 hr6 _ hb6 _
          have HS6 := hid (HS5.out.app hr6 hb6)
          clear hr6 hb6
          clear b2 q0 q1 d0 d1

          have b2 := HS6.out.vars.page.cell 2
          have q0 := HS6.out.vars.cell.cell 0
          have q1 := HS6.out.vars.cell.cell 1
          have d0 := ((HC.out.below HS6.out.below HBB.out).at_.at HY.out).1
          have d1 := ((HC.out.below HS6.out.below HBB.out).at_.at HY.out).2
          go_wp2_with fail
          go_quiet (fail)
          generalize hw7 : World.drewN w6 _ = w7
          have HS7 := hid (HS6.out.drew hw7)
          clear HS6 hw7
          clear b2 q0 q1 d0 d1

          have b2 := HS7.out.vars.page.cell 2
          have q0 := HS7.out.vars.cell.cell 0
          have q1 := HS7.out.vars.cell.cell 1
          have d0 := ((HC.out.below HS7.out.below HBB.out).at_.at HY.out).1
          have d1 := ((HC.out.below HS7.out.below HBB.out).at_.at HY.out).2
          go_wp2_with fail
          go_roundw
          case rel => exact ⟨k + 1, _, _, _, _, true, by omega, rfl, rfl, by go_num, HS7, hid (by rw [HG.out, putG_drop HY.out]; simp [HLT.out, HEQ.out])⟩
          case measure => simp [intOf]; omega
      · have HEQ := hid heq
        have he1 : (y.k == x.k) = false := by simpa using heq
        have he2 : (y.k != x.k) = true := by simpa using heq
        clear heq
        cases D with
        | true =>
          go_wp2_with fail
          go_quiet (fail)
          generalize hw5 : World.drewN wr _ = w5
          have HS5 := hid (HS.out.drew hw5)
          clear hw5
          clear HS
          clear b2 q0 q1 d0 d1

          have b2 := HS5.out.vars.page.cell 2
          have q0 := HS5.out.vars.cell.cell 0
          have q1 := HS5.out.vars.cell.cell 1
          have d0 := ((HC.out.below HS5.out.below HBB.out).at_.at HY.out).1
          have d1 := ((HC.out.below HS5.out.below HBB.out).at_.at HY.out).2
          go_wp2_with fail
          go_quiet (fail)
          generalize hw7 : World.drewN w5 _ = w7
          have HS7 := hid (HS5.out.drew hw7)
          clear HS5 hw7
          clear b2 q0 q1 d0 d1

          have b2 := HS7.out.vars.page.cell 2
          have q0 := HS7.out.vars.cell.cell 0
          have q1 := HS7.out.vars.cell.cell 1
          have d0 := ((HC.out.below HS7.out.below HBB.out).at_.at HY.out).1
          have d1 := ((HC.out.below HS7.out.below HBB.out).at_.at HY.out).2

          have HL8 := hid (show (acc).length + ([y] : List Cl).length ≤ 1099511627776 by have := HAL.out; simp only [List.length_singleton]; omega)

          go_wp2_with (at_builtin; go_must (refine wpList_append_g _ rfl _ _ eCl gi_cell (by decide) rfl b0 rfl (HS7.out.row.alloc _) rfl rfl (GAt.one _ y 44 (E := eCl) rfl) HL8.out (HS7.out.szA _) ?_))
          intro A8 m8 c8 w8 hr8 _ hb8 _
          have HS8 := hid (HS7.out.app hr8 hb8)
          clear hr8 hb8
          clear b2 q0 q1 d0 d1
          go_wp2_with fail
          go_roundw
          case rel => exact ⟨k + 1, _, _, _, _, true, by omega, rfl, rfl, by go_num, HS8, hid (by rw [HG.out, putG_drop HY.out]; simp [HEQ.out])⟩
          case measure => simp [intOf]; omega
        | false =>
          cases hlt2 : Op.bytesLess y.k x.k with
          | true =>
            have HLT := hid (show ltk x.k y = true from hlt2)
            go_wp2_with fail
            go_quiet (fail)
            generalize hw5 : World.drewN wr _ = w5
            have HS5 := hid (HS.out.drew hw5)
            clear hw5
            clear HS
            clear b2 q0 q1 d0 d1

            have b2 := HS5.out.vars.page.cell 2
            have q0 := HS5.out.vars.cell.cell 0
            have q1 := HS5.out.vars.cell.cell 1
            have d0 := ((HC.out.below HS5.out.below HBB.out).at_.at HY.out).1
            have d1 := ((HC.out.below HS5.out.below HBB.out).at_.at HY.out).2
            go_wp2_with fail
            go_quiet (fail)
            generalize hw7 : World.drewN w5 _ = w7
            have HS7 := hid (HS5.out.drew hw7)
            clear HS5 hw7
            clear b2 q0 q1 d0 d1

            have b2 := HS7.out.vars.page.cell 2
            have q0 := HS7.out.vars.cell.cell 0
            have q1 := HS7.out.vars.cell.cell 1
            have d0 := ((HC.out.below HS7.out.below HBB.out).at_.at HY.out).1
            have d1 := ((HC.out.below HS7.out.below HBB.out).at_.at HY.out).2

            have HL8 := hid (show (acc).length + ([y] : List Cl).length ≤ 1099511627776 by have := HAL.out; simp only [List.length_singleton]; omega)

            go_wp2_with (at_builtin; go_must (refine wpList_append_g _ rfl _ _ eCl gi_cell (by decide) rfl b0 rfl (HS7.out.row.alloc _) rfl rfl (GAt.one _ y 44 (E := eCl) rfl) HL8.out (HS7.out.szA _) ?_))
            intro A8 m8 c8 w8 hr8 _ hb8 _
            have HS8 := hid (HS7.out.app hr8 hb8)
            clear hr8 hb8
            clear b2 q0 q1 d0 d1
            go_wp2_with fail
            go_roundw
            case rel => exact ⟨k + 1, _, _, _, _, false, by omega, rfl, rfl, by go_num, HS8, hid (by rw [HG.out, putG_drop HY.out]; simp [HLT.out, HEQ.out])⟩
            case measure => simp [intOf]; omega
          | false =>
            have HLT := hid (show ltk x.k y = false from hlt2)
            go_wp2_with fail
            go_quiet (fail)
            generalize hw5 : World.drewN wr _ = w5
            have HS5 := hid (HS.out.drew hw5)
            clear hw5
            clear HS
            clear b2 q0 q1 d0 d1

            have b2 := HS5.out.vars.page.cell 2
            have q0 := HS5.out.vars.cell.cell 0
            have q1 := HS5.out.vars.cell.cell 1
            have d0 := ((HC.out.below HS5.out.below HBB.out).at_.at HY.out).1
            have d1 := ((HC.out.below HS5.out.below HBB.out).at_.at HY.out).2

            have HL6 := hid (show (acc).length + ([x] : List Cl).length ≤ 1099511627776 by have := HAL.out; simp only [List.length_singleton]; omega)

            go_wp2_with (at_builtin; go_must (refine wpList_append_g _ rfl _ _ eCl gi_cell (by decide) rfl b0 rfl (HS5.out.row.alloc _) rfl rfl (GAt.one _ x 44 (E := eCl) rfl) HL6.out (HS5.out.szA _) ?_))
            intro A6 m6 c6 w6 hr6 _ hb6 _
            have HS6 := hid (HS5.out.app hr6 hb6)
            clear hr6 hb6
            clear b2 q0 q1 d0 d1

            have b2 := HS6.out.vars.page.cell 2
            have q0 := HS6.out.vars.cell.cell 0
            have q1 := HS6.out.vars.cell.cell 1
            have d0 := ((HC.out.below HS6.out.below HBB.out).at_.at HY.out).1
            have d1 := ((HC.out.below HS6.out.below HBB.out).at_.at HY.out).2
            go_wp2_with fail
            go_quiet (fail)
            generalize hw7 : World.drewN w6 _ = w7
            have HS7 := hid (HS6.out.drew hw7)
            clear HS6 hw7
            clear b2 q0 q1 d0 d1

            have b2 := HS7.out.vars.page.cell 2
            have q0 := HS7.out.vars.cell.cell 0
            have q1 := HS7.out.vars.cell.cell 1
            have d0 := ((HC.out.below HS7.out.below HBB.out).at_.at HY.out).1
            have d1 := ((HC.out.below HS7.out.below HBB.out).at_.at HY.out).2

            have HL8 := hid (show ((acc ++ [x])).length + ([y] : List Cl).length ≤ 1099511627776 by have := HAL.out; simp only [List.length_append, List.length_singleton]; omega)

            go_wp2_with (at_builtin; go_must (refine wpList_append_g _ rfl _ _ eCl gi_cell (by decide) rfl b0 rfl (HS7.out.row.alloc _) rfl rfl (GAt.one _ y 44 (E := eCl) rfl) HL8.out (HS7.out.szA _) ?_))
            intro A8 m8 c8 w8 hr8 _ hb8 _
            have HS8 := hid (HS7.out.app hr8 hb8)
            clear hr8 hb8
            clear b2 q0 q1 d0 d1
            go_wp2_with fail
            go_roundw
            case rel => exact ⟨k + 1, _, _, _, _, true, by omega, rfl, rfl, by go_num, HS8, hid (by rw [HG.out, putG_drop HY.out]; simp [HLT.out, HEQ.out])⟩
            case measure => simp [intOf]; omega
    · have HE := hid (show putC x l = acc ++ putG x D [] by rw [← HPC.out, HG.out, List.drop_eq_nil_of_le (by rw [← HLN.out]; omega)])
      have q0 := HS.out.vars.cell.cell 0
      have q1 := HS.out.vars.cell.cell 1
      have HAL := hid (show acc.length ≤ 1000001 by
        have h1 := congrArg List.length HG.out
        rw [HPC.out, List.length_append] at h1
        have := HPL.out
        have := HLN.out
        omega)
      cases D with
      | true =>
        have HE2 := hid (show putC x l = acc from by rw [HE.out]; simp [putG])
        have r0 := HS.out.vars.res.cell 0
        have r1 := HS.out.vars.res.cell 1
        have r2 := HS.out.vars.res.cell 2
        have s0 := HS.out.vars.res.free 0
        have s1 := HS.out.vars.res.free 1
        have s2 := HS.out.vars.res.free 2
        have b0' := HS.out.vars.page.cell 0
        have b1' := HS.out.vars.page.cell 1
        have b2 := HS.out.vars.page.cell 2
        have f2 := HS.out.vars.page.free 2
        have HLO := hid HS.out.lo
        have HRX := hid HS.out.row
        have HBX := hid (HB.out.trans (HS.out.below.mono (show w.heap.size ≤ b0 by have := HGE.out; have := HLO.out; omega)))
        have HLL := hid (show acc.length ≤ 549755813888 by have := HAL.out; omega)
        clear HS
        go_wp2_with fail
        refine bodyPost_ret (v := pageV leaf next A4 m4 c4) (by simp [results, Tryd.results25, go_sem, pageV, *]) rfl ?_
        refine ⟨A4, m4, c4, rfl, ?_, ?_⟩
        · rw [HE2.out]
          exact CS.row ((((HRX.out.set (p := ⟨g, 2, none⟩) (by show g < b0; have := HLO.out; omega) _).set (p := ⟨g + 1 + 1, 0, none⟩) HLO.out _).set (p := ⟨g + 1 + 1, 1, none⟩) HLO.out _).set (p := ⟨g + 1 + 1, 2, none⟩) HLO.out _) HLL.out
        · exact below_set3 (HBX.out.setCell (p := ⟨g, 2, none⟩) (by have := HGE.out; show _ ≤ g; omega) _) (by have := HGE.out; omega) _ _ _
      | false =>
        have HE2 := hid (show putC x l = acc ++ [x] from by rw [HE.out]; simp [putG])
        have HL6 := hid (show (acc).length + ([x] : List Cl).length ≤ 1099511627776 by have := HAL.out; simp only [List.length_singleton]; omega)

        go_wp2_with (at_builtin; go_must (refine wpList_append_g _ rfl _ _ eCl gi_cell (by decide) rfl b0 rfl (HS.out.row.alloc _) rfl rfl (GAt.one _ x 44 (E := eCl) rfl) HL6.out (HS.out.szA _) ?_))
        intro A6 m6 c6 w6 hr6 _ hb6 _
        have HS6 := hid (HS.out.app hr6 hb6)
        clear hr6 hb6
        clear b2 q0 q1
        have r0 := HS6.out.vars.res.cell 0
        have r1 := HS6.out.vars.res.cell 1
        have r2 := HS6.out.vars.res.cell 2
        have s0 := HS6.out.vars.res.free 0
        have s1 := HS6.out.vars.res.free 1
        have s2 := HS6.out.vars.res.free 2
        have b0' := HS6.out.vars.page.cell 0
        have b1' := HS6.out.vars.page.cell 1
        have b2 := HS6.out.vars.page.cell 2
        have f2 := HS6.out.vars.page.free 2
        have HLO := hid HS6.out.lo
        have HRX := hid HS6.out.row
        have HBX := hid (HB.out.trans (HS6.out.below.mono (show w.heap.size ≤ b0 by have := HGE.out; have := HLO.out; omega)))
        have HLL := hid (show (acc ++ [x]).length ≤ 549755813888 by have := HAL.out; simp only [List.length_append, List.length_singleton]; omega)
        clear HS
        go_wp2_with fail
        refine bodyPost_ret (v := pageV leaf next A6 m6 c6) (by simp [results, Tryd.results25, go_sem, pageV, *]) rfl ?_
        refine ⟨A6, m6, c6, rfl, ?_, ?_⟩
        · rw [HE2.out]
          exact CS.row ((((HRX.out.set (p := ⟨g, 2, none⟩) (by show g < b0; have := HLO.out; omega) _).set (p := ⟨g + 1 + 1, 0, none⟩) HLO.out _).set (p := ⟨g + 1 + 1, 1, none⟩) HLO.out _).set (p := ⟨g + 1 + 1, 2, none⟩) HLO.out _) HLL.out
        · exact below_set3 (HBX.out.setCell (p := ⟨g, 2, none⟩) (by have := HGE.out; show _ ≤ g; omega) _) (by have := HGE.out; omega) _ _ _

end Go.Proofs.YtikggbopoajcbaaDoor
