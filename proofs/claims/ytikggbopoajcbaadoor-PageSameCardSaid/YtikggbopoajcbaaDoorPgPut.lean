/-
  The landed Put, Remove.
-/
import Derived.Test.YtikggbopoajcbaaDoorPgSmall
import Derived.Test.YtikggbopoajcbaaDoorPgFind
import Derived.Test.YtikggbopoajcbaaDoorPgCut
namespace Go.Proofs.YtikggbopoajcbaaDoor
open Go Go.RowKit

/-- a store into a cell that holds no string leaves cells as they are -/
theorem CAt.set {w : World} {B : Nat} {A : Option Addr} {l : List Cl} {p : Addr} {u : Value} (h : CAt w B A l) (hp : w.cell? p = some u) (hu : ∀ s, u ≠ .string s) (v : Value) : CAt (w.setCell p v) B A l := fun hl => by
  obtain ⟨b, off, e, hb, hc⟩ := h hl
  refine ⟨b, off, e, hb, fun i x j z hi hz => ?_⟩
  have h0 := hc i x j z hi hz
  have hs : ∃ s, z = .string s := by
    have hm := List.mem_of_getElem? hz
    simp only [eCl, List.mem_cons, List.not_mem_nil, or_false] at hm
    rcases hm with rfl | rfl <;> exact ⟨_, rfl⟩
  obtain ⟨s, rfl⟩ := hs
  rw [World.cell?_setCell_other w _ _ v (fun e => ?_)]
  · exact h0
  · first | (rw [e] at h0; rw [h0] at hp; injection hp with hp; exact hu s hp.symm) | (rw [← e] at h0; rw [h0] at hp; injection hp with hp; exact hu s hp.symm)
theorem CS.stored {w : World} {g g' : Nat} {leaf leaf' : Bool} {next next' : Int} {A A0 A1 : Option Addr} {m c n0 c0 n1 c1 : Nat} {l : List Cl} (h : CS w w.heap.size A m c l) (hp : PBlk w g leaf next A0 n0 c0) (hr : PBlk w g' leaf' next' A1 n1 c1) (hne : g' ≠ g) (v2 u0 u1 u2 : Value) :
    CS ((((w.setCell ⟨g, 2, none⟩ v2).setCell ⟨g', 0, none⟩ u0).setCell ⟨g', 1, none⟩ u1).setCell ⟨g', 2, none⟩ u2) ((((w.setCell ⟨g, 2, none⟩ v2).setCell ⟨g', 0, none⟩ u0).setCell ⟨g', 1, none⟩ u1).setCell ⟨g', 2, none⟩ u2).heap.size A m c l := by
  have r1 := hr.far (p := ⟨g, 2, none⟩) hne v2
  have r2 := r1.set 0 u0
  have r3 := r2.set 1 u1
  have a1 := CAt.set h.at_ (hp.cell 2) (fun s e => by cases e) v2
  have a2 := CAt.set a1 (r1.cell 0) (fun s e => by cases e) u0
  have a3 := CAt.set a2 (r2.cell 1) (fun s e => by cases e) u1
  have a4 := CAt.set a3 (r3.cell 2) (fun s e => by cases e) u2
  have e : ((((w.setCell ⟨g, 2, none⟩ v2).setCell ⟨g', 0, none⟩ u0).setCell ⟨g', 1, none⟩ u1).setCell ⟨g', 2, none⟩ u2).heap.size = w.heap.size := by simp [World.setCell]
  rw [e]
  exact ⟨a4, h.len, h.cap, h.most, by rw [e]; exact Nat.le_refl _⟩

/-- the variables of a Put: the page, the cell, the result -/
structure PutW (w : World) (g : Nat) (leaf : Bool) (next : Int) (A : Option Addr) (n c : Nat) (x : Cl) : Prop where
  page : PBlk w g leaf next A n c
  cell : CBlk w (g + 1) x
  res : PBlk w (g + 1 + 1) false 0 none 0 0
theorem PutW.step {w w' : World} {g : Nat} {leaf : Bool} {next : Int} {A : Option Addr} {n c : Nat} {x : Cl} (h : PutW w g leaf next A n c x) (hb : Below w.heap.size w w') : PutW w' g leaf next A n c x := ⟨h.page.below hb h.page.lt, h.cell.below hb h.cell.lt, h.res.below hb h.res.lt⟩
theorem putW_new (w : World) (leaf : Bool) (next : Int) (A : Option Addr) (n c : Nat) (x : Cl) : PutW (((w.alloc (.cells #[.bool leaf, .int .i64 next, .slice A n c] 24)).alloc (.cells #[.string (bst x.k), .string (bst x.v)] 44)).alloc (.cells #[.bool false, .int .i64 0, .slice none 0 0] 24)) w.heap.size leaf next A n c x := by
  have e1 : (w.alloc (.cells #[.bool leaf, .int .i64 next, .slice A n c] 24)).heap.size = w.heap.size + 1 := by simp
  have e2 : ((w.alloc (.cells #[.bool leaf, .int .i64 next, .slice A n c] 24)).alloc (.cells #[.string (bst x.k), .string (bst x.v)] 44)).heap.size = w.heap.size + 1 + 1 := by simp
  have h2 := Blk.new (w.alloc (.cells #[.bool leaf, .int .i64 next, .slice A n c] 24)) 44 #[.string (bst x.k), .string (bst x.v)]
  have h3 := Blk.new ((w.alloc (.cells #[.bool leaf, .int .i64 next, .slice A n c] 24)).alloc (.cells #[.string (bst x.k), .string (bst x.v)] 44)) 24 #[.bool false, .int .i64 0, .slice none 0 0]
  rw [e1] at h2
  rw [e2] at h3
  exact ⟨((Blk.new w _ _).alloc _).alloc _, h2.alloc _, h3⟩

theorem below_set3 {B g : Nat} {w w' : World} (h : Below B w w') (hg : B ≤ g) (u0 u1 u2 : Value) : Below B w (((w'.setCell ⟨g, 0, none⟩ u0).setCell ⟨g, 1, none⟩ u1).setCell ⟨g, 2, none⟩ u2) := ((h.setCell (p := ⟨g, 0, none⟩) hg u0).setCell (p := ⟨g, 1, none⟩) hg u1).setCell (p := ⟨g, 2, none⟩) hg u2

set_option maxHeartbeats 4000000 in
set_option maxRecDepth 100000 in
theorem put_long {leaf : Bool} {next : Int} {A : Option Addr} {n c : Nat} {x : Cl} {w : World} (hk : x.k.length ≤ 4398046511104) (hv : x.v.length ≤ 4398046511104) (hl : 480 < x.k.length + x.v.length) :
    Calls Tryd.prog 24 #[pageV leaf next A n c, x.val] w fun e w' => e = .returned (.tuple #[pageV false 0 none 0 0, .int .i64 100]) ∧ Below w.heap.size w w' := by
  have hb1 := ((Below.refl w.heap.size w).alloc (Nat.le_refl _) (.cells #[.bool leaf, .int .i64 next, .slice A n c] 24))
  have hb2 := hb1.alloc hb1.size (.cells #[.string (bst x.k), .string (bst x.v)] 44)
  have hb3 := hb2.alloc hb2.size (.cells #[.bool false, .int .i64 0, .slice none 0 0] 24)
  have HB := hid hb3
  have HP := hid (putW_new w leaf next A n c x)
  have HI := hid (fun (W : World) => isLong_any (x := x) (w := W) hk hv)
  rw [decide_eq_true hl] at HI
  clear hb1 hb2 hb3 hk hv hl
  unfold pageV
  unfold Cl.val at HI ⊢
  go_enter Tryd.func24, Tryd.ntmps24
  go_wp2_with fail
  generalize ((w.alloc (.cells #[.bool leaf, .int .i64 next, .slice A n c] 24)).alloc (.cells #[.string (bst x.k), .string (bst x.v)] 44)).alloc (.cells #[.bool false, .int .i64 0, .slice none 0 0] 24) = w1 at *
  obtain ⟨g, hg⟩ : ∃ g, w.heap.size = g := ⟨_, rfl⟩
  rw [hg] at HP ⊢
  have HGE := hid hg
  clear hg
  have b0 := HP.out.page.cell 0
  have b1 := HP.out.page.cell 1
  have b2 := HP.out.page.cell 2
  have c0 := HP.out.cell.cell 0
  have c1 := HP.out.cell.cell 1
  have r0 := HP.out.res.cell 0
  have r1 := HP.out.res.cell 1
  have r2 := HP.out.res.cell 2
  have s0 := HP.out.res.free 0
  have s1 := HP.out.res.free 1
  have s2 := HP.out.res.free 2
  have f2 := HP.out.page.free 2
  go_fit (HI.out _)
  rintro e w2 ⟨rfl, hb2⟩
  have HP2 := hid (HP.out.step hb2)
  have HB2 := hid (below_step HB.out hb2)

  clear hb2 b0 b1 b2 c0 c1 r0 r1 r2 s0 s1 s2 f2
  have b0 := HP2.out.page.cell 0
  have b1 := HP2.out.page.cell 1
  have b2 := HP2.out.page.cell 2
  have c0 := HP2.out.cell.cell 0
  have c1 := HP2.out.cell.cell 1
  have r0 := HP2.out.res.cell 0
  have r1 := HP2.out.res.cell 1
  have r2 := HP2.out.res.cell 2
  have s0 := HP2.out.res.free 0
  have s1 := HP2.out.res.free 1
  have s2 := HP2.out.res.free 2
  have f2 := HP2.out.page.free 2
  go_wp2_with fail
  refine bodyPost_ret (v := .tuple #[pageV false 0 none 0 0, .int .i64 100]) (by simp [results, Tryd.results24, go_sem, pageV, *]) rfl ?_
  exact ⟨rfl, below_set3 HB2.out (by have := HGE.out; omega) _ _ _⟩

set_option maxHeartbeats 4000000 in
set_option maxRecDepth 100000 in
theorem put_any {leaf : Bool} {next : Int} {A : Option Addr} {n c B : Nat} {l : List Cl} {x : Cl} {w : World} (h : CS w B A n c l) (hn : n ≤ 1000000) (hm : Mono x.k l) (hl : x.k.length + x.v.length ≤ 480) :
    Calls Tryd.prog 24 #[pageV leaf next A n c, x.val] w fun e w' => ∃ A' m' c', e = .returned (.tuple #[pageV leaf next A' m' c', .int .i64 0]) ∧ CS w' w'.heap.size A' m' c' (putC x l) ∧ Below w.heap.size w w' := by
  have hk : x.k.length ≤ 4398046511104 := by omega
  have hv : x.v.length ≤ 4398046511104 := by omega
  have hb1 := ((Below.refl w.heap.size w).alloc (Nat.le_refl _) (.cells #[.bool leaf, .int .i64 next, .slice A n c] 24))
  have hb2 := hb1.alloc hb1.size (.cells #[.string (bst x.k), .string (bst x.v)] 44)
  have hb3 := hb2.alloc hb2.size (.cells #[.bool false, .int .i64 0, .slice none 0 0] 24)
  have HB := hid hb3
  have HP := hid (putW_new w leaf next A n c x)
  have HI := hid (fun (W : World) => isLong_any (x := x) (w := W) hk hv)
  rw [decide_eq_false (by omega)] at HI
  have HC := hid (h.step hb3)
  have HM := hid hm
  have hmost : n ≤ 1000000 := hn
  have HLN := hid h.len
  have hle : fnd x.k l ≤ n := by rw [h.len]; exact fnd_le _ _
  have hsw : hasK x.k l = true → fnd x.k l < n := fun e => by rw [h.len]; exact hasK_lt e
  have HPL := hid (putC_len x l)
  have HPC := hid (show putC x l = l.take (fnd x.k l) ++ (x :: l.drop (fnd x.k l + if hasK x.k l then 1 else 0)) from rfl)
  clear hb1 hb2 hb3 hk hv hl h hm
  unfold pageV
  unfold Cl.val at HI ⊢
  go_enter Tryd.func24, Tryd.ntmps24
  go_wp2_with fail
  generalize ((w.alloc (.cells #[.bool leaf, .int .i64 next, .slice A n c] 24)).alloc (.cells #[.string (bst x.k), .string (bst x.v)] 44)).alloc (.cells #[.bool false, .int .i64 0, .slice none 0 0] 24) = w1 at *
  obtain ⟨g, hg⟩ : ∃ g, w.heap.size = g := ⟨_, rfl⟩
  rw [hg] at HP ⊢
  have HGE := hid hg
  clear hg
  have b0 := HP.out.page.cell 0
  have b1 := HP.out.page.cell 1
  have b2 := HP.out.page.cell 2
  have c0 := HP.out.cell.cell 0
  have c1 := HP.out.cell.cell 1
  have r0 := HP.out.res.cell 0
  have r1 := HP.out.res.cell 1
  have r2 := HP.out.res.cell 2
  have s0 := HP.out.res.free 0
  have s1 := HP.out.res.free 1
  have s2 := HP.out.res.free 2
  have f2 := HP.out.page.free 2
  go_fit (HI.out _)
  rintro e w2 ⟨rfl, hb2⟩
  have HP2 := hid (HP.out.step hb2)
  have HB2 := hid (below_step HB.out hb2)
  have HC2 := hid (HC.out.step hb2)
  clear hb2 b0 b1 b2 c0 c1 r0 r1 r2 s0 s1 s2 f2
  have b0 := HP2.out.page.cell 0
  have b1 := HP2.out.page.cell 1
  have b2 := HP2.out.page.cell 2
  have c0 := HP2.out.cell.cell 0
  have c1 := HP2.out.cell.cell 1
  have r0 := HP2.out.res.cell 0
  have r1 := HP2.out.res.cell 1
  have r2 := HP2.out.res.cell 2
  have s0 := HP2.out.res.free 0
  have s1 := HP2.out.res.free 1
  have s2 := HP2.out.res.free 2
  have f2 := HP2.out.page.free 2
  have HF := hid (find_any (leaf := leaf) (next := next) HC2.out HM.out)
  unfold pageV at HF
  obtain ⟨i, hi⟩ : ∃ i, i = fnd x.k l := ⟨_, rfl⟩
  obtain ⟨D, hD⟩ : ∃ D, D = hasK x.k l := ⟨_, rfl⟩
  rw [← hi] at hle hsw HPC HF
  rw [← hD] at hsw HPC HF
  clear hi hD HI
  go_wp2_with fail
  go_fit HF.out
  rintro e w3 ⟨rfl, hb3⟩
  have HP3 := hid (HP2.out.step hb3)
  have HB3 := hid (below_step HB2.out hb3)
  have HC3 := hid (HC2.out.step hb3)
  have HCT := hid (cut_any HC3.out hle)
  clear b0 b1 b2 c0 c1 r0 r1 r2 s0 s1 s2 f2
  clear hb3 HF
  have b0 := HP3.out.page.cell 0
  have b1 := HP3.out.page.cell 1
  have b2 := HP3.out.page.cell 2
  have c0 := HP3.out.cell.cell 0
  have c1 := HP3.out.cell.cell 1
  have r0 := HP3.out.res.cell 0
  have r1 := HP3.out.res.cell 1
  have r2 := HP3.out.res.cell 2
  have s0 := HP3.out.res.free 0
  have s1 := HP3.out.res.free 1
  have s2 := HP3.out.res.free 2
  have f2 := HP3.out.page.free 2
  go_wp2_with fail
  go_fit HCT.out
  rintro e w4 ⟨A1, A2, rfl, h14, h24, hb4⟩
  have HP4 := hid (HP3.out.step hb4)
  have HB4 := hid (below_step HB3.out hb4)
  have H14 := hid h14
  have HD24 := hid (show n - i = (l.drop i).length by rw [List.length_drop, ← HLN.out])
  clear b0 b1 b2 c0 c1 r0 r1 r2 s0 s1 s2 f2
  clear hb4 HCT h14
  have b0 := HP4.out.page.cell 0
  have b1 := HP4.out.page.cell 1
  have b2 := HP4.out.page.cell 2
  have c0 := HP4.out.cell.cell 0
  have c1 := HP4.out.cell.cell 1
  have r0 := HP4.out.res.cell 0
  have r1 := HP4.out.res.cell 1
  have r2 := HP4.out.res.cell 2
  have s0 := HP4.out.res.free 0
  have s1 := HP4.out.res.free 1
  have s2 := HP4.out.res.free 2
  have f2 := HP4.out.page.free 2
  cases D with
  | true =>
    have hin : i < n := hsw rfl
    obtain ⟨A9, hs9, ha9⟩ := cslice_from (n := 1) h24 HD24.out (Nat.le_refl _) (by omega)
    have hz9 : ∀ W, (Instr.slice 22 (.slice A2 (n - i) (n - i)) (some (.int .i64 1)) none none).run Tryd.prog W = .ok (.slice A9 (n - i - 1) (n - i - 1)) W := fun W => hs9 .i64 W
    have HPC2 := hid (show putC x l = l.take i ++ (x :: l.drop (i + 1)) by rw [HPC.out]; rfl)
    clear hs9 h24 hsw HPC
    have HA9 := hid ha9
    have hm9 : n - i - 1 = ((l.drop i).drop 1).length := by rw [List.length_drop, ← HD24.out]
    have HX8 := hid (GAt.one w4 x 44 (cs := #[.string (bst x.k), .string (bst x.v)]) (E := eCl) rfl)
    have HG8 := hid (((Below.refl w4.heap.size w4).alloc (Nat.le_refl _) (.cells #[.string (bst x.k), .string (bst x.v)] 44)))
    have H18 := hid (GAt.below H14.out HG8.out)
    have H98 := hid (GAt.below HA9.out HG8.out)
    have HL8 := hid (show i = (l.take i).length by rw [List.length_take, ← HLN.out]; omega)
    have HZ8 := hid (show (l.take i).length + ([x] : List Cl).length ≤ 1099511627776 by rw [← HL8.out, List.length_singleton]; omega)
    have HLX9 := hid hm9
    clear ha9 hm9
    go_wp2_with (at_builtin; go_must (refine wpList_append_full _ rfl _ _ eCl gi_cell (by decide) rfl rfl H18.out HL8.out rfl rfl HX8.out HZ8.out (by simp) ?_))
    intro A5 m5 c5 w5 _ _ _ hb5 hr5
    have HR5 := hid hr5
    have HBS := hid (show w4.heap.size + 1 ≤ w5.heap.size by have := hb5.size; simpa using this)
    have HB5 := hid (HG8.out.trans (hb5.mono (by simp)))
    have H95 := hid (GAt.below H98.out (hb5.mono (by simp)))
    have HZ9 := hid (show (l.take i ++ [x]).length + ((l.drop i).drop 1).length ≤ 1099511627776 by rw [List.length_append, ← HL8.out, List.length_singleton, ← HLX9.out]; omega)
    clear hr5 hb5 HG8 H18 H98 HX8
    go_wp2_with (at_builtin; go_must (refine wpList_append_g _ rfl _ _ eCl gi_cell (by decide) rfl (w4.heap.size + 1) rfl HR5.out rfl HLX9.out H95.out HZ9.out HBS.out ?_))
    intro A6 m6 c6 w6 hr6 hc6 hb6 hg6
    have HR6 := hid hr6
    have HB6 := hid (HB5.out.trans (hb6.mono (Nat.le_succ _)))
    have HP6 := hid (HP4.out.step HB6.out)
    have HW6 := hid (below_step HB4.out HB6.out)
    have HGB := hid (show g < w4.heap.size + 1 ∧ g + 1 + 1 < w4.heap.size + 1 from ⟨Nat.lt_succ_of_lt HP4.out.page.lt, Nat.lt_succ_of_lt HP4.out.res.lt⟩)
    clear hr6 hc6 hb6 hg6 b0 b1 b2 c0 c1 r0 r1 r2 s0 s1 s2 f2
    have b0 := HP6.out.page.cell 0
    have b1 := HP6.out.page.cell 1
    have b2 := HP6.out.page.cell 2
    have c0 := HP6.out.cell.cell 0
    have c1 := HP6.out.cell.cell 1
    have r0 := HP6.out.res.cell 0
    have r1 := HP6.out.res.cell 1
    have r2 := HP6.out.res.cell 2
    have s0 := HP6.out.res.free 0
    have s1 := HP6.out.res.free 1
    have s2 := HP6.out.res.free 2
    have f2 := HP6.out.page.free 2
    go_wp2_with fail
    refine bodyPost_ret (v := .tuple #[pageV leaf next A6 m6 c6, .int .i64 0]) (by simp [results, Tryd.results24, go_sem, pageV, *]) rfl ?_
    refine ⟨A6, m6, c6, rfl, ?_, ?_⟩
    · rw [HPC2.out]
      exact CS.row ((((HR6.out.set (p := ⟨g, 2, none⟩) HGB.out.1 _).set (p := ⟨g + 1 + 1, 0, none⟩) HGB.out.2 _).set (p := ⟨g + 1 + 1, 1, none⟩) HGB.out.2 _).set (p := ⟨g + 1 + 1, 2, none⟩) HGB.out.2 _) (by rw [← HPC2.out]; have := HPL.out; have := HLN.out; omega)
    · exact below_set3 (HW6.out.setCell (p := ⟨g, 2, none⟩) (by have := HGE.out; show _ ≤ g; omega) _) (by have := HGE.out; omega) _ _ _
  | false =>
    have ha9 := h24
    have HPC2 := hid (show putC x l = l.take i ++ (x :: l.drop i) by rw [HPC.out]; rfl)
    clear h24 hsw HPC
    have HA9 := hid ha9
    have hm9 : n - i = (l.drop i).length := by exact HD24.out
    have HX8 := hid (GAt.one w4 x 44 (cs := #[.string (bst x.k), .string (bst x.v)]) (E := eCl) rfl)
    have HG8 := hid (((Below.refl w4.heap.size w4).alloc (Nat.le_refl _) (.cells #[.string (bst x.k), .string (bst x.v)] 44)))
    have H18 := hid (GAt.below H14.out HG8.out)
    have H98 := hid (GAt.below HA9.out HG8.out)
    have HL8 := hid (show i = (l.take i).length by rw [List.length_take, ← HLN.out]; omega)
    have HZ8 := hid (show (l.take i).length + ([x] : List Cl).length ≤ 1099511627776 by rw [← HL8.out, List.length_singleton]; omega)
    have HLX9 := hid hm9
    clear ha9 hm9
    go_wp2_with (at_builtin; go_must (refine wpList_append_full _ rfl _ _ eCl gi_cell (by decide) rfl rfl H18.out HL8.out rfl rfl HX8.out HZ8.out (by simp) ?_))
    intro A5 m5 c5 w5 _ _ _ hb5 hr5
    have HR5 := hid hr5
    have HBS := hid (show w4.heap.size + 1 ≤ w5.heap.size by have := hb5.size; simpa using this)
    have HB5 := hid (HG8.out.trans (hb5.mono (by simp)))
    have H95 := hid (GAt.below H98.out (hb5.mono (by simp)))
    have HZ9 := hid (show (l.take i ++ [x]).length + (l.drop i).length ≤ 1099511627776 by rw [List.length_append, ← HL8.out, List.length_singleton, ← HLX9.out]; omega)
    clear hr5 hb5 HG8 H18 H98 HX8
    go_wp2_with (at_builtin; go_must (refine wpList_append_g _ rfl _ _ eCl gi_cell (by decide) rfl (w4.heap.size + 1) rfl HR5.out rfl HLX9.out H95.out HZ9.out HBS.out ?_))
    intro A6 m6 c6 w6 hr6 hc6 hb6 hg6
    have HR6 := hid hr6
    have HB6 := hid (HB5.out.trans (hb6.mono (Nat.le_succ _)))
    have HP6 := hid (HP4.out.step HB6.out)
    have HW6 := hid (below_step HB4.out HB6.out)
    have HGB := hid (show g < w4.heap.size + 1 ∧ g + 1 + 1 < w4.heap.size + 1 from ⟨Nat.lt_succ_of_lt HP4.out.page.lt, Nat.lt_succ_of_lt HP4.out.res.lt⟩)
    clear hr6 hc6 hb6 hg6 b0 b1 b2 c0 c1 r0 r1 r2 s0 s1 s2 f2
    have b0 := HP6.out.page.cell 0
    have b1 := HP6.out.page.cell 1
    have b2 := HP6.out.page.cell 2
    have c0 := HP6.out.cell.cell 0
    have c1 := HP6.out.cell.cell 1
    have r0 := HP6.out.res.cell 0
    have r1 := HP6.out.res.cell 1
    have r2 := HP6.out.res.cell 2
    have s0 := HP6.out.res.free 0
    have s1 := HP6.out.res.free 1
    have s2 := HP6.out.res.free 2
    have f2 := HP6.out.page.free 2
    go_wp2_with fail
    refine bodyPost_ret (v := .tuple #[pageV leaf next A6 m6 c6, .int .i64 0]) (by simp [results, Tryd.results24, go_sem, pageV, *]) rfl ?_
    refine ⟨A6, m6, c6, rfl, ?_, ?_⟩
    · rw [HPC2.out]
      exact CS.row ((((HR6.out.set (p := ⟨g, 2, none⟩) HGB.out.1 _).set (p := ⟨g + 1 + 1, 0, none⟩) HGB.out.2 _).set (p := ⟨g + 1 + 1, 1, none⟩) HGB.out.2 _).set (p := ⟨g + 1 + 1, 2, none⟩) HGB.out.2 _) (by rw [← HPC2.out]; have := HPL.out; have := HLN.out; omega)
    · exact below_set3 (HW6.out.setCell (p := ⟨g, 2, none⟩) (by have := HGE.out; show _ ≤ g; omega) _) (by have := HGE.out; omega) _ _ _

/-- the variables of a Remove: the page, the result -/
structure RemW (w : World) (g : Nat) (leaf : Bool) (next : Int) (A : Option Addr) (n c : Nat) : Prop where
  page : PBlk w g leaf next A n c
  res : PBlk w (g + 1) false 0 none 0 0
theorem RemW.step {w w' : World} {g : Nat} {leaf : Bool} {next : Int} {A : Option Addr} {n c : Nat} (h : RemW w g leaf next A n c) (hb : Below w.heap.size w w') : RemW w' g leaf next A n c := ⟨h.page.below hb h.page.lt, h.res.below hb h.res.lt⟩
theorem remW_new (w : World) (leaf : Bool) (next : Int) (A : Option Addr) (n c : Nat) : RemW ((w.alloc (.cells #[.bool leaf, .int .i64 next, .slice A n c] 24)).alloc (.cells #[.bool false, .int .i64 0, .slice none 0 0] 24)) w.heap.size leaf next A n c := by
  have e1 : (w.alloc (.cells #[.bool leaf, .int .i64 next, .slice A n c] 24)).heap.size = w.heap.size + 1 := by simp
  have h2 := Blk.new (w.alloc (.cells #[.bool leaf, .int .i64 next, .slice A n c] 24)) 24 #[.bool false, .int .i64 0, .slice none 0 0]
  rw [e1] at h2
  exact ⟨(Blk.new w _ _).alloc _, h2⟩

set_option maxHeartbeats 4000000 in
set_option maxRecDepth 100000 in
theorem rem_no {leaf : Bool} {next : Int} {A : Option Addr} {n c B : Nat} {l : List Cl} {K : List UInt8} {w : World} (h : CS w B A n c l) (hm : Mono K l) (hno : hasK K l = false) :
    Calls Tryd.prog 26 #[pageV leaf next A n c, .string (bst K)] w fun e w' => e = .returned (.tuple #[pageV false 0 none 0 0, .int .i64 102]) ∧ Below w.heap.size w w' := by
  have hb1 := ((Below.refl w.heap.size w).alloc (Nat.le_refl _) (.cells #[.bool leaf, .int .i64 next, .slice A n c] 24))
  have hb2 := hb1.alloc hb1.size (.cells #[.bool false, .int .i64 0, .slice none 0 0] 24)
  have HB := hid hb2
  have HP := hid (remW_new w leaf next A n c)
  have HC := hid (h.step hb2)
  have HF := hid (find_any (leaf := leaf) (next := next) (h.step hb2) hm)
  clear hb1 hb2
  rw [hno] at HF
  clear hno
  unfold pageV at HF ⊢
  go_enter Tryd.func26, Tryd.ntmps26
  go_wp2_with fail
  generalize (w.alloc (.cells #[.bool leaf, .int .i64 next, .slice A n c] 24)).alloc (.cells #[.bool false, .int .i64 0, .slice none 0 0] 24) = w1 at *
  obtain ⟨g, hg⟩ : ∃ g, w.heap.size = g := ⟨_, rfl⟩
  rw [hg] at HP ⊢
  have HGE := hid hg
  clear hg
  have b0 := HP.out.page.cell 0
  have b1 := HP.out.page.cell 1
  have b2 := HP.out.page.cell 2
  have r0 := HP.out.res.cell 0
  have r1 := HP.out.res.cell 1
  have r2 := HP.out.res.cell 2
  have s0 := HP.out.res.free 0
  have s1 := HP.out.res.free 1
  have s2 := HP.out.res.free 2
  have f2 := HP.out.page.free 2
  go_fit HF.out
  rintro e w2 ⟨rfl, hb2⟩
  have HP2 := hid (HP.out.step hb2)
  have HB2 := hid (below_step HB.out hb2)
  have HC2 := hid (HC.out.step hb2)
  clear hb2 b0 b1 b2 r0 r1 r2 s0 s1 s2 f2
  have b0 := HP2.out.page.cell 0
  have b1 := HP2.out.page.cell 1
  have b2 := HP2.out.page.cell 2
  have r0 := HP2.out.res.cell 0
  have r1 := HP2.out.res.cell 1
  have r2 := HP2.out.res.cell 2
  have s0 := HP2.out.res.free 0
  have s1 := HP2.out.res.free 1
  have s2 := HP2.out.res.free 2
  have f2 := HP2.out.page.free 2
  go_wp2_with fail
  refine bodyPost_ret (v := .tuple #[pageV false 0 none 0 0, .int .i64 102]) (by simp [results, Tryd.results26, go_sem, pageV, *]) rfl ?_
  exact ⟨rfl, below_set3 HB2.out (by have := HGE.out; omega) _ _ _⟩

set_option maxHeartbeats 4000000 in
set_option maxRecDepth 100000 in
theorem rem_any {leaf : Bool} {next : Int} {A : Option Addr} {n c B : Nat} {l : List Cl} {K : List UInt8} {w : World} (h : CS w B A n c l) (hm : Mono K l) (hno : hasK K l = true) :
    Calls Tryd.prog 26 #[pageV leaf next A n c, .string (bst K)] w fun e w' => ∃ A' m' c', e = .returned (.tuple #[pageV leaf next A' m' c', .int .i64 0]) ∧ CS w' w'.heap.size A' m' c' (delC K l) ∧ Below w.heap.size w w' := by
  have hb1 := ((Below.refl w.heap.size w).alloc (Nat.le_refl _) (.cells #[.bool leaf, .int .i64 next, .slice A n c] 24))
  have hb2 := hb1.alloc hb1.size (.cells #[.bool false, .int .i64 0, .slice none 0 0] 24)
  have HB := hid hb2
  have HP := hid (remW_new w leaf next A n c)
  have HC := hid (h.step hb2)
  have HF := hid (find_any (leaf := leaf) (next := next) (h.step hb2) hm)
  clear hb1 hb2
  have hin : fnd K l < n := by rw [h.len]; exact hasK_lt hno
  have HDC := hid (show delC K l = l.take (fnd K l) ++ l.drop (fnd K l + 1) from rfl)
  have hmost := h.most
  have HLN := hid h.len
  rw [hno] at HF
  clear hno h hm
  obtain ⟨i, hi⟩ : ∃ i, i = fnd K l := ⟨_, rfl⟩
  rw [← hi] at hin HDC HF
  clear hi
  unfold pageV at HF ⊢
  go_enter Tryd.func26, Tryd.ntmps26
  go_wp2_with fail
  generalize (w.alloc (.cells #[.bool leaf, .int .i64 next, .slice A n c] 24)).alloc (.cells #[.bool false, .int .i64 0, .slice none 0 0] 24) = w1 at *
  obtain ⟨g, hg⟩ : ∃ g, w.heap.size = g := ⟨_, rfl⟩
  rw [hg] at HP ⊢
  have HGE := hid hg
  clear hg
  have b0 := HP.out.page.cell 0
  have b1 := HP.out.page.cell 1
  have b2 := HP.out.page.cell 2
  have r0 := HP.out.res.cell 0
  have r1 := HP.out.res.cell 1
  have r2 := HP.out.res.cell 2
  have s0 := HP.out.res.free 0
  have s1 := HP.out.res.free 1
  have s2 := HP.out.res.free 2
  have f2 := HP.out.page.free 2
  go_fit HF.out
  rintro e w2 ⟨rfl, hb2⟩
  have HP2 := hid (HP.out.step hb2)
  have HB2 := hid (below_step HB.out hb2)
  have HC2 := hid (HC.out.step hb2)
  clear hb2 b0 b1 b2 r0 r1 r2 s0 s1 s2 f2
  have b0 := HP2.out.page.cell 0
  have b1 := HP2.out.page.cell 1
  have b2 := HP2.out.page.cell 2
  have r0 := HP2.out.res.cell 0
  have r1 := HP2.out.res.cell 1
  have r2 := HP2.out.res.cell 2
  have s0 := HP2.out.res.free 0
  have s1 := HP2.out.res.free 1
  have s2 := HP2.out.res.free 2
  have f2 := HP2.out.page.free 2
  have HCT := hid (cut_any HC2.out (Nat.le_of_lt hin))
  go_wp2_with fail
  go_fit HCT.out
  rintro e w4 ⟨A1, A2, rfl, h14, h24, hb4⟩
  have HP4 := hid (HP2.out.step hb4)
  have HB4 := hid (below_step HB2.out hb4)
  have H14 := hid h14
  have HD24 := hid (show n - i = (l.drop i).length by rw [List.length_drop, ← HLN.out])
  clear b0 b1 b2 r0 r1 r2 s0 s1 s2 f2
  obtain ⟨A9, hs9, ha9⟩ := cslice_from (n := 1) h24 HD24.out (Nat.le_refl _) (by omega)
  have hz9 : ∀ W, (Instr.slice 22 (.slice A2 (n - i) (n - i)) (some (.int .i64 1)) none none).run Tryd.prog W = .ok (.slice A9 (n - i - 1) (n - i - 1)) W := fun W => hs9 .i64 W
  have HA9 := hid (show CAt w4 w4.heap.size A9 (l.drop (i + 1)) by rw [List.drop_drop] at ha9; exact ha9)
  have HL8 := hid (show i = (l.take i).length by rw [List.length_take, ← HLN.out]; omega)
  have HL9 := hid (show n - i - 1 = (l.drop (i + 1)).length by rw [List.length_drop, ← HLN.out]; omega)
  have HZ8 := hid (show (l.take i).length + (l.drop (i + 1)).length ≤ 1099511627776 by rw [← HL8.out, ← HL9.out]; omega)
  clear hb4 HCT h14 hs9 h24 ha9
  have b0 := HP4.out.page.cell 0
  have b1 := HP4.out.page.cell 1
  have b2 := HP4.out.page.cell 2
  have r0 := HP4.out.res.cell 0
  have r1 := HP4.out.res.cell 1
  have r2 := HP4.out.res.cell 2
  have s0 := HP4.out.res.free 0
  have s1 := HP4.out.res.free 1
  have s2 := HP4.out.res.free 2
  have f2 := HP4.out.page.free 2
  go_wp2_with (at_builtin; go_must (refine wpList_append_full _ rfl _ _ eCl gi_cell (by decide) rfl rfl H14.out HL8.out rfl HL9.out HA9.out HZ8.out (Nat.le_refl _) ?_))
  intro A6 m6 c6 w6 h6 hm6 hc6 hb6 _
  have H6 := hid (show CS w6 w6.heap.size A6 m6 c6 (delC K l) from ⟨by rw [HDC.out]; exact h6, by rw [HDC.out, List.length_append, ← HL8.out, ← HL9.out]; have := HLN.out; omega, hc6, by have := HLN.out; omega, Nat.le_refl _⟩)
  have HP6 := hid (HP4.out.step hb6)
  have HW6 := hid (below_step HB4.out hb6)
  have HGB := hid (show g < w4.heap.size ∧ g + 1 < w4.heap.size from ⟨HP4.out.page.lt, HP4.out.res.lt⟩)
  clear b0 b1 b2 r0 r1 r2 s0 s1 s2 f2
  clear h6 hm6 hc6 hb6
  have b0 := HP6.out.page.cell 0
  have b1 := HP6.out.page.cell 1
  have b2 := HP6.out.page.cell 2
  have r0 := HP6.out.res.cell 0
  have r1 := HP6.out.res.cell 1
  have r2 := HP6.out.res.cell 2
  have s0 := HP6.out.res.free 0
  have s1 := HP6.out.res.free 1
  have s2 := HP6.out.res.free 2
  have f2 := HP6.out.page.free 2
  go_wp2_with fail
  refine bodyPost_ret (v := .tuple #[pageV leaf next A6 m6 c6, .int .i64 0]) (by simp [results, Tryd.results26, go_sem, pageV, *]) rfl ?_
  exact ⟨A6, m6, c6, rfl, H6.out.stored HP6.out.page HP6.out.res (by omega) _ _ _ _, below_set3 (HW6.out.setCell (p := ⟨g, 2, none⟩) (by have := HGE.out; show _ ≤ g; omega) _) (by have := HGE.out; omega) _ _ _⟩

end Go.Proofs.YtikggbopoajcbaaDoor
