/-
  The landed Of.
-/
import Derived.Test.YtikggbopoajcbaaDoorPgRead
import Derived.Test.YtikggbopoajcbaaDoorPgCheck
import Derived.Test.YtikggbopoajcbaaDoorPgSplit
import Derived.Test.YtikggbopoajcbaaDoorJCode
import Derived.Test.YtikggbopoajcbaaDoorJSum
import Derived.Deep.Cut
namespace Go.Proofs.YtikggbopoajcbaaDoor
open Go Go.RowKit

/-- a page, or none -/
def GotP (o : Option (Bool × Nat × List Cl)) (e : Ending) (w' : World) : Prop := match o with
  | none => e = .returned (.tuple #[pageV false 0 none 0 0, .int .i64 101])
  | some p => ∃ A', e = .returned (.tuple #[pageV p.1 (p.2.1 : Int) A' p.2.2.length p.2.2.length, .int .i64 0]) ∧ CS w' w'.heap.size A' p.2.2.length p.2.2.length p.2.2
theorem rtext_few (l : List UInt8) : (rtext l).1.length ≤ 65536 := by
  unfold rtext
  split
  · simp
  · split
    · simp
    · split
      · simp
      · rw [List.length_take]; omega
theorem stext_few (l : List UInt8) (e : Nat) : (stext l e).1.length ≤ 65536 := by
  unfold stext
  split
  · exact rtext_few l
  · simp
theorem rcells_few : ∀ (n : Nat) (l : List UInt8) (e : Nat), ∀ x ∈ (rcells n l e).1, x.k.length ≤ 65536 ∧ x.v.length ≤ 65536
  | 0, _, _, x, h => by cases h
  | n + 1, l, e, x, h => by
    unfold rcells at h
    rcases List.mem_cons.1 h with rfl | h
    · exact ⟨stext_few _ _, stext_few _ _⟩
    · exact rcells_few n _ _ x h
theorem scount_le (most : Nat) (l : List UInt8) (e : Nat) : (scount (most : Int) l e).1 ≤ most := by
  unfold scount rcount
  split
  · split
    · simp
    · split
      · simp
      · dsimp only; omega
  · simp

theorem size_set9 (W : World) (p : Addr) (u : Value) : (W.setCell p u).heap.size = W.heap.size := by simp [World.setCell]

set_option maxHeartbeats 4000000 in
set_option maxRecDepth 100000 in
theorem pof_bad {A : Option Addr} {m c C : Nat} {w : World} (hop : ∀ W : World, Below w.heap.size w W → Calls Tryd.prog 45 #[.slice A m c] W fun e w' => e = .returned (.tuple #[.slice none 0 0, .int .i64 (C : Int)]) ∧ Below W.heap.size W w') (hC : C ≠ 0) :
    Calls Tryd.prog 18 #[.slice A m c] w fun e w' => e = .returned (.tuple #[pageV false 0 none 0 0, .int .i64 101]) ∧ Below w.heap.size w w' := by
  have HB := hid (show Below w.heap.size w (w.alloc (.cells #[.bool false, .int .i64 0, .slice none 0 0] 24)) from (Below.refl _ _).alloc (Nat.le_refl _) _)
  have HR := hid (show PBlk (w.alloc (.cells #[.bool false, .int .i64 0, .slice none 0 0] 24)) w.heap.size false 0 none 0 0 from Blk.new w _ _)
  have HOP := hid (hop _ HB.out)
  have hk2 : ((C : Int) != 0) = true := (nat_ne hC).2
  clear hop hC
  go_enter Tryd.func18, Tryd.ntmps18
  go_wp2_with fail
  generalize w.alloc (.cells #[.bool false, .int .i64 0, .slice none 0 0] 24) = w1 at *
  have r0 := HR.out.cell 0
  have r1 := HR.out.cell 1
  have r2 := HR.out.cell 2
  have s0 := HR.out.free 0
  have s1 := HR.out.free 1
  have s2 := HR.out.free 2
  go_fit HOP.out
  rintro e w2 ⟨rfl, hb2⟩
  have HR2 := hid (HR.out.below hb2 HR.out.lt)
  have HB2 := hid (below_step HB.out hb2)
  clear r0 r1 r2 s0 s1 s2
  have r0 := HR2.out.cell 0
  have r1 := HR2.out.cell 1
  have r2 := HR2.out.cell 2
  have s0 := HR2.out.free 0
  have s1 := HR2.out.free 1
  have s2 := HR2.out.free 2
  clear hb2
  go_wp2_with fail
  refine bodyPost_ret (v := .tuple #[pageV false 0 none 0 0, .int .i64 101]) (by simp [results, Tryd.results18, go_sem, pageV, *]) rfl ?_
  exact ⟨rfl, below_set3 HB2.out (Nat.le_refl _) _ _ _⟩

set_option maxHeartbeats 4000000 in
set_option maxRecDepth 100000 in
theorem pof_good {A : Option Addr} {m c : Nat} {f : List UInt8} {w : World} (hop : ∀ W : World, Below w.heap.size w W → Calls Tryd.prog 45 #[.slice A m c] W fun e w' => ∃ A' m' c', e = .returned (.tuple #[.slice A' m' c', .int .i64 0]) ∧ Row w' W.heap.size 5 A' m' c' f ∧ Below W.heap.size W w') (hf : f.length ≤ 140737488351232) :
    Calls Tryd.prog 18 #[.slice A m c] w fun e w' => GotP (pof f) e w' ∧ Below w.heap.size w w' := by
  rw [lof_is f]
  obtain ⟨O, hO⟩ : ∃ O, O = if endOf (lcel f).2.1 (lcel f).2.2 ≠ 0 ∨ pchk ((lcnt f).1 : Int) (lcel f).1 ≠ 0 then none else some ((rflag f).1, (lcnt f).1, (lcel f).1) := ⟨_, rfl⟩
  rw [← hO]
  have HO := hid hO
  clear hO
  have HB := hid (show Below w.heap.size w (w.alloc (.cells #[.bool false, .int .i64 0, .slice none 0 0] 24)) from (Below.refl _ _).alloc (Nat.le_refl _) _)
  have HR := hid (show PBlk (w.alloc (.cells #[.bool false, .int .i64 0, .slice none 0 0] 24)) w.heap.size false 0 none 0 0 from Blk.new w _ _)
  have HOP := hid (hop _ HB.out)
  have HF := hid hf
  have HC1 := hid (show lcnt f = scount 256 (rflag f).2.1 (rflag f).2.2 from rfl)
  have HC2 := hid (show lnum f = scount 1024 (lcnt f).2.1 (lcnt f).2.2 from rfl)
  have HC3 := hid (show lcel f = rcells (lnum f).1 (lnum f).2.1 (lnum f).2.2 from rfl)
  clear hop hf
  go_enter Tryd.func18, Tryd.ntmps18
  go_wp2_with fail
  generalize w.alloc (.cells #[.bool false, .int .i64 0, .slice none 0 0] 24) = w1 at *
  have r0 := HR.out.cell 0
  have r1 := HR.out.cell 1
  have r2 := HR.out.cell 2
  have s0 := HR.out.free 0
  have s1 := HR.out.free 1
  have s2 := HR.out.free 2
  go_fit HOP.out
  rintro e w2 ⟨A2, m2, c2, rfl, hr2, hb2⟩
  have HR2 := hid (HR.out.below hb2 HR.out.lt)
  have HB2 := hid (below_step HB.out hb2)
  have HRD := hid (read_any (c := c2) hr2.at_ hr2.1 (Nat.le_refl _) HF.out)
  clear r0 r1 r2 s0 s1 s2
  clear hb2 hr2 HR HB HOP
  go_wp2_with fail
  go_fit HRD.out
  rintro e w3 ⟨r, rfl, hr3, hrb3, hb3⟩
  have HR3 := hid (HR2.out.below hb3 HR2.out.lt)
  have HB3 := hid (below_step HB2.out hb3)
  have HG := hid (get_flag r f w3 hr3)
  have HRB := hid (show w.heap.size < r from Nat.lt_of_lt_of_le HR2.out.lt hrb3)
  obtain ⟨Z1, hZ1⟩ : ∃ Z, Z = rflag f := ⟨_, rfl⟩
  rw [← hZ1] at HG HC1 HO
  obtain ⟨y, f1, e1⟩ := Z1
  dsimp only at HG HC1 HO
  clear hZ1 hr3 hrb3 hb3 HRD HR2 HB2
  go_wp2_with fail
  go_fit HG.out
  rintro e w4 ⟨rfl, hr4, ho4⟩
  have HR4 := hid (HR3.out.grown ho4 (fun e => by injection e with e; have := HRB.out; omega))
  have HB4 := hid (HB3.out.grown ho4 HB3.out.size (fun k hk => by injection hk with hk; have := HRB.out; omega))
  have HG2 := hid (gcount_any r e1 256 (by decide) f1 w4 hr4)
  have hcl1 : (scount 256 f1 e1).1 ≤ 256 := scount_le 256 f1 e1
  obtain ⟨Z2, hZ2⟩ : ∃ Z, Z = scount 256 f1 e1 := ⟨_, rfl⟩
  rw [← hZ2] at HG2 HC1 hcl1
  rw [HC1.out] at HO HC2
  obtain ⟨V, f2, e2⟩ := Z2
  dsimp only at HG2 HC2 HO hcl1
  clear hZ2 hr4 ho4 HR3 HB3 HG HC1
  go_wp2_with fail
  go_fit HG2.out
  rintro e w5 ⟨rfl, hr5, ho5⟩
  have HR5 := hid (HR4.out.grown ho5 (fun e => by injection e with e; have := HRB.out; omega))
  have HB5 := hid (HB4.out.grown ho5 HB4.out.size (fun k hk => by injection hk with hk; have := HRB.out; omega))
  have hb6 : Below w5.heap.size w5 (w5.alloc (.cells #[.bool y, .int .i64 (V : Int), .slice none 0 0] 24)) := (Below.refl _ _).alloc (Nat.le_refl _) _
  have HR6 := hid (HR5.out.below hb6 HR5.out.lt)
  have HB6 := hid (below_step HB5.out hb6)
  have hr6 := hr5.step hb6
  have HRG := hid (show r < w5.heap.size from hr5.lt)
  have HP6 := hid (show PBlk (w5.alloc (.cells #[.bool y, .int .i64 (V : Int), .slice none 0 0] 24)) w5.heap.size y (V : Int) none 0 0 from Blk.new w5 _ _)
  have HG3 := hid (gcount_any r e2 1024 (by decide) f2 _ hr6)
  have hcl2 : (scount 1024 f2 e2).1 ≤ 1024 := scount_le 1024 f2 e2
  obtain ⟨Z3, hZ3⟩ : ∃ Z, Z = scount 1024 f2 e2 := ⟨_, rfl⟩
  rw [← hZ3] at HG3 HC2 hcl2
  rw [HC2.out] at HC3
  obtain ⟨N, f3, e3⟩ := Z3
  dsimp only at HG3 HC3 hcl2
  clear hZ3 hr5 ho5 hb6 hr6 HR4 HB4 HG2 HR5 HC2
  go_upto_region 6 with fail
  generalize w5.alloc (.cells #[.bool y, .int .i64 (V : Int), .slice none 0 0] 24) = w6 at *
  have HG7L := hid (show w.heap.size ≤ w5.heap.size from HB5.out.size)
  obtain ⟨g, hg⟩ : ∃ g, w5.heap.size = g := ⟨_, rfl⟩
  rw [hg] at HRG HP6 HG7L ⊢
  clear hg HB5
  go_wp2_with fail
  go_fit HG3.out
  rintro e w7 ⟨rfl, hr7, ho7⟩
  have HR7 := hid (HR6.out.grown ho7 (fun e => by injection e with e; have := HRB.out; omega))
  have HP7 := hid (HP6.out.grown ho7 (fun e => by injection e with e; have := HRG.out; omega))
  have HB7 := hid (HB6.out.grown ho7 HB6.out.size (fun k hk => by injection hk with hk; have := HRB.out; omega))
  have HCL := hid (readCells_any hr7 hcl2)
  have hfew := rcells_few N f3 e3
  have hlen := rcells_len N f3 e3
  obtain ⟨Z4, hZ4⟩ : ∃ Z, Z = rcells N f3 e3 := ⟨_, rfl⟩
  rw [← hZ4] at HCL HC3 hfew hlen
  rw [HC3.out] at HO
  obtain ⟨cs, f4, e4⟩ := Z4
  dsimp only at HCL HO hfew hlen
  have HFW := hid hfew
  have HLN := hid hlen
  have HSUM := hid (show csum cs ≤ 4398046511104 by
    have h1 := csum_few hfew
    rw [hlen] at h1
    have h2 : N * (65536 + 65536 + 20) ≤ 1024 * (65536 + 65536 + 20) := Nat.mul_le_mul_right _ hcl2
    omega)
  clear hZ4 hr7 ho7 HR6 HP6 HB6 HG3 HC3 hfew hlen
  go_wp2_with fail
  go_fit HCL.out
  rintro e w8 ⟨A8, rfl, hc8, hr8, ho8⟩
  have HR8 := hid (HR7.out.grown ho8 (fun e => by injection e with e; have := HRB.out; omega))
  have HP8 := hid (HP7.out.grown ho8 (fun e => by injection e with e; have := HRG.out; omega))
  have HB8 := hid (HB7.out.grown ho8 HB7.out.size (fun k hk => by injection hk with hk; have := HRB.out; omega))
  have p2 := HP8.out.cell 2
  have q2 := HP8.out.free 2
  have HC9 := hid (CAt.set hc8.at_ p2 (fun s e => by cases e) (.slice A8 N N))
  have HN8 := hid hc8
  have HP9 := hid (show PBlk (w8.setCell ⟨g, 2, none⟩ (.slice A8 N N)) g y (V : Int) A8 N N from HP8.out.set 2 _)
  have HR9 := hid (HR8.out.far (p := ⟨g, 2, none⟩) (by show w.heap.size ≠ g; have := HRG.out; have := HRB.out; omega) (.slice A8 N N))
  have HB9 := hid (HB8.out.setCell (p := ⟨g, 2, none⟩) HG7L.out (.slice A8 N N))
  have HD9 := hid (hr8.new_set (g := g) HRG.out (i := 2) (.slice A8 N N))
  have HZ9 := hid (show (w8.setCell ⟨g, 2, none⟩ (.slice A8 N N)).heap.size = w8.heap.size by simp [World.setCell])
  clear hc8 hr8 ho8 HR7 HP7 HB7 HR8 HB8 HCL
  go_wp2_with fail
  generalize w8.setCell ⟨g, 2, none⟩ (.slice A8 N N) = w9 at *
  have HCS := hid (show CS w9 w9.heap.size A8 N N cs from ⟨by rw [HZ9.out]; exact HC9.out, HLN.out.symm, Nat.le_refl _, by omega, Nat.le_refl _⟩)
  have HE := hid (end_any r e4 f4 w9 HD9.out)
  clear p2 q2 HC9 HN8 HP8 HZ9 HD9
  have HK := hid (pcheck_any (leaf := y) (next := (V : Int)) HCS.out HSUM.out (by omega))
  obtain ⟨E, hE⟩ : ∃ E, E = endOf f4 e4 := ⟨_, rfl⟩
  obtain ⟨C, hC⟩ : ∃ C, C = pchk (V : Int) cs := ⟨_, rfl⟩
  rw [← hE] at HE HO
  rw [← hC] at HK HO
  clear hE hC HSUM
  unfold pageV at HK
  have r0 := HR9.out.cell 0
  have r1 := HR9.out.cell 1
  have r2 := HR9.out.cell 2
  have s0 := HR9.out.free 0
  have s1 := HR9.out.free 1
  have s2 := HR9.out.free 2
  have p0 := HP9.out.cell 0
  have p1 := HP9.out.cell 1
  have p2 := HP9.out.cell 2
  by_cases h0 : E = 0
  · subst h0
    by_cases h1 : C = 0
    · subst h1
      have HO2 := hid (show O = some (y, V, cs) by rw [HO.out]; simp)
      go_wp2_with fail
      go_fit HE.out
      rintro e w10 ⟨rfl, rfl⟩
      go_wp2_with fail
      go_fit HK.out
      rintro e w10 ⟨rfl, hb10⟩
      have HB10 := hid (HB9.out.trans (hb10.mono HB9.out.size))
      have HR10 := hid (HR9.out.below hb10 HR9.out.lt)
      have HP10 := hid (HP9.out.below hb10 HP9.out.lt)
      have HC10 := hid (HCS.out.step hb10)
      clear r0 r1 r2 s0 s1 s2
      clear p0 p1 p2 hb10
      have r0 := HR10.out.cell 0
      have r1 := HR10.out.cell 1
      have r2 := HR10.out.cell 2
      have s0 := HR10.out.free 0
      have s1 := HR10.out.free 1
      have s2 := HR10.out.free 2
      have p0 := HP10.out.cell 0
      have p1 := HP10.out.cell 1
      have p2 := HP10.out.cell 2
      have HCF := hid (CAt.set3 HC10.out.at_ HR10.out y (V : Int) A8 N N)
      go_wp2_with fail
      refine bodyPost_ret (v := .tuple #[pageV y (V : Int) A8 N N, .int .i64 0]) (by simp [results, Tryd.results18, go_sem, pageV, *]) rfl ?_
      rw [HO2.out]
      refine ⟨⟨A8, by rw [HLN.out], ?_⟩, below_set3 HB10.out (Nat.le_refl _) _ _ _⟩
      rw [HLN.out]
      exact ⟨GAt.more HCF.out (by simp only [size_set9]; exact HC10.out.low), HLN.out.symm, Nat.le_refl _, by omega, Nat.le_refl _⟩
    · have HO2 := hid (show O = none by rw [HO.out, if_pos (.inr h1)])
      have hk2 : ((C : Int) != 0) = true := (nat_ne h1).2
      clear h1
      go_wp2_with fail
      go_fit HE.out
      rintro e w10 ⟨rfl, rfl⟩
      go_wp2_with fail
      go_fit HK.out
      rintro e w10 ⟨rfl, hb10⟩
      have HB10 := hid (HB9.out.trans (hb10.mono HB9.out.size))
      have HR10 := hid (HR9.out.below hb10 HR9.out.lt)
      clear r0 r1 r2 s0 s1 s2
      clear p0 p1 p2 hb10
      have r0 := HR10.out.cell 0
      have r1 := HR10.out.cell 1
      have r2 := HR10.out.cell 2
      have s0 := HR10.out.free 0
      have s1 := HR10.out.free 1
      have s2 := HR10.out.free 2
      go_wp2_with fail
      refine bodyPost_ret (v := .tuple #[pageV false 0 none 0 0, .int .i64 101]) (by simp [results, Tryd.results18, go_sem, pageV, *]) rfl ?_
      rw [HO2.out]
      exact ⟨rfl, below_set3 HB10.out (Nat.le_refl _) _ _ _⟩
  · have HO2 := hid (show O = none by rw [HO.out, if_pos (.inl h0)])
    have hk2 : ((E : Int) != 0) = true := (nat_ne h0).2
    clear h0
    go_wp2_with fail
    go_fit HE.out
    rintro e w10 ⟨rfl, rfl⟩
    go_wp2_with fail
    refine bodyPost_ret (v := .tuple #[pageV false 0 none 0 0, .int .i64 101]) (by simp [results, Tryd.results18, go_sem, pageV, *]) rfl ?_
    rw [HO2.out]
    exact ⟨rfl, below_set3 HB9.out (Nat.le_refl _) _ _ _⟩

theorem ofpage_any {A : Option Addr} {m c B : Nat} {b : List UInt8} {w : World} (hA : At w B A b) (hm : m = b.length) (hc : m ≤ c) (hB : B ≤ w.heap.size) (hl : b.length ≤ 70368744177664) :
    Calls Tryd.prog 18 #[.slice A m c] w fun e w' => GotP (pofB b sum4) e w' ∧ Below w.heap.size w w' := by
  unfold pofB
  by_cases h4 : b.length < 4
  · rw [if_pos (.inl h4)]
    exact pof_bad (C := 20) (fun W hW => (open_short A m c W (by omega)).mono fun e w' ⟨h1, h2⟩ => ⟨h1, by subst h2; exact Below.refl _ _⟩) (by decide)
  · obtain ⟨n, hn⟩ : ∃ n, b.length = n + 4 := ⟨b.length - 4, by omega⟩
    rw [show b.length - 4 = n by omega]
    obtain rfl : m = n + 4 := by omega
    by_cases hs : b.drop n = sum4 (b.take n)
    · rw [if_neg (by intro h; rcases h with h | h; exact h4 h; exact h hs)]
      exact pof_good (f := b.take n) (fun W hW => open_good A c B n b W (by omega) (by omega) (hA.below (hW.mono hB)) (Nat.le_trans hB hW.size) hl hs) (by rw [List.length_take]; omega)
    · rw [if_pos (.inr hs)]
      exact pof_bad (C := 21) (fun W hW => open_wrong A c B n b W (by omega) (by omega) (hA.below (hW.mono hB)) (Nat.le_trans hB hW.size) hl hs) (by decide)

end Go.Proofs.YtikggbopoajcbaaDoor
