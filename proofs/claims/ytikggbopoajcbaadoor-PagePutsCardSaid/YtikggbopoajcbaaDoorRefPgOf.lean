/-
  The document's Of.
-/
import Derived.Test.YtikggbopoajcbaaDoorRefPgC
import Derived.Test.YtikggbopoajcbaaDoorPgOf
import Derived.Test.YtikggbopoajcbaaDoorJRefT
import Derived.Test.YtikggbopoajcbaaDoorJRefS
namespace Go.Proofs.YtikggbopoajcbaaDoor
open Go Go.RowKit

/-- a page, or none -/
def GotR (o : Option (Bool × Nat × List Cl)) (e : Ending) (w' : World) : Prop := match o with
  | none => e = .returned (.tuple #[pageV false 0 none 0 0, .int .i64 101])
  | some p => ∃ A' m' c', e = .returned (.tuple #[pageV p.1 (p.2.1 : Int) A' m' c', .int .i64 0]) ∧ CS w' w'.heap.size A' m' c' p.2.2
theorem rtext_len (l : List UInt8) : (rtext l).2.1.length ≤ l.length := by
  have h := rnum_len l
  unfold rtext
  split
  · exact Nat.le_refl _
  · split
    · exact Nat.le_refl _
    · split
      · exact Nat.le_refl _
      · rw [List.length_drop]; omega
theorem rflag_len (l : List UInt8) : (rflag l).2.1.length ≤ l.length := by
  cases l with
  | nil => simp [rflag]
  | cons x r =>
    by_cases h : 1 < x.toNat
    · simp [rflag, h]
    · simp [rflag, h]
theorem rcount_len (most : Int) (l : List UInt8) : (rcount most l).2.1.length ≤ l.length := by
  have h := rnum_len l
  unfold rcount
  split
  · exact Nat.le_refl _
  · split
    · exact Nat.le_refl _
    · exact h
theorem rcount_le (most : Nat) (l : List UInt8) : (rcount (most : Int) l).1 ≤ most := by
  have := scount_le most l 0
  unfold scount at this
  rwa [if_pos rfl] at this
theorem dcells_few : ∀ (n : Nat) (l : List UInt8) (r : List Cl × List UInt8), dcells n l = some r → ∀ x ∈ r.1, x.k.length ≤ 65536 ∧ x.v.length ≤ 65536
  | 0, l, r, h, x, hx => by injection h with h; subst h; cases hx
  | n + 1, l, r, h, x, hx => by
    unfold dcells at h
    split at h
    · cases h
    · obtain ⟨q, hq, rfl⟩ := Option.map_eq_some_iff.1 h
      rcases List.mem_cons.1 hx with rfl | hx
      · exact ⟨rtext_few _, rtext_few _⟩
      · exact dcells_few n _ q hq x hx

theorem dcells_go {k N : Nat} (h : k < N) (l : List UInt8) : dcells (N - k) l = if (rtext l).2.2 ≠ 0 ∨ (rtext (rtext l).2.1).2.2 ≠ 0 then none else (dcells (N - (k + 1)) (rtext (rtext l).2.1).2.1).map fun r => (⟨(rtext l).1, (rtext (rtext l).2.1).1⟩ :: r.1, r.2) := by
  rw [show N - k = (N - (k + 1)) + 1 by omega]
  rfl
/-- what holds while the cells are taken -/
structure OfS (w w10 : World) (g7 g14 : Nat) (y : Bool) (V N : Nat) (Ap : Option Addr) (mp cp : Nat) (Ar : Option Addr) (mr cr : Nat) (acc : List Cl) (W : World) : Prop where
  page : PBlk W g7 y (V : Int) Ap mp cp
  row : GRow eCl 44 W w10.heap.size Ar mr cr acc
  res : PBlk W w.heap.size false 0 none 0 0
  non : PBlk W (w.heap.size + 1) false 0 none 0 0
  cnt : Blk W g14 78 #[.int .i64 3, .int .u64 (N : Int), .string (bst []), .bool false, .int .i64 0]
  below : Below w.heap.size w W
  lo : w.heap.size + 1 < g7
  lo2 : g7 < g14
  lo3 : g14 < w10.heap.size
  sz : w10.heap.size ≤ W.heap.size
section
variable {w w10 W W' : World} {g7 g14 : Nat} {y : Bool} {V N : Nat} {Ap Ar A2 : Option Addr} {mp cp mr cr m2 c2 : Nat} {acc acc2 : List Cl}
theorem OfS.step (h : OfS w w10 g7 g14 y V N Ap mp cp Ar mr cr acc W) (hb : Below W.heap.size W W') : OfS w w10 g7 g14 y V N Ap mp cp Ar mr cr acc W' :=
  ⟨h.page.below hb h.page.lt, h.row.below hb, h.res.below hb h.res.lt, h.non.below hb h.non.lt, h.cnt.below hb h.cnt.lt, below_step h.below hb, h.lo, h.lo2, h.lo3, Nat.le_trans h.sz hb.size⟩
theorem OfS.szA (h : OfS w w10 g7 g14 y V N Ap mp cp Ar mr cr acc W) (o : Obj) : w10.heap.size ≤ (W.alloc o).heap.size := Nat.le_trans h.sz (by simp)
theorem OfS.app (h : OfS w w10 g7 g14 y V N Ap mp cp Ar mr cr acc W) {o : Obj} (hr : GRow eCl 44 W' w10.heap.size A2 m2 c2 acc2) (hb : Below w10.heap.size (W.alloc o) W') : OfS w w10 g7 g14 y V N Ap mp cp A2 m2 c2 acc2 W' := by
  have hb1 := ((Below.refl w10.heap.size W).alloc h.sz o).trans hb
  have h1 := h.lo
  have h2 := h.lo2
  have h3 := h.lo3
  exact ⟨h.page.below hb1 (by omega), hr, h.res.below hb1 (by omega), h.non.below hb1 (by omega), h.cnt.below hb1 h3, h.below.trans (hb1.mono (by omega)), h1, h2, h3, Nat.le_trans h.sz hb1.size⟩
theorem OfS.set (h : OfS w w10 g7 g14 y V N Ap mp cp Ar mr cr acc W) : OfS w w10 g7 g14 y V N Ar mr cr Ar mr cr acc (W.setCell ⟨g7, 2, none⟩ (.slice Ar mr cr)) := by
  have h1 := h.lo
  have h2 := h.lo2
  have h3 := h.lo3
  exact ⟨h.page.set 2 _, h.row.set (p := ⟨g7, 2, none⟩) (by show g7 < _; omega) _, h.res.far (by show w.heap.size ≠ g7; omega) _, h.non.far (by show w.heap.size + 1 ≠ g7; omega) _, h.cnt.far (by show g14 ≠ g7; omega) _, h.below.setCell (p := ⟨g7, 2, none⟩) (by show w.heap.size ≤ g7; omega) _, h1, h2, h3, by rw [size_set9]; exact h.sz⟩
end

set_option maxHeartbeats 8000000 in
set_option maxRecDepth 100000 in
theorem refOf_bad {C : Nat} {s : Value} {w : World} (hop : ∀ W : World, Below w.heap.size w W → Calls Tryd.prog 52 #[s] W fun e w' => e = .returned (.tuple #[.string (bst []), .int .i64 (C : Int)]) ∧ Below W.heap.size W w') (hC : C ≠ 0) :
    Calls Tryd.prog 19 #[s] w fun e w' => GotR none e w' ∧ Below w.heap.size w w' := by
  have hb1 : Below w.heap.size w (w.alloc (.cells #[.bool false, .int .i64 0, .slice none 0 0] 24)) := (Below.refl _ _).alloc (Nat.le_refl _) _
  have HB := hid (hb1.alloc hb1.size (.cells #[.bool false, .int .i64 0, .slice none 0 0] 24))
  have HR := hid (show PBlk ((w.alloc (.cells #[.bool false, .int .i64 0, .slice none 0 0] 24)).alloc (.cells #[.bool false, .int .i64 0, .slice none 0 0] 24)) w.heap.size false 0 none 0 0 from (Blk.new w _ _).alloc _)
  have HN := hid (show PBlk ((w.alloc (.cells #[.bool false, .int .i64 0, .slice none 0 0] 24)).alloc (.cells #[.bool false, .int .i64 0, .slice none 0 0] 24)) (w.heap.size + 1) false 0 none 0 0 by
    have := Blk.new (w.alloc (.cells #[.bool false, .int .i64 0, .slice none 0 0] 24)) 24 #[.bool false, .int .i64 0, .slice none 0 0]
    rwa [show (w.alloc (.cells #[.bool false, .int .i64 0, .slice none 0 0] 24)).heap.size = w.heap.size + 1 by simp] at this)
  have HOP := hid (hop _ HB.out)
  clear hb1 hop
  have hk2 : ((C : Int) != 0) = true := (nat_ne hC).2
  clear hC
  go_enter Tryd.func19, Tryd.ntmps19
  go_wp2_with fail
  generalize (w.alloc (.cells #[.bool false, .int .i64 0, .slice none 0 0] 24)).alloc (.cells #[.bool false, .int .i64 0, .slice none 0 0] 24) = w1 at *
  go_fit HOP.out
  rintro e w2 ⟨rfl, hb2⟩
  have HR2 := hid (HR.out.below hb2 HR.out.lt)
  have HN2 := hid (HN.out.below hb2 HN.out.lt)
  have HB2 := hid (below_step HB.out hb2)
  clear hb2
  have r0 := HR2.out.cell 0
  have r1 := HR2.out.cell 1
  have r2 := HR2.out.cell 2
  have s0 := HR2.out.free 0
  have s1 := HR2.out.free 1
  have s2 := HR2.out.free 2
  have n0 := HN2.out.cell 0
  have n1 := HN2.out.cell 1
  have n2 := HN2.out.cell 2
  go_wp2_with fail
  refine bodyPost_ret (v := .tuple #[pageV false 0 none 0 0, .int .i64 101]) (by simp [results, Tryd.results19, go_sem, pageV, *]) rfl ?_
  exact ⟨rfl, below_set3 HB2.out (Nat.le_refl _) _ _ _⟩

set_option maxHeartbeats 8000000 in
set_option maxRecDepth 100000 in
theorem refOf_good {s : Value} {f : List UInt8} {w : World} (hop : ∀ W : World, Below w.heap.size w W → Calls Tryd.prog 52 #[s] W fun e w' => e = .returned (.tuple #[.string (bst f), .int .i64 0]) ∧ Below W.heap.size W w') (hf : f.length ≤ 60000) :
    Calls Tryd.prog 19 #[s] w fun e w' => GotR (pof f) e w' ∧ Below w.heap.size w w' := by
  obtain ⟨O, hO⟩ : ∃ O, O = pof f := ⟨_, rfl⟩
  rw [← hO]
  unfold pof at hO
  have HO := hid hO
  have HF := hid hf
  clear hO hf
  have hb1 : Below w.heap.size w (w.alloc (.cells #[.bool false, .int .i64 0, .slice none 0 0] 24)) := (Below.refl _ _).alloc (Nat.le_refl _) _
  have HB := hid (hb1.alloc hb1.size (.cells #[.bool false, .int .i64 0, .slice none 0 0] 24))
  have HR := hid (show PBlk ((w.alloc (.cells #[.bool false, .int .i64 0, .slice none 0 0] 24)).alloc (.cells #[.bool false, .int .i64 0, .slice none 0 0] 24)) w.heap.size false 0 none 0 0 from (Blk.new w _ _).alloc _)
  have HN := hid (show PBlk ((w.alloc (.cells #[.bool false, .int .i64 0, .slice none 0 0] 24)).alloc (.cells #[.bool false, .int .i64 0, .slice none 0 0] 24)) (w.heap.size + 1) false 0 none 0 0 by
    have := Blk.new (w.alloc (.cells #[.bool false, .int .i64 0, .slice none 0 0] 24)) 24 #[.bool false, .int .i64 0, .slice none 0 0]
    rwa [show (w.alloc (.cells #[.bool false, .int .i64 0, .slice none 0 0] 24)).heap.size = w.heap.size + 1 by simp] at this)
  have HOP := hid (hop _ HB.out)
  clear hb1 hop
  go_enter Tryd.func19, Tryd.ntmps19
  go_wp2_with fail
  generalize (w.alloc (.cells #[.bool false, .int .i64 0, .slice none 0 0] 24)).alloc (.cells #[.bool false, .int .i64 0, .slice none 0 0] 24) = w1 at *
  go_fit HOP.out
  rintro e w2 ⟨rfl, hb2⟩
  have ha := (Below.refl w2.heap.size w2).alloc (Nat.le_refl _) (.cells #[.bool false, .int .i64 0, .slice none 0 0] 24)
  have HR3 := hid ((HR.out.below hb2 HR.out.lt).alloc (.cells #[.bool false, .int .i64 0, .slice none 0 0] 24))
  have HN3 := hid ((HN.out.below hb2 HN.out.lt).alloc (.cells #[.bool false, .int .i64 0, .slice none 0 0] 24))
  have HB3 := hid (below_step (below_step HB.out hb2) ha)
  have HP3 := hid (show PBlk (w2.alloc (.cells #[.bool false, .int .i64 0, .slice none 0 0] 24)) w2.heap.size false 0 none 0 0 from Blk.new w2 _ _)
  have HGL := hid (show w.heap.size + 1 < w2.heap.size from (HN.out.below hb2 HN.out.lt).lt)
  clear hb2 ha HR HN HB HOP
  go_upto_region 6 with fail
  generalize w2.alloc (.cells #[.bool false, .int .i64 0, .slice none 0 0] 24) = w3 at *
  obtain ⟨g7, hg7⟩ : ∃ g, w2.heap.size = g := ⟨_, rfl⟩
  rw [hg7] at HP3 HGL ⊢
  clear hg7
  have HT1 := hid (refTake_flag 0 f w3 (by have := HF.out; omega))
  rw [show tk 2 0 f = (⟨2, 0, [], (rflag f).1, 0⟩, (rflag f).2) from rfl] at HT1
  have hl1 := rflag_len f
  obtain ⟨Z1, hZ1⟩ : ∃ Z, Z = rflag f := ⟨_, rfl⟩
  rw [← hZ1] at HT1 HO hl1
  obtain ⟨y, f1, e1⟩ := Z1
  dsimp only [Fd.val] at HT1 HO hl1
  have HL1 := hid hl1
  clear hZ1 hl1
  go_wp2_with fail
  go_fit HT1.out
  rintro e w4 ⟨rfl, hb4⟩
  have ha := (Below.refl w4.heap.size w4).alloc (Nat.le_refl _) (.cells #[.int .i64 2, .int .u64 0, .string (bst []), .bool y, .int .i64 0] 78)
  have HR5 := hid ((HR3.out.below hb4 HR3.out.lt).alloc (.cells #[.int .i64 2, .int .u64 0, .string (bst []), .bool y, .int .i64 0] 78))
  have HN5 := hid ((HN3.out.below hb4 HN3.out.lt).alloc (.cells #[.int .i64 2, .int .u64 0, .string (bst []), .bool y, .int .i64 0] 78))
  have HP5 := hid ((HP3.out.below hb4 HP3.out.lt).alloc (.cells #[.int .i64 2, .int .u64 0, .string (bst []), .bool y, .int .i64 0] 78))
  have HB5 := hid (below_step (below_step HB3.out hb4) ha)
  have HF8 := hid (show Blk (w4.alloc (.cells #[.int .i64 2, .int .u64 0, .string (bst []), .bool y, .int .i64 0] 78)) w4.heap.size 78 #[.int .i64 2, .int .u64 0, .string (bst []), .bool y, .int .i64 0] from Blk.new w4 _ _)
  have HGL8 := hid (show g7 < w4.heap.size from (HP3.out.below hb4 HP3.out.lt).lt)
  clear hb4 ha HR3 HN3 HP3 HB3
  go_upto_region 7 with fail
  generalize w4.alloc (.cells #[.int .i64 2, .int .u64 0, .string (bst []), .bool y, .int .i64 0] 78) = w5 at *
  obtain ⟨g8, hg⟩ : ∃ g, w4.heap.size = g := ⟨_, rfl⟩
  rw [hg] at HF8 HGL8 ⊢
  clear hg
  have HT2 := hid (refTake_count 256 (by decide) f1 w5 (by have := HF.out; have := HL1.out; omega))
  unfold TookRef at HT2
  rw [show tk 3 256 f1 = (⟨3, (rcount 256 f1).1, [], false, 0⟩, (rcount 256 f1).2) from rfl] at HT2
  have hl2 := rcount_len 256 f1
  have hv2 : (rcount 256 f1).1 ≤ 256 := rcount_le 256 f1
  obtain ⟨Z2, hZ2⟩ : ∃ Z, Z = rcount 256 f1 := ⟨_, rfl⟩
  rw [← hZ2] at HT2 HO hl2 hv2
  obtain ⟨V, f2, e2⟩ := Z2
  dsimp only [Fd.val] at HT2 HO hl2 hv2
  have HL2 := hid hl2
  clear hZ2 hl2 HT1
  go_wp2_with fail
  go_fit HT2.out
  rintro e w6 ⟨rfl, hb6⟩
  have ha := (Below.refl w6.heap.size w6).alloc (Nat.le_refl _) (.cells #[.int .i64 3, .int .u64 (V : Int), .string (bst []), .bool false, .int .i64 0] 78)
  have HR7 := hid ((HR5.out.below hb6 HR5.out.lt).alloc (.cells #[.int .i64 3, .int .u64 (V : Int), .string (bst []), .bool false, .int .i64 0] 78))
  have HN7 := hid ((HN5.out.below hb6 HN5.out.lt).alloc (.cells #[.int .i64 3, .int .u64 (V : Int), .string (bst []), .bool false, .int .i64 0] 78))
  have HP7 := hid ((HP5.out.below hb6 HP5.out.lt).alloc (.cells #[.int .i64 3, .int .u64 (V : Int), .string (bst []), .bool false, .int .i64 0] 78))
  have HF8 := hid ((HF8.out.below hb6 HF8.out.lt).alloc (.cells #[.int .i64 3, .int .u64 (V : Int), .string (bst []), .bool false, .int .i64 0] 78))
  have HB7 := hid (below_step (below_step HB5.out hb6) ha)
  have HF11 := hid (show Blk (w6.alloc (.cells #[.int .i64 3, .int .u64 (V : Int), .string (bst []), .bool false, .int .i64 0] 78)) w6.heap.size 78 #[.int .i64 3, .int .u64 (V : Int), .string (bst []), .bool false, .int .i64 0] from Blk.new w6 _ _)
  have HGL11 := hid (show g7 < w6.heap.size from (HP5.out.below hb6 HP5.out.lt).lt)
  clear hb6 ha HR5 HN5 HP5 HB5
  go_upto_region 8 with fail
  generalize w6.alloc (.cells #[.int .i64 3, .int .u64 (V : Int), .string (bst []), .bool false, .int .i64 0] 78) = w7 at *
  obtain ⟨g11, hg⟩ : ∃ g, w6.heap.size = g := ⟨_, rfl⟩
  rw [hg] at HF11 HGL11 ⊢
  clear hg
  have HT3 := hid (refTake_count 2048 (by decide) f2 w7 (by have := HF.out; have := HL1.out; have := HL2.out; omega))
  unfold TookRef at HT3
  rw [show tk 3 2048 f2 = (⟨3, (rcount 2048 f2).1, [], false, 0⟩, (rcount 2048 f2).2) from rfl] at HT3
  have hl3 := rcount_len 2048 f2
  have hv3 : (rcount 2048 f2).1 ≤ 2048 := rcount_le 2048 f2
  obtain ⟨Z3, hZ3⟩ : ∃ Z, Z = rcount 2048 f2 := ⟨_, rfl⟩
  rw [← hZ3] at HT3 HO hl3 hv3
  obtain ⟨N, f3, e3⟩ := Z3
  dsimp only [Fd.val] at HT3 HO hl3 hv3
  have HL3 := hid (show f3.length ≤ 60000 by have := HF.out; have := HL1.out; have := HL2.out; omega)
  clear hZ3 hl3 HT2
  go_wp2_with fail
  go_fit HT3.out
  rintro e w8 ⟨rfl, hb8⟩
  have ha := (Below.refl w8.heap.size w8).alloc (Nat.le_refl _) (.cells #[.int .i64 3, .int .u64 (N : Int), .string (bst []), .bool false, .int .i64 0] 78)
  have HR9 := hid ((HR7.out.below hb8 HR7.out.lt).alloc (.cells #[.int .i64 3, .int .u64 (N : Int), .string (bst []), .bool false, .int .i64 0] 78))
  have HN9 := hid ((HN7.out.below hb8 HN7.out.lt).alloc (.cells #[.int .i64 3, .int .u64 (N : Int), .string (bst []), .bool false, .int .i64 0] 78))
  have HP9 := hid ((HP7.out.below hb8 HP7.out.lt).alloc (.cells #[.int .i64 3, .int .u64 (N : Int), .string (bst []), .bool false, .int .i64 0] 78))
  have HF8 := hid ((HF8.out.below hb8 HF8.out.lt).alloc (.cells #[.int .i64 3, .int .u64 (N : Int), .string (bst []), .bool false, .int .i64 0] 78))
  have HF11 := hid ((HF11.out.below hb8 HF11.out.lt).alloc (.cells #[.int .i64 3, .int .u64 (N : Int), .string (bst []), .bool false, .int .i64 0] 78))
  have HB9 := hid (below_step (below_step HB7.out hb8) ha)
  have HF14 := hid (show Blk (w8.alloc (.cells #[.int .i64 3, .int .u64 (N : Int), .string (bst []), .bool false, .int .i64 0] 78)) w8.heap.size 78 #[.int .i64 3, .int .u64 (N : Int), .string (bst []), .bool false, .int .i64 0] from Blk.new w8 _ _)
  have HGL14 := hid (show g7 < w8.heap.size from (HP7.out.below hb8 HP7.out.lt).lt)
  clear hb8 ha HR7 HN7 HP7 HB7
  go_upto_region 9 with fail
  generalize w8.alloc (.cells #[.int .i64 3, .int .u64 (N : Int), .string (bst []), .bool false, .int .i64 0] 78) = w9 at *
  obtain ⟨g14, hg⟩ : ∃ g, w8.heap.size = g := ⟨_, rfl⟩
  rw [hg] at HF14 HGL14 ⊢
  clear hg
  clear HT3
  by_cases k1 : e1 = 0
  case neg =>
    have HNO := hid (show O = none by rw [HO.out, if_pos (.inl k1)])
    have hk2 : ((e1 : Int) != 0) = true := (nat_ne k1).2
    clear k1
    have r0 := HR9.out.cell 0
    have r1 := HR9.out.cell 1
    have r2 := HR9.out.cell 2
    have s0 := HR9.out.free 0
    have s1 := HR9.out.free 1
    have s2 := HR9.out.free 2
    have n0 := HN9.out.cell 0
    have n1 := HN9.out.cell 1
    have n2 := HN9.out.cell 2
    go_wp2_with fail
    refine bodyPost_ret (v := .tuple #[pageV false 0 none 0 0, .int .i64 101]) (by simp [results, Tryd.results19, go_sem, pageV, *]) rfl ?_
    rw [HNO.out]
    exact ⟨rfl, below_set3 HB9.out (Nat.le_refl _) _ _ _⟩
  by_cases k2 : e2 = 0
  case neg =>
    have HNO := hid (show O = none by rw [HO.out, if_pos (.inr (.inl k2))])
    have hk2 : ((e2 : Int) != 0) = true := (nat_ne k2).2
    subst k1
    clear k2
    have r0 := HR9.out.cell 0
    have r1 := HR9.out.cell 1
    have r2 := HR9.out.cell 2
    have s0 := HR9.out.free 0
    have s1 := HR9.out.free 1
    have s2 := HR9.out.free 2
    have n0 := HN9.out.cell 0
    have n1 := HN9.out.cell 1
    have n2 := HN9.out.cell 2
    go_wp2_with fail
    refine bodyPost_ret (v := .tuple #[pageV false 0 none 0 0, .int .i64 101]) (by simp [results, Tryd.results19, go_sem, pageV, *]) rfl ?_
    rw [HNO.out]
    exact ⟨rfl, below_set3 HB9.out (Nat.le_refl _) _ _ _⟩
  by_cases k3 : e3 = 0
  case neg =>
    have HNO := hid (show O = none by rw [HO.out, if_pos (.inr (.inr k3))])
    have hk2 : ((e3 : Int) != 0) = true := (nat_ne k3).2
    subst k1 k2
    clear k3
    have r0 := HR9.out.cell 0
    have r1 := HR9.out.cell 1
    have r2 := HR9.out.cell 2
    have s0 := HR9.out.free 0
    have s1 := HR9.out.free 1
    have s2 := HR9.out.free 2
    have n0 := HN9.out.cell 0
    have n1 := HN9.out.cell 1
    have n2 := HN9.out.cell 2
    go_wp2_with fail
    refine bodyPost_ret (v := .tuple #[pageV false 0 none 0 0, .int .i64 101]) (by simp [results, Tryd.results19, go_sem, pageV, *]) rfl ?_
    rw [HNO.out]
    exact ⟨rfl, below_set3 HB9.out (Nat.le_refl _) _ _ _⟩
  subst k1 k2 k3
  have HO2 := hid (show O = (dcells N f3).bind fun r => if r.2 ≠ [] ∨ pchk (V : Int) r.1 ≠ 0 then none else some (y, V, r.1) by rw [HO.out, if_neg (by simp)])
  clear HO
  have z8 : ∀ W, Only g7 w9 W → W.cell? ⟨g8, 3, none⟩ = some (.bool y) := fun W hW => (HF8.out.grown hW (fun e => by injection e with e; have := HGL8.out; omega)).cell 3
  have z11 : ∀ W, Only g7 w9 W → W.cell? ⟨g11, 1, none⟩ = some (.int .u64 (V : Int)) := fun W hW => (HF11.out.grown hW (fun e => by injection e with e; have := HGL11.out; omega)).cell 1
  have hwv : IntKind.i64.wrap (V : Int) = (V : Int) := IntWalk.i64_in _ ⟨by omega, by omega⟩
  have p0 := HP9.out.cell 0
  have p1 := HP9.out.cell 1
  have f0 := HP9.out.free 0
  have f1' := HP9.out.free 1
  go_upto_region 11 with fail
  refine wp_region_held_drew (S := Only g7 w9) (by kernel_rfl) (Only.refl g7 w9).drew (fun hS => ?_)
  refine take_step (i := 0) (by simp only [List.getElem?_toArray, List.getElem?_cons_zero]; rfl) (by kernel_rfl) (by kernel_rfl) (by kernel_rfl) (by intro _ _ _ h; exact h) (by rfl) (fun W hW => by go_simp; first | done | with_reducible rfl) hS ?_
  try simp only [Act.put, List.setIfInBounds_toArray, List.set_cons_zero, List.set_cons_succ]
  refine take_step (i := 1) (by simp only [List.getElem?_toArray, List.getElem?_cons_succ, List.getElem?_cons_zero]; rfl) (by kernel_rfl) (by kernel_rfl) (by kernel_rfl) (by intro _ _ _ h; exact h) (by rfl) (fun W hW => by go_simp; first | done | with_reducible rfl) hS ?_
  try simp only [Act.put, List.setIfInBounds_toArray, List.set_cons_zero, List.set_cons_succ]
  refine take_step (i := 2) (by simp only [List.getElem?_toArray, List.getElem?_cons_succ, List.getElem?_cons_zero]; rfl) (by kernel_rfl) (by kernel_rfl) (by kernel_rfl) (by intro _ _ _ h; exact h) (by rfl) (fun W hW => by go_simp; first | done | with_reducible rfl) hS ?_
  try simp only [Act.put, List.setIfInBounds_toArray, List.set_cons_zero, List.set_cons_succ]
  refine take_step (i := 3) (by simp only [List.getElem?_toArray, List.getElem?_cons_succ, List.getElem?_cons_zero]; rfl) (by kernel_rfl) (by kernel_rfl) (by kernel_rfl) (by intro _ _ _ h; exact h) (by rfl) (fun W hW => by go_simp; first | done | with_reducible rfl) hS ?_
  try simp only [Act.put, List.setIfInBounds_toArray, List.set_cons_zero, List.set_cons_succ]
  refine take_step (i := 4) (by simp only [List.getElem?_toArray, List.getElem?_cons_succ, List.getElem?_cons_zero]; rfl) (by kernel_rfl) (by kernel_rfl) (by kernel_rfl) (by intro _ _ _ h; exact h) (by rfl) (fun W hW => by go_simp; first | done | with_reducible rfl) hS ?_
  try simp only [Act.put, List.setIfInBounds_toArray, List.set_cons_zero, List.set_cons_succ]
  refine take_step (i := 5) (by simp only [List.getElem?_toArray, List.getElem?_cons_succ, List.getElem?_cons_zero]; rfl) (by kernel_rfl) (by kernel_rfl) (by kernel_rfl) (by intro _ _ _ h; exact h) (by rfl) (fun W hW => by go_simp; first | done | with_reducible rfl) hS ?_
  try simp only [Act.put, List.setIfInBounds_toArray, List.set_cons_zero, List.set_cons_succ]
  refine wpAnyH_ready (rs := [6]) (by kernel_rfl) (by simp) ?_
  refine AllReadyH.cons (by simp only [List.getElem?_toArray, List.getElem?_cons_succ, List.getElem?_cons_zero]; rfl) (fun K hK => ?_) AllReadyH.nil
  go_simp
  refine hK.out _ _ (Only.set hS (.bool y)) (fun hS6 => ?_)
  skip
  clear hK K hS
  have hS := hS6
  try simp only [Act.put]
  refine take_step (i := 7) (by simp only [List.getElem?_toArray, List.getElem?_cons_succ, List.getElem?_cons_zero]; rfl) (by kernel_rfl) (by kernel_rfl) (by kernel_rfl) (by intro _ _ _ h; exact h) (by rfl) (fun W hW => by go_simp; first | done | with_reducible rfl) hS ?_
  try simp only [Act.put, List.setIfInBounds_toArray, List.set_cons_zero, List.set_cons_succ]
  refine wpAnyH_ready (rs := [8]) (by kernel_rfl) (by simp) ?_
  refine AllReadyH.cons (by simp only [List.getElem?_toArray, List.getElem?_cons_succ, List.getElem?_cons_zero]; rfl) (fun K hK => ?_) AllReadyH.nil
  go_simp
  refine hK.out _ _ ((by have hz := Only.set (i := 1) hS (.int .i64 (V : Int)); simpa only [drew_set] using hz)) (fun hS8 => ?_)
  skip
  clear hK K hS
  have hS := hS8
  try simp only [Act.put]
  refine wpAnyH_done (by kernel_rfl) ?_ _
  have HP10 := hid (show PBlk ((w9.setCell ⟨g7, 0, none⟩ (.bool y)).setCell ⟨g7, 1, none⟩ (.int .i64 (V : Int))).drew g7 y (V : Int) none 0 0 from Blk.drew ((HP9.out.set 0 (.bool y)).set 1 (.int .i64 (V : Int))))
  have HR10 := hid (show PBlk ((w9.setCell ⟨g7, 0, none⟩ (.bool y)).setCell ⟨g7, 1, none⟩ (.int .i64 (V : Int))).drew w.heap.size false 0 none 0 0 from Blk.drew ((HR9.out.far (p := ⟨g7, 0, none⟩) (by show w.heap.size ≠ g7; have := HGL.out; omega) (.bool y)).far (p := ⟨g7, 1, none⟩) (by show w.heap.size ≠ g7; have := HGL.out; omega) (.int .i64 (V : Int))))
  have HN10 := hid (show PBlk ((w9.setCell ⟨g7, 0, none⟩ (.bool y)).setCell ⟨g7, 1, none⟩ (.int .i64 (V : Int))).drew (w.heap.size + 1) false 0 none 0 0 from Blk.drew ((HN9.out.far (p := ⟨g7, 0, none⟩) (by show w.heap.size + 1 ≠ g7; have := HGL.out; omega) (.bool y)).far (p := ⟨g7, 1, none⟩) (by show w.heap.size + 1 ≠ g7; have := HGL.out; omega) (.int .i64 (V : Int))))
  have HF10 := hid (show Blk ((w9.setCell ⟨g7, 0, none⟩ (.bool y)).setCell ⟨g7, 1, none⟩ (.int .i64 (V : Int))).drew g14 78 #[.int .i64 3, .int .u64 (N : Int), .string (bst []), .bool false, .int .i64 0] from Blk.drew ((HF14.out.far (p := ⟨g7, 0, none⟩) (by show g14 ≠ g7; have := HGL14.out; omega) (.bool y)).far (p := ⟨g7, 1, none⟩) (by show g14 ≠ g7; have := HGL14.out; omega) (.int .i64 (V : Int))))
  have HB10 := hid (show Below w.heap.size w ((w9.setCell ⟨g7, 0, none⟩ (.bool y)).setCell ⟨g7, 1, none⟩ (.int .i64 (V : Int))).drew from ((HB9.out.setCell (p := ⟨g7, 0, none⟩) (by show w.heap.size ≤ g7; have := HGL.out; omega) (.bool y)).setCell (p := ⟨g7, 1, none⟩) (by show w.heap.size ≤ g7; have := HGL.out; omega) (.int .i64 (V : Int))).drew)
  clear hwv z8 z11 p0 p1 f0 f1' hS6 hS8 HP9 HR9 HN9 HF14 HB9 HF8 HF11 HGL8 HGL11 HL1 HL2
  generalize ((w9.setCell ⟨g7, 0, none⟩ (.bool y)).setCell ⟨g7, 1, none⟩ (.int .i64 (V : Int))).drew = w10 at *
  have HGB := hid (show g14 < w10.heap.size from HF10.out.lt)
  have HS0 := hid (show OfS w w10 g7 g14 y V N none 0 0 none 0 0 [] w10 from ⟨HP10.out, GRow.nil, HR10.out, HN10.out, HF10.out, HB10.out, HGL.out, HGL14.out, HGB.out, Nat.le_refl _⟩)
  clear HP10 HR10 HN10 HF10 HB10 HGB HGL HGL14
  go_wp2_with fail
  go_loopw [15, 17, 18, 19, 20, 21, 22, 23] (fun s i _ _ _ _ _ _ wr => ∃ (k : Nat) (rest : List UInt8) (acc : List Cl) (A' : Option Addr) (m' c' : Nat), k ≤ N ∧ i = .int .u64 (k : Int) ∧ s = .string (bst rest) ∧ Kept (rest.length ≤ 60000) ∧ Kept (acc.length = k) ∧ Kept (OfS w w10 g7 g14 y V N A' m' c' A' m' c' acc wr) ∧ Kept (dcells N f3 = (dcells (N - k) rest).map fun r => (acc ++ r.1, r.2))) (fun _ i _ _ _ _ _ _ _ => N - (intOf i).toNat)
  case atStart => exact ⟨0, f3, [], none, 0, 0, Nat.zero_le _, rfl, rfl, HL3, hid rfl, HS0, hid (by simp)⟩
  case round =>
    obtain ⟨k, rest, acc, A4, m4, c4, hk, rfl, rfl, HRL, HAC, HS, HD⟩ := hrel
    clear HS0
    have c14 := HS.out.cnt.cell 1
    by_cases hlt : k < N
    · have HT4 := hid (refTake_text 0 rest wr (by have := HRL.out; omega))
      unfold TookRef at HT4
      rw [show tk 1 0 rest = (⟨1, 0, (rtext rest).1, false, 0⟩, (rtext rest).2) from rfl] at HT4
      have hl4 := rtext_len rest
      have HDG := hid (HD.out.trans (congrArg (Option.map fun (r : List Cl × List UInt8) => (acc ++ r.1, r.2)) (dcells_go hlt rest)))
      obtain ⟨Z4, hZ4⟩ : ∃ Z, Z = rtext rest := ⟨_, rfl⟩
      rw [← hZ4] at HT4 hl4 HDG
      obtain ⟨T1, l1, e1⟩ := Z4
      dsimp only [Fd.val] at HT4 hl4 HDG
      have HL4 := hid (show l1.length ≤ 60000 by have := HRL.out; omega)
      clear hZ4 hl4 HD
      go_wp2_with fail
      go_fit HT4.out
      rintro e w11 ⟨rfl, hb11⟩
      have ha := (Below.refl w11.heap.size w11).alloc (Nat.le_refl _) (.cells #[.int .i64 1, .int .u64 0, .string (bst T1), .bool false, .int .i64 0] 78)
      have HS12 := hid ((HS.out.step hb11).step ha)
      have HF18 := hid (show Blk (w11.alloc (.cells #[.int .i64 1, .int .u64 0, .string (bst T1), .bool false, .int .i64 0] 78)) w11.heap.size 78 #[.int .i64 1, .int .u64 0, .string (bst T1), .bool false, .int .i64 0] from Blk.new w11 _ _)
      clear hb11 ha HS HT4 c14
      go_upto_region 16 with fail
      generalize w11.alloc (.cells #[.int .i64 1, .int .u64 0, .string (bst T1), .bool false, .int .i64 0] 78) = w12 at *
      obtain ⟨g18, hg⟩ : ∃ g, w11.heap.size = g := ⟨_, rfl⟩
      rw [hg] at HF18 ⊢
      clear hg
      have HT5 := hid (refTake_text 0 l1 w12 (by have := HL4.out; omega))
      unfold TookRef at HT5
      rw [show tk 1 0 l1 = (⟨1, 0, (rtext l1).1, false, 0⟩, (rtext l1).2) from rfl] at HT5
      have hl5 := rtext_len l1
      obtain ⟨Z5, hZ5⟩ : ∃ Z, Z = rtext l1 := ⟨_, rfl⟩
      rw [← hZ5] at HT5 hl5 HDG
      obtain ⟨T2, l2, e2⟩ := Z5
      dsimp only [Fd.val] at HT5 hl5 HDG
      have HL5 := hid (show l2.length ≤ 60000 by have := HL4.out; omega)
      clear hZ5 hl5
      go_wp2_with fail
      go_fit HT5.out
      rintro e w13 ⟨rfl, hb13⟩
      have ha := (Below.refl w13.heap.size w13).alloc (Nat.le_refl _) (.cells #[.int .i64 1, .int .u64 0, .string (bst T2), .bool false, .int .i64 0] 78)
      have HS14 := hid ((HS12.out.step hb13).step ha)
      have HF18 := hid ((HF18.out.below hb13 HF18.out.lt).alloc (.cells #[.int .i64 1, .int .u64 0, .string (bst T2), .bool false, .int .i64 0] 78))
      have HF21 := hid (show Blk (w13.alloc (.cells #[.int .i64 1, .int .u64 0, .string (bst T2), .bool false, .int .i64 0] 78)) w13.heap.size 78 #[.int .i64 1, .int .u64 0, .string (bst T2), .bool false, .int .i64 0] from Blk.new w13 _ _)
      clear hb13 ha HS12 HT5
      go_upto_region 17 with fail
      generalize w13.alloc (.cells #[.int .i64 1, .int .u64 0, .string (bst T2), .bool false, .int .i64 0] 78) = w14 at *
      obtain ⟨g21, hg⟩ : ∃ g, w13.heap.size = g := ⟨_, rfl⟩
      rw [hg] at HF21 ⊢
      clear hg
      by_cases k1 : e1 = 0
      case neg =>
        have HNO := hid (show O = none by rw [HO2.out, HDG.out, if_pos (.inl k1)]; rfl)
        have hk2 : ((e1 : Int) != 0) = true := (nat_ne k1).2
        clear k1
        have r0 := HS14.out.res.cell 0
        have r1 := HS14.out.res.cell 1
        have r2 := HS14.out.res.cell 2
        have s0 := HS14.out.res.free 0
        have s1 := HS14.out.res.free 1
        have s2 := HS14.out.res.free 2
        have n0 := HS14.out.non.cell 0
        have n1 := HS14.out.non.cell 1
        have n2 := HS14.out.non.cell 2
        go_wp2_with fail
        refine bodyPost_ret (v := .tuple #[pageV false 0 none 0 0, .int .i64 101]) (by simp [results, Tryd.results19, go_sem, pageV, *]) rfl ?_
        rw [HNO.out]
        exact ⟨rfl, below_set3 HS14.out.below (Nat.le_refl _) _ _ _⟩
      by_cases k2 : e2 = 0
      case neg =>
        have HNO := hid (show O = none by rw [HO2.out, HDG.out, if_pos (.inr k2)]; rfl)
        have hk2 : ((e2 : Int) != 0) = true := (nat_ne k2).2
        subst k1
        clear k2
        have r0 := HS14.out.res.cell 0
        have r1 := HS14.out.res.cell 1
        have r2 := HS14.out.res.cell 2
        have s0 := HS14.out.res.free 0
        have s1 := HS14.out.res.free 1
        have s2 := HS14.out.res.free 2
        have n0 := HS14.out.non.cell 0
        have n1 := HS14.out.non.cell 1
        have n2 := HS14.out.non.cell 2
        go_wp2_with fail
        refine bodyPost_ret (v := .tuple #[pageV false 0 none 0 0, .int .i64 101]) (by simp [results, Tryd.results19, go_sem, pageV, *]) rfl ?_
        rw [HNO.out]
        exact ⟨rfl, below_set3 HS14.out.below (Nat.le_refl _) _ _ _⟩
      subst k1 k2
      have HDN := hid (show dcells N f3 = (dcells (N - (k + 1)) l2).map fun r => ((acc ++ [⟨T1, T2⟩]) ++ r.1, r.2) by
        rw [HDG.out, if_neg (by simp), Option.map_map]
        congr 1
        funext r
        simp)
      have x18 := HF18.out.cell 2
      have x21 := HF21.out.cell 2
      have p2 := HS14.out.page.cell 2
      have q2 := HS14.out.page.free 2
      have HLA := hid (show acc.length + ([⟨T1, T2⟩] : List Cl).length ≤ 1099511627776 by rw [HAC.out, List.length_singleton]; omega)
      clear HDG
      go_wp2_with (at_builtin; go_must (refine wpList_append_g _ rfl _ _ eCl gi_cell (by decide) rfl w10.heap.size rfl (HS14.out.row.alloc _) rfl rfl (GAt.one _ ⟨T1, T2⟩ 44 (E := eCl) rfl) HLA.out (HS14.out.szA _) ?_))
      intro A6 m6 c6 w15 hr15 _ hb15 _
      have HS15 := hid (HS14.out.app hr15 hb15)
      have HS16 := hid (HS15.out.set)
      clear hr15 hb15 x18 x21 p2 q2 HS14
      have p2 := HS15.out.page.cell 2
      have q2 := HS15.out.page.free 2
      go_wp2_with fail
      go_roundw
      case rel => exact ⟨k + 1, l2, acc ++ [⟨T1, T2⟩], A6, m6, c6, by omega, by go_num, rfl, HL5, hid (by rw [List.length_append, HAC.out]; rfl), HS16, HDN⟩
      case measure => simp [intOf]; omega
    · obtain rfl : k = N := by omega
      have HDE := hid (show dcells k f3 = some (acc, rest) by rw [HD.out, Nat.sub_self]; simp [dcells])
      have HO3 := hid (show O = if rest ≠ [] ∨ pchk (V : Int) acc ≠ 0 then none else some (y, V, acc) by rw [HO2.out, HDE.out]; rfl)
      have HFW := hid (dcells_few _ _ _ HDE.out)
      have HSUM := hid (show csum acc ≤ 4398046511104 by
        have h1 := csum_few HFW.out
        dsimp only at h1
        rw [HAC.out] at h1
        have h2 : k * (65536 + 65536 + 20) ≤ 2048 * (65536 + 65536 + 20) := Nat.mul_le_mul_right _ hv3
        omega)
      have HCS := hid (CS.row HS.out.row (by rw [HAC.out]; omega))
      have HK := hid (refPCheck_any (leaf := y) (next := (V : Int)) HCS.out HSUM.out HFW.out (by omega))
      have hbz := bst_toList rest
      have p0 := HS.out.page.cell 0
      have p1 := HS.out.page.cell 1
      have p2 := HS.out.page.cell 2
      unfold pageV at HK
      clear HD HO2 HSUM HFW
      rcases rest with _ | ⟨x, rest⟩
      · obtain ⟨C, hC⟩ : ∃ C, C = pchk (V : Int) acc := ⟨_, rfl⟩
        rw [← hC] at HK HO3
        clear hC
        by_cases h1 : C = 0
        · subst h1
          have HO4 := hid (show O = some (y, V, acc) by rw [HO3.out]; simp)
          go_wp2_with fail
          go_fit HK.out
          rintro e w12 ⟨rfl, hb12⟩
          have HS12 := hid (HS.out.step hb12)
          clear hb12 p0 p1 p2 c14
          have r0 := HS12.out.res.cell 0
          have r1 := HS12.out.res.cell 1
          have r2 := HS12.out.res.cell 2
          have s0 := HS12.out.res.free 0
          have s1 := HS12.out.res.free 1
          have s2 := HS12.out.res.free 2
          have n0 := HS12.out.non.cell 0
          have n1 := HS12.out.non.cell 1
          have n2 := HS12.out.non.cell 2
          have p0 := HS12.out.page.cell 0
          have p1 := HS12.out.page.cell 1
          have p2 := HS12.out.page.cell 2
          have HCF := hid (CAt.set3 (GRow.at_ HS12.out.row) HS12.out.res y (V : Int) A4 m4 c4)
          go_wp2_with fail
          refine bodyPost_ret (v := .tuple #[pageV y (V : Int) A4 m4 c4, .int .i64 0]) (by simp [results, Tryd.results19, go_sem, pageV, *]) rfl ?_
          rw [HO4.out]
          refine ⟨⟨A4, m4, c4, rfl, ?_⟩, below_set3 HS12.out.below (Nat.le_refl _) _ _ _⟩
          exact ⟨GAt.more HCF.out (by simp only [size_set9]; exact Nat.le_refl _), HCS.out.len, HCS.out.cap, HCS.out.most, Nat.le_refl _⟩
        · have HNO := hid (show O = none by rw [HO3.out, if_pos (.inr h1)])
          have hk2 : ((C : Int) != 0) = true := (nat_ne h1).2
          clear h1
          go_wp2_with fail
          go_fit HK.out
          rintro e w12 ⟨rfl, hb12⟩
          have HS12 := hid (HS.out.step hb12)
          clear hb12 p0 p1 p2 c14
          have r0 := HS12.out.res.cell 0
          have r1 := HS12.out.res.cell 1
          have r2 := HS12.out.res.cell 2
          have s0 := HS12.out.res.free 0
          have s1 := HS12.out.res.free 1
          have s2 := HS12.out.res.free 2
          have n0 := HS12.out.non.cell 0
          have n1 := HS12.out.non.cell 1
          have n2 := HS12.out.non.cell 2
          go_wp2_with fail
          refine bodyPost_ret (v := .tuple #[pageV false 0 none 0 0, .int .i64 101]) (by simp [results, Tryd.results19, go_sem, pageV, *]) rfl ?_
          rw [HNO.out]
          exact ⟨rfl, below_set3 HS12.out.below (Nat.le_refl _) _ _ _⟩
      · have HNO := hid (show O = none by rw [HO3.out, if_pos (.inl (by simp))])
        clear HK
        have r0 := HS.out.res.cell 0
        have r1 := HS.out.res.cell 1
        have r2 := HS.out.res.cell 2
        have s0 := HS.out.res.free 0
        have s1 := HS.out.res.free 1
        have s2 := HS.out.res.free 2
        have n0 := HS.out.non.cell 0
        have n1 := HS.out.non.cell 1
        have n2 := HS.out.non.cell 2
        go_wp2_with fail
        refine bodyPost_ret (v := .tuple #[pageV false 0 none 0 0, .int .i64 101]) (by simp [results, Tryd.results19, go_sem, pageV, *]) rfl ?_
        rw [HNO.out]
        exact ⟨rfl, below_set3 HS.out.below (Nat.le_refl _) _ _ _⟩

theorem refofB_any {b : List UInt8} {w : World} (hl : b.length ≤ 60000) :
    Calls Tryd.prog 19 #[.string (bst b)] w fun e w' => GotR (pofB b sum4) e w' ∧ Below w.heap.size w w' := by
  unfold pofB
  by_cases h4 : b.length < 4
  · rw [if_pos (.inl h4)]
    exact refOf_bad (C := 20) (fun W hW => (refOpen_short b W h4).mono fun e w' ⟨h1, h2⟩ => ⟨h1, by subst h2; exact Below.refl _ _⟩) (by decide)
  · obtain ⟨n, hn⟩ : ∃ n, b.length = n + 4 := ⟨b.length - 4, by omega⟩
    rw [show b.length - 4 = n by omega]
    by_cases hs : b.drop n = sum4 (b.take n)
    · rw [if_neg (by intro h; rcases h with h | h; exact h4 h; exact h hs)]
      exact refOf_good (f := b.take n) (fun W hW => refOpen_good b n W (by omega) (by omega) hs) (by rw [List.length_take]; omega)
    · rw [if_pos (.inr hs)]
      exact refOf_bad (C := 21) (fun W hW => refOpen_wrong b n W (by omega) (by omega) hs) (by decide)

end Go.Proofs.YtikggbopoajcbaaDoor
