/-
  The landed Split.
-/
import Derived.Test.YtikggbopoajcbaaDoorPgPut
import Derived.Test.YtikggbopoajcbaaDoorPgHalf
import Derived.Test.YtikggbopoajcbaaDoorRegion
import Derived.Deep.CutRange
namespace Go.Proofs.YtikggbopoajcbaaDoor
open Go Go.RowKit

/-- what holds while a Split runs: the page's variable is as it was, the results' are there, the halves' hold these cells -/
structure SplS (B : Nat) (w1 : World) (g g5 g6 : Nat) (leaf : Bool) (next : Int) (A : Option Addr) (n c : Nat) (A5 : Option Addr) (n5 c5 : Nat) (A6 : Option Addr) (n6 c6 : Nat) (W : World) : Prop where
  below : Below B w1 W
  page : PBlk W g leaf next A n c
  r1 : ∃ b i a m d, PBlk W (g + 1) b i a m d
  r2 : ∃ b i a m d, PBlk W (g + 1 + 1) b i a m d
  e5 : PBlk W g5 leaf next A5 n5 c5
  e6 : PBlk W g6 leaf next A6 n6 c6
structure Dst (g g5 g6 : Nat) : Prop where
  lo5 : g + 1 + 1 < g5
  lo6 : g + 1 + 1 < g6
  ne : g5 ≠ g6
theorem SplS.step {B : Nat} {w1 W : World} {g g5 g6 : Nat} {leaf : Bool} {next : Int} {A : Option Addr} {n c : Nat} {A5 : Option Addr} {n5 c5 : Nat} {A6 : Option Addr} {n6 c6 : Nat} {W' : World} (h : SplS B w1 g g5 g6 leaf next A n c A5 n5 c5 A6 n6 c6 W) (hb : Below W.heap.size W W') (hB : B ≤ W.heap.size) : SplS B w1 g g5 g6 leaf next A n c A5 n5 c5 A6 n6 c6 W' := by
  obtain ⟨_, _, _, _, _, h1⟩ := h.r1
  obtain ⟨_, _, _, _, _, h2⟩ := h.r2
  exact ⟨h.below.trans (hb.mono hB), h.page.below hb h.page.lt, ⟨_, _, _, _, _, h1.below hb h1.lt⟩, ⟨_, _, _, _, _, h2.below hb h2.lt⟩, h.e5.below hb h.e5.lt, h.e6.below hb h.e6.lt⟩
theorem SplS.set5 {B : Nat} {w1 W : World} {g g5 g6 : Nat} {leaf : Bool} {next : Int} {A : Option Addr} {n c : Nat} {A5 : Option Addr} {n5 c5 : Nat} {A6 : Option Addr} {n6 c6 : Nat} (h : SplS B w1 g g5 g6 leaf next A n c A5 n5 c5 A6 n6 c6 W) (hd : Dst g g5 g6) (hB : B ≤ g) (a : Option Addr) (m d : Nat) : SplS B w1 g g5 g6 leaf next A n c a m d A6 n6 c6 (W.setCell ⟨g5, 2, none⟩ (.slice a m d)) := by
  obtain ⟨_, _, _, _, _, h1⟩ := h.r1
  obtain ⟨_, _, _, _, _, h2⟩ := h.r2
  obtain ⟨q1, q2, q3⟩ := hd
  exact ⟨h.below.setCell (p := ⟨g5, 2, none⟩) (by show B ≤ g5; omega) _, h.page.far (by show g ≠ g5; omega) _, ⟨_, _, _, _, _, h1.far (by show g + 1 ≠ g5; omega) _⟩, ⟨_, _, _, _, _, h2.far (by show g + 1 + 1 ≠ g5; omega) _⟩, h.e5.set 2 _, h.e6.far (by show g6 ≠ g5; omega) _⟩
theorem SplS.set6 {B : Nat} {w1 W : World} {g g5 g6 : Nat} {leaf : Bool} {next : Int} {A : Option Addr} {n c : Nat} {A5 : Option Addr} {n5 c5 : Nat} {A6 : Option Addr} {n6 c6 : Nat} (h : SplS B w1 g g5 g6 leaf next A n c A5 n5 c5 A6 n6 c6 W) (hd : Dst g g5 g6) (hB : B ≤ g) (a : Option Addr) (m d : Nat) : SplS B w1 g g5 g6 leaf next A n c A5 n5 c5 a m d (W.setCell ⟨g6, 2, none⟩ (.slice a m d)) := by
  obtain ⟨_, _, _, _, _, h1⟩ := h.r1
  obtain ⟨_, _, _, _, _, h2⟩ := h.r2
  obtain ⟨q1, q2, q3⟩ := hd
  exact ⟨h.below.setCell (p := ⟨g6, 2, none⟩) (by show B ≤ g6; omega) _, h.page.far (by show g ≠ g6; omega) _, ⟨_, _, _, _, _, h1.far (by show g + 1 ≠ g6; omega) _⟩, ⟨_, _, _, _, _, h2.far (by show g + 1 + 1 ≠ g6; omega) _⟩, h.e5.far (by show g5 ≠ g6; omega) _, h.e6.set 2 _⟩
theorem SplS.setr {B : Nat} {w1 W : World} {g g5 g6 : Nat} {leaf : Bool} {next : Int} {A : Option Addr} {n c : Nat} {A5 : Option Addr} {n5 c5 : Nat} {A6 : Option Addr} {n6 c6 : Nat} (h : SplS B w1 g g5 g6 leaf next A n c A5 n5 c5 A6 n6 c6 W) (hd : Dst g g5 g6) (hB : B ≤ g) (q : Nat) (hq : q = g + 1 ∨ q = g + 1 + 1) (b : Bool) (i : Int) (a : Option Addr) (m d : Nat) : SplS B w1 g g5 g6 leaf next A n c A5 n5 c5 A6 n6 c6 (((W.setCell ⟨q, 0, none⟩ (.bool b)).setCell ⟨q, 1, none⟩ (.int .i64 i)).setCell ⟨q, 2, none⟩ (.slice a m d)) := by
  obtain ⟨_, _, _, _, _, h1⟩ := h.r1
  obtain ⟨_, _, _, _, _, h2⟩ := h.r2
  obtain ⟨q1, q2, q3⟩ := hd
  have far : ∀ {k : Nat} {b' i' : Value} {a' : Value}, Blk W k 24 #[b', i', a'] → k ≠ q → Blk (((W.setCell ⟨q, 0, none⟩ (.bool b)).setCell ⟨q, 1, none⟩ (.int .i64 i)).setCell ⟨q, 2, none⟩ (.slice a m d)) k 24 #[b', i', a'] := fun h hk => ((h.far hk _).far hk _).far hk _
  refine ⟨below_set3 h.below (by omega) _ _ _, far h.page (by omega), ?_, ?_, far h.e5 (by omega), far h.e6 (by omega)⟩
  · rcases hq with rfl | rfl
    · exact ⟨_, _, _, _, _, ((h1.set 0 _).set 1 _).set 2 _⟩
    · exact ⟨_, _, _, _, _, far h1 (by omega)⟩
  · rcases hq with rfl | rfl
    · exact ⟨_, _, _, _, _, far h2 (by omega)⟩
    · exact ⟨_, _, _, _, _, ((h2.set 0 _).set 1 _).set 2 _⟩

theorem CAt.set3 {W : World} {B q : Nat} {A : Option Addr} {l : List Cl} {b : Bool} {i : Int} {a : Option Addr} {m d : Nat} (h : CAt W B A l) (hr : PBlk W q b i a m d) (b' : Bool) (i' : Int) (a' : Option Addr) (m' d' : Nat) : CAt (((W.setCell ⟨q, 0, none⟩ (.bool b')).setCell ⟨q, 1, none⟩ (.int .i64 i')).setCell ⟨q, 2, none⟩ (.slice a' m' d')) B A l :=
  CAt.set (CAt.set (CAt.set h (hr.cell 0) (fun s e => by cases e) _) ((hr.set 0 _).cell 1) (fun s e => by cases e) _) (((hr.set 0 _).set 1 _).cell 2) (fun s e => by cases e) _
theorem size_set (W : World) (p : Addr) (u : Value) : (W.setCell p u).heap.size = W.heap.size := by simp [World.setCell]
theorem size_drew (W : World) : W.drew.heap.size = W.heap.size := rfl
theorem drew_set (W : World) (p : Addr) (u : Value) : W.drew.setCell p u = (W.setCell p u).drew := rfl
def Spl4 (B : Nat) (w1 : World) (g g5 g6 : Nat) (leaf : Bool) (next : Int) (A : Option Addr) (n c : Nat) (W : World) : Prop := ∃ a5 m5 d5 a6 m6 d6, SplS B w1 g g5 g6 leaf next A n c a5 m5 d5 a6 m6 d6 W
section
variable {w1 W W' : World} {g g5 g6 : Nat} {leaf : Bool} {next : Int} {A : Option Addr} {n c : Nat}
theorem spl4_below (h : Spl4 g w1 g g5 g6 leaf next A n c W) : Below g w1 W := by
  obtain ⟨_, _, _, _, _, _, h⟩ := h
  exact h.below
theorem spl4_step (h : Spl4 g w1 g g5 g6 leaf next A n c W) (hb : Below W.heap.size W W') : Spl4 g w1 g g5 g6 leaf next A n c W' := by
  obtain ⟨_, _, _, _, _, _, h⟩ := h
  exact ⟨_, _, _, _, _, _, h.step hb (Nat.le_of_lt h.page.lt)⟩
theorem spl4_set5 (h : Spl4 g w1 g g5 g6 leaf next A n c W) (hd : Dst g g5 g6) (a : Option Addr) (m d : Nat) : Spl4 g w1 g g5 g6 leaf next A n c (W.setCell ⟨g5, 2, none⟩ (.slice a m d)) := by
  obtain ⟨_, _, _, _, _, _, h⟩ := h
  exact ⟨_, _, _, _, _, _, h.set5 hd (Nat.le_refl _) a m d⟩
theorem spl4_set6 (h : Spl4 g w1 g g5 g6 leaf next A n c W) (hd : Dst g g5 g6) (a : Option Addr) (m d : Nat) : Spl4 g w1 g g5 g6 leaf next A n c (W.setCell ⟨g6, 2, none⟩ (.slice a m d)) := by
  obtain ⟨_, _, _, _, _, _, h⟩ := h
  exact ⟨_, _, _, _, _, _, h.set6 hd (Nat.le_refl _) a m d⟩
theorem spl_two (w1 : World) (leaf : Bool) (next : Int) (A : Option Addr) (n c : Nat) : PBlk ((w1.alloc (.cells #[.bool leaf, .int .i64 next, .slice A n c] 24)).alloc (.cells #[.bool leaf, .int .i64 next, .slice A n c] 24)).drew (w1.heap.size + 1) leaf next A n c := by
  have h := Blk.new (w1.alloc (.cells #[.bool leaf, .int .i64 next, .slice A n c] 24)) 24 #[.bool leaf, .int .i64 next, .slice A n c]
  rw [show (w1.alloc (.cells #[.bool leaf, .int .i64 next, .slice A n c] 24)).heap.size = w1.heap.size + 1 by simp] at h
  exact h
theorem splA_new {b1 b2 : Bool} {i1 i2 : Int} {a1 a2 : Option Addr} {m1 m2 d1 d2 : Nat} (hp : PBlk w1 g leaf next A n c) (h1 : PBlk w1 (g + 1) b1 i1 a1 m1 d1) (h2 : PBlk w1 (g + 1 + 1) b2 i2 a2 m2 d2) (hg : g ≤ w1.heap.size) : SplS g w1 g w1.heap.size (w1.heap.size + 1) leaf next A n c A n c A n c ((w1.alloc (.cells #[.bool leaf, .int .i64 next, .slice A n c] 24)).alloc (.cells #[.bool leaf, .int .i64 next, .slice A n c] 24)).drew :=
  ⟨(((Below.refl g w1).alloc hg _).alloc (Nat.le_trans hg (by simp)) _).drew, (hp.alloc _).alloc _, ⟨_, _, _, _, _, (h1.alloc _).alloc _⟩, ⟨_, _, _, _, _, (h2.alloc _).alloc _⟩, (Blk.new w1 _ _).alloc _, spl_two w1 leaf next A n c⟩
theorem splB_new {b1 b2 : Bool} {i1 i2 : Int} {a1 a2 : Option Addr} {m1 m2 d1 d2 : Nat} (hp : PBlk w1 g leaf next A n c) (h1 : PBlk w1 (g + 1) b1 i1 a1 m1 d1) (h2 : PBlk w1 (g + 1 + 1) b2 i2 a2 m2 d2) (hg : g ≤ w1.heap.size) : SplS g w1 g (w1.heap.size + 1) w1.heap.size leaf next A n c A n c A n c ((w1.alloc (.cells #[.bool leaf, .int .i64 next, .slice A n c] 24)).alloc (.cells #[.bool leaf, .int .i64 next, .slice A n c] 24)).drew :=
  ⟨(((Below.refl g w1).alloc hg _).alloc (Nat.le_trans hg (by simp)) _).drew, (hp.alloc _).alloc _, ⟨_, _, _, _, _, (h1.alloc _).alloc _⟩, ⟨_, _, _, _, _, (h2.alloc _).alloc _⟩, spl_two w1 leaf next A n c, (Blk.new w1 _ _).alloc _⟩
end

set_option maxHeartbeats 4000000 in
set_option maxRecDepth 100000 in
theorem split_one {leaf : Bool} {next : Int} {A : Option Addr} {n c : Nat} {w : World} (hn : n < 2) :
    Calls Tryd.prog 27 #[pageV leaf next A n c] w fun e w' => e = .returned (.tuple #[pageV false 0 none 0 0, pageV false 0 none 0 0, .int .i64 103]) ∧ Below w.heap.size w w' := by
  have hb1 : Below w.heap.size w (w.alloc (.cells #[.bool leaf, .int .i64 next, .slice A n c] 24)) := (Below.refl _ _).alloc (Nat.le_refl _) _
  have hb2 := hb1.alloc hb1.size (.cells #[.bool false, .int .i64 0, .slice none 0 0] 24)
  have hb3 := hb2.alloc hb2.size (.cells #[.bool false, .int .i64 0, .slice none 0 0] 24)
  have HB := hid hb3
  have hnz : (n : Int) < 2 := by omega
  clear hb1 hb2 hb3
  unfold pageV
  go_enter Tryd.func27, Tryd.ntmps27
  go_wp2_with fail
  refine bodyPost_ret (v := .tuple #[pageV false 0 none 0 0, pageV false 0 none 0 0, .int .i64 103]) (by simp [results, Tryd.results27, go_sem, pageV, *]) rfl ?_
  exact ⟨rfl, HB.out⟩

set_option maxHeartbeats 4000000 in
set_option maxRecDepth 100000 in
theorem split_any {leaf : Bool} {next : Int} {A : Option Addr} {n c B : Nat} {l : List Cl} {w : World} (h : CS w B A n c l) (h2 : 2 ≤ n) (hs : csum l ≤ 4398046511104) :
    Calls Tryd.prog 27 #[pageV leaf next A n c] w fun e w' => ∃ A1 A2, e = .returned (.tuple #[pageV leaf next A1 (halfC l) (halfC l), pageV leaf next A2 (n - halfC l) (n - halfC l), .int .i64 0]) ∧ CS w' w'.heap.size A1 (halfC l) (halfC l) (l.take (halfC l)) ∧ CS w' w'.heap.size A2 (n - halfC l) (n - halfC l) (l.drop (halfC l)) ∧ Below w.heap.size w w' := by
  have hb1 : Below w.heap.size w (w.alloc (.cells #[.bool leaf, .int .i64 next, .slice A n c] 24)) := (Below.refl _ _).alloc (Nat.le_refl _) _
  have hb2 := hb1.alloc hb1.size (.cells #[.bool false, .int .i64 0, .slice none 0 0] 24)
  have hb3 := hb2.alloc hb2.size (.cells #[.bool false, .int .i64 0, .slice none 0 0] 24)
  have HB := hid hb3
  have e1 : (w.alloc (.cells #[.bool leaf, .int .i64 next, .slice A n c] 24)).heap.size = w.heap.size + 1 := by simp
  have e2 : ((w.alloc (.cells #[.bool leaf, .int .i64 next, .slice A n c] 24)).alloc (.cells #[.bool false, .int .i64 0, .slice none 0 0] 24)).heap.size = w.heap.size + 1 + 1 := by simp
  have k2 := Blk.new (w.alloc (.cells #[.bool leaf, .int .i64 next, .slice A n c] 24)) 24 #[.bool false, .int .i64 0, .slice none 0 0]
  have k3 := Blk.new ((w.alloc (.cells #[.bool leaf, .int .i64 next, .slice A n c] 24)).alloc (.cells #[.bool false, .int .i64 0, .slice none 0 0] 24)) 24 #[.bool false, .int .i64 0, .slice none 0 0]
  rw [e1] at k2
  rw [e2] at k3
  have HP := hid (show PBlk (((w.alloc (.cells #[.bool leaf, .int .i64 next, .slice A n c] 24)).alloc (.cells #[.bool false, .int .i64 0, .slice none 0 0] 24)).alloc (.cells #[.bool false, .int .i64 0, .slice none 0 0] 24)) w.heap.size leaf next A n c ∧ PBlk (((w.alloc (.cells #[.bool leaf, .int .i64 next, .slice A n c] 24)).alloc (.cells #[.bool false, .int .i64 0, .slice none 0 0] 24)).alloc (.cells #[.bool false, .int .i64 0, .slice none 0 0] 24)) (w.heap.size + 1) false 0 none 0 0 ∧ PBlk (((w.alloc (.cells #[.bool leaf, .int .i64 next, .slice A n c] 24)).alloc (.cells #[.bool false, .int .i64 0, .slice none 0 0] 24)).alloc (.cells #[.bool false, .int .i64 0, .slice none 0 0] 24)) (w.heap.size + 1 + 1) false 0 none 0 0 ∧ (((w.alloc (.cells #[.bool leaf, .int .i64 next, .slice A n c] 24)).alloc (.cells #[.bool false, .int .i64 0, .slice none 0 0] 24)).alloc (.cells #[.bool false, .int .i64 0, .slice none 0 0] 24)).heap.size = w.heap.size + 1 + 1 + 1 from ⟨((Blk.new w _ _).alloc _).alloc _, k2.alloc _, k3, by simp⟩)
  have HC := hid (h.step hb3)
  have HS := hid hs
  have hmost := h.most
  have HLN := hid h.len
  have HBW := hid h.low
  have hnz : ¬ (n : Int) < 2 := by omega
  have hh1 : halfC l ≤ n := by
    have := halfG_le (csum l) 0 (l.take (l.length - 1))
    unfold halfC
    rw [List.length_take] at this
    rw [h.len]; omega
  clear h hs hb1 hb2 hb3 e1 e2 k2 k3
  obtain ⟨k, hk⟩ : ∃ k, k = halfC l := ⟨_, rfl⟩
  rw [← hk] at hh1 ⊢
  have HK := hid hk
  clear hk
  unfold pageV
  go_enter Tryd.func27, Tryd.ntmps27
  go_upto_region 3 with fail
  generalize ((w.alloc (.cells #[.bool leaf, .int .i64 next, .slice A n c] 24)).alloc (.cells #[.bool false, .int .i64 0, .slice none 0 0] 24)).alloc (.cells #[.bool false, .int .i64 0, .slice none 0 0] 24) = w1 at *
  obtain ⟨g, hg⟩ : ∃ g, w.heap.size = g := ⟨_, rfl⟩
  rw [hg] at HP ⊢
  have HGE := hid hg
  clear hg
  go_cut [5, 6] from 13 to 14 (fun x5 x6 wx => ∃ g5 g6 : Nat, x5 = .pointer (some ⟨g5, 0, none⟩) ∧ x6 = .pointer (some ⟨g6, 0, none⟩) ∧ Kept (Dst g g5 g6) ∧ Kept (SplS g w1 g g5 g6 leaf next A n c A n c A n c wx))
  case first =>
    obtain ⟨hp, hr1, hr2, hsz⟩ := HP.out
    have z0 : ∀ W, Beyond w1 W → W.cell? ⟨g, 0, none⟩ = some (.bool leaf) := fun W hW => (hp.below hW hp.lt).cell 0
    have z1 : ∀ W, Beyond w1 W → W.cell? ⟨g, 1, none⟩ = some (.int .i64 next) := fun W hW => (hp.below hW hp.lt).cell 1
    have z2 : ∀ W, Beyond w1 W → W.cell? ⟨g, 2, none⟩ = some (.slice A n c) := fun W hW => (hp.below hW hp.lt).cell 2
    have HSZ := hid hsz
    have HP1 := hid hp
    have HR1 := hid hr1
    have HR2 := hid hr2
    clear hsz hp hr1 hr2
    refine wp_region_held_drew (S := Beyond w1) (by kernel_rfl) (Beyond.drew _) (fun hS => ?_)
    refine take_step (i := 0) (by simp only [List.getElem?_toArray, List.getElem?_cons_zero]; rfl) (by kernel_rfl) (by kernel_rfl) (by kernel_rfl) (by intro _ _ _ h; exact h) (by rfl) (fun W hW => by go_simp; first | done | with_reducible rfl) hS ?_
    try simp only [Act.put, List.setIfInBounds_toArray, List.set_cons_zero, List.set_cons_succ]
    refine take_step (i := 1) (by simp only [List.getElem?_toArray, List.getElem?_cons_succ, List.getElem?_cons_zero]; rfl) (by kernel_rfl) (by kernel_rfl) (by kernel_rfl) (by intro _ _ _ h; exact h) (by rfl) (fun W hW => by go_simp; first | done | with_reducible rfl) hS ?_
    try simp only [Act.put, List.setIfInBounds_toArray, List.set_cons_zero, List.set_cons_succ]
    refine wpAnyH_ready (rs := [2, 3]) (by kernel_rfl) (by simp) ?_
    refine AllReadyH.cons (by simp only [List.getElem?_toArray, List.getElem?_cons_succ, List.getElem?_cons_zero]; rfl) (fun K hK => ?_) ?_
    · skip
      go_simp
      refine hK.out _ _ ((by first | exact (Below.alloc (Below.refl w1.heap.size w1) (Nat.le_refl _) _).drew | exact ((Below.alloc (Below.alloc (Below.refl w1.heap.size w1) (Nat.le_refl _) _) (by simp) _).drew))) (fun hS2 => ?_)
      skip
      clear hK K hS
      have hS := hS2
      try simp only [Act.put, List.setIfInBounds_toArray, List.set_cons_zero, List.set_cons_succ]
      refine wpAnyH_ready (rs := [3]) (by kernel_rfl) (by simp) ?_
      refine AllReadyH.cons (by simp only [List.getElem?_toArray, List.getElem?_cons_succ, List.getElem?_cons_zero]; rfl) (fun K hK => ?_) AllReadyH.nil
      go_simp
      refine hK.out _ _ ((by first | exact (Below.alloc (Below.refl w1.heap.size w1) (Nat.le_refl _) _).drew | exact ((Below.alloc (Below.alloc (Below.refl w1.heap.size w1) (Nat.le_refl _) _) (by simp) _).drew))) (fun hS3 => ?_)
      skip
      clear hK K hS
      have hS := hS3
      try simp only [Act.put, List.setIfInBounds_toArray, List.set_cons_zero, List.set_cons_succ]
      refine wpAnyH_ready (rs := [4]) (by kernel_rfl) (by simp) ?_
      refine AllReadyH.cons (by simp only [List.getElem?_toArray, List.getElem?_cons_succ, List.getElem?_cons_zero]; rfl) (fun K hK => ?_) AllReadyH.nil
      go_simp
      refine hK.out _ _ ((by first | exact (Below.alloc (Below.refl w1.heap.size w1) (Nat.le_refl _) _).drew | exact ((Below.alloc (Below.alloc (Below.refl w1.heap.size w1) (Nat.le_refl _) _) (by simp) _).drew))) (fun hS4 => ?_)
      skip
      clear hK K hS
      have hS := hS4
      try simp only [Act.put]
      refine wpAnyH_ready (rs := [5]) (by kernel_rfl) (by simp) ?_
      refine AllReadyH.cons (by simp only [List.getElem?_toArray, List.getElem?_cons_succ, List.getElem?_cons_zero]; rfl) (fun K hK => ?_) AllReadyH.nil
      go_simp
      refine hK.out _ _ ((by first | exact (Below.alloc (Below.refl w1.heap.size w1) (Nat.le_refl _) _).drew | exact ((Below.alloc (Below.alloc (Below.refl w1.heap.size w1) (Nat.le_refl _) _) (by simp) _).drew))) (fun hS5 => ?_)
      skip
      clear hK K hS
      have hS := hS5
      try simp only [Act.put]
      refine wpAnyH_done (by kernel_rfl) ?_ _
      go_wp2_with fail
      go_meet
      case rel => exact ⟨w1.heap.size, (w1.heap.size + 1), rfl, rfl, hid ⟨by have := HSZ.out; omega, by have := HSZ.out; omega, by omega⟩, hid (splA_new HP1.out HR1.out HR2.out (by have := HSZ.out; omega))⟩
    refine AllReadyH.cons (by simp only [List.getElem?_toArray, List.getElem?_cons_succ, List.getElem?_cons_zero]; rfl) (fun K hK => ?_) AllReadyH.nil
    · skip
      go_simp
      refine hK.out _ _ ((by first | exact (Below.alloc (Below.refl w1.heap.size w1) (Nat.le_refl _) _).drew | exact ((Below.alloc (Below.alloc (Below.refl w1.heap.size w1) (Nat.le_refl _) _) (by simp) _).drew))) (fun hS3 => ?_)
      skip
      clear hK K hS
      have hS := hS3
      try simp only [Act.put, List.setIfInBounds_toArray, List.set_cons_zero, List.set_cons_succ]
      refine wpAnyH_ready (rs := [2]) (by kernel_rfl) (by simp) ?_
      refine AllReadyH.cons (by simp only [List.getElem?_toArray, List.getElem?_cons_succ, List.getElem?_cons_zero]; rfl) (fun K hK => ?_) AllReadyH.nil
      go_simp
      refine hK.out _ _ ((by first | exact (Below.alloc (Below.refl w1.heap.size w1) (Nat.le_refl _) _).drew | exact ((Below.alloc (Below.alloc (Below.refl w1.heap.size w1) (Nat.le_refl _) _) (by simp) _).drew))) (fun hS2 => ?_)
      skip
      clear hK K hS
      have hS := hS2
      try simp only [Act.put, List.setIfInBounds_toArray, List.set_cons_zero, List.set_cons_succ]
      refine wpAnyH_ready (rs := [4]) (by kernel_rfl) (by simp) ?_
      refine AllReadyH.cons (by simp only [List.getElem?_toArray, List.getElem?_cons_succ, List.getElem?_cons_zero]; rfl) (fun K hK => ?_) AllReadyH.nil
      go_simp
      refine hK.out _ _ ((by first | exact (Below.alloc (Below.refl w1.heap.size w1) (Nat.le_refl _) _).drew | exact ((Below.alloc (Below.alloc (Below.refl w1.heap.size w1) (Nat.le_refl _) _) (by simp) _).drew))) (fun hS4 => ?_)
      skip
      clear hK K hS
      have hS := hS4
      try simp only [Act.put]
      refine wpAnyH_ready (rs := [5]) (by kernel_rfl) (by simp) ?_
      refine AllReadyH.cons (by simp only [List.getElem?_toArray, List.getElem?_cons_succ, List.getElem?_cons_zero]; rfl) (fun K hK => ?_) AllReadyH.nil
      go_simp
      refine hK.out _ _ ((by first | exact (Below.alloc (Below.refl w1.heap.size w1) (Nat.le_refl _) _).drew | exact ((Below.alloc (Below.alloc (Below.refl w1.heap.size w1) (Nat.le_refl _) _) (by simp) _).drew))) (fun hS5 => ?_)
      skip
      clear hK K hS
      have hS := hS5
      try simp only [Act.put]
      refine wpAnyH_done (by kernel_rfl) ?_ _
      go_wp2_with fail
      go_meet
      case rel => exact ⟨(w1.heap.size + 1), w1.heap.size, rfl, rfl, hid ⟨by have := HSZ.out; omega, by have := HSZ.out; omega, by omega⟩, hid (splB_new HP1.out HR1.out HR2.out (by have := HSZ.out; omega))⟩
  case rest =>
    obtain ⟨g5, g6, rfl, rfl, HD, HQ⟩ := hcut
    have HBG := hid (show B ≤ g by have := HBW.out; have := HGE.out; omega)
    have HHF := hid (fun (W : World) (hW : Below g w1 W) => half_any (HC.out.below hW HBG.out) h2 HS.out)
    rw [← HK.out] at HHF
    have HCF := hid (fun (W : World) (hW : Below g w1 W) => cut_any (HC.out.below hW HBG.out) hh1)
    have HQ0 := hid (show Spl4 g w1 g g5 g6 leaf next A n c wc.drew from ⟨_, _, _, _, _, _, HQ.out.step ((Below.refl _ _).drew) (Nat.le_of_lt HQ.out.page.lt)⟩)
    have z2 : ∀ W, Spl4 g w1 g g5 g6 leaf next A n c W → W.cell? ⟨g, 2, none⟩ = some (.slice A n c) := fun W hW => by
      obtain ⟨_, _, _, _, _, _, h⟩ := hW
      exact h.page.cell 2
    clear HP HQ
    go_wp2_with fail
    refine wp_region_held_drew (S := Spl4 g w1 g g5 g6 leaf next A n c) (by kernel_rfl) HQ0.out (fun hS => ?_)
    refine take_step (i := 0) (by simp only [List.getElem?_toArray, List.getElem?_cons_zero]; rfl) (by kernel_rfl) (by kernel_rfl) (by kernel_rfl) (by intro _ _ _ h; exact h) (by rfl) (fun W hW => by go_simp; first | done | with_reducible rfl) hS ?_
    try simp only [Act.put, List.setIfInBounds_toArray, List.set_cons_zero, List.set_cons_succ]
    refine take_step (i := 1) (by simp only [List.getElem?_toArray, List.getElem?_cons_succ, List.getElem?_cons_zero]; rfl) (by kernel_rfl) (by kernel_rfl) (by kernel_rfl) (by intro _ _ _ h; exact h) (by rfl) (fun W hW => by go_simp; first | done | with_reducible rfl) hS ?_
    try simp only [Act.put, List.setIfInBounds_toArray, List.set_cons_zero, List.set_cons_succ]
    refine take_step (i := 2) (by simp only [List.getElem?_toArray, List.getElem?_cons_succ, List.getElem?_cons_zero]; rfl) (by kernel_rfl) (by kernel_rfl) (by kernel_rfl) (by intro _ _ _ h; exact h) (by rfl) (fun W hW => by go_simp; first | done | with_reducible rfl) hS ?_
    try simp only [Act.put, List.setIfInBounds_toArray, List.set_cons_zero, List.set_cons_succ]
    refine take_step (i := 3) (by simp only [List.getElem?_toArray, List.getElem?_cons_succ, List.getElem?_cons_zero]; rfl) (by kernel_rfl) (by kernel_rfl) (by kernel_rfl) (by intro _ _ _ h; exact h) (by rfl) (fun W hW => by go_simp; first | done | with_reducible rfl) hS ?_
    try simp only [Act.put, List.setIfInBounds_toArray, List.set_cons_zero, List.set_cons_succ]
    refine wpAnyH_ready (rs := [4]) (by kernel_rfl) (by simp) ?_
    refine AllReadyH.cons (by simp only [List.getElem?_toArray, List.getElem?_cons_succ, List.getElem?_cons_zero]; rfl) (fun K hK => ?_) AllReadyH.nil
    go_simp
    go_fit (HHF.out _ (spl4_below hS))
    rintro e w5 ⟨rfl, hb5⟩
    have hS4 := spl4_step hS hb5
    clear hb5
    refine hK.out _ _ (by assumption) (fun _ => ?_)
    clear hK K hS
    have hS := hS4
    try simp only [Act.put, List.setIfInBounds_toArray, List.set_cons_zero, List.set_cons_succ]
    refine wpAnyH_ready (rs := [5]) (by kernel_rfl) (by simp) ?_
    refine AllReadyH.cons (by simp only [List.getElem?_toArray, List.getElem?_cons_succ, List.getElem?_cons_zero]; rfl) (fun K hK => ?_) AllReadyH.nil
    go_simp
    go_fit (HCF.out _ (spl4_below hS))
    rintro e w6 ⟨A1, A2, rfl, h16, h26, hb6⟩
    have hS5 := spl4_step hS hb6
    have H16 := hid h16
    have H26 := hid h26
    have HE6 := hid hS5
    clear h16 h26 hb6
    obtain ⟨_, _, _, _, _, _, he⟩ := HE6.out
    have p5 := he.e5.cell 2
    have f5 := he.e5.free 2
    refine hK.out _ _ (by assumption) (fun _ => ?_)
    clear hK K hS
    have hS := hS5
    refine take_step (i := 6) (by simp only [List.getElem?_toArray, List.getElem?_cons_succ, List.getElem?_cons_zero]; rfl) (by kernel_rfl) (by kernel_rfl) (by kernel_rfl) (by intro _ _ _ h; exact h) (by rfl) (fun W hW => by go_simp; first | done | with_reducible rfl) hS ?_
    try simp only [Act.put, List.setIfInBounds_toArray, List.set_cons_zero, List.set_cons_succ]
    refine take_step (i := 7) (by simp only [List.getElem?_toArray, List.getElem?_cons_succ, List.getElem?_cons_zero]; rfl) (by kernel_rfl) (by kernel_rfl) (by kernel_rfl) (by intro _ _ _ h; exact h) (by rfl) (fun W hW => by go_simp; first | done | with_reducible rfl) hS ?_
    try simp only [Act.put, List.setIfInBounds_toArray, List.set_cons_zero, List.set_cons_succ]
    refine take_step (i := 8) (by simp only [List.getElem?_toArray, List.getElem?_cons_succ, List.getElem?_cons_zero]; rfl) (by kernel_rfl) (by kernel_rfl) (by kernel_rfl) (by intro _ _ _ h; exact h) (by rfl) (fun W hW => by go_simp; first | done | with_reducible rfl) hS ?_
    try simp only [Act.put, List.setIfInBounds_toArray, List.set_cons_zero, List.set_cons_succ]
    refine take_step (i := 9) (by simp only [List.getElem?_toArray, List.getElem?_cons_succ, List.getElem?_cons_zero]; rfl) (by kernel_rfl) (by kernel_rfl) (by kernel_rfl) (by intro _ _ _ h; exact h) (by rfl) (fun W hW => by go_simp; first | done | with_reducible rfl) hS ?_
    try simp only [Act.put, List.setIfInBounds_toArray, List.set_cons_zero, List.set_cons_succ]
    refine wpAnyH_ready (rs := [10]) (by kernel_rfl) (by simp) ?_
    refine AllReadyH.cons (by simp only [List.getElem?_toArray, List.getElem?_cons_succ, List.getElem?_cons_zero]; rfl) (fun K hK => ?_) AllReadyH.nil
    go_simp
    refine hK.out _ _ (spl4_set5 hS HD.out _ _ _) (fun hS10 => ?_)
    obtain ⟨_, _, _, _, _, _, he7⟩ := (hid hS10).out
    have p6 := he7.e6.cell 2
    have f6 := he7.e6.free 2
    clear hK K hS
    have hS := hS10
    try simp only [Act.put]
    refine take_step (i := 11) (by simp only [List.getElem?_toArray, List.getElem?_cons_succ, List.getElem?_cons_zero]; rfl) (by kernel_rfl) (by kernel_rfl) (by kernel_rfl) (by intro _ _ _ h; exact h) (by rfl) (fun W hW => by go_simp; first | done | with_reducible rfl) hS ?_
    try simp only [Act.put, List.setIfInBounds_toArray, List.set_cons_zero, List.set_cons_succ]
    refine wpAnyH_ready (rs := [12]) (by kernel_rfl) (by simp) ?_
    refine AllReadyH.cons (by simp only [List.getElem?_toArray, List.getElem?_cons_succ, List.getElem?_cons_zero]; rfl) (fun K hK => ?_) AllReadyH.nil
    go_simp
    refine hK.out _ _ (spl4_set6 hS HD.out _ _ _) (fun hS12 => ?_)
    skip
    clear hK K hS
    have hS := hS12
    try simp only [Act.put]
    refine wpAnyH_done (by kernel_rfl) ?_ _
    have HQ8 := hid ((he.set5 HD.out (Nat.le_refl _) A1 k k).set6 HD.out (Nat.le_refl _) A2 (n - k) (n - k))
    have HA1 := hid (CAt.set (CAt.set H16.out p5 (fun s e => by cases e) (.slice A1 k k)) p6 (fun s e => by cases e) (.slice A2 (n - k) (n - k)))
    have HA2 := hid (CAt.set (CAt.set H26.out p5 (fun s e => by cases e) (.slice A1 k k)) p6 (fun s e => by cases e) (.slice A2 (n - k) (n - k)))
    have HZ8 := hid (show ((w6.setCell ⟨g5, 2, none⟩ (.slice A1 k k)).setCell ⟨g6, 2, none⟩ (.slice A2 (n - k) (n - k))).heap.size = w6.heap.size by simp [World.setCell])
    clear he he7 hS10 hS12 hS4 hS5 p5 p6 f5 f6 z2 HE6 H16 H26
    generalize (w6.setCell ⟨g5, 2, none⟩ (.slice A1 k k)).setCell ⟨g6, 2, none⟩ (.slice A2 (n - k) (n - k)) = w8 at *
    have HQ9 := hid (show SplS g w1 g g5 g6 leaf next A n c A1 k k A2 (n - k) (n - k) w8.drew from HQ8.out.step ((Below.refl _ _).drew) (Nat.le_of_lt HQ8.out.page.lt))
    obtain ⟨ra, rb, rc, rd, re, hr1⟩ := HQ8.out.r1
    obtain ⟨qa, qb, qc, qd, qe, hr2⟩ := HQ8.out.r2
    clear HQ8 HQ0 HHF HCF
    have y50 : ∀ W, SplS g w1 g g5 g6 leaf next A n c A1 k k A2 (n - k) (n - k) W → W.cell? ⟨g5, 0, none⟩ = some (.bool leaf) := fun W hW => hW.e5.cell 0
    have y51 : ∀ W, SplS g w1 g g5 g6 leaf next A n c A1 k k A2 (n - k) (n - k) W → W.cell? ⟨g5, 1, none⟩ = some (.int .i64 next) := fun W hW => hW.e5.cell 1
    have y52 : ∀ W, SplS g w1 g g5 g6 leaf next A n c A1 k k A2 (n - k) (n - k) W → W.cell? ⟨g5, 2, none⟩ = some (.slice A1 k k) := fun W hW => hW.e5.cell 2
    have y60 : ∀ W, SplS g w1 g g5 g6 leaf next A n c A1 k k A2 (n - k) (n - k) W → W.cell? ⟨g6, 0, none⟩ = some (.bool leaf) := fun W hW => hW.e6.cell 0
    have y61 : ∀ W, SplS g w1 g g5 g6 leaf next A n c A1 k k A2 (n - k) (n - k) W → W.cell? ⟨g6, 1, none⟩ = some (.int .i64 next) := fun W hW => hW.e6.cell 1
    have y62 : ∀ W, SplS g w1 g g5 g6 leaf next A n c A1 k k A2 (n - k) (n - k) W → W.cell? ⟨g6, 2, none⟩ = some (.slice A2 (n - k) (n - k)) := fun W hW => hW.e6.cell 2
    have s10 := hr1.cell 0
    have s11 := hr1.cell 1
    have s12 := hr1.cell 2
    have f10 := hr1.free 0
    have f11 := hr1.free 1
    have f12 := hr1.free 2
    have s20 := hr2.cell 0
    have s21 := hr2.cell 1
    have s22 := hr2.cell 2
    have f20 := hr2.free 0
    have f21 := hr2.free 1
    have f22 := hr2.free 2
    go_wp2_with fail
    refine wp_region_held_drew (S := SplS g w1 g g5 g6 leaf next A n c A1 k k A2 (n - k) (n - k)) (by kernel_rfl) HQ9.out (fun hS => ?_)
    refine take_step (i := 0) (by simp only [List.getElem?_toArray, List.getElem?_cons_zero]; rfl) (by kernel_rfl) (by kernel_rfl) (by kernel_rfl) (by intro _ _ _ h; exact h) (by rfl) (fun W hW => by go_simp; first | done | with_reducible rfl) hS ?_
    try simp only [Act.put, List.setIfInBounds_toArray, List.set_cons_zero, List.set_cons_succ]
    refine take_step (i := 1) (by simp only [List.getElem?_toArray, List.getElem?_cons_succ, List.getElem?_cons_zero]; rfl) (by kernel_rfl) (by kernel_rfl) (by kernel_rfl) (by intro _ _ _ h; exact h) (by rfl) (fun W hW => by go_simp; first | done | with_reducible rfl) hS ?_
    try simp only [Act.put, List.setIfInBounds_toArray, List.set_cons_zero, List.set_cons_succ]
    refine wpAnyH_ready (rs := [2]) (by kernel_rfl) (by simp) ?_
    refine AllReadyH.cons (by simp only [List.getElem?_toArray, List.getElem?_cons_succ, List.getElem?_cons_zero]; rfl) (fun K hK => ?_) AllReadyH.nil
    go_simp
    refine hK.out _ _ ((by have hz := hS.setr HD.out (Nat.le_refl _) (g + 1) (.inl rfl) leaf next A1 k k; simpa only [drew_set] using hz)) (fun hS2 => ?_)
    skip
    clear hK K hS
    have hS := hS2
    try simp only [Act.put]
    refine wpAnyH_ready (rs := [3]) (by kernel_rfl) (by simp) ?_
    refine AllReadyH.cons (by simp only [List.getElem?_toArray, List.getElem?_cons_succ, List.getElem?_cons_zero]; rfl) (fun K hK => ?_) AllReadyH.nil
    go_simp
    refine hK.out _ _ ((by have hz := hS.setr HD.out (Nat.le_refl _) (g + 1 + 1) (.inr rfl) leaf next A2 (n - k) (n - k); simpa only [drew_set] using hz)) (fun hS3 => ?_)
    skip
    clear hK K hS
    have hS := hS3
    try simp only [Act.put]
    refine take_step (i := 4) (by simp only [List.getElem?_toArray, List.getElem?_cons_succ, List.getElem?_cons_zero]; rfl) (by kernel_rfl) (by kernel_rfl) (by kernel_rfl) (by intro _ _ _ h; exact h) (by rfl) (fun W hW => by go_simp; first | done | with_reducible rfl) hS ?_
    try simp only [Act.put, List.setIfInBounds_toArray, List.set_cons_zero, List.set_cons_succ]
    refine wpAnyH_done (by kernel_rfl) ?_ _
    have hq1 := (((((hr1.set 0 (.bool leaf)).set 1 (.int .i64 next)).set 2 (.slice A1 k k)).far (p := ⟨g + 1 + 1, 0, none⟩) (by show g + 1 ≠ g + 1 + 1; omega) (.bool leaf)).far (p := ⟨g + 1 + 1, 1, none⟩) (by show g + 1 ≠ g + 1 + 1; omega) (.int .i64 next)).far (p := ⟨g + 1 + 1, 2, none⟩) (by show g + 1 ≠ g + 1 + 1; omega) (.slice A2 (n - k) (n - k))
    have hq2 := (((((hr2.far (p := ⟨g + 1, 0, none⟩) (by show g + 1 + 1 ≠ g + 1; omega) (.bool leaf)).far (p := ⟨g + 1, 1, none⟩) (by show g + 1 + 1 ≠ g + 1; omega) (.int .i64 next)).far (p := ⟨g + 1, 2, none⟩) (by show g + 1 + 1 ≠ g + 1; omega) (.slice A1 k k)).set 0 (.bool leaf)).set 1 (.int .i64 next)).set 2 (.slice A2 (n - k) (n - k))
    have hr3 := ((hr2.far (p := ⟨g + 1, 0, none⟩) (by show g + 1 + 1 ≠ g + 1; omega) (.bool leaf)).far (p := ⟨g + 1, 1, none⟩) (by show g + 1 + 1 ≠ g + 1; omega) (.int .i64 next)).far (p := ⟨g + 1, 2, none⟩) (by show g + 1 + 1 ≠ g + 1; omega) (.slice A1 k k)
    have hc1 := (HA1.out.set3 hr1 leaf next A1 k k).set3 hr3 leaf next A2 (n - k) (n - k)
    have hc2 := (HA2.out.set3 hr1 leaf next A1 k k).set3 hr3 leaf next A2 (n - k) (n - k)
    have HR1 := hid (show PBlk ((((((w8.setCell ⟨g + 1, 0, none⟩ (.bool leaf)).setCell ⟨g + 1, 1, none⟩ (.int .i64 next)).setCell ⟨g + 1, 2, none⟩ (.slice A1 k k)).setCell ⟨g + 1 + 1, 0, none⟩ (.bool leaf)).setCell ⟨g + 1 + 1, 1, none⟩ (.int .i64 next)).setCell ⟨g + 1 + 1, 2, none⟩ (.slice A2 (n - k) (n - k))).drew (g + 1) leaf next A1 k k from Blk.drew hq1)
    have HR2 := hid (show PBlk ((((((w8.setCell ⟨g + 1, 0, none⟩ (.bool leaf)).setCell ⟨g + 1, 1, none⟩ (.int .i64 next)).setCell ⟨g + 1, 2, none⟩ (.slice A1 k k)).setCell ⟨g + 1 + 1, 0, none⟩ (.bool leaf)).setCell ⟨g + 1 + 1, 1, none⟩ (.int .i64 next)).setCell ⟨g + 1 + 1, 2, none⟩ (.slice A2 (n - k) (n - k))).drew (g + 1 + 1) leaf next A2 (n - k) (n - k) from Blk.drew hq2)
    have HSZ := hid (show ((((((w8.setCell ⟨g + 1, 0, none⟩ (.bool leaf)).setCell ⟨g + 1, 1, none⟩ (.int .i64 next)).setCell ⟨g + 1, 2, none⟩ (.slice A1 k k)).setCell ⟨g + 1 + 1, 0, none⟩ (.bool leaf)).setCell ⟨g + 1 + 1, 1, none⟩ (.int .i64 next)).setCell ⟨g + 1 + 1, 2, none⟩ (.slice A2 (n - k) (n - k))).drew.heap.size = w6.heap.size from by rw [← HZ8.out]; simp only [size_set, size_drew])
    have HC1 := hid (show CAt ((((((w8.setCell ⟨g + 1, 0, none⟩ (.bool leaf)).setCell ⟨g + 1, 1, none⟩ (.int .i64 next)).setCell ⟨g + 1, 2, none⟩ (.slice A1 k k)).setCell ⟨g + 1 + 1, 0, none⟩ (.bool leaf)).setCell ⟨g + 1 + 1, 1, none⟩ (.int .i64 next)).setCell ⟨g + 1 + 1, 2, none⟩ (.slice A2 (n - k) (n - k))).drew ((((((w8.setCell ⟨g + 1, 0, none⟩ (.bool leaf)).setCell ⟨g + 1, 1, none⟩ (.int .i64 next)).setCell ⟨g + 1, 2, none⟩ (.slice A1 k k)).setCell ⟨g + 1 + 1, 0, none⟩ (.bool leaf)).setCell ⟨g + 1 + 1, 1, none⟩ (.int .i64 next)).setCell ⟨g + 1 + 1, 2, none⟩ (.slice A2 (n - k) (n - k))).drew.heap.size A1 (l.take k) by rw [HSZ.out]; exact GAt.below hc1 ((Below.refl _ _).drew))
    have HC2 := hid (show CAt ((((((w8.setCell ⟨g + 1, 0, none⟩ (.bool leaf)).setCell ⟨g + 1, 1, none⟩ (.int .i64 next)).setCell ⟨g + 1, 2, none⟩ (.slice A1 k k)).setCell ⟨g + 1 + 1, 0, none⟩ (.bool leaf)).setCell ⟨g + 1 + 1, 1, none⟩ (.int .i64 next)).setCell ⟨g + 1 + 1, 2, none⟩ (.slice A2 (n - k) (n - k))).drew ((((((w8.setCell ⟨g + 1, 0, none⟩ (.bool leaf)).setCell ⟨g + 1, 1, none⟩ (.int .i64 next)).setCell ⟨g + 1, 2, none⟩ (.slice A1 k k)).setCell ⟨g + 1 + 1, 0, none⟩ (.bool leaf)).setCell ⟨g + 1 + 1, 1, none⟩ (.int .i64 next)).setCell ⟨g + 1 + 1, 2, none⟩ (.slice A2 (n - k) (n - k))).drew.heap.size A2 (l.drop k) by rw [HSZ.out]; exact GAt.below hc2 ((Below.refl _ _).drew))
    have HBF := hid (show Below w.heap.size w ((((((w8.setCell ⟨g + 1, 0, none⟩ (.bool leaf)).setCell ⟨g + 1, 1, none⟩ (.int .i64 next)).setCell ⟨g + 1, 2, none⟩ (.slice A1 k k)).setCell ⟨g + 1 + 1, 0, none⟩ (.bool leaf)).setCell ⟨g + 1 + 1, 1, none⟩ (.int .i64 next)).setCell ⟨g + 1 + 1, 2, none⟩ (.slice A2 (n - k) (n - k))).drew from HB.out.trans (by rw [HGE.out]; exact hS3.below))
    clear hq1 hq2 hr1 hr2 hr3 hc1 hc2 hS2 hS3 HQ9 HA1 HA2 HZ8 y50 y51 y52 y60 y61 y62 s10 s11 s12 f10 f11 f12 s20 s21 s22 f20 f21 f22 HSZ
    generalize ((((((w8.setCell ⟨g + 1, 0, none⟩ (.bool leaf)).setCell ⟨g + 1, 1, none⟩ (.int .i64 next)).setCell ⟨g + 1, 2, none⟩ (.slice A1 k k)).setCell ⟨g + 1 + 1, 0, none⟩ (.bool leaf)).setCell ⟨g + 1 + 1, 1, none⟩ (.int .i64 next)).setCell ⟨g + 1 + 1, 2, none⟩ (.slice A2 (n - k) (n - k))).drew = w9 at *
    have t10 := HR1.out.cell 0
    have t11 := HR1.out.cell 1
    have t12 := HR1.out.cell 2
    have t20 := HR2.out.cell 0
    have t21 := HR2.out.cell 1
    have t22 := HR2.out.cell 2
    go_wp2_with fail
    refine bodyPost_ret (v := .tuple #[pageV leaf next A1 k k, pageV leaf next A2 (n - k) (n - k), .int .i64 0]) (by simp [results, Tryd.results27, go_sem, pageV, *]) rfl ?_
    exact ⟨A1, A2, rfl, ⟨HC1.out, by rw [List.length_take, ← HLN.out]; omega, Nat.le_refl _, by omega, Nat.le_refl _⟩, ⟨HC2.out, by rw [List.length_drop, ← HLN.out], Nat.le_refl _, by omega, Nat.le_refl _⟩, HBF.out⟩

end Go.Proofs.YtikggbopoajcbaaDoor
