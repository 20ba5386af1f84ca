/-
  PageSplits: its walk.
-/
import Derived.Test.YtikggbopoajcbaaDoorPgAwake
import Derived.Test.YtikggbopoajcbaaDoorPgFew
import Derived.Test.YtikggbopoajcbaaDoorLawPOf
import Derived.Test.YtikggbopoajcbaaDoorRefPgF
import Derived.Deep.DeepFit
import Derived.Deep.Cut
import Derived.Deep.CutRange
namespace Go.Proofs.YtikggbopoajcbaaDoor
open Go Go.RowKit

/-- what holds while the copies of the page are cut: nothing that was there has changed, the two copies are there -/
structure LawH (w1 : World) (g7 g8 : Nat) (leaf : Bool) (next : Int) (A7 : Option Addr) (n7 c7 : Nat) (A8 : Option Addr) (n8 c8 : Nat) (W : World) : Prop where
  below : Below w1.heap.size w1 W
  e7 : PBlk W g7 leaf next A7 n7 c7
  e8 : PBlk W g8 leaf next A8 n8 c8
structure Far2 (B g7 g8 : Nat) : Prop where
  lo7 : B ≤ g7
  lo8 : B ≤ g8
  ne : g7 ≠ g8
theorem LawH.step {w1 W W' : World} {g7 g8 : Nat} {leaf : Bool} {next : Int} {A7 A8 : Option Addr} {n7 c7 n8 c8 : Nat} (h : LawH w1 g7 g8 leaf next A7 n7 c7 A8 n8 c8 W) (hb : Below W.heap.size W W') : LawH w1 g7 g8 leaf next A7 n7 c7 A8 n8 c8 W' :=
  ⟨h.below.trans (hb.mono h.below.size), h.e7.below hb h.e7.lt, h.e8.below hb h.e8.lt⟩
theorem LawH.set7 {w1 W : World} {g7 g8 : Nat} {leaf : Bool} {next : Int} {A7 A8 : Option Addr} {n7 c7 n8 c8 : Nat} (h : LawH w1 g7 g8 leaf next A7 n7 c7 A8 n8 c8 W) (hd : Far2 w1.heap.size g7 g8) (a : Option Addr) (m d : Nat) : LawH w1 g7 g8 leaf next a m d A8 n8 c8 (W.setCell ⟨g7, 2, none⟩ (.slice a m d)) := by
  obtain ⟨q1, q2, q3⟩ := hd
  exact ⟨h.below.setCell (p := ⟨g7, 2, none⟩) (by show w1.heap.size ≤ g7; omega) _, h.e7.set 2 _, h.e8.far (by show g8 ≠ g7; omega) _⟩
theorem LawH.set8 {w1 W : World} {g7 g8 : Nat} {leaf : Bool} {next : Int} {A7 A8 : Option Addr} {n7 c7 n8 c8 : Nat} (h : LawH w1 g7 g8 leaf next A7 n7 c7 A8 n8 c8 W) (hd : Far2 w1.heap.size g7 g8) (a : Option Addr) (m d : Nat) : LawH w1 g7 g8 leaf next A7 n7 c7 a m d (W.setCell ⟨g8, 2, none⟩ (.slice a m d)) := by
  obtain ⟨q1, q2, q3⟩ := hd
  exact ⟨h.below.setCell (p := ⟨g8, 2, none⟩) (by show w1.heap.size ≤ g8; omega) _, h.e7.far (by show g7 ≠ g8; omega) _, h.e8.set 2 _⟩
def LawH4 (w1 : World) (g7 g8 : Nat) (leaf : Bool) (next : Int) (W : World) : Prop := ∃ a7 m7 d7 a8 m8 d8, LawH w1 g7 g8 leaf next a7 m7 d7 a8 m8 d8 W
section
variable {w1 W W' : World} {g7 g8 : Nat} {leaf : Bool} {next : Int}
theorem lawH4_below (h : LawH4 w1 g7 g8 leaf next W) : Below w1.heap.size w1 W := by
  obtain ⟨_, _, _, _, _, _, h⟩ := h
  exact h.below
theorem lawH4_set7 (h : LawH4 w1 g7 g8 leaf next W) (hd : Far2 w1.heap.size g7 g8) (a : Option Addr) (m d : Nat) : LawH4 w1 g7 g8 leaf next (W.setCell ⟨g7, 2, none⟩ (.slice a m d)) := by
  obtain ⟨_, _, _, _, _, _, h⟩ := h
  exact ⟨_, _, _, _, _, _, h.set7 hd a m d⟩
theorem lawH4_set8 (h : LawH4 w1 g7 g8 leaf next W) (hd : Far2 w1.heap.size g7 g8) (a : Option Addr) (m d : Nat) : LawH4 w1 g7 g8 leaf next (W.setCell ⟨g8, 2, none⟩ (.slice a m d)) := by
  obtain ⟨_, _, _, _, _, _, h⟩ := h
  exact ⟨_, _, _, _, _, _, h.set8 hd a m d⟩
end
theorem lawH_two (w1 : World) (leaf : Bool) (next : Int) (A : Option Addr) (n c : Nat) : PBlk ((w1.alloc (.cells #[.bool leaf, .int .i64 next, .slice A n c] 24)).alloc (.cells #[.bool leaf, .int .i64 next, .slice A n c] 24)).drew (w1.heap.size + 1) leaf next A n c := by
  have h := Blk.new (w1.alloc (.cells #[.bool leaf, .int .i64 next, .slice A n c] 24)) 24 #[.bool leaf, .int .i64 next, .slice A n c]
  rw [show (w1.alloc (.cells #[.bool leaf, .int .i64 next, .slice A n c] 24)).heap.size = w1.heap.size + 1 by simp] at h
  exact h
theorem lawHA_new (w1 : World) (leaf : Bool) (next : Int) (A : Option Addr) (n c : Nat) : LawH w1 w1.heap.size (w1.heap.size + 1) leaf next A n c A n c ((w1.alloc (.cells #[.bool leaf, .int .i64 next, .slice A n c] 24)).alloc (.cells #[.bool leaf, .int .i64 next, .slice A n c] 24)).drew :=
  ⟨(((Below.refl _ w1).alloc (Nat.le_refl _) _).alloc (by simp) _).drew, (Blk.new w1 _ _).alloc _, lawH_two w1 leaf next A n c⟩
theorem lawHB_new (w1 : World) (leaf : Bool) (next : Int) (A : Option Addr) (n c : Nat) : LawH w1 (w1.heap.size + 1) w1.heap.size leaf next A n c A n c ((w1.alloc (.cells #[.bool leaf, .int .i64 next, .slice A n c] 24)).alloc (.cells #[.bool leaf, .int .i64 next, .slice A n c] 24)).drew :=
  ⟨(((Below.refl _ w1).alloc (Nat.le_refl _) _).alloc (by simp) _).drew, lawH_two w1 leaf next A n c, (Blk.new w1 _ _).alloc _⟩

set_option maxHeartbeats 8000000 in
set_option maxRecDepth 100000 in
theorem psplits_walk (leaf : Bool) (next : Int) (l : List Cl) (A : Option Addr) (c : Nat) (w : World) (ha : CAt w w.heap.size A l) (hc : l.length ≤ c) (hT : Table w) :
    Calls Tryd.prog 7 #[pageV leaf next A l.length c] w fun e w' => e = .returned (.bool true) ∧ Below w.heap.size w w' := by
  obtain ⟨n, hn⟩ : ∃ n, n = l.length := ⟨_, rfl⟩
  rw [← hn] at hc ⊢
  have hb1 : Below w.heap.size w (w.alloc (.cells #[.bool leaf, .int .i64 next, .slice A n c] 24)) := (Below.refl _ _).alloc (Nat.le_refl _) _
  have HB := hid hb1
  have HX := hid (Blk.new w 24 #[.bool leaf, .int .i64 next, .slice A n c])
  have HAW := hid (fun (W : World) (hW : Below w.heap.size w W) => awake_yes W (hT.step hW))
  have HF := hid (few_any (leaf := leaf) (next := next) (c := c) (CAt.step ha (Nat.le_refl _) hb1) hn hb1.size)
  by_cases hf : fewC l = true
  · have HC := hid (CS.few (CAt.step ha (Nat.le_refl _) hb1) hn hc hb1.size hf)
    rw [hf] at HF
    by_cases h2 : n < 2
    · have h2' : (n : Int) < 2 := by omega
      have HN2 := hid h2
      clear hb1 hT ha hc hn hf h2
      unfold pageV at HF ⊢
      go_enter Tryd.func7, Tryd.ntmps7
      go_wp2_with fail
      generalize w.alloc (.cells #[.bool leaf, .int .i64 next, .slice A n c] 24) = w1 at *
      obtain ⟨g, hg⟩ : ∃ g, w.heap.size = g := ⟨_, rfl⟩
      rw [hg] at HX ⊢
      have HGE := hid hg
      clear hg
      have x0 := HX.out.cell 0
      have x1 := HX.out.cell 1
      have x2 := HX.out.cell 2

      go_fit HF.out
      rintro e w2 ⟨rfl, hb2⟩
      have HB2 := hid (below_step HB.out hb2)
      have HX2 := hid (HX.out.below hb2 HX.out.lt)
      have HC2 := hid (HC.out.step hb2)
      clear hb2 HF x0 x1 x2
      have x0 := HX2.out.cell 0
      have x1 := HX2.out.cell 1
      have x2 := HX2.out.cell 2
      have HSP := hid (split_one (leaf := leaf) (next := next) (A := A) (c := c) (w := w2) HN2.out)
      unfold pageV at HSP
      go_wp2_with fail
      go_fit HSP.out
      rintro e w3 ⟨rfl, hb3⟩
      have ha3 := ((Below.refl w3.heap.size w3).alloc (Nat.le_refl _) (.cells #[.bool false, .int .i64 0, .slice none 0 0] 24)).alloc (by simp) (.cells #[.bool false, .int .i64 0, .slice none 0 0] 24)
      have HB4 := hid (below_step (below_step HB2.out hb3) ha3)
      have HX4 := hid (show PBlk ((w3.alloc (.cells #[.bool false, .int .i64 0, .slice none 0 0] 24)).alloc (.cells #[.bool false, .int .i64 0, .slice none 0 0] 24)) g leaf next A n c from (HX2.out.below hb3 HX2.out.lt).below ha3 (Nat.lt_of_lt_of_le HX2.out.lt hb3.size))
      have HY1 := hid (show PBlk ((w3.alloc (.cells #[.bool false, .int .i64 0, .slice none 0 0] 24)).alloc (.cells #[.bool false, .int .i64 0, .slice none 0 0] 24)) w3.heap.size false 0 none 0 0 from (Blk.new w3 _ _).alloc _)
      have HY2 := hid (show PBlk ((w3.alloc (.cells #[.bool false, .int .i64 0, .slice none 0 0] 24)).alloc (.cells #[.bool false, .int .i64 0, .slice none 0 0] 24)) (w3.heap.size + 1) false 0 none 0 0 by
        have := Blk.new (w3.alloc (.cells #[.bool false, .int .i64 0, .slice none 0 0] 24)) 24 #[.bool false, .int .i64 0, .slice none 0 0]
        rwa [show (w3.alloc (.cells #[.bool false, .int .i64 0, .slice none 0 0] 24)).heap.size = w3.heap.size + 1 by simp] at this)
      clear ha3 hb3 HX2 HC2 HSP x0 x1 x2
      go_upto_region 4 with fail
      generalize (w3.alloc (.cells #[.bool false, .int .i64 0, .slice none 0 0] 24)).alloc (.cells #[.bool false, .int .i64 0, .slice none 0 0] 24) = w4 at *
      obtain ⟨g3, hg3⟩ : ∃ g, w3.heap.size = g := ⟨_, rfl⟩
      rw [hg3] at HY1 HY2 ⊢
      clear hg3
      have x2 := HX4.out.cell 2
      go_wp2_with fail
      go_fit (HAW.out _ HB4.out)
      rintro e w5 ⟨rfl, hb5⟩
      have HB5 := hid (below_step HB4.out hb5)
      have HY15 := hid (HY1.out.below hb5 HY1.out.lt)
      have HY25 := hid (HY2.out.below hb5 HY2.out.lt)
      have HSM := hid (fun (W : World) => refSame_any (leaf := false) (leaf2 := false) (next := 0) (next2 := 0) (CS.nil (w := W) (c := 0)) (CS.nil (w := W) (c := 0)))
      rw [sameP_self] at HSM
      unfold pageV at HSM
      clear hb5 HY1 HY2 x2 HX4
      have x0 := HY15.out.cell 0
      have x1 := HY15.out.cell 1
      have x2 := HY15.out.cell 2
      go_wp2_with fail
      go_fit (HSM.out _)
      rintro e w6 ⟨rfl, hb6⟩
      have HB6 := hid (below_step HB5.out hb6)
      have HY26 := hid (HY25.out.below hb6 HY25.out.lt)
      clear hb6 HY15 HY25 x0 x1 x2
      have x0 := HY26.out.cell 0
      have x1 := HY26.out.cell 1
      have x2 := HY26.out.cell 2
      go_wp2_with fail
      go_fit (HSM.out _)
      rintro e w7 ⟨rfl, hb7⟩
      have HB7 := hid (below_step HB6.out hb7)
      clear hb7 HY26 x0 x1 x2
      go_wp2_with fail
      go_ret
      exact ⟨rfl, HB7.out⟩
    · have h2' : ¬ (n : Int) < 2 := by omega
      have HN2 := hid (show 2 ≤ n by omega)
      have HNL := hid (show n ≤ 100 from hn ▸ (few_of hf).len)
      have hsum := (few_of hf).sum
      have HSU := hid (show csum l ≤ 4398046511104 by omega)
      have HEA := hid (show ∀ x ∈ l, x.k.length ≤ 65536 ∧ x.v.length ≤ 65536 from fun x hx => by have := (few_of hf).each x hx; omega)
      have hkn : halfC l ≤ n := by
        have := halfG_le (csum l) 0 (l.take (l.length - 1))
        unfold halfC
        rw [List.length_take] at this
        rw [hn]; omega
      obtain ⟨k, hk⟩ : ∃ k, halfC l = k := ⟨_, rfl⟩
      obtain ⟨m, hm⟩ : ∃ m, n - k = m := ⟨_, rfl⟩
      rw [hk] at hkn
      have HKE := hid hk
      have HME := hid hm
      have HNN := hid hn
      clear hb1 hT ha hc hn hf h2 hk hm hsum
      unfold pageV at HF ⊢
      go_enter Tryd.func7, Tryd.ntmps7
      go_wp2_with fail
      generalize w.alloc (.cells #[.bool leaf, .int .i64 next, .slice A n c] 24) = w1 at *
      obtain ⟨g, hg⟩ : ∃ g, w.heap.size = g := ⟨_, rfl⟩
      rw [hg] at HX ⊢
      have HGE := hid hg
      clear hg
      have x0 := HX.out.cell 0
      have x1 := HX.out.cell 1
      have x2 := HX.out.cell 2

      go_fit HF.out
      rintro e w2 ⟨rfl, hb2⟩
      have HB2 := hid (below_step HB.out hb2)
      have HX2 := hid (HX.out.below hb2 HX.out.lt)
      have HC2 := hid (HC.out.step hb2)
      clear hb2 HF x0 x1 x2
      have x0 := HX2.out.cell 0
      have x1 := HX2.out.cell 1
      have x2 := HX2.out.cell 2
      have HSP := hid (split_any (leaf := leaf) (next := next) HC2.out HN2.out HSU.out)
      rw [HKE.out, HME.out] at HSP
      unfold pageV at HSP
      go_wp2_with fail
      go_fit HSP.out
      rintro e w3 ⟨A1, A2, rfl, k1, k2, hb3⟩
      have ha3 := ((Below.refl w3.heap.size w3).alloc (Nat.le_refl _) (.cells #[.bool leaf, .int .i64 next, .slice A1 k k] 24)).alloc (by simp) (.cells #[.bool leaf, .int .i64 next, .slice A2 m m] 24)
      have HB4 := hid (below_step (below_step HB2.out hb3) ha3)
      have HX4 := hid (show PBlk ((w3.alloc (.cells #[.bool leaf, .int .i64 next, .slice A1 k k] 24)).alloc (.cells #[.bool leaf, .int .i64 next, .slice A2 m m] 24)) g leaf next A n c from (HX2.out.below hb3 HX2.out.lt).below ha3 (Nat.lt_of_lt_of_le HX2.out.lt hb3.size))
      have HC4 := hid (show CS ((w3.alloc (.cells #[.bool leaf, .int .i64 next, .slice A1 k k] 24)).alloc (.cells #[.bool leaf, .int .i64 next, .slice A2 m m] 24)) _ A n c l from (HC2.out.step hb3).step ha3)
      have HD4 := hid (show CS ((w3.alloc (.cells #[.bool leaf, .int .i64 next, .slice A1 k k] 24)).alloc (.cells #[.bool leaf, .int .i64 next, .slice A2 m m] 24)) w3.heap.size A1 k k (l.take k) from CS.step k1 ha3)
      have HE4 := hid (show CS ((w3.alloc (.cells #[.bool leaf, .int .i64 next, .slice A1 k k] 24)).alloc (.cells #[.bool leaf, .int .i64 next, .slice A2 m m] 24)) w3.heap.size A2 m m (l.drop k) from CS.step k2 ha3)
      have HY1 := hid (show PBlk ((w3.alloc (.cells #[.bool leaf, .int .i64 next, .slice A1 k k] 24)).alloc (.cells #[.bool leaf, .int .i64 next, .slice A2 m m] 24)) w3.heap.size leaf next A1 k k from (Blk.new w3 _ _).alloc _)
      have HY2 := hid (show PBlk ((w3.alloc (.cells #[.bool leaf, .int .i64 next, .slice A1 k k] 24)).alloc (.cells #[.bool leaf, .int .i64 next, .slice A2 m m] 24)) (w3.heap.size + 1) leaf next A2 m m by
        have := Blk.new (w3.alloc (.cells #[.bool leaf, .int .i64 next, .slice A1 k k] 24)) 24 #[.bool leaf, .int .i64 next, .slice A2 m m]
        rwa [show (w3.alloc (.cells #[.bool leaf, .int .i64 next, .slice A1 k k] 24)).heap.size = w3.heap.size + 1 by simp] at this)
      clear ha3 hb3 k1 k2 HX2 HC2 HSP x0 x1 x2
      go_upto_region 4 with fail
      generalize (w3.alloc (.cells #[.bool leaf, .int .i64 next, .slice A1 k k] 24)).alloc (.cells #[.bool leaf, .int .i64 next, .slice A2 m m] 24) = w4 at *
      obtain ⟨g3, hg3⟩ : ∃ g, w3.heap.size = g := ⟨_, rfl⟩
      rw [hg3] at HY1 HY2 HD4 HE4 ⊢
      clear hg3
      have x0 := HX4.out.cell 0
      have x1 := HX4.out.cell 1
      have x2 := HX4.out.cell 2
      have HH := hid (refHalf_any (leaf := leaf) (next := next) HC4.out HN2.out HSU.out HEA.out)
      rw [HKE.out] at HH
      unfold pageV at HH
      go_wp2_with fail
      go_fit HH.out
      rintro e w6 ⟨rfl, hb6⟩
      have HB6 := hid (below_step HB4.out hb6)
      have HX6 := hid (HX4.out.below hb6 HX4.out.lt)
      have HY16 := hid (HY1.out.below hb6 HY1.out.lt)
      have HY26 := hid (HY2.out.below hb6 HY2.out.lt)
      have HC6 := hid (HC4.out.step hb6)
      have HD6 := hid (HD4.out.step hb6)
      have HE6 := hid (HE4.out.step hb6)
      clear hb6 HX4 HY1 HY2 HC4 HD4 HE4 HH x0 x1 x2
      go_upto_region 7 with fail
      go_cut [7, 8] from 40 to 41 (fun x7 x8 wx => ∃ g7 g8 : Nat, x7 = .pointer (some ⟨g7, 0, none⟩) ∧ x8 = .pointer (some ⟨g8, 0, none⟩) ∧ Kept (Far2 w6.heap.size g7 g8) ∧ Kept (LawH w6 g7 g8 leaf next A n c A n c wx))
      case first =>
        have z0 : ∀ W, Beyond w6 W → W.cell? ⟨g, 0, none⟩ = some (.bool leaf) := fun W hW => (HX6.out.below hW HX6.out.lt).cell 0
        have z1 : ∀ W, Beyond w6 W → W.cell? ⟨g, 1, none⟩ = some (.int .i64 next) := fun W hW => (HX6.out.below hW HX6.out.lt).cell 1
        have z2 : ∀ W, Beyond w6 W → W.cell? ⟨g, 2, none⟩ = some (.slice A n c) := fun W hW => (HX6.out.below hW HX6.out.lt).cell 2
        refine wp_region_held_drew (S := Beyond w6) (by kernel_rfl) (Beyond.drew _) (fun hS => ?_)
        refine take_step (i := 0) (by simp only [List.getElem?_toArray, List.getElem?_cons_zero]; rfl) (by kernel_rfl) (by kernel_rfl) (by kernel_rfl) (by intro _ _ _ h; exact h) (by rfl) (fun W hW => by go_simp; first | done | with_reducible rfl) hS ?_
        try simp only [Act.put, List.setIfInBounds_toArray, List.set_cons_zero, List.set_cons_succ]
        refine take_step (i := 1) (by simp only [List.getElem?_toArray, List.getElem?_cons_succ, List.getElem?_cons_zero]; rfl) (by kernel_rfl) (by kernel_rfl) (by kernel_rfl) (by intro _ _ _ h; exact h) (by rfl) (fun W hW => by go_simp; first | done | with_reducible rfl) hS ?_
        try simp only [Act.put, List.setIfInBounds_toArray, List.set_cons_zero, List.set_cons_succ]
        refine wpAnyH_ready (rs := [2, 3]) (by kernel_rfl) (by simp) ?_
        refine AllReadyH.cons (by simp only [List.getElem?_toArray, List.getElem?_cons_succ, List.getElem?_cons_zero]; rfl) (fun K hK => ?_) ?_
        · skip
          go_simp
          refine hK.out _ _ ((by first | exact (Below.alloc (Below.refl w6.heap.size w6) (Nat.le_refl _) _).drew | exact ((Below.alloc (Below.alloc (Below.refl w6.heap.size w6) (Nat.le_refl _) _) (by simp) _).drew))) (fun hS2 => ?_)
          skip
          clear hK K hS
          have hS := hS2
          try simp only [Act.put, List.setIfInBounds_toArray, List.set_cons_zero, List.set_cons_succ]
          refine wpAnyH_ready (rs := [3]) (by kernel_rfl) (by simp) ?_
          refine AllReadyH.cons (by simp only [List.getElem?_toArray, List.getElem?_cons_succ, List.getElem?_cons_zero]; rfl) (fun K hK => ?_) AllReadyH.nil
          go_simp
          refine hK.out _ _ ((by first | exact (Below.alloc (Below.refl w6.heap.size w6) (Nat.le_refl _) _).drew | exact ((Below.alloc (Below.alloc (Below.refl w6.heap.size w6) (Nat.le_refl _) _) (by simp) _).drew))) (fun hS3 => ?_)
          skip
          clear hK K hS
          have hS := hS3
          try simp only [Act.put, List.setIfInBounds_toArray, List.set_cons_zero, List.set_cons_succ]
          refine wpAnyH_ready (rs := [4]) (by kernel_rfl) (by simp) ?_
          refine AllReadyH.cons (by simp only [List.getElem?_toArray, List.getElem?_cons_succ, List.getElem?_cons_zero]; rfl) (fun K hK => ?_) AllReadyH.nil
          go_simp
          refine hK.out _ _ ((by first | exact (Below.alloc (Below.refl w6.heap.size w6) (Nat.le_refl _) _).drew | exact ((Below.alloc (Below.alloc (Below.refl w6.heap.size w6) (Nat.le_refl _) _) (by simp) _).drew))) (fun hS4 => ?_)
          skip
          clear hK K hS
          have hS := hS4
          try simp only [Act.put]
          refine wpAnyH_ready (rs := [5]) (by kernel_rfl) (by simp) ?_
          refine AllReadyH.cons (by simp only [List.getElem?_toArray, List.getElem?_cons_succ, List.getElem?_cons_zero]; rfl) (fun K hK => ?_) AllReadyH.nil
          go_simp
          refine hK.out _ _ ((by first | exact (Below.alloc (Below.refl w6.heap.size w6) (Nat.le_refl _) _).drew | exact ((Below.alloc (Below.alloc (Below.refl w6.heap.size w6) (Nat.le_refl _) _) (by simp) _).drew))) (fun hS5 => ?_)
          skip
          clear hK K hS
          have hS := hS5
          try simp only [Act.put]
          refine wpAnyH_done (by kernel_rfl) ?_ _
          go_wp2_with fail
          go_meet
          case rel => exact ⟨w6.heap.size, (w6.heap.size + 1), rfl, rfl, hid ⟨by omega, by omega, by omega⟩, hid (lawHA_new w6 leaf next A n c)⟩
        refine AllReadyH.cons (by simp only [List.getElem?_toArray, List.getElem?_cons_succ, List.getElem?_cons_zero]; rfl) (fun K hK => ?_) AllReadyH.nil
        · skip
          go_simp
          refine hK.out _ _ ((by first | exact (Below.alloc (Below.refl w6.heap.size w6) (Nat.le_refl _) _).drew | exact ((Below.alloc (Below.alloc (Below.refl w6.heap.size w6) (Nat.le_refl _) _) (by simp) _).drew))) (fun hS3 => ?_)
          skip
          clear hK K hS
          have hS := hS3
          try simp only [Act.put, List.setIfInBounds_toArray, List.set_cons_zero, List.set_cons_succ]
          refine wpAnyH_ready (rs := [2]) (by kernel_rfl) (by simp) ?_
          refine AllReadyH.cons (by simp only [List.getElem?_toArray, List.getElem?_cons_succ, List.getElem?_cons_zero]; rfl) (fun K hK => ?_) AllReadyH.nil
          go_simp
          refine hK.out _ _ ((by first | exact (Below.alloc (Below.refl w6.heap.size w6) (Nat.le_refl _) _).drew | exact ((Below.alloc (Below.alloc (Below.refl w6.heap.size w6) (Nat.le_refl _) _) (by simp) _).drew))) (fun hS2 => ?_)
          skip
          clear hK K hS
          have hS := hS2
          try simp only [Act.put, List.setIfInBounds_toArray, List.set_cons_zero, List.set_cons_succ]
          refine wpAnyH_ready (rs := [4]) (by kernel_rfl) (by simp) ?_
          refine AllReadyH.cons (by simp only [List.getElem?_toArray, List.getElem?_cons_succ, List.getElem?_cons_zero]; rfl) (fun K hK => ?_) AllReadyH.nil
          go_simp
          refine hK.out _ _ ((by first | exact (Below.alloc (Below.refl w6.heap.size w6) (Nat.le_refl _) _).drew | exact ((Below.alloc (Below.alloc (Below.refl w6.heap.size w6) (Nat.le_refl _) _) (by simp) _).drew))) (fun hS4 => ?_)
          skip
          clear hK K hS
          have hS := hS4
          try simp only [Act.put]
          refine wpAnyH_ready (rs := [5]) (by kernel_rfl) (by simp) ?_
          refine AllReadyH.cons (by simp only [List.getElem?_toArray, List.getElem?_cons_succ, List.getElem?_cons_zero]; rfl) (fun K hK => ?_) AllReadyH.nil
          go_simp
          refine hK.out _ _ ((by first | exact (Below.alloc (Below.refl w6.heap.size w6) (Nat.le_refl _) _).drew | exact ((Below.alloc (Below.alloc (Below.refl w6.heap.size w6) (Nat.le_refl _) _) (by simp) _).drew))) (fun hS5 => ?_)
          skip
          clear hK K hS
          have hS := hS5
          try simp only [Act.put]
          refine wpAnyH_done (by kernel_rfl) ?_ _
          go_wp2_with fail
          go_meet
          case rel => exact ⟨(w6.heap.size + 1), w6.heap.size, rfl, rfl, hid ⟨by omega, by omega, by omega⟩, hid (lawHB_new w6 leaf next A n c)⟩
      case rest =>
        obtain ⟨g7, g8, rfl, rfl, HD, HQ⟩ := hcut
        obtain ⟨B1, hs1, hb1⟩ := cslice_to (n := k) HC6.out.at_ HC6.out.len HC6.out.cap hkn
        obtain ⟨B2, hs2, hb2⟩ := cslice_from (n := k) HC6.out.at_ HC6.out.len HC6.out.cap hkn
        have HB1' := hid hb1
        have HB2' := hid hb2
        clear hb1 hb2
        have hlen8 : (n - k) = m := HME.out
        have HQ0 := hid (show LawH4 w6 g7 g8 leaf next wc.drew from ⟨_, _, _, _, _, _, HQ.out.step ((Below.refl _ _).drew)⟩)
        have z2 : ∀ W, LawH4 w6 g7 g8 leaf next W → W.cell? ⟨g, 2, none⟩ = some (.slice A n c) := fun W hW => (HX6.out.below (lawH4_below hW) HX6.out.lt).cell 2
        have p7 := HQ.out.e7.cell 2
        have f7 := HQ.out.e7.free 2
        go_upto_region 8 with fail
        refine wp_region_held_drew (S := LawH4 w6 g7 g8 leaf next) (by kernel_rfl) HQ0.out (fun hS => ?_)
        refine take_step (i := 0) (by simp only [List.getElem?_toArray, List.getElem?_cons_zero]; rfl) (by kernel_rfl) (by kernel_rfl) (by kernel_rfl) (by intro _ _ _ h; exact h) (by rfl) (fun W hW => by go_simp; first | done | with_reducible rfl) hS ?_
        try simp only [Act.put, List.setIfInBounds_toArray, List.set_cons_zero, List.set_cons_succ]
        refine take_step (i := 1) (by simp only [List.getElem?_toArray, List.getElem?_cons_succ, List.getElem?_cons_zero]; rfl) (by kernel_rfl) (by kernel_rfl) (by kernel_rfl) (by intro _ _ _ h; exact h) (by rfl) (fun W hW => by go_simp; first | done | with_reducible rfl) hS ?_
        try simp only [Act.put, List.setIfInBounds_toArray, List.set_cons_zero, List.set_cons_succ]
        refine take_step (i := 2) (by simp only [List.getElem?_toArray, List.getElem?_cons_succ, List.getElem?_cons_zero]; rfl) (by kernel_rfl) (by kernel_rfl) (by kernel_rfl) (by intro _ _ _ h; exact h) (by rfl) (fun W hW => by go_simp; first | done | with_reducible rfl) hS ?_
        try simp only [Act.put, List.setIfInBounds_toArray, List.set_cons_zero, List.set_cons_succ]
        refine take_step (i := 3) (by simp only [List.getElem?_toArray, List.getElem?_cons_succ, List.getElem?_cons_zero]; rfl) (by kernel_rfl) (by kernel_rfl) (by kernel_rfl) (by intro _ _ _ h; exact h) (by rfl) (fun W hW => by go_simp; first | done | with_reducible rfl) hS ?_
        try simp only [Act.put, List.setIfInBounds_toArray, List.set_cons_zero, List.set_cons_succ]
        refine take_step (i := 4) (by simp only [List.getElem?_toArray, List.getElem?_cons_succ, List.getElem?_cons_zero]; rfl) (by kernel_rfl) (by kernel_rfl) (by kernel_rfl) (by intro _ _ _ h; exact h) (by rfl) (fun W hW => by go_simp; first | done | with_reducible rfl) hS ?_
        try simp only [Act.put, List.setIfInBounds_toArray, List.set_cons_zero, List.set_cons_succ]
        refine take_step (i := 5) (by simp only [List.getElem?_toArray, List.getElem?_cons_succ, List.getElem?_cons_zero]; rfl) (by kernel_rfl) (by kernel_rfl) (by kernel_rfl) (by intro _ _ _ h; exact h) (by rfl) (fun W hW => by go_simp; first | done | with_reducible rfl) hS ?_
        try simp only [Act.put, List.setIfInBounds_toArray, List.set_cons_zero, List.set_cons_succ]
        refine take_step (i := 6) (by simp only [List.getElem?_toArray, List.getElem?_cons_succ, List.getElem?_cons_zero]; rfl) (by kernel_rfl) (by kernel_rfl) (by kernel_rfl) (by intro _ _ _ h; exact h) (by rfl) (fun W hW => by go_simp; first | done | with_reducible rfl) hS ?_
        try simp only [Act.put, List.setIfInBounds_toArray, List.set_cons_zero, List.set_cons_succ]
        refine take_step (i := 7) (by simp only [List.getElem?_toArray, List.getElem?_cons_succ, List.getElem?_cons_zero]; rfl) (by kernel_rfl) (by kernel_rfl) (by kernel_rfl) (by intro _ _ _ h; exact h) (by rfl) (fun W hW => by go_simp; first | done | with_reducible rfl) hS ?_
        try simp only [Act.put, List.setIfInBounds_toArray, List.set_cons_zero, List.set_cons_succ]
        refine take_step (i := 8) (by simp only [List.getElem?_toArray, List.getElem?_cons_succ, List.getElem?_cons_zero]; rfl) (by kernel_rfl) (by kernel_rfl) (by kernel_rfl) (by intro _ _ _ h; exact h) (by rfl) (fun W hW => by go_simp; first | done | with_reducible rfl) hS ?_
        try simp only [Act.put, List.setIfInBounds_toArray, List.set_cons_zero, List.set_cons_succ]
        refine wpAnyH_ready (rs := [9]) (by kernel_rfl) (by simp) ?_
        refine AllReadyH.cons (by simp only [List.getElem?_toArray, List.getElem?_cons_succ, List.getElem?_cons_zero]; rfl) (fun K hK => ?_) AllReadyH.nil
        go_simp
        refine hK.out _ _ (lawH4_set7 hS HD.out _ _ _) (fun hS9 => ?_)
        obtain ⟨_, _, _, _, _, _, he8⟩ := (hid hS9).out
        have p8 := he8.e8.cell 2
        have f8 := he8.e8.free 2
        clear hK K hS
        have hS := hS9
        try simp only [Act.put]
        refine take_step (i := 10) (by simp only [List.getElem?_toArray, List.getElem?_cons_succ, List.getElem?_cons_zero]; rfl) (by kernel_rfl) (by kernel_rfl) (by kernel_rfl) (by intro _ _ _ h; exact h) (by rfl) (fun W hW => by go_simp; first | done | with_reducible rfl) hS ?_
        try simp only [Act.put, List.setIfInBounds_toArray, List.set_cons_zero, List.set_cons_succ]
        refine wpAnyH_ready (rs := [11]) (by kernel_rfl) (by simp) ?_
        refine AllReadyH.cons (by simp only [List.getElem?_toArray, List.getElem?_cons_succ, List.getElem?_cons_zero]; rfl) (fun K hK => ?_) AllReadyH.nil
        go_simp
        refine hK.out _ _ (lawH4_set8 hS HD.out _ _ _) (fun hS11 => ?_)
        skip
        clear hK K hS
        have hS := hS11
        try simp only [Act.put]
        refine wpAnyH_done (by kernel_rfl) ?_ _
        have HQ8 := hid (show LawH w6 g7 g8 leaf next B1 k c B2 m (c - k) (((wc.setCell ⟨g7, 2, none⟩ (.slice B1 k c)).setCell ⟨g8, 2, none⟩ (.slice B2 m (c - k))).drew) from ((HQ.out.set7 HD.out B1 k c).set8 HD.out B2 m (c - k)).step ((Below.refl _ _).drew))
        clear p7 f7 p8 f8 z2 he8 hS hS9 hS11 HQ0 HQ hs1 hs2
        generalize ((wc.setCell ⟨g7, 2, none⟩ (.slice B1 k c)).setCell ⟨g8, 2, none⟩ (.slice B2 m (c - k))).drew = w8 at *
        have HB8 := hid (below_step HB6.out HQ8.out.below)
        have HX8 := hid (HX6.out.below HQ8.out.below HX6.out.lt)
        have HY18 := hid (HY16.out.below HQ8.out.below HY16.out.lt)
        have HY28 := hid (HY26.out.below HQ8.out.below HY26.out.lt)
        have HZ7 := hid HQ8.out.e7
        have HZ8 := hid HQ8.out.e8
        have HC8 := hid (HC6.out.step HQ8.out.below)
        have HD8 := hid (HD6.out.step HQ8.out.below)
        have HE8 := hid (HE6.out.step HQ8.out.below)
        have hcap := HC6.out.cap
        have hnl := HNL.out
        have hnn := HNN.out
        have hme := HME.out
        have HF8 := hid (show CS w8 _ B1 k c (l.take k) from ⟨CAt.step HB1'.out HC6.out.low HQ8.out.below, by rw [List.length_take]; omega, by omega, by omega, Nat.le_trans HC6.out.low HQ8.out.below.size⟩)
        have HG8 := hid (show CS w8 _ B2 m (c - k) (l.drop k) from ⟨CAt.step HB2'.out HC6.out.low HQ8.out.below, by rw [List.length_drop]; omega, by omega, by omega, Nat.le_trans HC6.out.low HQ8.out.below.size⟩)
        have HKM := hid (show k + m ≤ 549755813888 by omega)
        clear HX6 HY16 HY26 HC6 HD6 HE6 HB1' HB2' HQ8 hcap hnl hnn hme hlen8
        have HA8 := hid (fun (W : World) (hW : Beyond w8 W) => HAW.out W (below_step HB8.out hW))
        have HS1 := hid (fun (W : World) (hW : Beyond w8 W) => refSame_any (leaf := leaf) (leaf2 := leaf) (next := next) (next2 := next) (HD8.out.step hW) (HF8.out.step hW))
        have HS2 := hid (fun (W : World) (hW : Beyond w8 W) => refSame_any (leaf := leaf) (leaf2 := leaf) (next := next) (next2 := next) (HE8.out.step hW) (HG8.out.step hW))
        have HJN := hid (fun (W : World) (hW : Beyond w8 W) => join_any (leaf := leaf) (leaf2 := leaf) (next := next) (next2 := next) (HD8.out.step hW) (HE8.out.step hW) HKM.out)
        rw [List.take_append_drop] at HJN
        have HSJ := hid (fun (W : World) (A' : Option Addr) (m' c' : Nat) (hW : Beyond w8 W) (h : CS W W.heap.size A' m' c' l) => refSame_any (leaf := leaf) (leaf2 := leaf) (next := next) (next2 := next) h (HC8.out.step hW))
        rw [sameP_self] at HS1 HS2 HSJ
        unfold pageV at HS1 HS2 HJN HSJ
        have z0 : ∀ W, Beyond w8 W → W.cell? ⟨g, 0, none⟩ = some (.bool leaf) := fun W hW => (HX8.out.below hW HX8.out.lt).cell 0
        have z1 : ∀ W, Beyond w8 W → W.cell? ⟨g, 1, none⟩ = some (.int .i64 next) := fun W hW => (HX8.out.below hW HX8.out.lt).cell 1
        have z2 : ∀ W, Beyond w8 W → W.cell? ⟨g, 2, none⟩ = some (.slice A n c) := fun W hW => (HX8.out.below hW HX8.out.lt).cell 2
        have z10 : ∀ W, Beyond w8 W → W.cell? ⟨g3, 0, none⟩ = some (.bool leaf) := fun W hW => (HY18.out.below hW HY18.out.lt).cell 0
        have z11 : ∀ W, Beyond w8 W → W.cell? ⟨g3, 1, none⟩ = some (.int .i64 next) := fun W hW => (HY18.out.below hW HY18.out.lt).cell 1
        have z12 : ∀ W, Beyond w8 W → W.cell? ⟨g3, 2, none⟩ = some (.slice A1 k k) := fun W hW => (HY18.out.below hW HY18.out.lt).cell 2
        have z20 : ∀ W, Beyond w8 W → W.cell? ⟨g3 + 1, 0, none⟩ = some (.bool leaf) := fun W hW => (HY28.out.below hW HY28.out.lt).cell 0
        have z21 : ∀ W, Beyond w8 W → W.cell? ⟨g3 + 1, 1, none⟩ = some (.int .i64 next) := fun W hW => (HY28.out.below hW HY28.out.lt).cell 1
        have z22 : ∀ W, Beyond w8 W → W.cell? ⟨g3 + 1, 2, none⟩ = some (.slice A2 m m) := fun W hW => (HY28.out.below hW HY28.out.lt).cell 2
        have z70 : ∀ W, Beyond w8 W → W.cell? ⟨g7, 0, none⟩ = some (.bool leaf) := fun W hW => (HZ7.out.below hW HZ7.out.lt).cell 0
        have z71 : ∀ W, Beyond w8 W → W.cell? ⟨g7, 1, none⟩ = some (.int .i64 next) := fun W hW => (HZ7.out.below hW HZ7.out.lt).cell 1
        have z72 : ∀ W, Beyond w8 W → W.cell? ⟨g7, 2, none⟩ = some (.slice B1 k c) := fun W hW => (HZ7.out.below hW HZ7.out.lt).cell 2
        have z80 : ∀ W, Beyond w8 W → W.cell? ⟨g8, 0, none⟩ = some (.bool leaf) := fun W hW => (HZ8.out.below hW HZ8.out.lt).cell 0
        have z81 : ∀ W, Beyond w8 W → W.cell? ⟨g8, 1, none⟩ = some (.int .i64 next) := fun W hW => (HZ8.out.below hW HZ8.out.lt).cell 1
        have z82 : ∀ W, Beyond w8 W → W.cell? ⟨g8, 2, none⟩ = some (.slice B2 m (c - k)) := fun W hW => (HZ8.out.below hW HZ8.out.lt).cell 2
        skip
        go_upto_region 9 with fail
        refine wp_region_held_drew (S := Beyond w8) (by kernel_rfl) (Beyond.drew _) (fun hS => ?_)
        refine wpAnyH_ready (rs := [0]) (by kernel_rfl) (by simp) ?_
        refine AllReadyH.cons (by simp only [List.getElem?_toArray, List.getElem?_cons_zero]; rfl) (fun K hK => ?_) AllReadyH.nil
        go_simp
        go_fit (HA8.out _ hS)
        rintro e wa ⟨rfl, hba⟩
        have hS0 := Beyond.step hS hba
        clear hba
        refine hK.out _ _ (by assumption) (fun _ => ?_)
        clear hK K hS
        have hS := hS0
        try simp only [Act.put, List.setIfInBounds_toArray, List.set_cons_zero, List.set_cons_succ]
        refine take_step (i := 1) (by simp only [List.getElem?_toArray, List.getElem?_cons_succ, List.getElem?_cons_zero]; rfl) (by kernel_rfl) (by kernel_rfl) (by kernel_rfl) (by intro _ _ _ h; exact h) (by rfl) (fun W hW => by go_simp; first | done | with_reducible rfl) hS ?_
        try simp only [Act.put, List.setIfInBounds_toArray, List.set_cons_zero, List.set_cons_succ]
        first | (refine take_step (i := 2) (by simp only [List.getElem?_toArray, List.getElem?_cons_succ, List.getElem?_cons_zero]; rfl) (by kernel_rfl) (by kernel_rfl) (by kernel_rfl) (by intro _ _ _ h; exact h) (by rfl) (fun W hW => by go_simp; first | done | with_reducible rfl) hS ?_) | (refine skip_step (i := 2) (by simp only [List.getElem?_toArray, List.getElem?_cons_succ, List.getElem?_cons_zero]; rfl) (by kernel_rfl) (by kernel_rfl) (by kernel_rfl) (by intro _ _ _ h; exact h) (by rfl) hS ?_)
        try simp only [Act.put, List.setIfInBounds_toArray, List.set_cons_zero, List.set_cons_succ]
        first | (refine take_step (i := 3) (by simp only [List.getElem?_toArray, List.getElem?_cons_succ, List.getElem?_cons_zero]; rfl) (by kernel_rfl) (by kernel_rfl) (by kernel_rfl) (by intro _ _ _ h; exact h) (by rfl) (fun W hW => by go_simp; first | done | with_reducible rfl) hS ?_) | (refine skip_step (i := 3) (by simp only [List.getElem?_toArray, List.getElem?_cons_succ, List.getElem?_cons_zero]; rfl) (by kernel_rfl) (by kernel_rfl) (by kernel_rfl) (by intro _ _ _ h; exact h) (by rfl) hS ?_)
        try simp only [Act.put, List.setIfInBounds_toArray, List.set_cons_zero, List.set_cons_succ]
        refine take_step (i := 4) (by simp only [List.getElem?_toArray, List.getElem?_cons_succ, List.getElem?_cons_zero]; rfl) (by kernel_rfl) (by kernel_rfl) (by kernel_rfl) (by intro _ _ _ h; exact h) (by rfl) (fun W hW => by go_simp; first | done | with_reducible rfl) hS ?_
        try simp only [Act.put, List.setIfInBounds_toArray, List.set_cons_zero, List.set_cons_succ]
        refine take_step (i := 5) (by simp only [List.getElem?_toArray, List.getElem?_cons_succ, List.getElem?_cons_zero]; rfl) (by kernel_rfl) (by kernel_rfl) (by kernel_rfl) (by intro _ _ _ h; exact h) (by rfl) (fun W hW => by go_simp; first | done | with_reducible rfl) hS ?_
        try simp only [Act.put, List.setIfInBounds_toArray, List.set_cons_zero, List.set_cons_succ]
        first | (refine take_step (i := 6) (by simp only [List.getElem?_toArray, List.getElem?_cons_succ, List.getElem?_cons_zero]; rfl) (by kernel_rfl) (by kernel_rfl) (by kernel_rfl) (by intro _ _ _ h; exact h) (by rfl) (fun W hW => by go_simp; first | done | with_reducible rfl) hS ?_) | (refine skip_step (i := 6) (by simp only [List.getElem?_toArray, List.getElem?_cons_succ, List.getElem?_cons_zero]; rfl) (by kernel_rfl) (by kernel_rfl) (by kernel_rfl) (by intro _ _ _ h; exact h) (by rfl) hS ?_)
        try simp only [Act.put, List.setIfInBounds_toArray, List.set_cons_zero, List.set_cons_succ]
        first | (refine take_step (i := 7) (by simp only [List.getElem?_toArray, List.getElem?_cons_succ, List.getElem?_cons_zero]; rfl) (by kernel_rfl) (by kernel_rfl) (by kernel_rfl) (by intro _ _ _ h; exact h) (by rfl) (fun W hW => by go_simp; first | done | with_reducible rfl) hS ?_) | (refine skip_step (i := 7) (by simp only [List.getElem?_toArray, List.getElem?_cons_succ, List.getElem?_cons_zero]; rfl) (by kernel_rfl) (by kernel_rfl) (by kernel_rfl) (by intro _ _ _ h; exact h) (by rfl) hS ?_)
        try simp only [Act.put, List.setIfInBounds_toArray, List.set_cons_zero, List.set_cons_succ]
        refine wpAnyH_ready (rs := [8]) (by kernel_rfl) (by simp) ?_
        refine AllReadyH.cons (by simp only [List.getElem?_toArray, List.getElem?_cons_succ, List.getElem?_cons_zero]; rfl) (fun K hK => ?_) AllReadyH.nil
        go_simp
        go_fit (HS1.out _ hS)
        rintro e wb ⟨rfl, hbb⟩
        have hS8 := Beyond.step hS hbb
        clear hbb
        refine hK.out _ _ (by assumption) (fun _ => ?_)
        clear hK K hS
        have hS := hS8
        try simp only [Act.put, List.setIfInBounds_toArray, List.set_cons_zero, List.set_cons_succ]
        refine take_step (i := 9) (by simp only [List.getElem?_toArray, List.getElem?_cons_succ, List.getElem?_cons_zero]; rfl) (by kernel_rfl) (by kernel_rfl) (by kernel_rfl) (by intro _ _ _ h; exact h) (by rfl) (fun W hW => by go_simp; first | done | with_reducible rfl) hS ?_
        try simp only [Act.put, List.setIfInBounds_toArray, List.set_cons_zero, List.set_cons_succ]
        refine take_step (i := 10) (by simp only [List.getElem?_toArray, List.getElem?_cons_succ, List.getElem?_cons_zero]; rfl) (by kernel_rfl) (by kernel_rfl) (by kernel_rfl) (by intro _ _ _ h; exact h) (by rfl) (fun W hW => by go_simp; first | done | with_reducible rfl) hS ?_
        try simp only [Act.put, List.setIfInBounds_toArray, List.set_cons_zero, List.set_cons_succ]
        first | (refine take_step (i := 11) (by simp only [List.getElem?_toArray, List.getElem?_cons_succ, List.getElem?_cons_zero]; rfl) (by kernel_rfl) (by kernel_rfl) (by kernel_rfl) (by intro _ _ _ h; exact h) (by rfl) (fun W hW => by go_simp; first | done | with_reducible rfl) hS ?_) | (refine skip_step (i := 11) (by simp only [List.getElem?_toArray, List.getElem?_cons_succ, List.getElem?_cons_zero]; rfl) (by kernel_rfl) (by kernel_rfl) (by kernel_rfl) (by intro _ _ _ h; exact h) (by rfl) hS ?_)
        try simp only [Act.put, List.setIfInBounds_toArray, List.set_cons_zero, List.set_cons_succ]
        first | (refine take_step (i := 12) (by simp only [List.getElem?_toArray, List.getElem?_cons_succ, List.getElem?_cons_zero]; rfl) (by kernel_rfl) (by kernel_rfl) (by kernel_rfl) (by intro _ _ _ h; exact h) (by rfl) (fun W hW => by go_simp; first | done | with_reducible rfl) hS ?_) | (refine skip_step (i := 12) (by simp only [List.getElem?_toArray, List.getElem?_cons_succ, List.getElem?_cons_zero]; rfl) (by kernel_rfl) (by kernel_rfl) (by kernel_rfl) (by intro _ _ _ h; exact h) (by rfl) hS ?_)
        try simp only [Act.put, List.setIfInBounds_toArray, List.set_cons_zero, List.set_cons_succ]
        refine wpAnyH_ready (rs := [13]) (by kernel_rfl) (by simp) ?_
        refine AllReadyH.cons (by simp only [List.getElem?_toArray, List.getElem?_cons_succ, List.getElem?_cons_zero]; rfl) (fun K hK => ?_) AllReadyH.nil
        go_simp
        go_fit (HS2.out _ hS)
        rintro e wc ⟨rfl, hbc⟩
        have hS13 := Beyond.step hS hbc
        clear hbc
        refine hK.out _ _ (by assumption) (fun _ => ?_)
        clear hK K hS
        have hS := hS13
        try simp only [Act.put, List.setIfInBounds_toArray, List.set_cons_zero, List.set_cons_succ]
        refine take_step (i := 14) (by simp only [List.getElem?_toArray, List.getElem?_cons_succ, List.getElem?_cons_zero]; rfl) (by kernel_rfl) (by kernel_rfl) (by kernel_rfl) (by intro _ _ _ h; exact h) (by rfl) (fun W hW => by go_simp; first | done | with_reducible rfl) hS ?_
        try simp only [Act.put, List.setIfInBounds_toArray, List.set_cons_zero, List.set_cons_succ]
        refine take_step (i := 15) (by simp only [List.getElem?_toArray, List.getElem?_cons_succ, List.getElem?_cons_zero]; rfl) (by kernel_rfl) (by kernel_rfl) (by kernel_rfl) (by intro _ _ _ h; exact h) (by rfl) (fun W hW => by go_simp; first | done | with_reducible rfl) hS ?_
        try simp only [Act.put, List.setIfInBounds_toArray, List.set_cons_zero, List.set_cons_succ]
        first | (refine take_step (i := 16) (by simp only [List.getElem?_toArray, List.getElem?_cons_succ, List.getElem?_cons_zero]; rfl) (by kernel_rfl) (by kernel_rfl) (by kernel_rfl) (by intro _ _ _ h; exact h) (by rfl) (fun W hW => by go_simp; first | done | with_reducible rfl) hS ?_) | (refine skip_step (i := 16) (by simp only [List.getElem?_toArray, List.getElem?_cons_succ, List.getElem?_cons_zero]; rfl) (by kernel_rfl) (by kernel_rfl) (by kernel_rfl) (by intro _ _ _ h; exact h) (by rfl) hS ?_)
        try simp only [Act.put, List.setIfInBounds_toArray, List.set_cons_zero, List.set_cons_succ]
        first | (refine take_step (i := 17) (by simp only [List.getElem?_toArray, List.getElem?_cons_succ, List.getElem?_cons_zero]; rfl) (by kernel_rfl) (by kernel_rfl) (by kernel_rfl) (by intro _ _ _ h; exact h) (by rfl) (fun W hW => by go_simp; first | done | with_reducible rfl) hS ?_) | (refine skip_step (i := 17) (by simp only [List.getElem?_toArray, List.getElem?_cons_succ, List.getElem?_cons_zero]; rfl) (by kernel_rfl) (by kernel_rfl) (by kernel_rfl) (by intro _ _ _ h; exact h) (by rfl) hS ?_)
        try simp only [Act.put, List.setIfInBounds_toArray, List.set_cons_zero, List.set_cons_succ]
        first | (refine take_step (i := 19) (by simp only [List.getElem?_toArray, List.getElem?_cons_succ, List.getElem?_cons_zero]; rfl) (by kernel_rfl) (by kernel_rfl) (by kernel_rfl) (by intro _ _ _ h; exact h) (by rfl) (fun W hW => by go_simp; first | done | with_reducible rfl) hS ?_) | (refine skip_step (i := 19) (by simp only [List.getElem?_toArray, List.getElem?_cons_succ, List.getElem?_cons_zero]; rfl) (by kernel_rfl) (by kernel_rfl) (by kernel_rfl) (by intro _ _ _ h; exact h) (by rfl) hS ?_)
        try simp only [Act.put, List.setIfInBounds_toArray, List.set_cons_zero, List.set_cons_succ]
        refine wpAnyH_ready (rs := [18]) (by kernel_rfl) (by simp) ?_
        refine AllReadyH.cons (by simp only [List.getElem?_toArray, List.getElem?_cons_succ, List.getElem?_cons_zero]; rfl) (fun K hK => ?_) AllReadyH.nil
        go_simp
        go_fit (HJN.out _ hS)
        rintro e wd ⟨Aj, mj, cj, rfl, hj, hbd⟩
        have hS18 := Beyond.step hS hbd
        have HCj := hid hj
        clear hj hbd
        refine hK.out _ _ (by assumption) (fun _ => ?_)
        clear hK K hS
        have hS := hS18
        try simp only [Act.put, List.setIfInBounds_toArray, List.set_cons_zero, List.set_cons_succ]
        refine wpAnyH_ready (rs := [20]) (by kernel_rfl) (by simp) ?_
        refine AllReadyH.cons (by simp only [List.getElem?_toArray, List.getElem?_cons_succ, List.getElem?_cons_zero]; rfl) (fun K hK => ?_) AllReadyH.nil
        go_simp
        go_fit (HSJ.out _ _ _ _ hS HCj.out)
        rintro e we ⟨rfl, hbe⟩
        have hS20 := Beyond.step hS hbe
        clear hbe
        refine hK.out _ _ (by assumption) (fun _ => ?_)
        clear hK K hS
        have hS := hS20
        try simp only [Act.put, List.setIfInBounds_toArray, List.set_cons_zero, List.set_cons_succ]
        refine take_step (i := 21) (by simp only [List.getElem?_toArray, List.getElem?_cons_succ, List.getElem?_cons_zero]; rfl) (by kernel_rfl) (by kernel_rfl) (by kernel_rfl) (by intro _ _ _ h; exact h) (by rfl) (fun W hW => by go_simp; first | done | with_reducible rfl) hS ?_
        try simp only [Act.put, List.setIfInBounds_toArray, List.set_cons_zero, List.set_cons_succ]
        refine take_step (i := 22) (by simp only [List.getElem?_toArray, List.getElem?_cons_succ, List.getElem?_cons_zero]; rfl) (by kernel_rfl) (by kernel_rfl) (by kernel_rfl) (by intro _ _ _ h; exact h) (by rfl) (fun W hW => by go_simp; first | done | with_reducible rfl) hS ?_
        try simp only [Act.put, List.setIfInBounds_toArray, List.set_cons_zero, List.set_cons_succ]
        refine wpAnyH_done (by kernel_rfl) ?_ _
        have HFN := hid (below_step HB8.out hS20)
        go_wp2_with fail
        go_ret
        exact ⟨rfl, HFN.out⟩
  · have hf' : fewC l = false := by simpa using hf
    rw [hf'] at HF
    have HC := hid (show CS (w.alloc (.cells #[.bool leaf, .int .i64 next, .slice A n c] 24)) 0 none 0 0 [] from CS.nil)
    clear hb1 hT ha hc hn hf hf'
    unfold pageV at HF ⊢
    go_enter Tryd.func7, Tryd.ntmps7
    go_wp2_with fail
    generalize w.alloc (.cells #[.bool leaf, .int .i64 next, .slice A n c] 24) = w1 at *
    obtain ⟨g, hg⟩ : ∃ g, w.heap.size = g := ⟨_, rfl⟩
    rw [hg] at HX ⊢
    have HGE := hid hg
    clear hg
    have x0 := HX.out.cell 0
    have x1 := HX.out.cell 1
    have x2 := HX.out.cell 2

    go_fit HF.out
    rintro e w2 ⟨rfl, hb2⟩
    have HB2 := hid (below_step HB.out hb2)
    have HX2 := hid (HX.out.below hb2 HX.out.lt)
    have HC2 := hid (HC.out.step hb2)
    clear hb2 HF x0 x1 x2
    have x0 := HX2.out.cell 0
    have x1 := HX2.out.cell 1
    have x2 := HX2.out.cell 2
    go_wp2_with fail
    go_fit (HAW.out _ HB2.out)
    rintro e w9 ⟨rfl, hbz⟩
    have HBZ := hid (below_step HB2.out hbz)
    clear hbz
    go_wp2_with fail
    go_ret
    exact ⟨rfl, HBZ.out⟩

end Go.Proofs.YtikggbopoajcbaaDoor
