/-
  PageHalves: its walk.
-/
import Derived.Test.YtikggbopoajcbaaDoorPgAwake
import Derived.Test.YtikggbopoajcbaaDoorPgFew
import Derived.Deep.DeepFit
import Derived.Deep.Cut
namespace Go.Proofs.YtikggbopoajcbaaDoor
open Go Go.RowKit

set_option maxHeartbeats 8000000 in
set_option maxRecDepth 100000 in
theorem phalves_walk (leaf : Bool) (next : Int) (l : List Cl) (A : Option Addr) (c : Nat) (w : World) (hnx : -9223372036854775808 ≤ next ∧ next ≤ 9223372036854775807) (ha : CAt w w.heap.size A l) (hc : l.length ≤ c) (hT : Table w) :
    Calls Tryd.prog 8 #[pageV leaf next A l.length c] w fun e w' => e = .returned (.bool true) ∧ Below w.heap.size w w' := by
  obtain ⟨n, hn⟩ : ∃ n, n = l.length := ⟨_, rfl⟩
  rw [← hn] at hc ⊢
  have hb1 : Below w.heap.size w (w.alloc (.cells #[.bool leaf, .int .i64 next, .slice A n c] 24)) := (Below.refl _ _).alloc (Nat.le_refl _) _
  have HB := hid hb1
  have HX := hid (Blk.new w 24 #[.bool leaf, .int .i64 next, .slice A n c])
  have HAW := hid (fun (W : World) (hW : Below w.heap.size w W) => awake_yes W (hT.step hW))
  have HF := hid (few_any (leaf := leaf) (next := next) (c := c) (CAt.step ha (Nat.le_refl _) hb1) hn hb1.size)
  by_cases hf : fewC l = true
  · have HC := hid (CS.few (CAt.step ha (Nat.le_refl _) hb1) hn hc hb1.size hf)
    rw [hf] at HF
    have hsum := (few_of hf).sum
    have HSU := hid (show csum l ≤ 4398046511104 by omega)
    have HNX := hid hnx
    obtain ⟨C, hC⟩ : ∃ C, pchk next l = C := ⟨_, rfl⟩
    have HCC := hid hC
    by_cases h0 : C = 0
    · subst h0
      by_cases h2 : n < 2
      · have h2' : (n : Int) < 2 := by omega
        clear hb1 hT ha hc hn hf hC hnx hsum h2
        unfold pageV at HF ⊢
        go_enter Tryd.func8, Tryd.ntmps8
        go_wp2_with fail
        generalize w.alloc (.cells #[.bool leaf, .int .i64 next, .slice A n c] 24) = w1 at *
        obtain ⟨g, hg⟩ : ∃ g, w.heap.size = g := ⟨_, rfl⟩
        rw [hg] at HX ⊢
        have HGE := hid hg
        clear hg
        have x0 := HX.out.cell 0
        have x1 := HX.out.cell 1
        have x2 := HX.out.cell 2

        go_fit HF.out
        rintro e w2 ⟨rfl, hb2⟩
        have HB2 := hid (below_step HB.out hb2)
        have HX2 := hid (HX.out.below hb2 HX.out.lt)
        have HC2 := hid (HC.out.step hb2)
        clear hb2 HF x0 x1 x2
        have x0 := HX2.out.cell 0
        have x1 := HX2.out.cell 1
        have x2 := HX2.out.cell 2
        have HK := hid (pcheck_any (leaf := leaf) HC2.out HSU.out HNX.out.2)
        rw [HCC.out] at HK
        unfold pageV at HK
        go_wp2_with fail
        go_fit HK.out
        rintro e w3 ⟨rfl, hb3⟩
        have HB3 := hid (below_step HB2.out hb3)
        have HX3 := hid (HX2.out.below hb3 HX2.out.lt)
        have HC3 := hid (HC2.out.step hb3)
        clear hb3 HK HX2 HC2 x0 x1 x2
        have x0 := HX3.out.cell 0
        have x1 := HX3.out.cell 1
        have x2 := HX3.out.cell 2
        go_wp2_with fail
        go_fit (HAW.out _ HB3.out)
        rintro e w9 ⟨rfl, hbz⟩
        have HBZ := hid (below_step HB3.out hbz)
        clear hbz
        go_wp2_with fail
        go_ret
        exact ⟨rfl, HBZ.out⟩
      · have h2' : ¬ (n : Int) < 2 := by omega
        have hle : n ≤ 100 := hn ▸ (few_of hf).len
        obtain ⟨q1, q2, q3, q4, q5, q6, q7⟩ := halves_are hC (by omega)
        have hs1 : csum (l.take (halfC l)) ≤ 4398046511104 := Nat.le_trans (csum_takes l _) HSU.out
        have hs2 : csum (l.drop (halfC l)) ≤ 4398046511104 := by have := HSU.out; unfold psize at q6; omega
        have HQ := hid (And.intro q3 (And.intro q4 (And.intro q7 (And.intro hs1 hs2))))
        have hp5 := q5
        have hp6 := q6
        generalize hpA : psize next.toNat (l.take (halfC l)) = PA at *
        generalize hpB : psize next.toNat (l.drop (halfC l)) = PB at *
        have HPA := hid hpA
        have HPB := hid hpB
        obtain ⟨m, hm⟩ : ∃ m, n - halfC l = m := ⟨_, rfl⟩
        have HM := hid (show (l.drop (halfC l)).length = m ∧ (l.take (halfC l)).length = halfC l by rw [List.length_drop, List.length_take]; omega)
        have HNN := hid hn
        have HMI := hid hm
        clear hb1 hT ha hc hf hC hnx hsum h2 q3 q4 q5 q6 q7 hs1 hs2 hpA hpB hn hm
        unfold pageV at HF ⊢
        go_enter Tryd.func8, Tryd.ntmps8
        go_wp2_with fail
        generalize w.alloc (.cells #[.bool leaf, .int .i64 next, .slice A n c] 24) = w1 at *
        obtain ⟨g, hg⟩ : ∃ g, w.heap.size = g := ⟨_, rfl⟩
        rw [hg] at HX ⊢
        have HGE := hid hg
        clear hg
        have x0 := HX.out.cell 0
        have x1 := HX.out.cell 1
        have x2 := HX.out.cell 2

        go_fit HF.out
        rintro e w2 ⟨rfl, hb2⟩
        have HB2 := hid (below_step HB.out hb2)
        have HX2 := hid (HX.out.below hb2 HX.out.lt)
        have HC2 := hid (HC.out.step hb2)
        clear hb2 HF x0 x1 x2
        have x0 := HX2.out.cell 0
        have x1 := HX2.out.cell 1
        have x2 := HX2.out.cell 2
        have HK := hid (pcheck_any (leaf := leaf) HC2.out HSU.out HNX.out.2)
        rw [HCC.out] at HK
        unfold pageV at HK
        go_wp2_with fail
        go_fit HK.out
        rintro e w3 ⟨rfl, hb3⟩
        have HB3 := hid (below_step HB2.out hb3)
        have HX3 := hid (HX2.out.below hb3 HX2.out.lt)
        have HC3 := hid (HC2.out.step hb3)
        clear hb3 HK HX2 HC2 x0 x1 x2
        have x0 := HX3.out.cell 0
        have x1 := HX3.out.cell 1
        have x2 := HX3.out.cell 2
        have HSP := hid (split_any (leaf := leaf) (next := next) HC3.out (by omega) HSU.out)
        have hn := HNN.out
        have hm := HMI.out
        rw [hm] at HSP
        obtain ⟨k, hk⟩ : ∃ k, halfC l = k := ⟨_, rfl⟩
        rw [hk] at HSP HQ HPA HPB HM hm q1 q2
        have HEQ := hid (And.intro hk hn)
        have hm1 : 1 ≤ m := by omega
        have hm0 : 0 < m := by omega
        have hm00 : (0 : Int) < (m : Int) := by omega
        have hk9 : k ≤ 100 := by omega
        have hm9 : m ≤ 100 := by omega
        obtain ⟨j, hj⟩ : ∃ j, k = j + 1 := ⟨k - 1, by omega⟩
        have hjk : j < k := by omega
        have hwj : IntKind.i64.wrap ((k : Int) - 1) = (j : Int) := by rw [IntWalk.i64_in _ ⟨by omega, by omega⟩]; omega
        have hka : ((k : Int) == 0) = false := (nat_ne (by omega)).1
        have hkb : ¬ (k : Int) = 0 := by omega
        have hma : ((m : Int) == 0) = false := (nat_ne (by omega)).1
        have hmb : ¬ (m : Int) = 0 := by omega
        have hw1 : IntKind.i64.wrap ((PA : Int) + 480) = (PA : Int) + 480 := IntWalk.i64_in _ ⟨by omega, by omega⟩
        have hw2 : IntKind.i64.wrap ((PA : Int) + 480 + 10) = (PA : Int) + 480 + 10 := IntWalk.i64_in _ ⟨by omega, by omega⟩
        have hw3 : IntKind.i64.wrap ((PB : Int) + 480) = (PB : Int) + 480 := IntWalk.i64_in _ ⟨by omega, by omega⟩
        have hw4 : IntKind.i64.wrap ((PB : Int) + 480 + 10) = (PB : Int) + 480 + 10 := IntWalk.i64_in _ ⟨by omega, by omega⟩
        have hw5 : (PA : Int) + 480 + 10 ≤ 2048 := by omega
        have hw6 : (PB : Int) + 480 + 10 ≤ 2048 := by omega
        have HJ := hid hj
        have HMM := hid (And.intro hm hn)
        clear hm hn hk q1 q2 hj hp5 hp6 HNN HMI
        unfold pageV at HSP
        go_wp2_with fail
        go_fit HSP.out
        rintro e w4 ⟨A1, A2, rfl, k1, k2, hb4⟩
        have ha4 := ((Below.refl w4.heap.size w4).alloc (Nat.le_refl _) (.cells #[.bool leaf, .int .i64 next, .slice A1 k k] 24)).alloc (by simp) (.cells #[.bool leaf, .int .i64 next, .slice A2 m m] 24)
        have HB5 := hid (below_step (below_step HB3.out hb4) ha4)
        have HC1 := hid (show CS ((w4.alloc (.cells #[.bool leaf, .int .i64 next, .slice A1 k k] 24)).alloc (.cells #[.bool leaf, .int .i64 next, .slice A2 m m] 24)) w4.heap.size A1 k k (l.take k) from CS.step k1 ha4)
        have HCB := hid (show CS ((w4.alloc (.cells #[.bool leaf, .int .i64 next, .slice A1 k k] 24)).alloc (.cells #[.bool leaf, .int .i64 next, .slice A2 m m] 24)) w4.heap.size A2 m m (l.drop k) from CS.step k2 ha4)
        have HY1 := hid (show PBlk ((w4.alloc (.cells #[.bool leaf, .int .i64 next, .slice A1 k k] 24)).alloc (.cells #[.bool leaf, .int .i64 next, .slice A2 m m] 24)) w4.heap.size leaf next A1 k k from (Blk.new w4 _ _).alloc _)
        have HY2 := hid (show PBlk ((w4.alloc (.cells #[.bool leaf, .int .i64 next, .slice A1 k k] 24)).alloc (.cells #[.bool leaf, .int .i64 next, .slice A2 m m] 24)) (w4.heap.size + 1) leaf next A2 m m by
          have := Blk.new (w4.alloc (.cells #[.bool leaf, .int .i64 next, .slice A1 k k] 24)) 24 #[.bool leaf, .int .i64 next, .slice A2 m m]
          rwa [show (w4.alloc (.cells #[.bool leaf, .int .i64 next, .slice A1 k k] 24)).heap.size = w4.heap.size + 1 by simp] at this)
        clear ha4 hb4 k1 k2 HX3 HC3 HSP x0 x1 x2
        go_upto_region 4 with fail
        generalize (w4.alloc (.cells #[.bool leaf, .int .i64 next, .slice A1 k k] 24)).alloc (.cells #[.bool leaf, .int .i64 next, .slice A2 m m] 24) = w5 at *
        obtain ⟨g3, hg3⟩ : ∃ g, w4.heap.size = g := ⟨_, rfl⟩
        rw [hg3] at HC1 HCB HY1 HY2 ⊢
        clear hg3
        have x0 := HY1.out.cell 2
        have y0 := HY2.out.cell 2
        go_upto_region 6 with fail
        clear x0 y0
        obtain ⟨b1, o1, x, rfl, hbx, hx, c0, _⟩ := HC1.out.at_.get (i := j) (by rw [HM.out.2]; exact hjk)
        obtain ⟨b2, o2, y, rfl, hby, hy, d0, _⟩ := HCB.out.at_.get (i := 0) (by rw [HM.out.1]; omega)
        rw [Nat.zero_mul, Nat.add_zero] at d0
        have hlx : Op.bytesLess x.k y.k = true := HQ.out.2.2.1 x y (by rw [List.getElem?_take] at hx; rw [HJ.out, Nat.add_sub_cancel]; rw [if_pos hjk] at hx; exact hx) (by rw [List.getElem?_drop, Nat.add_zero] at hy; exact hy)
        have t1 := bst_toList x.k
        have t2 := bst_toList y.k
        have HBX := hid hbx
        have HBY := hid hby
        have HC0 := hid c0
        have HD0 := hid d0
        clear hbx hby hx hy c0 d0
        have zx : ∀ W, Beyond w5 W → W.cell? ⟨b1, o1 + j * 2, none⟩ = some (.string (bst x.k)) := fun W hW => (Below.cell hW (Nat.lt_of_lt_of_le HBX.out HC1.out.low)).trans HC0.out
        have zy : ∀ W, Beyond w5 W → W.cell? ⟨b2, o2, none⟩ = some (.string (bst y.k)) := fun W hW => (Below.cell hW (Nat.lt_of_lt_of_le HBY.out HCB.out.low)).trans HD0.out
        have HA5 := hid (fun (W : World) (hW : Beyond w5 W) => HAW.out W (below_step HB5.out hW))
        have HK1 := hid (fun (W : World) (hW : Beyond w5 W) => pcheck_any (leaf := leaf) (HC1.out.step hW) HQ.out.2.2.2.1 HNX.out.2)
        have HK2 := hid (fun (W : World) (hW : Beyond w5 W) => pcheck_any (leaf := leaf) (HCB.out.step hW) HQ.out.2.2.2.2 HNX.out.2)
        rw [HQ.out.1] at HK1
        rw [HQ.out.2.1] at HK2
        have HS1 := hid (fun (W : World) (hW : Beyond w5 W) => psize_any (leaf := leaf) (HC1.out.step hW) HQ.out.2.2.2.1 HNX.out.2)
        have HS2 := hid (fun (W : World) (hW : Beyond w5 W) => psize_any (leaf := leaf) (HCB.out.step hW) HQ.out.2.2.2.2 HNX.out.2)
        rw [HPA.out] at HS1
        rw [HPB.out] at HS2
        unfold pageV at HK1 HK2 HS1 HS2
        have z10 : ∀ W, Beyond w5 W → W.cell? ⟨g3, 0, none⟩ = some (.bool leaf) := fun W hW => (HY1.out.below hW HY1.out.lt).cell 0
        have z11 : ∀ W, Beyond w5 W → W.cell? ⟨g3, 1, none⟩ = some (.int .i64 next) := fun W hW => (HY1.out.below hW HY1.out.lt).cell 1
        have z12 : ∀ W, Beyond w5 W → W.cell? ⟨g3, 2, none⟩ = some (.slice (some ⟨b1, o1, none⟩) k k) := fun W hW => (HY1.out.below hW HY1.out.lt).cell 2
        have z20 : ∀ W, Beyond w5 W → W.cell? ⟨g3 + 1, 0, none⟩ = some (.bool leaf) := fun W hW => (HY2.out.below hW HY2.out.lt).cell 0
        have z21 : ∀ W, Beyond w5 W → W.cell? ⟨g3 + 1, 1, none⟩ = some (.int .i64 next) := fun W hW => (HY2.out.below hW HY2.out.lt).cell 1
        have z22 : ∀ W, Beyond w5 W → W.cell? ⟨g3 + 1, 2, none⟩ = some (.slice (some ⟨b2, o2, none⟩) m m) := fun W hW => (HY2.out.below hW HY2.out.lt).cell 2
        refine wp_region_held_drew (S := Beyond w5) (by kernel_rfl) (Beyond.drew _) (fun hS => ?_)
        refine wpAnyH_ready (rs := [0]) (by kernel_rfl) (by simp) ?_
        refine AllReadyH.cons (by simp only [List.getElem?_toArray, List.getElem?_cons_zero]; rfl) (fun K hK => ?_) AllReadyH.nil
        go_simp
        go_fit (HA5.out _ hS)
        rintro e wa ⟨rfl, hba⟩
        have hS0 := Beyond.step hS hba
        clear hba
        refine hK.out _ _ (by assumption) (fun _ => ?_)
        clear hK K hS
        have hS := hS0
        try simp only [Act.put, List.setIfInBounds_toArray, List.set_cons_zero, List.set_cons_succ]
        refine take_step (i := 1) (by simp only [List.getElem?_toArray, List.getElem?_cons_succ, List.getElem?_cons_zero]; rfl) (by kernel_rfl) (by kernel_rfl) (by kernel_rfl) (by intro _ _ _ h; exact h) (by rfl) (fun W hW => by go_simp; first | done | with_reducible rfl) hS ?_
        try simp only [Act.put, List.setIfInBounds_toArray, List.set_cons_zero, List.set_cons_succ]
        first | (refine take_step (i := 2) (by simp only [List.getElem?_toArray, List.getElem?_cons_succ, List.getElem?_cons_zero]; rfl) (by kernel_rfl) (by kernel_rfl) (by kernel_rfl) (by intro _ _ _ h; exact h) (by rfl) (fun W hW => by go_simp; first | done | with_reducible rfl) hS ?_) | (refine skip_step (i := 2) (by simp only [List.getElem?_toArray, List.getElem?_cons_succ, List.getElem?_cons_zero]; rfl) (by kernel_rfl) (by kernel_rfl) (by kernel_rfl) (by intro _ _ _ h; exact h) (by rfl) hS ?_)
        try simp only [Act.put, List.setIfInBounds_toArray, List.set_cons_zero, List.set_cons_succ]
        refine wpAnyH_ready (rs := [3]) (by kernel_rfl) (by simp) ?_
        refine AllReadyH.cons (by simp only [List.getElem?_toArray, List.getElem?_cons_succ, List.getElem?_cons_zero]; rfl) (fun K hK => ?_) AllReadyH.nil
        go_simp
        go_fit (HK1.out _ hS)
        rintro e wb ⟨rfl, hbb⟩
        have hS3 := Beyond.step hS hbb
        clear hbb
        refine hK.out _ _ (by assumption) (fun _ => ?_)
        clear hK K hS
        have hS := hS3
        try simp only [Act.put, List.setIfInBounds_toArray, List.set_cons_zero, List.set_cons_succ]
        first | (refine take_step (i := 4) (by simp only [List.getElem?_toArray, List.getElem?_cons_succ, List.getElem?_cons_zero]; rfl) (by kernel_rfl) (by kernel_rfl) (by kernel_rfl) (by intro _ _ _ h; exact h) (by rfl) (fun W hW => by go_simp; first | done | with_reducible rfl) hS ?_) | (refine skip_step (i := 4) (by simp only [List.getElem?_toArray, List.getElem?_cons_succ, List.getElem?_cons_zero]; rfl) (by kernel_rfl) (by kernel_rfl) (by kernel_rfl) (by intro _ _ _ h; exact h) (by rfl) hS ?_)
        try simp only [Act.put, List.setIfInBounds_toArray, List.set_cons_zero, List.set_cons_succ]
        refine take_step (i := 5) (by simp only [List.getElem?_toArray, List.getElem?_cons_succ, List.getElem?_cons_zero]; rfl) (by kernel_rfl) (by kernel_rfl) (by kernel_rfl) (by intro _ _ _ h; exact h) (by rfl) (fun W hW => by go_simp; first | done | with_reducible rfl) hS ?_
        try simp only [Act.put, List.setIfInBounds_toArray, List.set_cons_zero, List.set_cons_succ]
        refine take_step (i := 6) (by simp only [List.getElem?_toArray, List.getElem?_cons_succ, List.getElem?_cons_zero]; rfl) (by kernel_rfl) (by kernel_rfl) (by kernel_rfl) (by intro _ _ _ h; exact h) (by rfl) (fun W hW => by go_simp; first | done | with_reducible rfl) hS ?_
        try simp only [Act.put, List.setIfInBounds_toArray, List.set_cons_zero, List.set_cons_succ]
        first | (refine take_step (i := 7) (by simp only [List.getElem?_toArray, List.getElem?_cons_succ, List.getElem?_cons_zero]; rfl) (by kernel_rfl) (by kernel_rfl) (by kernel_rfl) (by intro _ _ _ h; exact h) (by rfl) (fun W hW => by go_simp; first | done | with_reducible rfl) hS ?_) | (refine skip_step (i := 7) (by simp only [List.getElem?_toArray, List.getElem?_cons_succ, List.getElem?_cons_zero]; rfl) (by kernel_rfl) (by kernel_rfl) (by kernel_rfl) (by intro _ _ _ h; exact h) (by rfl) hS ?_)
        try simp only [Act.put, List.setIfInBounds_toArray, List.set_cons_zero, List.set_cons_succ]
        refine wpAnyH_ready (rs := [8]) (by kernel_rfl) (by simp) ?_
        refine AllReadyH.cons (by simp only [List.getElem?_toArray, List.getElem?_cons_succ, List.getElem?_cons_zero]; rfl) (fun K hK => ?_) AllReadyH.nil
        go_simp
        go_fit (HK2.out _ hS)
        rintro e wc ⟨rfl, hbc⟩
        have hS8 := Beyond.step hS hbc
        clear hbc
        refine hK.out _ _ (by assumption) (fun _ => ?_)
        clear hK K hS
        have hS := hS8
        try simp only [Act.put, List.setIfInBounds_toArray, List.set_cons_zero, List.set_cons_succ]
        first | (refine take_step (i := 9) (by simp only [List.getElem?_toArray, List.getElem?_cons_succ, List.getElem?_cons_zero]; rfl) (by kernel_rfl) (by kernel_rfl) (by kernel_rfl) (by intro _ _ _ h; exact h) (by rfl) (fun W hW => by go_simp; first | done | with_reducible rfl) hS ?_) | (refine skip_step (i := 9) (by simp only [List.getElem?_toArray, List.getElem?_cons_succ, List.getElem?_cons_zero]; rfl) (by kernel_rfl) (by kernel_rfl) (by kernel_rfl) (by intro _ _ _ h; exact h) (by rfl) hS ?_)
        try simp only [Act.put, List.setIfInBounds_toArray, List.set_cons_zero, List.set_cons_succ]
        refine take_step (i := 10) (by simp only [List.getElem?_toArray, List.getElem?_cons_succ, List.getElem?_cons_zero]; rfl) (by kernel_rfl) (by kernel_rfl) (by kernel_rfl) (by intro _ _ _ h; exact h) (by rfl) (fun W hW => by go_simp; first | done | with_reducible rfl) hS ?_
        try simp only [Act.put, List.setIfInBounds_toArray, List.set_cons_zero, List.set_cons_succ]
        refine take_step (i := 11) (by simp only [List.getElem?_toArray, List.getElem?_cons_succ, List.getElem?_cons_zero]; rfl) (by kernel_rfl) (by kernel_rfl) (by kernel_rfl) (by intro _ _ _ h; exact h) (by rfl) (fun W hW => by go_simp; first | done | with_reducible rfl) hS ?_
        try simp only [Act.put, List.setIfInBounds_toArray, List.set_cons_zero, List.set_cons_succ]
        first | (refine take_step (i := 12) (by simp only [List.getElem?_toArray, List.getElem?_cons_succ, List.getElem?_cons_zero]; rfl) (by kernel_rfl) (by kernel_rfl) (by kernel_rfl) (by intro _ _ _ h; exact h) (by rfl) (fun W hW => by go_simp; first | done | with_reducible rfl) hS ?_) | (refine skip_step (i := 12) (by simp only [List.getElem?_toArray, List.getElem?_cons_succ, List.getElem?_cons_zero]; rfl) (by kernel_rfl) (by kernel_rfl) (by kernel_rfl) (by intro _ _ _ h; exact h) (by rfl) hS ?_)
        try simp only [Act.put, List.setIfInBounds_toArray, List.set_cons_zero, List.set_cons_succ]
        refine wpAnyH_ready (rs := [13]) (by kernel_rfl) (by simp) ?_
        refine AllReadyH.cons (by simp only [List.getElem?_toArray, List.getElem?_cons_succ, List.getElem?_cons_zero]; rfl) (fun K hK => ?_) AllReadyH.nil
        go_simp
        go_fit (HS1.out _ hS)
        rintro e wd ⟨rfl, hbd⟩
        have hS13 := Beyond.step hS hbd
        clear hbd
        refine hK.out _ _ (by assumption) (fun _ => ?_)
        clear hK K hS
        have hS := hS13
        try simp only [Act.put, List.setIfInBounds_toArray, List.set_cons_zero, List.set_cons_succ]
        first | (refine take_step (i := 14) (by simp only [List.getElem?_toArray, List.getElem?_cons_succ, List.getElem?_cons_zero]; rfl) (by kernel_rfl) (by kernel_rfl) (by kernel_rfl) (by intro _ _ _ h; exact h) (by rfl) (fun W hW => by go_simp; first | done | with_reducible rfl) hS ?_) | (refine skip_step (i := 14) (by simp only [List.getElem?_toArray, List.getElem?_cons_succ, List.getElem?_cons_zero]; rfl) (by kernel_rfl) (by kernel_rfl) (by kernel_rfl) (by intro _ _ _ h; exact h) (by rfl) hS ?_)
        try simp only [Act.put, List.setIfInBounds_toArray, List.set_cons_zero, List.set_cons_succ]
        first | (refine take_step (i := 15) (by simp only [List.getElem?_toArray, List.getElem?_cons_succ, List.getElem?_cons_zero]; rfl) (by kernel_rfl) (by kernel_rfl) (by kernel_rfl) (by intro _ _ _ h; exact h) (by rfl) (fun W hW => by go_simp; first | done | with_reducible rfl) hS ?_) | (refine skip_step (i := 15) (by simp only [List.getElem?_toArray, List.getElem?_cons_succ, List.getElem?_cons_zero]; rfl) (by kernel_rfl) (by kernel_rfl) (by kernel_rfl) (by intro _ _ _ h; exact h) (by rfl) hS ?_)
        try simp only [Act.put, List.setIfInBounds_toArray, List.set_cons_zero, List.set_cons_succ]
        first | (refine take_step (i := 16) (by simp only [List.getElem?_toArray, List.getElem?_cons_succ, List.getElem?_cons_zero]; rfl) (by kernel_rfl) (by kernel_rfl) (by kernel_rfl) (by intro _ _ _ h; exact h) (by rfl) (fun W hW => by go_simp; first | done | with_reducible rfl) hS ?_) | (refine skip_step (i := 16) (by simp only [List.getElem?_toArray, List.getElem?_cons_succ, List.getElem?_cons_zero]; rfl) (by kernel_rfl) (by kernel_rfl) (by kernel_rfl) (by intro _ _ _ h; exact h) (by rfl) hS ?_)
        try simp only [Act.put, List.setIfInBounds_toArray, List.set_cons_zero, List.set_cons_succ]
        refine take_step (i := 17) (by simp only [List.getElem?_toArray, List.getElem?_cons_succ, List.getElem?_cons_zero]; rfl) (by kernel_rfl) (by kernel_rfl) (by kernel_rfl) (by intro _ _ _ h; exact h) (by rfl) (fun W hW => by go_simp; first | done | with_reducible rfl) hS ?_
        try simp only [Act.put, List.setIfInBounds_toArray, List.set_cons_zero, List.set_cons_succ]
        refine take_step (i := 18) (by simp only [List.getElem?_toArray, List.getElem?_cons_succ, List.getElem?_cons_zero]; rfl) (by kernel_rfl) (by kernel_rfl) (by kernel_rfl) (by intro _ _ _ h; exact h) (by rfl) (fun W hW => by go_simp; first | done | with_reducible rfl) hS ?_
        try simp only [Act.put, List.setIfInBounds_toArray, List.set_cons_zero, List.set_cons_succ]
        first | (refine take_step (i := 19) (by simp only [List.getElem?_toArray, List.getElem?_cons_succ, List.getElem?_cons_zero]; rfl) (by kernel_rfl) (by kernel_rfl) (by kernel_rfl) (by intro _ _ _ h; exact h) (by rfl) (fun W hW => by go_simp; first | done | with_reducible rfl) hS ?_) | (refine skip_step (i := 19) (by simp only [List.getElem?_toArray, List.getElem?_cons_succ, List.getElem?_cons_zero]; rfl) (by kernel_rfl) (by kernel_rfl) (by kernel_rfl) (by intro _ _ _ h; exact h) (by rfl) hS ?_)
        try simp only [Act.put, List.setIfInBounds_toArray, List.set_cons_zero, List.set_cons_succ]
        refine wpAnyH_ready (rs := [20]) (by kernel_rfl) (by simp) ?_
        refine AllReadyH.cons (by simp only [List.getElem?_toArray, List.getElem?_cons_succ, List.getElem?_cons_zero]; rfl) (fun K hK => ?_) AllReadyH.nil
        go_simp
        go_fit (HS2.out _ hS)
        rintro e we ⟨rfl, hbe⟩
        have hS20 := Beyond.step hS hbe
        clear hbe
        refine hK.out _ _ (by assumption) (fun _ => ?_)
        clear hK K hS
        have hS := hS20
        try simp only [Act.put, List.setIfInBounds_toArray, List.set_cons_zero, List.set_cons_succ]
        first | (refine take_step (i := 21) (by simp only [List.getElem?_toArray, List.getElem?_cons_succ, List.getElem?_cons_zero]; rfl) (by kernel_rfl) (by kernel_rfl) (by kernel_rfl) (by intro _ _ _ h; exact h) (by rfl) (fun W hW => by go_simp; first | done | with_reducible rfl) hS ?_) | (refine skip_step (i := 21) (by simp only [List.getElem?_toArray, List.getElem?_cons_succ, List.getElem?_cons_zero]; rfl) (by kernel_rfl) (by kernel_rfl) (by kernel_rfl) (by intro _ _ _ h; exact h) (by rfl) hS ?_)
        try simp only [Act.put, List.setIfInBounds_toArray, List.set_cons_zero, List.set_cons_succ]
        first | (refine take_step (i := 22) (by simp only [List.getElem?_toArray, List.getElem?_cons_succ, List.getElem?_cons_zero]; rfl) (by kernel_rfl) (by kernel_rfl) (by kernel_rfl) (by intro _ _ _ h; exact h) (by rfl) (fun W hW => by go_simp; first | done | with_reducible rfl) hS ?_) | (refine skip_step (i := 22) (by simp only [List.getElem?_toArray, List.getElem?_cons_succ, List.getElem?_cons_zero]; rfl) (by kernel_rfl) (by kernel_rfl) (by kernel_rfl) (by intro _ _ _ h; exact h) (by rfl) hS ?_)
        try simp only [Act.put, List.setIfInBounds_toArray, List.set_cons_zero, List.set_cons_succ]
        first | (refine take_step (i := 23) (by simp only [List.getElem?_toArray, List.getElem?_cons_succ, List.getElem?_cons_zero]; rfl) (by kernel_rfl) (by kernel_rfl) (by kernel_rfl) (by intro _ _ _ h; exact h) (by rfl) (fun W hW => by go_simp; first | done | with_reducible rfl) hS ?_) | (refine skip_step (i := 23) (by simp only [List.getElem?_toArray, List.getElem?_cons_succ, List.getElem?_cons_zero]; rfl) (by kernel_rfl) (by kernel_rfl) (by kernel_rfl) (by intro _ _ _ h; exact h) (by rfl) hS ?_)
        try simp only [Act.put, List.setIfInBounds_toArray, List.set_cons_zero, List.set_cons_succ]
        refine take_step (i := 24) (by simp only [List.getElem?_toArray, List.getElem?_cons_succ, List.getElem?_cons_zero]; rfl) (by kernel_rfl) (by kernel_rfl) (by kernel_rfl) (by intro _ _ _ h; exact h) (by rfl) (fun W hW => by go_simp; first | done | with_reducible rfl) hS ?_
        try simp only [Act.put, List.setIfInBounds_toArray, List.set_cons_zero, List.set_cons_succ]
        refine take_step (i := 25) (by simp only [List.getElem?_toArray, List.getElem?_cons_succ, List.getElem?_cons_zero]; rfl) (by kernel_rfl) (by kernel_rfl) (by kernel_rfl) (by intro _ _ _ h; exact h) (by rfl) (fun W hW => by go_simp; first | done | with_reducible rfl) hS ?_
        try simp only [Act.put, List.setIfInBounds_toArray, List.set_cons_zero, List.set_cons_succ]
        first | (refine take_step (i := 26) (by simp only [List.getElem?_toArray, List.getElem?_cons_succ, List.getElem?_cons_zero]; rfl) (by kernel_rfl) (by kernel_rfl) (by kernel_rfl) (by intro _ _ _ h; exact h) (by rfl) (fun W hW => by go_simp; first | done | with_reducible rfl) hS ?_) | (refine skip_step (i := 26) (by simp only [List.getElem?_toArray, List.getElem?_cons_succ, List.getElem?_cons_zero]; rfl) (by kernel_rfl) (by kernel_rfl) (by kernel_rfl) (by intro _ _ _ h; exact h) (by rfl) hS ?_)
        try simp only [Act.put, List.setIfInBounds_toArray, List.set_cons_zero, List.set_cons_succ]
        first | (refine take_step (i := 27) (by simp only [List.getElem?_toArray, List.getElem?_cons_succ, List.getElem?_cons_zero]; rfl) (by kernel_rfl) (by kernel_rfl) (by kernel_rfl) (by intro _ _ _ h; exact h) (by rfl) (fun W hW => by go_simp; first | done | with_reducible rfl) hS ?_) | (refine skip_step (i := 27) (by simp only [List.getElem?_toArray, List.getElem?_cons_succ, List.getElem?_cons_zero]; rfl) (by kernel_rfl) (by kernel_rfl) (by kernel_rfl) (by intro _ _ _ h; exact h) (by rfl) hS ?_)
        try simp only [Act.put, List.setIfInBounds_toArray, List.set_cons_zero, List.set_cons_succ]
        first | (refine take_step (i := 28) (by simp only [List.getElem?_toArray, List.getElem?_cons_succ, List.getElem?_cons_zero]; rfl) (by kernel_rfl) (by kernel_rfl) (by kernel_rfl) (by intro _ _ _ h; exact h) (by rfl) (fun W hW => by go_simp; first | done | with_reducible rfl) hS ?_) | (refine skip_step (i := 28) (by simp only [List.getElem?_toArray, List.getElem?_cons_succ, List.getElem?_cons_zero]; rfl) (by kernel_rfl) (by kernel_rfl) (by kernel_rfl) (by intro _ _ _ h; exact h) (by rfl) hS ?_)
        try simp only [Act.put, List.setIfInBounds_toArray, List.set_cons_zero, List.set_cons_succ]
        first | (refine take_step (i := 29) (by simp only [List.getElem?_toArray, List.getElem?_cons_succ, List.getElem?_cons_zero]; rfl) (by kernel_rfl) (by kernel_rfl) (by kernel_rfl) (by intro _ _ _ h; exact h) (by rfl) (fun W hW => by go_simp; first | done | with_reducible rfl) hS ?_) | (refine skip_step (i := 29) (by simp only [List.getElem?_toArray, List.getElem?_cons_succ, List.getElem?_cons_zero]; rfl) (by kernel_rfl) (by kernel_rfl) (by kernel_rfl) (by intro _ _ _ h; exact h) (by rfl) hS ?_)
        try simp only [Act.put, List.setIfInBounds_toArray, List.set_cons_zero, List.set_cons_succ]
        first | (refine take_step (i := 30) (by simp only [List.getElem?_toArray, List.getElem?_cons_succ, List.getElem?_cons_zero]; rfl) (by kernel_rfl) (by kernel_rfl) (by kernel_rfl) (by intro _ _ _ h; exact h) (by rfl) (fun W hW => by go_simp; first | done | with_reducible rfl) hS ?_) | (refine skip_step (i := 30) (by simp only [List.getElem?_toArray, List.getElem?_cons_succ, List.getElem?_cons_zero]; rfl) (by kernel_rfl) (by kernel_rfl) (by kernel_rfl) (by intro _ _ _ h; exact h) (by rfl) hS ?_)
        try simp only [Act.put, List.setIfInBounds_toArray, List.set_cons_zero, List.set_cons_succ]
        first | (refine take_step (i := 31) (by simp only [List.getElem?_toArray, List.getElem?_cons_succ, List.getElem?_cons_zero]; rfl) (by kernel_rfl) (by kernel_rfl) (by kernel_rfl) (by intro _ _ _ h; exact h) (by rfl) (fun W hW => by go_simp; first | done | with_reducible rfl) hS ?_) | (refine skip_step (i := 31) (by simp only [List.getElem?_toArray, List.getElem?_cons_succ, List.getElem?_cons_zero]; rfl) (by kernel_rfl) (by kernel_rfl) (by kernel_rfl) (by intro _ _ _ h; exact h) (by rfl) hS ?_)
        try simp only [Act.put, List.setIfInBounds_toArray, List.set_cons_zero, List.set_cons_succ]
        first | (refine take_step (i := 32) (by simp only [List.getElem?_toArray, List.getElem?_cons_succ, List.getElem?_cons_zero]; rfl) (by kernel_rfl) (by kernel_rfl) (by kernel_rfl) (by intro _ _ _ h; exact h) (by rfl) (fun W hW => by go_simp; first | done | with_reducible rfl) hS ?_) | (refine skip_step (i := 32) (by simp only [List.getElem?_toArray, List.getElem?_cons_succ, List.getElem?_cons_zero]; rfl) (by kernel_rfl) (by kernel_rfl) (by kernel_rfl) (by intro _ _ _ h; exact h) (by rfl) hS ?_)
        try simp only [Act.put, List.setIfInBounds_toArray, List.set_cons_zero, List.set_cons_succ]
        first | (refine take_step (i := 33) (by simp only [List.getElem?_toArray, List.getElem?_cons_succ, List.getElem?_cons_zero]; rfl) (by kernel_rfl) (by kernel_rfl) (by kernel_rfl) (by intro _ _ _ h; exact h) (by rfl) (fun W hW => by go_simp; first | done | with_reducible rfl) hS ?_) | (refine skip_step (i := 33) (by simp only [List.getElem?_toArray, List.getElem?_cons_succ, List.getElem?_cons_zero]; rfl) (by kernel_rfl) (by kernel_rfl) (by kernel_rfl) (by intro _ _ _ h; exact h) (by rfl) hS ?_)
        try simp only [Act.put, List.setIfInBounds_toArray, List.set_cons_zero, List.set_cons_succ]
        first | (refine take_step (i := 34) (by simp only [List.getElem?_toArray, List.getElem?_cons_succ, List.getElem?_cons_zero]; rfl) (by kernel_rfl) (by kernel_rfl) (by kernel_rfl) (by intro _ _ _ h; exact h) (by rfl) (fun W hW => by go_simp; first | done | with_reducible rfl) hS ?_) | (refine skip_step (i := 34) (by simp only [List.getElem?_toArray, List.getElem?_cons_succ, List.getElem?_cons_zero]; rfl) (by kernel_rfl) (by kernel_rfl) (by kernel_rfl) (by intro _ _ _ h; exact h) (by rfl) hS ?_)
        try simp only [Act.put, List.setIfInBounds_toArray, List.set_cons_zero, List.set_cons_succ]
        first | (refine take_step (i := 35) (by simp only [List.getElem?_toArray, List.getElem?_cons_succ, List.getElem?_cons_zero]; rfl) (by kernel_rfl) (by kernel_rfl) (by kernel_rfl) (by intro _ _ _ h; exact h) (by rfl) (fun W hW => by go_simp; first | done | with_reducible rfl) hS ?_) | (refine skip_step (i := 35) (by simp only [List.getElem?_toArray, List.getElem?_cons_succ, List.getElem?_cons_zero]; rfl) (by kernel_rfl) (by kernel_rfl) (by kernel_rfl) (by intro _ _ _ h; exact h) (by rfl) hS ?_)
        try simp only [Act.put, List.setIfInBounds_toArray, List.set_cons_zero, List.set_cons_succ]
        first | (refine take_step (i := 36) (by simp only [List.getElem?_toArray, List.getElem?_cons_succ, List.getElem?_cons_zero]; rfl) (by kernel_rfl) (by kernel_rfl) (by kernel_rfl) (by intro _ _ _ h; exact h) (by rfl) (fun W hW => by go_simp; first | done | with_reducible rfl) hS ?_) | (refine skip_step (i := 36) (by simp only [List.getElem?_toArray, List.getElem?_cons_succ, List.getElem?_cons_zero]; rfl) (by kernel_rfl) (by kernel_rfl) (by kernel_rfl) (by intro _ _ _ h; exact h) (by rfl) hS ?_)
        try simp only [Act.put, List.setIfInBounds_toArray, List.set_cons_zero, List.set_cons_succ]
        first | (refine take_step (i := 37) (by simp only [List.getElem?_toArray, List.getElem?_cons_succ, List.getElem?_cons_zero]; rfl) (by kernel_rfl) (by kernel_rfl) (by kernel_rfl) (by intro _ _ _ h; exact h) (by rfl) (fun W hW => by go_simp; first | done | with_reducible rfl) hS ?_) | (refine skip_step (i := 37) (by simp only [List.getElem?_toArray, List.getElem?_cons_succ, List.getElem?_cons_zero]; rfl) (by kernel_rfl) (by kernel_rfl) (by kernel_rfl) (by intro _ _ _ h; exact h) (by rfl) hS ?_)
        try simp only [Act.put, List.setIfInBounds_toArray, List.set_cons_zero, List.set_cons_succ]
        first | (refine take_step (i := 38) (by simp only [List.getElem?_toArray, List.getElem?_cons_succ, List.getElem?_cons_zero]; rfl) (by kernel_rfl) (by kernel_rfl) (by kernel_rfl) (by intro _ _ _ h; exact h) (by rfl) (fun W hW => by go_simp; first | done | with_reducible rfl) hS ?_) | (refine skip_step (i := 38) (by simp only [List.getElem?_toArray, List.getElem?_cons_succ, List.getElem?_cons_zero]; rfl) (by kernel_rfl) (by kernel_rfl) (by kernel_rfl) (by intro _ _ _ h; exact h) (by rfl) hS ?_)
        try simp only [Act.put, List.setIfInBounds_toArray, List.set_cons_zero, List.set_cons_succ]
        first | (refine take_step (i := 39) (by simp only [List.getElem?_toArray, List.getElem?_cons_succ, List.getElem?_cons_zero]; rfl) (by kernel_rfl) (by kernel_rfl) (by kernel_rfl) (by intro _ _ _ h; exact h) (by rfl) (fun W hW => by go_simp; first | done | with_reducible rfl) hS ?_) | (refine skip_step (i := 39) (by simp only [List.getElem?_toArray, List.getElem?_cons_succ, List.getElem?_cons_zero]; rfl) (by kernel_rfl) (by kernel_rfl) (by kernel_rfl) (by intro _ _ _ h; exact h) (by rfl) hS ?_)
        try simp only [Act.put, List.setIfInBounds_toArray, List.set_cons_zero, List.set_cons_succ]
        first | (refine take_step (i := 40) (by simp only [List.getElem?_toArray, List.getElem?_cons_succ, List.getElem?_cons_zero]; rfl) (by kernel_rfl) (by kernel_rfl) (by kernel_rfl) (by intro _ _ _ h; exact h) (by rfl) (fun W hW => by go_simp; first | done | with_reducible rfl) hS ?_) | (refine skip_step (i := 40) (by simp only [List.getElem?_toArray, List.getElem?_cons_succ, List.getElem?_cons_zero]; rfl) (by kernel_rfl) (by kernel_rfl) (by kernel_rfl) (by intro _ _ _ h; exact h) (by rfl) hS ?_)
        try simp only [Act.put, List.setIfInBounds_toArray, List.set_cons_zero, List.set_cons_succ]
        refine take_step (i := 41) (by simp only [List.getElem?_toArray, List.getElem?_cons_succ, List.getElem?_cons_zero]; rfl) (by kernel_rfl) (by kernel_rfl) (by kernel_rfl) (by intro _ _ _ h; exact h) (by rfl) (fun W hW => by go_simp; first | done | with_reducible rfl) hS ?_
        try simp only [Act.put, List.setIfInBounds_toArray, List.set_cons_zero, List.set_cons_succ]
        refine take_step (i := 42) (by simp only [List.getElem?_toArray, List.getElem?_cons_succ, List.getElem?_cons_zero]; rfl) (by kernel_rfl) (by kernel_rfl) (by kernel_rfl) (by intro _ _ _ h; exact h) (by rfl) (fun W hW => by go_simp; first | done | with_reducible rfl) hS ?_
        try simp only [Act.put, List.setIfInBounds_toArray, List.set_cons_zero, List.set_cons_succ]
        refine wpAnyH_done (by kernel_rfl) ?_ _
        have HFN := hid (below_step HB5.out hS20)
        go_wp2_with fail
        go_ret
        exact ⟨rfl, HFN.out⟩
    · have hk2 : ((C : Int) != 0) = true := (nat_ne h0).2
      clear hb1 hT ha hc hn hf hC hnx hsum h0
      unfold pageV at HF ⊢
      go_enter Tryd.func8, Tryd.ntmps8
      go_wp2_with fail
      generalize w.alloc (.cells #[.bool leaf, .int .i64 next, .slice A n c] 24) = w1 at *
      obtain ⟨g, hg⟩ : ∃ g, w.heap.size = g := ⟨_, rfl⟩
      rw [hg] at HX ⊢
      have HGE := hid hg
      clear hg
      have x0 := HX.out.cell 0
      have x1 := HX.out.cell 1
      have x2 := HX.out.cell 2

      go_fit HF.out
      rintro e w2 ⟨rfl, hb2⟩
      have HB2 := hid (below_step HB.out hb2)
      have HX2 := hid (HX.out.below hb2 HX.out.lt)
      have HC2 := hid (HC.out.step hb2)
      clear hb2 HF x0 x1 x2
      have x0 := HX2.out.cell 0
      have x1 := HX2.out.cell 1
      have x2 := HX2.out.cell 2
      have HK := hid (pcheck_any (leaf := leaf) HC2.out HSU.out HNX.out.2)
      rw [HCC.out] at HK
      unfold pageV at HK
      go_wp2_with fail
      go_fit HK.out
      rintro e w3 ⟨rfl, hb3⟩
      have HB3 := hid (below_step HB2.out hb3)
      have HX3 := hid (HX2.out.below hb3 HX2.out.lt)
      have HC3 := hid (HC2.out.step hb3)
      clear hb3 HK HX2 HC2 x0 x1 x2
      have x0 := HX3.out.cell 0
      have x1 := HX3.out.cell 1
      have x2 := HX3.out.cell 2
      go_wp2_with fail
      go_fit (HAW.out _ HB3.out)
      rintro e w9 ⟨rfl, hbz⟩
      have HBZ := hid (below_step HB3.out hbz)
      clear hbz
      go_wp2_with fail
      go_ret
      exact ⟨rfl, HBZ.out⟩
  · have hf' : fewC l = false := by simpa using hf
    rw [hf'] at HF
    have HC := hid (show CS (w.alloc (.cells #[.bool leaf, .int .i64 next, .slice A n c] 24)) 0 none 0 0 [] from CS.nil)
    clear hb1 hT ha hc hn hf hf'
    unfold pageV at HF ⊢
    go_enter Tryd.func8, Tryd.ntmps8
    go_wp2_with fail
    generalize w.alloc (.cells #[.bool leaf, .int .i64 next, .slice A n c] 24) = w1 at *
    obtain ⟨g, hg⟩ : ∃ g, w.heap.size = g := ⟨_, rfl⟩
    rw [hg] at HX ⊢
    have HGE := hid hg
    clear hg
    have x0 := HX.out.cell 0
    have x1 := HX.out.cell 1
    have x2 := HX.out.cell 2

    go_fit HF.out
    rintro e w2 ⟨rfl, hb2⟩
    have HB2 := hid (below_step HB.out hb2)
    have HX2 := hid (HX.out.below hb2 HX.out.lt)
    have HC2 := hid (HC.out.step hb2)
    clear hb2 HF x0 x1 x2
    have x0 := HX2.out.cell 0
    have x1 := HX2.out.cell 1
    have x2 := HX2.out.cell 2
    go_wp2_with fail
    go_fit (HAW.out _ HB2.out)
    rintro e w9 ⟨rfl, hbz⟩
    have HBZ := hid (below_step HB2.out hbz)
    clear hbz
    go_wp2_with fail
    go_ret
    exact ⟨rfl, HBZ.out⟩

end Go.Proofs.YtikggbopoajcbaaDoor
