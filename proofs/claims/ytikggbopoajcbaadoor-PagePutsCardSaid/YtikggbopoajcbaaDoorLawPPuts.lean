/-
  PagePuts: its walk.
-/
import Derived.Test.YtikggbopoajcbaaDoorPgAwake
import Derived.Test.YtikggbopoajcbaaDoorPgFew
import Derived.Test.YtikggbopoajcbaaDoorLawPOf
import Derived.Test.YtikggbopoajcbaaDoorRefPgF
import Derived.Test.YtikggbopoajcbaaDoorRefPgP
import Derived.Test.YtikggbopoajcbaaDoorPgPut
import Derived.Deep.DeepFit
import Derived.Deep.Cut
namespace Go.Proofs.YtikggbopoajcbaaDoor
open Go Go.RowKit

set_option maxHeartbeats 8000000 in
set_option maxRecDepth 100000 in
theorem pputs_walk (leaf : Bool) (next : Int) (l : List Cl) (A : Option Addr) (c : Nat) (x : Cl) (w : World) (ha : CAt w w.heap.size A l) (hc : l.length ≤ c) (hT : Table w) :
    Calls Tryd.prog 6 #[pageV leaf next A l.length c, x.val] w fun e w' => e = .returned (.bool true) ∧ Below w.heap.size w w' := by
  obtain ⟨n, hn⟩ : ∃ n, n = l.length := ⟨_, rfl⟩
  rw [← hn] at hc ⊢
  have hb1 : Below w.heap.size w ((w.alloc (.cells #[.bool leaf, .int .i64 next, .slice A n c] 24)).alloc (.cells #[.string (bst x.k), .string (bst x.v)] 44)) := ((Below.refl _ _).alloc (Nat.le_refl _) _).alloc (by simp) _
  have HB1 := hid hb1
  have HX1 := hid (show PBlk ((w.alloc (.cells #[.bool leaf, .int .i64 next, .slice A n c] 24)).alloc (.cells #[.string (bst x.k), .string (bst x.v)] 44)) w.heap.size leaf next A n c from (Blk.new w 24 #[.bool leaf, .int .i64 next, .slice A n c]).alloc _)
  have HY1 := hid (show Blk ((w.alloc (.cells #[.bool leaf, .int .i64 next, .slice A n c] 24)).alloc (.cells #[.string (bst x.k), .string (bst x.v)] 44)) (w.heap.size + 1) 44 #[.string (bst x.k), .string (bst x.v)] by
    have := Blk.new (w.alloc (.cells #[.bool leaf, .int .i64 next, .slice A n c] 24)) 44 #[.string (bst x.k), .string (bst x.v)]
    rwa [show (w.alloc (.cells #[.bool leaf, .int .i64 next, .slice A n c] 24)).heap.size = w.heap.size + 1 by simp] at this)
  have HAW := hid (fun (W : World) (hW : Below w.heap.size w W) => awake_yes W (hT.step hW))
  have HF := hid (few_any (leaf := leaf) (next := next) (c := c) (CAt.step ha (Nat.le_refl _) hb1) hn hb1.size)
  by_cases hf : fewC l = true
  case neg =>
    have hf' : fewC l = false := by simpa using hf
    rw [hf'] at HF
    have HC1 := hid (show CS ((w.alloc (.cells #[.bool leaf, .int .i64 next, .slice A n c] 24)).alloc (.cells #[.string (bst x.k), .string (bst x.v)] 44)) 0 none 0 0 [] from CS.nil)
    clear hb1 hT ha hc hn hf hf'
    unfold pageV Cl.val at *
    go_enter Tryd.func6, Tryd.ntmps6
    go_wp2_with fail
    generalize (w.alloc (.cells #[.bool leaf, .int .i64 next, .slice A n c] 24)).alloc (.cells #[.string (bst x.k), .string (bst x.v)] 44) = w1 at *
    obtain ⟨g, hg⟩ : ∃ g, w.heap.size = g := ⟨_, rfl⟩
    rw [hg] at HX1 HY1 ⊢
    have HGE := hid hg
    clear hg
    have x0 := HX1.out.cell 0
    have x1 := HX1.out.cell 1
    have x2 := HX1.out.cell 2
    have y0 := HY1.out.cell 0
    have y1 := HY1.out.cell 1

    go_fit HF.out
    rintro e w2 ⟨rfl, hb2⟩
    have HB2 := hid (below_step HB1.out hb2)
    have HX2 := hid (HX1.out.below hb2 HX1.out.lt)
    have HY2 := hid (HY1.out.below hb2 HY1.out.lt)
    have HC2 := hid (HC1.out.step hb2)
    clear HX1 HY1 HC1 HB1
    clear hb2 HF x0 x1 x2 y0 y1
    have x0 := HX2.out.cell 0
    have x1 := HX2.out.cell 1
    have x2 := HX2.out.cell 2
    have y0 := HY2.out.cell 0
    have y1 := HY2.out.cell 1
    go_wp2_with fail
    go_fit (HAW.out _ HB2.out)
    rintro e w9 ⟨rfl, hbz⟩
    have HBZ := hid (below_step HB2.out hbz)
    clear hbz
    go_wp2_with fail
    go_ret
    exact ⟨rfl, HBZ.out⟩
  have HC1 := hid (CS.few (CAt.step ha (Nat.le_refl _) hb1) hn hc hb1.size hf)
  rw [hf] at HF
  have HNM := hid (show n ≤ 1000000 by have := (few_of hf).len; omega)
  clear hb1 hT ha hc hn hf
  have zk := bst_size x.k
  have zv := bst_size x.v
  unfold pageV at HF
  unfold pageV Cl.val
  by_cases hr : risesC l = true
  case neg =>
    have HRI := hid (show risesC l = false by simpa using hr)
    clear hr
    go_enter Tryd.func6, Tryd.ntmps6
    go_wp2_with fail
    generalize (w.alloc (.cells #[.bool leaf, .int .i64 next, .slice A n c] 24)).alloc (.cells #[.string (bst x.k), .string (bst x.v)] 44) = w1 at *
    obtain ⟨g, hg⟩ : ∃ g, w.heap.size = g := ⟨_, rfl⟩
    rw [hg] at HX1 HY1 ⊢
    have HGE := hid hg
    clear hg
    have x0 := HX1.out.cell 0
    have x1 := HX1.out.cell 1
    have x2 := HX1.out.cell 2
    have y0 := HY1.out.cell 0
    have y1 := HY1.out.cell 1

    go_fit HF.out
    rintro e w2 ⟨rfl, hb2⟩
    have HB2 := hid (below_step HB1.out hb2)
    have HX2 := hid (HX1.out.below hb2 HX1.out.lt)
    have HY2 := hid (HY1.out.below hb2 HY1.out.lt)
    have HC2 := hid (HC1.out.step hb2)
    clear HX1 HY1 HC1 HB1
    clear hb2 HF x0 x1 x2 y0 y1
    have x0 := HX2.out.cell 0
    have x1 := HX2.out.cell 1
    have x2 := HX2.out.cell 2
    have y0 := HY2.out.cell 0
    have y1 := HY2.out.cell 1
    have HR := hid (refRises_any (leaf := leaf) (next := next) HC2.out)
    rw [HRI.out] at HR
    unfold pageV at HR
    go_wp2_with fail
    go_fit HR.out
    rintro e w3 ⟨rfl, hb3⟩
    have HB3 := hid (below_step HB2.out hb3)
    have HX3 := hid (HX2.out.below hb3 HX2.out.lt)
    have HY3 := hid (HY2.out.below hb3 HY2.out.lt)
    have HC3 := hid (HC2.out.step hb3)
    clear HX2 HY2 HC2 HB2
    clear hb3 HR x0 x1 x2 y0 y1
    have x0 := HX3.out.cell 0
    have x1 := HX3.out.cell 1
    have x2 := HX3.out.cell 2
    have y0 := HY3.out.cell 0
    have y1 := HY3.out.cell 1
    go_wp2_with fail
    go_fit (HAW.out _ HB3.out)
    rintro e w9 ⟨rfl, hbz⟩
    have HBZ := hid (below_step HB3.out hbz)
    clear hbz
    go_wp2_with fail
    go_ret
    exact ⟨rfl, HBZ.out⟩
  have HRI := hid hr
  have HRS0 := hid (ris_of hr)
  have HLM := hid (mono_of (ris_of hr) x.k)
  clear hr
  by_cases h6 : 600 < x.k.length
  case pos =>
    have h6' : (600 : Int) < (x.k.length : Int) := by omega
    go_enter Tryd.func6, Tryd.ntmps6
    go_wp2_with fail
    generalize (w.alloc (.cells #[.bool leaf, .int .i64 next, .slice A n c] 24)).alloc (.cells #[.string (bst x.k), .string (bst x.v)] 44) = w1 at *
    obtain ⟨g, hg⟩ : ∃ g, w.heap.size = g := ⟨_, rfl⟩
    rw [hg] at HX1 HY1 ⊢
    have HGE := hid hg
    clear hg
    have x0 := HX1.out.cell 0
    have x1 := HX1.out.cell 1
    have x2 := HX1.out.cell 2
    have y0 := HY1.out.cell 0
    have y1 := HY1.out.cell 1

    go_fit HF.out
    rintro e w2 ⟨rfl, hb2⟩
    have HB2 := hid (below_step HB1.out hb2)
    have HX2 := hid (HX1.out.below hb2 HX1.out.lt)
    have HY2 := hid (HY1.out.below hb2 HY1.out.lt)
    have HC2 := hid (HC1.out.step hb2)
    clear HX1 HY1 HC1 HB1
    clear hb2 HF x0 x1 x2 y0 y1
    have x0 := HX2.out.cell 0
    have x1 := HX2.out.cell 1
    have x2 := HX2.out.cell 2
    have y0 := HY2.out.cell 0
    have y1 := HY2.out.cell 1
    have HR := hid (refRises_any (leaf := leaf) (next := next) HC2.out)
    rw [HRI.out] at HR
    unfold pageV at HR
    go_wp2_with fail
    go_fit HR.out
    rintro e w3 ⟨rfl, hb3⟩
    have HB3 := hid (below_step HB2.out hb3)
    have HX3 := hid (HX2.out.below hb3 HX2.out.lt)
    have HY3 := hid (HY2.out.below hb3 HY2.out.lt)
    have HC3 := hid (HC2.out.step hb3)
    clear HX2 HY2 HC2 HB2
    clear hb3 HR x0 x1 x2 y0 y1
    have x0 := HX3.out.cell 0
    have x1 := HX3.out.cell 1
    have x2 := HX3.out.cell 2
    have y0 := HY3.out.cell 0
    have y1 := HY3.out.cell 1
    go_wp2_with fail
    go_fit (HAW.out _ HB3.out)
    rintro e w9 ⟨rfl, hbz⟩
    have HBZ := hid (below_step HB3.out hbz)
    clear hbz
    go_wp2_with fail
    go_ret
    exact ⟨rfl, HBZ.out⟩
  have h6' : ¬ (600 : Int) < (x.k.length : Int) := by omega
  by_cases h7 : 600 < x.v.length
  case pos =>
    have h7' : (600 : Int) < (x.v.length : Int) := by omega
    go_enter Tryd.func6, Tryd.ntmps6
    go_wp2_with fail
    generalize (w.alloc (.cells #[.bool leaf, .int .i64 next, .slice A n c] 24)).alloc (.cells #[.string (bst x.k), .string (bst x.v)] 44) = w1 at *
    obtain ⟨g, hg⟩ : ∃ g, w.heap.size = g := ⟨_, rfl⟩
    rw [hg] at HX1 HY1 ⊢
    have HGE := hid hg
    clear hg
    have x0 := HX1.out.cell 0
    have x1 := HX1.out.cell 1
    have x2 := HX1.out.cell 2
    have y0 := HY1.out.cell 0
    have y1 := HY1.out.cell 1

    go_fit HF.out
    rintro e w2 ⟨rfl, hb2⟩
    have HB2 := hid (below_step HB1.out hb2)
    have HX2 := hid (HX1.out.below hb2 HX1.out.lt)
    have HY2 := hid (HY1.out.below hb2 HY1.out.lt)
    have HC2 := hid (HC1.out.step hb2)
    clear HX1 HY1 HC1 HB1
    clear hb2 HF x0 x1 x2 y0 y1
    have x0 := HX2.out.cell 0
    have x1 := HX2.out.cell 1
    have x2 := HX2.out.cell 2
    have y0 := HY2.out.cell 0
    have y1 := HY2.out.cell 1
    have HR := hid (refRises_any (leaf := leaf) (next := next) HC2.out)
    rw [HRI.out] at HR
    unfold pageV at HR
    go_wp2_with fail
    go_fit HR.out
    rintro e w3 ⟨rfl, hb3⟩
    have HB3 := hid (below_step HB2.out hb3)
    have HX3 := hid (HX2.out.below hb3 HX2.out.lt)
    have HY3 := hid (HY2.out.below hb3 HY2.out.lt)
    have HC3 := hid (HC2.out.step hb3)
    clear HX2 HY2 HC2 HB2
    clear hb3 HR x0 x1 x2 y0 y1
    have x0 := HX3.out.cell 0
    have x1 := HX3.out.cell 1
    have x2 := HX3.out.cell 2
    have y0 := HY3.out.cell 0
    have y1 := HY3.out.cell 1
    go_wp2_with fail
    go_fit (HAW.out _ HB3.out)
    rintro e w9 ⟨rfl, hbz⟩
    have HBZ := hid (below_step HB3.out hbz)
    clear hbz
    go_wp2_with fail
    go_ret
    exact ⟨rfl, HBZ.out⟩
  have h7' : ¬ (600 : Int) < (x.v.length : Int) := by omega
  have hwr : IntKind.i64.wrap ((x.k.length : Int) + (x.v.length : Int)) = (x.k.length : Int) + (x.v.length : Int) := IntWalk.i64_in _ ⟨by omega, by omega⟩
  by_cases h8 : 480 < x.k.length + x.v.length
  case pos =>
    have h8' : (480 : Int) < (x.k.length : Int) + (x.v.length : Int) := by omega
    have HPL := hid (fun (W : World) => put_long (leaf := leaf) (next := next) (A := A) (n := n) (c := c) (w := W) (by omega) (by omega) h8)
    unfold pageV Cl.val at HPL
    clear h8 h6 h7
    go_enter Tryd.func6, Tryd.ntmps6
    go_wp2_with fail
    generalize (w.alloc (.cells #[.bool leaf, .int .i64 next, .slice A n c] 24)).alloc (.cells #[.string (bst x.k), .string (bst x.v)] 44) = w1 at *
    obtain ⟨g, hg⟩ : ∃ g, w.heap.size = g := ⟨_, rfl⟩
    rw [hg] at HX1 HY1 ⊢
    have HGE := hid hg
    clear hg
    have x0 := HX1.out.cell 0
    have x1 := HX1.out.cell 1
    have x2 := HX1.out.cell 2
    have y0 := HY1.out.cell 0
    have y1 := HY1.out.cell 1

    go_fit HF.out
    rintro e w2 ⟨rfl, hb2⟩
    have HB2 := hid (below_step HB1.out hb2)
    have HX2 := hid (HX1.out.below hb2 HX1.out.lt)
    have HY2 := hid (HY1.out.below hb2 HY1.out.lt)
    have HC2 := hid (HC1.out.step hb2)
    clear HX1 HY1 HC1 HB1
    clear hb2 HF x0 x1 x2 y0 y1
    have x0 := HX2.out.cell 0
    have x1 := HX2.out.cell 1
    have x2 := HX2.out.cell 2
    have y0 := HY2.out.cell 0
    have y1 := HY2.out.cell 1
    have HR := hid (refRises_any (leaf := leaf) (next := next) HC2.out)
    rw [HRI.out] at HR
    unfold pageV at HR
    go_wp2_with fail
    go_fit HR.out
    rintro e w3 ⟨rfl, hb3⟩
    have HB3 := hid (below_step HB2.out hb3)
    have HX3 := hid (HX2.out.below hb3 HX2.out.lt)
    have HY3 := hid (HY2.out.below hb3 HY2.out.lt)
    have HC3 := hid (HC2.out.step hb3)
    clear HX2 HY2 HC2 HB2
    clear hb3 HR x0 x1 x2 y0 y1
    have x0 := HX3.out.cell 0
    have x1 := HX3.out.cell 1
    have x2 := HX3.out.cell 2
    have y0 := HY3.out.cell 0
    have y1 := HY3.out.cell 1
    go_wp2_with fail
    go_fit (HPL.out _)
    rintro e w4 ⟨rfl, hb4⟩
    have HB4 := hid (below_step HB3.out hb4)
    have HX4 := hid (HX3.out.below hb4 HX3.out.lt)
    have HY4 := hid (HY3.out.below hb4 HY3.out.lt)
    clear HX3 HY3 HC3 HB3
    clear hb4 HPL x0 x1 x2 y0 y1
    have ha := (Below.refl w4.heap.size w4).alloc (Nat.le_refl _) (.cells #[.bool false, .int .i64 0, .slice none 0 0] 24)
    have HB5 := hid (below_step HB4.out ha)
    have HX5 := hid (HX4.out.below ha HX4.out.lt)
    have HY5 := hid (HY4.out.below ha HY4.out.lt)
    have HV5 := hid (Blk.new w4 24 #[.bool false, .int .i64 0, .slice none 0 0])
    clear HX4 HY4 HB4
    clear ha
    go_upto_region 4 with fail
    generalize w4.alloc (.cells #[.bool false, .int .i64 0, .slice none 0 0] 24) = w5 at *
    obtain ⟨g5, hg⟩ : ∃ g, w4.heap.size = g := ⟨_, rfl⟩
    rw [hg] at HV5 ⊢
    clear hg
    have y0 := HY5.out.cell 0
    have y1 := HY5.out.cell 1
    have v0 := HV5.out.cell 0
    have v1 := HV5.out.cell 1
    have v2 := HV5.out.cell 2
    go_wp2_with fail
    go_fit (HAW.out _ HB5.out)
    rintro e w6 ⟨rfl, hb6⟩
    have HB6 := hid (below_step HB5.out hb6)
    have HV6 := hid (HV5.out.below hb6 HV5.out.lt)
    have HSN := hid (fun (W : World) => refSame_any (leaf := false) (leaf2 := false) (next := 0) (next2 := 0) (CS.nil (w := W) (c := 0)) (CS.nil (w := W) (c := 0)))
    rw [sameP_self] at HSN
    unfold pageV at HSN
    clear hb6 y0 y1 v0 v1 v2
    have v0 := HV6.out.cell 0
    have v1 := HV6.out.cell 1
    have v2 := HV6.out.cell 2
    go_wp2_with fail
    go_fit (HSN.out _)
    rintro e w7 ⟨rfl, hb7⟩
    have HB7 := hid (below_step HB6.out hb7)
    clear hb7 HSN v0 v1 v2
    go_wp2_with fail
    go_ret
    exact ⟨rfl, HB7.out⟩
  have h8' : ¬ (480 : Int) < (x.k.length : Int) + (x.v.length : Int) := by omega
  have HKV := hid (show x.k.length + x.v.length ≤ 480 by omega)
  have HPM := hid (mono_put HLM.out)
  have HPH := hid (has_put x l)
  have HDP0 := hid (del_put x l)
  clear h6 h7 h8
  by_cases hh : hasK x.k l = true
  case pos =>
    have HHK := hid hh
    have HDP := hid (show delC x.k (putC x l) = delC x.k l by rw [HDP0.out, if_pos hh])
    clear hh HDP0
    go_enter Tryd.func6, Tryd.ntmps6
    go_wp2_with fail
    generalize (w.alloc (.cells #[.bool leaf, .int .i64 next, .slice A n c] 24)).alloc (.cells #[.string (bst x.k), .string (bst x.v)] 44) = w1 at *
    obtain ⟨g, hg⟩ : ∃ g, w.heap.size = g := ⟨_, rfl⟩
    rw [hg] at HX1 HY1 ⊢
    have HGE := hid hg
    clear hg
    have x0 := HX1.out.cell 0
    have x1 := HX1.out.cell 1
    have x2 := HX1.out.cell 2
    have y0 := HY1.out.cell 0
    have y1 := HY1.out.cell 1

    go_fit HF.out
    rintro e w2 ⟨rfl, hb2⟩
    have HB2 := hid (below_step HB1.out hb2)
    have HX2 := hid (HX1.out.below hb2 HX1.out.lt)
    have HY2 := hid (HY1.out.below hb2 HY1.out.lt)
    have HC2 := hid (HC1.out.step hb2)
    clear HX1 HY1 HC1 HB1
    clear hb2 HF x0 x1 x2 y0 y1
    have x0 := HX2.out.cell 0
    have x1 := HX2.out.cell 1
    have x2 := HX2.out.cell 2
    have y0 := HY2.out.cell 0
    have y1 := HY2.out.cell 1
    have HR := hid (refRises_any (leaf := leaf) (next := next) HC2.out)
    rw [HRI.out] at HR
    unfold pageV at HR
    go_wp2_with fail
    go_fit HR.out
    rintro e w3 ⟨rfl, hb3⟩
    have HB3 := hid (below_step HB2.out hb3)
    have HX3 := hid (HX2.out.below hb3 HX2.out.lt)
    have HY3 := hid (HY2.out.below hb3 HY2.out.lt)
    have HC3 := hid (HC2.out.step hb3)
    clear HX2 HY2 HC2 HB2
    clear hb3 HR x0 x1 x2 y0 y1
    have x0 := HX3.out.cell 0
    have x1 := HX3.out.cell 1
    have x2 := HX3.out.cell 2
    have y0 := HY3.out.cell 0
    have y1 := HY3.out.cell 1
    have HPT := hid (put_any (leaf := leaf) (next := next) HC3.out HNM.out HLM.out HKV.out)
    unfold pageV Cl.val at HPT
    go_wp2_with fail
    go_fit HPT.out
    rintro e w4 ⟨A4, m4, c4, rfl, h4, hb4⟩
    have HB4 := hid (below_step HB3.out hb4)
    have HX4 := hid (HX3.out.below hb4 HX3.out.lt)
    have HY4 := hid (HY3.out.below hb4 HY3.out.lt)
    have HC4 := hid (HC3.out.step hb4)
    clear HX3 HY3 HC3 HB3
    clear hb4 HPT x0 x1 x2 y0 y1
    have ha := (Below.refl w4.heap.size w4).alloc (Nat.le_refl _) (.cells #[.bool leaf, .int .i64 next, .slice A4 m4 c4] 24)
    have HB5 := hid (below_step HB4.out ha)
    have HX5 := hid (HX4.out.below ha HX4.out.lt)
    have HY5 := hid (HY4.out.below ha HY4.out.lt)
    have HC5 := hid (HC4.out.step ha)
    have HV5 := hid (Blk.new w4 24 #[.bool leaf, .int .i64 next, .slice A4 m4 c4])
    have HD5 := hid (CS.step h4 ha)
    clear HX4 HY4 HC4 HB4
    clear ha
    go_upto_region 4 with fail
    generalize w4.alloc (.cells #[.bool leaf, .int .i64 next, .slice A4 m4 c4] 24) = w5 at *
    obtain ⟨g5, hg⟩ : ∃ g, w4.heap.size = g := ⟨_, rfl⟩
    rw [hg] at HV5 HD5 ⊢
    clear hg
    clear h4
    have x0 := HX5.out.cell 0
    have x1 := HX5.out.cell 1
    have x2 := HX5.out.cell 2
    have y0 := HY5.out.cell 0
    have y1 := HY5.out.cell 1

    go_upto_region 6 with fail
    clear x0 x1 x2 y0 y1
    have HRP := hid (fun (W : World) (hW : Beyond w5 W) => refPut_any (leaf := leaf) (next := next) (x := x) (HC5.out.step hW) HNM.out HRS0.out)
    have HRS := hid (fun (W : World) (A' : Option Addr) (m' c' : Nat) (hW : Beyond w5 W) (h : CS W W.heap.size A' m' c' (putC x l)) => refSame_any (leaf := leaf) (leaf2 := leaf) (next := next) (next2 := next) (HD5.out.step hW) h)
    rw [sameP_self] at HRS
    unfold pageV Cl.val at HRP
    unfold pageV at HRS
    have z00 : ∀ W, Beyond w5 W → W.cell? ⟨g, 0, none⟩ = some (.bool leaf) := fun W hW => (HX5.out.below hW HX5.out.lt).cell 0
    have z01 : ∀ W, Beyond w5 W → W.cell? ⟨g, 1, none⟩ = some (.int .i64 next) := fun W hW => (HX5.out.below hW HX5.out.lt).cell 1
    have z02 : ∀ W, Beyond w5 W → W.cell? ⟨g, 2, none⟩ = some (.slice A n c) := fun W hW => (HX5.out.below hW HX5.out.lt).cell 2
    have z10 : ∀ W, Beyond w5 W → W.cell? ⟨g + 1, 0, none⟩ = some (.string (bst x.k)) := fun W hW => (HY5.out.below hW HY5.out.lt).cell 0
    have z11 : ∀ W, Beyond w5 W → W.cell? ⟨g + 1, 1, none⟩ = some (.string (bst x.v)) := fun W hW => (HY5.out.below hW HY5.out.lt).cell 1
    have z50 : ∀ W, Beyond w5 W → W.cell? ⟨g5, 0, none⟩ = some (.bool leaf) := fun W hW => (HV5.out.below hW HV5.out.lt).cell 0
    have z51 : ∀ W, Beyond w5 W → W.cell? ⟨g5, 1, none⟩ = some (.int .i64 next) := fun W hW => (HV5.out.below hW HV5.out.lt).cell 1
    have z52 : ∀ W, Beyond w5 W → W.cell? ⟨g5, 2, none⟩ = some (.slice A4 m4 c4) := fun W hW => (HV5.out.below hW HV5.out.lt).cell 2
    refine wp_region_held_drew (S := Beyond w5) (by kernel_rfl) (Beyond.drew _) (fun hS => ?_)
    refine take_step (i := 0) (by simp only [List.getElem?_toArray, List.getElem?_cons_zero]; rfl) (by kernel_rfl) (by kernel_rfl) (by kernel_rfl) (by intro _ _ _ h; exact h) (by rfl) (fun W hW => by go_simp; first | done | with_reducible rfl) hS ?_
    try simp only [Act.put, List.setIfInBounds_toArray, List.set_cons_zero, List.set_cons_succ]
    refine take_step (i := 1) (by simp only [List.getElem?_toArray, List.getElem?_cons_succ, List.getElem?_cons_zero]; rfl) (by kernel_rfl) (by kernel_rfl) (by kernel_rfl) (by intro _ _ _ h; exact h) (by rfl) (fun W hW => by go_simp; first | done | with_reducible rfl) hS ?_
    try simp only [Act.put, List.setIfInBounds_toArray, List.set_cons_zero, List.set_cons_succ]
    refine take_step (i := 2) (by simp only [List.getElem?_toArray, List.getElem?_cons_succ, List.getElem?_cons_zero]; rfl) (by kernel_rfl) (by kernel_rfl) (by kernel_rfl) (by intro _ _ _ h; exact h) (by rfl) (fun W hW => by go_simp; first | done | with_reducible rfl) hS ?_
    try simp only [Act.put, List.setIfInBounds_toArray, List.set_cons_zero, List.set_cons_succ]
    first | (refine take_step (i := 3) (by simp only [List.getElem?_toArray, List.getElem?_cons_succ, List.getElem?_cons_zero]; rfl) (by kernel_rfl) (by kernel_rfl) (by kernel_rfl) (by intro _ _ _ h; exact h) (by rfl) (fun W hW => by go_simp; first | done | with_reducible rfl) hS ?_) | (refine skip_step (i := 3) (by simp only [List.getElem?_toArray, List.getElem?_cons_succ, List.getElem?_cons_zero]; rfl) (by kernel_rfl) (by kernel_rfl) (by kernel_rfl) (by intro _ _ _ h; exact h) (by rfl) hS ?_)
    try simp only [Act.put, List.setIfInBounds_toArray, List.set_cons_zero, List.set_cons_succ]
    first | (refine take_step (i := 4) (by simp only [List.getElem?_toArray, List.getElem?_cons_succ, List.getElem?_cons_zero]; rfl) (by kernel_rfl) (by kernel_rfl) (by kernel_rfl) (by intro _ _ _ h; exact h) (by rfl) (fun W hW => by go_simp; first | done | with_reducible rfl) hS ?_) | (refine skip_step (i := 4) (by simp only [List.getElem?_toArray, List.getElem?_cons_succ, List.getElem?_cons_zero]; rfl) (by kernel_rfl) (by kernel_rfl) (by kernel_rfl) (by intro _ _ _ h; exact h) (by rfl) hS ?_)
    try simp only [Act.put, List.setIfInBounds_toArray, List.set_cons_zero, List.set_cons_succ]
    first | (refine take_step (i := 5) (by simp only [List.getElem?_toArray, List.getElem?_cons_succ, List.getElem?_cons_zero]; rfl) (by kernel_rfl) (by kernel_rfl) (by kernel_rfl) (by intro _ _ _ h; exact h) (by rfl) (fun W hW => by go_simp; first | done | with_reducible rfl) hS ?_) | (refine skip_step (i := 5) (by simp only [List.getElem?_toArray, List.getElem?_cons_succ, List.getElem?_cons_zero]; rfl) (by kernel_rfl) (by kernel_rfl) (by kernel_rfl) (by intro _ _ _ h; exact h) (by rfl) hS ?_)
    try simp only [Act.put, List.setIfInBounds_toArray, List.set_cons_zero, List.set_cons_succ]
    refine wpAnyH_ready (rs := [6]) (by kernel_rfl) (by simp) ?_
    refine AllReadyH.cons (by simp only [List.getElem?_toArray, List.getElem?_cons_succ, List.getElem?_cons_zero]; rfl) (fun K hK => ?_) AllReadyH.nil
    go_simp
    go_fit (HRP.out _ hS)
    rintro e wa ⟨Aj, mj, cj, rfl, hj, hba⟩
    have hS6 := Beyond.step hS hba
    have HCj := hid hj
    clear hj hba
    refine hK.out _ _ (by assumption) (fun _ => ?_)
    clear hK K hS
    have hS := hS6
    try simp only [Act.put, List.setIfInBounds_toArray, List.set_cons_zero, List.set_cons_succ]
    refine wpAnyH_ready (rs := [7]) (by kernel_rfl) (by simp) ?_
    refine AllReadyH.cons (by simp only [List.getElem?_toArray, List.getElem?_cons_succ, List.getElem?_cons_zero]; rfl) (fun K hK => ?_) AllReadyH.nil
    go_simp
    go_fit (HRS.out _ _ _ _ hS HCj.out)
    rintro e wb ⟨rfl, hbb⟩
    have hS7 := Beyond.step hS hbb
    clear hbb
    refine hK.out _ _ (by assumption) (fun _ => ?_)
    clear hK K hS
    have hS := hS7
    try simp only [Act.put, List.setIfInBounds_toArray, List.set_cons_zero, List.set_cons_succ]
    first | (refine take_step (i := 8) (by simp only [List.getElem?_toArray, List.getElem?_cons_succ, List.getElem?_cons_zero]; rfl) (by kernel_rfl) (by kernel_rfl) (by kernel_rfl) (by intro _ _ _ h; exact h) (by rfl) (fun W hW => by go_simp; first | done | with_reducible rfl) hS ?_) | (refine skip_step (i := 8) (by simp only [List.getElem?_toArray, List.getElem?_cons_succ, List.getElem?_cons_zero]; rfl) (by kernel_rfl) (by kernel_rfl) (by kernel_rfl) (by intro _ _ _ h; exact h) (by rfl) hS ?_)
    try simp only [Act.put, List.setIfInBounds_toArray, List.set_cons_zero, List.set_cons_succ]
    refine take_step (i := 9) (by simp only [List.getElem?_toArray, List.getElem?_cons_succ, List.getElem?_cons_zero]; rfl) (by kernel_rfl) (by kernel_rfl) (by kernel_rfl) (by intro _ _ _ h; exact h) (by rfl) (fun W hW => by go_simp; first | done | with_reducible rfl) hS ?_
    try simp only [Act.put, List.setIfInBounds_toArray, List.set_cons_zero, List.set_cons_succ]
    refine wpAnyH_done (by kernel_rfl) ?_ _
    have HB6 := hid (below_step HB5.out hS7)
    have HX6 := hid (HX5.out.below hS7 HX5.out.lt)
    have HY6 := hid (HY5.out.below hS7 HY5.out.lt)
    have HV6 := hid (HV5.out.below hS7 HV5.out.lt)
    have HC6 := hid (HC5.out.step hS7)
    have HD6 := hid (HD5.out.step hS7)
    clear HX5 HY5 HV5 HC5 HD5 HB5
    generalize wb = w6 at *
    
    have HRM := hid (rem_any (leaf := leaf) (next := next) HD6.out HPM.out HPH.out)
    rw [HDP.out] at HRM
    unfold pageV at HRM
    clear z00 z01 z02 z10 z11 z50 z51 z52 hS hS6 hS7 HRP HRS HCj
    have x0 := HX6.out.cell 0
    have x1 := HX6.out.cell 1
    have x2 := HX6.out.cell 2
    have y0 := HY6.out.cell 0
    have y1 := HY6.out.cell 1
    have v0 := HV6.out.cell 0
    have v1 := HV6.out.cell 1
    have v2 := HV6.out.cell 2
    
    go_wp2_with fail
    go_fit HRM.out
    rintro e w7 ⟨A7, m7, c7, rfl, h7, hb7⟩
    have HB7 := hid (below_step HB6.out hb7)
    have HX7 := hid (HX6.out.below hb7 HX6.out.lt)
    have HY7 := hid (HY6.out.below hb7 HY6.out.lt)
    have HV7 := hid (HV6.out.below hb7 HV6.out.lt)
    have HC7 := hid (HC6.out.step hb7)
    clear HX6 HY6 HV6 HC6 HB6
    clear hb7 HRM HD6 x0 x1 x2 y0 y1 v0 v1 v2
    have ha := (Below.refl w7.heap.size w7).alloc (Nat.le_refl _) (.cells #[.bool leaf, .int .i64 next, .slice A7 m7 c7] 24)
    have HB8 := hid (below_step HB7.out ha)
    have HX8 := hid (HX7.out.below ha HX7.out.lt)
    have HY8 := hid (HY7.out.below ha HY7.out.lt)
    have HV8 := hid (HV7.out.below ha HV7.out.lt)
    have HC8 := hid (HC7.out.step ha)
    have HU8 := hid (Blk.new w7 24 #[.bool leaf, .int .i64 next, .slice A7 m7 c7])
    have HE8 := hid (CS.step h7 ha)
    clear HX7 HY7 HV7 HC7 HB7
    clear ha
    go_upto_region 9 with fail
    generalize w7.alloc (.cells #[.bool leaf, .int .i64 next, .slice A7 m7 c7] 24) = w8 at *
    obtain ⟨g7, hg⟩ : ∃ g, w7.heap.size = g := ⟨_, rfl⟩
    rw [hg] at HU8 HE8 ⊢
    clear hg
    clear h7
    have HRN := hid (rem_any (leaf := leaf) (next := next) HC8.out HLM.out HHK.out)
    unfold pageV at HRN
    have x0 := HX8.out.cell 0
    have x1 := HX8.out.cell 1
    have x2 := HX8.out.cell 2
    have y0 := HY8.out.cell 0
    have y1 := HY8.out.cell 1
    
    go_wp2_with fail
    go_fit HRN.out
    rintro e w9 ⟨A9, m9, c9, rfl, h9, hb9⟩
    have HB9 := hid (below_step HB8.out hb9)
    have HX9 := hid (HX8.out.below hb9 HX8.out.lt)
    have HY9 := hid (HY8.out.below hb9 HY8.out.lt)
    have HU9 := hid (HU8.out.below hb9 HU8.out.lt)
    have HC9 := hid (HC8.out.step hb9)
    have HE9 := hid (HE8.out.step hb9)
    clear HX8 HY8 HU8 HC8 HE8 HB8
    clear hb9 HRN HV8 x0 x1 x2 y0 y1
    have ha := (Below.refl w9.heap.size w9).alloc (Nat.le_refl _) (.cells #[.bool leaf, .int .i64 next, .slice A9 m9 c9] 24)
    have HBa := hid (below_step HB9.out ha)
    have HXa := hid (HX9.out.below ha HX9.out.lt)
    have HYa := hid (HY9.out.below ha HY9.out.lt)
    have HUa := hid (HU9.out.below ha HU9.out.lt)
    have HCa := hid (HC9.out.step ha)
    have HEa := hid (HE9.out.step ha)
    have HTa := hid (Blk.new w9 24 #[.bool leaf, .int .i64 next, .slice A9 m9 c9])
    have HGa := hid (CS.step h9 ha)
    clear HX9 HY9 HU9 HC9 HE9 HB9
    clear ha
    go_upto_region 10 with fail
    generalize w9.alloc (.cells #[.bool leaf, .int .i64 next, .slice A9 m9 c9] 24) = wa at *
    obtain ⟨g9, hg⟩ : ∃ g, w9.heap.size = g := ⟨_, rfl⟩
    rw [hg] at HTa HGa ⊢
    clear hg
    clear h9
    have HFD := hid (refFind_any (leaf := leaf) (next := next) (K := x.k) HCa.out)
    rw [HHK.out] at HFD
    unfold pageV at HFD
    have x0 := HXa.out.cell 0
    have x1 := HXa.out.cell 1
    have x2 := HXa.out.cell 2
    have y0 := HYa.out.cell 0
    have y1 := HYa.out.cell 1
    
    go_wp2_with fail
    go_fit HFD.out
    rintro e wb ⟨rfl, hbb⟩
    have HBb := hid (below_step HBa.out hbb)
    have HXb := hid (HXa.out.below hbb HXa.out.lt)
    have HUb := hid (HUa.out.below hbb HUa.out.lt)
    have HTb := hid (HTa.out.below hbb HTa.out.lt)
    have HCb := hid (HCa.out.step hbb)
    have HEb := hid (HEa.out.step hbb)
    have HGb := hid (HGa.out.step hbb)
    clear HXa HYa HUa HTa HCa HEa HGa HBa
    clear hbb HFD x0 x1 x2 y0 y1
    
    go_wp2_with fail
    go_fit (HAW.out _ HBb.out)
    rintro e wc ⟨rfl, hbc⟩
    have HBc := hid (below_step HBb.out hbc)
    have HXc := hid (HXb.out.below hbc HXb.out.lt)
    have HUc := hid (HUb.out.below hbc HUb.out.lt)
    have HTc := hid (HTb.out.below hbc HTb.out.lt)
    have HCc := hid (HCb.out.step hbc)
    have HEc := hid (HEb.out.step hbc)
    have HGc := hid (HGb.out.step hbc)
    clear HXb HUb HTb HCb HEb HGb HBb
    clear hbc
    have HSM := hid (refSame_any (leaf := leaf) (leaf2 := leaf) (next := next) (next2 := next) HEc.out HGc.out)
    rw [sameP_self] at HSM
    unfold pageV at HSM
    have u0 := HUc.out.cell 0
    have u1 := HUc.out.cell 1
    have u2 := HUc.out.cell 2
    have t0 := HTc.out.cell 0
    have t1 := HTc.out.cell 1
    have t2 := HTc.out.cell 2
    
    go_wp2_with fail
    go_fit HSM.out
    rintro e wd ⟨rfl, hbd⟩
    have HBd := hid (below_step HBc.out hbd)
    clear hbd HSM u0 u1 u2 t0 t1 t2
    go_wp2_with fail
    go_ret
    exact ⟨rfl, HBd.out⟩
  case neg =>
    have HHK := hid (show hasK x.k l = false by simpa using hh)
    have HDP := hid (show delC x.k (putC x l) = l by rw [HDP0.out, if_neg hh])
    clear hh HDP0
    go_enter Tryd.func6, Tryd.ntmps6
    go_wp2_with fail
    generalize (w.alloc (.cells #[.bool leaf, .int .i64 next, .slice A n c] 24)).alloc (.cells #[.string (bst x.k), .string (bst x.v)] 44) = w1 at *
    obtain ⟨g, hg⟩ : ∃ g, w.heap.size = g := ⟨_, rfl⟩
    rw [hg] at HX1 HY1 ⊢
    have HGE := hid hg
    clear hg
    have x0 := HX1.out.cell 0
    have x1 := HX1.out.cell 1
    have x2 := HX1.out.cell 2
    have y0 := HY1.out.cell 0
    have y1 := HY1.out.cell 1

    go_fit HF.out
    rintro e w2 ⟨rfl, hb2⟩
    have HB2 := hid (below_step HB1.out hb2)
    have HX2 := hid (HX1.out.below hb2 HX1.out.lt)
    have HY2 := hid (HY1.out.below hb2 HY1.out.lt)
    have HC2 := hid (HC1.out.step hb2)
    clear HX1 HY1 HC1 HB1
    clear hb2 HF x0 x1 x2 y0 y1
    have x0 := HX2.out.cell 0
    have x1 := HX2.out.cell 1
    have x2 := HX2.out.cell 2
    have y0 := HY2.out.cell 0
    have y1 := HY2.out.cell 1
    have HR := hid (refRises_any (leaf := leaf) (next := next) HC2.out)
    rw [HRI.out] at HR
    unfold pageV at HR
    go_wp2_with fail
    go_fit HR.out
    rintro e w3 ⟨rfl, hb3⟩
    have HB3 := hid (below_step HB2.out hb3)
    have HX3 := hid (HX2.out.below hb3 HX2.out.lt)
    have HY3 := hid (HY2.out.below hb3 HY2.out.lt)
    have HC3 := hid (HC2.out.step hb3)
    clear HX2 HY2 HC2 HB2
    clear hb3 HR x0 x1 x2 y0 y1
    have x0 := HX3.out.cell 0
    have x1 := HX3.out.cell 1
    have x2 := HX3.out.cell 2
    have y0 := HY3.out.cell 0
    have y1 := HY3.out.cell 1
    have HPT := hid (put_any (leaf := leaf) (next := next) HC3.out HNM.out HLM.out HKV.out)
    unfold pageV Cl.val at HPT
    go_wp2_with fail
    go_fit HPT.out
    rintro e w4 ⟨A4, m4, c4, rfl, h4, hb4⟩
    have HB4 := hid (below_step HB3.out hb4)
    have HX4 := hid (HX3.out.below hb4 HX3.out.lt)
    have HY4 := hid (HY3.out.below hb4 HY3.out.lt)
    have HC4 := hid (HC3.out.step hb4)
    clear HX3 HY3 HC3 HB3
    clear hb4 HPT x0 x1 x2 y0 y1
    have ha := (Below.refl w4.heap.size w4).alloc (Nat.le_refl _) (.cells #[.bool leaf, .int .i64 next, .slice A4 m4 c4] 24)
    have HB5 := hid (below_step HB4.out ha)
    have HX5 := hid (HX4.out.below ha HX4.out.lt)
    have HY5 := hid (HY4.out.below ha HY4.out.lt)
    have HC5 := hid (HC4.out.step ha)
    have HV5 := hid (Blk.new w4 24 #[.bool leaf, .int .i64 next, .slice A4 m4 c4])
    have HD5 := hid (CS.step h4 ha)
    clear HX4 HY4 HC4 HB4
    clear ha
    go_upto_region 4 with fail
    generalize w4.alloc (.cells #[.bool leaf, .int .i64 next, .slice A4 m4 c4] 24) = w5 at *
    obtain ⟨g5, hg⟩ : ∃ g, w4.heap.size = g := ⟨_, rfl⟩
    rw [hg] at HV5 HD5 ⊢
    clear hg
    clear h4
    have x0 := HX5.out.cell 0
    have x1 := HX5.out.cell 1
    have x2 := HX5.out.cell 2
    have y0 := HY5.out.cell 0
    have y1 := HY5.out.cell 1

    go_upto_region 6 with fail
    clear x0 x1 x2 y0 y1
    have HRP := hid (fun (W : World) (hW : Beyond w5 W) => refPut_any (leaf := leaf) (next := next) (x := x) (HC5.out.step hW) HNM.out HRS0.out)
    have HRS := hid (fun (W : World) (A' : Option Addr) (m' c' : Nat) (hW : Beyond w5 W) (h : CS W W.heap.size A' m' c' (putC x l)) => refSame_any (leaf := leaf) (leaf2 := leaf) (next := next) (next2 := next) (HD5.out.step hW) h)
    rw [sameP_self] at HRS
    unfold pageV Cl.val at HRP
    unfold pageV at HRS
    have z00 : ∀ W, Beyond w5 W → W.cell? ⟨g, 0, none⟩ = some (.bool leaf) := fun W hW => (HX5.out.below hW HX5.out.lt).cell 0
    have z01 : ∀ W, Beyond w5 W → W.cell? ⟨g, 1, none⟩ = some (.int .i64 next) := fun W hW => (HX5.out.below hW HX5.out.lt).cell 1
    have z02 : ∀ W, Beyond w5 W → W.cell? ⟨g, 2, none⟩ = some (.slice A n c) := fun W hW => (HX5.out.below hW HX5.out.lt).cell 2
    have z10 : ∀ W, Beyond w5 W → W.cell? ⟨g + 1, 0, none⟩ = some (.string (bst x.k)) := fun W hW => (HY5.out.below hW HY5.out.lt).cell 0
    have z11 : ∀ W, Beyond w5 W → W.cell? ⟨g + 1, 1, none⟩ = some (.string (bst x.v)) := fun W hW => (HY5.out.below hW HY5.out.lt).cell 1
    have z50 : ∀ W, Beyond w5 W → W.cell? ⟨g5, 0, none⟩ = some (.bool leaf) := fun W hW => (HV5.out.below hW HV5.out.lt).cell 0
    have z51 : ∀ W, Beyond w5 W → W.cell? ⟨g5, 1, none⟩ = some (.int .i64 next) := fun W hW => (HV5.out.below hW HV5.out.lt).cell 1
    have z52 : ∀ W, Beyond w5 W → W.cell? ⟨g5, 2, none⟩ = some (.slice A4 m4 c4) := fun W hW => (HV5.out.below hW HV5.out.lt).cell 2
    refine wp_region_held_drew (S := Beyond w5) (by kernel_rfl) (Beyond.drew _) (fun hS => ?_)
    refine take_step (i := 0) (by simp only [List.getElem?_toArray, List.getElem?_cons_zero]; rfl) (by kernel_rfl) (by kernel_rfl) (by kernel_rfl) (by intro _ _ _ h; exact h) (by rfl) (fun W hW => by go_simp; first | done | with_reducible rfl) hS ?_
    try simp only [Act.put, List.setIfInBounds_toArray, List.set_cons_zero, List.set_cons_succ]
    refine take_step (i := 1) (by simp only [List.getElem?_toArray, List.getElem?_cons_succ, List.getElem?_cons_zero]; rfl) (by kernel_rfl) (by kernel_rfl) (by kernel_rfl) (by intro _ _ _ h; exact h) (by rfl) (fun W hW => by go_simp; first | done | with_reducible rfl) hS ?_
    try simp only [Act.put, List.setIfInBounds_toArray, List.set_cons_zero, List.set_cons_succ]
    refine take_step (i := 2) (by simp only [List.getElem?_toArray, List.getElem?_cons_succ, List.getElem?_cons_zero]; rfl) (by kernel_rfl) (by kernel_rfl) (by kernel_rfl) (by intro _ _ _ h; exact h) (by rfl) (fun W hW => by go_simp; first | done | with_reducible rfl) hS ?_
    try simp only [Act.put, List.setIfInBounds_toArray, List.set_cons_zero, List.set_cons_succ]
    first | (refine take_step (i := 3) (by simp only [List.getElem?_toArray, List.getElem?_cons_succ, List.getElem?_cons_zero]; rfl) (by kernel_rfl) (by kernel_rfl) (by kernel_rfl) (by intro _ _ _ h; exact h) (by rfl) (fun W hW => by go_simp; first | done | with_reducible rfl) hS ?_) | (refine skip_step (i := 3) (by simp only [List.getElem?_toArray, List.getElem?_cons_succ, List.getElem?_cons_zero]; rfl) (by kernel_rfl) (by kernel_rfl) (by kernel_rfl) (by intro _ _ _ h; exact h) (by rfl) hS ?_)
    try simp only [Act.put, List.setIfInBounds_toArray, List.set_cons_zero, List.set_cons_succ]
    first | (refine take_step (i := 4) (by simp only [List.getElem?_toArray, List.getElem?_cons_succ, List.getElem?_cons_zero]; rfl) (by kernel_rfl) (by kernel_rfl) (by kernel_rfl) (by intro _ _ _ h; exact h) (by rfl) (fun W hW => by go_simp; first | done | with_reducible rfl) hS ?_) | (refine skip_step (i := 4) (by simp only [List.getElem?_toArray, List.getElem?_cons_succ, List.getElem?_cons_zero]; rfl) (by kernel_rfl) (by kernel_rfl) (by kernel_rfl) (by intro _ _ _ h; exact h) (by rfl) hS ?_)
    try simp only [Act.put, List.setIfInBounds_toArray, List.set_cons_zero, List.set_cons_succ]
    first | (refine take_step (i := 5) (by simp only [List.getElem?_toArray, List.getElem?_cons_succ, List.getElem?_cons_zero]; rfl) (by kernel_rfl) (by kernel_rfl) (by kernel_rfl) (by intro _ _ _ h; exact h) (by rfl) (fun W hW => by go_simp; first | done | with_reducible rfl) hS ?_) | (refine skip_step (i := 5) (by simp only [List.getElem?_toArray, List.getElem?_cons_succ, List.getElem?_cons_zero]; rfl) (by kernel_rfl) (by kernel_rfl) (by kernel_rfl) (by intro _ _ _ h; exact h) (by rfl) hS ?_)
    try simp only [Act.put, List.setIfInBounds_toArray, List.set_cons_zero, List.set_cons_succ]
    refine wpAnyH_ready (rs := [6]) (by kernel_rfl) (by simp) ?_
    refine AllReadyH.cons (by simp only [List.getElem?_toArray, List.getElem?_cons_succ, List.getElem?_cons_zero]; rfl) (fun K hK => ?_) AllReadyH.nil
    go_simp
    go_fit (HRP.out _ hS)
    rintro e wa ⟨Aj, mj, cj, rfl, hj, hba⟩
    have hS6 := Beyond.step hS hba
    have HCj := hid hj
    clear hj hba
    refine hK.out _ _ (by assumption) (fun _ => ?_)
    clear hK K hS
    have hS := hS6
    try simp only [Act.put, List.setIfInBounds_toArray, List.set_cons_zero, List.set_cons_succ]
    refine wpAnyH_ready (rs := [7]) (by kernel_rfl) (by simp) ?_
    refine AllReadyH.cons (by simp only [List.getElem?_toArray, List.getElem?_cons_succ, List.getElem?_cons_zero]; rfl) (fun K hK => ?_) AllReadyH.nil
    go_simp
    go_fit (HRS.out _ _ _ _ hS HCj.out)
    rintro e wb ⟨rfl, hbb⟩
    have hS7 := Beyond.step hS hbb
    clear hbb
    refine hK.out _ _ (by assumption) (fun _ => ?_)
    clear hK K hS
    have hS := hS7
    try simp only [Act.put, List.setIfInBounds_toArray, List.set_cons_zero, List.set_cons_succ]
    first | (refine take_step (i := 8) (by simp only [List.getElem?_toArray, List.getElem?_cons_succ, List.getElem?_cons_zero]; rfl) (by kernel_rfl) (by kernel_rfl) (by kernel_rfl) (by intro _ _ _ h; exact h) (by rfl) (fun W hW => by go_simp; first | done | with_reducible rfl) hS ?_) | (refine skip_step (i := 8) (by simp only [List.getElem?_toArray, List.getElem?_cons_succ, List.getElem?_cons_zero]; rfl) (by kernel_rfl) (by kernel_rfl) (by kernel_rfl) (by intro _ _ _ h; exact h) (by rfl) hS ?_)
    try simp only [Act.put, List.setIfInBounds_toArray, List.set_cons_zero, List.set_cons_succ]
    refine take_step (i := 9) (by simp only [List.getElem?_toArray, List.getElem?_cons_succ, List.getElem?_cons_zero]; rfl) (by kernel_rfl) (by kernel_rfl) (by kernel_rfl) (by intro _ _ _ h; exact h) (by rfl) (fun W hW => by go_simp; first | done | with_reducible rfl) hS ?_
    try simp only [Act.put, List.setIfInBounds_toArray, List.set_cons_zero, List.set_cons_succ]
    refine wpAnyH_done (by kernel_rfl) ?_ _
    have HB6 := hid (below_step HB5.out hS7)
    have HX6 := hid (HX5.out.below hS7 HX5.out.lt)
    have HY6 := hid (HY5.out.below hS7 HY5.out.lt)
    have HV6 := hid (HV5.out.below hS7 HV5.out.lt)
    have HC6 := hid (HC5.out.step hS7)
    have HD6 := hid (HD5.out.step hS7)
    clear HX5 HY5 HV5 HC5 HD5 HB5
    generalize wb = w6 at *
    
    have HRM := hid (rem_any (leaf := leaf) (next := next) HD6.out HPM.out HPH.out)
    rw [HDP.out] at HRM
    unfold pageV at HRM
    clear z00 z01 z02 z10 z11 z50 z51 z52 hS hS6 hS7 HRP HRS HCj
    have x0 := HX6.out.cell 0
    have x1 := HX6.out.cell 1
    have x2 := HX6.out.cell 2
    have y0 := HY6.out.cell 0
    have y1 := HY6.out.cell 1
    have v0 := HV6.out.cell 0
    have v1 := HV6.out.cell 1
    have v2 := HV6.out.cell 2
    
    go_wp2_with fail
    go_fit HRM.out
    rintro e w7 ⟨A7, m7, c7, rfl, h7, hb7⟩
    have HB7 := hid (below_step HB6.out hb7)
    have HX7 := hid (HX6.out.below hb7 HX6.out.lt)
    have HY7 := hid (HY6.out.below hb7 HY6.out.lt)
    have HV7 := hid (HV6.out.below hb7 HV6.out.lt)
    have HC7 := hid (HC6.out.step hb7)
    clear HX6 HY6 HV6 HC6 HB6
    clear hb7 HRM HD6 x0 x1 x2 y0 y1 v0 v1 v2
    have ha := (Below.refl w7.heap.size w7).alloc (Nat.le_refl _) (.cells #[.bool leaf, .int .i64 next, .slice A7 m7 c7] 24)
    have HB8 := hid (below_step HB7.out ha)
    have HX8 := hid (HX7.out.below ha HX7.out.lt)
    have HY8 := hid (HY7.out.below ha HY7.out.lt)
    have HV8 := hid (HV7.out.below ha HV7.out.lt)
    have HC8 := hid (HC7.out.step ha)
    have HU8 := hid (Blk.new w7 24 #[.bool leaf, .int .i64 next, .slice A7 m7 c7])
    have HE8 := hid (CS.step h7 ha)
    clear HX7 HY7 HV7 HC7 HB7
    clear ha
    go_upto_region 9 with fail
    generalize w7.alloc (.cells #[.bool leaf, .int .i64 next, .slice A7 m7 c7] 24) = w8 at *
    obtain ⟨g7, hg⟩ : ∃ g, w7.heap.size = g := ⟨_, rfl⟩
    rw [hg] at HU8 HE8 ⊢
    clear hg
    clear h7
    have HRN := hid (rem_no (leaf := leaf) (next := next) HC8.out HLM.out HHK.out)
    unfold pageV at HRN
    have x0 := HX8.out.cell 0
    have x1 := HX8.out.cell 1
    have x2 := HX8.out.cell 2
    have y0 := HY8.out.cell 0
    have y1 := HY8.out.cell 1
    
    go_wp2_with fail
    go_fit HRN.out
    rintro e w9 ⟨rfl, hb9⟩
    have HB9 := hid (below_step HB8.out hb9)
    have HX9 := hid (HX8.out.below hb9 HX8.out.lt)
    have HY9 := hid (HY8.out.below hb9 HY8.out.lt)
    have HU9 := hid (HU8.out.below hb9 HU8.out.lt)
    have HC9 := hid (HC8.out.step hb9)
    have HE9 := hid (HE8.out.step hb9)
    clear HX8 HY8 HU8 HC8 HE8 HB8
    clear hb9 HRN HV8 x0 x1 x2 y0 y1
    have ha := (Below.refl w9.heap.size w9).alloc (Nat.le_refl _) (.cells #[.bool false, .int .i64 0, .slice none 0 0] 24)
    have HBa := hid (below_step HB9.out ha)
    have HXa := hid (HX9.out.below ha HX9.out.lt)
    have HYa := hid (HY9.out.below ha HY9.out.lt)
    have HUa := hid (HU9.out.below ha HU9.out.lt)
    have HCa := hid (HC9.out.step ha)
    have HEa := hid (HE9.out.step ha)
    have HTa := hid (Blk.new w9 24 #[.bool false, .int .i64 0, .slice none 0 0])
    clear HX9 HY9 HU9 HC9 HE9 HB9
    clear ha
    go_upto_region 10 with fail
    generalize w9.alloc (.cells #[.bool false, .int .i64 0, .slice none 0 0] 24) = wa at *
    obtain ⟨g9, hg⟩ : ∃ g, w9.heap.size = g := ⟨_, rfl⟩
    rw [hg] at HTa ⊢
    clear hg
    have HFD := hid (refFind_any (leaf := leaf) (next := next) (K := x.k) HCa.out)
    rw [HHK.out] at HFD
    unfold pageV at HFD
    have x0 := HXa.out.cell 0
    have x1 := HXa.out.cell 1
    have x2 := HXa.out.cell 2
    have y0 := HYa.out.cell 0
    have y1 := HYa.out.cell 1
    
    go_wp2_with fail
    go_fit HFD.out
    rintro e wb ⟨rfl, hbb⟩
    have HBb := hid (below_step HBa.out hbb)
    have HXb := hid (HXa.out.below hbb HXa.out.lt)
    have HUb := hid (HUa.out.below hbb HUa.out.lt)
    have HTb := hid (HTa.out.below hbb HTa.out.lt)
    have HCb := hid (HCa.out.step hbb)
    have HEb := hid (HEa.out.step hbb)
    clear HXa HYa HUa HTa HCa HEa HBa
    clear hbb HFD x0 x1 x2 y0 y1
    
    go_wp2_with fail
    go_fit (HAW.out _ HBb.out)
    rintro e wc ⟨rfl, hbc⟩
    have HBc := hid (below_step HBb.out hbc)
    have HXc := hid (HXb.out.below hbc HXb.out.lt)
    have HUc := hid (HUb.out.below hbc HUb.out.lt)
    have HTc := hid (HTb.out.below hbc HTb.out.lt)
    have HCc := hid (HCb.out.step hbc)
    have HEc := hid (HEb.out.step hbc)
    clear HXb HUb HTb HCb HEb HBb
    clear hbc
    have HSM := hid (refSame_any (leaf := leaf) (leaf2 := leaf) (next := next) (next2 := next) HEc.out HCc.out)
    rw [sameP_self] at HSM
    have HSN := hid (fun (W : World) => refSame_any (leaf := false) (leaf2 := false) (next := 0) (next2 := 0) (CS.nil (w := W) (c := 0)) (CS.nil (w := W) (c := 0)))
    rw [sameP_self] at HSN
    unfold pageV at HSM HSN
    have u0 := HUc.out.cell 0
    have u1 := HUc.out.cell 1
    have u2 := HUc.out.cell 2
    have x0 := HXc.out.cell 0
    have x1 := HXc.out.cell 1
    have x2 := HXc.out.cell 2
    
    go_wp2_with fail
    go_fit HSM.out
    rintro e wd ⟨rfl, hbd⟩
    have HBd := hid (below_step HBc.out hbd)
    have HTd := hid (HTc.out.below hbd HTc.out.lt)
    clear hbd HSM u0 u1 u2 x0 x1 x2
    have t0 := HTd.out.cell 0
    have t1 := HTd.out.cell 1
    have t2 := HTd.out.cell 2
    
    go_wp2_with fail
    go_fit (HSN.out _)
    rintro e we ⟨rfl, hbe⟩
    have HBe := hid (below_step HBd.out hbe)
    clear hbe HSN t0 t1 t2
    go_wp2_with fail
    go_ret
    exact ⟨rfl, HBe.out⟩

end Go.Proofs.YtikggbopoajcbaaDoor
