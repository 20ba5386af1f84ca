/-
  PageFinds: its walk.
-/
import Derived.Test.YtikggbopoajcbaaDoorPgAwake
import Derived.Test.YtikggbopoajcbaaDoorPgFew
import Derived.Test.YtikggbopoajcbaaDoorRefPgF
namespace Go.Proofs.YtikggbopoajcbaaDoor
open Go Go.RowKit

set_option maxHeartbeats 8000000 in
set_option maxRecDepth 100000 in
theorem pfinds_walk (leaf : Bool) (next : Int) (l : List Cl) (A : Option Addr) (c : Nat) (K : List UInt8) (w : World) (ha : CAt w w.heap.size A l) (hc : l.length ≤ c) (hT : Table w) :
    Calls Tryd.prog 5 #[pageV leaf next A l.length c, .string (bst K)] w fun e w' => e = .returned (.bool true) ∧ Below w.heap.size w w' := by
  obtain ⟨n, hn⟩ : ∃ n, n = l.length := ⟨_, rfl⟩
  rw [← hn] at hc ⊢
  have hb1 : Below w.heap.size w (w.alloc (.cells #[.bool leaf, .int .i64 next, .slice A n c] 24)) := (Below.refl _ _).alloc (Nat.le_refl _) _
  have HB := hid hb1
  have HX := hid (Blk.new w 24 #[.bool leaf, .int .i64 next, .slice A n c])
  have HAW := hid (fun (W : World) (hW : Below w.heap.size w W) => awake_yes W (hT.step hW))
  have HF := hid (few_any (leaf := leaf) (next := next) (c := c) (CAt.step ha (Nat.le_refl _) hb1) hn hb1.size)
  by_cases hf : fewC l = true
  · have HC := hid (CS.few (CAt.step ha (Nat.le_refl _) hb1) hn hc hb1.size hf)
    rw [hf] at HF
    clear hb1 hT ha hc hn hf
    unfold pageV at HF ⊢
    go_enter Tryd.func5, Tryd.ntmps5
    go_wp2_with fail
    generalize w.alloc (.cells #[.bool leaf, .int .i64 next, .slice A n c] 24) = w1 at *
    obtain ⟨g, hg⟩ : ∃ g, w.heap.size = g := ⟨_, rfl⟩
    rw [hg] at HX ⊢
    have HGE := hid hg
    clear hg
    have x0 := HX.out.cell 0
    have x1 := HX.out.cell 1
    have x2 := HX.out.cell 2
    go_fit HF.out
    rintro e w2 ⟨rfl, hb2⟩
    have HB2 := hid (below_step HB.out hb2)
    have HX2 := hid (HX.out.below hb2 HX.out.lt)
    have HC2 := hid (HC.out.step hb2)
    clear hb2 HF x0 x1 x2
    have x0 := HX2.out.cell 0
    have x1 := HX2.out.cell 1
    have x2 := HX2.out.cell 2
    have HR := hid (refRises_any (leaf := leaf) (next := next) HC2.out)
    have HM := hid (fun (h : risesC l = true) => mono_of (ris_of h) K)
    obtain ⟨R, hR⟩ : ∃ R, R = risesC l := ⟨_, rfl⟩
    rw [← hR] at HR HM
    clear hR
    unfold pageV at HR
    go_wp2_with fail
    go_fit HR.out
    rintro e w3 ⟨rfl, hb3⟩
    have HB3 := hid (below_step HB2.out hb3)
    have HX3 := hid (HX2.out.below hb3 HX2.out.lt)
    have HC3 := hid (HC2.out.step hb3)
    clear hb3 HR x0 x1 x2
    have x0 := HX3.out.cell 0
    have x1 := HX3.out.cell 1
    have x2 := HX3.out.cell 2
    cases R with
    | false =>
      go_wp2_with fail
      go_fit (HAW.out _ HB3.out)
      rintro e w9 ⟨rfl, hbz⟩
      have HBZ := hid (below_step HB3.out hbz)
      clear hbz
      go_wp2_with fail
      go_ret
      exact ⟨rfl, HBZ.out⟩
    | true =>
      have HN := hid (find_any (leaf := leaf) (next := next) HC3.out (HM.out rfl))
      have HQ := hid (fun (W : World) (hW : Below w3.heap.size w3 W) => refFind_any (leaf := leaf) (next := next) (K := K) (HC3.out.step hW))
      generalize fnd K l = D at HN HQ
      generalize hasK K l = T at HN HQ
      unfold pageV at HN HQ
      go_wp2_with fail
      go_fit HN.out
      rintro e w4 ⟨rfl, hb4⟩
      have HB4 := hid (below_step HB3.out hb4)
      have HK4 := hid hb4
      have HX4 := hid (HX3.out.below hb4 HX3.out.lt)
      clear hb4 HN x0 x1 x2
      have x0 := HX4.out.cell 0
      have x1 := HX4.out.cell 1
      have x2 := HX4.out.cell 2
      go_wp2_with fail
      go_fit (HQ.out _ HK4.out)
      rintro e w5 ⟨rfl, hb5⟩
      have HB5 := hid (below_step HB4.out hb5)
      clear hb5 HQ x0 x1 x2
      go_wp2_with fail
      go_fit (HAW.out _ HB5.out)
      rintro e w9 ⟨rfl, hbz⟩
      have HBZ := hid (below_step HB5.out hbz)
      clear hbz
      go_wp2_with fail
      go_ret
      exact ⟨rfl, HBZ.out⟩
  · obtain hf' : fewC l = false := by simpa using hf
    rw [hf'] at HF
    have HC := hid (show CS w 0 none 0 0 [] from CS.nil)
    have HC := hid (show CS (w.alloc (.cells #[.bool leaf, .int .i64 next, .slice A n c] 24)) 0 none 0 0 [] from CS.nil)
    clear hb1 hT ha hc hn hf hf'
    unfold pageV at HF ⊢
    go_enter Tryd.func5, Tryd.ntmps5
    go_wp2_with fail
    generalize w.alloc (.cells #[.bool leaf, .int .i64 next, .slice A n c] 24) = w1 at *
    obtain ⟨g, hg⟩ : ∃ g, w.heap.size = g := ⟨_, rfl⟩
    rw [hg] at HX ⊢
    have HGE := hid hg
    clear hg
    have x0 := HX.out.cell 0
    have x1 := HX.out.cell 1
    have x2 := HX.out.cell 2
    go_fit HF.out
    rintro e w2 ⟨rfl, hb2⟩
    have HB2 := hid (below_step HB.out hb2)
    have HX2 := hid (HX.out.below hb2 HX.out.lt)
    have HC2 := hid (HC.out.step hb2)
    clear hb2 HF x0 x1 x2
    have x0 := HX2.out.cell 0
    have x1 := HX2.out.cell 1
    have x2 := HX2.out.cell 2
    go_wp2_with fail
    go_fit (HAW.out _ HB2.out)
    rintro e w9 ⟨rfl, hbz⟩
    have HBZ := hid (below_step HB2.out hbz)
    clear hbz
    go_wp2_with fail
    go_ret
    exact ⟨rfl, HBZ.out⟩

end Go.Proofs.YtikggbopoajcbaaDoor
