/-
  The valid segments.
-/
import Derived.Test.YtobmdmbjmjdfjaaGreatDoorWCl
import Derived.Test.YtobmdmbjmjdfjaaGreatDoorJRecS
import Derived.Test.YtobmdmbjmjdfjaaGreatDoorRcG
namespace Go.Proofs.YtobmdmbjmjdfjaaGreatDoor
open Go Go.RowKit

structure Vs where
  i : Nat
  base : Nat
  rs : List Rc
def vsOf (o : Option (Nat × List Rc)) (i : Nat) : List Vs := match o with
  | some (q, rs) => [⟨i, q, rs⟩]
  | none => []
def Wl.valid (l : Wl) (m : Secs) : Nat → List Vs
  | 0 => []
  | k + 1 => l.valid m k ++ vsOf (l.look m k) k
theorem Wl.valid_len (l : Wl) (m : Secs) : ∀ k, (l.valid m k).length ≤ k
  | 0 => Nat.le_refl _
  | k + 1 => by
    have ih := l.valid_len m k
    unfold valid vsOf
    rw [List.length_append]
    split
    · simp; omega
    · simp; omega
def VsIs (w : World) (base : Nat) (rows : List Vr) (vs : List Vs) : Prop :=
  rows.length = vs.length ∧ ∀ (k : Nat) (r : Vr) (v : Vs), rows[k]? = some r → vs[k]? = some v → r.i = v.i ∧ r.base = v.base ∧ GRow eRc 70 w base r.A r.m r.c v.rs
theorem VsIs.keep {w w' : World} {base : Nat} {rows : List Vr} {vs : List Vs} (h : VsIs w base rows vs) (hk : ∀ q, base ≤ q → q < w.heap.size → w'.heap[q]? = w.heap[q]?) : VsIs w' base rows vs :=
  ⟨h.1, fun k r v h1 h2 => by
    obtain ⟨a, b, c⟩ := h.2 k r v h1 h2
    refine ⟨a, b, grow_of (N := fun q => base ≤ q ∧ q < w.heap.size) c (fun g hg => ?_) (fun q hq => hk q hq.1 hq.2)⟩
    exact c.2.lt g hg⟩
theorem VsIs.snoc {w w' : World} {base : Nat} {rows : List Vr} {vs : List Vs} {r : Vr} {v : Vs} (h : VsIs w base rows vs) (hk : ∀ (A : Option Addr) (m c : Nat) (rs : List Rc), GRow eRc 70 w base A m c rs → GRow eRc 70 w' base A m c rs) (h1 : r.i = v.i) (h2 : r.base = v.base) (h3 : GRow eRc 70 w' base r.A r.m r.c v.rs) : VsIs w' base (rows ++ [r]) (vs ++ [v]) := by
  refine ⟨by rw [List.length_append, List.length_append, h.1]; rfl, fun k p q e1 e2 => ?_⟩
  by_cases hlt : k < rows.length
  · rw [List.getElem?_append_left hlt] at e1
    rw [List.getElem?_append_left (by rw [← h.1]; exact hlt)] at e2
    obtain ⟨a, b, c⟩ := h.2 k p q e1 e2
    exact ⟨a, b, hk _ _ _ _ c⟩
  · rw [List.getElem?_append_right (by omega)] at e1
    rw [List.getElem?_append_right (by rw [← h.1]; omega), ← h.1] at e2
    have : k - rows.length = 0 := by have := (List.getElem?_eq_some_iff.1 e1).1; simp at this; omega
    rw [this] at e1 e2
    simp at e1 e2
    subst e1 e2
    exact ⟨h1, h2, h3⟩
theorem VsIs.push {w w' : World} {base m c : Nat} {A : Option Addr} {o : Obj} {rows : List Vr} {vs : List Vs} {r : Vr} {v : Vs} (h : VsIs w base rows vs) (hg : GRow eVr 108 w base A m c rows) (hw : (w.alloc o).grownBy w' (Value.slice A m c).ownBlock) (h1 : r.i = v.i) (h2 : r.base = v.base) (h3 : GRow eRc 70 w base r.A r.m r.c v.rs) : VsIs w' base (rows ++ [r]) (vs ++ [v]) :=
  h.snoc (fun _ _ _ _ hx => (hx.alloc o).kept hw (own_apart (hx.alloc o).2 (hg.alloc o).2 (by decide))) h1 h2 ((h3.alloc o).kept hw (own_apart (h3.alloc o).2 (hg.alloc o).2 (by decide)))
def VsRow (w : World) (base : Nat) (A : Option Addr) (m c : Nat) (vs : List Vs) : Prop := ∃ rows, GRow eVr 108 w base A m c rows ∧ VsIs w base rows vs
theorem VsRow.below {w w' : World} {base m c : Nat} {A : Option Addr} {vs : List Vs} (h : VsRow w base A m c vs) (hb : Below w.heap.size w w') : VsRow w' base A m c vs := by
  obtain ⟨rows, h1, h2⟩ := h
  exact ⟨rows, h1.below hb, h2.keep fun q _ hq => hb.block q hq⟩
theorem VsRow.alloc {w : World} {base m c : Nat} {A : Option Addr} {vs : List Vs} (h : VsRow w base A m c vs) (o : Obj) : VsRow (w.alloc o) base A m c vs := h.below ((Below.refl _ _).alloc (Nat.le_refl _) o)
theorem info_vr : (Tryz.prog.info? 108).map (fun i => (i.zero, i.size, i.bytes)) = some (some (.agg #[.int .i64 0, .int .u64 0, .slice none 0 0]), 3, 40) := by kernel_rfl
theorem gi_vr : GInfo eVr Tryz.prog 105 108 40 := by
  obtain ⟨i0, hi, hz0, hz1, hz2⟩ := info_parts info_vr
  exact ⟨Tryz.underlying105, i0, _, hi, hz0, hz1, hz2, rfl⟩
theorem lookB_none {b : List UInt8} (h : rget b = none) : lookB b = none := by unfold lookB; rw [h]
theorem lookB_not {b h : List UInt8} {q n : Nat} (hg : rget b = some (q, h, n)) (hh : h ≠ hdr) : lookB b = none := by unfold lookB; rw [hg]; exact if_neg hh
theorem lookB_yes {b : List UInt8} {q n : Nat} (hg : rget b = some (q, hdr, n)) : lookB b = some (q, (rscan (b.drop n) q).1) := by unfold lookB; rw [hg]; exact if_pos rfl

set_option maxHeartbeats 8000000 in
set_option maxRecDepth 100000 in
theorem valid_is {w : World} {b d : Nat} {N M R : Nat → Prop} {s : Dk} {l : Wl} (h : WA w b d N M R s l) (hsm : ∀ i, i < l.n → (segB s.view l.size (l.place i)).length ≤ 5000) :
    Calls Tryz.prog 45 #[.pointer (some ⟨b, 0, none⟩)] w fun e w' => ∃ A m c, e = .returned (.slice A m c) ∧ VsRow w' w.heap.size A m c (l.valid s.view l.n) ∧ Below w.heap.size w w' := by
  obtain ⟨A, c, C, cc, hl⟩ := h.log
  have HH := hid h
  obtain ⟨n, hn⟩ : ∃ n, n = l.n := ⟨_, rfl⟩
  have HN := hid hn
  have hn64 : n ≤ 64 := by rw [hn]; exact hl.pl.n
  have x2 := hl.blk.cell 2
  rw [← hn] at x2 ⊢
  have HSM := hid hsm
  clear h hl hn hsm
  go_enter Tryz.func45, Tryz.ntmps45
  go_wp2_with fail
  go_loopw [3, 15] (fun f j wr => ∃ (i : Nat) (A : Option Addr) (m c : Nat), i ≤ n ∧ f = .slice A m c ∧ j = .int .i64 (i : Int) ∧ Kept (VsRow wr w.heap.size A m c (l.valid s.view i)) ∧ Kept (Below w.heap.size w wr)) (fun _ j _ => n - (intOf j).toNat)
  case atStart => exact ⟨0, none, 0, 0, Nat.zero_le _, rfl, rfl, hid ⟨[], GRow.nil, rfl, fun k r v h => by simp at h⟩, hid (Below.refl _ _)⟩
  case round =>
    obtain ⟨i, A1, m1, c1, hi, rfl, rfl, HV, HB⟩ := hrel
    by_cases hlt : i < n
    · have HRD := hid (read_log (HH.out.step HB.out) (i := i) (by rw [← HN.out]; omega))
      have HBL := hid (HSM.out i (by rw [← HN.out]; exact hlt))
      have HLK := hid (show l.valid s.view (i + 1) = l.valid s.view i ++ vsOf (lookB (segB s.view l.size (l.place i))) i from rfl)
      generalize segB s.view l.size (l.place i) = B at *
      cases hg : rget B with
      | none =>
        have HGE := hid hg
        have HVE := hid (show l.valid s.view (i + 1) = l.valid s.view i by rw [HLK.out, lookB_none hg]; exact List.append_nil _)
        clear hg HLK
        go_wp2_with fail
        go_fit HRD.out
        rintro e w2 ⟨A2, m2, c2, rfl, hr2, hb2⟩
        have HR2 := hid hr2
        have HB2 := hid (HB.out.trans (hb2.mono HB.out.size))
        have HV2 := hid (HV.out.below hb2)
        have HG := hid (rget_any.get (HR2.out.at_) HR2.out.1 (row_cap HR2.out) (Nat.le_refl _) HBL.out)
        clear hr2 hb2
        have h9 := HG.out
        rw [HGE.out] at h9
        unfold recV at h9
        dsimp only at h9
        have HG2 := hid h9
        clear h9
        go_wp2_with fail
        go_fit HG2.out
        rintro e w3 ⟨rfl, hb3⟩
        have HB3 := hid (HB2.out.trans (hb3.mono HB2.out.size))
        have HV3 := hid (HV2.out.below hb3)
        have HR3 := hid (HR2.out.below hb3)
        clear hb3 HG HG2
        go_wp2_with fail
        go_roundw
        case rel => exact ⟨i + 1, A1, m1, c1, by omega, rfl, by go_num, hid (by rw [HVE.out]; exact HV3.out.alloc _), hid (HB3.out.alloc HB3.out.size _)⟩
        case measure => simp [intOf]; omega
      | some x =>
        obtain ⟨q, hh, k⟩ := x
        have hk := rget_len hg
        have HQL := hid (rget_some hg).1
        have HGE := hid hg
        have zh := bst_size hh
        by_cases hd : hh = hdr
        · have HVE := hid (show l.valid s.view (i + 1) = l.valid s.view i ++ [⟨i, q, (rscan (B.drop k) q).1⟩] by rw [HLK.out, lookB_yes (by rw [hg, hd])]; rfl)
          have hdb : ((bst hh).toList == [115, 101, 103, 109, 101, 110, 116]) = true := by rw [bst_toList, hd]; rfl
          have HKL := hid hk.2
          have HDL := hid (show (B.drop k).length ≤ 5000 by rw [List.length_drop]; have := HBL.out; omega)
          clear hg HLK hd hk
          go_wp2_with fail
          go_fit HRD.out
          rintro e w2 ⟨A2, m2, c2, rfl, hr2, hb2⟩
          have HR2 := hid hr2
          have HB2 := hid (HB.out.trans (hb2.mono HB.out.size))
          have HV2 := hid (HV.out.below hb2)
          have HG := hid (rget_any.get (HR2.out.at_) HR2.out.1 (row_cap HR2.out) (Nat.le_refl _) HBL.out)
          clear hr2 hb2
          have h9 := HG.out
          rw [HGE.out] at h9
          unfold recV at h9
          dsimp only at h9
          have HG2 := hid h9
          clear h9
          go_wp2_with fail
          go_fit HG2.out
          rintro e w3 ⟨rfl, hb3⟩
          have HB3 := hid (HB2.out.trans (hb3.mono HB2.out.size))
          have HV3 := hid (HV2.out.below hb3)
          have HR3 := hid (HR2.out.below hb3)
          clear hb3 HG HG2
          have HB4 := hid (HB3.out.alloc HB3.out.size (.cells #[.int .u64 (q : Int), .string (bst hh)] 70))
          have HV4 := hid (HV3.out.alloc (.cells #[.int .u64 (q : Int), .string (bst hh)] 70))
          have HR4 := hid (HR3.out.alloc (.cells #[.int .u64 (q : Int), .string (bst hh)] 70))
          have hx4 := Blk.new w3 70 #[.int .u64 (q : Int), .string (bst hh)]
          clear HV3 HR3 HV HRD HV2 HR2
          obtain ⟨g4, hg4⟩ : ∃ g, g = w3.heap.size := ⟨_, rfl⟩
          rw [← hg4] at hx4
          have HX4 := hid hx4
          clear hx4
          go_upto_region 7 with fail
          rw [← hg4]
          generalize w3.alloc (.cells #[.int .u64 (q : Int), .string (bst hh)] 70) = w4 at *
          clear hg4
          obtain ⟨A5, hsl, hA5⟩ := slice_from (n := k) HR4.out.at_ HR4.out.1 (row_cap HR4.out) (by rw [HR4.out.1]; exact HKL.out)
          have HA5 := hid hA5
          have r1 := HX4.out.cell 1
          go_upto_region 8 with fail
          have r0 : ∀ W, Beyond w4 W → W.cell? ⟨g4, 0, none⟩ = some (.int .u64 (q : Int)) := fun W hW => (HX4.out.below hW HX4.out.lt).cell 0
          have HSC := hid (fun (W : World) (hW : Beyond w4 W) => rscan_any (m0 := m2 - k) (cc0 := c2 - k) (HA5.out.below hW) (by rw [List.length_drop]; have := HR4.out.1; omega) (by have := row_cap HR4.out; omega) hW.size HDL.out HQL.out)
          clear hA5 r1
          refine wp_region_held_drew (S := Beyond w4) (by kernel_rfl) (Beyond.drew _) (fun hS => ?_)
          refine stT 0 hS ?_; (try simp only [putr]); refine stT 1 hS ?_; (try simp only [putr]); refine stT 2 hS ?_; (try simp only [putr]); refine stT 3 hS ?_; (try simp only [putr]); refine stT 4 hS ?_; (try simp only [putr]); refine rdH [5] ?_; refine rcH (fun K hK => ?_) AllReadyH.nil; go_simp
          go_fit (HSC.out _ hS)
          rintro e w6 ⟨A6, m6, c6, rfl, hr6, hb6⟩
          have hS5 := Beyond.step hS hb6
          have HR6 := hid (show GRow eRc 70 w6 w.heap.size A6 m6 c6 (rscan (B.drop k) q).1 from ⟨hr6.1, Joins.ownsRow_le hr6.2 (Nat.le_trans HB4.out.size (Below.size hS))⟩)
          clear hr6 hb6
          refine hK.out _ _ (by assumption) (fun _ => ?_); clear hK K hS; have hS := hS5; refine stT 6 hS ?_; (try simp only [putr]); refine stT 7 hS ?_; (try simp only [putr]); refine stT 8 hS ?_; (try simp only [putr]); refine stT 9 hS ?_; (try simp only [putr]); refine stT 10 hS ?_; (try simp only [putr]); refine wpAnyH_done (by kernel_rfl) ?_ _
          have HB6 := hid (HB4.out.trans (hS.mono HB4.out.size))
          have HV6 := hid (HV4.out.below hS)
          have r0 := r0 w6 hS
          clear hS HV4 HA5 HSC HR4
          obtain ⟨rows, hG6, hI6⟩ := HV6.out
          have HG6 := hid hG6
          have HI6 := hid hI6
          have HNR := hid (show rows.length + 1 ≤ 1099511627776 by rw [hI6.1]; have := Wl.valid_len l s.view i; omega)
          have HSZ := hid (show w.heap.size ≤ (w6.alloc (.cells #[.int .i64 (i : Int), .int .u64 (q : Int), .slice A6 m6 c6] 108)).heap.size from Nat.le_trans HB6.out.size (by simp))
          clear hG6 hI6 HV6
          go_wp2_with (at_builtin; go_must (refine wpList_append_g _ rfl _ _ eVr gi_vr (by decide) rfl w.heap.size rfl (HG6.out.alloc _) rfl rfl (GAt.one_at (w := w6) (x := (⟨i, q, A6, m6, c6⟩ : Vr)) rfl rfl) HNR.out HSZ.out ?_))
          intro A7 m7 c7 w7 hr7 hc7 hb7 hw7
          have HV7 := hid (show VsRow w7 w.heap.size A7 m7 c7 (l.valid s.view (i + 1)) from ⟨_, hr7, by rw [HVE.out]; exact VsIs.push HI6.out HG6.out hw7 rfl rfl HR6.out⟩)
          have HB7 := hid ((HB6.out.alloc HB6.out.size (.cells #[.int .i64 (i : Int), .int .u64 (q : Int), .slice A6 m6 c6] 108)).trans hb7)
          clear hr7 hc7 hb7 hw7 r0
          go_wp2_with fail
          go_roundw
          case rel => exact ⟨i + 1, A7, m7, c7, by omega, rfl, by go_num, HV7, HB7⟩
          case measure => simp [intOf]; omega
        · have HVE := hid (show l.valid s.view (i + 1) = l.valid s.view i by rw [HLK.out, lookB_not hg hd]; exact List.append_nil _)
          have hdb : ((bst hh).toList == [115, 101, 103, 109, 101, 110, 116]) = false := by rw [bst_toList]; simpa [hdr] using hd
          clear hg HLK hk
          go_wp2_with fail
          go_fit HRD.out
          rintro e w2 ⟨A2, m2, c2, rfl, hr2, hb2⟩
          have HR2 := hid hr2
          have HB2 := hid (HB.out.trans (hb2.mono HB.out.size))
          have HV2 := hid (HV.out.below hb2)
          have HG := hid (rget_any.get (HR2.out.at_) HR2.out.1 (row_cap HR2.out) (Nat.le_refl _) HBL.out)
          clear hr2 hb2
          have h9 := HG.out
          rw [HGE.out] at h9
          unfold recV at h9
          dsimp only at h9
          have HG2 := hid h9
          clear h9
          go_wp2_with fail
          go_fit HG2.out
          rintro e w3 ⟨rfl, hb3⟩
          have HB3 := hid (HB2.out.trans (hb3.mono HB2.out.size))
          have HV3 := hid (HV2.out.below hb3)
          have HR3 := hid (HR2.out.below hb3)
          clear hb3 HG HG2
          go_wp2_with fail
          go_roundw
          case rel => exact ⟨i + 1, A1, m1, c1, by omega, rfl, by go_num, hid (by rw [HVE.out]; exact HV3.out.alloc _), hid (HB3.out.alloc HB3.out.size _)⟩
          case measure => simp [intOf]; omega
    · obtain rfl : i = n := by omega
      go_wp2_with fail
      go_ret
      exact ⟨_, _, _, rfl, HV.out, HB.out⟩

end Go.Proofs.YtobmdmbjmjdfjaaGreatDoor
