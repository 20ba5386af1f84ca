/-
  The closures that search the segments.
-/
import Derived.Test.YtobmdmbjmjdfjaaGreatDoorWGr
namespace Go.Proofs.YtobmdmbjmjdfjaaGreatDoor
open Go Go.RowKit

def firstP (last : Nat) (x : Vr) : Bool := decide (x.base ≤ m64 (last + 1)) && decide (m64 (last + 1) ≤ m64 (x.base + x.m))
def nextP (last : Nat) (used : List En) (x : Vr) : Bool := decide (x.base = m64 (last + 1)) && !(used.any fun y => ((x.i, x.base) : En) == y)
set_option maxHeartbeats 8000000 in
set_option maxRecDepth 100000 in
theorem first_is {w : World} {b d c cc : Nat} {A C : Option Addr} {N : Nat → Prop} {l : Wl} {gb : Nat} (h : LIn w b d A c C cc N l) (hg : Blk w gb 37 #[.pointer (some ⟨b, 0, none⟩)]) (x : Vr) (hm : x.m ≤ 1000000) :
    Calls Tryz.prog 46 #[.agg #[.int .i64 (x.i : Int), .int .u64 (x.base : Int), .slice x.A x.m x.c], .pointer (some ⟨gb, 0, none⟩)] w fun e w' => e = .returned (.bool (firstP l.last x)) ∧ Below w.heap.size w w' := by
  have HB0 := hid (show Below w.heap.size w (w.alloc (.cells #[.int .i64 (x.i : Int), .int .u64 (x.base : Int), .slice x.A x.m x.c] 108)) from (Below.refl _ _).alloc (Nat.le_refl _) _)
  have x5 := (h.blk.below HB0.out h.blk.lt).cell 5
  have y0 := (hg.below HB0.out hg.lt).cell 0
  have hz := Blk.new w 108 #[.int .i64 (x.i : Int), .int .u64 (x.base : Int), .slice x.A x.m x.c]
  have z1 := hz.cell 1
  have z2 := hz.cell 2
  obtain ⟨F, hF⟩ : ∃ F, F = m64 (l.last + 1) := ⟨_, rfl⟩
  obtain ⟨G, hG⟩ : ∃ G, G = m64 (x.base + x.m) := ⟨_, rfl⟩
  have hwf : IntKind.u64.wrap ((l.last : Int) + 1) = (F : Int) := by rw [IntKind.wrap_u64, hF]; unfold m64; omega
  have hwl : IntKind.u64.wrap (x.m : Int) = (x.m : Int) := by rw [IntKind.wrap_u64]; omega
  have hwg : IntKind.u64.wrap ((x.base : Int) + (x.m : Int)) = (G : Int) := by rw [IntKind.wrap_u64, hG]; unfold m64; omega
  have HPP := hid (show firstP l.last x = (decide (x.base ≤ F) && decide (F ≤ G)) by unfold firstP; rw [hF, hG])
  clear h hg hz hF hG hm
  go_enter Tryz.func46, Tryz.ntmps46
  go_upto_region 1 with fail
  generalize w.alloc (.cells #[.int .i64 (x.i : Int), .int .u64 (x.base : Int), .slice x.A x.m x.c] 108) = w1 at *
  by_cases q1 : x.base ≤ F
  case neg =>
    have HP := hid (show firstP l.last x = false by rw [HPP.out]; simp [q1])
    have b1 : ¬ (x.base : Int) ≤ (F : Int) := by omega
    clear HPP
    go_wp2_with fail
    go_quiet (fail)
    generalize hw0 : World.drewN _ _ = w0
    have HB1 := hid (show Below w.heap.size w w0 from by rw [← hw0]; exact below_drewN HB0.out _)
    clear hw0
    go_wp2_with fail
    go_ret
    rw [HP.out]
    exact ⟨rfl, HB1.out⟩
  have b1 : (x.base : Int) ≤ (F : Int) := by omega
  by_cases q2 : F ≤ G
  · have HP := hid (show firstP l.last x = true by rw [HPP.out]; simp [q1, q2])
    have b2 : (G : Int) ≥ (F : Int) := by omega
    clear HPP
    go_wp2_with fail
    go_quiet (fail)
    generalize hw0 : World.drewN _ _ = w0
    have HB1 := hid (show Below w.heap.size w w0 from by rw [← hw0]; exact below_drewN HB0.out _)
    clear hw0
    go_wp2_with fail
    go_ret
    rw [HP.out]
    exact ⟨rfl, HB1.out⟩
  · have HP := hid (show firstP l.last x = false by rw [HPP.out]; simp [q2])
    have b2 : ¬ (G : Int) ≥ (F : Int) := by omega
    clear HPP
    go_wp2_with fail
    go_quiet (fail)
    generalize hw0 : World.drewN _ _ = w0
    have HB1 := hid (show Below w.heap.size w w0 from by rw [← hw0]; exact below_drewN HB0.out _)
    clear hw0
    go_wp2_with fail
    go_ret
    rw [HP.out]
    exact ⟨rfl, HB1.out⟩

set_option maxHeartbeats 8000000 in
set_option maxRecDepth 100000 in
theorem next_is {w : World} {b d c cc : Nat} {A C : Option Addr} {N : Nat → Prop} {l : Wl} {gb : Nat} (h : LIn w b d A c C cc N l) (hg : Blk w gb 37 #[.pointer (some ⟨b, 0, none⟩)]) (x : Vr) :
    Calls Tryz.prog 47 #[.agg #[.int .i64 (x.i : Int), .int .u64 (x.base : Int), .slice x.A x.m x.c], .pointer (some ⟨gb, 0, none⟩)] w fun e w' => e = .returned (.bool (nextP l.last (l.live.map (·.en)) x)) ∧ Below w.heap.size w w' := by
  have HB0 := hid (show Below w.heap.size w (w.alloc (.cells #[.int .i64 (x.i : Int), .int .u64 (x.base : Int), .slice x.A x.m x.c] 108)) from (Below.refl _ _).alloc (Nat.le_refl _) _)
  have HH1 := hid (h.below HB0.out)
  have hg1 := hg.below HB0.out hg.lt
  have hz := Blk.new w 108 #[.int .i64 (x.i : Int), .int .u64 (x.base : Int), .slice x.A x.m x.c]
  obtain ⟨F, hF⟩ : ∃ F, F = m64 (l.last + 1) := ⟨_, rfl⟩
  have hwf : IntKind.u64.wrap ((l.last : Int) + 1) = (F : Int) := by rw [IntKind.wrap_u64, hF]; unfold m64; omega
  have HPP := hid (show nextP l.last (l.live.map (·.en)) x = (decide (x.base = F) && !((l.live.map (·.en)).any fun y => ((x.i, x.base) : En) == y)) by unfold nextP; rw [hF])
  obtain ⟨g2, hg2⟩ : ∃ g, g = w.heap.size := ⟨_, rfl⟩
  rw [← hg2] at hz
  clear h hg hF
  go_enter Tryz.func47, Tryz.ntmps47
  go_upto_region 1 with fail
  rw [← hg2]
  generalize w.alloc (.cells #[.int .i64 (x.i : Int), .int .u64 (x.base : Int), .slice x.A x.m x.c] 108) = w1 at *
  have HBW := hid (show w.heap.size ≤ w1.heap.size from HB0.out.size)
  have x4 : ∀ W, Beyond w1 W → W.cell? ⟨b, 4, none⟩ = some (.slice A l.live.length c) := fun W hW => (HH1.out.below hW).blk.cell 4
  have x5 : ∀ W, Beyond w1 W → W.cell? ⟨b, 5, none⟩ = some (.int .u64 (l.last : Int)) := fun W hW => (HH1.out.below hW).blk.cell 5
  have y0 : ∀ W, Beyond w1 W → W.cell? ⟨gb, 0, none⟩ = some (.pointer (some ⟨b, 0, none⟩)) := fun W hW => (hg1.below hW hg1.lt).cell 0
  have z0 : ∀ W, Beyond w1 W → W.cell? ⟨g2, 0, none⟩ = some (.int .i64 (x.i : Int)) := fun W hW => (hz.below hW hz.lt).cell 0
  have z1 : ∀ W, Beyond w1 W → W.cell? ⟨g2, 1, none⟩ = some (.int .u64 (x.base : Int)) := fun W hW => (hz.below hW hz.lt).cell 1
  have z2 : ∀ W, Beyond w1 W → W.cell? ⟨g2, 2, none⟩ = some (.slice x.A x.m x.c) := fun W hW => (hz.below hW hz.lt).cell 2
  have HCT := hid (fun (W : World) (hW : Beyond w1 W) => contains2_en (c := c) (n := l.live.length) ((x.i, x.base) : En) (HH1.out.below hW).used.at_ (by rw [List.length_map]) (Nat.le_refl _) (by rw [List.length_map]; have := HH1.out.pl.live; omega))
  clear hz hg1 hg2
  by_cases q1 : x.base = F
  · have b1 : ((x.base : Int) == (F : Int)) = true := by simp; omega
    cases hu : (l.live.map (·.en)).any fun y => ((x.i, x.base) : En) == y with
    | true =>
      have HP := hid (show nextP l.last (l.live.map (·.en)) x = false by rw [HPP.out, hu]; simp)
      rw [hu] at HCT
      clear HPP hu q1
      go_wp2_with fail
      refine wp_region_held_drew (S := Beyond w1) (by kernel_rfl) (Beyond.drew _) (fun hS => ?_)
      refine stT 0 hS ?_; (try simp only [putr]); refine stT 1 hS ?_; (try simp only [putr]); refine stT 2 hS ?_; (try simp only [putr]); refine stT 3 hS ?_; (try simp only [putr]); refine stT 4 hS ?_; (try simp only [putr]); refine stT 5 hS ?_; (try simp only [putr]); refine stT 6 hS ?_; (try simp only [putr]); refine stT 7 hS ?_; (try simp only [putr]); refine stT 8 hS ?_; (try simp only [putr]); refine stT 9 hS ?_; try simp only [putr]
      first | (refine stT 10 hS ?_) | (refine stK 10 hS ?_)
      try simp only [putr]
      first | (refine stT 11 hS ?_) | (refine stK 11 hS ?_)
      try simp only [putr]
      first | (refine stT 12 hS ?_) | (refine stK 12 hS ?_)
      try simp only [putr]
      first | (refine stT 13 hS ?_) | (refine stK 13 hS ?_)
      try simp only [putr]
      first | (refine stT 14 hS ?_) | (refine stK 14 hS ?_)
      try simp only [putr]
      first | (refine stT 15 hS ?_) | (refine stK 15 hS ?_)
      (try simp only [putr]); refine rdH [16] ?_; refine rcH (fun K hK => ?_) AllReadyH.nil; go_simp
      go_fit (HCT.out _ hS)
      rintro e w5 ⟨rfl, hb5⟩
      have hS16 := Beyond.step hS hb5
      clear hb5
      refine hK.out _ _ (by assumption) (fun _ => ?_); clear hK K hS; have hS := hS16; try simp only [putr]
      first | (refine stT 17 hS ?_) | (refine stK 17 hS ?_)
      (try simp only [putr]); refine stT 18 hS ?_; (try simp only [putr]); refine stT 19 hS ?_; (try simp only [putr]); refine wpAnyH_done (by kernel_rfl) ?_ _
      have HB5 := hid (HB0.out.trans (hS.mono HBW.out))
      clear hS x4 x5 y0 z0 z1 z2
      go_wp2_with fail
      go_ret
      rw [HP.out]
      exact ⟨rfl, HB5.out⟩
    | false =>
      have HP := hid (show nextP l.last (l.live.map (·.en)) x = true by rw [HPP.out, hu]; simp [q1])
      rw [hu] at HCT
      clear HPP hu q1
      go_wp2_with fail
      refine wp_region_held_drew (S := Beyond w1) (by kernel_rfl) (Beyond.drew _) (fun hS => ?_)
      refine stT 0 hS ?_; (try simp only [putr]); refine stT 1 hS ?_; (try simp only [putr]); refine stT 2 hS ?_; (try simp only [putr]); refine stT 3 hS ?_; (try simp only [putr]); refine stT 4 hS ?_; (try simp only [putr]); refine stT 5 hS ?_; (try simp only [putr]); refine stT 6 hS ?_; (try simp only [putr]); refine stT 7 hS ?_; (try simp only [putr]); refine stT 8 hS ?_; (try simp only [putr]); refine stT 9 hS ?_; try simp only [putr]
      first | (refine stT 10 hS ?_) | (refine stK 10 hS ?_)
      try simp only [putr]
      first | (refine stT 11 hS ?_) | (refine stK 11 hS ?_)
      try simp only [putr]
      first | (refine stT 12 hS ?_) | (refine stK 12 hS ?_)
      try simp only [putr]
      first | (refine stT 13 hS ?_) | (refine stK 13 hS ?_)
      try simp only [putr]
      first | (refine stT 14 hS ?_) | (refine stK 14 hS ?_)
      try simp only [putr]
      first | (refine stT 15 hS ?_) | (refine stK 15 hS ?_)
      (try simp only [putr]); refine rdH [16] ?_; refine rcH (fun K hK => ?_) AllReadyH.nil; go_simp
      go_fit (HCT.out _ hS)
      rintro e w5 ⟨rfl, hb5⟩
      have hS16 := Beyond.step hS hb5
      clear hb5
      refine hK.out _ _ (by assumption) (fun _ => ?_); clear hK K hS; have hS := hS16; try simp only [putr]
      first | (refine stT 17 hS ?_) | (refine stK 17 hS ?_)
      (try simp only [putr]); refine stT 18 hS ?_; (try simp only [putr]); refine stT 19 hS ?_; (try simp only [putr]); refine wpAnyH_done (by kernel_rfl) ?_ _
      have HB5 := hid (HB0.out.trans (hS.mono HBW.out))
      clear hS x4 x5 y0 z0 z1 z2
      go_wp2_with fail
      go_ret
      rw [HP.out]
      exact ⟨rfl, HB5.out⟩
  · have b1 : ((x.base : Int) == (F : Int)) = false := by simp; omega
    have HP := hid (show nextP l.last (l.live.map (·.en)) x = false by rw [HPP.out]; simp [q1])
    clear HPP q1
    go_wp2_with fail
    refine wp_region_held_drew (S := Beyond w1) (by kernel_rfl) (Beyond.drew _) (fun hS => ?_)
    refine stT 0 hS ?_; (try simp only [putr]); refine stT 1 hS ?_; (try simp only [putr]); refine stT 2 hS ?_; (try simp only [putr]); refine stT 3 hS ?_; (try simp only [putr]); refine stT 4 hS ?_; (try simp only [putr]); refine stT 5 hS ?_; (try simp only [putr]); refine stT 6 hS ?_; (try simp only [putr]); refine stT 7 hS ?_; (try simp only [putr]); refine stT 8 hS ?_; (try simp only [putr]); refine stT 9 hS ?_; (try simp only [putr]); refine stK 10 hS ?_; (try simp only [putr]); refine stK 11 hS ?_; (try simp only [putr]); refine stK 12 hS ?_; (try simp only [putr]); refine stK 13 hS ?_; (try simp only [putr]); refine stK 14 hS ?_; (try simp only [putr]); refine stK 15 hS ?_; (try simp only [putr]); refine stK 16 hS ?_; (try simp only [putr]); refine stK 17 hS ?_; (try simp only [putr]); refine stT 18 hS ?_; (try simp only [putr]); refine stT 19 hS ?_; (try simp only [putr]); refine wpAnyH_done (by kernel_rfl) ?_ _
    have HB5 := hid (HB0.out.trans (hS.mono HBW.out))
    clear hS x4 x5 y0 z0 z1 z2
    go_wp2_with fail
    go_ret
    rw [HP.out]
    exact ⟨rfl, HB5.out⟩

end Go.Proofs.YtobmdmbjmjdfjaaGreatDoor
