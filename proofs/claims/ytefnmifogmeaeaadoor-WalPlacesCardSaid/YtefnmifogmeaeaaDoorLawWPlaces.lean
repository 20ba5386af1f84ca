/-
  WalPlaces: the walk.
-/
import Derived.Test.YtefnmifogmeaeaaDoorWAwake
namespace Go.Proofs.YtefnmifogmeaeaaDoor
open Go Go.RowKit

set_option maxHeartbeats 8000000 in
set_option maxRecDepth 100000 in
theorem wplaces_walk (p0 p1 p2 p3 sz fr : Int) (w : World) (hfr : 0 ≤ fr ∧ fr < 18446744073709551616) (hT : Table w) :
    Calls Tryd.prog 4 #[.agg #[.int .i64 p0, .int .i64 p1, .int .i64 p2, .int .i64 p3], .int .i64 sz, .int .u64 fr] w fun e w' => e = .returned (.bool true) ∧ Below w.heap.size w w' := by
  have HT := hid hT
  have HB1 := hid (show Below w.heap.size w (w.alloc (.cells #[.int .i64 p0, .int .i64 p1, .int .i64 p2, .int .i64 p3] 43)) from (Below.refl _ _).alloc (Nat.le_refl _) _)
  have hx := Blk.new w 43 #[.int .i64 p0, .int .i64 p1, .int .i64 p2, .int .i64 p3]
  have x0 := hx.cell 0
  have x1 := hx.cell 1
  have x2 := hx.cell 2
  have x3 := hx.cell 3
  have HNEW := hid (fun (W : World) => face.newYes (n := 100) (w := W) (by decide) (by decide))
  clear hx hT
  by_cases g1 : p2 ≥ 2
  case neg =>
    have HNO := hid (show p2 < 2 ∨ 64 < p2 ∨ sz < 1 ∨ 64 < sz ∨ p1 < 0 ∨ 65536 - p2 * sz < p1 from .inl (by omega))
    go_enter Tryd.func4, Tryd.ntmps4
    go_upto_region 1 with fail
    generalize w.alloc (.cells #[.int .i64 p0, .int .i64 p1, .int .i64 p2, .int .i64 p3] 43) = w1 at *
    go_wp2_with fail
    go_quiet (fail)
    generalize hw0 : World.drewN _ _ = w2
    have HB2 := hid (show Below w.heap.size w w2 from by rw [← hw0]; exact below_drewN HB1.out _)
    clear hw0 x0 x1 x2 x3
    go_wp2_with fail
    go_fit (HNEW.out w2)
    rintro e w3 ⟨d, M, R, rfl, hd, hnew, hb3⟩
    have HD3 := hid hd
    have HN3 := hid hnew
    have HB3 := hid (HB2.out.trans (hb3.mono HB2.out.size))
    clear hd hnew hb3
    go_wp2_with fail
    go_fit (wawake_yes w3 (HT.out.step HB3.out))
    rintro e w4 ⟨rfl, hb4⟩
    have HB4 := hid (HB3.out.trans (hb4.mono HB3.out.size))
    have HD4 := hid (HD3.out.step hb4)
    have HN4 := hid (show ∀ k, M k ∨ R k → w.heap.size ≤ k ∧ k < w4.heap.size from fun k hk => ⟨Nat.le_trans HB2.out.size (HN3.out k hk), HD4.out.lt k hk⟩)
    clear hb4
    go_wp2_with fail
    go_fit (open_no HNO.out)
    rintro e w5 ⟨rfl, hb5⟩
    have HB5 := hid (HB4.out.trans (hb5.mono HB4.out.size))
    clear hb5
    go_wp2_with fail
    go_ret
    exact ⟨rfl, HB5.out⟩
  by_cases g2 : p2 ≤ 64
  case neg =>
    have HNO := hid (show p2 < 2 ∨ 64 < p2 ∨ sz < 1 ∨ 64 < sz ∨ p1 < 0 ∨ 65536 - p2 * sz < p1 from .inr (.inl (by omega)))
    go_enter Tryd.func4, Tryd.ntmps4
    go_upto_region 1 with fail
    generalize w.alloc (.cells #[.int .i64 p0, .int .i64 p1, .int .i64 p2, .int .i64 p3] 43) = w1 at *
    go_wp2_with fail
    go_quiet (fail)
    generalize hw0 : World.drewN _ _ = w2
    have HB2 := hid (show Below w.heap.size w w2 from by rw [← hw0]; exact below_drewN HB1.out _)
    clear hw0 x0 x1 x2 x3
    go_wp2_with fail
    go_fit (HNEW.out w2)
    rintro e w3 ⟨d, M, R, rfl, hd, hnew, hb3⟩
    have HD3 := hid hd
    have HN3 := hid hnew
    have HB3 := hid (HB2.out.trans (hb3.mono HB2.out.size))
    clear hd hnew hb3
    go_wp2_with fail
    go_fit (wawake_yes w3 (HT.out.step HB3.out))
    rintro e w4 ⟨rfl, hb4⟩
    have HB4 := hid (HB3.out.trans (hb4.mono HB3.out.size))
    have HD4 := hid (HD3.out.step hb4)
    have HN4 := hid (show ∀ k, M k ∨ R k → w.heap.size ≤ k ∧ k < w4.heap.size from fun k hk => ⟨Nat.le_trans HB2.out.size (HN3.out k hk), HD4.out.lt k hk⟩)
    clear hb4
    go_wp2_with fail
    go_fit (open_no HNO.out)
    rintro e w5 ⟨rfl, hb5⟩
    have HB5 := hid (HB4.out.trans (hb5.mono HB4.out.size))
    clear hb5
    go_wp2_with fail
    go_ret
    exact ⟨rfl, HB5.out⟩
  by_cases g3 : sz ≥ 1
  case neg =>
    have HNO := hid (show p2 < 2 ∨ 64 < p2 ∨ sz < 1 ∨ 64 < sz ∨ p1 < 0 ∨ 65536 - p2 * sz < p1 from .inr (.inr (.inl (by omega))))
    go_enter Tryd.func4, Tryd.ntmps4
    go_upto_region 1 with fail
    generalize w.alloc (.cells #[.int .i64 p0, .int .i64 p1, .int .i64 p2, .int .i64 p3] 43) = w1 at *
    go_wp2_with fail
    go_quiet (fail)
    generalize hw0 : World.drewN _ _ = w2
    have HB2 := hid (show Below w.heap.size w w2 from by rw [← hw0]; exact below_drewN HB1.out _)
    clear hw0 x0 x1 x2 x3
    go_wp2_with fail
    go_fit (HNEW.out w2)
    rintro e w3 ⟨d, M, R, rfl, hd, hnew, hb3⟩
    have HD3 := hid hd
    have HN3 := hid hnew
    have HB3 := hid (HB2.out.trans (hb3.mono HB2.out.size))
    clear hd hnew hb3
    go_wp2_with fail
    go_fit (wawake_yes w3 (HT.out.step HB3.out))
    rintro e w4 ⟨rfl, hb4⟩
    have HB4 := hid (HB3.out.trans (hb4.mono HB3.out.size))
    have HD4 := hid (HD3.out.step hb4)
    have HN4 := hid (show ∀ k, M k ∨ R k → w.heap.size ≤ k ∧ k < w4.heap.size from fun k hk => ⟨Nat.le_trans HB2.out.size (HN3.out k hk), HD4.out.lt k hk⟩)
    clear hb4
    go_wp2_with fail
    go_fit (open_no HNO.out)
    rintro e w5 ⟨rfl, hb5⟩
    have HB5 := hid (HB4.out.trans (hb5.mono HB4.out.size))
    clear hb5
    go_wp2_with fail
    go_ret
    exact ⟨rfl, HB5.out⟩
  by_cases g4 : sz ≤ 64
  case neg =>
    have HNO := hid (show p2 < 2 ∨ 64 < p2 ∨ sz < 1 ∨ 64 < sz ∨ p1 < 0 ∨ 65536 - p2 * sz < p1 from .inr (.inr (.inr (.inl (by omega)))))
    go_enter Tryd.func4, Tryd.ntmps4
    go_upto_region 1 with fail
    generalize w.alloc (.cells #[.int .i64 p0, .int .i64 p1, .int .i64 p2, .int .i64 p3] 43) = w1 at *
    go_wp2_with fail
    go_quiet (fail)
    generalize hw0 : World.drewN _ _ = w2
    have HB2 := hid (show Below w.heap.size w w2 from by rw [← hw0]; exact below_drewN HB1.out _)
    clear hw0 x0 x1 x2 x3
    go_wp2_with fail
    go_fit (HNEW.out w2)
    rintro e w3 ⟨d, M, R, rfl, hd, hnew, hb3⟩
    have HD3 := hid hd
    have HN3 := hid hnew
    have HB3 := hid (HB2.out.trans (hb3.mono HB2.out.size))
    clear hd hnew hb3
    go_wp2_with fail
    go_fit (wawake_yes w3 (HT.out.step HB3.out))
    rintro e w4 ⟨rfl, hb4⟩
    have HB4 := hid (HB3.out.trans (hb4.mono HB3.out.size))
    have HD4 := hid (HD3.out.step hb4)
    have HN4 := hid (show ∀ k, M k ∨ R k → w.heap.size ≤ k ∧ k < w4.heap.size from fun k hk => ⟨Nat.le_trans HB2.out.size (HN3.out k hk), HD4.out.lt k hk⟩)
    clear hb4
    go_wp2_with fail
    go_fit (open_no HNO.out)
    rintro e w5 ⟨rfl, hb5⟩
    have HB5 := hid (HB4.out.trans (hb5.mono HB4.out.size))
    clear hb5
    go_wp2_with fail
    go_ret
    exact ⟨rfl, HB5.out⟩
  by_cases g5 : p1 ≥ 0
  case neg =>
    have HNO := hid (show p2 < 2 ∨ 64 < p2 ∨ sz < 1 ∨ 64 < sz ∨ p1 < 0 ∨ 65536 - p2 * sz < p1 from .inr (.inr (.inr (.inr (.inl (by omega))))))
    go_enter Tryd.func4, Tryd.ntmps4
    go_upto_region 1 with fail
    generalize w.alloc (.cells #[.int .i64 p0, .int .i64 p1, .int .i64 p2, .int .i64 p3] 43) = w1 at *
    go_wp2_with fail
    go_quiet (fail)
    generalize hw0 : World.drewN _ _ = w2
    have HB2 := hid (show Below w.heap.size w w2 from by rw [← hw0]; exact below_drewN HB1.out _)
    clear hw0 x0 x1 x2 x3
    go_wp2_with fail
    go_fit (HNEW.out w2)
    rintro e w3 ⟨d, M, R, rfl, hd, hnew, hb3⟩
    have HD3 := hid hd
    have HN3 := hid hnew
    have HB3 := hid (HB2.out.trans (hb3.mono HB2.out.size))
    clear hd hnew hb3
    go_wp2_with fail
    go_fit (wawake_yes w3 (HT.out.step HB3.out))
    rintro e w4 ⟨rfl, hb4⟩
    have HB4 := hid (HB3.out.trans (hb4.mono HB3.out.size))
    have HD4 := hid (HD3.out.step hb4)
    have HN4 := hid (show ∀ k, M k ∨ R k → w.heap.size ≤ k ∧ k < w4.heap.size from fun k hk => ⟨Nat.le_trans HB2.out.size (HN3.out k hk), HD4.out.lt k hk⟩)
    clear hb4
    go_wp2_with fail
    go_fit (open_no HNO.out)
    rintro e w5 ⟨rfl, hb5⟩
    have HB5 := hid (HB4.out.trans (hb5.mono HB4.out.size))
    clear hb5
    go_wp2_with fail
    go_ret
    exact ⟨rfl, HB5.out⟩
  obtain ⟨n, rfl⟩ : ∃ x : Nat, p2 = (x : Int) := ⟨p2.toNat, by omega⟩
  obtain ⟨size, rfl⟩ : ∃ x : Nat, sz = (x : Int) := ⟨sz.toNat, by omega⟩
  have hm : (n : Int) * (size : Int) = ((n * size : Nat) : Int) := by simp
  have hl : n * size ≤ 64 * 64 := Nat.mul_le_mul (by omega) (by omega)
  have hwm : IntKind.i64.wrap ((n : Int) * (size : Int)) = (n : Int) * (size : Int) := by rw [IntKind.wrap_i64]; omega
  have hws : IntKind.i64.wrap (65536 - (n : Int) * (size : Int)) = 65536 - (n : Int) * (size : Int) := by rw [IntKind.wrap_i64]; omega
  have hws2 : wrap64 (65536 - (n : Int) * (size : Int)) = 65536 - (n : Int) * (size : Int) := by unfold wrap64; omega
  by_cases g6 : p1 ≤ 65536 - (n : Int) * (size : Int)
  case neg =>
    have HNO := hid (show (n : Int) < 2 ∨ 64 < (n : Int) ∨ (size : Int) < 1 ∨ 64 < (size : Int) ∨ p1 < 0 ∨ 65536 - (n : Int) * (size : Int) < p1 from .inr (.inr (.inr (.inr (.inr (by omega))))))
    have hb6 : decide (p1 ≤ 65536 - (n : Int) * (size : Int)) = false := decide_eq_false g6
    clear hm hl
    go_enter Tryd.func4, Tryd.ntmps4
    go_upto_region 1 with fail
    generalize w.alloc (.cells #[.int .i64 p0, .int .i64 p1, .int .i64 (n : Int), .int .i64 p3] 43) = w1 at *
    go_wp2_with fail
    go_quiet (fail)
    generalize hw0 : World.drewN _ _ = w2
    have HB2 := hid (show Below w.heap.size w w2 from by rw [← hw0]; exact below_drewN HB1.out _)
    clear hw0 x0 x1 x2 x3
    go_wp2_with fail
    go_fit (HNEW.out w2)
    rintro e w3 ⟨d, M, R, rfl, hd, hnew, hb3⟩
    have HD3 := hid hd
    have HN3 := hid hnew
    have HB3 := hid (HB2.out.trans (hb3.mono HB2.out.size))
    clear hd hnew hb3
    go_wp2_with fail
    go_fit (wawake_yes w3 (HT.out.step HB3.out))
    rintro e w4 ⟨rfl, hb4⟩
    have HB4 := hid (HB3.out.trans (hb4.mono HB3.out.size))
    have HD4 := hid (HD3.out.step hb4)
    have HN4 := hid (show ∀ k, M k ∨ R k → w.heap.size ≤ k ∧ k < w4.heap.size from fun k hk => ⟨Nat.le_trans HB2.out.size (HN3.out k hk), HD4.out.lt k hk⟩)
    clear hb4
    go_wp2_with fail
    go_fit (open_no HNO.out)
    rintro e w5 ⟨rfl, hb5⟩
    have HB5 := hid (HB4.out.trans (hb5.mono HB4.out.size))
    clear hb5
    go_wp2_with fail
    go_ret
    exact ⟨rfl, HB5.out⟩
  obtain ⟨at_, rfl⟩ : ∃ x : Nat, p1 = (x : Int) := ⟨p1.toNat, by omega⟩
  obtain ⟨fn, rfl⟩ : ∃ x : Nat, fr = (x : Int) := ⟨fr.toNat, by omega⟩
  have HOP := hid (fun (W : World) (d : Nat) (M R : Nat → Prop) (hd : DA6 W d M R (Dk.new 100)) => show Calls _ _ _ _ _ from by
    have h9 := open_yes (at_ := at_) (n := n) (size := size) (fr := fn) hd (by omega) (by omega) (by omega) (by omega) (by omega) (by omega) (by decide) (fun i _ => seg_empty (m := (Dk.new 100).view) (fun _ => rfl) _ _)
    obtain ⟨o1, o2, o3⟩ := open_empty (s := Dk.new 100) (fun _ => rfl) at_ n size fn
    rw [o1, o2, o3] at h9
    exact h9)
  have hb6 : decide ((at_ : Int) ≤ 65536 - (n : Int) * (size : Int)) = true := decide_eq_true g6
  clear hm hl hfr
  go_enter Tryd.func4, Tryd.ntmps4
  go_upto_region 1 with fail
  generalize w.alloc (.cells #[.int .i64 p0, .int .i64 (at_ : Int), .int .i64 (n : Int), .int .i64 p3] 43) = w1 at *
  go_wp2_with fail
  go_quiet (fail)
  generalize hw0 : World.drewN _ _ = w2
  have HB2 := hid (show Below w.heap.size w w2 from by rw [← hw0]; exact below_drewN HB1.out _)
  clear hw0 x0 x1 x2 x3
  go_wp2_with fail
  go_fit (HNEW.out w2)
  rintro e w3 ⟨d, M, R, rfl, hd, hnew, hb3⟩
  have HD3 := hid hd
  have HN3 := hid hnew
  have HB3 := hid (HB2.out.trans (hb3.mono HB2.out.size))
  clear hd hnew hb3
  go_wp2_with fail
  go_fit (wawake_yes w3 (HT.out.step HB3.out))
  rintro e w4 ⟨rfl, hb4⟩
  have HB4 := hid (HB3.out.trans (hb4.mono HB3.out.size))
  have HD4 := hid (HD3.out.step hb4)
  have HN4 := hid (show ∀ k, M k ∨ R k → w.heap.size ≤ k ∧ k < w4.heap.size from fun k hk => ⟨Nat.le_trans HB2.out.size (HN3.out k hk), HD4.out.lt k hk⟩)
  clear hb4
  go_wp2_with fail
  go_fit (HOP.out w4 d M R HD4.out)
  rintro e w5 ⟨b, A5, m5, c5, N, M5, R5, rfl, hwa, _, hm5, _, ht⟩
  obtain rfl : m5 = 0 := hm5
  have HB5 := hid (show Below w.heap.size w w5 from ht.within.below0 HB4.out (fun k x => x.elim False.elim (fun y => (HN4.out k (.inl y)).1)))
  have HD5 := hid hwa.disk
  obtain ⟨Aq, cq, Cq, ccq, hlq⟩ := hwa.log
  have h1 := last_is hlq
  have HLA := hid h1
  have h2 := live_is hlq
  rw [show ((([] : List Sg).length : Nat) : Int) = 0 from rfl] at h2
  have HLV := hid h2
  have h3 := synced_is hlq
  have HSY := hid h3
  have h4 := face.used HD5.out
  rw [show (((Dk.new 100).sync.used : Nat) : Int) = 0 from by rw [show (Dk.new 100).sync.used = 0 from Dk.new_used 100]; rfl] at h4
  have HUS := hid h4
  clear hwa ht hlq h1 h2 h3 h4 HOP
  go_wp2_with fail
  go_fit HLA.out
  rintro e w6 ⟨rfl, hw⟩
  obtain rfl : w5 = w6 := hw.symm
  go_wp2_with fail
  go_fit HLV.out
  rintro e w6 ⟨rfl, hw⟩
  obtain rfl : w5 = w6 := hw.symm
  go_wp2_with fail
  go_fit HSY.out
  rintro e w6 ⟨rfl, hw⟩
  obtain rfl : w5 = w6 := hw.symm
  go_wp2_with fail
  go_fit HUS.out
  rintro e w6 ⟨rfl, hb6⟩
  have HB6 := hid (below_step HB5.out hb6)
  clear hb6
  go_wp2_with fail
  go_ret
  exact ⟨rfl, HB6.out⟩

end Go.Proofs.YtefnmifogmeaeaaDoor
