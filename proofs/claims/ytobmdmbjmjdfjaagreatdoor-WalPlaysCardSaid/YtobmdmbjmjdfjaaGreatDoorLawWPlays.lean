/-
  WalPlays: its walk.
-/
import Derived.Test.YtobmdmbjmjdfjaaGreatDoorWPl8
import Derived.Test.YtobmdmbjmjdfjaaGreatDoorJR8
import Derived.Test.YtobmdmbjmjdfjaaGreatDoorJR6

import Derived.Deep.CutBlock
namespace Go.Proofs.YtobmdmbjmjdfjaaGreatDoor
open Go Go.RowKit


theorem Blk.set5 {w : World} {g : Nat} {t : TypeId} {x0 x1 x2 x3 x4 x5 x6 x7 x8 x9 x10 x11 u0 u1 u2 u3 u4 : Value} (h : Blk w g t #[x0, x1, x2, x3, x4, x5, x6, x7, x8, x9, x10, x11]) : Blk (((((w.setCell ⟨g, 0, none⟩ u0).setCell ⟨g, 1, none⟩ u1).setCell ⟨g, 2, none⟩ u2).setCell ⟨g, 3, none⟩ u3).setCell ⟨g, 4, none⟩ u4) g t #[u0, u1, u2, u3, u4, x5, x6, x7, x8, x9, x10, x11] := by
  have := (((((h.set 0 u0).set 1 u1).set 2 u2).set 3 u3).set 4 u4)
  simpa using this
theorem GA_of {w : World} {B B' : Nat} {A : Option Addr} {l : List Rc} (h : RcAt w B A l) (hB : B ≤ B') : RcAt w B' A l := fun hl => by
  obtain ⟨b, off, e, hb, hc⟩ := h hl
  exact ⟨b, off, e, by omega, hc⟩
theorem HB_of {w0 w w' : World} (h : Below w0.heap.size w0 w) (k : Below w.heap.size w w') : Below w0.heap.size w w' := k.mono h.size
theorem off12_of {gk : Nat} {w w' : World} {t : TypeId} {x0 x1 x2 x3 x4 x5 x6 x7 x8 x9 x10 x11 u0 u1 u2 u3 u4 u5 u6 u7 u8 u9 u10 u11 : Value} (e : ((((((((((((w.setCell ⟨gk, 0, none⟩ u0).setCell ⟨gk, 1, none⟩ u1).setCell ⟨gk, 2, none⟩ u2).setCell ⟨gk, 3, none⟩ u3).setCell ⟨gk, 4, none⟩ u4).setCell ⟨gk, 5, none⟩ u5).setCell ⟨gk, 6, none⟩ u6).setCell ⟨gk, 7, none⟩ u7).setCell ⟨gk, 8, none⟩ u8).setCell ⟨gk, 9, none⟩ u9).setCell ⟨gk, 10, none⟩ u10).setCell ⟨gk, 11, none⟩ u11) = w') (h : Blk w gk t #[x0, x1, x2, x3, x4, x5, x6, x7, x8, x9, x10, x11]) : Off2 gk gk w w' ∧ Blk w' gk t #[u0, u1, u2, u3, u4, u5, u6, u7, u8, u9, u10, u11] := by
  subst e
  exact ⟨off12, h.set12⟩
set_option maxHeartbeats 400000000 in
set_option maxRecDepth 100000 in
theorem wplays_walk (p0 p1 p2 p3 : Int) (fr : Nat) (A : Option Addr) (c : Nat) (xs : List Act8) (w : World) (hp : p1 ≤ 9223372036854775807) (hfr : fr < 18446744073709551616) (hA : ActsAt8 w w.heap.size A xs) (hT : Table w) :
    Calls Tryz.prog 3 #[.agg #[.int .i64 p0, .int .i64 p1, .int .i64 p2, .int .i64 p3], .int .u64 (fr : Int), .slice A xs.length c] w fun e w' => e = .returned (.bool true) ∧ Below w.heap.size w w' := by
  have HT := hid hT
  have HA := hid hA
  have HAW := hid (show ∀ W : World, Below w.heap.size w W → Calls Tryz.prog 6 #[] W fun e w' => e = .returned (.bool true) ∧ Below W.heap.size W w' from fun W hW => wawake_yes W (hT.step hW))
  have HB1 := hid (show Below w.heap.size w (w.alloc (.cells #[.int .i64 p0, .int .i64 p1, .int .i64 p2, .int .i64 p3] 23)) from (Below.refl _ _).alloc (Nat.le_refl _) _)
  have HP1 := hid (Blk.new w 23 #[.int .i64 p0, .int .i64 p1, .int .i64 p2, .int .i64 p3])
  clear hA hT
  obtain ⟨m, hml⟩ : ∃ m, xs.length = m := ⟨_, rfl⟩
  have HML := hid hml
  rw [hml]
  clear hml
  by_cases g0 : p0 < 1 ∨ 65536 < p0
  · have HN := hid (fun (W : World) => face.newNo (w := W) g0)
    have HM := hid (fun (W : World) => new6_no (w := W) g0)
    clear g0
    go_enter Tryz.func3, Tryz.ntmps3
    go_upto_region 1 with fail
    generalize w.alloc (.cells #[.int .i64 p0, .int .i64 p1, .int .i64 p2, .int .i64 p3] 23) = w1 at *
    have x0 := HP1.out.cell 0
    go_wp2_with fail
    go_fit (HN.out w1)
    rintro e w2 ⟨rfl, hb2⟩
    have HB2 := hid (HB1.out.trans (hb2.mono HB1.out.size))
    have HP2 := hid (HP1.out.below hb2 HP1.out.lt)
    have x0 := HP2.out.cell 0
    clear hb2
    go_wp2_with fail
    go_fit (HM.out w2)
    rintro e w3 ⟨rfl, hb3⟩
    have HB3 := hid (HB2.out.trans (hb3.mono HB2.out.size))
    clear hb3 x0
    have HB4 := hid (HB3.out.alloc HB3.out.size (.cells #[.int .i64 0, .int .i64 0, .slice none 0 0, .slice none 0 0, .slice none 0 0] 33))
    go_upto_region 3 with fail
    generalize w3.alloc (.cells #[.int .i64 0, .int .i64 0, .slice none 0 0, .slice none 0 0, .slice none 0 0] 33) = w4 at *
    go_wp2_with fail
    go_fit (HAW.out w4 HB4.out)
    rintro e w5 ⟨rfl, hb5⟩
    have HB5 := hid (HB4.out.trans (hb5.mono HB4.out.size))
    clear hb5
    go_wp2_with fail
    go_fit (HAW.out w5 HB5.out)
    rintro e w6 ⟨rfl, hb6⟩
    go_wp2_with fail
    go_ret
    exact ⟨rfl, HB5.out.trans (hb6.mono HB5.out.size)⟩
  · obtain ⟨n0, rfl⟩ : ∃ n0 : Nat, p0 = (n0 : Int) := ⟨p0.toNat, by omega⟩
    have HN := hid (fun (W : World) => face.newYes (n := n0) (w := W) (by omega) (by omega))
    have HM := hid (fun (W : World) => new6_yes (P := fun _ => False) (n := n0) (w := W) (by omega) (by omega))
    have HZ1 := hid (show w.heap.size + 1 ≤ (w.alloc (.cells #[.int .i64 (n0 : Int), .int .i64 p1, .int .i64 p2, .int .i64 p3] 23)).heap.size by simp)
    clear g0
    by_cases g1 : p2 > 10
    · as_aux_lemma =>
        go_enter Tryz.func3, Tryz.ntmps3
        go_upto_region 1 with fail
        generalize w.alloc (.cells #[.int .i64 (n0 : Int), .int .i64 p1, .int .i64 p2, .int .i64 p3] 23) = w1 at *
        have x0 := HP1.out.cell 0
        go_wp2_with fail
        go_fit (HN.out w1)
        rintro e w2 ⟨d, M, R, rfl, hd, hnew, hb2⟩
        have HD2 := hid hd
        have HN2 := hid (show ∀ k, M k ∨ R k → w.heap.size + 1 ≤ k from fun k hk => Nat.le_trans HZ1.out (hnew k hk))
        have HB2 := hid (HB1.out.trans (hb2.mono HB1.out.size))
        have HP2 := hid (HP1.out.below hb2 HP1.out.lt)
        have x0 := HP2.out.cell 0
        clear hb2 hd hnew
        go_wp2_with fail
        go_fit (HM.out w2)
        rintro e w3 ⟨v3, rfl, hd6, hb3⟩
        obtain ⟨a5, b5, B1, B2, B3, m1, m2, m3, e1, e2, e3, rfl⟩ := hd6.shape
        have hb4 := hb3.alloc hb3.size (.cells #[.int .i64 a5, .int .i64 b5, .slice B1 m1 e1, .slice B2 m2 e2, .slice B3 m3 e3] 33)
        have HV4 := hid (hd6.step ((Below.refl w3.heap.size w3).alloc (Nat.le_refl _) (.cells #[.int .i64 a5, .int .i64 b5, .slice B1 m1 e1, .slice B2 m2 e2, .slice B3 m3 e3] 33)))
        have HX4 := hid (Blk.new w3 33 #[.int .i64 a5, .int .i64 b5, .slice B1 m1 e1, .slice B2 m2 e2, .slice B3 m3 e3])
        have HD4 := hid (HD2.out.step hb4)
        have HP4 := hid (HP2.out.below hb4 HP2.out.lt)
        have HB4 := hid (HB2.out.trans (hb4.mono HB2.out.size))
        have HG4 := hid (show w.heap.size < w3.heap.size ∧ ∀ k, M k ∨ R k → k ≠ w3.heap.size from ⟨Nat.lt_of_lt_of_le HP2.out.lt hb3.size, fun k hk e => by have := HD2.out.lt k hk; have := hb3.size; omega⟩)
        clear hb3 hb4 hd6 HB2 HD2 HP2 x0
        go_upto_region 3 with fail
        generalize w3.alloc (.cells #[.int .i64 a5, .int .i64 b5, .slice B1 m1 e1, .slice B2 m2 e2, .slice B3 m3 e3] 33) = w4 at *
        generalize w3.heap.size = gm at *
        go_wp2_with fail
        go_fit (HAW.out w4 HB4.out)
        rintro e w5 ⟨rfl, hb5⟩
        have HV5 := hid (HV4.out.step hb5)
        have HX5 := hid (HX4.out.below hb5 HX4.out.lt)
        have HD5 := hid (HD4.out.step hb5)
        have HP5 := hid (HP4.out.below hb5 HP4.out.lt)
        have HB5 := hid (HB4.out.trans (hb5.mono HB4.out.size))
        have x1 := HP5.out.cell 1
        have x2 := HP5.out.cell 2
        have x3 := HP5.out.cell 3
        clear hb5 HV4 HX4 HD4 HP4 HB4
        go_wp2_with fail
        go_ret
        exact ⟨rfl, HB5.out⟩
    by_cases g2 : p3 > 4
    · as_aux_lemma =>
        go_enter Tryz.func3, Tryz.ntmps3
        go_upto_region 1 with fail
        generalize w.alloc (.cells #[.int .i64 (n0 : Int), .int .i64 p1, .int .i64 p2, .int .i64 p3] 23) = w1 at *
        have x0 := HP1.out.cell 0
        go_wp2_with fail
        go_fit (HN.out w1)
        rintro e w2 ⟨d, M, R, rfl, hd, hnew, hb2⟩
        have HD2 := hid hd
        have HN2 := hid (show ∀ k, M k ∨ R k → w.heap.size + 1 ≤ k from fun k hk => Nat.le_trans HZ1.out (hnew k hk))
        have HB2 := hid (HB1.out.trans (hb2.mono HB1.out.size))
        have HP2 := hid (HP1.out.below hb2 HP1.out.lt)
        have x0 := HP2.out.cell 0
        clear hb2 hd hnew
        go_wp2_with fail
        go_fit (HM.out w2)
        rintro e w3 ⟨v3, rfl, hd6, hb3⟩
        obtain ⟨a5, b5, B1, B2, B3, m1, m2, m3, e1, e2, e3, rfl⟩ := hd6.shape
        have hb4 := hb3.alloc hb3.size (.cells #[.int .i64 a5, .int .i64 b5, .slice B1 m1 e1, .slice B2 m2 e2, .slice B3 m3 e3] 33)
        have HV4 := hid (hd6.step ((Below.refl w3.heap.size w3).alloc (Nat.le_refl _) (.cells #[.int .i64 a5, .int .i64 b5, .slice B1 m1 e1, .slice B2 m2 e2, .slice B3 m3 e3] 33)))
        have HX4 := hid (Blk.new w3 33 #[.int .i64 a5, .int .i64 b5, .slice B1 m1 e1, .slice B2 m2 e2, .slice B3 m3 e3])
        have HD4 := hid (HD2.out.step hb4)
        have HP4 := hid (HP2.out.below hb4 HP2.out.lt)
        have HB4 := hid (HB2.out.trans (hb4.mono HB2.out.size))
        have HG4 := hid (show w.heap.size < w3.heap.size ∧ ∀ k, M k ∨ R k → k ≠ w3.heap.size from ⟨Nat.lt_of_lt_of_le HP2.out.lt hb3.size, fun k hk e => by have := HD2.out.lt k hk; have := hb3.size; omega⟩)
        clear hb3 hb4 hd6 HB2 HD2 HP2 x0
        go_upto_region 3 with fail
        generalize w3.alloc (.cells #[.int .i64 a5, .int .i64 b5, .slice B1 m1 e1, .slice B2 m2 e2, .slice B3 m3 e3] 33) = w4 at *
        generalize w3.heap.size = gm at *
        go_wp2_with fail
        go_fit (HAW.out w4 HB4.out)
        rintro e w5 ⟨rfl, hb5⟩
        have HV5 := hid (HV4.out.step hb5)
        have HX5 := hid (HX4.out.below hb5 HX4.out.lt)
        have HD5 := hid (HD4.out.step hb5)
        have HP5 := hid (HP4.out.below hb5 HP4.out.lt)
        have HB5 := hid (HB4.out.trans (hb5.mono HB4.out.size))
        have x1 := HP5.out.cell 1
        have x2 := HP5.out.cell 2
        have x3 := HP5.out.cell 3
        clear hb5 HV4 HX4 HD4 HP4 HB4
        go_wp2_with fail
        go_ret
        exact ⟨rfl, HB5.out⟩
    by_cases g3 : fr > 4611686018427387904
    · have g3i : (fr : Int) > 4611686018427387904 := by omega
      as_aux_lemma =>
        go_enter Tryz.func3, Tryz.ntmps3
        go_upto_region 1 with fail
        generalize w.alloc (.cells #[.int .i64 (n0 : Int), .int .i64 p1, .int .i64 p2, .int .i64 p3] 23) = w1 at *
        have x0 := HP1.out.cell 0
        go_wp2_with fail
        go_fit (HN.out w1)
        rintro e w2 ⟨d, M, R, rfl, hd, hnew, hb2⟩
        have HD2 := hid hd
        have HN2 := hid (show ∀ k, M k ∨ R k → w.heap.size + 1 ≤ k from fun k hk => Nat.le_trans HZ1.out (hnew k hk))
        have HB2 := hid (HB1.out.trans (hb2.mono HB1.out.size))
        have HP2 := hid (HP1.out.below hb2 HP1.out.lt)
        have x0 := HP2.out.cell 0
        clear hb2 hd hnew
        go_wp2_with fail
        go_fit (HM.out w2)
        rintro e w3 ⟨v3, rfl, hd6, hb3⟩
        obtain ⟨a5, b5, B1, B2, B3, m1, m2, m3, e1, e2, e3, rfl⟩ := hd6.shape
        have hb4 := hb3.alloc hb3.size (.cells #[.int .i64 a5, .int .i64 b5, .slice B1 m1 e1, .slice B2 m2 e2, .slice B3 m3 e3] 33)
        have HV4 := hid (hd6.step ((Below.refl w3.heap.size w3).alloc (Nat.le_refl _) (.cells #[.int .i64 a5, .int .i64 b5, .slice B1 m1 e1, .slice B2 m2 e2, .slice B3 m3 e3] 33)))
        have HX4 := hid (Blk.new w3 33 #[.int .i64 a5, .int .i64 b5, .slice B1 m1 e1, .slice B2 m2 e2, .slice B3 m3 e3])
        have HD4 := hid (HD2.out.step hb4)
        have HP4 := hid (HP2.out.below hb4 HP2.out.lt)
        have HB4 := hid (HB2.out.trans (hb4.mono HB2.out.size))
        have HG4 := hid (show w.heap.size < w3.heap.size ∧ ∀ k, M k ∨ R k → k ≠ w3.heap.size from ⟨Nat.lt_of_lt_of_le HP2.out.lt hb3.size, fun k hk e => by have := HD2.out.lt k hk; have := hb3.size; omega⟩)
        clear hb3 hb4 hd6 HB2 HD2 HP2 x0
        go_upto_region 3 with fail
        generalize w3.alloc (.cells #[.int .i64 a5, .int .i64 b5, .slice B1 m1 e1, .slice B2 m2 e2, .slice B3 m3 e3] 33) = w4 at *
        generalize w3.heap.size = gm at *
        go_wp2_with fail
        go_fit (HAW.out w4 HB4.out)
        rintro e w5 ⟨rfl, hb5⟩
        have HV5 := hid (HV4.out.step hb5)
        have HX5 := hid (HX4.out.below hb5 HX4.out.lt)
        have HD5 := hid (HD4.out.step hb5)
        have HP5 := hid (HP4.out.below hb5 HP4.out.lt)
        have HB5 := hid (HB4.out.trans (hb5.mono HB4.out.size))
        have x1 := HP5.out.cell 1
        have x2 := HP5.out.cell 2
        have x3 := HP5.out.cell 3
        clear hb5 HV4 HX4 HD4 HP4 HB4
        go_wp2_with fail
        go_ret
        exact ⟨rfl, HB5.out⟩
    have g3i : ¬ (fr : Int) > 4611686018427387904 := by omega
    by_cases hno : p2 < 2 ∨ 64 < p2 ∨ p3 < 1 ∨ 64 < p3 ∨ p1 < 0 ∨ 65536 - p2 * p3 < p1
    · as_aux_lemma =>
        go_enter Tryz.func3, Tryz.ntmps3
        go_upto_region 1 with fail
        generalize w.alloc (.cells #[.int .i64 (n0 : Int), .int .i64 p1, .int .i64 p2, .int .i64 p3] 23) = w1 at *
        have x0 := HP1.out.cell 0
        go_wp2_with fail
        go_fit (HN.out w1)
        rintro e w2 ⟨d, M, R, rfl, hd, hnew, hb2⟩
        have HD2 := hid hd
        have HN2 := hid (show ∀ k, M k ∨ R k → w.heap.size + 1 ≤ k from fun k hk => Nat.le_trans HZ1.out (hnew k hk))
        have HB2 := hid (HB1.out.trans (hb2.mono HB1.out.size))
        have HP2 := hid (HP1.out.below hb2 HP1.out.lt)
        have x0 := HP2.out.cell 0
        clear hb2 hd hnew
        go_wp2_with fail
        go_fit (HM.out w2)
        rintro e w3 ⟨v3, rfl, hd6, hb3⟩
        obtain ⟨a5, b5, B1, B2, B3, m1, m2, m3, e1, e2, e3, rfl⟩ := hd6.shape
        have hb4 := hb3.alloc hb3.size (.cells #[.int .i64 a5, .int .i64 b5, .slice B1 m1 e1, .slice B2 m2 e2, .slice B3 m3 e3] 33)
        have HV4 := hid (hd6.step ((Below.refl w3.heap.size w3).alloc (Nat.le_refl _) (.cells #[.int .i64 a5, .int .i64 b5, .slice B1 m1 e1, .slice B2 m2 e2, .slice B3 m3 e3] 33)))
        have HX4 := hid (Blk.new w3 33 #[.int .i64 a5, .int .i64 b5, .slice B1 m1 e1, .slice B2 m2 e2, .slice B3 m3 e3])
        have HD4 := hid (HD2.out.step hb4)
        have HP4 := hid (HP2.out.below hb4 HP2.out.lt)
        have HB4 := hid (HB2.out.trans (hb4.mono HB2.out.size))
        have HG4 := hid (show w.heap.size < w3.heap.size ∧ ∀ k, M k ∨ R k → k ≠ w3.heap.size from ⟨Nat.lt_of_lt_of_le HP2.out.lt hb3.size, fun k hk e => by have := HD2.out.lt k hk; have := hb3.size; omega⟩)
        clear hb3 hb4 hd6 HB2 HD2 HP2 x0
        go_upto_region 3 with fail
        generalize w3.alloc (.cells #[.int .i64 a5, .int .i64 b5, .slice B1 m1 e1, .slice B2 m2 e2, .slice B3 m3 e3] 33) = w4 at *
        generalize w3.heap.size = gm at *
        go_wp2_with fail
        go_fit (HAW.out w4 HB4.out)
        rintro e w5 ⟨rfl, hb5⟩
        have HV5 := hid (HV4.out.step hb5)
        have HX5 := hid (HX4.out.below hb5 HX4.out.lt)
        have HD5 := hid (HD4.out.step hb5)
        have HP5 := hid (HP4.out.below hb5 HP4.out.lt)
        have HB5 := hid (HB4.out.trans (hb5.mono HB4.out.size))
        have x1 := HP5.out.cell 1
        have x2 := HP5.out.cell 2
        have x3 := HP5.out.cell 3
        clear hb5 HV4 HX4 HD4 HP4 HB4
        have HNO := hid (show p2 < 2 ∨ 64 < p2 ∨ p3 < 1 ∨ 64 < p3 ∨ p1 < 0 ∨ 65536 - p2 * p3 < p1 from hno)
        go_wp2_with fail
        go_fit (open_no HNO.out)
        rintro e w6 ⟨rfl, hb6⟩
        have HB6 := hid (HB5.out.trans (hb6.mono HB5.out.size))
        have HX6 := hid (HX5.out.below hb6 HX5.out.lt)
        have HP6 := hid (HP5.out.below hb6 HP5.out.lt)
        have HV6 := hid (HV5.out.step hb6)
        have x1 := HP6.out.cell 1
        have x2 := HP6.out.cell 2
        have x3 := HP6.out.cell 3
        have y0 := HX6.out.cell 0
        have y1 := HX6.out.cell 1
        have y2 := HX6.out.cell 2
        have y3 := HX6.out.cell 3
        have y4 := HX6.out.cell 4
        clear hb6 HX5 HP5 HV5 HB5
        go_wp2_with fail
        go_fit (open8_no HV6.out HNO.out hp)
        rintro e w7 ⟨rfl, hb7⟩
        have HB7 := hid (HB6.out.trans (hb7.mono HB6.out.size))
        have HB8 := hid (HB7.out.alloc HB7.out.size (.cells #[.int .i64 0, .int .i64 0, .slice none 0 0, .slice none 0 0, .slice none 0 0, .int .i64 0, .int .i64 0, .int .i64 0, .slice none 0 0, .string ⟨#[]⟩, .int .u64 0, .int .u64 0] 43))
        clear hb7 x1 x2 x3 y0 y1 y2 y3 y4 HX6 HP6 HV6 HB6
        go_upto_region 9 with fail
        generalize w7.alloc (.cells #[.int .i64 0, .int .i64 0, .slice none 0 0, .slice none 0 0, .slice none 0 0, .int .i64 0, .int .i64 0, .int .i64 0, .slice none 0 0, .string ⟨#[]⟩, .int .u64 0, .int .u64 0] 43) = w8 at *
        go_wp2_with fail
        go_fit (refRSame_any (A := none) (A' := none) (B := w8.heap.size) (ws := []) (ws' := []) (fun h => absurd h (by simp)) (fun h => absurd h (by simp)) rfl rfl (Nat.le_refl _) (by decide))
        rintro e w9 ⟨rfl, hb9⟩
        have HB9 := hid (HB8.out.trans (hb9.mono HB8.out.size))
        clear hb9 HB8 HB7
        go_wp2_with fail
        go_loopw [11, 17] (fun y x wr => y = .pointer none ∧ x = .int .i64 0 ∧ wr = w9) (fun _ _ _ => 0)
        case atStart => exact ⟨rfl, rfl, rfl⟩
        case round =>
          obtain ⟨rfl, rfl, rfl⟩ := hrel
          by_cases hl0 : 0 < m
          · have hl1 : (0 : Int) < (m : Int) := by omega
            go_wp2_with fail
            go_ret
            exact ⟨rfl, HB9.out⟩
          · have hl1 : ¬ (0 : Int) < (m : Int) := by omega
            go_wp2_with fail
            go_ret
            exact ⟨rfl, HB9.out⟩
    · obtain ⟨at_, rfl⟩ : ∃ x : Nat, p1 = (x : Int) := ⟨p1.toNat, by omega⟩
      obtain ⟨sn, rfl⟩ : ∃ x : Nat, p2 = (x : Int) := ⟨p2.toNat, by omega⟩
      obtain ⟨sz, rfl⟩ : ∃ x : Nat, p3 = (x : Int) := ⟨p3.toNat, by omega⟩
      have hn2 : 2 ≤ sn := by omega
      have hn10 : sn ≤ 10 := by omega
      have hs1 : 1 ≤ sz := by omega
      have hs4 : sz ≤ 4 := by omega
      have HPLC := hid (show at_ + sn * sz ≤ 65536 by
        have e : (sn : Int) * (sz : Int) = ((sn * sz : Nat) : Int) := by simp
        rw [e] at hno
        omega)
      have HFR := hid (show fr ≤ 4611686018427387904 by omega)
      clear hno g3
      go_enter Tryz.func3, Tryz.ntmps3
      go_upto_region 1 with fail
      generalize w.alloc (.cells #[.int .i64 (n0 : Int), .int .i64 (at_ : Int), .int .i64 (sn : Int), .int .i64 (sz : Int)] 23) = w1 at *
      have x0 := HP1.out.cell 0
      go_wp2_with fail
      go_fit (HN.out w1)
      rintro e w2 ⟨d, M, R, rfl, hd, hnew, hb2⟩
      have HD2 := hid hd
      have HN2 := hid (show ∀ k, M k ∨ R k → w.heap.size + 1 ≤ k from fun k hk => Nat.le_trans HZ1.out (hnew k hk))
      have HB2 := hid (HB1.out.trans (hb2.mono HB1.out.size))
      have HP2 := hid (HP1.out.below hb2 HP1.out.lt)
      have x0 := HP2.out.cell 0
      clear hb2 hd hnew
      go_wp2_with fail
      go_fit (HM.out w2)
      rintro e w3 ⟨v3, rfl, hd6, hb3⟩
      obtain ⟨a5, b5, B1, B2, B3, m1, m2, m3, e1, e2, e3, rfl⟩ := hd6.shape
      have hb4 := hb3.alloc hb3.size (.cells #[.int .i64 a5, .int .i64 b5, .slice B1 m1 e1, .slice B2 m2 e2, .slice B3 m3 e3] 33)
      have HV4 := hid (hd6.step ((Below.refl w3.heap.size w3).alloc (Nat.le_refl _) (.cells #[.int .i64 a5, .int .i64 b5, .slice B1 m1 e1, .slice B2 m2 e2, .slice B3 m3 e3] 33)))
      have HX4 := hid (Blk.new w3 33 #[.int .i64 a5, .int .i64 b5, .slice B1 m1 e1, .slice B2 m2 e2, .slice B3 m3 e3])
      have HD4 := hid (HD2.out.step hb4)
      have HP4 := hid (HP2.out.below hb4 HP2.out.lt)
      have HB4 := hid (HB2.out.trans (hb4.mono HB2.out.size))
      have HG4 := hid (show w.heap.size < w3.heap.size ∧ ∀ k, M k ∨ R k → k ≠ w3.heap.size from ⟨Nat.lt_of_lt_of_le HP2.out.lt hb3.size, fun k hk e => by have := HD2.out.lt k hk; have := hb3.size; omega⟩)
      clear hb3 hb4 hd6 HB2 HD2 HP2 x0
      go_upto_region 3 with fail
      generalize w3.alloc (.cells #[.int .i64 a5, .int .i64 b5, .slice B1 m1 e1, .slice B2 m2 e2, .slice B3 m3 e3] 33) = w4 at *
      generalize w3.heap.size = gm at *
      go_wp2_with fail
      go_fit (HAW.out w4 HB4.out)
      rintro e w5 ⟨rfl, hb5⟩
      have HV5 := hid (HV4.out.step hb5)
      have HX5 := hid (HX4.out.below hb5 HX4.out.lt)
      have HD5 := hid (HD4.out.step hb5)
      have HP5 := hid (HP4.out.below hb5 HP4.out.lt)
      have HB5 := hid (HB4.out.trans (hb5.mono HB4.out.size))
      have x1 := HP5.out.cell 1
      have x2 := HP5.out.cell 2
      have x3 := HP5.out.cell 3
      clear hb5 HV4 HX4 HD4 HP4 HB4
      have HSM := hid (fun (S : Dk) (v : Value) (Q : Nat → Prop) (W : World) (h6 : D6 Q W v S) (q : Nat) (i : Nat) => (show (segB S.view sz ((wl0 at_ sn sz q).place i)).length ≤ 5000 from Nat.le_trans (segB_le (fun p b hb => (h6.view_le hb).1) _ _) (by omega)))
      have HOP := hid (open_yes HD5.out hn2 (by omega) hs1 (by omega) HPLC.out hfr (by show 0 ≤ 800000; decide) (fun i _ => HSM.out _ _ _ _ HV5.out fr i))
      obtain ⟨hsame, hli, hfew⟩ := open_same (s := Dk.new n0) (at_ := at_) (n := sn) (size := sz) (fr := fr) (by omega) HFR.out (HSM.out _ _ _ _ HV5.out fr)
      rw [hsame] at HOP
      have HLI := hid hli
      have HFEW := hid hfew
      clear hsame hli hfew
      go_wp2_with fail
      go_fit HOP.out
      rintro e w6 ⟨b, A6, m6, c6, N, M6, R6, rfl, hwa, hga, hm6, hc6, ht6⟩
      have HGM := hid (show gm < w5.heap.size from HX5.out.lt)
      have HX6 := hid (show Blk w6 gm 33 #[.int .i64 a5, .int .i64 b5, .slice B1 m1 e1, .slice B2 m2 e2, .slice B3 m3 e3] from (ht6.within.block gm HX5.out.lt (fun x => x.elim id (fun y => (HG4.out.2 gm (.inl y)) rfl))).trans HX5.out)
      have HP6 := hid (show Blk w6 w.heap.size 23 #[.int .i64 (n0 : Int), .int .i64 (at_ : Int), .int .i64 (sn : Int), .int .i64 (sz : Int)] from (ht6.within.block w.heap.size HP5.out.lt (fun x => x.elim id (fun y => by have := HN2.out w.heap.size (.inl y); omega))).trans HP5.out)
      have HV6 := hid (HV5.out.keep ht6.within.size (fun k hk => hk.elim))
      have HSN := hid (show ∀ k, N k ∨ M6 k → w.heap.size + 1 ≤ k from fun k hk => (ht6.own k hk).elim (fun x => x.elim (fun y => y.elim) (fun y => HN2.out k (.inl y))) (fun x => Nat.le_trans (Nat.succ_le_of_lt HP5.out.lt) x))
      have HST6 := hid (show St8 w w6 b d N M6 R6 (openD (Dk.new n0) at_ sn sz fr) (openL (Dk.new n0) at_ sn sz fr) from ⟨hwa, fun k hk => Nat.le_of_succ_le (HSN.out k hk), ht6.within.below0 HB5.out (fun k hk => hk.elim (fun y => y.elim) (fun y => Nat.le_of_succ_le (HN2.out k (.inl y))))⟩)
      have HGA6 := hid hga.rcAt
      have HM6 := hid hm6
      have HRR := hid (fun k hk => (ht6.held k hk : R k ∨ w5.heap.size ≤ k))
      have hmn : ¬ ((b : Nat) : Int) = -1 := by omega
      clear hwa hga hm6 ht6 HX5 HP5 HV5 HD5 HOP hmn x1 x2 x3
      have x1 := HP6.out.cell 1
      have x2 := HP6.out.cell 2
      have x3 := HP6.out.cell 3
      have y0 := HX6.out.cell 0
      have y1 := HX6.out.cell 1
      have y2 := HX6.out.cell 2
      have y3 := HX6.out.cell 3
      have y4 := HX6.out.cell 4
      have HO8 := hid (open8_yes HV6.out hn2 (by omega) hs1 (by omega) HPLC.out hfr (by show 0 ≤ 800000; decide))
      go_wp2_with fail
      go_fit HO8.out
      rintro e w7 ⟨v7, A7, m7, c7, rfl, hw7, hr7, hb7⟩
      obtain ⟨a8, b8, D1, D2, D3, D4, o1, o2, o3, q1, q2, q3, q4, rfl, -⟩ := hw7.shape
      have hb8 := hb7.alloc hb7.size (.cells #[.int .i64 a8, .int .i64 b8, .slice D1 o1 q1, .slice D2 o2 q2, .slice D3 o3 q3, .int .i64 ((openL (Dk.new n0) at_ sn sz fr).at_ : Int), .int .i64 ((openL (Dk.new n0) at_ sn sz fr).n : Int), .int .i64 ((openL (Dk.new n0) at_ sn sz fr).size : Int), .slice D4 (openL (Dk.new n0) at_ sn sz fr).live.length q4, .string (bst (openL (Dk.new n0) at_ sn sz fr).stream), .int .u64 ((openL (Dk.new n0) at_ sn sz fr).last : Int), .int .u64 ((openL (Dk.new n0) at_ sn sz fr).synced : Int)] 43)
      have HK8 := hid (Blk.new w7 43 #[.int .i64 a8, .int .i64 b8, .slice D1 o1 q1, .slice D2 o2 q2, .slice D3 o3 q3, .int .i64 ((openL (Dk.new n0) at_ sn sz fr).at_ : Int), .int .i64 ((openL (Dk.new n0) at_ sn sz fr).n : Int), .int .i64 ((openL (Dk.new n0) at_ sn sz fr).size : Int), .slice D4 (openL (Dk.new n0) at_ sn sz fr).live.length q4, .string (bst (openL (Dk.new n0) at_ sn sz fr).stream), .int .u64 ((openL (Dk.new n0) at_ sn sz fr).last : Int), .int .u64 ((openL (Dk.new n0) at_ sn sz fr).synced : Int)])
      have HW8 := hid ((hw7.bound.step ((Below.refl w7.heap.size w7).alloc (Nat.le_refl _) (.cells #[.int .i64 a8, .int .i64 b8, .slice D1 o1 q1, .slice D2 o2 q2, .slice D3 o3 q3, .int .i64 ((openL (Dk.new n0) at_ sn sz fr).at_ : Int), .int .i64 ((openL (Dk.new n0) at_ sn sz fr).n : Int), .int .i64 ((openL (Dk.new n0) at_ sn sz fr).size : Int), .slice D4 (openL (Dk.new n0) at_ sn sz fr).live.length q4, .string (bst (openL (Dk.new n0) at_ sn sz fr).stream), .int .u64 ((openL (Dk.new n0) at_ sn sz fr).last : Int), .int .u64 ((openL (Dk.new n0) at_ sn sz fr).synced : Int)] 43))))
      have HR8 := hid (hr7.at_.below ((Below.refl w7.heap.size w7).alloc (Nat.le_refl _) (.cells #[.int .i64 a8, .int .i64 b8, .slice D1 o1 q1, .slice D2 o2 q2, .slice D3 o3 q3, .int .i64 ((openL (Dk.new n0) at_ sn sz fr).at_ : Int), .int .i64 ((openL (Dk.new n0) at_ sn sz fr).n : Int), .int .i64 ((openL (Dk.new n0) at_ sn sz fr).size : Int), .slice D4 (openL (Dk.new n0) at_ sn sz fr).live.length q4, .string (bst (openL (Dk.new n0) at_ sn sz fr).stream), .int .u64 ((openL (Dk.new n0) at_ sn sz fr).last : Int), .int .u64 ((openL (Dk.new n0) at_ sn sz fr).synced : Int)] 43)))
      have HRL := hid hr7.1
      have HS8 := hid (HST6.out.step hb8)
      have HP8 := hid (HP6.out.below hb8 HP6.out.lt)
      have HGA8 := hid (HGA6.out.below hb8)
      have HWZ := hid (show w6.heap.size ≤ w7.heap.size from hb7.size)
      have HNM := hid (fun k hk => (HST6.out.lt k hk : k < w6.heap.size))
      have HNR := hid (show ∀ k, R6 k → k < w6.heap.size from fun k hk => HST6.out.wa.lt k (.inr (.inr hk)))
      have HLG := hid HP6.out.lt
      clear hw7 hr7 hb7 hb8 HX6 HP6 HV6 HST6 HO8 y0 y1 y2 y3 y4 x1 x2 x3 HGA6
      go_upto_region 9 with fail
      obtain ⟨gk, hgk⟩ : ∃ g, w7.heap.size = g := ⟨_, rfl⟩
      obtain ⟨w8, hw8⟩ : ∃ W, w7.alloc (.cells #[.int .i64 a8, .int .i64 b8, .slice D1 o1 q1, .slice D2 o2 q2, .slice D3 o3 q3, .int .i64 ((openL (Dk.new n0) at_ sn sz fr).at_ : Int), .int .i64 ((openL (Dk.new n0) at_ sn sz fr).n : Int), .int .i64 ((openL (Dk.new n0) at_ sn sz fr).size : Int), .slice D4 (openL (Dk.new n0) at_ sn sz fr).live.length q4, .string (bst (openL (Dk.new n0) at_ sn sz fr).stream), .int .u64 ((openL (Dk.new n0) at_ sn sz fr).last : Int), .int .u64 ((openL (Dk.new n0) at_ sn sz fr).synced : Int)] 43) = W := ⟨_, rfl⟩
      rw [hw8] at HK8 HW8 HR8 HS8 HP8 HGA8
      rw [hgk] at HK8
      have HGK := hid hgk
      rw [hgk, hw8]
      have HSZ8 := hid (show w7.heap.size ≤ w8.heap.size by rw [← hw8]; simp)
      clear hgk hw8
      go_wp2_with fail
      go_fit (refRSame_any (B := w8.heap.size) (ws := openR (Dk.new n0) at_ sn sz fr) (ws' := openR (Dk.new n0) at_ sn sz fr) (GA_of HGA8.out (by have := HSZ8.out; have := HWZ.out; omega)) (GA_of HR8.out HSZ8.out) HM6.out HRL.out (Nat.le_refl _) (by rw [HM6.out]; exact Nat.le_trans HFEW.out (by decide)))
      rintro e w9 ⟨rfl, hb9⟩
      rw [decide_eq_true (rfl : openR (Dk.new n0) at_ sn sz fr = openR (Dk.new n0) at_ sn sz fr)]
      have HS9 := hid (HS8.out.step hb9)
      have HD9 := hid ((show D8 w w8 gk N M6 R6 (fun j => ((False ∨ w6.heap.size ≤ j) ∧ j < w7.heap.size)) #[.int .i64 a8, .int .i64 b8, .slice D1 o1 q1, .slice D2 o2 q2, .slice D3 o3 q3, .int .i64 ((openL (Dk.new n0) at_ sn sz fr).at_ : Int), .int .i64 ((openL (Dk.new n0) at_ sn sz fr).n : Int), .int .i64 ((openL (Dk.new n0) at_ sn sz fr).size : Int), .slice D4 (openL (Dk.new n0) at_ sn sz fr).live.length q4, .string (bst (openL (Dk.new n0) at_ sn sz fr).stream), .int .u64 ((openL (Dk.new n0) at_ sn sz fr).last : Int), .int .u64 ((openL (Dk.new n0) at_ sn sz fr).synced : Int)] (openD (Dk.new n0) at_ sn sz fr) (openL (Dk.new n0) at_ sn sz fr) from ⟨HK8.out, HW8.out, fun j hj => Nat.lt_of_lt_of_le hj.2 HSZ8.out, fun j hj => ⟨fun h => by have := HNM.out j (.inl h); have := hj.1.resolve_left id; omega, fun h => by have := HNM.out j (.inr h); have := hj.1.resolve_left id; omega, by have := HGK.out; have := hj.2; omega⟩, fun h => by have := HNM.out gk (.inl h); have := HGK.out; have := HWZ.out; omega, fun h => by have := HNM.out gk (.inr h); have := HGK.out; have := HWZ.out; omega, fun h => by have := HNR.out gk h; have := HGK.out; have := HWZ.out; omega, by have := HGK.out; have := HWZ.out; have := HLG.out; omega⟩).step hb9)
      have HP9 := hid (show Kp w9 w.heap.size gk 23 #[.int .i64 (n0 : Int), .int .i64 (at_ : Int), .int .i64 (sn : Int), .int .i64 (sz : Int)] N M6 from ⟨HP8.out.below hb9 HP8.out.lt, fun h => by have := HSN.out _ (.inl h); omega, fun h => by have := HSN.out _ (.inr h); omega, by have := HGK.out; have := HWZ.out; have := HLG.out; omega⟩)
      have HPL9 := hid (Pl8.opened (i := 0) HLI.out)
      clear hb9 HS8 HK8 HW8 HP8 HGA8 HR8 HM6 HRL HRR HNM HNR HSN HLI HFEW HN2 HG4 HGM HLG HWZ HSZ8 HGK HB5
      go_upto_region 11 with fail
      go_cut [17] from 32 to 118 (fun x wx => x = .int .i64 0 ∧ wx = w9)
      case first =>
        go_wp2_with fail
        go_meet
        case rel => exact ⟨rfl, rfl⟩
      case rest =>
        obtain ⟨rfl, hwq9⟩ := hcut
        obtain rfl : w9 = wc := hwq9.symm
        go_wp2_with fail
        go_loopw [11, 17] (fun y x wr => ∃ (b j : Nat) (N M R P : Nat → Prop) (cs : Array Value) (s : Dk) (l : Wl), y = .pointer (some ⟨b, 0, none⟩) ∧ x = .int .i64 (j : Int) ∧ j ≤ m ∧ j ≤ 30 ∧ Kept (St8 w wr b d N M R s l) ∧ Kept (D8 w wr gk N M R P cs s l) ∧ Kept (Kp wr w.heap.size gk 23 #[.int .i64 (n0 : Int), .int .i64 (at_ : Int), .int .i64 (sn : Int), .int .i64 (sz : Int)] N M) ∧ Kept (Pl8 l s at_ sn sz j)) (fun _ x _ => m - (intOf x).toNat)
        case atStart => exact ⟨b, 0, N, M6, R6, _, _, _, _, rfl, rfl, Nat.zero_le _, Nat.zero_le _, HS9, HD9, HP9, HPL9⟩
        case round =>
          obtain ⟨b, j, N, M, R, P, cs, s, l, rfl, rfl, hj, hj30, HS, HD, HP, HPL⟩ := hrel
          clear HS9 HD9 HP9 HPL9
          by_cases hlt : j < m ∧ j < 30
          · obtain ⟨hlt1, hlt2⟩ := hlt
            obtain ⟨bb, off, x, rfl, hbb, hxj, hin⟩ := (HA.out.below HS.out.below).get (k := j) (by have := HML.out; omega)
            obtain ⟨kd, lim, q, body, left⟩ := x
            obtain ⟨AL, nl, cl, c0, c1, c2, c3, c4, hsv, hnl, hcl, hcm, hbl, hql⟩ := hin.ex
            dsimp only at c0 c1 c2 c3 hsv hnl hbl hql
            have HFE := hid (show ∀ W : World, Calls Tryz.prog 10 #[.agg #[.int .i64 kd, .int .i64 lim, .int .u64 (q : Int), .string (bst body), .slice AL nl cl]] W fun e w' => (∃ n', e = .returned (.agg #[.int .i64 kd, .int .i64 lim, .int .u64 (q : Int), .string (bst (body.take 1500)), .slice AL n' cl]) ∧ n' = (left.take 60).length ∧ n' ≤ cl) ∧ Below W.heap.size W w' from fun W => few8_any (x := ⟨kd, lim, q, body, left⟩) (w := W) hnl hcl hbl hcm)
            have HSV := hid (hsv.take 60)
            have HBS := hid (show (body.take 1500).length ≤ 1500 by rw [List.length_take]; omega)
            have HL60 := hid (show (left.take 60).length ≤ 60 by rw [List.length_take]; omega)
            generalize body.take 1500 = bod at *
            generalize left.take 60 = lef at *
            clear hin hxj hbb hsv hnl hcl hbl hcm
            go_wp2_with fail
            go_fit (HFE.out wr)
            rintro e w6 ⟨⟨n6, rfl, hn6, hc6⟩, hb6⟩
            have hb7 := hb6.alloc hb6.size (.cells #[.int .i64 kd, .int .i64 lim, .int .u64 (q : Int), .string (bst bod), .slice AL n6 cl] 49)
            have HB7 := hid hb7
            have HGX := hid (show wr.heap.size ≤ w6.heap.size from hb6.size)
            have HX7 := hid (Blk.new w6 49 #[.int .i64 kd, .int .i64 lim, .int .u64 (q : Int), .string (bst bod), .slice AL n6 cl])
            have HN6 := hid hn6
            clear hb6 hb7 HFE c0 c1 c2 c3 c4 hn6
            go_upto_region 15 with fail
            generalize w6.alloc (.cells #[.int .i64 kd, .int .i64 lim, .int .u64 (q : Int), .string (bst bod), .slice AL n6 cl] 49) = w7 at *
            generalize w6.heap.size = gx at *
            have x2 := HX7.out.cell 2
            have f2 := HX7.out.free 2
            go_upto_if 140 with fail
            go_cut [] from 141 to 141 (fun wx => ∃ q' : Nat, Kept (q' ≤ 4611686018427387904) ∧ Kept (Below wr.heap.size wr wx) ∧ Kept (Blk wx gx 49 #[.int .i64 kd, .int .i64 lim, .int .u64 (q' : Int), .string (bst bod), .slice AL n6 cl]))
            case first =>
              by_cases hq : q > 4611686018427387904
              · have hqi : (q : Int) > 4611686018427387904 := by omega
                go_wp2_with fail
                go_meet
                case rel => exact ⟨0, hid (by omega), hid (HB7.out.setCell (p := ⟨gx, 2, none⟩) HGX.out (.int .u64 0)), hid (by simpa using HX7.out.set 2 (.int .u64 0))⟩
              · have hqi : ¬ (q : Int) > 4611686018427387904 := by omega
                go_wp2_with fail
                go_meet
                case rel => exact ⟨q, hid (by omega), HB7, HX7⟩
            case rest =>
              obtain ⟨q', HQ, HBX, HXX⟩ := hcut
              have HX8 := hid (show Kp wc gx gk 49 #[.int .i64 kd, .int .i64 lim, .int .u64 (q' : Int), .string (bst bod), .slice AL n6 cl] N M from ⟨HXX.out, fun h => by have := HS.out.lt _ (.inl h); have := HGX.out; omega, fun h => by have := HS.out.lt _ (.inr h); have := HGX.out; omega, by have := HD.out.box.lt; have := HGX.out; omega⟩)
              have HS8 := hid (HS.out.step HBX.out)
              have HD8 := hid (HD.out.step HBX.out)
              have HP8 := hid (HP.out.step HBX.out)
              have HSV8 := hid (show SvAt wc w.heap.size AL lef from HSV.out.below (HB_of HS.out.below HBX.out))
              clear HX7 HB7 HXX HBX HS HD HP HSV x2 f2 hql
              have k0 := HX8.out.blk.cell 0
              go_upto_block 2 with fail
              go_cut [11, 19, 20, 21, 22, 23, 24, 25, 26, 27, 28, 29, 30, 31] from 144 to 261 (fun y _ _ _ _ _ _ _ _ _ _ _ _ _ wx => ∃ (b : Nat) (N M R P : Nat → Prop) (cs : Array Value) (s : Dk) (l : Wl), y = .pointer (some ⟨b, 0, none⟩) ∧ Kept (St8 w wx b d N M R s l) ∧ Kept (D8 w wx gk N M R P cs s l) ∧ Kept (Kp wx w.heap.size gk 23 #[.int .i64 (n0 : Int), .int .i64 (at_ : Int), .int .i64 (sn : Int), .int .i64 (sz : Int)] N M) ∧ Kept (Pl8 l s at_ sn sz (j + 1)))
              case first =>
                obtain ⟨_, _, _, _, hlin⟩ := HS8.out.wa.log
                have HLP := hid hlin.pl
                have HNM := hid HS8.out.lt
                have HNR := hid (show ∀ k, R k → k < wc.heap.size from fun k hk => HS8.out.wa.lt k (.inr (.inr hk)))
                have HGK := hid (show ¬ N gk ∧ ¬ M gk ∧ ¬ R gk ∧ w.heap.size ≤ gk ∧ gk < wc.heap.size from ⟨HD8.out.n, HD8.out.m, HD8.out.r, HD8.out.new, HD8.out.box.lt⟩)
                obtain ⟨a8, b8, D1, D2, D3, D4, o1, o2, o3, q1, q2, q3, q4, hcs, -⟩ := HD8.out.val.shape
                injection hcs with hcs
                subst hcs
                clear hlin
                by_cases hk0 : kd = 0
                · subst hk0
                  have k0 := HD8.out.box.cell 0
                  have k1 := HD8.out.box.cell 1
                  have k2 := HD8.out.box.cell 2
                  have k3 := HD8.out.box.cell 3
                  have k4 := HD8.out.box.cell 4
                  have k5 := HD8.out.box.cell 5
                  have k6 := HD8.out.box.cell 6
                  have k7 := HD8.out.box.cell 7
                  have k8 := HD8.out.box.cell 8
                  have k9 := HD8.out.box.cell 9
                  have k10 := HD8.out.box.cell 10
                  have k11 := HD8.out.box.cell 11
                  have x3 := HX8.out.blk.cell 3
                  have HAP := hid (app8_any HD8.out.val (HPL.out.ap HLP.out hj30 HBS.out))
                  go_wp2_with fail
                  go_fit HAP.out
                  rintro e w9 ⟨v9, rfl, hw9, hb9⟩
                  obtain ⟨a9, b9, E1, E2, E3, E4, i1, i2, i3, r1, r2, r3, r4, rfl, -⟩ := hw9.shape
                  obtain ⟨hd9, hp9⟩ := HD8.out.fresh HNM.out HNR.out hb9 hw9 HS8.out.below.size
                  have hb10 := hb9.alloc hb9.size (.cells #[.int .i64 a9, .int .i64 b9, .slice E1 i1 r1, .slice E2 i2 r2, .slice E3 i3 r3, .int .i64 ((l.app bod s).at_ : Int), .int .i64 ((l.app bod s).n : Int), .int .i64 ((l.app bod s).size : Int), .slice E4 (l.app bod s).live.length r4, .string (bst (l.app bod s).stream), .int .u64 ((l.app bod s).last : Int), .int .u64 ((l.app bod s).synced : Int)] 43)
                  have HD10 := hid hd9
                  have HPG := hid hp9
                  have HS10 := hid (HS8.out.step hb10)
                  have HDO := hid (HD8.out.step hb10)
                  have HP10 := hid (HP8.out.step hb10)
                  have HX10 := hid (HX8.out.step hb10)
                  clear hw9 hb9 hd9 hp9 hb10 HAP k0 k1 k2 k3 k4 k5 k6 k7 k8 k9 k10 k11 x3 HS8 HD8 HP8 HX8
                  go_upto_region 20 with fail
                  generalize w9.alloc (.cells #[.int .i64 a9, .int .i64 b9, .slice E1 i1 r1, .slice E2 i2 r2, .slice E3 i3 r3, .int .i64 ((l.app bod s).at_ : Int), .int .i64 ((l.app bod s).n : Int), .int .i64 ((l.app bod s).size : Int), .slice E4 (l.app bod s).live.length r4, .string (bst (l.app bod s).stream), .int .u64 ((l.app bod s).last : Int), .int .u64 ((l.app bod s).synced : Int)] 43) = w10 at *
                  generalize w9.heap.size = g9 at *
                  have x3 := HX10.out.blk.cell 3
                  have HLA := hid (append_log HS10.out.wa (HS10.out.table HT.out) (body := bod) (by have := HBS.out; omega) (by have := HPL.out.pend; omega))
                  go_wp2_with fail
                  go_fit HLA.out
                  rintro e w11 ⟨rfl, N', M', R', hwa, ht⟩
                  have HS11 := hid (HS10.out.turns hwa ht)
                  have HD11 := hid (HD10.out.turns ht)
                  have HO11 := hid (HDO.out.turns ht)
                  have HP11 := hid (HP10.out.turns ht)
                  clear hwa ht HLA x3 HS10 HD10 HDO HP10 HX10
                  have n0 := HD11.out.box.cell 0
                  have n1 := HD11.out.box.cell 1
                  have n2 := HD11.out.box.cell 2
                  have n3 := HD11.out.box.cell 3
                  have n4 := HD11.out.box.cell 4
                  have n5 := HD11.out.box.cell 5
                  have n6 := HD11.out.box.cell 6
                  have n7 := HD11.out.box.cell 7
                  have n8 := HD11.out.box.cell 8
                  have n9 := HD11.out.box.cell 9
                  have n10 := HD11.out.box.cell 10
                  have n11 := HD11.out.box.cell 11
                  have k0 := HO11.out.box.cell 0
                  have kf0 := HO11.out.box.free 0
                  have k1 := HO11.out.box.cell 1
                  have kf1 := HO11.out.box.free 1
                  have k2 := HO11.out.box.cell 2
                  have kf2 := HO11.out.box.free 2
                  have k3 := HO11.out.box.cell 3
                  have kf3 := HO11.out.box.free 3
                  have k4 := HO11.out.box.cell 4
                  have kf4 := HO11.out.box.free 4
                  have k5 := HO11.out.box.cell 5
                  have kf5 := HO11.out.box.free 5
                  have k6 := HO11.out.box.cell 6
                  have kf6 := HO11.out.box.free 6
                  have k7 := HO11.out.box.cell 7
                  have kf7 := HO11.out.box.free 7
                  have k8 := HO11.out.box.cell 8
                  have kf8 := HO11.out.box.free 8
                  have k9 := HO11.out.box.cell 9
                  have kf9 := HO11.out.box.free 9
                  have k10 := HO11.out.box.cell 10
                  have kf10 := HO11.out.box.free 10
                  have k11 := HO11.out.box.cell 11
                  have kf11 := HO11.out.box.free 11
                  go_upto_region 22 with fail
                  clear n0 n1 n2 n3 n4 n5 n6 n7 n8 n9 n10 n11 k0 k1 k2 k3 k4 k5 k6 k7 k8 k9 k10 k11 kf0 kf1 kf2 kf3 kf4 kf5 kf6 kf7 kf8 kf9 kf10 kf11
                  as_aux_lemma =>
                    go_wp2_with fail
                    go_meet
                    case rel => exact ⟨b, N', M', R', _, _, _, _, rfl, hid (HS11.out.off off12 HO11.out.n HO11.out.m HO11.out.r HO11.out.new), hid (HD11.out.copy HO11.out.n HO11.out.m HO11.out.r HO11.out.new HPG.out off12 HO11.out.box.set12), hid (HP11.out.off off12), hid (HPL.out.app HLP.out hj30 bod)⟩
                · by_cases hk1 : kd = 1
                  · subst hk1
                    have k0 := HD8.out.box.cell 0
                    have k1 := HD8.out.box.cell 1
                    have k2 := HD8.out.box.cell 2
                    have k3 := HD8.out.box.cell 3
                    have k4 := HD8.out.box.cell 4
                    have k5 := HD8.out.box.cell 5
                    have k6 := HD8.out.box.cell 6
                    have k7 := HD8.out.box.cell 7
                    have k8 := HD8.out.box.cell 8
                    have k9 := HD8.out.box.cell 9
                    have k10 := HD8.out.box.cell 10
                    have k11 := HD8.out.box.cell 11
                    have x2 := HX8.out.blk.cell 2
                    have HTR := hid (trunc8_any q' HD8.out.val (fun x hx => ⟨by have := (HLP.out.lt x hx).1; have := HLP.out.n; omega, HPL.out.li.ends (by omega) x hx⟩) (by have := HPL.out.pend; omega))
                    go_wp2_with fail
                    go_fit HTR.out
                    rintro e w9 ⟨v9, rfl, hw9, hb9⟩
                    obtain ⟨a9, b9, E1, E2, E3, E4, i1, i2, i3, r1, r2, r3, r4, rfl, -⟩ := hw9.shape
                    obtain ⟨hd9, hp9⟩ := HD8.out.fresh HNM.out HNR.out hb9 hw9 HS8.out.below.size
                    have hb10 := hb9.alloc hb9.size (.cells #[.int .i64 a9, .int .i64 b9, .slice E1 i1 r1, .slice E2 i2 r2, .slice E3 i3 r3, .int .i64 ((l.trunc q').at_ : Int), .int .i64 ((l.trunc q').n : Int), .int .i64 ((l.trunc q').size : Int), .slice E4 (l.trunc q').live.length r4, .string (bst (l.trunc q').stream), .int .u64 ((l.trunc q').last : Int), .int .u64 ((l.trunc q').synced : Int)] 43)
                    have HD10 := hid hd9
                    have HPG := hid hp9
                    have HS10 := hid (HS8.out.step hb10)
                    have HDO := hid (HD8.out.step hb10)
                    have HP10 := hid (HP8.out.step hb10)
                    have HX10 := hid (HX8.out.step hb10)
                    clear hw9 hb9 hd9 hp9 hb10 HTR k0 k1 k2 k3 k4 k5 k6 k7 k8 k9 k10 k11 x2 HS8 HD8 HP8 HX8
                    go_upto_region 26 with fail
                    generalize w9.alloc (.cells #[.int .i64 a9, .int .i64 b9, .slice E1 i1 r1, .slice E2 i2 r2, .slice E3 i3 r3, .int .i64 ((l.trunc q').at_ : Int), .int .i64 ((l.trunc q').n : Int), .int .i64 ((l.trunc q').size : Int), .slice E4 (l.trunc q').live.length r4, .string (bst (l.trunc q').stream), .int .u64 ((l.trunc q').last : Int), .int .u64 ((l.trunc q').synced : Int)] 43) = w10 at *
                    generalize w9.heap.size = g9 at *
                    have n0 := HD10.out.box.cell 0
                    have n1 := HD10.out.box.cell 1
                    have n2 := HD10.out.box.cell 2
                    have n3 := HD10.out.box.cell 3
                    have n4 := HD10.out.box.cell 4
                    have n5 := HD10.out.box.cell 5
                    have n6 := HD10.out.box.cell 6
                    have n7 := HD10.out.box.cell 7
                    have n8 := HD10.out.box.cell 8
                    have n9 := HD10.out.box.cell 9
                    have n10 := HD10.out.box.cell 10
                    have n11 := HD10.out.box.cell 11
                    have k0 := HDO.out.box.cell 0
                    have kf0 := HDO.out.box.free 0
                    have k1 := HDO.out.box.cell 1
                    have kf1 := HDO.out.box.free 1
                    have k2 := HDO.out.box.cell 2
                    have kf2 := HDO.out.box.free 2
                    have k3 := HDO.out.box.cell 3
                    have kf3 := HDO.out.box.free 3
                    have k4 := HDO.out.box.cell 4
                    have kf4 := HDO.out.box.free 4
                    have k5 := HDO.out.box.cell 5
                    have kf5 := HDO.out.box.free 5
                    have k6 := HDO.out.box.cell 6
                    have kf6 := HDO.out.box.free 6
                    have k7 := HDO.out.box.cell 7
                    have kf7 := HDO.out.box.free 7
                    have k8 := HDO.out.box.cell 8
                    have kf8 := HDO.out.box.free 8
                    have k9 := HDO.out.box.cell 9
                    have kf9 := HDO.out.box.free 9
                    have k10 := HDO.out.box.cell 10
                    have kf10 := HDO.out.box.free 10
                    have k11 := HDO.out.box.cell 11
                    have kf11 := HDO.out.box.free 11
                    have hgx : gx ≠ gk := HX10.out.ne
                    have x2 := HX10.out.blk.cell 2
                    go_upto_region 27 with fail
                    clear n0 n1 n2 n3 n4 n5 n6 n7 n8 n9 n10 n11 k0 k1 k2 k3 k4 k5 k6 k7 k8 k9 k10 k11 kf0 kf1 kf2 kf3 kf4 kf5 kf6 kf7 kf8 kf9 kf10 kf11
                    go_wp2_with fail
                    go_fit (trunc_log (HS10.out.off off12 HDO.out.n HDO.out.m HDO.out.r HDO.out.new).wa (HPL.out.lk hj30) q' (by have := HPL.out.pend; omega))
                    rintro e w13 ⟨rfl, N', M', R', hwa, ht⟩
                    have HS13 := hid ((HS10.out.off off12 HDO.out.n HDO.out.m HDO.out.r HDO.out.new).turns hwa ht)
                    have HD13 := hid ((HD10.out.copy HDO.out.n HDO.out.m HDO.out.r HDO.out.new HPG.out off12 HDO.out.box.set12).turns ht)
                    have HP13 := hid ((HP10.out.off off12).turns ht)
                    clear hwa ht x2
                    go_wp2_with fail
                    as_aux_lemma =>
                      go_meet
                      case rel => exact ⟨b, N', M', R', _, _, _, _, rfl, HS13, HD13, HP13, hid (HPL.out.trunc hj30 q')⟩
                  · by_cases hk2 : kd = 2
                    · subst hk2
                      have HSL := hid (sync_log HS8.out.wa)
                      go_wp2_with fail
                      go_fit HSL.out
                      rintro e w9 ⟨rfl, M', R', hwa, ht⟩
                      have HS9 := hid (HS8.out.turns hwa ht)
                      have HD9 := hid (HD8.out.turns ht)
                      have HP9 := hid (HP8.out.turns ht)
                      clear hwa ht HSL HS8 HD8 HP8
                      have k0 := HD9.out.box.cell 0
                      have k1 := HD9.out.box.cell 1
                      have k2 := HD9.out.box.cell 2
                      have k3 := HD9.out.box.cell 3
                      have k4 := HD9.out.box.cell 4
                      have k5 := HD9.out.box.cell 5
                      have k6 := HD9.out.box.cell 6
                      have k7 := HD9.out.box.cell 7
                      have k8 := HD9.out.box.cell 8
                      have k9 := HD9.out.box.cell 9
                      have k10 := HD9.out.box.cell 10
                      have k11 := HD9.out.box.cell 11
                      have HSY := hid (sync8_any HD9.out.val)
                      go_wp2_with fail
                      go_fit HSY.out
                      rintro e w10 ⟨v9, rfl, hw9, hb9⟩
                      obtain ⟨a9, b9, E1, E2, E3, E4, i1, i2, i3, r1, r2, r3, r4, rfl, -⟩ := hw9.shape
                      have HS10 := hid (HS9.out.step hb9)
                      have HDO := hid (HD9.out.step hb9)
                      have HP10 := hid (HP9.out.step hb9)
                      have HW9 := hid hw9
                      have HB9 := hid hb9
                      clear hw9 hb9 HSY k0 k1 k2 k3 k4 k5 k6 k7 k8 k9 k10 k11
                      have k0 := HDO.out.box.cell 0
                      have kf0 := HDO.out.box.free 0
                      have k1 := HDO.out.box.cell 1
                      have kf1 := HDO.out.box.free 1
                      have k2 := HDO.out.box.cell 2
                      have kf2 := HDO.out.box.free 2
                      have k3 := HDO.out.box.cell 3
                      have kf3 := HDO.out.box.free 3
                      have k4 := HDO.out.box.cell 4
                      have kf4 := HDO.out.box.free 4
                      have k5 := HDO.out.box.cell 5
                      have kf5 := HDO.out.box.free 5
                      have k6 := HDO.out.box.cell 6
                      have kf6 := HDO.out.box.free 6
                      have k7 := HDO.out.box.cell 7
                      have kf7 := HDO.out.box.free 7
                      have k8 := HDO.out.box.cell 8
                      have kf8 := HDO.out.box.free 8
                      have k9 := HDO.out.box.cell 9
                      have kf9 := HDO.out.box.free 9
                      have k10 := HDO.out.box.cell 10
                      have kf10 := HDO.out.box.free 10
                      have k11 := HDO.out.box.cell 11
                      have kf11 := HDO.out.box.free 11
                      go_wp2_with fail
                      as_aux_lemma =>
                        go_meet
                        case rel => exact ⟨b, N, M', R', _, _, _, _, rfl, hid (HS10.out.off off12 HDO.out.n HDO.out.m HDO.out.r HDO.out.new), hid (HD9.out.put HS9.out.lt (HW9.out.weak fun _ hk => .inl hk) (Below.refl _ _) off12 HDO.out.box.set12), hid (HP10.out.off off12), hid HPL.out.sync⟩
                    · by_cases hk5 : kd = 5
                      · subst hk5
                        as_aux_lemma =>
                          have x1 := HX8.out.blk.cell 1
                          have HLM := hid (face.limit (n := lim) HS8.out.wa.disk)
                          go_wp2_with fail
                          go_fit HLM.out
                          rintro e w9 ⟨rfl, M', R', hd, ht⟩
                          have HS9 := hid (HS8.out.disk hd ht)
                          have HD9 := hid (HD8.out.turns (LTurns.of_turns (N := N) ht))
                          have HP9 := hid (HP8.out.turns (LTurns.of_turns (N := N) ht))
                          have HX9 := hid (HX8.out.turns (LTurns.of_turns (N := N) ht))
                          clear hd ht HLM x1 HS8 HD8 HP8 HX8
                          have x1 := HX9.out.blk.cell 1
                          have k1 := HD9.out.box.cell 1
                          have kf1 := HD9.out.box.free 1
                          go_wp2_with fail
                          go_meet
                          case rel => exact ⟨b, N, M', R', P, _, _, l, rfl, hid (HS9.out.off ((Off2.refl _).setg 1 _) HD9.out.n HD9.out.m HD9.out.r HD9.out.new), hid (HD9.out.lim lim), hid (HP9.out.off ((Off2.refl _).setg 1 _)), hid (HPL.out.lim lim)⟩
                      · by_cases hk34 : kd = 3 ∨ kd = 4
                        · go_upto_if 192 with fail
                          obtain ⟨wz, rfl⟩ : ∃ wz, wz = wc := ⟨_, rfl⟩
                          go_cut [192] from 194 to 194 (fun y wx => y = .bool true ∧ wx = wz)
                          case first =>
                            clear k0 HD8 HP8 HX8 HS8 HSV8 HNM HNR HGK HLP HPL HN6 HQ
                            rcases hk34 with rfl | rfl
                            · go_wp2_with fail
                              go_meet
                              case rel => exact ⟨rfl, rfl⟩
                            · go_wp2_with fail
                              go_meet
                              case rel => exact ⟨rfl, rfl⟩
                          case rest =>
                            obtain ⟨rfl, hwq⟩ := hcut
                            obtain rfl : wz = wc := hwq.symm
                            have HPE := hid (show s.pend.length ≤ 800000 from by have := HPL.out.pend; omega)
                            clear hk0 hk1 hk2 hk5
                            go_upto_if 197 with fail
                            go_cut [] from 198 to 207 (fun wx => ∃ (M R P : Nat → Prop) (cs : Array Value) (s : Dk), Kept (St8 w wx b d N M R s l) ∧ Kept (D8 w wx gk N M R P cs s l) ∧ Kept (Kp wx w.heap.size gk 23 #[.int .i64 (n0 : Int), .int .i64 (at_ : Int), .int .i64 (sn : Int), .int .i64 (sz : Int)] N M) ∧ Kept (Kp wx gx gk 49 #[.int .i64 kd, .int .i64 lim, .int .u64 (q' : Int), .string (bst bod), .slice AL n6 cl] N M) ∧ Kept (s.pend.length ≤ 800000))
                            case first =>
                              rcases hk34 with rfl | rfl
                              · have x4 := HX8.out.blk.cell 4
                                have HCD := hid (crash_d (c := cl) HS8.out.wa.disk HSV8.out HN6.out HS8.out.below.size (by have := HN6.out; have := HL60.out; omega))
                                go_upto_region 36 with (go_fit HCD.out; rintro e w9 ⟨rfl, M', R', hd, ht⟩)
                                have HSV9 := hid (HSV8.out.below (ht.below HS8.out.below.size (fun k hk => HS8.out.new k (.inr hk))))
                                have HS9 := hid (HS8.out.disk hd ht)
                                have HD9 := hid (HD8.out.turns (LTurns.of_turns (N := N) ht))
                                have HP9 := hid (HP8.out.turns (LTurns.of_turns (N := N) ht))
                                have HX9 := hid (HX8.out.turns (LTurns.of_turns (N := N) ht))
                                clear hd ht HCD x4 HS8 HD8 HP8 HX8 HSV8 HNM HNR HGK
                                have x4 := HX9.out.blk.cell 4
                                have HCR := hid (crash6_any (cl := cl) HD9.out.val.five HSV9.out HN6.out HS9.out.below.size (by have := HL60.out; omega) (by have := HPE.out; omega))
                                have k0 := HD9.out.box.cell 0
                                have k1 := HD9.out.box.cell 1
                                have k2 := HD9.out.box.cell 2
                                have k3 := HD9.out.box.cell 3
                                have k4 := HD9.out.box.cell 4
                                go_wp2_with fail
                                go_fit HCR.out
                                rintro e w10 ⟨v10, rfl, hd6, hb10⟩
                                obtain ⟨a9, b9, E1, E2, E3, i1, i2, i3, r1, r2, r3, rfl⟩ := hd6.shape
                                have HO := hid (HD9.out.step hb10)
                                have HS10 := hid (HS9.out.step hb10)
                                have HP10 := hid (HP9.out.step hb10)
                                have HX10 := hid (HX9.out.step hb10)
                                have HDX := hid (HD9.out.disk HS9.out.lt hb10 hd6 ((((((Off2.refl w10).setg 0 _).setg 1 _).setg 2 _).setg 3 _).setg 4 _) (HO.out.box.set5))
                                clear hd6 hb10 HCR x4 k0 k1 k2 k3 k4 HD9 HS9 HP9 HX9 HSV9
                                have k0 := HO.out.box.cell 0
                                have kf0 := HO.out.box.free 0
                                have k1 := HO.out.box.cell 1
                                have kf1 := HO.out.box.free 1
                                have k2 := HO.out.box.cell 2
                                have kf2 := HO.out.box.free 2
                                have k3 := HO.out.box.cell 3
                                have kf3 := HO.out.box.free 3
                                have k4 := HO.out.box.cell 4
                                have kf4 := HO.out.box.free 4
                                go_wp2_with fail
                                go_meet
                                case rel => exact ⟨M', R', _, _, _, hid (HS10.out.off ((((((Off2.refl w10).setg 0 _).setg 1 _).setg 2 _).setg 3 _).setg 4 _) HO.out.n HO.out.m HO.out.r HO.out.new), HDX, hid (HP10.out.off ((((((Off2.refl w10).setg 0 _).setg 1 _).setg 2 _).setg 3 _).setg 4 _)), hid (HX10.out.off ((((((Off2.refl w10).setg 0 _).setg 1 _).setg 2 _).setg 3 _).setg 4 _)), hid (by show 0 ≤ 800000; decide)⟩
                              · go_wp2_with fail
                                go_meet
                                case rel => exact ⟨M, R, P, _, s, HS8, HD8, HP8, HX8, HPE⟩
                            case rest =>
                              obtain ⟨M1, R1, P1, cs1, s1, HS, HD, HP, HX, HPD⟩ := hcut
                              clear HS8 HD8 HP8 HX8 HSV8 HNM HNR HGK HPL HLP HPE k0
                              obtain ⟨a7, b7, C1, C2, C3, C4, j1, j2, j3, t1, t2, t3, t4, hcs, -⟩ := HD.out.val.shape
                              injection hcs with hcs
                              subst hcs
                              have k0 := HD.out.box.cell 0
                              have k1 := HD.out.box.cell 1
                              have k2 := HD.out.box.cell 2
                              have k3 := HD.out.box.cell 3
                              have k4 := HD.out.box.cell 4
                              have z1 := HP.out.blk.cell 1
                              have z2 := HP.out.blk.cell 2
                              have z3 := HP.out.blk.cell 3
                              have x2 := HX.out.blk.cell 2
                              have HO8 := hid (open8_yes (fr := q') HD.out.val.five hn2 (by omega) hs1 (by omega) HPLC.out (by have := HQ.out; omega) HPD.out)
                              have HSMQ := hid (fun i => HSM.out _ _ _ _ HD.out.val.five q' i)
                              have HMB := hid (show ∀ k, M1 k → k < wc.heap.size from fun k hk => HS.out.lt k (.inr hk))
                              go_wp2_with fail
                              go_fit HO8.out
                              rintro e w9 ⟨v9, A7, m7, c7, rfl, hw9, hr9, hb9⟩
                              obtain ⟨a9, b9, E1, E2, E3, E4, i1, i2, i3, r1, r2, r3, r4, rfl, -⟩ := hw9.shape
                              obtain ⟨hd9, hp9⟩ := HD.out.fresh HS.out.lt (fun k hk => HS.out.wa.lt k (.inr (.inr hk))) hb9 hw9 HS.out.below.size
                              have hbx := (Below.refl w9.heap.size w9).alloc (Nat.le_refl _) (.cells #[.int .i64 a9, .int .i64 b9, .slice E1 i1 r1, .slice E2 i2 r2, .slice E3 i3 r3, .int .i64 ((openL s1 at_ sn sz q').at_ : Int), .int .i64 ((openL s1 at_ sn sz q').n : Int), .int .i64 ((openL s1 at_ sn sz q').size : Int), .slice E4 (openL s1 at_ sn sz q').live.length r4, .string (bst (openL s1 at_ sn sz q').stream), .int .u64 ((openL s1 at_ sn sz q').last : Int), .int .u64 ((openL s1 at_ sn sz q').synced : Int)] 43)
                              have hb10 := hb9.alloc hb9.size (.cells #[.int .i64 a9, .int .i64 b9, .slice E1 i1 r1, .slice E2 i2 r2, .slice E3 i3 r3, .int .i64 ((openL s1 at_ sn sz q').at_ : Int), .int .i64 ((openL s1 at_ sn sz q').n : Int), .int .i64 ((openL s1 at_ sn sz q').size : Int), .slice E4 (openL s1 at_ sn sz q').live.length r4, .string (bst (openL s1 at_ sn sz q').stream), .int .u64 ((openL s1 at_ sn sz q').last : Int), .int .u64 ((openL s1 at_ sn sz q').synced : Int)] 43)
                              have HD10 := hid hd9.free
                              have HPG := hid hp9
                              have HS10 := hid (HS.out.step hb10)
                              have HDO := hid (HD.out.step hb10).free
                              have HP10 := hid (HP.out.step hb10).free
                              have HX10 := hid (HX.out.step hb10)
                              have HR10 := hid (show GAt eRc (w9.alloc (.cells #[.int .i64 a9, .int .i64 b9, .slice E1 i1 r1, .slice E2 i2 r2, .slice E3 i3 r3, .int .i64 ((openL s1 at_ sn sz q').at_ : Int), .int .i64 ((openL s1 at_ sn sz q').n : Int), .int .i64 ((openL s1 at_ sn sz q').size : Int), .slice E4 (openL s1 at_ sn sz q').live.length r4, .string (bst (openL s1 at_ sn sz q').stream), .int .u64 ((openL s1 at_ sn sz q').last : Int), .int .u64 ((openL s1 at_ sn sz q').synced : Int)] 43)) w9.heap.size A7 (openR s1 at_ sn sz q') from hr9.g.at_.below hbx)
                              have HIR := hid (show In (fun k => wc.heap.size ≤ k ∧ k < w9.heap.size) A7 (openR s1 at_ sn sz q') from fun b off e hl => ⟨hr9.g.in_ b off e hl, hr9.g.at_.in_ b off e hl⟩)
                              have HRL := hid hr9.1
                              have HSZ := hid (show w9.heap.size ≤ (w9.alloc (.cells #[.int .i64 a9, .int .i64 b9, .slice E1 i1 r1, .slice E2 i2 r2, .slice E3 i3 r3, .int .i64 ((openL s1 at_ sn sz q').at_ : Int), .int .i64 ((openL s1 at_ sn sz q').n : Int), .int .i64 ((openL s1 at_ sn sz q').size : Int), .slice E4 (openL s1 at_ sn sz q').live.length r4, .string (bst (openL s1 at_ sn sz q').stream), .int .u64 ((openL s1 at_ sn sz q').last : Int), .int .u64 ((openL s1 at_ sn sz q').synced : Int)] 43)).heap.size by simp)
                              clear hw9 hr9 hb9 hd9 hp9 hb10 hbx HO8 k0 k1 k2 k3 k4 z1 z2 z3 x2 HS HD HP HX
                              go_upto_region 38 with fail
                              generalize w9.alloc (.cells #[.int .i64 a9, .int .i64 b9, .slice E1 i1 r1, .slice E2 i2 r2, .slice E3 i3 r3, .int .i64 ((openL s1 at_ sn sz q').at_ : Int), .int .i64 ((openL s1 at_ sn sz q').n : Int), .int .i64 ((openL s1 at_ sn sz q').size : Int), .slice E4 (openL s1 at_ sn sz q').live.length r4, .string (bst (openL s1 at_ sn sz q').stream), .int .u64 ((openL s1 at_ sn sz q').last : Int), .int .u64 ((openL s1 at_ sn sz q').synced : Int)] 43) = w10 at *
                              generalize w9.heap.size = g9 at *
                              have z1 := HP10.out.blk.cell 1
                              have z2 := HP10.out.blk.cell 2
                              have z3 := HP10.out.blk.cell 3
                              have x2 := HX10.out.blk.cell 2
                              have HOP := hid (open_yes (fr := q') HS10.out.wa.disk hn2 (by omega) hs1 (by omega) HPLC.out (by have := HQ.out; omega) HPD.out (fun i _ => HSMQ.out i))
                              obtain ⟨hsame, hli, hfew⟩ := open_same (s := s1) (at_ := at_) (n := sn) (size := sz) (fr := q') (by omega) HQ.out HSMQ.out
                              rw [hsame] at HOP
                              have HLI := hid hli
                              have HFW := hid hfew
                              clear hsame hli hfew HSMQ
                              go_wp2_with fail
                              go_fit HOP.out
                              rintro e w11 ⟨b', A6, m6, c6, N', M', R', rfl, hwa, hga, hm6, hc6, ht6⟩
                              have HS11 := hid (show St8 w w11 b' d N' M' R' (openD s1 at_ sn sz q') (openL s1 at_ sn sz q') from ⟨hwa, fun k hk => (ht6.own k hk).elim (fun x => x.elim (fun y => y.elim) (fun y => HS10.out.new k (.inr y))) (fun x => Nat.le_trans HS10.out.below.size x), ht6.within.below0 HS10.out.below (fun k hk => hk.elim (fun y => y.elim) (fun y => HS10.out.new k (.inr y)))⟩)
                              have HD11 := hid (HD10.out.turns ht6)
                              have HO11 := hid (HDO.out.turns ht6)
                              have HP11 := hid (HP10.out.turns ht6)
                              have HM6 := hid hm6
                              have HGA := hid hga.rcAt
                              have HRB := hid ((HR10.out.kept (B' := w11.heap.size) HIR.out (Nat.le_trans HSZ.out ht6.within.size) (fun k hk => ht6.within.block k (Nat.lt_of_lt_of_le hk.2 HSZ.out) (fun x => x.elim id (fun y => by have := HMB.out k y; omega)))).rcAt)
                              clear hwa hga hm6 hc6 ht6 HOP z1 z2 z3 x2 HS10 HD10 HDO HP10 HX10 HR10 HIR HSZ HMB
                              go_upto_region 39 with fail
                              go_wp2_with fail
                              go_fit (refRSame_any (B := w11.heap.size) (ws := openR s1 at_ sn sz q') (ws' := openR s1 at_ sn sz q') HRB.out HGA.out HRL.out HM6.out (Nat.le_refl _) (by rw [HRL.out]; exact Nat.le_trans HFW.out (by decide)))
                              rintro e w12 ⟨rfl, hb12⟩
                              rw [decide_eq_true (rfl : openR s1 at_ sn sz q' = openR s1 at_ sn sz q')]
                              have HS12 := hid (HS11.out.step hb12)
                              have HD12 := hid (HD11.out.step hb12)
                              have HO12 := hid (HO11.out.step hb12)
                              have HP12 := hid (HP11.out.step hb12)
                              have HPL9 := hid (Pl8.opened (i := j + 1) HLI.out)
                              clear hb12 HS11 HD11 HO11 HP11 HM6 HGA HRB HRL HFW HLI HPD
                              have n0 := HD12.out.box.cell 0
                              have n1 := HD12.out.box.cell 1
                              have n2 := HD12.out.box.cell 2
                              have n3 := HD12.out.box.cell 3
                              have n4 := HD12.out.box.cell 4
                              have n5 := HD12.out.box.cell 5
                              have n6 := HD12.out.box.cell 6
                              have n7 := HD12.out.box.cell 7
                              have n8 := HD12.out.box.cell 8
                              have n9 := HD12.out.box.cell 9
                              have n10 := HD12.out.box.cell 10
                              have n11 := HD12.out.box.cell 11
                              have k0 := HO12.out.box.cell 0
                              have kf0 := HO12.out.box.free 0
                              have k1 := HO12.out.box.cell 1
                              have kf1 := HO12.out.box.free 1
                              have k2 := HO12.out.box.cell 2
                              have kf2 := HO12.out.box.free 2
                              have k3 := HO12.out.box.cell 3
                              have kf3 := HO12.out.box.free 3
                              have k4 := HO12.out.box.cell 4
                              have kf4 := HO12.out.box.free 4
                              have k5 := HO12.out.box.cell 5
                              have kf5 := HO12.out.box.free 5
                              have k6 := HO12.out.box.cell 6
                              have kf6 := HO12.out.box.free 6
                              have k7 := HO12.out.box.cell 7
                              have kf7 := HO12.out.box.free 7
                              have k8 := HO12.out.box.cell 8
                              have kf8 := HO12.out.box.free 8
                              have k9 := HO12.out.box.cell 9
                              have kf9 := HO12.out.box.free 9
                              have k10 := HO12.out.box.cell 10
                              have kf10 := HO12.out.box.free 10
                              have k11 := HO12.out.box.cell 11
                              have kf11 := HO12.out.box.free 11
                              go_upto_region 41 with fail
                              go_wp2_with fail
                              clear n0 n1 n2 n3 n4 n5 n6 n7 n8 n9 n10 n11 k0 k1 k2 k3 k4 k5 k6 k7 k8 k9 k10 k11 kf0 kf1 kf2 kf3 kf4 kf5 kf6 kf7 kf8 kf9 kf10 kf11
                              as_aux_lemma =>
                                go_meet
                                case rel => exact ⟨b', N', M', R', _, _, _, _, rfl, hid (HS12.out.off off12 HO12.out.n HO12.out.m HO12.out.r HO12.out.new), hid (HD12.out.copy HO12.out.n HO12.out.m HO12.out.r HO12.out.new HPG.out off12 HO12.out.box.set12), hid (HP12.out.off off12), HPL9⟩
                        · have hk3 : ¬ kd = 3 := fun e => hk34 (.inl e)
                          have hk4 : ¬ kd = 4 := fun e => hk34 (.inr e)
                          clear hk34
                          as_aux_lemma =>
                            go_wp2_with fail
                            go_meet
                            case rel => exact ⟨b, N, M, R, P, _, s, l, rfl, HS8, HD8, HP8, hid ⟨HPL.out.li.mono (by omega), by have := HPL.out.pend; omega, HPL.out.at_, HPL.out.n, HPL.out.size⟩⟩
              case rest =>
                as_aux_lemma =>
                  obtain ⟨b, N, M, R, P, cs, s, l, rfl, HS, HD, HP, HPL2⟩ := hcut
                  clear HS8 HD8 HP8 HX8 HSV8 HPL
                  obtain ⟨_, _, _, _, hlin⟩ := HS.out.wa.log
                  obtain ⟨a8, b8, D1, D2, D3, D4, o1, o2, o3, q1, q2, q3, q4, hcs, -⟩ := HD.out.val.shape
                  injection hcs with hcs
                  subst hcs
                  obtain ⟨rfl, rfl⟩ := HD.out.val.five.counts
                  have HLA := hid (fun (W : World) (hW : Beyond wc W) => last_is (hlin.below hW))
                  have HLV := hid (fun (W : World) (hW : Beyond wc W) => live_is (hlin.below hW))
                  have HLS := hid (fun (W : World) (hW : Beyond wc W) => synced_is (hlin.below hW))
                  have HLU := hid (fun (W : World) (hW : Beyond wc W) => face.used (HS.out.wa.disk.step hW))
                  have HLP := hid (fun (W : World) (hW : Beyond wc W) => face.pending (HS.out.wa.disk.step hW))
                  clear hlin
                  have k2 : ∀ W, Beyond wc W → W.cell? ⟨gk, 2, none⟩ = some (.slice D1 s.used q1) := fun W hW => (HD.out.box.below hW HD.out.box.lt).cell 2
                  have k4 : ∀ W, Beyond wc W → W.cell? ⟨gk, 4, none⟩ = some (.slice D3 s.pend.length q3) := fun W hW => (HD.out.box.below hW HD.out.box.lt).cell 4
                  have k8 : ∀ W, Beyond wc W → W.cell? ⟨gk, 8, none⟩ = some (.slice D4 l.live.length q4) := fun W hW => (HD.out.box.below hW HD.out.box.lt).cell 8
                  have k10 : ∀ W, Beyond wc W → W.cell? ⟨gk, 10, none⟩ = some (.int .u64 (l.last : Int)) := fun W hW => (HD.out.box.below hW HD.out.box.lt).cell 10
                  have k11 : ∀ W, Beyond wc W → W.cell? ⟨gk, 11, none⟩ = some (.int .u64 (l.synced : Int)) := fun W hW => (HD.out.box.below hW HD.out.box.lt).cell 11
                  go_upto_region 45 with fail

                  refine wp_region_held_drew (S := Beyond wc) (by kernel_rfl) (Beyond.drew _) (fun hS => ?_)
                  refine stT 0 hS ?_
                  try simp only [putr]
                  refine stT 2 hS ?_
                  try simp only [putr]
                  refine stT 3 hS ?_
                  try simp only [putr]
                  refine rdH [1] ?_
                  refine rcH (fun K hK => ?_) AllReadyH.nil
                  go_simp
                  go_fit (HLA.out _ hS)
                  rintro e wa1 ⟨rfl, rfl⟩
                  have hS1 := hS
                  refine hK.out _ _ (by assumption) (fun _ => ?_)
                  clear hK K hS
                  have hS := hS1
                  try simp only [putr]
                  refine stT 4 hS ?_
                  try simp only [putr]
                  refine stT 5 hS ?_
                  try simp only [putr]
                  first | (refine stT 6 hS ?_) | (refine stK 6 hS ?_)
                  try simp only [putr]
                  first | (refine stT 8 hS ?_) | (refine stK 8 hS ?_)
                  try simp only [putr]
                  first | (refine stT 9 hS ?_) | (refine stK 9 hS ?_)
                  try simp only [putr]
                  first | (refine stT 10 hS ?_) | (refine stK 10 hS ?_)
                  try simp only [putr]
                  refine rdH [7] ?_
                  refine rcH (fun K hK => ?_) AllReadyH.nil
                  go_simp
                  go_fit (HLV.out _ hS)
                  rintro e wa7 ⟨rfl, rfl⟩
                  have hS7 := hS
                  refine hK.out _ _ (by assumption) (fun _ => ?_)
                  clear hK K hS
                  have hS := hS7
                  try simp only [putr]
                  first | (refine stT 11 hS ?_) | (refine stK 11 hS ?_)
                  try simp only [putr]
                  refine stT 12 hS ?_
                  try simp only [putr]
                  refine stT 13 hS ?_
                  try simp only [putr]
                  first | (refine stT 14 hS ?_) | (refine stK 14 hS ?_)
                  try simp only [putr]
                  first | (refine stT 16 hS ?_) | (refine stK 16 hS ?_)
                  try simp only [putr]
                  first | (refine stT 17 hS ?_) | (refine stK 17 hS ?_)
                  try simp only [putr]
                  refine rdH [15] ?_
                  refine rcH (fun K hK => ?_) AllReadyH.nil
                  go_simp
                  go_fit (HLS.out _ hS)
                  rintro e wa15 ⟨rfl, rfl⟩
                  have hS15 := hS
                  refine hK.out _ _ (by assumption) (fun _ => ?_)
                  clear hK K hS
                  have hS := hS15
                  try simp only [putr]
                  first | (refine stT 18 hS ?_) | (refine stK 18 hS ?_)
                  try simp only [putr]
                  refine stT 19 hS ?_
                  try simp only [putr]
                  refine stT 20 hS ?_
                  try simp only [putr]
                  first | (refine stT 21 hS ?_) | (refine stK 21 hS ?_)
                  try simp only [putr]
                  first | (refine stT 23 hS ?_) | (refine stK 23 hS ?_)
                  try simp only [putr]
                  first | (refine stT 24 hS ?_) | (refine stK 24 hS ?_)
                  try simp only [putr]
                  first | (refine stT 25 hS ?_) | (refine stK 25 hS ?_)
                  try simp only [putr]
                  first | (refine stT 26 hS ?_) | (refine stK 26 hS ?_)
                  try simp only [putr]
                  refine rdH [22] ?_
                  refine rcH (fun K hK => ?_) AllReadyH.nil
                  go_simp
                  go_fit (HLU.out _ hS)
                  rintro e w22 ⟨rfl, hb22⟩
                  have hS22 := Beyond.step hS hb22
                  clear hb22
                  refine hK.out _ _ (by assumption) (fun _ => ?_)
                  clear hK K hS
                  have hS := hS22
                  try simp only [putr]
                  first | (refine stT 27 hS ?_) | (refine stK 27 hS ?_)
                  try simp only [putr]
                  refine stT 28 hS ?_
                  try simp only [putr]
                  refine stT 29 hS ?_
                  try simp only [putr]
                  first | (refine stT 30 hS ?_) | (refine stK 30 hS ?_)
                  try simp only [putr]
                  first | (refine stT 32 hS ?_) | (refine stK 32 hS ?_)
                  try simp only [putr]
                  first | (refine stT 33 hS ?_) | (refine stK 33 hS ?_)
                  try simp only [putr]
                  first | (refine stT 34 hS ?_) | (refine stK 34 hS ?_)
                  try simp only [putr]
                  first | (refine stT 35 hS ?_) | (refine stK 35 hS ?_)
                  try simp only [putr]
                  refine rdH [31] ?_
                  refine rcH (fun K hK => ?_) AllReadyH.nil
                  go_simp
                  go_fit (HLP.out _ hS)
                  rintro e w31 ⟨rfl, hb31⟩
                  have hS31 := Beyond.step hS hb31
                  clear hb31
                  refine hK.out _ _ (by assumption) (fun _ => ?_)
                  clear hK K hS
                  have hS := hS31
                  try simp only [putr]
                  first | (refine stT 36 hS ?_) | (refine stK 36 hS ?_)
                  try simp only [putr]
                  refine stT 37 hS ?_
                  try simp only [putr]
                  refine wpAnyH_done (by kernel_rfl) ?_ _
                  have HF := hid hS
                  clear hS k2 k4 k8 k10 k11
                  go_wp2_with fail
                  go_roundw
                  case rel => exact ⟨b, j + 1, N, M, R, P, _, s, l, rfl, by go_num, by omega, by omega, hid (HS.out.step HF.out), hid (HD.out.step HF.out), hid (HP.out.step HF.out), HPL2⟩
                  case measure => simp [intOf]; omega
          · have hst : ¬ j < m ∨ j < m ∧ ¬ j < 30 := by omega
            clear hlt
            rcases hst with hlt1 | ⟨hlt1, hlt2⟩
            · go_wp2_with fail
              go_ret
              exact ⟨rfl, HS.out.below⟩
            · go_wp2_with fail
              go_ret
              exact ⟨rfl, HS.out.below⟩

end Go.Proofs.YtobmdmbjmjdfjaaGreatDoor
