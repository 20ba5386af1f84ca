/-
  MetaPlays: its walk.
-/
import Derived.Test.YtngclmjefadokaaDoorMPl
namespace Go.Proofs.YtngclmjefadokaaDoor
open Go Go.RowKit

theorem SvAt.back {w w' : World} {B : Nat} {A : Option Addr} {l : List (Int × Int)} (h : SvAt w' B A l) (hb : Below B w w') : SvAt w B A l := fun hl => by
  obtain ⟨b, off, e, hlt, hc⟩ := h hl
  exact ⟨b, off, e, hlt, fun i s hs => ⟨(hb.cell (p := ⟨b, off + i * 2, none⟩) hlt).symm.trans (hc i s hs).1, (hb.cell (p := ⟨b, off + i * 2 + 1, none⟩) hlt).symm.trans (hc i s hs).2⟩⟩
theorem cell_of {w : World} {b : Nat} {t : TypeId} {cs : Array Value} (h : Blk w b t cs) (i : Nat) : w.cell? ⟨b, i, none⟩ = cs[i]? := h.cell i
set_option maxHeartbeats 40000000 in
set_option maxRecDepth 100000 in
theorem mplays_walk (p0 p1 : Int) (A : Option Addr) (c : Nat) (xs : List Act12) (w : World) (hA : ActsAt12 w w.heap.size A xs) (hT : Table w) :
    Calls Tryd.prog 3 #[.int .i64 p0, .int .i64 p1, .slice A xs.length c] w fun e w' => e = .returned (.bool true) ∧ Below w.heap.size w w' := by
  have HT := hid hT
  have HA := hid hA
  have HAW := hid (show ∀ W : World, Below w.heap.size w W → Calls Tryd.prog 8 #[] W fun e w' => e = .returned (.bool true) ∧ Below W.heap.size W w' from fun W hW => mawake_yes W (hT.step hW))
  obtain ⟨n, hn⟩ : ∃ n, xs.length = n := ⟨_, rfl⟩
  have HML := hid hn
  rw [hn]
  clear hA hT hn
  by_cases g0 : p0 < 1 ∨ 65536 < p0
  · have HN := hid (face.newNo (w := w) g0)
    have HM := hid (fun (W : World) => new6_no (w := W) g0)
    clear g0
    go_enter Tryd.func3, Tryd.ntmps3
    go_wp2_with fail
    go_fit HN.out
    rintro e w1 ⟨rfl, hb1⟩
    have HB1 := hid hb1
    clear hb1
    go_wp2_with fail
    go_fit (HM.out w1)
    rintro e w2 ⟨rfl, hb2⟩
    have HB2 := hid ((below_step HB1.out hb2).alloc (below_step HB1.out hb2).size (.cells #[.int .i64 0, .int .i64 0, .slice none 0 0, .slice none 0 0, .slice none 0 0] 30))
    clear hb2
    go_upto_region 3 with fail
    generalize w2.alloc (.cells #[.int .i64 0, .int .i64 0, .slice none 0 0, .slice none 0 0, .slice none 0 0] 30) = w3 at *
    go_wp2_with fail
    go_fit (HAW.out w3 HB2.out)
    rintro e w4 ⟨rfl, hb4⟩
    have HB4 := hid (below_step HB2.out hb4)
    clear hb4
    go_wp2_with fail
    go_fit (HAW.out w4 HB4.out)
    rintro e w5 ⟨rfl, hb5⟩
    go_wp2_with fail
    go_ret
    exact ⟨rfl, below_step HB4.out hb5⟩
  · obtain ⟨nsz, rfl⟩ : ∃ n0 : Nat, p0 = (n0 : Int) := ⟨p0.toNat, by omega⟩
    have HN := hid (face.newYes (n := nsz) (w := w) (by omega) (by omega))
    have HM := hid (fun (W : World) => new6_yes (P := fun _ => False) (n := nsz) (w := W) (by omega) (by omega))
    clear g0
    by_cases hpl : p1 < 0 ∨ 65534 < p1
    · go_enter Tryd.func3, Tryd.ntmps3
      go_wp2_with fail
      go_fit HN.out
      rintro e w1 ⟨d, M, R, rfl, hd, hnew, hb1⟩
      have HD1 := hid hd
      have HN1 := hid hnew
      have HB1 := hid hb1
      clear hd hnew hb1
      go_wp2_with fail
      go_fit (HM.out w1)
      rintro e w2 ⟨v2, rfl, h6, hb2⟩
      obtain ⟨sz0, lm0, A0, B0, C0, m0, n0, o0, c0, d0, e0, rfl⟩ := h6.shape
      have hb3 := hb2.alloc hb2.size (.cells #[.int .i64 sz0, .int .i64 lm0, .slice A0 m0 c0, .slice B0 n0 d0, .slice C0 o0 e0] 30)
      have HX3 := hid (Blk.new w2 30 #[.int .i64 sz0, .int .i64 lm0, .slice A0 m0 c0, .slice B0 n0 d0, .slice C0 o0 e0])
      have HD3 := hid (HD1.out.step hb3)
      have HB3 := hid (below_step HB1.out hb3)
      have H63 := hid (h6.step (w' := w2.alloc (.cells #[.int .i64 sz0, .int .i64 lm0, .slice A0 m0 c0, .slice B0 n0 d0, .slice C0 o0 e0] 30)) ((Below.refl _ _).alloc (Nat.le_refl _) _))
      have HG3 := hid (show w1.heap.size ≤ w2.heap.size from hb2.size)
      have HW1 := hid (show w.heap.size ≤ w1.heap.size from HB1.out.size)
      clear h6 hb2 hb3
      go_upto_region 3 with fail
      generalize w2.alloc (.cells #[.int .i64 sz0, .int .i64 lm0, .slice A0 m0 c0, .slice B0 n0 d0, .slice C0 o0 e0] 30) = w3 at *
      generalize w2.heap.size = gn at *
      go_wp2_with fail
      go_fit (HAW.out w3 HB3.out)
      rintro e w4 ⟨rfl, hb4⟩
      have HX4 := hid (HX3.out.below hb4 HX3.out.lt)
      have HD4 := hid (HD3.out.step hb4)
      have HB4 := hid (below_step HB3.out hb4)
      have H64 := hid (H63.out.step hb4)
      have HL1 := hid (show ∀ k, M k ∨ R k → k < w1.heap.size from HD1.out.lt)
      clear hb4 HX3 HD3 HB3 H63 HD1 HB1
      have HMO := hid (fun (W : World) => meta_no (w := W) (d := d) hpl)
      go_wp2_with fail
      go_fit (HMO.out w4)
      rintro e w5 ⟨rfl, hw⟩
      obtain rfl : w4 = w5 := hw.symm
      have HRO := hid (open12_no H64.out hpl)
      have y0 := HX4.out.cell 0
      have y1 := HX4.out.cell 1
      have y2 := HX4.out.cell 2
      have y3 := HX4.out.cell 3
      have y4 := HX4.out.cell 4
      go_wp2_with fail
      go_fit HRO.out
      rintro e w6 ⟨rfl, hb6⟩
      have HB7 := hid ((below_step HB4.out hb6).alloc (below_step HB4.out hb6).size (.cells #[.int .i64 0, .int .i64 0, .int .u64 0] 39))
      clear hb6 y0 y1 y2 y3 y4
      go_upto_region 7 with fail
      generalize w6.alloc (.cells #[.int .i64 0, .int .i64 0, .int .u64 0] 39) = w7 at *
      go_wp2_with fail
      go_loopw [11, 17] (fun y x wr => y = .pointer none ∧ x = .int .i64 0 ∧ wr = w7) (fun _ _ _ => 0)
      case atStart => exact ⟨rfl, rfl, rfl⟩
      case round =>
        obtain ⟨rfl, rfl, rfl⟩ := hrel
        by_cases hn0 : 0 < n
        · go_wp2_with fail
          go_ret
          exact ⟨rfl, HB7.out⟩
        · go_wp2_with fail
          go_ret
          exact ⟨rfl, HB7.out⟩
    · have hp0 : ¬ p1 < 0 := by omega
      have hp1 : ¬ p1 > 65534 := by omega
      go_enter Tryd.func3, Tryd.ntmps3
      go_wp2_with fail
      go_fit HN.out
      rintro e w1 ⟨d, M, R, rfl, hd, hnew, hb1⟩
      have HD1 := hid hd
      have HN1 := hid hnew
      have HB1 := hid hb1
      clear hd hnew hb1
      go_wp2_with fail
      go_fit (HM.out w1)
      rintro e w2 ⟨v2, rfl, h6, hb2⟩
      obtain ⟨sz0, lm0, A0, B0, C0, m0, n0, o0, c0, d0, e0, rfl⟩ := h6.shape
      have hb3 := hb2.alloc hb2.size (.cells #[.int .i64 sz0, .int .i64 lm0, .slice A0 m0 c0, .slice B0 n0 d0, .slice C0 o0 e0] 30)
      have HX3 := hid (Blk.new w2 30 #[.int .i64 sz0, .int .i64 lm0, .slice A0 m0 c0, .slice B0 n0 d0, .slice C0 o0 e0])
      have HD3 := hid (HD1.out.step hb3)
      have HB3 := hid (below_step HB1.out hb3)
      have H63 := hid (h6.step (w' := w2.alloc (.cells #[.int .i64 sz0, .int .i64 lm0, .slice A0 m0 c0, .slice B0 n0 d0, .slice C0 o0 e0] 30)) ((Below.refl _ _).alloc (Nat.le_refl _) _))
      have HG3 := hid (show w1.heap.size ≤ w2.heap.size from hb2.size)
      have HW1 := hid (show w.heap.size ≤ w1.heap.size from HB1.out.size)
      clear h6 hb2 hb3
      go_upto_region 3 with fail
      generalize w2.alloc (.cells #[.int .i64 sz0, .int .i64 lm0, .slice A0 m0 c0, .slice B0 n0 d0, .slice C0 o0 e0] 30) = w3 at *
      generalize w2.heap.size = gn at *
      go_wp2_with fail
      go_fit (HAW.out w3 HB3.out)
      rintro e w4 ⟨rfl, hb4⟩
      have HX4 := hid (HX3.out.below hb4 HX3.out.lt)
      have HD4 := hid (HD3.out.step hb4)
      have HB4 := hid (below_step HB3.out hb4)
      have H64 := hid (H63.out.step hb4)
      have HL1 := hid (show ∀ k, M k ∨ R k → k < w1.heap.size from HD1.out.lt)
      clear hb4 HX3 HD3 HB3 H63 HD1 HB1
      have HMO := hid (meta_yes (a := p1) HD4.out (by omega) (by omega) (fun _ _ h => by cases h))
      rw [(MOk.new (n := nsz) p1).opened, show bst mo0.b = ⟨#[]⟩ from rfl, show (mo0.e : Int) = 121 from rfl] at HMO
      go_wp2_with fail
      go_fit HMO.out
      rintro e w5 ⟨b, rfl, hma, hnb, hb5⟩
      have HMA5 := hid hma
      have HNB := hid (Nat.le_trans HB4.out.size hnb)
      have HNG := hid (show gn < b from Nat.lt_of_lt_of_le HX4.out.lt hnb)
      have HX5 := hid (HX4.out.below hb5 HX4.out.lt)
      have HB5 := hid (below_step HB4.out hb5)
      have H65 := hid (H64.out.step hb5)
      clear hma hnb hb5 HX4 HB4 H64 HD4 HMO
      have HRO := hid (open12_yes (a := p1) H65.out (by omega) (by omega))
      rw [(MOk.new (n := nsz) p1).opened, show bst mo0.b = ⟨#[]⟩ from rfl, show (mo0.e : Int) = 121 from rfl, show ((mo0.q : Nat) : Int) = 0 from rfl] at HRO
      have y0 := HX5.out.cell 0
      have y1 := HX5.out.cell 1
      have y2 := HX5.out.cell 2
      have y3 := HX5.out.cell 3
      have y4 := HX5.out.cell 4
      go_wp2_with fail
      go_fit HRO.out
      rintro e w6 ⟨l, rfl, hli, hb6⟩
      have hb7 := hb6.alloc hb6.size (.cells #[.int .i64 p1, .int .i64 l, .int .u64 0] 39)
      have HPL := hid (show Pl w (w6.alloc (.cells #[.int .i64 p1, .int .i64 l, .int .u64 0] 39)) b d gn w6.heap.size M R (fun _ => False) #[.int .i64 sz0, .int .i64 lm0, .slice A0 m0 c0, .slice B0 n0 d0, .slice C0 o0 e0] p1 l 0 0 0 (Dk.new nsz) (Dk.new nsz) from by
        have hma := HMA5.out.step hb7
        have hl5 := HMA5.out.blk.lt
        have hg := hb6.size
        have hg5 := HX5.out.lt
        have hwb := HNB.out
        have hng := HNG.out
        have hb5 := HB5.out.size
        have hg3 := HG3.out
        have hw1 : w.heap.size ≤ gn := by
          have := HW1.out
          omega
        exact ⟨hma, HX5.out.below hb7 HX5.out.lt, Blk.new w6 _ _, H65.out.step hb7, fun j hj => hj.elim, fun j hj => hj.elim, ⟨by omega, by omega, by omega⟩, ⟨fun x => by have := HL1.out gn (.inl x); omega, fun x => by have := HL1.out _ (.inl x); omega, fun x => by have := HL1.out gn (.inr x); omega, fun x => by have := HL1.out _ (.inr x); omega⟩, ⟨hw1, by omega⟩, fun k hk => hk.elim (fun e => by omega) (fun x => HN1.out k (.inl x)), below_step HB5.out hb7⟩)
      have HLL := hid (ll_of hli)
      clear hb6 hb7 hli y0 y1 y2 y3 y4 HX5 HB5 H65 HMA5 HRO
      go_upto_region 7 with fail
      generalize w6.alloc (.cells #[.int .i64 p1, .int .i64 l, .int .u64 0] 39) = w7 at *
      generalize w6.heap.size = gk at *
      go_wp2_with fail
      go_loopw [11, 17] (fun y x wr => ∃ (b j nx q : Nat) (l : Int) (M R P : Nat → Prop) (sz1 lm1 : Int) (A1 B1 C1 : Option Addr) (m1 n1 o1 c1 d1 e1 : Nat) (s : Dk), y = .pointer (some ⟨b, 0, none⟩) ∧ x = .int .i64 (j : Int) ∧ j ≤ n ∧ j ≤ 25 ∧ Kept (Pl w wr b d gn gk M R P #[.int .i64 sz1, .int .i64 lm1, .slice A1 m1 c1, .slice B1 n1 d1, .slice C1 o1 e1] p1 l nx q q s s) ∧ Kept ((l = 0 ∧ nx = 1 ∨ l ≠ 0 ∧ nx = 0) ∧ s.pend.length ≤ 2 * j)) (fun _ x _ => n - (intOf x).toNat)
      case atStart => exact ⟨b, 0, 0, 0, l, M, R, _, sz0, lm0, A0, B0, C0, m0, n0, o0, c0, d0, e0, Dk.new nsz, rfl, rfl, Nat.zero_le _, Nat.zero_le _, HPL, hid ⟨HLL.out, Nat.le_refl _⟩⟩
      case round =>
        obtain ⟨b, j, nx, q, l, M, R, P, sz1, lm1, A1, B1, C1, m1, n1, o1, c1, d1, e1, s, rfl, rfl, hj, hj25, HS, HIN⟩ := hrel
        clear HPL HLL HN1 HNB HNG HG3 HL1
        by_cases hlt : j < n ∧ j < 25
        · obtain ⟨hlt1, hlt2⟩ := hlt
          obtain ⟨bb, off, x, rfl, hbb, hxj, hin⟩ := (HA.out.below HS.out.below).get (k := j) (by have := HML.out; omega)
          obtain ⟨kd, st, body, left⟩ := x
          obtain ⟨AL, nl, cl, k0, k1, k2, k3, hsv, hnl, hcl, hcm, hbl⟩ := hin.ex
          dsimp only at k0 k1 k2 k3 hsv hnl hbl
          have HFE := hid (show ∀ W : World, Calls Tryd.prog 11 #[.agg #[.int .i64 kd, .int .i64 st, .string (bst body), .slice AL nl cl]] W fun e w' => (∃ n', e = .returned (.agg #[.int .i64 kd, .int .i64 st, .string (bst (body.take 600)), .slice AL n' cl]) ∧ n' = (left.take 20).length ∧ n' ≤ cl) ∧ Below W.heap.size W w' from fun W => few12_any (x := ⟨kd, st, body, left⟩) hnl hcl hbl hcm)
          have HSV := hid ((hsv.take 20).back HS.out.below)
          have HL20 := hid (show (left.take 20).length ≤ 20 by rw [List.length_take]; omega)
          generalize body.take 600 = bod at *
          generalize left.take 20 = lef at *
          clear hin hxj hbb hsv hnl hcl hbl hcm
          obtain ⟨hll, hpe⟩ := HIN.out
          have HPE := hid hpe
          have HLL := hid hll
          clear hpe hll HIN
          go_wp2_with fail
          go_fit (HFE.out wr)
          rintro e w8 ⟨⟨n6, rfl, hn6, hc6⟩, hb8⟩
          have hb9 := hb8.alloc hb8.size (.cells #[.int .i64 kd, .int .i64 st, .string (bst bod), .slice AL n6 cl] 44)
          have HS9 := hid (HS.out.step hb9)
          have HX9 := hid (Kq.new HS.out (Blk.new w8 44 #[.int .i64 kd, .int .i64 st, .string (bst bod), .slice AL n6 cl]) hb8.size)
          have HN6 := hid hn6
          clear hb8 hb9 HFE k0 k1 k2 k3 hn6 hc6 HS
          go_upto_region 13 with fail
          generalize w8.alloc (.cells #[.int .i64 kd, .int .i64 st, .string (bst bod), .slice AL n6 cl] 44) = w9 at *
          generalize w8.heap.size = gx at *
          have x0 := HX9.out.k.blk.cell 0
          by_cases hk3 : kd = 3
          · subst hk3
            have x1 := HX9.out.k.blk.cell 1
            have HLI := hid (face.limit (n := st) HS9.out.ma.disk)
            go_wp2_with fail
            go_fit HLI.out
            rintro e w10 ⟨rfl, M', R', hd, ht⟩
            have HS10 := hid (HS9.out.landed (HS9.out.ma.disk' hd ht) (MTurns.of_turns ht))
            have HX10 := hid (HX9.out.turns (MTurns.of_turns (b := b) ht))
            clear hd ht HLI x0 x1 HS9 HX9
            have x1 := HX10.out.k.blk.cell 1
            have y1 := HS10.out.dn.cell 1
            have f1 := HS10.out.dn.free 1
            go_wp2_with fail
            go_roundw
            case rel => exact ⟨b, j + 1, nx, q, l, M', R', P, sz1, st, A1, B1, C1, m1, n1, o1, c1, d1, e1, s.lim st, rfl, by go_num, by omega, by omega, hid (HS10.out.lim st), hid ⟨HLL.out, by have := HPE.out; show s.pend.length ≤ _; omega⟩⟩
            case measure => simp [intOf]; omega
          · have x1 := HX9.out.k.blk.cell 1
            have x2 := HX9.out.k.blk.cell 2
            have HRS := hid (steps12_f (q := q) bod HS9.out.d6 HS9.out.ma.a0 HS9.out.ma.a1 HLL.out (by have := HPE.out; omega) st)
            have HPS := hid (show (fS s p1 nx q bod st).pend.length ≤ 2 * (j + 1) by have := fS_pend s p1 nx q bod st; have := HPE.out; omega)
            have HMS := hid (fun (W : World) (b : Nat) (M R : Nat → Prop) (h : MA W b d M R s p1 nx q) (h0 : ¬ M 0) (hT : Table W) => msteps_f h h0 hT bod (by have := HPE.out; omega) st)
            have HLN := hid (ll_next (D := fD s p1 nx q bod st) HLL.out)
            generalize fD s p1 nx q bod st = D at *
            generalize fY s p1 nx q bod st = Y at *
            generalize fS s p1 nx q bod st = s2 at *
            generalize (if D then (nx : Int) else l) = l2 at *
            generalize (if D then 1 - nx else nx) = nx2 at *
            generalize (if D then next64 q else q) = q2 at *
            have y0 := HS9.out.dn.cell 0
            have y1 := HS9.out.dn.cell 1
            have y2 := HS9.out.dn.cell 2
            have y3 := HS9.out.dn.cell 3
            have y4 := HS9.out.dn.cell 4
            have k0 := HS9.out.kn.cell 0
            have k1 := HS9.out.kn.cell 1
            have k2 := HS9.out.kn.cell 2
            go_wp2_with fail
            go_fit HRS.out
            rintro e w10 ⟨v10, rfl, hd, hb⟩
            obtain ⟨sz2, lm2, A2, B2, C2, m2, n2, o2, c2, d2, e2, rfl⟩ := hd.shape
            have e10 : (w10.alloc (.cells #[.int .i64 sz2, .int .i64 lm2, .slice A2 m2 c2, .slice B2 n2 d2, .slice C2 o2 e2] 30)).heap.size = w10.heap.size + 1 := by simp
            have hb1 := hb.alloc hb.size (.cells #[.int .i64 sz2, .int .i64 lm2, .slice A2 m2 c2, .slice B2 n2 d2, .slice C2 o2 e2] 30)
            have hb2 := hb1.alloc hb1.size (.cells #[.int .i64 p1, .int .i64 l2, .int .u64 (q2 : Int)] 39)
            have HXA := hid ((Blk.new w10 30 #[.int .i64 sz2, .int .i64 lm2, .slice A2 m2 c2, .slice B2 n2 d2, .slice C2 o2 e2]).alloc (.cells #[.int .i64 p1, .int .i64 l2, .int .u64 (q2 : Int)] 39))
            have hxb := Blk.new (w10.alloc (.cells #[.int .i64 sz2, .int .i64 lm2, .slice A2 m2 c2, .slice B2 n2 d2, .slice C2 o2 e2] 30)) 39 #[.int .i64 p1, .int .i64 l2, .int .u64 (q2 : Int)]
            rw [e10] at hxb
            have HXB := hid hxb
            have HD10 := hid (hd.step (((Below.refl _ _).alloc (Nat.le_refl _) (.cells #[.int .i64 sz2, .int .i64 lm2, .slice A2 m2 c2, .slice B2 n2 d2, .slice C2 o2 e2] 30)).alloc (by simp) (.cells #[.int .i64 p1, .int .i64 l2, .int .u64 (q2 : Int)] 39)))
            have HB11 := hid hb2
            have HGA := hid (show w9.heap.size ≤ w10.heap.size from hb.size)
            have HX11 := hid (HX9.out.step hb2)
            clear hb hb1 hb2 hd hxb e10 HRS x0 x1 x2 y0 y1 y2 y3 y4 k0 k1 k2 HX9
            go_upto_region 17 with fail
            generalize (w10.alloc (.cells #[.int .i64 sz2, .int .i64 lm2, .slice A2 m2 c2, .slice B2 n2 d2, .slice C2 o2 e2] 30)).alloc (.cells #[.int .i64 p1, .int .i64 l2, .int .u64 (q2 : Int)] 39) = w11 at *
            generalize w10.heap.size = ga at *
            have HGN := hid (show gn < w9.heap.size ∧ gk < w9.heap.size from ⟨HS9.out.dn.lt, HS9.out.kn.lt⟩)
            have HS11 := hid (HS9.out.step HB11.out)
            have z0 : ∀ W, Within (fun k => k = gn ∨ k = gk) w11 W → W.cell? ⟨ga, 0, none⟩ = some (.int .i64 sz2) := fun W ho => cell_of ((ho.block ga HXA.out.lt (by have := HGN.out; have := HGA.out; omega)).trans HXA.out) 0
            have z1 : ∀ W, Within (fun k => k = gn ∨ k = gk) w11 W → W.cell? ⟨ga, 1, none⟩ = some (.int .i64 lm2) := fun W ho => cell_of ((ho.block ga HXA.out.lt (by have := HGN.out; have := HGA.out; omega)).trans HXA.out) 1
            have z2 : ∀ W, Within (fun k => k = gn ∨ k = gk) w11 W → W.cell? ⟨ga, 2, none⟩ = some (.slice A2 m2 c2) := fun W ho => cell_of ((ho.block ga HXA.out.lt (by have := HGN.out; have := HGA.out; omega)).trans HXA.out) 2
            have z3 : ∀ W, Within (fun k => k = gn ∨ k = gk) w11 W → W.cell? ⟨ga, 3, none⟩ = some (.slice B2 n2 d2) := fun W ho => cell_of ((ho.block ga HXA.out.lt (by have := HGN.out; have := HGA.out; omega)).trans HXA.out) 3
            have z4 : ∀ W, Within (fun k => k = gn ∨ k = gk) w11 W → W.cell? ⟨ga, 4, none⟩ = some (.slice C2 o2 e2) := fun W ho => cell_of ((ho.block ga HXA.out.lt (by have := HGN.out; have := HGA.out; omega)).trans HXA.out) 4
            have s0 : ∀ W, Within (fun k => k = gn ∨ k = gk) w11 W → W.cell? ⟨ga + 1, 0, none⟩ = some (.int .i64 p1) := fun W ho => cell_of ((ho.block (ga + 1) HXB.out.lt (by have := HGN.out; have := HGA.out; omega)).trans HXB.out) 0
            have s1 : ∀ W, Within (fun k => k = gn ∨ k = gk) w11 W → W.cell? ⟨ga + 1, 1, none⟩ = some (.int .i64 l2) := fun W ho => cell_of ((ho.block (ga + 1) HXB.out.lt (by have := HGN.out; have := HGA.out; omega)).trans HXB.out) 1
            have s2 : ∀ W, Within (fun k => k = gn ∨ k = gk) w11 W → W.cell? ⟨ga + 1, 2, none⟩ = some (.int .u64 (q2 : Int)) := fun W ho => cell_of ((ho.block (ga + 1) HXB.out.lt (by have := HGN.out; have := HGA.out; omega)).trans HXB.out) 2
            have t0 := HS11.out.dn.cell 0
            have ft0 := HS11.out.dn.free 0
            have t1 := HS11.out.dn.cell 1
            have ft1 := HS11.out.dn.free 1
            have t2 := HS11.out.dn.cell 2
            have ft2 := HS11.out.dn.free 2
            have t3 := HS11.out.dn.cell 3
            have ft3 := HS11.out.dn.free 3
            have t4 := HS11.out.dn.cell 4
            have ft4 := HS11.out.dn.free 4
            refine wp_region_held_drew (S := Within (fun k => k = gn ∨ k = gk) w11) (by kernel_rfl) (Within.of_below (Beyond.drew _)) (fun hS => ?_)
            refine stT 0 hS ?_
            try simp only [putr]
            refine stT 1 hS ?_
            try simp only [putr]
            refine rdH [2] ?_
            refine rcH (fun K hK => ?_) AllReadyH.nil
            go_simp
            refine hK.out _ _ ((by have hz := (Within.put (i := 4) (Within.put (i := 3) (Within.put (i := 2) (Within.put (i := 1) (Within.put (i := 0) hS (.inl rfl) (.int .i64 sz2)) (.inl rfl) (.int .i64 lm2)) (.inl rfl) (.slice A2 m2 c2)) (.inl rfl) (.slice B2 n2 d2)) (.inl rfl) (.slice C2 o2 e2)); simpa only [drew_set12] using hz)) (fun hS2 => ?_)
            have hk5 : Blk (((((w11.setCell ⟨gn, 0, none⟩ (.int .i64 sz2)).setCell ⟨gn, 1, none⟩ (.int .i64 lm2)).setCell ⟨gn, 2, none⟩ (.slice A2 m2 c2)).setCell ⟨gn, 3, none⟩ (.slice B2 n2 d2)).setCell ⟨gn, 4, none⟩ (.slice C2 o2 e2)) gk 39 #[.int .i64 p1, .int .i64 l, .int .u64 (q : Int)] := (keep5 HS11.out.ne.1.symm).trans HS11.out.kn
            have u0 := hk5.cell 0
            have u1 := hk5.cell 1
            have u2 := hk5.cell 2
            have fu0 := hk5.free 0
            have fu1 := hk5.free 1
            have fu2 := hk5.free 2
            clear hk5
            clear hK K hS
            have hS := hS2
            try simp only [Act.put]
            refine rdH [3] ?_
            refine rcH (fun K hK => ?_) AllReadyH.nil
            go_simp
            refine hK.out _ _ ((by have hz := (Within.put (i := 2) (Within.put (i := 1) (Within.put (i := 0) hS (.inr rfl) (.int .i64 p1)) (.inr rfl) (.int .i64 l2)) (.inr rfl) (.int .u64 (q2 : Int))); simpa only [drew_set12] using hz)) (fun hS3 => ?_)
            clear hK K hS
            have hS := hS3
            try simp only [Act.put]
            refine wpAnyH_done (by kernel_rfl) ?_ _
            have HS12 := hid ((HS9.out.put8 (l' := l2) (q2' := q2) HB11.out HD10.out).step (Beyond.drew _))
            have HX12 := hid (HX11.out.box hS)
            clear hS z0 z1 z2 z3 z4 s0 s1 s2 t0 t1 t2 t3 t4 ft0 ft1 ft2 ft3 ft4 u0 u1 u2 fu0 fu1 fu2 HS9 HB11 HD10 HX11 HXA HXB HGN HGA HS11
            generalize (((((((((w11.setCell ⟨gn, 0, none⟩ (.int .i64 sz2)).setCell ⟨gn, 1, none⟩ (.int .i64 lm2)).setCell ⟨gn, 2, none⟩ (.slice A2 m2 c2)).setCell ⟨gn, 3, none⟩ (.slice B2 n2 d2)).setCell ⟨gn, 4, none⟩ (.slice C2 o2 e2)).setCell ⟨gk, 0, none⟩ (.int .i64 p1)).setCell ⟨gk, 1, none⟩ (.int .i64 l2)).setCell ⟨gk, 2, none⟩ (.int .u64 (q2 : Int)))).drew = w12 at *
            generalize (fun j => (P j ∨ w9.heap.size ≤ j) ∧ j < w11.heap.size) = P2 at *
            have x1 := HX12.out.k.blk.cell 1
            have x2 := HX12.out.k.blk.cell 2
            have HMT := hid (HMS.out w12 b M R HS12.out.ma (HS12.out.zero HT.out) (HT.out.step HS12.out.below))
            go_wp2_with fail
            go_fit HMT.out
            rintro e w13 ⟨rfl, M3, R3, hma, ht⟩
            have HS13 := hid (HS12.out.landed hma ht)
            have HX13 := hid (HX12.out.turns ht)
            clear hma ht HMT HMS x1 x2 HS12 HX12
            have x0 := HX13.out.k.blk.cell 0
            by_cases hk1 : kd = 1
            · subst hk1
              have x3 := HX13.out.k.blk.cell 3
              have HCL := hid (crash_d (c := cl) HS13.out.ma.disk (HSV.out.below HS13.out.below) HN6.out HS13.out.below.size (by have := HL20.out; have := HN6.out; omega))
              go_wp2_with fail
              go_fit HCL.out
              rintro e w14 ⟨rfl, M4, R4, hd, ht⟩
              have HS14 := hid (HS13.out.landed (HS13.out.ma.disk' hd ht) (MTurns.of_turns ht))
              have HX14 := hid (HX13.out.turns (MTurns.of_turns (b := b) ht))
              clear hd ht HCL x0 x3 HS13 HX13
              have HCR := hid (crash6_any (cl := cl) HS14.out.d6 (HSV.out.below HS14.out.below) HN6.out HS14.out.below.size (by have := HL20.out; omega) (by have := HPS.out; omega))
              have x3 := HX14.out.k.blk.cell 3
              have y0 := HS14.out.dn.cell 0
              have fy0 := HS14.out.dn.free 0
              have y1 := HS14.out.dn.cell 1
              have fy1 := HS14.out.dn.free 1
              have y2 := HS14.out.dn.cell 2
              have fy2 := HS14.out.dn.free 2
              have y3 := HS14.out.dn.cell 3
              have fy3 := HS14.out.dn.free 3
              have y4 := HS14.out.dn.cell 4
              have fy4 := HS14.out.dn.free 4
              go_wp2_with fail
              go_fit HCR.out
              rintro e w15 ⟨v15, rfl, hd, hb⟩
              obtain ⟨sz4, lm4, A4, B4, C4, m4, n4, o4, c4, d4, e4, rfl⟩ := hd.shape
              have HT15 := hid (HS14.out.step hb)
              have HS16 := hid (HS14.out.put5 hb hd)
              clear hd hb HCR x3 y0 y1 y2 y3 y4 fy0 fy1 fy2 fy3 fy4 HX14
              have y0 := HT15.out.dn.cell 0
              have fy0 := HT15.out.dn.free 0
              have y1 := HT15.out.dn.cell 1
              have fy1 := HT15.out.dn.free 1
              have y2 := HT15.out.dn.cell 2
              have fy2 := HT15.out.dn.free 2
              have y3 := HT15.out.dn.cell 3
              have fy3 := HT15.out.dn.free 3
              have y4 := HT15.out.dn.cell 4
              have fy4 := HT15.out.dn.free 4
              go_upto_region 25 with fail
              clear y0 y1 y2 y3 y4 fy0 fy1 fy2 fy3 fy4 HT15
              generalize (fun j => (P2 j ∨ w14.heap.size ≤ j) ∧ j < w15.heap.size) = P4 at *
              generalize (((((w15.setCell ⟨gn, 0, none⟩ (.int .i64 sz4)).setCell ⟨gn, 1, none⟩ (.int .i64 lm4)).setCell ⟨gn, 2, none⟩ (.slice A4 m4 c4)).setCell ⟨gn, 3, none⟩ (.slice B4 n4 d4)).setCell ⟨gn, 4, none⟩ (.slice C4 o4 e4)) = w16 at *
              have HPC := hid (show (s2.crash lef).pend.length ≤ 2 * (j + 1) from Nat.zero_le _)
              generalize s2.crash lef = s4 at *
              have y0 := HS16.out.dn.cell 0
              have y1 := HS16.out.dn.cell 1
              have y2 := HS16.out.dn.cell 2
              have y3 := HS16.out.dn.cell 3
              have y4 := HS16.out.dn.cell 4
              have HRO := hid (open12_yes (a := p1) HS16.out.d6 (by have := HS16.out.ma.a0; omega) (by have := HS16.out.ma.a1; omega))
              have HVL := hid (show ∀ i b, s4.view i = some b → b.length ≤ 512 from fun i b hb => (HS16.out.d6.view_le hb).1)
              go_wp2_with fail
              go_fit HRO.out
              rintro e w17 ⟨l5, rfl, hli, hb17⟩
              have hb18 := hb17.alloc hb17.size (.cells #[.int .i64 p1, .int .i64 l5, .int .u64 ((mopen s4.view p1).q : Int)] 39)
              have HS18 := hid (HS16.out.step hb18)
              have HXO := hid (Kq.new HS16.out (Blk.new w17 39 #[.int .i64 p1, .int .i64 l5, .int .u64 ((mopen s4.view p1).q : Int)]) hb17.size)
              have HLX := hid (ll_of hli)
              clear hb17 hb18 hli HRO y0 y1 y2 y3 y4 HS16
              go_upto_region 26 with fail
              generalize w17.alloc (.cells #[.int .i64 p1, .int .i64 l5, .int .u64 ((mopen s4.view p1).q : Int)] 39) = w18 at *
              generalize w17.heap.size = go at *
              have HMO := hid (meta_yes HS18.out.ma.disk (a := p1) (by have := HS18.out.ma.a0; omega) (by have := HS18.out.ma.a1; omega) HVL.out)
              go_wp2_with fail
              go_fit HMO.out
              rintro e w19 ⟨b5, rfl, hma, hnb, hb19⟩
              have HS19 := hid (HS18.out.reopen hma hnb hb19)
              have HXP := hid (show Blk w19 go 39 #[.int .i64 p1, .int .i64 l5, .int .u64 ((mopen s4.view p1).q : Int)] from HXO.out.k.blk.below hb19 HXO.out.k.blk.lt)
              clear hma hnb hb19 HMO HS18 HXO
              generalize mopen s4.view p1 = mo at *
              obtain ⟨nx5, q5, bo5, er5⟩ := mo
              dsimp only at *
              have v0 := HXP.out.cell 0
              have v1 := HXP.out.cell 1
              have v2 := HXP.out.cell 2
              have u0 := HS19.out.kn.cell 0
              have fu0 := HS19.out.kn.free 0
              have u1 := HS19.out.kn.cell 1
              have fu1 := HS19.out.kn.free 1
              have u2 := HS19.out.kn.cell 2
              have fu2 := HS19.out.kn.free 2
              go_upto_region 30 with fail
              have HS20 := hid (HS19.out.put3 (l' := l5) (q2' := q5))
              clear v0 v1 v2 u0 u1 u2 fu0 fu1 fu2 HXP HS19
              generalize (((w19.setCell ⟨gk, 0, none⟩ (.int .i64 p1)).setCell ⟨gk, 1, none⟩ (.int .i64 l5)).setCell ⟨gk, 2, none⟩ (.int .u64 (q5 : Int))) = w20 at *
              have HNU := hid (fun (W : World) (hW : Beyond w20 W) => number_is (HS20.out.step hW).ma.blk)
              have HUS := hid (fun (W : World) (hW : Beyond w20 W) => face.used (HS20.out.step hW).ma.disk)
              have HPD := hid (fun (W : World) (hW : Beyond w20 W) => face.pending (HS20.out.step hW).ma.disk)
              obtain ⟨hc1, hc2⟩ := HS20.out.d6.counts
              rw [← hc1] at HUS
              rw [← hc2] at HPD
              have q2f : ∀ W, Beyond w20 W → W.cell? ⟨gk, 2, none⟩ = some (.int .u64 (q5 : Int)) := fun W hW => (HS20.out.step hW).kn.cell 2
              have y2f : ∀ W, Beyond w20 W → W.cell? ⟨gn, 2, none⟩ = some (.slice A4 m4 c4) := fun W hW => (HS20.out.step hW).dn.cell 2
              have y4f : ∀ W, Beyond w20 W → W.cell? ⟨gn, 4, none⟩ = some (.slice C4 o4 e4) := fun W hW => (HS20.out.step hW).dn.cell 4
              clear hc1 hc2
              refine wp_region_held_drew (S := Beyond w20) (by kernel_rfl) (Beyond.drew _) (fun hS => ?_)
              refine stT 0 hS ?_
              try simp only [putr]
              refine stT 2 hS ?_
              try simp only [putr]
              refine stT 3 hS ?_
              try simp only [putr]
              refine rdH [1] ?_
              refine rcH (fun K hK => ?_) AllReadyH.nil
              go_simp
              go_fit (HNU.out _ hS)
              rintro e v1 ⟨rfl, rfl⟩
              have hS1 := hS
              refine hK.out _ _ (by assumption) (fun _ => ?_)
              clear hK K hS
              have hS := hS1
              try simp only [putr]
              refine stT 4 hS ?_
              try simp only [putr]
              refine stT 5 hS ?_
              try simp only [putr]
              first | (refine stT 6 hS ?_) | (refine stK 6 hS ?_)
              try simp only [putr]
              first | (refine stT 8 hS ?_) | (refine stK 8 hS ?_)
              try simp only [putr]
              first | (refine stT 9 hS ?_) | (refine stK 9 hS ?_)
              try simp only [putr]
              first | (refine stT 10 hS ?_) | (refine stK 10 hS ?_)
              try simp only [putr]
              refine rdH [7] ?_
              refine rcH (fun K hK => ?_) AllReadyH.nil
              go_simp
              go_fit (HUS.out _ hS)
              rintro e v7 ⟨rfl, hb7⟩
              have hS7 := Beyond.step hS hb7
              clear hb7
              refine hK.out _ _ (by assumption) (fun _ => ?_)
              clear hK K hS
              have hS := hS7
              try simp only [putr]
              first | (refine stT 11 hS ?_) | (refine stK 11 hS ?_)
              try simp only [putr]
              refine stT 12 hS ?_
              try simp only [putr]
              refine stT 13 hS ?_
              try simp only [putr]
              first | (refine stT 14 hS ?_) | (refine stK 14 hS ?_)
              try simp only [putr]
              first | (refine stT 16 hS ?_) | (refine stK 16 hS ?_)
              try simp only [putr]
              first | (refine stT 17 hS ?_) | (refine stK 17 hS ?_)
              try simp only [putr]
              first | (refine stT 18 hS ?_) | (refine stK 18 hS ?_)
              try simp only [putr]
              refine rdH [15] ?_
              refine rcH (fun K hK => ?_) AllReadyH.nil
              go_simp
              go_fit (HPD.out _ hS)
              rintro e v15 ⟨rfl, hb15⟩
              have hS15 := Beyond.step hS hb15
              clear hb15
              refine hK.out _ _ (by assumption) (fun _ => ?_)
              clear hK K hS
              have hS := hS15
              try simp only [putr]
              first | (refine stT 19 hS ?_) | (refine stK 19 hS ?_)
              try simp only [putr]
              refine stT 20 hS ?_
              try simp only [putr]
              refine wpAnyH_done (by kernel_rfl) ?_ _
              have HSZ := hid (HS20.out.step hS)
              clear hS q2f y2f y4f
              go_wp2_with fail
              go_roundw
              case rel => exact ⟨b5, j + 1, nx5, q5, l5, M4, R4, P4, sz4, lm4, A4, B4, C4, m4, n4, o4, c4, d4, e4, s4, rfl, by go_num, by omega, by omega, HSZ, hid ⟨HLX.out, HPC.out⟩⟩
              case measure => simp [intOf]; omega
            · by_cases hk2 : kd = 2
              · subst hk2
                have y0 := HS13.out.dn.cell 0
                have y1 := HS13.out.dn.cell 1
                have y2 := HS13.out.dn.cell 2
                have y3 := HS13.out.dn.cell 3
                have y4 := HS13.out.dn.cell 4
                have HRO := hid (open12_yes (a := p1) HS13.out.d6 (by have := HS13.out.ma.a0; omega) (by have := HS13.out.ma.a1; omega))
                have HVL := hid (show ∀ i b, s2.view i = some b → b.length ≤ 512 from fun i b hb => (HS13.out.d6.view_le hb).1)
                go_wp2_with fail
                go_fit HRO.out
                rintro e w17 ⟨l5, rfl, hli, hb17⟩
                have hb18 := hb17.alloc hb17.size (.cells #[.int .i64 p1, .int .i64 l5, .int .u64 ((mopen s2.view p1).q : Int)] 39)
                have HS18 := hid (HS13.out.step hb18)
                have HXO := hid (Kq.new HS13.out (Blk.new w17 39 #[.int .i64 p1, .int .i64 l5, .int .u64 ((mopen s2.view p1).q : Int)]) hb17.size)
                have HLX := hid (ll_of hli)
                clear hb17 hb18 hli HRO y0 y1 y2 y3 y4 HS13
                go_upto_region 26 with fail
                generalize w17.alloc (.cells #[.int .i64 p1, .int .i64 l5, .int .u64 ((mopen s2.view p1).q : Int)] 39) = w18 at *
                generalize w17.heap.size = go at *
                have HMO := hid (meta_yes HS18.out.ma.disk (a := p1) (by have := HS18.out.ma.a0; omega) (by have := HS18.out.ma.a1; omega) HVL.out)
                go_wp2_with fail
                go_fit HMO.out
                rintro e w19 ⟨b5, rfl, hma, hnb, hb19⟩
                have HS19 := hid (HS18.out.reopen hma hnb hb19)
                have HXP := hid (show Blk w19 go 39 #[.int .i64 p1, .int .i64 l5, .int .u64 ((mopen s2.view p1).q : Int)] from HXO.out.k.blk.below hb19 HXO.out.k.blk.lt)
                clear hma hnb hb19 HMO HS18 HXO
                generalize mopen s2.view p1 = mo at *
                obtain ⟨nx5, q5, bo5, er5⟩ := mo
                dsimp only at *
                have v0 := HXP.out.cell 0
                have v1 := HXP.out.cell 1
                have v2 := HXP.out.cell 2
                have u0 := HS19.out.kn.cell 0
                have fu0 := HS19.out.kn.free 0
                have u1 := HS19.out.kn.cell 1
                have fu1 := HS19.out.kn.free 1
                have u2 := HS19.out.kn.cell 2
                have fu2 := HS19.out.kn.free 2
                go_upto_region 30 with fail
                have HS20 := hid (HS19.out.put3 (l' := l5) (q2' := q5))
                clear v0 v1 v2 u0 u1 u2 fu0 fu1 fu2 HXP HS19
                generalize (((w19.setCell ⟨gk, 0, none⟩ (.int .i64 p1)).setCell ⟨gk, 1, none⟩ (.int .i64 l5)).setCell ⟨gk, 2, none⟩ (.int .u64 (q5 : Int))) = w20 at *
                have HNU := hid (fun (W : World) (hW : Beyond w20 W) => number_is (HS20.out.step hW).ma.blk)
                have HUS := hid (fun (W : World) (hW : Beyond w20 W) => face.used (HS20.out.step hW).ma.disk)
                have HPD := hid (fun (W : World) (hW : Beyond w20 W) => face.pending (HS20.out.step hW).ma.disk)
                obtain ⟨hc1, hc2⟩ := HS20.out.d6.counts
                rw [← hc1] at HUS
                rw [← hc2] at HPD
                have q2f : ∀ W, Beyond w20 W → W.cell? ⟨gk, 2, none⟩ = some (.int .u64 (q5 : Int)) := fun W hW => (HS20.out.step hW).kn.cell 2
                have y2f : ∀ W, Beyond w20 W → W.cell? ⟨gn, 2, none⟩ = some (.slice A2 m2 c2) := fun W hW => (HS20.out.step hW).dn.cell 2
                have y4f : ∀ W, Beyond w20 W → W.cell? ⟨gn, 4, none⟩ = some (.slice C2 o2 e2) := fun W hW => (HS20.out.step hW).dn.cell 4
                clear hc1 hc2
                refine wp_region_held_drew (S := Beyond w20) (by kernel_rfl) (Beyond.drew _) (fun hS => ?_)
                refine stT 0 hS ?_
                try simp only [putr]
                refine stT 2 hS ?_
                try simp only [putr]
                refine stT 3 hS ?_
                try simp only [putr]
                refine rdH [1] ?_
                refine rcH (fun K hK => ?_) AllReadyH.nil
                go_simp
                go_fit (HNU.out _ hS)
                rintro e v1 ⟨rfl, rfl⟩
                have hS1 := hS
                refine hK.out _ _ (by assumption) (fun _ => ?_)
                clear hK K hS
                have hS := hS1
                try simp only [putr]
                refine stT 4 hS ?_
                try simp only [putr]
                refine stT 5 hS ?_
                try simp only [putr]
                first | (refine stT 6 hS ?_) | (refine stK 6 hS ?_)
                try simp only [putr]
                first | (refine stT 8 hS ?_) | (refine stK 8 hS ?_)
                try simp only [putr]
                first | (refine stT 9 hS ?_) | (refine stK 9 hS ?_)
                try simp only [putr]
                first | (refine stT 10 hS ?_) | (refine stK 10 hS ?_)
                try simp only [putr]
                refine rdH [7] ?_
                refine rcH (fun K hK => ?_) AllReadyH.nil
                go_simp
                go_fit (HUS.out _ hS)
                rintro e v7 ⟨rfl, hb7⟩
                have hS7 := Beyond.step hS hb7
                clear hb7
                refine hK.out _ _ (by assumption) (fun _ => ?_)
                clear hK K hS
                have hS := hS7
                try simp only [putr]
                first | (refine stT 11 hS ?_) | (refine stK 11 hS ?_)
                try simp only [putr]
                refine stT 12 hS ?_
                try simp only [putr]
                refine stT 13 hS ?_
                try simp only [putr]
                first | (refine stT 14 hS ?_) | (refine stK 14 hS ?_)
                try simp only [putr]
                first | (refine stT 16 hS ?_) | (refine stK 16 hS ?_)
                try simp only [putr]
                first | (refine stT 17 hS ?_) | (refine stK 17 hS ?_)
                try simp only [putr]
                first | (refine stT 18 hS ?_) | (refine stK 18 hS ?_)
                try simp only [putr]
                refine rdH [15] ?_
                refine rcH (fun K hK => ?_) AllReadyH.nil
                go_simp
                go_fit (HPD.out _ hS)
                rintro e v15 ⟨rfl, hb15⟩
                have hS15 := Beyond.step hS hb15
                clear hb15
                refine hK.out _ _ (by assumption) (fun _ => ?_)
                clear hK K hS
                have hS := hS15
                try simp only [putr]
                first | (refine stT 19 hS ?_) | (refine stK 19 hS ?_)
                try simp only [putr]
                refine stT 20 hS ?_
                try simp only [putr]
                refine wpAnyH_done (by kernel_rfl) ?_ _
                have HSZ := hid (HS20.out.step hS)
                clear hS q2f y2f y4f
                go_wp2_with fail
                go_roundw
                case rel => exact ⟨b5, j + 1, nx5, q5, l5, M3, R3, P2, sz2, lm2, A2, B2, C2, m2, n2, o2, c2, d2, e2, s2, rfl, by go_num, by omega, by omega, HSZ, hid ⟨HLX.out, HPS.out⟩⟩
                case measure => simp [intOf]; omega
              · have hq1 : (kd == 1) = false := by simpa using hk1
                have hq2 : (kd == 2) = false := by simpa using hk2
                have hr1 : decide (kd = 1) = false := decide_eq_false hk1
                have hr2 : decide (kd = 2) = false := decide_eq_false hk2
                go_upto_region 30 with fail
                have HNU := hid (fun (W : World) (hW : Beyond w13 W) => number_is (HS13.out.step hW).ma.blk)
                have HUS := hid (fun (W : World) (hW : Beyond w13 W) => face.used (HS13.out.step hW).ma.disk)
                have HPD := hid (fun (W : World) (hW : Beyond w13 W) => face.pending (HS13.out.step hW).ma.disk)
                obtain ⟨hc1, hc2⟩ := HS13.out.d6.counts
                rw [← hc1] at HUS
                rw [← hc2] at HPD
                have q2f : ∀ W, Beyond w13 W → W.cell? ⟨gk, 2, none⟩ = some (.int .u64 (q2 : Int)) := fun W hW => (HS13.out.step hW).kn.cell 2
                have y2f : ∀ W, Beyond w13 W → W.cell? ⟨gn, 2, none⟩ = some (.slice A2 m2 c2) := fun W hW => (HS13.out.step hW).dn.cell 2
                have y4f : ∀ W, Beyond w13 W → W.cell? ⟨gn, 4, none⟩ = some (.slice C2 o2 e2) := fun W hW => (HS13.out.step hW).dn.cell 4
                clear hc1 hc2
                refine wp_region_held_drew (S := Beyond w13) (by kernel_rfl) (Beyond.drew _) (fun hS => ?_)
                refine stT 0 hS ?_
                try simp only [putr]
                refine stT 2 hS ?_
                try simp only [putr]
                refine stT 3 hS ?_
                try simp only [putr]
                refine rdH [1] ?_
                refine rcH (fun K hK => ?_) AllReadyH.nil
                go_simp
                go_fit (HNU.out _ hS)
                rintro e v1 ⟨rfl, rfl⟩
                have hS1 := hS
                refine hK.out _ _ (by assumption) (fun _ => ?_)
                clear hK K hS
                have hS := hS1
                try simp only [putr]
                refine stT 4 hS ?_
                try simp only [putr]
                refine stT 5 hS ?_
                try simp only [putr]
                first | (refine stT 6 hS ?_) | (refine stK 6 hS ?_)
                try simp only [putr]
                first | (refine stT 8 hS ?_) | (refine stK 8 hS ?_)
                try simp only [putr]
                first | (refine stT 9 hS ?_) | (refine stK 9 hS ?_)
                try simp only [putr]
                first | (refine stT 10 hS ?_) | (refine stK 10 hS ?_)
                try simp only [putr]
                refine rdH [7] ?_
                refine rcH (fun K hK => ?_) AllReadyH.nil
                go_simp
                go_fit (HUS.out _ hS)
                rintro e v7 ⟨rfl, hb7⟩
                have hS7 := Beyond.step hS hb7
                clear hb7
                refine hK.out _ _ (by assumption) (fun _ => ?_)
                clear hK K hS
                have hS := hS7
                try simp only [putr]
                first | (refine stT 11 hS ?_) | (refine stK 11 hS ?_)
                try simp only [putr]
                refine stT 12 hS ?_
                try simp only [putr]
                refine stT 13 hS ?_
                try simp only [putr]
                first | (refine stT 14 hS ?_) | (refine stK 14 hS ?_)
                try simp only [putr]
                first | (refine stT 16 hS ?_) | (refine stK 16 hS ?_)
                try simp only [putr]
                first | (refine stT 17 hS ?_) | (refine stK 17 hS ?_)
                try simp only [putr]
                first | (refine stT 18 hS ?_) | (refine stK 18 hS ?_)
                try simp only [putr]
                refine rdH [15] ?_
                refine rcH (fun K hK => ?_) AllReadyH.nil
                go_simp
                go_fit (HPD.out _ hS)
                rintro e v15 ⟨rfl, hb15⟩
                have hS15 := Beyond.step hS hb15
                clear hb15
                refine hK.out _ _ (by assumption) (fun _ => ?_)
                clear hK K hS
                have hS := hS15
                try simp only [putr]
                first | (refine stT 19 hS ?_) | (refine stK 19 hS ?_)
                try simp only [putr]
                refine stT 20 hS ?_
                try simp only [putr]
                refine wpAnyH_done (by kernel_rfl) ?_ _
                have HSZ := hid (HS13.out.step hS)
                clear hS q2f y2f y4f
                go_wp2_with fail
                go_roundw
                case rel => exact ⟨b, j + 1, nx2, q2, l2, M3, R3, P2, sz2, lm2, A2, B2, C2, m2, n2, o2, c2, d2, e2, s2, rfl, by go_num, by omega, by omega, HSZ, hid ⟨HLN.out, HPS.out⟩⟩
                case measure => simp [intOf]; omega
        · have hst : ¬ j < n ∨ j < n ∧ ¬ j < 25 := by omega
          clear hlt
          rcases hst with hlt1 | ⟨hlt1, hlt2⟩
          · go_wp2_with fail
            go_ret
            exact ⟨rfl, HS.out.below⟩
          · go_wp2_with fail
            go_ret
            exact ⟨rfl, HS.out.below⟩

end Go.Proofs.YtngclmjefadokaaDoor
