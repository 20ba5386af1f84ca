/-
  MetaKeeps: its walk.
-/
import Derived.Test.YtngclmjefadokaaDoorMAwake
import Derived.Test.YtngclmjefadokaaDoorMFew
namespace Go.Proofs.YtngclmjefadokaaDoor
open Go Go.RowKit

theorem SvAt.back {w w' : World} {B : Nat} {A : Option Addr} {l : List (Int × Int)} (h : SvAt w' B A l) (hb : Below B w w') : SvAt w B A l := fun hl => by
  obtain ⟨b, off, e, hlt, hc⟩ := h hl
  exact ⟨b, off, e, hlt, fun i s hs => ⟨(hb.cell (p := ⟨b, off + i * 2, none⟩) hlt).symm.trans (hc i s hs).1, (hb.cell (p := ⟨b, off + i * 2 + 1, none⟩) hlt).symm.trans (hc i s hs).2⟩⟩
set_option maxHeartbeats 16000000 in
set_option maxRecDepth 100000 in
theorem mkeeps_walk (A : Option Addr) (c : Nat) (xs : List Act12) (w : World) (hA : ActsAt12 w w.heap.size A xs) (hT : Table w) :
    Calls Tryd.prog 4 #[.slice A xs.length c] w fun e w' => e = .returned (.bool true) ∧ Below w.heap.size w w' := by
  have HT := hid hT
  have HA := hid hA
  have HAW := hid (show ∀ W : World, Below w.heap.size w W → Calls Tryd.prog 8 #[] W fun e w' => e = .returned (.bool true) ∧ Below W.heap.size W w' from fun W hW => mawake_yes W (hT.step hW))
  have HNew := hid (face.newYes (n := 20) (w := w) (by decide) (by decide))
  obtain ⟨n, hn⟩ : ∃ n, xs.length = n := ⟨_, rfl⟩
  have HML := hid hn
  rw [hn]
  clear hA hT hn
  go_enter Tryd.func4, Tryd.ntmps4
  go_wp2_with fail
  go_fit HNew.out
  rintro e w1 ⟨d, M, R, rfl, hd, hnew, hb1⟩
  have HD1 := hid hd
  have HN1 := hid hnew
  have HB1 := hid hb1
  clear hd hnew hb1
  go_wp2_with fail
  go_fit (HAW.out w1 HB1.out)
  rintro e w2 ⟨rfl, hb2⟩
  have HOP := hid (meta_first (a := 5) (HD1.out.step hb2) HN1.out (below_step HB1.out hb2) (by decide) (by decide))
  clear hb2
  go_wp2_with fail
  go_fit HOP.out
  rintro e w3 ⟨b, rfl, hst⟩
  have HS3 := hid hst
  clear hst HOP HD1 HN1 HB1
  go_wp2_with fail
  go_loopw [5, 8, 9, 10] (fun y x z i wr => ∃ (b j : Nat) (M R : Nat → Prop) (s : Dk) (m : Mo), y = .pointer (some ⟨b, 0, none⟩) ∧ x = .string (bst m.b) ∧ z = .bool (decide (1 ≤ m.q)) ∧ i = .int .i64 (j : Int) ∧ j ≤ n ∧ j ≤ 40 ∧ Kept (Mst w wr b d M R s 5 m) ∧ Kept (MDk 20 s 5 ∧ MOk s.view 5 m ∧ m.q ≤ j)) (fun _ _ _ i _ => n - (intOf i).toNat)
  case atStart => exact ⟨b, 0, M, R, _, mo0, rfl, rfl, rfl, rfl, Nat.zero_le _, Nat.zero_le _, HS3, hid ⟨MDk.new 5, MOk.new 5, Nat.le_refl _⟩⟩
  case round =>
    obtain ⟨b, j, M, R, s, m, rfl, rfl, rfl, rfl, hj, hj40, HS, HIN⟩ := hrel
    clear HS3
    by_cases hlt : j < n ∧ j < 40
    · obtain ⟨hlt1, hlt2⟩ := hlt
      obtain ⟨bb, off, x, rfl, hbb, hxj, hin⟩ := (HA.out.below HS.out.below).get (k := j) (by have := HML.out; omega)
      obtain ⟨kd, st, body, left⟩ := x
      obtain ⟨AL, nl, cl, c0, c1, c2, c3, hsv, hnl, hcl, hcm, hbl⟩ := hin.ex
      dsimp only at c0 c1 c2 c3 hsv hnl hbl
      have HFE := hid (show ∀ W : World, Calls Tryd.prog 11 #[.agg #[.int .i64 kd, .int .i64 st, .string (bst body), .slice AL nl cl]] W fun e w' => (∃ n', e = .returned (.agg #[.int .i64 kd, .int .i64 st, .string (bst (body.take 600)), .slice AL n' cl]) ∧ n' = (left.take 20).length ∧ n' ≤ cl) ∧ Below W.heap.size W w' from fun W => few12_any (x := ⟨kd, st, body, left⟩) hnl hcl hbl hcm)
      have HSV := hid (hsv.take 20)
      have HL20 := hid (show (left.take 20).length ≤ 20 by rw [List.length_take]; omega)
      generalize body.take 600 = bod at *
      generalize left.take 20 = lef at *
      clear hin hxj hbb hsv hnl hcl hbl hcm
      go_wp2_with fail
      go_fit (HFE.out wr)
      rintro e w6 ⟨⟨n6, rfl, hn6, hc6⟩, hb6⟩
      have hb7 := hb6.alloc hb6.size (.cells #[.int .i64 kd, .int .i64 st, .string (bst bod), .slice AL n6 cl] 44)
      have HS7 := hid (HS.out.step hb7)
      have HX7 := hid (Kp.new HS.out (Blk.new w6 44 #[.int .i64 kd, .int .i64 st, .string (bst bod), .slice AL n6 cl]) hb6.size)
      have HSV := hid (show SvAt w w.heap.size AL lef from HSV.out.back HS.out.below)
      have HN6 := hid hn6
      clear hb6 hb7 HFE c0 c1 c2 c3 hn6 hc6
      go_upto_region 12 with fail
      generalize w6.alloc (.cells #[.int .i64 kd, .int .i64 st, .string (bst bod), .slice AL n6 cl] 44) = w7 at *
      generalize w6.heap.size = gx at *
      have x2 := HX7.out.blk.cell 2
      have hb8 := (Below.refl w7.heap.size w7).alloc (Nat.le_refl _) (.cells #[.string (bst bod)] 9)
      have HS8 := hid (HS7.out.step hb8)
      have HX8 := hid (HX7.out.step hb8)
      have HB8 := hid (Kp.new HS7.out (Blk.new w7 9 #[.string (bst bod)]) (Nat.le_refl _))
      clear hb8 HS HS7 HX7
      go_upto_region 13 with fail
      generalize w7.alloc (.cells #[.string (bst bod)] 9) = w8 at *
      generalize w7.heap.size = gb at *
      have x2 := HX8.out.blk.cell 2
      have x1 := HX8.out.blk.cell 1
      obtain ⟨hk, hm, hqj⟩ := HIN.out
      have HK := hid hk
      have HM := hid hm
      have HQJ := hid hqj
      clear hk hm hqj HIN
      by_cases hlong : 480 < bod.length
      · have HST := hid (msteps_long (w := w8) (b := b) (k := st) hlong)
        clear hlong
        go_wp2_with fail
        go_fit HST.out
        rintro e w9 ⟨rfl, hw⟩
        obtain rfl : w8 = w9 := hw.symm
        obtain ⟨hkc, hvc⟩ := HK.out.crash lef
        have HKC := hid hkc
        have HMC := hid (show MOk (s.crash lef).view 5 m by rw [hvc]; exact HM.out)
        clear hkc hvc HST x1
        rcases HMC.out.is with ⟨hq0, hm0, -⟩ | ⟨hq1, he0, -⟩
        · have hq : ¬ 1 ≤ m.q := by omega
          have hdq : decide (1 ≤ m.q) = false := decide_eq_false hq
          subst hm0
          have x3 := HX8.out.blk.cell 3
          have HCR := hid (crash_d (c := cl) HS8.out.ma.disk (HSV.out.below HS8.out.below) HN6.out HS8.out.below.size (by have := HL20.out; have := HN6.out; omega))
          go_wp2_with fail
          go_fit HCR.out
          rintro e w9 ⟨rfl, M9, R9, hd, ht⟩
          have HS9 := hid (HS8.out.disk hd ht)
          have HX9 := hid (HX8.out.turns (MTurns.of_turns (b := b) ht))
          have HB9 := hid (HB8.out.turns (MTurns.of_turns (b := b) ht))
          clear hd ht HCR HS8 HX8 HB8
          have h9 := HS9.out.open_ HKC.out HMC.out
          rw [show bst mo0.b = ⟨#[]⟩ from rfl, show (mo0.e : Int) = 121 from rfl] at h9
          have HOP := hid h9
          clear h9 x3
          go_wp2_with fail
          go_fit HOP.out
          rintro e w10 ⟨b10, rfl, hst, hb10⟩
          have HS10 := hid hst
          have y0 := (HB9.out.step hb10).blk.cell 0
          clear hst hb10 HOP HS9
          go_wp2_with fail
          go_roundw
          case rel => exact ⟨b10, j + 1, M9, R9, _, mo0, rfl, rfl, rfl, by go_num, by omega, by omega, HS10, hid ⟨HKC.out, HMC.out, by show 0 ≤ j + 1; omega⟩⟩
          case measure => simp [intOf]; omega
        · have hdq : decide (1 ≤ m.q) = true := decide_eq_true hq1
          have x3 := HX8.out.blk.cell 3
          have HCR := hid (crash_d (c := cl) HS8.out.ma.disk (HSV.out.below HS8.out.below) HN6.out HS8.out.below.size (by have := HL20.out; have := HN6.out; omega))
          go_wp2_with fail
          go_fit HCR.out
          rintro e w9 ⟨rfl, M9, R9, hd, ht⟩
          have HS9 := hid (HS8.out.disk hd ht)
          have HX9 := hid (HX8.out.turns (MTurns.of_turns (b := b) ht))
          have HB9 := hid (HB8.out.turns (MTurns.of_turns (b := b) ht))
          clear hd ht HCR HS8 HX8 HB8
          have h9 := HS9.out.open_ HKC.out HMC.out
          rw [he0, show ((0 : Nat) : Int) = 0 from rfl] at h9
          clear he0 hq1
          have HOP := hid h9
          clear h9 x3
          go_wp2_with fail
          go_fit HOP.out
          rintro e w10 ⟨b10, rfl, hst, hb10⟩
          have HS10 := hid hst
          have y0 := (HB9.out.step hb10).blk.cell 0
          clear hst hb10 HOP HS9
          go_wp2_with fail
          go_roundw
          case rel => exact ⟨b10, j + 1, M9, R9, _, m, rfl, rfl, by rw [hdq], by go_num, by omega, by omega, HS10, hid ⟨HKC.out, HMC.out, by have := HQJ.out; omega⟩⟩
          case measure => simp [intOf]; omega
      · have h9 := HS8.out.begin_ HT.out HK.out HM.out (by decide) (by decide) (by have := HQJ.out; omega) (body := bod) (by omega) st
        have h8 := fun l => HK.out.act HM.out (by decide) (by decide) (by decide) (by have := HQJ.out; omega) (b := bod) (by omega) st l
        clear hlong
        generalize mdisk s _ _ st = s2 at *
        have HAC := hid (h8 lef)
        clear h8
        by_cases h4 : 4 ≤ st
        · rw [if_pos h4, decide_eq_true h4] at h9
          have HST := hid h9
          obtain ⟨hkc, hmc⟩ := HAC.out
          have HKC := hid hkc
          have HMC := hid (show MOk (s2.crash lef).view 5 (m.next bod) from hmc.elim (fun x => by have := x.1; omega) (fun x => x.2))
          clear h9 h4 hkc hmc HAC HK HM
          go_wp2_with fail
          go_fit HST.out
          rintro e w9 ⟨rfl, M8, R8, hst, ht⟩
          have HX8' := hid (HX8.out.turns ht)
          have HB8' := hid (HB8.out.turns ht)
          have HS8' := hid hst
          clear hst ht HST HX8 HB8 HS8 x1 x2
          have HX8 := HX8'
          clear HX8'
          have HB8 := HB8'
          clear HB8'
          have HS8 := HS8'
          clear HS8'
          have x2 := HX8.out.blk.cell 2
          have x3 := HX8.out.blk.cell 3
          have HCR := hid (crash_d (c := cl) HS8.out.ma.disk (HSV.out.below HS8.out.below) HN6.out HS8.out.below.size (by have := HL20.out; have := HN6.out; omega))
          go_wp2_with fail
          go_fit HCR.out
          rintro e w9 ⟨rfl, M9, R9, hd, ht⟩
          have HS9 := hid (HS8.out.disk hd ht)
          have HX9 := hid (HX8.out.turns (MTurns.of_turns (b := b) ht))
          have HB9 := hid (HB8.out.turns (MTurns.of_turns (b := b) ht))
          clear hd ht HCR HS8 HX8 HB8
          have h9 := HS9.out.open_ HKC.out HMC.out
          rw [show (m.next bod).b = bod from rfl, show ((m.next bod).e : Int) = 0 from rfl] at h9
          have HOP := hid h9
          clear h9 x3
          go_wp2_with fail
          go_fit HOP.out
          rintro e w10 ⟨b10, rfl, hst, hb10⟩
          have HS10 := hid hst
          have y0 := (HB9.out.step hb10).blk.cell 0
          clear hst hb10 HOP HS9

          go_wp2_with fail
          go_roundw
          case rel => exact ⟨b10, j + 1, M9, R9, _, m.next bod, rfl, rfl, by rw [decide_eq_true (show 1 ≤ (m.next bod).q from Nat.succ_le_succ (Nat.zero_le _))], by go_num, by omega, by omega, HS10, hid ⟨HKC.out, HMC.out, by have := HQJ.out; show m.q + 1 ≤ j + 1; omega⟩⟩
          case measure => simp [intOf]; omega
        · rw [if_neg h4, decide_eq_false h4] at h9
          have HST := hid h9
          obtain ⟨hkc, hmc⟩ := HAC.out
          have HKC := hid hkc
          clear h9 h4 hkc HAC HK HM
          go_wp2_with fail
          go_fit HST.out
          rintro e w9 ⟨rfl, M8, R8, hst, ht⟩
          have HX8' := hid (HX8.out.turns ht)
          have HB8' := hid (HB8.out.turns ht)
          have HS8' := hid hst
          clear hst ht HST HX8 HB8 HS8 x1 x2
          have HX8 := HX8'
          clear HX8'
          have HB8 := HB8'
          clear HB8'
          have HS8 := HS8'
          clear HS8'
          rcases hmc with ⟨-, hmc⟩ | ⟨-, hmc⟩
          · have HMC := hid hmc
            clear hmc
            rcases HMC.out.is with ⟨hq0, hm0, -⟩ | ⟨hq1, he0, -⟩
            · have hq : ¬ 1 ≤ m.q := by omega
              have hdq : decide (1 ≤ m.q) = false := decide_eq_false hq
              subst hm0
              have x3 := HX8.out.blk.cell 3
              have HCR := hid (crash_d (c := cl) HS8.out.ma.disk (HSV.out.below HS8.out.below) HN6.out HS8.out.below.size (by have := HL20.out; have := HN6.out; omega))
              go_wp2_with fail
              go_fit HCR.out
              rintro e w9 ⟨rfl, M9, R9, hd, ht⟩
              have HS9 := hid (HS8.out.disk hd ht)
              have HX9 := hid (HX8.out.turns (MTurns.of_turns (b := b) ht))
              have HB9 := hid (HB8.out.turns (MTurns.of_turns (b := b) ht))
              clear hd ht HCR HS8 HX8 HB8
              have h9 := HS9.out.open_ HKC.out HMC.out
              rw [show bst mo0.b = ⟨#[]⟩ from rfl, show (mo0.e : Int) = 121 from rfl] at h9
              have HOP := hid h9
              clear h9 x3
              go_wp2_with fail
              go_fit HOP.out
              rintro e w10 ⟨b10, rfl, hst, hb10⟩
              have HS10 := hid hst
              have y0 := (HB9.out.step hb10).blk.cell 0
              clear hst hb10 HOP HS9
              go_wp2_with fail
              go_roundw
              case rel => exact ⟨b10, j + 1, M9, R9, _, mo0, rfl, rfl, rfl, by go_num, by omega, by omega, HS10, hid ⟨HKC.out, HMC.out, by show 0 ≤ j + 1; omega⟩⟩
              case measure => simp [intOf]; omega
            · have hdq : decide (1 ≤ m.q) = true := decide_eq_true hq1
              have x3 := HX8.out.blk.cell 3
              have HCR := hid (crash_d (c := cl) HS8.out.ma.disk (HSV.out.below HS8.out.below) HN6.out HS8.out.below.size (by have := HL20.out; have := HN6.out; omega))
              go_wp2_with fail
              go_fit HCR.out
              rintro e w9 ⟨rfl, M9, R9, hd, ht⟩
              have HS9 := hid (HS8.out.disk hd ht)
              have HX9 := hid (HX8.out.turns (MTurns.of_turns (b := b) ht))
              have HB9 := hid (HB8.out.turns (MTurns.of_turns (b := b) ht))
              clear hd ht HCR HS8 HX8 HB8
              have h9 := HS9.out.open_ HKC.out HMC.out
              rw [he0, show ((0 : Nat) : Int) = 0 from rfl] at h9
              clear he0 hq1
              have HOP := hid h9
              clear h9 x3
              go_wp2_with fail
              go_fit HOP.out
              rintro e w10 ⟨b10, rfl, hst, hb10⟩
              have HS10 := hid hst
              have y0 := (HB9.out.step hb10).blk.cell 0
              clear hst hb10 HOP HS9
              go_wp2_with fail
              go_roundw
              case rel => exact ⟨b10, j + 1, M9, R9, _, m, rfl, rfl, by rw [hdq], by go_num, by omega, by omega, HS10, hid ⟨HKC.out, HMC.out, by have := HQJ.out; omega⟩⟩
              case measure => simp [intOf]; omega
          · have HMC := hid hmc
            clear hmc
            have x3 := HX8.out.blk.cell 3
            have HCR := hid (crash_d (c := cl) HS8.out.ma.disk (HSV.out.below HS8.out.below) HN6.out HS8.out.below.size (by have := HL20.out; have := HN6.out; omega))
            go_wp2_with fail
            go_fit HCR.out
            rintro e w9 ⟨rfl, M9, R9, hd, ht⟩
            have HS9 := hid (HS8.out.disk hd ht)
            have HX9 := hid (HX8.out.turns (MTurns.of_turns (b := b) ht))
            have HB9 := hid (HB8.out.turns (MTurns.of_turns (b := b) ht))
            clear hd ht HCR HS8 HX8 HB8
            have h9 := HS9.out.open_ HKC.out HMC.out
            rw [show (m.next bod).b = bod from rfl, show ((m.next bod).e : Int) = 0 from rfl] at h9
            have HOP := hid h9
            clear h9 x3
            go_wp2_with fail
            go_fit HOP.out
            rintro e w10 ⟨b10, rfl, hst, hb10⟩
            have HS10 := hid hst
            have y0 := (HB9.out.step hb10).blk.cell 0
            clear hst hb10 HOP HS9

            by_cases hq : 1 ≤ m.q
            · have hdq : decide (1 ≤ m.q) = true := decide_eq_true hq
              by_cases hbb : bod = m.b
              · have hbq : bst bod = bst m.b := by rw [hbb]
                go_wp2_with fail
                go_roundw
                case rel => exact ⟨b10, j + 1, M9, R9, _, m.next bod, rfl, by show Value.string _ = Value.string (bst bod); rw [hbq], by rw [decide_eq_true (show 1 ≤ (m.next bod).q from Nat.succ_le_succ (Nat.zero_le _))], by go_num, by omega, by omega, HS10, hid ⟨HKC.out, HMC.out, by have := HQJ.out; show m.q + 1 ≤ j + 1; omega⟩⟩
                case measure => simp [intOf]; omega
              · have hbq : ¬ bst bod = bst m.b := fun h => hbb (by have := congrArg (fun x => x.data.toList) h; simpa [bst] using this)
                have t1 := bst_toList bod
                have t2 := bst_toList m.b
                have hbr : ¬ m.b = bod := fun h => hbb h.symm
                go_wp2_with fail
                go_roundw
                case rel => exact ⟨b10, j + 1, M9, R9, _, m.next bod, rfl, rfl, by rw [decide_eq_true (show 1 ≤ (m.next bod).q from Nat.succ_le_succ (Nat.zero_le _))], by go_num, by omega, by omega, HS10, hid ⟨HKC.out, HMC.out, by have := HQJ.out; show m.q + 1 ≤ j + 1; omega⟩⟩
                case measure => simp [intOf]; omega
            · have hdq : decide (1 ≤ m.q) = false := decide_eq_false hq
              go_wp2_with fail
              go_roundw
              case rel => exact ⟨b10, j + 1, M9, R9, _, m.next bod, rfl, rfl, by rw [decide_eq_true (show 1 ≤ (m.next bod).q from Nat.succ_le_succ (Nat.zero_le _))], by go_num, by omega, by omega, HS10, hid ⟨HKC.out, HMC.out, by have := HQJ.out; show m.q + 1 ≤ j + 1; omega⟩⟩
              case measure => simp [intOf]; omega
    · have hst : ¬ j < n ∨ j < n ∧ ¬ j < 40 := by omega
      clear hlt
      rcases hst with hlt1 | ⟨hlt1, hlt2⟩
      · go_wp2_with fail
        go_ret
        exact ⟨rfl, HS.out.below⟩
      · go_wp2_with fail
        go_ret
        exact ⟨rfl, HS.out.below⟩

end Go.Proofs.YtngclmjefadokaaDoor
