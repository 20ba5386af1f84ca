/-
  CacheKeeps: the walk.
-/
import Derived.Test.YtdhjjjagjkencaaCaKeep
import Derived.Test.YtdhjjjagjkencaaCaAwake
import Derived.Deep.CutRange
import Derived.Deep.CutBlock
namespace Go.Proofs.Ytdhjjjagjkencaa
open Go Go.RowKit

set_option maxHeartbeats 40000000 in
set_option maxRecDepth 100000 in
theorem cakeeps_walk (r : Nat) (hr : r < 256) (id : Int) {A : Option Addr} {m c B : Nat} {xs : List Ac} {w : World} (hA : GAt eAct w B A xs) (hm : m = xs.length) (hB : B ≤ w.heap.size) :
    Calls Try.prog 4 #[.int .u8 (r : Int), .slice A m c, .int .i64 id] w fun e w' => e = .returned (.bool true) ∧ Below w.heap.size w w' := by
  have HA := hid (And.intro hA hB)
  have HM := hid hm
  have HAW := hid (fun W => awake_yes W)
  obtain ⟨R, hR⟩ : ∃ R, 1 + r % 20 = R := ⟨_, rfl⟩
  have hR0 : R ≤ 20 := by omega
  have hR1 : 1 ≤ R := by omega
  have hR5 : R ≤ 100000 := by omega
  have hR6 : R ≤ 1000000 := by omega
  have HNN := hid (co_new (base := w.heap.size) (w := w) (R : Int) (Nat.le_refl _) (by omega))
  rw [Int.toNat_natCast] at HNN
  have hk1 : IntKind.i64.wrap (r : Int) = (r : Int) := by rw [IntKind.wrap_i64]; omega
  have HK5 := hid (show (1 : Int) + (r : Int) % 20 = (R : Int) by omega)
  clear hA hm
  go_enter Try.func4, Try.ntmps4
  go_upto_region 2 with fail
  rw [HK5.out]
  go_wp2_with fail
  go_fit HNN.out
  rintro e w1 ⟨cb, rfl, hc1, hb1⟩
  have HC1 := hid hc1
  have HB1 := hid hb1
  clear hc1 hb1 HNN hk1 HK5
  go_wp2_with fail
  go_fit (HAW.out w1)
  rintro e w2 ⟨rfl, hb⟩
  have HC3 := hid (HC1.out.step hb)
  have HB3 := hid (below_step HB1.out hb)
  clear hb HC1 HB1
  go_wp2_with fail
  go_loopw [10, 11, 12, 13] (fun s t u i wr => ∃ (j : Nat) (sb : List UInt8) (th dr : Bool) (l : List En), s = .string (bst sb) ∧ t = .bool th ∧ u = .bool dr ∧ i = .int .i64 (j : Int) ∧ j ≤ m ∧ j ≤ 80 ∧ Kept (CO w.heap.size wr cb R l) ∧ Kept (l.length ≤ R) ∧ Kept (Below w.heap.size w wr) ∧ Kept (KR id l th sb dr)) (fun _ _ _ i _ => m - (intOf i).toNat)
  case atStart => exact ⟨0, [], false, false, [], rfl, rfl, rfl, rfl, Nat.zero_le _, Nat.zero_le _, HC3, hid (Nat.zero_le _), HB3, hid (KR.empty id [] false)⟩
  case round =>
    obtain ⟨j, sb, th, dr, l, rfl, rfl, rfl, rfl, hj, hj80, HC, HF2, HB, HKR⟩ := hrel
    clear HC3 HB3
    have HND := hid HC.out.nd
    by_cases hlt : j < m ∧ j < 80
    · obtain ⟨hlt1, hlt2⟩ := hlt
      obtain ⟨b, off, x, rfl, hb, hx, c0, c1, c2, c3, c4⟩ := act_get (GAt.below HA.out.1 (HB.out.mono HA.out.2)) (i := j) (by rw [← HM.out]; exact hlt1)
      obtain ⟨xk, xi, xm, xb, xd⟩ := x
      dsimp only at c0 c1 c2 c3 c4
      have hbl : b < wr.heap.size := Nat.lt_of_lt_of_le hb (Nat.le_trans HA.out.2 HB.out.size)
      have hb1 := (Below.refl wr.heap.size wr).alloc (Nat.le_refl _) (.cells #[.int .i64 xk, .int .i64 xi, .int .i64 xm, .string (bst xb), .bool xd] 30)
      obtain ⟨S, hS1, hS2⟩ := HC.out
      have HXS := hid (show ¬ S wr.heap.size from fun h => by have := hS1.low _ h; omega)
      have HOW := hid hS2
      have HC2 := hid (hS1.step hb1)
      have HB2 := hid (below_step HB.out hb1)
      have HX2 := hid (Blk.new wr 30 #[.int .i64 xk, .int .i64 xi, .int .i64 xm, .string (bst xb), .bool xd])
      clear hb hx hb1 HC HB hS1 hS2
      go_upto_region 10 with fail
      clear c0 c1 c2 c3 c4 hbl
      generalize wr.alloc (.cells #[.int .i64 xk, .int .i64 xi, .int .i64 xm, .string (bst xb), .bool xd] 30) = w2' at *
      obtain ⟨gx, hgx⟩ : ∃ g, wr.heap.size = g := ⟨_, rfl⟩
      rw [hgx] at HX2 HXS ⊢
      clear hgx
      have y0 := HX2.out.cell 0
      go_upto_block 2 with fail
      go_cut [10, 11, 12] from 40 to 145 (fun s t u wx => ∃ (sb3 : List UInt8) (th3 dr3 : Bool) (l3 : List En), s = .string (bst sb3) ∧ t = .bool th3 ∧ u = .bool dr3 ∧ Kept (CO w.heap.size wx cb R l3) ∧ Kept (l3.length ≤ R) ∧ Kept (Below w.heap.size w wx) ∧ Kept (KR id l3 th3 sb3 dr3))
      case first =>
        by_cases hk0 : xk = 0
        · subst hk0
          have q0 := HX2.out.cell 0
          have q1 := HX2.out.cell 1
          have q2 := HX2.out.cell 2
          have q3 := HX2.out.cell 3
          have q4 := HX2.out.cell 4
          have HLP := hid (put_any xi xb xd HC2.out HF2.out)
          go_wp2_with fail
          go_fit HLP.out
          rintro e w3 ⟨hp, hc3, hw3⟩
          obtain rfl := putA_uni hp
          obtain ⟨gv, hgv⟩ : ∃ gv, goV R (inE xi xb xd l) = gv := ⟨_, rfl⟩
          obtain ⟨gq, hgq⟩ : ∃ gq, ((inE xi xb xd l)[R]?).isSome = gq := ⟨_, rfl⟩
          rw [hgv, hgq]
          have HG := hid (And.intro hgv hgq)
          have HK3 := hid (KR.ins (i := xi) (b' := xb) (d' := xd) HKR.out HND.out)
          have HC3 := hid (show CO w.heap.size w3 cb R (putE R xi xb xd l) from ⟨_, hc3, fun k hk => hk.elim (HOW.out k) (fun h => Nat.le_trans HB2.out.size h.1)⟩)
          have HB3 := hid (HB2.out.trans (hw3.below HOW.out HB2.out.size))
          have HX3 := hid (HX2.out.within hw3 HXS.out)
          have hb4 := (Below.refl w3.heap.size w3).alloc (Nat.le_refl _) (.cells #[.int .i64 gv.i, .string (bst gv.b), .bool gv.d] 32)
          have HC4 := hid (HC3.out.step hb4)
          have HX4 := hid (HX3.out.below hb4 HX3.out.lt)
          have HF4 := hid (Blk.new w3 32 #[.int .i64 gv.i, .string (bst gv.b), .bool gv.d])
          have HB4 := hid (below_step HB3.out hb4)
          clear hp hgv hgq hw3 hb4 hc3 HLP q0 q1 q2 q3 q4
          unfold En.val
          go_upto_region 13 with fail
          clear HC3 HX3 HB3
          generalize w3.alloc (.cells #[.int .i64 gv.i, .string (bst gv.b), .bool gv.d] 32) = w4 at *
          generalize w3.heap.size = gf at *
          have q1 := HX4.out.cell 1
          have q3 := HX4.out.cell 3
          have q4 := HX4.out.cell 4
          go_upto_if 72 with fail
          go_cut [10, 11, 12] from 40 to 82 (fun s t u wx => s = .string (bst (if xi = id then xb else sb)) ∧ t = .bool (th || decide (xi = id)) ∧ u = .bool (if xi = id then (xd || (th && dr)) else dr) ∧ wx = w4)
          case first =>
            by_cases hk : xi = id
            · subst hk
              cases xd <;> cases th <;> cases dr <;> (go_wp2_with fail; go_meet; case rel => exact ⟨by simp, by simp, by simp, rfl⟩)
            · have hk' : (xi == id) = false := by simpa using hk
              go_wp2_with fail
              go_meet
              case rel => exact ⟨by rw [if_neg hk], by simp [hk], by rw [if_neg hk], rfl⟩
          case rest =>
            obtain ⟨rfl, rfl, rfl, rfl⟩ := hcut
            obtain ⟨sb1, hsb1⟩ : ∃ x, (if xi = id then xb else sb) = x := ⟨_, rfl⟩
            obtain ⟨th1, hth1⟩ : ∃ x, (th || decide (xi = id)) = x := ⟨_, rfl⟩
            obtain ⟨dr1, hdr1⟩ : ∃ x, (if xi = id then (xd || (th && dr)) else dr) = x := ⟨_, rfl⟩
            rw [hsb1, hth1, hdr1] at HK3 ⊢
            clear hsb1 hth1 hdr1 q1 q3 q4
            have f0 := HF4.out.cell 0
            have f1 := HF4.out.cell 1
            have f2 := HF4.out.cell 2
            by_cases hg : gq = true ∧ gv.i = id
            · obtain ⟨hg1, hg2⟩ := hg
              have hgone := KR.gone HND.out HF2.out HK3.out (by rw [HG.out.2]; exact hg1) (by rw [HG.out.1]; exact hg2)
              rw [HG.out.1] at hgone
              obtain ⟨⟨e1, e2, e3⟩, hk9⟩ := hgone
              have HK9 := hid hk9
              obtain ⟨gi, gb, gd⟩ := gv
              dsimp only at hg2 e2 e3 f0 f1 f2
              subst hg1 hg2 e1 e2 e3
              clear hk9
              cases gd <;> (go_wp2_with fail; go_meet; case rel => exact ⟨gb, false, _, _, rfl, rfl, rfl, HC4, hid putE_len, HB4, HK9⟩)
            · have HK9 := hid (KR.stays HND.out HF2.out HK3.out (by rw [HG.out.1, HG.out.2]; exact hg))
              cases gq with
              | false =>
                go_wp2_with fail
                go_meet
                case rel => exact ⟨sb1, th1, dr1, _, rfl, rfl, rfl, HC4, hid putE_len, HB4, HK9⟩
              | true =>
                have hgi : ¬ gv.i = id := fun e => hg ⟨rfl, e⟩
                have hgi' : (gv.i == id) = false := by simpa using hgi
                go_wp2_with fail
                go_meet
                case rel => exact ⟨sb1, th1, dr1, _, rfl, rfl, rfl, HC4, hid putE_len, HB4, HK9⟩
        · by_cases hk1 : xk = 1
          · subst hk1
            have q0 := HX2.out.cell 0
            have q1 := HX2.out.cell 1
            have q2 := HX2.out.cell 2
            have q3 := HX2.out.cell 3
            have q4 := HX2.out.cell 4
            have HLP := hid (get_any xi HC2.out)
            go_wp2_with fail
            go_fit HLP.out
            rintro e w3 ⟨hp, hc3, hw3⟩
            obtain rfl := gotA_uni hp
            have HX3 := hid (HX2.out.within hw3 HXS.out)
            have HC3 := hid (show CO w.heap.size w3 cb R (getE xi l) from ⟨S, hc3, HOW.out⟩)
            have HB3 := hid (HB2.out.trans (hw3.below HOW.out HB2.out.size))
            have HF3 := hid (show (getE xi l).length ≤ R by rw [getE_len]; exact HF2.out)
            have HK3 := hid (HKR.out.mem (l' := getE xi l) (mem_getE HND.out))
            have q1 := HX3.out.cell 1
            clear hp hc3 hw3 HLP q0 q2 q3 q4
            by_cases hk : xi = id
            · subst hk
              obtain ⟨ht, hf⟩ := HKR.out.got
              cases th with
              | true =>
                obtain ⟨e1, e2⟩ := ht rfl
                rw [e1, e2]
                clear ht hf e1 e2
                go_wp2_with fail
                go_meet
                case rel => exact ⟨sb, true, dr, _, rfl, rfl, rfl, HC3, HF3, HB3, HK3⟩
              | false =>
                have e1 := hf rfl
                rw [e1]
                clear ht hf e1
                go_wp2_with fail
                go_meet
                case rel => exact ⟨sb, false, dr, _, rfl, rfl, rfl, HC3, HF3, HB3, HK3⟩
            · have hk' : (xi == id) = false := by simpa using hk
              go_wp2_with fail
              go_meet
              case rel => exact ⟨sb, th, dr, _, rfl, rfl, rfl, HC3, HF3, HB3, HK3⟩
          · by_cases hk2 : xk = 2
            · subst hk2
              have q0 := HX2.out.cell 0
              have q1 := HX2.out.cell 1
              have q2 := HX2.out.cell 2
              have q3 := HX2.out.cell 3
              have q4 := HX2.out.cell 4
              have HLP := hid (drop1_any xi HC2.out (Nat.le_trans HF2.out hR6))
              have HX1' := hid (HX2.out.alloc (.cells #[.int .i64 xi] 3))
              have HB1' := hid (below_step HB2.out ((Below.refl w2'.heap.size w2').alloc (Nat.le_refl _) (.cells #[.int .i64 xi] 3)))
              go_wp2_with fail
              go_fit HLP.out
              rintro e w3 ⟨rfl, hc3, hw3⟩
              have HX3 := hid (HX1'.out.within hw3 HXS.out)
              have HC3 := hid (show CO w.heap.size w3 cb R (dropE [xi] l) from ⟨S, hc3, HOW.out⟩)
              have HB3 := hid (HB1'.out.trans (hw3.below HOW.out HB1'.out.size))
              have HF3 := hid (show (dropE [xi] l).length ≤ R from Nat.le_trans (by have := dropE_len [xi] l; omega) HF2.out)
              have HK3 := hid (HKR.out.drop (i := xi) HND.out)
              have q1 := HX3.out.cell 1
              clear hc3 hw3 HLP HX1' HB1' q0 q2 q3 q4
              by_cases hk : xi = id
              · subst hk
                rw [if_pos rfl] at HK3
                go_wp2_with fail
                go_meet
                case rel => exact ⟨sb, false, dr, _, rfl, rfl, rfl, HC3, HF3, HB3, HK3⟩
              · have hk' : (xi == id) = false := by simpa using hk
                rw [if_neg hk] at HK3
                go_wp2_with fail
                go_meet
                case rel => exact ⟨sb, th, dr, _, rfl, rfl, rfl, HC3, HF3, HB3, HK3⟩
            · by_cases hk3 : xk = 3
              · subst hk3
                have HLP := hid (dirty_any HC2.out (Nat.le_trans HF2.out hR5))
                go_wp2_with fail
                go_fit HLP.out
                rintro e w3 ⟨A3, n3, c3, rfl, he3, hc3, hw3⟩
                have HC3 := hid (show CO w.heap.size w3 cb R (cleanE l) from ⟨S, hc3, HOW.out⟩)
                have HB3 := hid (HB2.out.trans (hw3.below HOW.out HB2.out.size))
                have HF3 := hid (show (cleanE l).length ≤ R by rw [cleanE_len]; exact HF2.out)
                have HK3 := hid HKR.out.clean
                clear he3 hc3 hw3 HLP
                go_wp2_with fail
                go_meet
                case rel => exact ⟨sb, th, false, _, rfl, rfl, rfl, HC3, HF3, HB3, HK3⟩
              · have HCO := hid (show CO w.heap.size w2' cb R l from ⟨S, HC2.out, HOW.out⟩)
                go_wp2_with fail
                go_meet
                case rel => exact ⟨sb, th, dr, l, rfl, rfl, rfl, HCO, HF2, HB2, HKR⟩
      case rest =>
        obtain ⟨sb3, th3, dr3, l3, rfl, rfl, rfl, HC3, HF3, HB3, HK3⟩ := hcut
        obtain ⟨w3, rfl⟩ : ∃ w3, w3 = wc := ⟨_, rfl⟩
        have HLE := hid (co_len HC3.out)
        have hl3 := HF3.out
        have hl4 : ¬ (R : Int) < (l3.length : Int) := by omega
        clear HC2 HF2 HB2 HKR HND HX2 HXS HOW
        go_wp2_with fail
        go_fit HLE.out
        rintro e w6 ⟨rfl, hw⟩
        rw [hw]
        clear hw w6
        go_wp2_with fail
        go_roundw
        case rel => exact ⟨j + 1, sb3, th3, dr3, l3, rfl, rfl, rfl, by go_num, by omega, by omega, HC3, HF3, HB3, HK3⟩
        case measure => simp [intOf]; omega
    · have HGF := hid (co_get id HC.out HB.out.size)
      obtain ⟨ht, hf⟩ := HKR.out.got
      have hln : ¬ ((j : Int) < (m : Int) ∧ (j : Int) < 80) := by omega
      cases th with
      | true =>
        obtain ⟨e1, e2⟩ := ht rfl
        have HE := hid (And.intro e1 e2)
        clear ht hf e1 e2
        by_cases hl1 : j < m
        · have hl2 : ¬ (j : Int) < 80 := by omega
          have hl3 : (j : Int) < (m : Int) := by omega
          go_wp2_with fail
          go_fit HGF.out
          rintro e w3 ⟨hp, hc3, hb3⟩
          obtain rfl := gotA_uni hp
          rw [HE.out.1, HE.out.2]
          have HB3 := hid (HB.out.trans hb3)
          clear hp hc3 hb3
          go_wp2_with fail
          go_ret
          exact ⟨rfl, HB3.out⟩
        · have hl3 : ¬ (j : Int) < (m : Int) := by omega
          go_wp2_with fail
          go_fit HGF.out
          rintro e w3 ⟨hp, hc3, hb3⟩
          obtain rfl := gotA_uni hp
          rw [HE.out.1, HE.out.2]
          have HB3 := hid (HB.out.trans hb3)
          clear hp hc3 hb3
          go_wp2_with fail
          go_ret
          exact ⟨rfl, HB3.out⟩
      | false =>
        have HE := hid (hf rfl)
        clear ht hf
        by_cases hl1 : j < m
        · have hl2 : ¬ (j : Int) < 80 := by omega
          have hl3 : (j : Int) < (m : Int) := by omega
          go_wp2_with fail
          go_fit HGF.out
          rintro e w3 ⟨hp, hc3, hb3⟩
          obtain rfl := gotA_uni hp
          rw [HE.out]
          have HB3 := hid (HB.out.trans hb3)
          clear hp hc3 hb3
          go_wp2_with fail
          go_ret
          exact ⟨rfl, HB3.out⟩
        · have hl3 : ¬ (j : Int) < (m : Int) := by omega
          go_wp2_with fail
          go_fit HGF.out
          rintro e w3 ⟨hp, hc3, hb3⟩
          obtain rfl := gotA_uni hp
          rw [HE.out]
          have HB3 := hid (HB.out.trans hb3)
          clear hp hc3 hb3
          go_wp2_with fail
          go_ret
          exact ⟨rfl, HB3.out⟩

theorem cakeeps_int (a0 id : Int) {A : Option Addr} {m c B : Nat} {xs : List Ac} {w : World} (h0 : 0 ≤ a0 ∧ a0 < 256) (hA : GAt eAct w B A xs) (hm : m = xs.length) (hB : B ≤ w.heap.size) :
    Calls Try.prog 4 #[.int .u8 a0, .slice A m c, .int .i64 id] w fun e w' => e = .returned (.bool true) ∧ Below w.heap.size w w' := by
  obtain ⟨r, rfl⟩ : ∃ r : Nat, a0 = (r : Int) := ⟨a0.toNat, by omega⟩
  exact cakeeps_walk r (by omega) id hA hm hB

end Go.Proofs.Ytdhjjjagjkencaa
