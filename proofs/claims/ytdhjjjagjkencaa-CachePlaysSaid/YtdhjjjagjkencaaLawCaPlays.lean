/-
  CachePlays: the walk.
-/
import Derived.Test.YtdhjjjagjkencaaCaPS
import Derived.Test.YtdhjjjagjkencaaCaAwake
import Derived.Test.YtdhjjjagjkencaaStrCut
import Derived.Deep.CutRange
import Derived.Deep.CutBlock
namespace Go.Proofs.Ytdhjjjagjkencaa
open Go Go.RowKit

theorem ks_new (w : World) (a b : Int) : GAt eI64 (w.alloc (.cells #[.int .i64 a, .int .i64 b] 3)) (w.alloc (.cells #[.int .i64 a, .int .i64 b] 3)).heap.size (some ⟨w.heap.size, 0, none⟩) [a, b] := fun _ => by
  have hb := Blk.new w 3 #[.int .i64 a, .int .i64 b]
  refine ⟨_, _, rfl, hb.lt, fun i x j u hx hu => ?_⟩
  have hj : j = 0 := by
    match j with
    | 0 => rfl
    | j + 1 => simp [eI64] at hu
  subst hj
  have hu' : u = .int .i64 x := by simpa [eI64] using hu.symm
  subst hu'
  match i with
  | 0 => obtain rfl : a = x := by simpa using hx
         exact hb.cell 0
  | 1 => obtain rfl : b = x := by simpa using hx
         exact hb.cell 1
  | i + 2 => simp at hx

set_option maxHeartbeats 40000000 in
set_option maxRecDepth 100000 in
theorem caplays_walk (r : Int) {A : Option Addr} {m c B : Nat} {xs : List Ac} {w : World} (hA : GAt eAct w B A xs) (hm : m = xs.length) (hB : B ≤ w.heap.size) :
    Calls Try.prog 3 #[.int .i64 r, .slice A m c] w fun e w' => e = .returned (.bool true) ∧ Below w.heap.size w w' := by
  have HA := hid (And.intro hA hB)
  have HM := hid hm
  have HAW := hid (fun W => awake_yes W)
  have HNW := hid (new_any r w)
  clear hA hm
  by_cases hbad : r < 1 ∨ 1024 < r
  · have HNN := hid (show Calls Try.prog 7 #[.int .i64 r] w fun e w' => e = .returned (.tuple #[.pointer none, .int .i64 110]) ∧ w' = w from HNW.out.mono fun e w' h => by unfold NewA at h; rw [if_pos hbad] at h; exact h)
    clear HNW
    rcases hbad with hb1 | hb1
    all_goals
      try have hb2 : ¬ r < 1 := by omega
      go_enter Try.func3, Try.ntmps3
      go_wp2_with fail
      go_fit HNN.out
      rintro e w' ⟨rfl, hw⟩
      rw [hw]
      clear hw w'
      go_wp2_with fail
      go_fit (HAW.out w)
      rintro e w2 ⟨rfl, hb⟩
      have HB := hid (hb.alloc hb.size (.cells #[] 32))
      clear hb
      go_wp2_with fail
      generalize w2.alloc (.cells #[] 32) = w3 at *
      go_loopw [8, 9] (fun _ i wr => i = .int .i64 0 ∧ wr = w3) (fun _ _ _ => 0)
      case atStart => exact ⟨rfl, rfl⟩
      case round =>
        obtain ⟨rfl, rfl⟩ := hrel
        by_cases hl0 : 0 < m
        · have hl1 : (0 : Int) < (m : Int) := by omega
          go_wp2_with fail
          go_ret
          exact ⟨rfl, HB.out⟩
        · have hl1 : ¬ (0 : Int) < (m : Int) := by omega
          go_wp2_with fail
          go_ret
          exact ⟨rfl, HB.out⟩
  · have hb1 : ¬ r < 1 := by omega
    have hb2 : ¬ 1024 < r := by omega
    have HNN := hid (show Calls Try.prog 7 #[.int .i64 r] w fun e w' => ∃ cb, e = .returned (.tuple #[(.pointer (some ⟨cb, 0, none⟩)), .int .i64 0]) ∧ CA (fun k => w.heap.size ≤ k ∧ k < w'.heap.size) w' cb r.toNat [] ∧ Below w.heap.size w w' from HNW.out.mono fun e w' h => by unfold NewA at h; rw [if_neg hbad] at h; exact h)
    clear HNW hbad
    obtain ⟨R, rfl⟩ : ∃ R : Nat, r = (R : Int) := ⟨r.toNat, by omega⟩
    rw [Int.toNat_natCast] at HNN
    have hR : R ≤ 1024 := by omega
    have hR6 : R ≤ 1000000 := by omega
    go_enter Try.func3, Try.ntmps3
    go_wp2_with fail
    go_fit HNN.out
    rintro e w1 ⟨cb, rfl, hc1, hb1'⟩
    have HC1 := hid hc1
    have HB1 := hid hb1'
    clear hc1 hb1' HNN
    go_wp2_with fail
    go_fit (HAW.out w1)
    rintro e w2 ⟨rfl, hb⟩
    have hb3 := hb.alloc hb.size (.cells #[] 32)
    have HP3 := hid (show PS w (w2.alloc (.cells #[] 32)) (fun k => w.heap.size ≤ k ∧ k < w1.heap.size) cb R (some ⟨w2.heap.size, 0, none⟩) 0 0 [] from
      ⟨HC1.out.step hb3, fun k hk => hk.1, ⟨GAt.nil, rfl, Nat.le_refl _, Nat.zero_le _, Nat.le_refl _⟩, In.nil, below_step HB1.out hb3, Nat.zero_le _⟩)
    clear hb hb3 HC1 HB1
    go_wp2_with fail
    generalize w2.alloc (.cells #[] 32) = w3 at *
    go_loopw [8, 9] (fun s i wr => ∃ (j n c' : Nat) (A' : Option Addr) (S : Nat → Prop) (l : List En), s = .slice A' n c' ∧ i = .int .i64 (j : Int) ∧ j ≤ m ∧ j ≤ 80 ∧ Kept (PS w wr S cb R A' n c' l)) (fun _ i _ => m - (intOf i).toNat)
    case atStart => exact ⟨0, 0, 0, _, _, [], rfl, rfl, Nat.zero_le _, Nat.zero_le _, HP3⟩
    case round =>
      obtain ⟨j, n, c', A', S, l, rfl, rfl, hj, hj80, HP⟩ := hrel
      clear HP3
      by_cases hlt : j < m ∧ j < 80
      · obtain ⟨hlt1, hlt2⟩ := hlt
        obtain ⟨b, off, x, rfl, hb, hx, c0, c1, c2, c3, c4⟩ := act_get (GAt.below HA.out.1 (HP.out.below.mono HA.out.2)) (i := j) (by rw [← HM.out]; exact hlt1)
        obtain ⟨xk, xi, xm, xb, xd⟩ := x
        dsimp only at c0 c1 c2 c3 c4
        have hbl : b < wr.heap.size := Nat.lt_of_lt_of_le hb (Nat.le_trans HA.out.2 HP.out.below.size)
        have hb1 := (Below.refl wr.heap.size wr).alloc (Nat.le_refl _) (.cells #[.int .i64 xk, .int .i64 xi, .int .i64 xm, .string (bst xb), .bool xd] 30)
        have HP1 := hid (HP.out.step hb1)
        have HX1 := hid (Blk.new wr 30 #[.int .i64 xk, .int .i64 xi, .int .i64 xm, .string (bst xb), .bool xd])
        have HXS := hid (show ¬ S wr.heap.size from fun h => by have := HP.out.ca.low _ h; omega)
        have HXA := hid (show In (fun k => k ≠ wr.heap.size) A' l from In.weak (GAt.in_ HP.out.es.at_) (fun k hk => Nat.ne_of_lt hk))
        have HXW := hid (show w.heap.size ≤ wr.heap.size from HP.out.below.size)
        clear hb hx hb1 HP
        go_upto_region 10 with fail
        clear c0 c1 c2 c3 c4 hbl
        generalize wr.alloc (.cells #[.int .i64 xk, .int .i64 xi, .int .i64 xm, .string (bst xb), .bool xd] 30) = w1' at *
        obtain ⟨gx, hgx⟩ : ∃ g, wr.heap.size = g := ⟨_, rfl⟩
        rw [hgx] at HX1 HXS HXA HXW ⊢
        clear hgx
        have y0 := HX1.out.cell 0
        have y1 := HX1.out.cell 1
        have y2 := HX1.out.cell 2
        have y3 := HX1.out.cell 3
        have y4 := HX1.out.cell 4
        have y5 := HX1.out.free 3
        have hsz := bst_size xb
        go_upto_if 72 with fail
        go_cut [] from 69 to 76 (fun wx => ∃ b', Kept (XBlk wx gx ⟨xk, xi, xm, b', xd⟩) ∧ Kept (PS w wx S cb R A' n c' l))
        case first =>
          by_cases h100 : 100 < xb.length
          · have hs := bstTake xb 100
            have hb' : Blk (w1'.setCell ⟨gx, 3, none⟩ (.string (bst (xb.take 100)))) gx 30 #[.int .i64 xk, .int .i64 xi, .int .i64 xm, .string (bst (xb.take 100)), .bool xd] := by
              have := HX1.out.set 3 (.string (bst (xb.take 100)))
              simpa using this
            have HX2 := hid hb'
            have HP2 := hid (HP1.out.set (i := 3) HXW.out HXS.out HXA.out (.string (bst (xb.take 100))))
            clear hb'
            go_wp2_with fail
            go_meet
            case rel => exact ⟨xb.take 100, HX2, HP2⟩
          · go_wp2_with fail
            go_meet
            case rel => exact ⟨xb, HX1, HP1⟩
        case rest =>
          obtain ⟨b', HX2, HP2⟩ := hcut
          obtain ⟨w2', rfl⟩ : ∃ w2', w2' = wc := ⟨_, rfl⟩
          clear HX1 HP1 y0 y1 y2 y3 y4 y5 hsz HXA
          have y0 := HX2.out.cell 0
          go_upto_block 2 with fail
          go_cut [8] from 77 to 174 (fun s wx => ∃ (n3 c3 : Nat) (A3 : Option Addr) (S3 : Nat → Prop) (l3 : List En), s = .slice A3 n3 c3 ∧ Kept (PS w wx S3 cb R A3 n3 c3 l3))
          case first =>
            by_cases hk0 : xk = 0
            · subst hk0
              have q0 := HX2.out.cell 0
              have q1 := HX2.out.cell 1
              have q2 := HX2.out.cell 2
              have q3 := HX2.out.cell 3
              have q4 := HX2.out.cell 4
              have HDP := hid (refPutE_any (k := xi) (b := b') (d := xd) (R := R) HP2.out.es (Nat.le_trans (by have := HP2.out.es.len; have := HP2.out.few; omega) hR6) hR6)
              go_wp2_with fail
              go_fit HDP.out
              rintro e w3 ⟨hp, hb3⟩
              obtain ⟨A3, n3, c3, rfl, he3, hi3⟩ := putGot_uni hp
              have HIL := hid (show (inE xi b' xd l).take R = putE R xi b' xd l from rfl)
              rw [show (inE xi b' xd l).take R = putE R xi b' xd l from rfl] at he3 hi3
              obtain ⟨gv, hgv⟩ : ∃ gv, goV R (inE xi b' xd l) = gv := ⟨_, rfl⟩
              obtain ⟨gq, hgq⟩ : ∃ gq, ((inE xi b' xd l)[R]?).isSome = gq := ⟨_, rfl⟩
              rw [hgv, hgq]
              have HG := hid (And.intro hgv hgq)
              have HI3 := hid (show In (fun k => ¬ S k) A3 (putE R xi b' xd l) from In.weak hi3 (fun k hk hs => by have := HP2.out.ca.low k hs; omega))
              have HE3 := hid he3
              have HC3 := hid (HP2.out.ca.step hb3)
              have HX3 := hid (HX2.out.below hb3 HX2.out.lt)
              have HB3 := hid (below_step HP2.out.below hb3)
              have hb4 := (Below.refl w3.heap.size w3).alloc (Nat.le_refl _) (.cells #[.int .i64 gv.i, .string (bst gv.b), .bool gv.d] 32)
              have HE4 := hid ((HE3.out.below hb4 (Nat.le_refl _)).more hb4.size (Nat.le_refl _))
              have HC4 := hid (HC3.out.step hb4)
              have HX4 := hid (HX3.out.below hb4 HX3.out.lt)
              have HF4 := hid (Blk.new w3 32 #[.int .i64 gv.i, .string (bst gv.b), .bool gv.d])
              have HFO := hid (show ∀ k, S k → k ≠ w3.heap.size from fun k hk e => by have := HC3.out.low k hk; omega)
              have HXO := hid (show ¬ S gx from HXS.out)
              have HB4 := hid (below_step HB3.out hb4)
              clear hp he3 hi3 hgv hgq hb3 hb4 HDP HIL q0 q1 q2 q3 q4
              unfold En.val
              go_upto_region 15 with fail
              clear HE3 HC3 HX3 HB3
              generalize w3.alloc (.cells #[.int .i64 gv.i, .string (bst gv.b), .bool gv.d] 32) = w4 at *
              generalize w3.heap.size = gf at *
              have q0 := HX4.out.cell 0
              have q1 := HX4.out.cell 1
              have q2 := HX4.out.cell 2
              have q3 := HX4.out.cell 3
              have q4 := HX4.out.cell 4
              have HLP := hid (put_any xi b' xd HC4.out HP2.out.few)
              go_wp2_with fail
              go_fit HLP.out
              rintro e w5 ⟨hp, hc5, hw5⟩
              obtain rfl := putA_uni hp
              rw [HG.out.1, HG.out.2]
              have HC5 := hid hc5
              have HE5 := hid (es_off HE4.out HI3.out hw5)
              have HX5 := hid (HX4.out.within hw5 HXO.out)
              have HF5 := hid (HF4.out.within hw5 (fun h => HFO.out gf h rfl))
              have HB5 := hid (HB4.out.trans (hw5.below HP2.out.own HB4.out.size))
              have HS5 := hid (show In (fun k => ¬ (S k ∨ (w4.heap.size ≤ k ∧ k < w5.heap.size))) A3 (putE R xi b' xd l) from fun b off e hl => by
                have h1 := HI3.out b off e hl
                have h2 := GAt.in_ HE4.out.at_ b off e hl
                rintro (h | h)
                · exact h1 h
                · omega)
              have HO5 := hid (show ∀ k, S k ∨ (w4.heap.size ≤ k ∧ k < w5.heap.size) → w.heap.size ≤ k from fun k hk => hk.elim (HP2.out.own k) (fun h => Nat.le_trans HB4.out.size h.1))
              have hb6 := (Below.refl w5.heap.size w5).alloc (Nat.le_refl _) (.cells #[.int .i64 gv.i, .string (bst gv.b), .bool gv.d] 32)
              have HP6 := hid (PS.step (⟨HC5.out, HO5.out, HE5.out, HS5.out, HB5.out, putE_len⟩ : PS w w5 _ cb R A3 n3 c3 (putE R xi b' xd l)) hb6)
              have HF6 := hid (HF5.out.below hb6 HF5.out.lt)
              have HG6 := hid (Blk.new w5 32 #[.int .i64 gv.i, .string (bst gv.b), .bool gv.d])
              clear hp hc5 hw5 hb6 HLP q0 q1 q2 q3 q4
              unfold En.val
              go_upto_region 17 with fail
              clear HC5 HE5 HX5 HF5 HB5 HS5 HO5 HE4 HC4 HX4 HF4 HFO HB4
              generalize w5.alloc (.cells #[.int .i64 gv.i, .string (bst gv.b), .bool gv.d] 32) = w6 at *
              generalize w5.heap.size = gg at *
              have f0 := HF6.out.cell 0
              have f1 := HF6.out.cell 1
              have f2 := HF6.out.cell 2
              have g0 := HG6.out.cell 0
              have g1 := HG6.out.cell 1
              have g2 := HG6.out.cell 2
              have hnq := fun W => neq_en gv gv W
              rw [decide_eq_true rfl] at hnq
              go_wp2_with fail
              go_meet
              case rel => exact ⟨n3, c3, A3, _, _, rfl, HP6⟩
            · by_cases hk1 : xk = 1
              · subst hk1
                have q0 := HX2.out.cell 0
                have q1 := HX2.out.cell 1
                have q2 := HX2.out.cell 2
                have q3 := HX2.out.cell 3
                have q4 := HX2.out.cell 4
                have HDP := hid (refGetE_any (k := xi) HP2.out.es (Nat.le_trans (by have := HP2.out.es.len; have := HP2.out.few; omega) hR6))
                go_wp2_with fail
                go_fit HDP.out
                rintro e w3 ⟨hp, hb3⟩
                obtain ⟨A3, n3, c3, rfl, he3, hi3⟩ := gotE_uni hp hb3 HP2.out.es HP2.out.off HP2.out.ca.low
                have HI3 := hid hi3
                have HE3 := hid he3
                have HC3 := hid (HP2.out.ca.step hb3)
                have HX3 := hid (HX2.out.below hb3 HX2.out.lt)
                have HB3 := hid (below_step HP2.out.below hb3)
                clear hp he3 hi3 hb3 HDP q0 q1 q2 q3 q4
                have q0 := HX3.out.cell 0
                have q1 := HX3.out.cell 1
                have q2 := HX3.out.cell 2
                have q3 := HX3.out.cell 3
                have q4 := HX3.out.cell 4
                have HLP := hid (get_any xi HC3.out)
                obtain ⟨sb, hsb⟩ : ∃ sb, geB xi l = sb := ⟨_, rfl⟩
                obtain ⟨si, hsi⟩ : ∃ si, geI xi l = si := ⟨_, rfl⟩
                rw [hsb, hsi]
                have HSB := hid (And.intro hsb hsi)
                clear hsb hsi
                go_wp2_with fail
                go_fit HLP.out
                rintro e w5 ⟨hp, hc5, hw5⟩
                obtain rfl := gotA_uni hp
                rw [HSB.out.1, HSB.out.2]
                have HE5 := hid (es_off HE3.out HI3.out hw5)
                have HP6 := hid (show PS w w5 S cb R A3 n3 c3 (getE xi l) from ⟨hc5, HP2.out.own, HE5.out, HI3.out, HB3.out.trans (hw5.below HP2.out.own HB3.out.size), by rw [getE_len]; exact HP2.out.few⟩)
                clear hp hc5 hw5 HLP q0 q1 q2 q3 q4
                go_wp2_with fail
                go_meet
                case rel => exact ⟨n3, c3, A3, _, _, rfl, HP6⟩
              · by_cases hk2 : xk = 2
                · subst hk2
                  have hb3 := (Below.refl w2'.heap.size w2').alloc (Nat.le_refl _) (.cells #[.int .i64 xi, .int .i64 xm] 3)
                  have HP3 := hid (HP2.out.step hb3)
                  have HX3 := hid (HX2.out.below hb3 HX2.out.lt)
                  have HK3 := hid (ks_new w2' xi xm)
                  have q0 := HX2.out.cell 0
                  have q1 := HX2.out.cell 1
                  have q2 := HX2.out.cell 2
                  have q3 := HX2.out.cell 3
                  have q4 := HX2.out.cell 4
                  have hd0 := hb3.size
                  have HD0 := hid hb3
                  have HDP := hid (refDropE_any (M := fun k => ¬ S k) (n2 := 2) (c2 := 2) (ks := [xi, xm]) HP3.out.es (Nat.le_trans (by have := HP3.out.es.len; have := HP3.out.few; omega) hR6) HK3.out rfl (by decide) (Nat.le_refl _) HP3.out.off)
                  clear hb3
                  go_wp2_with fail
                  generalize w2'.alloc (.cells #[.int .i64 xi, .int .i64 xm] 3) = w3 at *
                  clear q0 q1 q2 q3 q4 HK3
                  go_fit HDP.out
                  rintro e w4 ⟨A4, n4, c4, rfl, he4, hi4, hb4⟩
                  have HI4 := hid (show In (fun k => ¬ S k) A4 (dropE [xi, xm] l) from In.weak hi4 (fun k hk hs => hk.elim (fun q => q hs) (fun q => by have := HP3.out.ca.low k hs; omega)))
                  have HE4 := hid he4
                  have HC4 := hid (HP3.out.ca.step hb4)
                  have HX4 := hid (HX3.out.below hb4 HX3.out.lt)
                  have HB4 := hid (below_step HP3.out.below hb4)
                  have hb5 := (Below.refl w4.heap.size w4).alloc (Nat.le_refl _) (.cells #[.int .i64 xi, .int .i64 xm] 3)
                  have HC5 := hid (HC4.out.step hb5)
                  have HE5 := hid ((HE4.out.below hb5 (Nat.le_refl _)).more hb5.size (Nat.le_refl _))
                  have HB5 := hid (below_step HB4.out hb5)
                  have HK5 := hid (ks_new w4 xi xm)
                  have HKO := hid (show In (fun k => ¬ S k) (some ⟨w4.heap.size, 0, none⟩) [xi, xm] from fun b off e hl hs => by
                    have h1 := HC4.out.low b hs
                    have h2 := congrArg Addr.block (Option.some.inj e)
                    dsimp only at h2
                    omega)
                  have HDR := hid (drop_any (n := 2) (c := 2) (ks := [xi, xm]) HC5.out (Nat.le_trans HP3.out.few hR6) HK5.out rfl (by decide) HKO.out)
                  have q0 := HX4.out.cell 0
                  have q1 := HX4.out.cell 1
                  have q2 := HX4.out.cell 2
                  have q3 := HX4.out.cell 3
                  have q4 := HX4.out.cell 4
                  obtain ⟨dn, hdn⟩ : ∃ dn, dropN [xi, xm] l = dn := ⟨_, rfl⟩
                  rw [hdn] at HDR ⊢
                  clear he4 hi4 hb4 hb5 HDP hdn
                  go_wp2_with fail
                  generalize w4.alloc (.cells #[.int .i64 xi, .int .i64 xm] 3) = w5 at *
                  clear q0 q1 q2 q3 q4 HK5 HKO HE4 HC4 HB4
                  go_fit HDR.out
                  rintro e w6 ⟨rfl, hc6, hw6⟩
                  have HE6 := hid (es_off HE5.out HI4.out hw6)
                  have HP6 := hid (show PS w w6 S cb R A4 n4 c4 (dropE [xi, xm] l) from ⟨hc6, HP2.out.own, HE6.out, HI4.out, HB5.out.trans (hw6.below HP2.out.own HB5.out.size), Nat.le_trans (by have := dropE_len [xi, xm] l; omega) HP2.out.few⟩)
                  clear hc6 hw6 HDR
                  go_wp2_with fail
                  go_meet
                  case rel => exact ⟨n4, c4, A4, _, _, rfl, HP6⟩
                · by_cases hk3 : xk = 3
                  · subst hk3
                    have HDP := hid (refDirtyE_any HP2.out.es (Nat.le_trans (by have := HP2.out.es.len; have := HP2.out.few; omega) hR6))
                    have hl6 : l.length ≤ 1024 := Nat.le_trans HP2.out.few hR
                    go_wp2_with fail
                    go_fit HDP.out
                    rintro e w3 ⟨A3, n3, c3, A4, n4, c4, rfl, hr3, hr4, hb3⟩
                    have HE3 := hid (ES.row hr3 (by rw [cleanE_len]; omega))
                    have HE4 := hid (ES.row hr4 (by have := dirtyE_len [] l; simp only [List.length_nil] at this; omega))
                    have HI3 := hid (show In (fun k => ¬ S k) A3 (cleanE l) from In.weak (GRow.in_ hr3) (fun k hk hs => by have := HP2.out.ca.low k hs; omega))
                    have HI4 := hid (show In (fun k => ¬ S k) A4 (dirtyE [] l) from In.weak (GRow.in_ hr4) (fun k hk hs => by have := HP2.out.ca.low k hs; omega))
                    have HC3 := hid (HP2.out.ca.step hb3)
                    have HB3 := hid (below_step HP2.out.below hb3)
                    have HDI := hid (dirty_any HC3.out (by omega))
                    clear hr3 hr4 hb3 HDP
                    go_wp2_with fail
                    go_fit HDI.out
                    rintro e w5 ⟨A5, n5, c5, rfl, he5, hc5, hw5⟩
                    have HE5 := hid (es_off HE3.out HI3.out hw5)
                    have HE6 := hid (es_off HE4.out HI4.out hw5)
                    have HP5 := hid (show PS w w5 S cb R A3 n3 c3 (cleanE l) from ⟨hc5, HP2.out.own, HE5.out, HI3.out, HB3.out.trans (hw5.below HP2.out.own HB3.out.size), by rw [cleanE_len]; exact HP2.out.few⟩)
                    have HSM := hid (refSameE_any he5 HE6.out)
                    rw [decide_eq_true rfl] at HSM
                    clear he5 hc5 hw5 HDI
                    go_wp2_with fail
                    go_fit HSM.out
                    rintro e w6 ⟨rfl, hb6⟩
                    have HP6 := hid (HP5.out.step hb6)
                    clear hb6
                    go_wp2_with fail
                    go_meet
                    case rel => exact ⟨n3, c3, A3, _, _, rfl, HP6⟩
                  · go_wp2_with fail
                    go_meet
                    case rel => exact ⟨n, c', A', S, l, rfl, HP2⟩
          case rest =>
            obtain ⟨n3, c3, A3, S3, l3, rfl, HP3⟩ := hcut
            obtain ⟨w3, rfl⟩ : ∃ w3, w3 = wc := ⟨_, rfl⟩
            have hl3 : l3.length ≤ 1024 := Nat.le_trans HP3.out.few hR
            have HLI := hid (list_any HP3.out.ca (by omega))
            have HNL := hid HP3.out.es.len
            clear HP2 HX2 HXS
            go_wp2_with fail
            go_fit HLI.out
            rintro e w4 ⟨A4, n4, c4, rfl, hr4, hb4⟩
            have HP4 := hid (HP3.out.step hb4)
            have HE4 := hid (ES.row hr4 (by omega))
            have HSM := hid (refSameE_any HE4.out HP4.out.es)
            rw [decide_eq_true rfl] at HSM
            clear hr4 hb4 HLI HP3
            go_wp2_with fail
            go_fit HSM.out
            rintro e w5 ⟨rfl, hb5⟩
            have HP5 := hid (HP4.out.step hb5)
            have HLE := hid (len_ca HP5.out.ca)
            have hn3 : (n3 : Int) = (l3.length : Int) := by rw [HNL.out]
            clear hb5 HSM HP4 HE4
            go_wp2_with fail
            go_fit HLE.out
            rintro e w6 ⟨rfl, hw⟩
            rw [hw]
            clear hw w6
            go_wp2_with fail
            go_roundw
            case rel => exact ⟨j + 1, n3, c3, A3, S3, l3, rfl, by go_num, by omega, by omega, HP5⟩
            case measure => simp [intOf]; omega
      · by_cases hl1 : j < m
        · have hl2 : ¬ (j : Int) < 80 := by omega
          have hl3 : (j : Int) < (m : Int) := by omega
          go_wp2_with fail
          go_ret
          exact ⟨rfl, HP.out.below⟩
        · have hl3 : ¬ (j : Int) < (m : Int) := by omega
          go_wp2_with fail
          go_ret
          exact ⟨rfl, HP.out.below⟩

end Go.Proofs.Ytdhjjjagjkencaa
