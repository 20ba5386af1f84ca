/-
  CacheDirty: the walk.
-/
import Derived.Test.YtdhjjjagjkencaaCaDk
import Derived.Test.YtdhjjjagjkencaaCaAwake
import Derived.BigQuiet
import Derived.Deep.CutRange
import Derived.Deep.CutBlock
namespace Go.Proofs.Ytdhjjjagjkencaa
open Go Go.RowKit

theorem cleanE_two (l : List En) : cleanE (cleanE l) = cleanE l := by unfold cleanE; rw [List.map_map]; rfl
set_option maxHeartbeats 40000000 in
set_option maxRecDepth 100000 in
theorem cadirty_walk (r : Nat) (hr : r < 256) {A : Option Addr} {m c B : Nat} {xs : List Ac} {w : World} (hA : GAt eAct w B A xs) (hm : m = xs.length) (hB : B ≤ w.heap.size) :
    Calls Try.prog 6 #[.int .u8 (r : Int), .slice A m c] w fun e w' => e = .returned (.bool true) ∧ Below w.heap.size w w' := by
  have HA := hid (And.intro hA hB)
  have HM := hid hm
  have HAW := hid (fun W => awake_yes W)
  have hmm := @run_makeMap Try.prog
  obtain ⟨R, hR⟩ : ∃ R, 1 + r % 20 = R := ⟨_, rfl⟩
  have hR0 : R ≤ 20 := by omega
  have hR1 : 1 ≤ R := by omega
  have hR5 : R ≤ 100000 := by omega
  have hR6 : R ≤ 1000000 := by omega
  have HNN := hid (co_new (base := w.heap.size) (w := w) (R : Int) (Nat.le_refl _) (by omega))
  rw [Int.toNat_natCast] at HNN
  have hk1 : IntKind.i64.wrap (r : Int) = (r : Int) := by rw [IntKind.wrap_i64]; omega
  have hk5 : (1 : Int) + (r : Int) % 20 = (R : Int) := by omega
  clear hA hm
  go_enter Try.func6, Try.ntmps6
  go_wp2_with fail
  go_fit HNN.out
  rintro e w1 ⟨cb, rfl, hc1, hb1⟩
  have HC1 := hid hc1
  have HB1 := hid hb1
  clear hc1 hb1 HNN hk1 hk5
  go_wp2_with fail
  go_fit (HAW.out w1)
  rintro e w2 ⟨rfl, hb⟩
  obtain ⟨S0, hc0, hs0⟩ := HC1.out
  have hb3 := hb.alloc hb.size (.map #[] 0)
  have HD3 := hid (show DS w (w2.alloc (.map #[] 0)) S0 cb R w2.heap.size [] (fun _ => 0) from
    ⟨hc0.step hb3, hs0, NT.made w2, fun q => by have := hc0.low _ q; have := hb.size; omega, Nat.le_trans HB1.out.size hb.size, below_step HB1.out hb3, Nat.zero_le _⟩)
  clear hb hb3 HC1 HB1 hc0 hs0
  go_wp2_with fail
  generalize w2.alloc (.map #[] 0) = w3 at *
  generalize w2.heap.size = mb at *
  go_loopw [8] (fun i wr => ∃ (j : Nat) (l : List En) (f : Int → Nat) (S : Nat → Prop), i = .int .i64 (j : Int) ∧ j ≤ m ∧ j ≤ 80 ∧ Kept (DS w wr S cb R mb l f) ∧ Kept (DK f l)) (fun i _ => m - (intOf i).toNat)
  case atStart => exact ⟨0, [], _, S0, rfl, Nat.zero_le _, Nat.zero_le _, HD3, hid DK.empty⟩
  case round =>
    obtain ⟨j, l, f, S, rfl, hj, hj80, HD, HDK⟩ := hrel
    clear HD3
    have HND := hid HD.out.ca.nd
    have HF2 := hid HD.out.few
    by_cases hlt : j < m ∧ j < 80
    · obtain ⟨hlt1, hlt2⟩ := hlt
      have hj80' : (j : Int) < 80 := by omega
      have hjm' : (j : Int) < (m : Int) := by omega
      go_upto_block 1 with fail
      go_cut [] from 35 to 152 (fun wx => ∃ (S3 : Nat → Prop) (l3 : List En) (f3 : Int → Nat), Kept (DS w wx S3 cb R mb l3 f3) ∧ Kept (DK f3 l3))
      case first =>
        obtain ⟨b, off, x, rfl, hb, hx, c0, c1, c2, c3, c4⟩ := act_get (GAt.below HA.out.1 (HD.out.below.mono HA.out.2)) (i := j) (by rw [← HM.out]; exact hlt1)
        obtain ⟨xk, xi, xm, xb, xd⟩ := x
        dsimp only at c0 c1 c2 c3 c4
        have hbl : b < wr.heap.size := Nat.lt_of_lt_of_le hb (Nat.le_trans HA.out.2 HD.out.below.size)
        have hb1 := (Below.refl wr.heap.size wr).alloc (Nat.le_refl _) (.cells #[.int .i64 xk, .int .i64 xi, .int .i64 xm, .string (bst xb), .bool xd] 30)
        have HXS := hid (show ¬ S wr.heap.size from fun h => by have := HD.out.ca.low _ h; omega)
        have HXM := hid (show wr.heap.size ≠ mb from fun e => by have := HD.out.nt.lt; omega)
        have HD2 := hid (HD.out.step hb1)
        have HX2 := hid (Blk.new wr 30 #[.int .i64 xk, .int .i64 xi, .int .i64 xm, .string (bst xb), .bool xd])
        clear hb hx hb1
        go_upto_region 9 with fail
        clear c0 c1 c2 c3 c4 hbl
        generalize wr.alloc (.cells #[.int .i64 xk, .int .i64 xi, .int .i64 xm, .string (bst xb), .bool xd] 30) = w2' at *
        obtain ⟨gx, hgx⟩ : ∃ g, wr.heap.size = g := ⟨_, rfl⟩
        rw [hgx] at HX2 HXS HXM ⊢
        clear hgx
        have y0 := HX2.out.cell 0
        by_cases hk0 : xk = 0
        · subst hk0
          have q0 := HX2.out.cell 0
          have q1 := HX2.out.cell 1
          have q2 := HX2.out.cell 2
          have q3 := HX2.out.cell 3
          have q4 := HX2.out.cell 4
          have HDK1 := hid (DK.ins HDK.out HND.out xi xb xd (j + 1) (Nat.succ_pos j))
          go_upto_if 54 with fail
          go_cut [] from 52 to 59 (fun wx => Kept (DS w wx S cb R mb l (if xd = true then updF f xi (j + 1) else f)) ∧ Kept (XBlk wx gx ⟨0, xi, xm, xb, xd⟩))
          case first =>
            cases xd with
            | true =>
              obtain ⟨T, n, ht1, ht2⟩ := HD2.out.nt
              have HTT := hid (And.intro ht1 ht2)
              clear ht1 ht2
              have HJ1 := hid (show (j : Int) + 1 = ((j + 1 : Nat) : Int) by omega)
              go_wp2_with (at_mapUpdate; refine wpList_put _ rfl _ _ _ 53 rfl 3 3 Try.underlying53 Try.underlying3 rfl HTT.out.1 (xi) rfl (.int .i64 ((j : Int) + 1)) rfl ?_; intro w3 ht ho hs; have HU := hid (And.intro ht ho); clear ht ho hs; go_frame)
              go_meet
              case rel =>
                have ht := HU.out.1
                rw [HJ1.out] at ht
                have hd := HD2.out.map (f' := updF f xi (j + 1)) ⟨_, _, ht, nt_upd HTT.out.2 xi (j + 1)⟩ HU.out.2
                exact ⟨hid (by rw [if_pos trivial]; exact hd), hid (HX2.out.grown HU.out.2 (fun e => by injection e with e; exact HXM.out e))⟩
            | false =>
              go_wp2_with fail
              go_meet
              case rel => exact ⟨hid (by rw [if_neg (by simp)]; exact HD2.out), HX2⟩
          case rest =>
            obtain ⟨HD3, HX3⟩ := hcut
            obtain ⟨w3, rfl⟩ : ∃ w3, w3 = wc := ⟨_, rfl⟩
            obtain ⟨f1, hf1⟩ : ∃ f1, (if xd = true then updF f xi (j + 1) else f) = f1 := ⟨_, rfl⟩
            rw [hf1] at HD3 HDK1
            clear hf1 HD2 HX2 q0 q1 q2 q3 q4
            have q0 := HX3.out.cell 0
            have q1 := HX3.out.cell 1
            have q2 := HX3.out.cell 2
            have q3 := HX3.out.cell 3
            have q4 := HX3.out.cell 4
            have HLP := hid (put_any xi xb xd HD3.out.ca HF2.out)
            go_wp2_with fail
            go_fit HLP.out
            rintro e w4 ⟨hp, hc4, hw4⟩
            obtain rfl := putA_uni hp
            have HDK2 := hid (DK.put HND.out HF2.out HDK1.out)
            have HGM := hid (fun (hq : ((inE xi xb xd l)[R]?).isSome = true) => HDK1.out.of (nd_inE HND.out) (gone_mem hq))
            obtain ⟨gv, hgv⟩ : ∃ gv, goV R (inE xi xb xd l) = gv := ⟨_, rfl⟩
            obtain ⟨gq, hgq⟩ : ∃ gq, ((inE xi xb xd l)[R]?).isSome = gq := ⟨_, rfl⟩
            rw [hgv, hgq] at HDK2 HGM ⊢
            have HD4 := hid (HD3.out.call hc4 hw4 (fun k hk => hk.imp id (·.1)) putE_len)
            have hb5 := (Below.refl w4.heap.size w4).alloc (Nat.le_refl _) (.cells #[.int .i64 gv.i, .string (bst gv.b), .bool gv.d] 32)
            have HD5 := hid (HD4.out.step hb5)
            have HF5 := hid (Blk.new w4 32 #[.int .i64 gv.i, .string (bst gv.b), .bool gv.d])
            clear hp hgv hgq hb5 hc4 hw4 HLP q0 q1 q2 q3 q4 HX3 HD3
            unfold En.val
            go_upto_region 14 with fail
            clear HD4
            generalize w4.alloc (.cells #[.int .i64 gv.i, .string (bst gv.b), .bool gv.d] 32) = w5 at *
            generalize w4.heap.size = gf at *
            cases gq with
            | false =>
              go_wp2_with fail
              go_meet
              case rel => exact ⟨_, _, f1, HD5, hid (by have := HDK2.out; rwa [if_neg (by simp)] at this)⟩
            | true =>
              have hgm := HGM.out rfl
              obtain ⟨gi, gb, gd⟩ := gv
              have hgm2 : gd = decide (0 < f1 gi) := hgm.symm
              clear hgm
              subst hgm2
              have HDK3 := hid (show DK (updF f1 gi 0) _ by have := HDK2.out; rw [if_pos rfl] at this; exact this)
              clear HDK2 HGM
              have f0 := HF5.out.cell 0
              have f2 := HF5.out.cell 2
              obtain ⟨T, n, ht1, ht2⟩ := HD5.out.nt
              have HTT := hid (And.intro ht1 ht2)
              clear ht1 ht2
              by_cases hpos : 0 < f1 gi
              · have hpi : (0 : Int) < (f1 gi : Int) := by omega
                rw [decide_eq_true hpos] at f2
                go_wp2_with first | (at_lookup; refine wpList_look _ rfl _ _ 53 rfl 3 3 Try.underlying53 Try.underlying3 (zero_int _) rfl HTT.out.1 (gi) rfl (HTT.out.2 _) ?_) | (at_mapUpdate; refine wpList_put _ rfl _ _ _ 53 rfl 3 3 Try.underlying53 Try.underlying3 rfl HTT.out.1 (gi) rfl (.int .i64 ((0 : Nat) : Int)) rfl ?_; intro w6 ht ho hs; have HU := hid (And.intro ht ho); clear ht ho hs; go_frame)
                go_meet
                case rel => exact ⟨_, _, updF f1 gi 0, hid (HD5.out.map (f' := updF f1 gi 0) ⟨_, _, HU.out.1, nt_upd HTT.out.2 gi 0⟩ HU.out.2), HDK3⟩
              · have hpi : ¬ (0 : Int) < (f1 gi : Int) := by omega
                rw [decide_eq_false hpos] at f2
                go_wp2_with first | (at_lookup; refine wpList_look _ rfl _ _ 53 rfl 3 3 Try.underlying53 Try.underlying3 (zero_int _) rfl HTT.out.1 (gi) rfl (HTT.out.2 _) ?_) | (at_mapUpdate; refine wpList_put _ rfl _ _ _ 53 rfl 3 3 Try.underlying53 Try.underlying3 rfl HTT.out.1 (gi) rfl (.int .i64 ((0 : Nat) : Int)) rfl ?_; intro w6 ht ho hs; have HU := hid (And.intro ht ho); clear ht ho hs; go_frame)
                go_meet
                case rel => exact ⟨_, _, updF f1 gi 0, hid (HD5.out.map (f' := updF f1 gi 0) ⟨_, _, HU.out.1, nt_upd HTT.out.2 gi 0⟩ HU.out.2), HDK3⟩
        · by_cases hk1 : xk = 1
          · subst hk1
            have q0 := HX2.out.cell 0
            have q1 := HX2.out.cell 1
            have q2 := HX2.out.cell 2
            have q3 := HX2.out.cell 3
            have q4 := HX2.out.cell 4
            have HLP := hid (get_any xi HD2.out.ca)
            go_wp2_with fail
            go_fit HLP.out
            rintro e w3 ⟨hp, hc3, hw3⟩
            obtain rfl := gotA_uni hp
            have HD3 := hid (HD2.out.call hc3 hw3 (fun _ q => .inl q) (by rw [getE_len]; exact HF2.out))
            have HDK3 := hid (HDK.out.mem (l' := getE xi l) (mem_getE HND.out))
            clear hp hc3 hw3 HLP q0 q1 q2 q3 q4
            go_wp2_with fail
            go_meet
            case rel => exact ⟨S, _, f, HD3, HDK3⟩
          · by_cases hk2 : xk = 2
            · subst hk2
              have q0 := HX2.out.cell 0
              have q1 := HX2.out.cell 1
              have q2 := HX2.out.cell 2
              have q3 := HX2.out.cell 3
              have q4 := HX2.out.cell 4
              have HLP := hid (drop1_any xi HD2.out.ca (Nat.le_trans HF2.out hR6))
              have hb1 := (Below.refl w2'.heap.size w2').alloc (Nat.le_refl _) (.cells #[.int .i64 xi] 3)
              have HD1 := hid (HD2.out.step hb1)
              have HX1 := hid (HX2.out.below hb1 HX2.out.lt)
              clear hb1
              go_wp2_with fail
              go_fit HLP.out
              rintro e w3 ⟨rfl, hc3, hw3⟩
              have HD3 := hid (HD1.out.call hc3 hw3 (fun _ q => .inl q) (Nat.le_trans (by have := dropE_len [xi] l; omega) HF2.out))
              have HX3 := hid (HX1.out.within hw3 HXS.out)
              have HDK3 := hid (HDK.out.drop HND.out xi)
              clear hc3 hw3 HLP HX1 HD1 q0 q1 q2 q3 q4
              have q1 := HX3.out.cell 1
              obtain ⟨T, n, ht1, ht2⟩ := HD3.out.nt
              have HTT := hid (And.intro ht1 ht2)
              clear ht1 ht2
              go_wp2_with (at_mapUpdate; refine wpList_put _ rfl _ _ _ 53 rfl 3 3 Try.underlying53 Try.underlying3 rfl HTT.out.1 (xi) rfl (.int .i64 ((0 : Nat) : Int)) rfl ?_; intro w6 ht ho hs; have HU := hid (And.intro ht ho); clear ht ho hs; go_frame)
              go_meet
              case rel => exact ⟨S, _, updF f xi 0, hid (HD3.out.map (f' := updF f xi 0) ⟨_, _, HU.out.1, nt_upd HTT.out.2 xi 0⟩ HU.out.2), HDK3⟩
            · by_cases hk3 : xk = 3
              · subst hk3
                have HLP := hid (dirty_any2 HD2.out.ca (Nat.le_trans HF2.out hR5))
                go_wp2_with fail
                go_fit HLP.out
                rintro e w3 ⟨A3, n3, c3, rfl, he3, hc3, hw3, hi3⟩
                have HD3 := hid (HD2.out.call hc3 hw3 (fun _ q => .inl q) (by rw [cleanE_len]; exact HF2.out))
                have HE3 := hid he3
                have HL3 := hid he3.len
                have HW3 := hid (dirtyE_len [] l)
                have hn3 : n3 ≤ 1000000 := by have h1 := he3.len; have h2 := HW3.out; have h3 := HF2.out; simp only [List.length_nil] at h2; omega
                have HAR := hid (show In (fun k => k ≠ mb) A3 (dirtyE [] l) from In.weak hi3 (fun k hk e => by have := HD2.out.nt.lt; omega))
                have hcap3 := he3.cap
                clear he3 hc3 hw3 hi3 HLP
                go_upto_block 3 with fail
                go_cut [] from 103 to 148 (fun wx => Kept (DS w wx S cb R mb (cleanE l) (zeroF f (dirtyE [] l))))
                case first =>
                  go_wp2_with fail
                  go_loopw [13] (fun i wr2 => ∃ q : Nat, i = .int .i64 (q : Int) ∧ q ≤ n3 ∧ Kept (DS w wr2 S cb R mb (cleanE l) (zeroF f ((dirtyE [] l).take q))) ∧ Kept (EAt wr2 w3.heap.size A3 (dirtyE [] l)) ∧ Kept (w3.heap.size ≤ wr2.heap.size)) (fun i _ => n3 - (intOf i).toNat)
                  case atStart => exact ⟨0, rfl, Nat.zero_le _, hid (by simpa [zeroF] using HD3.out), hid HE3.out.at_, hid (Nat.le_refl _)⟩
                  case round =>
                    obtain ⟨q, rfl, hq, HDQ, HEQ, HSQ⟩ := hrel
                    obtain ⟨wr2, rfl⟩ : ∃ wr2, wr2 = wr := ⟨_, rfl⟩
                    by_cases hlt : q < n3
                    · obtain ⟨b5, off5, y, rfl, hb5, hy, c0, c1, c2⟩ := EAt.get HEQ.out (i := q) (by rw [← HL3.out]; exact hlt)
                      have hyd := (dirt_mem.1 (List.mem_of_getElem? hy)).2
                      have hpos := zeroF_pos HDK.out HND.out hy
                      have HY := hid hy
                      obtain ⟨T, n, ht1, ht2⟩ := HDQ.out.nt
                      have HTT := hid (And.intro ht1 ht2)
                      obtain ⟨yi, yb, yd⟩ := y
                      dsimp only at hyd hpos c0 c1 c2
                      subst hyd
                      obtain ⟨v, hv⟩ : ∃ v, zeroF f ((dirtyE [] l).take q) yi = v := ⟨_, rfl⟩
                      rw [hv] at hpos
                      have hb5w : b5 < wr2.heap.size := Nat.lt_of_lt_of_le hb5 HSQ.out
                      have hvi : ¬ (v : Int) = 0 := by omega
                      have hvi2 : ((v : Int) == 0) = false := by simpa using hvi
                      have zl : ∀ W, Beyond wr2 W → (Instr.lookup 53 (.map (some mb)) (.int .i64 yi) false).run Try.prog W = .ok (.int .i64 (v : Int)) W := fun W hW => by
                        have := (ht1.below hW).look Try.underlying53 Try.underlying3 (zero_int _) yi false
                        rw [ht2, hv] at this
                        exact this
                      have z0 : ∀ W, Beyond wr2 W → W.cell? ⟨b5, off5 + q * 3, none⟩ = some (.int .i64 yi) := fun W hW => (Below.cell hW hb5w).trans c0
                      have z2 : ∀ W, Beyond wr2 W → W.cell? ⟨b5, off5 + q * 3 + 2, none⟩ = some (.bool true) := fun W hW => (Below.cell hW hb5w).trans c2
                      clear ht1 ht2 hy hb5 hpos c1 c2
                      cases q with
                      | zero =>
                        simp only [Nat.zero_mul, Nat.add_zero] at z0 z2 c0
                        go_upto_region 28 with fail
                        refine wp_region_held_drew (S := Beyond wr2) (by kernel_rfl) (Beyond.drew _) (fun hS => ?_)
                        refine stT 0 hS ?_
                        try simp only [putr]
                        refine stT 1 hS ?_
                        try simp only [putr]
                        refine stT 2 hS ?_
                        try simp only [putr]
                        refine stT 3 hS ?_
                        try simp only [putr]
                        refine stT 4 hS ?_
                        try simp only [putr]
                        refine stT 5 hS ?_
                        try simp only [putr]
                        refine stT 6 hS ?_
                        try simp only [putr]
                        refine stT 7 hS ?_
                        try simp only [putr]
                        refine stT 8 hS ?_
                        try simp only [putr]
                        first | (refine stT 9 hS ?_) | (refine stK 9 hS ?_)
                        try simp only [putr]
                        first | (refine stT 10 hS ?_) | (refine stK 10 hS ?_)
                        try simp only [putr]
                        first | (refine stT 11 hS ?_) | (refine stK 11 hS ?_)
                        try simp only [putr]
                        first | (refine stT 12 hS ?_) | (refine stK 12 hS ?_)
                        try simp only [putr]
                        first | (refine stT 13 hS ?_) | (refine stK 13 hS ?_)
                        try simp only [putr]
                        first | (refine stT 14 hS ?_) | (refine stK 14 hS ?_)
                        try simp only [putr]
                        refine stT 15 hS ?_
                        try simp only [putr]
                        refine stT 16 hS ?_
                        try simp only [putr]
                        first | (refine stT 17 hS ?_) | (refine stK 17 hS ?_)
                        try simp only [putr]
                        first | (refine stT 18 hS ?_) | (refine stK 18 hS ?_)
                        try simp only [putr]
                        first | (refine stT 19 hS ?_) | (refine stK 19 hS ?_)
                        try simp only [putr]
                        refine stK 20 hS ?_
                        try simp only [putr]
                        refine stK 21 hS ?_
                        try simp only [putr]
                        refine stK 22 hS ?_
                        try simp only [putr]
                        refine stK 23 hS ?_
                        try simp only [putr]
                        refine stK 24 hS ?_
                        try simp only [putr]
                        refine stK 25 hS ?_
                        try simp only [putr]
                        refine stK 26 hS ?_
                        try simp only [putr]
                        refine stK 27 hS ?_
                        try simp only [putr]
                        refine stK 28 hS ?_
                        try simp only [putr]
                        refine stK 29 hS ?_
                        try simp only [putr]
                        refine stK 30 hS ?_
                        try simp only [putr]
                        refine stK 31 hS ?_
                        try simp only [putr]
                        first | (refine stT 32 hS ?_) | (refine stK 32 hS ?_)
                        try simp only [putr]
                        refine stT 33 hS ?_
                        try simp only [putr]
                        refine wpAnyH_done (by kernel_rfl) ?_ _
                        have hdq := HDQ.out.step ((Below.refl _ _).drew)
                        have heq : EAt wr2.drew w3.heap.size (some ⟨b5, off5, none⟩) (dirtyE [] l) := HEQ.out
                        have hnt : Tab wr2.drew mb T n := HTT.out.1.of_block rfl
                        have HDQ2 := hid hdq
                        have HEQ2 := hid heq
                        have HS7 := hid (show w3.heap.size ≤ wr2.drew.heap.size from HSQ.out)
                        have HTT2 := hid (And.intro hnt HTT.out.2)
                        have x0 : wr2.drew.cell? ⟨b5, off5, none⟩ = some (.int .i64 yi) := c0
                        clear hdq heq hnt hS zl z0 z2
                        generalize wr2.drew = w7 at *
                        go_wp2_with (at_mapUpdate; refine wpList_put _ rfl _ _ _ 53 rfl 3 3 Try.underlying53 Try.underlying3 rfl HTT2.out.1 (yi) rfl (.int .i64 ((0 : Nat) : Int)) rfl ?_; intro w8 ht ho hs; have HU := hid (And.intro ht ho); clear ht ho hs; go_frame)
                        go_roundw
                        case rel =>
                          have ht : NT w8 mb (updF (zeroF f ((dirtyE [] l).take (0))) yi 0) := ⟨_, _, HU.out.1, nt_upd HTT2.out.2 yi 0⟩
                          rw [← zeroF_take HY.out] at ht
                          exact ⟨0 + 1, by go_num, by omega, hid (HDQ2.out.map ht HU.out.2), hid (GAt.kept (P := fun k => k ≠ mb ∧ k < w3.heap.size) HEQ2.out (fun b off e hl => ⟨HAR.out b off e hl, GAt.in_ HEQ2.out b off e hl⟩) (Nat.le_refl _) (fun k hk => HU.out.2.block k (Nat.lt_of_lt_of_le hk.2 HS7.out) (fun e => by injection e with e; exact hk.1 e))), hid (Nat.le_trans HS7.out HU.out.2.size)⟩
                        case measure => simp [intOf]; omega
                      | succ q =>
                        obtain ⟨b6, off6, y6, he6, hb6, hy6, d0, d1, d2⟩ := EAt.get HEQ.out (i := q) (by rw [← HL3.out]; omega)
                        injection he6 with he6
                        injection he6 with he6 he7
                        subst he6 he7
                        have hlt6 := dirt_lt HND.out (Nat.lt_succ_self q) hy6 HY.out
                        obtain ⟨y6i, y6b, y6d⟩ := y6
                        dsimp only at hlt6 d0 d1 d2
                        have hge : ¬ y6i ≥ yi := by omega
                        have zp : ∀ W, Beyond wr2 W → W.cell? ⟨b5, off5 + q * 3, none⟩ = some (.int .i64 y6i) := fun W hW => (Below.cell hW hb5w).trans d0
                        have hcast : ((q + 1 : Nat) : Int) = (q : Int) + 1 := by omega
                        have hsub : (q : Int) + 1 - 1 = (q : Int) := by omega
                        have hpq : (0 : Int) < (q : Int) + 1 := by omega
                        have hpq2 : (0 : Int) ≤ (q : Int) + 1 := by omega
                        have hpq3 : (q : Int) + 1 < (n3 : Int) := by omega
                        have hpq4 : (q : Int) < (n3 : Int) := by omega
                        have hwq : IntKind.i64.wrap (q : Int) = (q : Int) := by rw [IntKind.wrap_i64]; omega
                        clear hy6 hb6 d0 d1 d2 hlt6
                        rw [hcast]
                        go_upto_region 28 with fail
                        refine wp_region_held_drew (S := Beyond wr2) (by kernel_rfl) (Beyond.drew _) (fun hS => ?_)
                        refine stT 0 hS ?_
                        try simp only [putr]
                        refine stT 1 hS ?_
                        try simp only [putr]
                        refine stT 2 hS ?_
                        try simp only [putr]
                        refine stT 3 hS ?_
                        try simp only [putr]
                        refine stT 4 hS ?_
                        try simp only [putr]
                        refine stT 5 hS ?_
                        try simp only [putr]
                        refine stT 6 hS ?_
                        try simp only [putr]
                        refine stT 7 hS ?_
                        try simp only [putr]
                        refine stT 8 hS ?_
                        try simp only [putr]
                        refine stT 9 hS ?_
                        try simp only [putr]
                        refine stT 10 hS ?_
                        try simp only [putr]
                        refine stT 11 hS ?_
                        try simp only [putr]
                        refine stT 12 hS ?_
                        try simp only [putr]
                        refine stT 13 hS ?_
                        try simp only [putr]
                        refine stT 14 hS ?_
                        try simp only [putr]
                        refine stT 15 hS ?_
                        try simp only [putr]
                        refine stT 16 hS ?_
                        try simp only [putr]
                        refine stT 17 hS ?_
                        try simp only [putr]
                        refine stT 18 hS ?_
                        try simp only [putr]
                        refine stT 19 hS ?_
                        try simp only [putr]
                        refine stT 20 hS ?_
                        try simp only [putr]
                        refine stT 21 hS ?_
                        try simp only [putr]
                        refine stT 22 hS ?_
                        try simp only [putr]
                        refine stT 23 hS ?_
                        try simp only [putr]
                        refine stT 24 hS ?_
                        try simp only [putr]
                        refine stT 25 hS ?_
                        try simp only [putr]
                        refine stT 26 hS ?_
                        try simp only [putr]
                        refine stT 27 hS ?_
                        try simp only [putr]
                        refine stT 28 hS ?_
                        try simp only [putr]
                        refine stT 29 hS ?_
                        try simp only [putr]
                        refine stT 30 hS ?_
                        try simp only [putr]
                        refine stT 31 hS ?_
                        try simp only [putr]
                        refine stT 32 hS ?_
                        try simp only [putr]
                        refine stT 33 hS ?_
                        try simp only [putr]
                        refine wpAnyH_done (by kernel_rfl) ?_ _
                        have hdq := HDQ.out.step ((Below.refl _ _).drew)
                        have heq : EAt wr2.drew w3.heap.size (some ⟨b5, off5, none⟩) (dirtyE [] l) := HEQ.out
                        have hnt : Tab wr2.drew mb T n := HTT.out.1.of_block rfl
                        have HDQ2 := hid hdq
                        have HEQ2 := hid heq
                        have HS7 := hid (show w3.heap.size ≤ wr2.drew.heap.size from HSQ.out)
                        have HTT2 := hid (And.intro hnt HTT.out.2)
                        have x0 : wr2.drew.cell? ⟨b5, off5 + (q + 1) * 3, none⟩ = some (.int .i64 yi) := c0
                        clear hdq heq hnt hS zl z0 z2 zp
                        generalize wr2.drew = w7 at *
                        go_wp2_with (at_mapUpdate; refine wpList_put _ rfl _ _ _ 53 rfl 3 3 Try.underlying53 Try.underlying3 rfl HTT2.out.1 (yi) rfl (.int .i64 ((0 : Nat) : Int)) rfl ?_; intro w8 ht ho hs; have HU := hid (And.intro ht ho); clear ht ho hs; go_frame)
                        go_roundw
                        case rel =>
                          have ht : NT w8 mb (updF (zeroF f ((dirtyE [] l).take ((q + 1)))) yi 0) := ⟨_, _, HU.out.1, nt_upd HTT2.out.2 yi 0⟩
                          rw [← zeroF_take HY.out] at ht
                          exact ⟨(q + 1) + 1, by go_num, by omega, hid (HDQ2.out.map ht HU.out.2), hid (GAt.kept (P := fun k => k ≠ mb ∧ k < w3.heap.size) HEQ2.out (fun b off e hl => ⟨HAR.out b off e hl, GAt.in_ HEQ2.out b off e hl⟩) (Nat.le_refl _) (fun k hk => HU.out.2.block k (Nat.lt_of_lt_of_le hk.2 HS7.out) (fun e => by injection e with e; exact hk.1 e))), hid (Nat.le_trans HS7.out HU.out.2.size)⟩
                        case measure => simp [intOf]; omega
                    · obtain rfl : q = n3 := by omega
                      have HDQ2 := hid (show DS w wr2 S cb R mb (cleanE l) (zeroF f (dirtyE [] l)) by have := HDQ.out; rwa [HL3.out, List.take_length] at this)
                      go_wp2_with fail
                      go_meet
                      case rel => exact HDQ2
                case rest =>
                  obtain ⟨w5, rfl⟩ : ∃ w5, w5 = wc := ⟨_, rfl⟩
                  have HD5 := hid hcut.out
                  have HLP := hid (dirty_any HD5.out.ca (by rw [cleanE_len]; exact Nat.le_trans HF2.out hR5))
                  clear hcut HD3 HE3
                  go_wp2_with fail
                  go_fit HLP.out
                  rintro e w6 ⟨A6, n6, c6, rfl, he6, hc6, hw6⟩
                  have hn6 := he6.len
                  rw [dirt_clean, List.length_nil] at hn6
                  subst hn6
                  rw [cleanE_two] at hc6
                  have HD6 := hid (HD5.out.call hc6 hw6 (fun _ q => .inl q) (by rw [cleanE_len]; exact HF2.out))
                  have HDK6 := hid HDK.out.clean
                  clear he6 hc6 hw6 HLP
                  go_wp2_with fail
                  go_meet
                  case rel => exact ⟨S, _, _, HD6, HDK6⟩
              · go_wp2_with fail
                go_meet
                case rel => exact ⟨S, l, f, HD2, HDK⟩
      case rest =>
        obtain ⟨S3, l3, f3, HD3, HDK3⟩ := hcut
        obtain ⟨w3, rfl⟩ : ∃ w3, w3 = wc := ⟨_, rfl⟩
        clear HD HF2 HND HDK
        go_wp2_with fail
        go_roundw
        case rel => exact ⟨j + 1, l3, f3, S3, by go_num, by omega, by omega, HD3, HDK3⟩
        case measure => simp [intOf]; omega
    · by_cases hl1 : j < m
      · have hl2 : ¬ (j : Int) < 80 := by omega
        have hl3 : (j : Int) < (m : Int) := by omega
        have HLI := hid (list_any HD.out.ca (Nat.le_trans HF2.out hR5))

        go_wp2_with fail
        go_fit HLI.out
        rintro e w4 ⟨A4, n4, c4, rfl, hr4, hb4⟩
        have HD4 := hid (HD.out.step hb4)
        have HR4 := hid (ES.row hr4 (Nat.le_trans HF2.out (by omega)))
        have hn4 : n4 ≤ 1000000 := by have h1 := hr4.1; have h3 := HF2.out; omega
        have HL4 := hid hr4.1
        have hcap4 := GRow.cap hr4
        clear hr4 hb4 HLI
        go_wp2_with fail
        go_loopw [15] (fun i wr2 => ∃ q : Nat, i = .int .i64 (q : Int) ∧ q ≤ n4 ∧ Kept (Below w4.heap.size w4 wr2)) (fun i _ => n4 - (intOf i).toNat)
        case atStart => exact ⟨0, rfl, Nat.zero_le _, hid (Below.refl _ _)⟩
        case round =>
          obtain ⟨q, rfl, hq, HBQ⟩ := hrel
          obtain ⟨wr2, rfl⟩ : ∃ wr2, wr2 = wr := ⟨_, rfl⟩
          by_cases hltq : q < n4
          · have hes := HR4.out.below HBQ.out (Nat.le_refl _)
            obtain ⟨b5, off5, y, rfl, hb5, hy, c0, c1, c2⟩ := EAt.get hes.at_ (i := q) (by rw [← HL4.out]; exact hltq)
            have hdk := HDK.out.of HND.out (List.mem_of_getElem? hy)
            have hds := HD4.out.step HBQ.out
            obtain ⟨T, n, ht1, ht2⟩ := hds.nt
            obtain ⟨yi, yb, yd⟩ := y
            have hyd2 : yd = decide (0 < f yi) := hdk.symm
            dsimp only at c0 c1 c2
            clear hdk
            subst hyd2
            obtain ⟨v, hv⟩ : ∃ v, f yi = v := ⟨_, rfl⟩
            have hb5w : b5 < wr2.heap.size := Nat.lt_of_lt_of_le hb5 HBQ.out.size
            have zl : ∀ W, Beyond wr2 W → (Instr.lookup 53 (.map (some mb)) (.int .i64 yi) false).run Try.prog W = .ok (.int .i64 (v : Int)) W := fun W hW => by
              have := (ht1.below hW).look Try.underlying53 Try.underlying3 (zero_int _) yi false
              rw [ht2, hv] at this
              exact this
            have z0 : ∀ W, Beyond wr2 W → W.cell? ⟨b5, off5 + q * 3, none⟩ = some (.int .i64 yi) := fun W hW => (Below.cell hW hb5w).trans c0
            have z2 : ∀ W, Beyond wr2 W → W.cell? ⟨b5, off5 + q * 3 + 2, none⟩ = some (.bool (decide (0 < v))) := fun W hW => by rw [← hv]; exact (Below.cell hW hb5w).trans c2
            clear hes hds ht1 ht2 hy hb5 c0 c1 c2 hv
            by_cases hpos : 0 < v
            · have hpi : (0 : Int) < (v : Int) := by omega
              rw [decide_eq_true hpos] at z2
              go_upto_region 37 with fail
              refine wp_region_held_drew (S := Beyond wr2) (by kernel_rfl) (Beyond.drew _) (fun hS => ?_)
              refine stT 0 hS ?_
              try simp only [putr]
              refine stT 1 hS ?_
              try simp only [putr]
              refine stT 2 hS ?_
              try simp only [putr]
              refine stT 3 hS ?_
              try simp only [putr]
              refine stT 4 hS ?_
              try simp only [putr]
              refine stT 5 hS ?_
              try simp only [putr]
              refine stT 6 hS ?_
              try simp only [putr]
              refine stT 7 hS ?_
              try simp only [putr]
              refine stT 8 hS ?_
              try simp only [putr]
              refine stT 9 hS ?_
              try simp only [putr]
              refine stT 10 hS ?_
              try simp only [putr]
              refine stT 11 hS ?_
              try simp only [putr]
              refine stT 12 hS ?_
              try simp only [putr]
              refine stT 13 hS ?_
              try simp only [putr]
              refine wpAnyH_done (by kernel_rfl) ?_ _
              have HB9 := hid (show Below w4.heap.size w4 wr2.drew from HBQ.out.drew)
              clear hS zl z0 z2
              generalize wr2.drew = w7 at *
              go_wp2_with fail
              go_roundw
              case rel => exact ⟨q + 1, by go_num, by omega, HB9⟩
              case measure => simp [intOf]; omega
            · have hpi : ¬ (0 : Int) < (v : Int) := by omega
              rw [decide_eq_false hpos] at z2
              go_upto_region 37 with fail
              refine wp_region_held_drew (S := Beyond wr2) (by kernel_rfl) (Beyond.drew _) (fun hS => ?_)
              refine stT 0 hS ?_
              try simp only [putr]
              refine stT 1 hS ?_
              try simp only [putr]
              refine stT 2 hS ?_
              try simp only [putr]
              refine stT 3 hS ?_
              try simp only [putr]
              refine stT 4 hS ?_
              try simp only [putr]
              refine stT 5 hS ?_
              try simp only [putr]
              refine stT 6 hS ?_
              try simp only [putr]
              refine stT 7 hS ?_
              try simp only [putr]
              refine stT 8 hS ?_
              try simp only [putr]
              refine stT 9 hS ?_
              try simp only [putr]
              refine stT 10 hS ?_
              try simp only [putr]
              refine stT 11 hS ?_
              try simp only [putr]
              refine stT 12 hS ?_
              try simp only [putr]
              refine stT 13 hS ?_
              try simp only [putr]
              refine wpAnyH_done (by kernel_rfl) ?_ _
              have HB9 := hid (show Below w4.heap.size w4 wr2.drew from HBQ.out.drew)
              clear hS zl z0 z2
              generalize wr2.drew = w7 at *
              go_wp2_with fail
              go_roundw
              case rel => exact ⟨q + 1, by go_num, by omega, HB9⟩
              case measure => simp [intOf]; omega
          · go_wp2_with fail
            go_ret
            exact ⟨rfl, HD4.out.below.trans (HBQ.out.mono HD4.out.below.size)⟩
      · have hl3 : ¬ (j : Int) < (m : Int) := by omega
        have HLI := hid (list_any HD.out.ca (Nat.le_trans HF2.out hR5))

        go_wp2_with fail
        go_fit HLI.out
        rintro e w4 ⟨A4, n4, c4, rfl, hr4, hb4⟩
        have HD4 := hid (HD.out.step hb4)
        have HR4 := hid (ES.row hr4 (Nat.le_trans HF2.out (by omega)))
        have hn4 : n4 ≤ 1000000 := by have h1 := hr4.1; have h3 := HF2.out; omega
        have HL4 := hid hr4.1
        have hcap4 := GRow.cap hr4
        clear hr4 hb4 HLI
        go_wp2_with fail
        go_loopw [15] (fun i wr2 => ∃ q : Nat, i = .int .i64 (q : Int) ∧ q ≤ n4 ∧ Kept (Below w4.heap.size w4 wr2)) (fun i _ => n4 - (intOf i).toNat)
        case atStart => exact ⟨0, rfl, Nat.zero_le _, hid (Below.refl _ _)⟩
        case round =>
          obtain ⟨q, rfl, hq, HBQ⟩ := hrel
          obtain ⟨wr2, rfl⟩ : ∃ wr2, wr2 = wr := ⟨_, rfl⟩
          by_cases hltq : q < n4
          · have hes := HR4.out.below HBQ.out (Nat.le_refl _)
            obtain ⟨b5, off5, y, rfl, hb5, hy, c0, c1, c2⟩ := EAt.get hes.at_ (i := q) (by rw [← HL4.out]; exact hltq)
            have hdk := HDK.out.of HND.out (List.mem_of_getElem? hy)
            have hds := HD4.out.step HBQ.out
            obtain ⟨T, n, ht1, ht2⟩ := hds.nt
            obtain ⟨yi, yb, yd⟩ := y
            have hyd2 : yd = decide (0 < f yi) := hdk.symm
            dsimp only at c0 c1 c2
            clear hdk
            subst hyd2
            obtain ⟨v, hv⟩ : ∃ v, f yi = v := ⟨_, rfl⟩
            have hb5w : b5 < wr2.heap.size := Nat.lt_of_lt_of_le hb5 HBQ.out.size
            have zl : ∀ W, Beyond wr2 W → (Instr.lookup 53 (.map (some mb)) (.int .i64 yi) false).run Try.prog W = .ok (.int .i64 (v : Int)) W := fun W hW => by
              have := (ht1.below hW).look Try.underlying53 Try.underlying3 (zero_int _) yi false
              rw [ht2, hv] at this
              exact this
            have z0 : ∀ W, Beyond wr2 W → W.cell? ⟨b5, off5 + q * 3, none⟩ = some (.int .i64 yi) := fun W hW => (Below.cell hW hb5w).trans c0
            have z2 : ∀ W, Beyond wr2 W → W.cell? ⟨b5, off5 + q * 3 + 2, none⟩ = some (.bool (decide (0 < v))) := fun W hW => by rw [← hv]; exact (Below.cell hW hb5w).trans c2
            clear hes hds ht1 ht2 hy hb5 c0 c1 c2 hv
            by_cases hpos : 0 < v
            · have hpi : (0 : Int) < (v : Int) := by omega
              rw [decide_eq_true hpos] at z2
              go_upto_region 37 with fail
              refine wp_region_held_drew (S := Beyond wr2) (by kernel_rfl) (Beyond.drew _) (fun hS => ?_)
              refine stT 0 hS ?_
              try simp only [putr]
              refine stT 1 hS ?_
              try simp only [putr]
              refine stT 2 hS ?_
              try simp only [putr]
              refine stT 3 hS ?_
              try simp only [putr]
              refine stT 4 hS ?_
              try simp only [putr]
              refine stT 5 hS ?_
              try simp only [putr]
              refine stT 6 hS ?_
              try simp only [putr]
              refine stT 7 hS ?_
              try simp only [putr]
              refine stT 8 hS ?_
              try simp only [putr]
              refine stT 9 hS ?_
              try simp only [putr]
              refine stT 10 hS ?_
              try simp only [putr]
              refine stT 11 hS ?_
              try simp only [putr]
              refine stT 12 hS ?_
              try simp only [putr]
              refine stT 13 hS ?_
              try simp only [putr]
              refine wpAnyH_done (by kernel_rfl) ?_ _
              have HB9 := hid (show Below w4.heap.size w4 wr2.drew from HBQ.out.drew)
              clear hS zl z0 z2
              generalize wr2.drew = w7 at *
              go_wp2_with fail
              go_roundw
              case rel => exact ⟨q + 1, by go_num, by omega, HB9⟩
              case measure => simp [intOf]; omega
            · have hpi : ¬ (0 : Int) < (v : Int) := by omega
              rw [decide_eq_false hpos] at z2
              go_upto_region 37 with fail
              refine wp_region_held_drew (S := Beyond wr2) (by kernel_rfl) (Beyond.drew _) (fun hS => ?_)
              refine stT 0 hS ?_
              try simp only [putr]
              refine stT 1 hS ?_
              try simp only [putr]
              refine stT 2 hS ?_
              try simp only [putr]
              refine stT 3 hS ?_
              try simp only [putr]
              refine stT 4 hS ?_
              try simp only [putr]
              refine stT 5 hS ?_
              try simp only [putr]
              refine stT 6 hS ?_
              try simp only [putr]
              refine stT 7 hS ?_
              try simp only [putr]
              refine stT 8 hS ?_
              try simp only [putr]
              refine stT 9 hS ?_
              try simp only [putr]
              refine stT 10 hS ?_
              try simp only [putr]
              refine stT 11 hS ?_
              try simp only [putr]
              refine stT 12 hS ?_
              try simp only [putr]
              refine stT 13 hS ?_
              try simp only [putr]
              refine wpAnyH_done (by kernel_rfl) ?_ _
              have HB9 := hid (show Below w4.heap.size w4 wr2.drew from HBQ.out.drew)
              clear hS zl z0 z2
              generalize wr2.drew = w7 at *
              go_wp2_with fail
              go_roundw
              case rel => exact ⟨q + 1, by go_num, by omega, HB9⟩
              case measure => simp [intOf]; omega
          · go_wp2_with fail
            go_ret
            exact ⟨rfl, HD4.out.below.trans (HBQ.out.mono HD4.out.below.size)⟩

theorem cadirty_int (a0 : Int) {A : Option Addr} {m c B : Nat} {xs : List Ac} {w : World} (h0 : 0 ≤ a0 ∧ a0 < 256) (hA : GAt eAct w B A xs) (hm : m = xs.length) (hB : B ≤ w.heap.size) :
    Calls Try.prog 6 #[.int .u8 a0, .slice A m c] w fun e w' => e = .returned (.bool true) ∧ Below w.heap.size w w' := by
  obtain ⟨r, rfl⟩ : ∃ r : Nat, a0 = (r : Int) := ⟨a0.toNat, by omega⟩
  exact cadirty_walk r (by omega) hA hm hB

end Go.Proofs.Ytdhjjjagjkencaa
