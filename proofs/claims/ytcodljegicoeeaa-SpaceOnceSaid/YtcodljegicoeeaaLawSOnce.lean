/-
  SpaceOnce: its walk.
-/
import Derived.Test.YtcodljegicoeeaaLawSLeast
import Derived.Test.YtcodljegicoeeaaSpMap
namespace Go.Proofs.Ytcodljegicoeeaa
open Go Go.RowKit

theorem zero_int (w : World) : (zeroValue 3).run Try.prog w = .ok (.int .i64 0) w := by kernel_rfl
theorem hasB_set {l : List Bool} {i : Nat} (hi : i < l.length) (b : Bool) (q : Int) : hasB (l.set i b) q = if q = (i : Int) then b else hasB l q := by
  by_cases h0 : q < 0
  · rw [hasB_neg h0, hasB_neg h0, if_neg (by omega)]
  · obtain ⟨k, rfl⟩ : ∃ k : Nat, q = (k : Int) := ⟨q.toNat, by omega⟩
    rw [hasB_nat, hasB_nat, List.getD_eq_getElem?_getD, List.getElem?_set]
    by_cases hk : i = k
    · subst hk; rw [if_pos rfl, if_pos hi, if_pos rfl]; rfl
    · rw [if_neg hk, if_neg (by omega), List.getD_eq_getElem?_getD]
theorem updT_is {M : TabF} {l : List Bool} {i : Nat} (h : ∀ q, (M q).isSome = hasB l q) (hi : i < l.length) (b : Bool) (v : Option Value) (hv : v.isSome = b) (q : Int) : (updT M (i : Int) v q).isSome = hasB (l.set i b) q := by
  rw [hasB_set hi]
  unfold updT
  by_cases hq : q = (i : Int)
  · rw [if_pos hq, if_pos hq]; exact hv
  · rw [if_neg hq, if_neg hq]; exact h q
theorem count_up {l : List Bool} {i cnt : Nat} (h : cnt = l.count true) (hi : i < l.length) (h0 : l.getD i false = false) : cnt + 1 = (l.set i true).count true := by
  rw [List.count_set hi]
  rw [List.getD_eq_getElem?_getD, List.getElem?_eq_getElem hi] at h0
  simp at h0
  simp [h0, h]
theorem count_dn {l : List Bool} {i cnt : Nat} (h : cnt = l.count true) (hi : i < l.length) (h0 : l.getD i false = true) : cnt - 1 = (l.set i false).count true := by
  rw [List.count_set hi]
  rw [List.getD_eq_getElem?_getD, List.getElem?_eq_getElem hi] at h0
  simp at h0
  simp [h0, h]
theorem left_val {l : List Bool} {k cnt : Nat} (h : l.length = k) (hc : cnt = l.count true) : (leftB l : Int) = (k : Int) - (cnt : Int) ∧ cnt ≤ k := by
  have hle := List.count_le_length (a := true) (l := l)
  rw [left_count]
  omega

/-- what an act that is refused, or is none, leaves; what one that succeeds turns -/
theorem act_free {l : List Bool} (h : fstF l < l.length) (pg : Int) : actB l 0 pg = (l.set (fstF l) true, fstF l, 0) := by
  show takeB l = _
  unfold takeB
  rw [if_pos h]
theorem act_full {l : List Bool} (h : ¬ fstF l < l.length) (pg : Int) : actB l 0 pg = (l, 0, 91) := by
  show takeB l = _
  unfold takeB
  rw [if_neg h]
theorem act_claim {l : List Bool} {i : Nat} (hi : i < l.length) (h : l.getD i false = false) : actB l 1 (i : Int) = (l.set i true, 0, 0) := by
  show ((turnB l (i : Int) true).1, 0, (turnB l (i : Int) true).2) = _
  unfold turnB
  rw [if_pos ⟨by unfold inB; simp; omega, by rw [hasB_nat, h]; decide⟩]
  simp
theorem act_claim_no {l : List Bool} {pg : Int} (h : ¬ (inB l pg = true ∧ hasB l pg ≠ true)) : actB l 1 pg = (l, 0, 92) := by
  show ((turnB l pg true).1, 0, (turnB l pg true).2) = _
  unfold turnB
  rw [if_neg h]
theorem act_back {l : List Bool} {i : Nat} (hi : i < l.length) (h : l.getD i false = true) : actB l 2 (i : Int) = (l.set i false, 0, 0) := by
  show ((turnB l (i : Int) false).1, 0, (turnB l (i : Int) false).2) = _
  unfold turnB
  rw [if_pos ⟨by unfold inB; simp; omega, by rw [hasB_nat, h]; decide⟩]
  simp
theorem act_back_no {l : List Bool} {pg : Int} (h : ¬ (inB l pg = true ∧ hasB l pg ≠ false)) : actB l 2 pg = (l, 0, 92) := by
  show ((turnB l pg false).1, 0, (turnB l pg false).2) = _
  unfold turnB
  rw [if_neg h]
theorem act_none {l : List Bool} {kd pg : Int} (h : kd < 0 ∨ 2 < kd) : actB l kd pg = (l, 0, 0) := by
  unfold actB
  rw [if_neg (by omega), if_neg (by omega), if_neg (by omega)]

set_option maxHeartbeats 8000000 in
set_option maxRecDepth 100000 in
theorem sonce_walk (n : Int) (A : Option Addr) (c : Nat) (xs : List (Int × Int)) (w : World) (hx : AcAt w w.heap.size A xs) :
    Calls Try.prog 6 #[.int .i64 n, .slice A xs.length c] w fun e w' => e = .returned (.bool true) ∧ Below w.heap.size w w' := by
  have HAW := hid (show ∀ W : World, Calls Try.prog 10 #[] W fun e w' => e = .returned (.bool true) ∧ Below W.heap.size W w' from awake_yes)
  have HX := hid hx
  clear hx
  by_cases hn : n < 1 ∨ 256 < n
  · have HN := hid (new_no (n := n) (w := w) hn)
    clear hn
    go_enter Try.func6, Try.ntmps6
    go_wp2_with fail
    go_fit HN.out
    rintro e w1 ⟨rfl, rfl⟩
    go_wp2_with fail
    go_fit (HAW.out w)
    rintro e w1 ⟨rfl, hb1⟩
    have HB1 := hid hb1
    clear hb1
    go_wp2_with fail
    go_fit (HAW.out w1)
    rintro e w2 ⟨rfl, hb2⟩
    go_wp2_with fail
    go_ret
    exact ⟨rfl, below_step HB1.out hb2⟩
  · obtain ⟨k, rfl⟩ : ∃ k : Nat, n = (k : Int) := ⟨n.toNat, by omega⟩
    have hk1 : 1 ≤ k := by omega
    have hk2 : k ≤ 256 := by omega
    have HN := hid (new_yes (w := w) hk1 hk2)
    clear hn
    obtain ⟨m, hml⟩ : ∃ m, xs.length = m := ⟨_, rfl⟩
    have HML := hid hml
    rw [hml]
    clear hml
    go_enter Try.func6, Try.ntmps6
    go_wp2_with fail
    go_fit HN.out
    rintro e w1 ⟨rfl, hs1, hb1⟩
    have HS1 := hid hs1
    have HB1 := hid hb1
    clear hs1 hb1 HN
    obtain ⟨p, hp⟩ : ∃ p, w.heap.size = p := ⟨_, rfl⟩
    rw [hp] at HS1
    rw [hp]
    have HPP := hid hp
    clear hp
    go_wp2_with fail
    go_fit (HAW.out w1)
    rintro e w3 ⟨rfl, hb3⟩
    have HB3 := hid (below_step HB1.out hb3)
    have HS3 := hid (HS1.out.step hb3)
    clear hb3 HB1 HS1
    have hmm := @run_makeMap Try.prog
    go_upto_region 5 with fail
    clear hmm
    have hb4 := (Below.refl w3.heap.size w3).alloc (Nat.le_refl _) (.map #[] 0)
    have HS4 := hid (HS3.out.step hb4)
    have HB4 := hid (below_step HB3.out hb4)
    have HT4 := hid (Tab.made w3)
    have HGP := hid (show w3.heap.size ≠ p by have := HS3.out.lt; omega)
    have HGW := hid HB3.out.size
    clear hb4 HS3 HB3
    generalize w3.alloc (.map #[] 0) = w4 at *
    generalize w3.heap.size = g at *
    go_wp2_with fail
    go_loopw [8] (fun i wr => ∃ (j : Nat) (l : List Bool) (M : TabF) (cnt : Nat), i = .int .i64 (j : Int) ∧ j ≤ m ∧ j ≤ 100 ∧ Kept (l.length = k) ∧ Kept (SpIn wr p l) ∧ Kept (Tab wr g M cnt) ∧ Kept (∀ q, (M q).isSome = hasB l q) ∧ Kept (cnt = l.count true) ∧ Kept (Below w.heap.size w wr)) (fun i _ => m - (intOf i).toNat)
    case atStart => exact ⟨0, List.replicate k false, _, 0, rfl, Nat.zero_le _, Nat.zero_le _, hid (by simp), HS4, HT4, hid (fun q => by
      unfold hasB
      rw [List.getD_eq_getElem?_getD, List.getElem?_replicate]
      by_cases h : q.toNat < k <;> simp [h]), hid (by simp [List.count_replicate]), HB4⟩
    case round =>
      obtain ⟨j, l, M, cnt, rfl, hj, hj2, HLN, HS, HT, HM, HC, HB⟩ := hrel
      clear HS4 HB4 HT4
      by_cases hlt : j < m ∧ j < 100
      · obtain ⟨hlt1, hlt2⟩ := hlt
        obtain ⟨b, off, x, rfl, hxj, c0, c1⟩ := (HX.out.below HB.out).get (i := j) (by have := HML.out; omega)
        obtain ⟨kd, pg⟩ := x
        dsimp only at c0 c1
        have HXJ := hid hxj
        clear hxj
        have HDD := hid (do_any HS.out kd pg)
        by_cases hkn : kd < 0 ∨ 2 < kd
        · rw [act_none hkn] at HDD
          have hk0 : (kd == 0) = false := by simp; omega
          rcases hkn with hk1 | hk1
          · skip
            go_wp2_with fail
            go_fit HDD.out
            rintro e w6 ⟨rfl, hs6, ho6⟩
            have HS6 := hid hs6
            have HB6 := hid (HB.out.grown ho6 HB.out.size (fun k hk => by injection hk with hk; have := HPP.out; omega))
            have HT6 := hid (HT.out.only ho6 HGP.out)
            obtain ⟨d0, d1⟩ := (HX.out.below HB6.out).at HXJ.out
            dsimp only at d0 d1
            clear hs6 ho6 HDD HB HS HT c0 c1
            go_wp2_with fail
            go_roundw
            case rel => exact ⟨j + 1, l, M, cnt, by go_num, by omega, by omega, HLN, HS6, HT6, HM, HC, HB6⟩
            case measure => simp [intOf]; omega
          · have hk3 : ¬ kd < 0 := by omega
            go_wp2_with fail
            go_fit HDD.out
            rintro e w6 ⟨rfl, hs6, ho6⟩
            have HS6 := hid hs6
            have HB6 := hid (HB.out.grown ho6 HB.out.size (fun k hk => by injection hk with hk; have := HPP.out; omega))
            have HT6 := hid (HT.out.only ho6 HGP.out)
            obtain ⟨d0, d1⟩ := (HX.out.below HB6.out).at HXJ.out
            dsimp only at d0 d1
            clear hs6 ho6 HDD HB HS HT c0 c1
            go_wp2_with fail
            go_roundw
            case rel => exact ⟨j + 1, l, M, cnt, by go_num, by omega, by omega, HLN, HS6, HT6, HM, HC, HB6⟩
            case measure => simp [intOf]; omega
        · obtain hk3 : kd = 0 ∨ kd = 1 ∨ kd = 2 := by omega
          clear hkn
          rcases hk3 with rfl | rfl | rfl
          · by_cases hf : fstF l < l.length
            · rw [act_free hf] at HDD
              have HI := hid (And.intro hf (fstF_free hf))
              generalize fstF l = i at *
              clear hf
              go_wp2_with fail
              go_fit HDD.out
              rintro e w6 ⟨rfl, hs6, ho6⟩
              have HS6 := hid hs6
              have HB6 := hid (HB.out.grown ho6 HB.out.size (fun k hk => by injection hk with hk; have := HPP.out; omega))
              have HT6 := hid (HT.out.only ho6 HGP.out)
              obtain ⟨d0, d1⟩ := (HX.out.below HB6.out).at HXJ.out
              dsimp only at d0 d1
              clear hs6 ho6 HDD HB HS HT c0 c1
              obtain ⟨vv, hvv⟩ : ∃ vv, (M (i : Int)).getD (.int .i64 0) = vv := ⟨_, rfl⟩
              have HLK := hid (show (M (i : Int)).getD (.int .i64 0) = vv ∧ (M (i : Int)).isSome = false from ⟨hvv, by rw [HM.out, hasB_nat]; exact HI.out.2⟩)
              clear hvv
              have hik : (i : Int) < (k : Int) := by have := HI.out.1; have := HS6.out.few; have := HLN.out; omega
              go_wp2_with (first
                | (at_lookup; refine wpList_lookOk _ rfl _ _ 47 rfl 3 3 Try.underlying47 Try.underlying3 (zero_int _) rfl HT6.out (i : Int) rfl HLK.out.1 HLK.out.2 ?_)
                | (at_mapUpdate; refine wpList_put _ rfl _ _ _ 47 rfl 3 3 Try.underlying47 Try.underlying3 rfl HT6.out (i : Int) rfl (.int .i64 (j : Int)) rfl ?_; intro w7 ht7 ho7 hs7; have HX7 := hid (And.intro ht7 (And.intro ho7 hs7)); clear ht7 ho7 hs7; go_frame))
              obtain ⟨ht7, ho7, hs7⟩ := HX7.out
              rw [HLK.out.2, if_neg (by decide)] at ht7
              have HT7 := hid ht7
              have HB7 := hid (HB6.out.grown ho7 HB6.out.size (fun k hk => by injection hk with hk; have := HGW.out; omega))
              have HS7 := hid (HS6.out.only ho7 (Ne.symm HGP.out))
              have HM7 := hid (fun q => (updT_is (HM.out) HI.out.1 true (some (.int .i64 (j : Int))) rfl q : (updT M (i : Int) (some (.int .i64 (j : Int))) q).isSome = hasB (l.set i true) q))
              have HLL := hid (left_any HS7.out)
              have HC7 := hid (count_up HC.out HI.out.1 HI.out.2)
              have HLV := hid (left_val (k := k) (l := l.set i true) (by rw [List.length_set]; exact HLN.out) HC7.out)
              rw [HLV.out.1] at HLL
              clear ht7 ho7 hs7 HX7 HM HC HT6 HB6 HS6
              generalize hcn : (cnt + 1) = cnt7 at *
              have hcle : cnt7 ≤ k := HLV.out.2
              have hws : IntKind.i64.wrap ((k : Int) - (cnt7 : Int)) = (k : Int) - (cnt7 : Int) := IntWalk.i64_in _ ⟨by omega, by omega⟩
              clear hcn
              go_fit HLL.out
              rintro e w8 ⟨rfl, hb8⟩
              have HT8 := hid (HT7.out.below hb8)
              have HS8 := hid (HS7.out.step hb8)
              have HB8 := hid (HB7.out.trans (hb8.mono HB7.out.size))
              clear hb8 HLL
              go_wp2_with (at_len; refine wpList_lenT _ rfl _ 47 rfl 3 3 Try.underlying47 rfl HT8.out ?_)
              go_roundw
              case rel => exact ⟨j + 1, _, _, cnt7, by go_num, by omega, by omega, hid (by rw [List.length_set]; exact HLN.out), HS8, HT8, HM7, HC7, HB8⟩
              case measure => simp [intOf]; omega
            · rw [act_full hf] at HDD
              clear hf
              go_wp2_with fail
              go_fit HDD.out
              rintro e w6 ⟨rfl, hs6, ho6⟩
              have HS6 := hid hs6
              have HB6 := hid (HB.out.grown ho6 HB.out.size (fun k hk => by injection hk with hk; have := HPP.out; omega))
              have HT6 := hid (HT.out.only ho6 HGP.out)
              obtain ⟨d0, d1⟩ := (HX.out.below HB6.out).at HXJ.out
              dsimp only at d0 d1
              clear hs6 ho6 HDD HB HS HT c0 c1
              go_wp2_with fail
              go_roundw
              case rel => exact ⟨j + 1, l, M, cnt, by go_num, by omega, by omega, HLN, HS6, HT6, HM, HC, HB6⟩
              case measure => simp [intOf]; omega
          · by_cases hf : inB l pg = true ∧ hasB l pg ≠ true
            · obtain ⟨i, rfl, hi⟩ := inB_true hf.1
              have h0 : l.getD i false = false := by have := hf.2; rw [hasB_nat] at this; simpa using this
              rw [act_claim hi h0] at HDD
              have HI := hid (And.intro hi h0)
              clear hf hi h0
              go_wp2_with fail
              go_fit HDD.out
              rintro e w6 ⟨rfl, hs6, ho6⟩
              have HS6 := hid hs6
              have HB6 := hid (HB.out.grown ho6 HB.out.size (fun k hk => by injection hk with hk; have := HPP.out; omega))
              have HT6 := hid (HT.out.only ho6 HGP.out)
              obtain ⟨d0, d1⟩ := (HX.out.below HB6.out).at HXJ.out
              dsimp only at d0 d1
              clear hs6 ho6 HDD HB HS HT c0 c1
              obtain ⟨vv, hvv⟩ : ∃ vv, (M (i : Int)).getD (.int .i64 0) = vv := ⟨_, rfl⟩
              have HLK := hid (show (M (i : Int)).getD (.int .i64 0) = vv ∧ (M (i : Int)).isSome = false from ⟨hvv, by rw [HM.out, hasB_nat]; exact HI.out.2⟩)
              clear hvv
              have hik : (i : Int) < (k : Int) := by have := HI.out.1; have := HS6.out.few; have := HLN.out; omega
              go_wp2_with (first
                | (at_lookup; refine wpList_lookOk _ rfl _ _ 47 rfl 3 3 Try.underlying47 Try.underlying3 (zero_int _) rfl HT6.out (i : Int) rfl HLK.out.1 HLK.out.2 ?_)
                | (at_mapUpdate; refine wpList_put _ rfl _ _ _ 47 rfl 3 3 Try.underlying47 Try.underlying3 rfl HT6.out (i : Int) rfl (.int .i64 (j : Int)) rfl ?_; intro w7 ht7 ho7 hs7; have HX7 := hid (And.intro ht7 (And.intro ho7 hs7)); clear ht7 ho7 hs7; go_frame))
              obtain ⟨ht7, ho7, hs7⟩ := HX7.out
              rw [HLK.out.2, if_neg (by decide)] at ht7
              have HT7 := hid ht7
              have HB7 := hid (HB6.out.grown ho7 HB6.out.size (fun k hk => by injection hk with hk; have := HGW.out; omega))
              have HS7 := hid (HS6.out.only ho7 (Ne.symm HGP.out))
              have HM7 := hid (fun q => (updT_is (HM.out) HI.out.1 true (some (.int .i64 (j : Int))) rfl q : (updT M (i : Int) (some (.int .i64 (j : Int))) q).isSome = hasB (l.set i true) q))
              have HLL := hid (left_any HS7.out)
              have HC7 := hid (count_up HC.out HI.out.1 HI.out.2)
              have HLV := hid (left_val (k := k) (l := l.set i true) (by rw [List.length_set]; exact HLN.out) HC7.out)
              rw [HLV.out.1] at HLL
              clear ht7 ho7 hs7 HX7 HM HC HT6 HB6 HS6
              generalize hcn : (cnt + 1) = cnt7 at *
              have hcle : cnt7 ≤ k := HLV.out.2
              have hws : IntKind.i64.wrap ((k : Int) - (cnt7 : Int)) = (k : Int) - (cnt7 : Int) := IntWalk.i64_in _ ⟨by omega, by omega⟩
              clear hcn
              go_fit HLL.out
              rintro e w8 ⟨rfl, hb8⟩
              have HT8 := hid (HT7.out.below hb8)
              have HS8 := hid (HS7.out.step hb8)
              have HB8 := hid (HB7.out.trans (hb8.mono HB7.out.size))
              clear hb8 HLL
              go_wp2_with (at_len; refine wpList_lenT _ rfl _ 47 rfl 3 3 Try.underlying47 rfl HT8.out ?_)
              go_roundw
              case rel => exact ⟨j + 1, _, _, cnt7, by go_num, by omega, by omega, hid (by rw [List.length_set]; exact HLN.out), HS8, HT8, HM7, HC7, HB8⟩
              case measure => simp [intOf]; omega
            · rw [act_claim_no hf] at HDD
              clear hf
              go_wp2_with fail
              go_fit HDD.out
              rintro e w6 ⟨rfl, hs6, ho6⟩
              have HS6 := hid hs6
              have HB6 := hid (HB.out.grown ho6 HB.out.size (fun k hk => by injection hk with hk; have := HPP.out; omega))
              have HT6 := hid (HT.out.only ho6 HGP.out)
              obtain ⟨d0, d1⟩ := (HX.out.below HB6.out).at HXJ.out
              dsimp only at d0 d1
              clear hs6 ho6 HDD HB HS HT c0 c1
              go_wp2_with fail
              go_roundw
              case rel => exact ⟨j + 1, l, M, cnt, by go_num, by omega, by omega, HLN, HS6, HT6, HM, HC, HB6⟩
              case measure => simp [intOf]; omega
          · by_cases hf : inB l pg = true ∧ hasB l pg ≠ false
            · obtain ⟨i, rfl, hi⟩ := inB_true hf.1
              have h0 : l.getD i false = true := by have := hf.2; rw [hasB_nat] at this; simpa using this
              rw [act_back hi h0] at HDD
              have HI := hid (And.intro hi h0)
              clear hf hi h0
              go_wp2_with fail
              go_fit HDD.out
              rintro e w6 ⟨rfl, hs6, ho6⟩
              have HS6 := hid hs6
              have HB6 := hid (HB.out.grown ho6 HB.out.size (fun k hk => by injection hk with hk; have := HPP.out; omega))
              have HT6 := hid (HT.out.only ho6 HGP.out)
              obtain ⟨d0, d1⟩ := (HX.out.below HB6.out).at HXJ.out
              dsimp only at d0 d1
              clear hs6 ho6 HDD HB HS HT c0 c1
              obtain ⟨vv, hvv⟩ : ∃ vv, (M (i : Int)).getD (.int .i64 0) = vv := ⟨_, rfl⟩
              have HLK := hid (show (M (i : Int)).getD (.int .i64 0) = vv ∧ (M (i : Int)).isSome = true from ⟨hvv, by rw [HM.out, hasB_nat]; exact HI.out.2⟩)
              clear hvv
              have hik : (i : Int) < (k : Int) := by have := HI.out.1; have := HS6.out.few; have := HLN.out; omega
              go_wp2_with (first
                | (at_lookup; refine wpList_lookOk _ rfl _ _ 47 rfl 3 3 Try.underlying47 Try.underlying3 (zero_int _) rfl HT6.out (i : Int) rfl HLK.out.1 HLK.out.2 ?_)
                | (at_delete; refine wpList_drop _ rfl _ _ 47 3 rfl 3 Try.underlying47 Try.underlying3 rfl HT6.out (i : Int) rfl ?_; intro w7 ht7 ho7 hs7; have HX7 := hid (And.intro ht7 (And.intro ho7 hs7)); clear ht7 ho7 hs7; go_frame))
              obtain ⟨ht7, ho7, hs7⟩ := HX7.out
              rw [HLK.out.2, if_pos rfl] at ht7
              have HT7 := hid ht7
              have HB7 := hid (HB6.out.grown ho7 HB6.out.size (fun k hk => by injection hk with hk; have := HGW.out; omega))
              have HS7 := hid (HS6.out.only ho7 (Ne.symm HGP.out))
              have HM7 := hid (fun q => (updT_is (HM.out) HI.out.1 false none rfl q : (updT M (i : Int) none q).isSome = hasB (l.set i false) q))
              have HLL := hid (left_any HS7.out)
              have HC7 := hid (count_dn HC.out HI.out.1 HI.out.2)
              have HLV := hid (left_val (k := k) (l := l.set i false) (by rw [List.length_set]; exact HLN.out) HC7.out)
              rw [HLV.out.1] at HLL
              clear ht7 ho7 hs7 HX7 HM HC HT6 HB6 HS6
              generalize hcn : (cnt - 1) = cnt7 at *
              have hcle : cnt7 ≤ k := HLV.out.2
              have hws : IntKind.i64.wrap ((k : Int) - (cnt7 : Int)) = (k : Int) - (cnt7 : Int) := IntWalk.i64_in _ ⟨by omega, by omega⟩
              clear hcn
              go_fit HLL.out
              rintro e w8 ⟨rfl, hb8⟩
              have HT8 := hid (HT7.out.below hb8)
              have HS8 := hid (HS7.out.step hb8)
              have HB8 := hid (HB7.out.trans (hb8.mono HB7.out.size))
              clear hb8 HLL
              go_wp2_with (at_len; refine wpList_lenT _ rfl _ 47 rfl 3 3 Try.underlying47 rfl HT8.out ?_)
              go_roundw
              case rel => exact ⟨j + 1, _, _, cnt7, by go_num, by omega, by omega, hid (by rw [List.length_set]; exact HLN.out), HS8, HT8, HM7, HC7, HB8⟩
              case measure => simp [intOf]; omega
            · rw [act_back_no hf] at HDD
              clear hf
              go_wp2_with fail
              go_fit HDD.out
              rintro e w6 ⟨rfl, hs6, ho6⟩
              have HS6 := hid hs6
              have HB6 := hid (HB.out.grown ho6 HB.out.size (fun k hk => by injection hk with hk; have := HPP.out; omega))
              have HT6 := hid (HT.out.only ho6 HGP.out)
              obtain ⟨d0, d1⟩ := (HX.out.below HB6.out).at HXJ.out
              dsimp only at d0 d1
              clear hs6 ho6 HDD HB HS HT c0 c1
              go_wp2_with fail
              go_roundw
              case rel => exact ⟨j + 1, l, M, cnt, by go_num, by omega, by omega, HLN, HS6, HT6, HM, HC, HB6⟩
              case measure => simp [intOf]; omega
      · have hst : ¬ j < m ∨ j < m ∧ ¬ j < 100 := by omega
        clear hlt
        rcases hst with hlt1 | ⟨hlt1, hlt2⟩
        · go_wp2_with fail
          go_ret
          exact ⟨rfl, HB.out⟩
        · go_wp2_with fail
          go_ret
          exact ⟨rfl, HB.out⟩

end Go.Proofs.Ytcodljegicoeeaa
