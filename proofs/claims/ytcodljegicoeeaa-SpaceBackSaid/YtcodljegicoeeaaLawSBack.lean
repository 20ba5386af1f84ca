/-
  SpaceBack: its walk.
-/
import Derived.Test.YtcodljegicoeeaaLawSPlays
namespace Go.Proofs.Ytcodljegicoeeaa
open Go Go.RowKit

theorem venc_runs : ∀ (l : List Bool) (t : Bool) (n : Nat), (venc (runsF l t n)).length ≤ 10 * (l.length + 1)
  | [], t, n => by
    have h2 : (vbytes n).length ≤ 10 := by rw [vbytes_length]; have := vlen_le n; omega
    simpa [runsF, venc] using h2
  | x :: r, t, n => by
    unfold runsF
    by_cases h : x = t
    · rw [if_pos h]
      have := venc_runs r t (n + 1)
      simp only [List.length_cons]
      omega
    · rw [if_neg h]
      have := venc_runs r (!t) 1
      have h2 : (vbytes n).length ≤ 10 := by rw [vbytes_length]; have := vlen_le n; omega
      have e : venc (n :: runsF r (!t) 1) = vbytes n ++ venc (runsF r (!t) 1) := by simp [venc]
      rw [e, List.length_append, List.length_cons]
      omega
theorem sbytes_len {l : List Bool} (h : l.length ≤ 256) : (sbytes l).length ≤ 100000 := by
  have := venc_runs l false 0
  have h2 := vlen_le l.length
  unfold sbytes
  rw [List.length_append, vbytes_length]
  omega
set_option maxHeartbeats 8000000 in
set_option maxRecDepth 100000 in
theorem sback_walk (n : Int) (A : Option Addr) (c : Nat) (xs : List (Int × Int)) (C : Option Addr) (cc : Nat) (ys : List (Int × Int)) (w : World) (hx : AcAt w w.heap.size A xs) (hy : AcAt w w.heap.size C ys) :
    Calls Try.prog 5 #[.int .i64 n, .slice A xs.length c, .slice C ys.length cc] w fun e w' => e = .returned (.bool true) ∧ Below w.heap.size w w' := by
  have HAW := hid (show ∀ W : World, Calls Try.prog 10 #[] W fun e w' => e = .returned (.bool true) ∧ Below W.heap.size W w' from awake_yes)
  have HX := hid hx
  have HY := hid hy
  clear hx hy
  by_cases hn : n < 1 ∨ 256 < n
  · have HN := hid (new_no (n := n) (w := w) hn)
    clear hn
    go_enter Try.func5, Try.ntmps5
    go_wp2_with fail
    go_fit HN.out
    rintro e w1 ⟨rfl, rfl⟩
    go_wp2_with fail
    go_fit (HAW.out w)
    rintro e w1 ⟨rfl, hb1⟩
    have HB1 := hid hb1
    clear hb1
    go_wp2_with fail
    go_fit (HAW.out w1)
    rintro e w2 ⟨rfl, hb2⟩
    go_wp2_with fail
    go_ret
    exact ⟨rfl, below_step HB1.out hb2⟩
  · obtain ⟨k, rfl⟩ : ∃ k : Nat, n = (k : Int) := ⟨n.toNat, by omega⟩
    have hk1 : 1 ≤ k := by omega
    have hk2 : k ≤ 256 := by omega
    have HN := hid (new_yes (w := w) hk1 hk2)
    clear hn
    obtain ⟨m, hml⟩ : ∃ m, xs.length = m := ⟨_, rfl⟩
    have HML := hid hml
    rw [hml]
    clear hml
    obtain ⟨m2, hml⟩ : ∃ m2, ys.length = m2 := ⟨_, rfl⟩
    have HML2 := hid hml
    rw [hml]
    clear hml
    go_enter Try.func5, Try.ntmps5
    go_wp2_with fail
    go_fit HN.out
    rintro e w1 ⟨rfl, hs1, hb1⟩
    have HS1 := hid hs1
    have HB1 := hid hb1
    clear hs1 hb1 HN
    obtain ⟨p, hp⟩ : ∃ p, w.heap.size = p := ⟨_, rfl⟩
    rw [hp] at HS1
    rw [hp]
    have HPP := hid hp
    clear hp
    go_wp2_with fail
    go_fit (HAW.out w1)
    rintro e w3 ⟨rfl, hb3⟩
    have HB3 := hid (below_step HB1.out hb3)
    have HS3 := hid (HS1.out.step hb3)
    clear hb3 HB1 HS1
    go_wp2_with fail
    go_loopw [9] (fun i wr => ∃ (j : Nat) (l : List Bool), i = .int .i64 (j : Int) ∧ j ≤ m ∧ j ≤ 60 ∧ Kept (SpIn wr p l) ∧ Kept (Below w.heap.size w wr)) (fun i _ => m - (intOf i).toNat)
    case atStart => exact ⟨0, _, rfl, Nat.zero_le _, Nat.zero_le _, HS3, HB3⟩
    case round =>
      obtain ⟨j, l, rfl, hj, hj2, HS, HB⟩ := hrel
      clear HS3 HB3
      by_cases hlt : j < m ∧ j < 60
      · obtain ⟨hlt1, hlt2⟩ := hlt
        obtain ⟨b, off, x, rfl, hxj, d0, d1⟩ := (HX.out.below HB.out).get (i := j) (by have := HML.out; omega)
        obtain ⟨kd, pg⟩ := x
        dsimp only at d0 d1
        have HDD := hid (do_any HS.out kd pg)
        clear hxj
        go_wp2_with fail
        go_fit HDD.out
        rintro e w6 ⟨rfl, hs6, ho6⟩
        have HS6 := hid hs6
        have HB6 := hid (HB.out.grown ho6 HB.out.size (fun k hk => by injection hk with hk; have := HPP.out; omega))
        clear hs6 ho6 HDD HB HS
        go_wp2_with fail
        go_roundw
        case rel => exact ⟨j + 1, _, by go_num, by omega, by omega, HS6, HB6⟩
        case measure => simp [intOf]; omega
      · have hst : ¬ j < m ∨ j < m ∧ ¬ j < 60 := by omega
        clear hlt
        rcases hst with hlt1 | ⟨hlt1, hlt2⟩
        · go_wp2_with fail
          have HYB := hid (sbytes_any HS.out)
          go_fit HYB.out
          rintro e w4 ⟨A4, m4, c4, rfl, hr4, hb4⟩
          have HB4 := hid (HB.out.trans (hb4.mono HB.out.size))
          have HS4 := hid (HS.out.step hb4)
          have HO := hid (of_any (c := c4) hr4.at_ hr4.1 (Nat.le_refl _) (sbytes_len HS.out.few.2))
          rw [sof_sbytes HS.out.few.1 HS.out.few.2] at HO
          clear hr4 hb4 HYB HB HS
          go_wp2_with fail
          go_fit HO.out
          rintro e w5 ⟨hgot, hb5⟩
          obtain ⟨q, rfl, hq5, hqz⟩ : ∃ s, e = .returned (.tuple #[.pointer (some ⟨s, 0, none⟩), .int .i64 0]) ∧ SpIn w5 s l ∧ w4.heap.size ≤ s := hgot
          have HQ := hid (show p < q from Nat.lt_of_lt_of_le HS4.out.lt hqz)
          have HQ5 := hid hq5
          have HS5 := hid (HS4.out.step hb5)
          have HB5 := hid (HB4.out.trans (hb5.mono HB4.out.size))
          clear hq5 hqz hb5 HS4 HB4 HO
          go_wp2_with fail
          go_loopw [12] (fun i wr => ∃ (j : Nat) (l : List Bool), i = .int .i64 (j : Int) ∧ j ≤ m2 ∧ j ≤ 60 ∧ Kept (SpIn wr p l) ∧ Kept (SpIn wr q l) ∧ Kept (Below w.heap.size w wr)) (fun i _ => m2 - (intOf i).toNat)
          case atStart => exact ⟨0, _, rfl, Nat.zero_le _, Nat.zero_le _, HS5, HQ5, HB5⟩
          case round =>
            obtain ⟨j, l, rfl, hj, hj2, HS, HQS, HB⟩ := hrel
            clear HS5 HQ5 HB5
            by_cases hlt : j < m2 ∧ j < 60
            · obtain ⟨hlt1, hlt2⟩ := hlt
              obtain ⟨b, off, x, rfl, hxj, d0, d1⟩ := (HY.out.below HB.out).get (i := j) (by have := HML2.out; omega)
              obtain ⟨kd, pg⟩ := x
              dsimp only at d0 d1
              have HXJ := hid hxj
              have HDD := hid (do_any HS.out kd pg)
              clear hxj
              go_wp2_with fail
              go_fit HDD.out
              rintro e w6 ⟨rfl, hs6, ho6⟩
              have HS6 := hid hs6
              have HQ6 := hid (HQS.out.only ho6 (Nat.ne_of_gt HQ.out))
              have HB6 := hid (HB.out.grown ho6 HB.out.size (fun k hk => by injection hk with hk; have := HPP.out; omega))
              have HD2 := hid (do_any HQ6.out kd pg)
              obtain ⟨e0, e1⟩ := (HY.out.below HB6.out).at HXJ.out
              dsimp only at e0 e1
              clear hs6 ho6 HDD HB HS HQS d0 d1
              go_wp2_with fail
              go_fit HD2.out
              rintro e w7 ⟨rfl, hs7, ho7⟩
              have HQ7 := hid hs7
              have HS7 := hid (HS6.out.only ho7 (Nat.ne_of_lt HQ.out))
              have HB7 := hid (HB6.out.grown ho7 HB6.out.size (fun k hk => by injection hk with hk; have := HPP.out; have := HQ.out; omega))
              clear hs7 ho7 HD2 HB6 HS6 HQ6
              go_wp2_with fail
              go_roundw
              case rel => exact ⟨j + 1, _, by go_num, by omega, by omega, HS7, HQ7, HB7⟩
              case measure => simp [intOf]; omega
            · have hst : ¬ j < m2 ∨ j < m2 ∧ ¬ j < 60 := by omega
              have HZ1 := hid (fun (W : World) (hW : Beyond wr W) => sbytes_any (HS.out.step hW))
              have HZ2 := hid (fun (W : World) (hW : Beyond wr W) => sbytes_any (HQS.out.step hW))
              have HL1 := hid (fun (W : World) (hW : Beyond wr W) => left_any (HS.out.step hW))
              have HL2 := hid (fun (W : World) (hW : Beyond wr W) => left_any (HQS.out.step hW))
              clear hlt
              rcases hst with hlt3 | ⟨hlt3, hlt4⟩
              · go_upto_region 18 with fail
                refine wp_region_held_drew (S := Beyond wr) (by kernel_rfl) (Beyond.drew _) (fun hS => ?_)
                refine take_step (i := 0) (by simp only [List.getElem?_toArray, List.getElem?_cons_zero]; rfl) (by kernel_rfl) (by kernel_rfl) (by kernel_rfl) (by intro _ _ _ h; exact h) (by rfl) (fun W hW => by go_simp; first | done | with_reducible rfl) hS ?_
                try simp only [Act.put, List.setIfInBounds_toArray, List.set_cons_zero, List.set_cons_succ]
                refine take_step (i := 3) (by simp only [List.getElem?_toArray, List.getElem?_cons_succ, List.getElem?_cons_zero]; rfl) (by kernel_rfl) (by kernel_rfl) (by kernel_rfl) (by intro _ _ _ h; exact h) (by rfl) (fun W hW => by go_simp; first | done | with_reducible rfl) hS ?_
                try simp only [Act.put, List.setIfInBounds_toArray, List.set_cons_zero, List.set_cons_succ]
                refine wpAnyH_ready (rs := [1]) (by kernel_rfl) (by simp) ?_
                refine AllReadyH.cons (by simp only [List.getElem?_toArray, List.getElem?_cons_succ, List.getElem?_cons_zero]; rfl) (fun K hK => ?_) AllReadyH.nil
                go_simp
                go_fit (HZ1.out _ hS)
                rintro e w7 ⟨A1, m1, c1, rfl, hr1, hb1⟩
                have hS1 := Beyond.step hS hb1
                have hX1 := Beyond.trans hS hb1
                have hcv1 := fun (W : World) (hW : Beyond w7 W) => str_of (c := c1) (hr1.at_.below hW) hr1.1
                clear hb1
                refine hK.out _ _ (by assumption) (fun _ => ?_)
                clear hK K hS
                have hS := hS1
                try simp only [Act.put, List.setIfInBounds_toArray, List.set_cons_zero, List.set_cons_succ]
                refine wpAnyH_more (S' := Beyond w7) (fun W hW => Beyond.trans hS hW) ?_
                have hS := Beyond.refl w7
                refine take_step (i := 2) (by simp only [List.getElem?_toArray, List.getElem?_cons_succ, List.getElem?_cons_zero]; rfl) (by kernel_rfl) (by kernel_rfl) (by kernel_rfl) (by intro _ _ _ h; exact h) (by rfl) (fun W hW => by go_simp; first | done | with_reducible rfl) hS ?_
                try simp only [Act.put, List.setIfInBounds_toArray, List.set_cons_zero, List.set_cons_succ]
                refine wpAnyH_ready (rs := [4]) (by kernel_rfl) (by simp) ?_
                refine AllReadyH.cons (by simp only [List.getElem?_toArray, List.getElem?_cons_succ, List.getElem?_cons_zero]; rfl) (fun K hK => ?_) AllReadyH.nil
                go_simp
                go_fit (HZ2.out _ (Beyond.trans hX1 hS))
                rintro e w8 ⟨A4, m4, c4, rfl, hr4, hb4⟩
                have hS4 := Beyond.step hS hb4
                have hX4 := Beyond.trans (Beyond.trans hX1 hS) hb4
                have hcv4 := fun (W : World) (hW : Beyond w8 W) => str_of (c := c4) (hr4.at_.below hW) hr4.1
                have hcv1 := fun (W : World) (hW : Beyond w8 W) => hcv1 W (Beyond.trans (Beyond.step hS hb4) hW)
                clear hb4
                refine hK.out _ _ (by assumption) (fun _ => ?_)
                clear hK K hS
                have hS := hS4
                try simp only [Act.put, List.setIfInBounds_toArray, List.set_cons_zero, List.set_cons_succ]
                refine wpAnyH_more (S' := Beyond w8) (fun W hW => Beyond.trans hS hW) ?_
                have hS := Beyond.refl w8
                refine take_step (i := 5) (by simp only [List.getElem?_toArray, List.getElem?_cons_succ, List.getElem?_cons_zero]; rfl) (by kernel_rfl) (by kernel_rfl) (by kernel_rfl) (by intro _ _ _ h; exact h) (by rfl) (fun W hW => by go_simp; first | done | with_reducible rfl) hS ?_
                try simp only [Act.put, List.setIfInBounds_toArray, List.set_cons_zero, List.set_cons_succ]
                refine take_step (i := 6) (by simp only [List.getElem?_toArray, List.getElem?_cons_succ, List.getElem?_cons_zero]; rfl) (by kernel_rfl) (by kernel_rfl) (by kernel_rfl) (by intro _ _ _ h; exact h) (by rfl) (fun W hW => by go_simp; first | done | with_reducible rfl) hS ?_
                try simp only [Act.put, List.setIfInBounds_toArray, List.set_cons_zero, List.set_cons_succ]
                refine take_step (i := 7) (by simp only [List.getElem?_toArray, List.getElem?_cons_succ, List.getElem?_cons_zero]; rfl) (by kernel_rfl) (by kernel_rfl) (by kernel_rfl) (by intro _ _ _ h; exact h) (by rfl) (fun W hW => by go_simp; first | done | with_reducible rfl) hS ?_
                try simp only [Act.put, List.setIfInBounds_toArray, List.set_cons_zero, List.set_cons_succ]
                first | (refine take_step (i := 8) (by simp only [List.getElem?_toArray, List.getElem?_cons_succ, List.getElem?_cons_zero]; rfl) (by kernel_rfl) (by kernel_rfl) (by kernel_rfl) (by intro _ _ _ h; exact h) (by rfl) (fun W hW => by go_simp; first | done | with_reducible rfl) hS ?_) | (refine skip_step (i := 8) (by simp only [List.getElem?_toArray, List.getElem?_cons_succ, List.getElem?_cons_zero]; rfl) (by kernel_rfl) (by kernel_rfl) (by kernel_rfl) (by intro _ _ _ h; exact h) (by rfl) hS ?_)
                try simp only [Act.put, List.setIfInBounds_toArray, List.set_cons_zero, List.set_cons_succ]
                first | (refine take_step (i := 10) (by simp only [List.getElem?_toArray, List.getElem?_cons_succ, List.getElem?_cons_zero]; rfl) (by kernel_rfl) (by kernel_rfl) (by kernel_rfl) (by intro _ _ _ h; exact h) (by rfl) (fun W hW => by go_simp; first | done | with_reducible rfl) hS ?_) | (refine skip_step (i := 10) (by simp only [List.getElem?_toArray, List.getElem?_cons_succ, List.getElem?_cons_zero]; rfl) (by kernel_rfl) (by kernel_rfl) (by kernel_rfl) (by intro _ _ _ h; exact h) (by rfl) hS ?_)
                try simp only [Act.put, List.setIfInBounds_toArray, List.set_cons_zero, List.set_cons_succ]
                refine wpAnyH_ready (rs := [9]) (by kernel_rfl) (by simp) ?_
                refine AllReadyH.cons (by simp only [List.getElem?_toArray, List.getElem?_cons_succ, List.getElem?_cons_zero]; rfl) (fun K hK => ?_) AllReadyH.nil
                go_simp
                go_fit (HL1.out _ (Beyond.trans hX4 hS))
                rintro e w9 ⟨rfl, hb9⟩
                have hS9 := Beyond.step hS hb9
                clear hb9
                refine hK.out _ _ (by assumption) (fun _ => ?_)
                clear hK K hS
                have hS := hS9
                try simp only [Act.put, List.setIfInBounds_toArray, List.set_cons_zero, List.set_cons_succ]
                refine wpAnyH_ready (rs := [11]) (by kernel_rfl) (by simp) ?_
                refine AllReadyH.cons (by simp only [List.getElem?_toArray, List.getElem?_cons_succ, List.getElem?_cons_zero]; rfl) (fun K hK => ?_) AllReadyH.nil
                go_simp
                go_fit (HL2.out _ (Beyond.trans hX4 hS))
                rintro e wa ⟨rfl, hb11⟩
                have hS11 := Beyond.step hS hb11
                clear hb11
                refine hK.out _ _ (by assumption) (fun _ => ?_)
                clear hK K hS
                have hS := hS11
                try simp only [Act.put, List.setIfInBounds_toArray, List.set_cons_zero, List.set_cons_succ]
                first | (refine take_step (i := 12) (by simp only [List.getElem?_toArray, List.getElem?_cons_succ, List.getElem?_cons_zero]; rfl) (by kernel_rfl) (by kernel_rfl) (by kernel_rfl) (by intro _ _ _ h; exact h) (by rfl) (fun W hW => by go_simp; first | done | with_reducible rfl) hS ?_) | (refine skip_step (i := 12) (by simp only [List.getElem?_toArray, List.getElem?_cons_succ, List.getElem?_cons_zero]; rfl) (by kernel_rfl) (by kernel_rfl) (by kernel_rfl) (by intro _ _ _ h; exact h) (by rfl) hS ?_)
                try simp only [Act.put, List.setIfInBounds_toArray, List.set_cons_zero, List.set_cons_succ]
                refine take_step (i := 13) (by simp only [List.getElem?_toArray, List.getElem?_cons_succ, List.getElem?_cons_zero]; rfl) (by kernel_rfl) (by kernel_rfl) (by kernel_rfl) (by intro _ _ _ h; exact h) (by rfl) (fun W hW => by go_simp; first | done | with_reducible rfl) hS ?_
                try simp only [Act.put, List.setIfInBounds_toArray, List.set_cons_zero, List.set_cons_succ]
                refine take_step (i := 14) (by simp only [List.getElem?_toArray, List.getElem?_cons_succ, List.getElem?_cons_zero]; rfl) (by kernel_rfl) (by kernel_rfl) (by kernel_rfl) (by intro _ _ _ h; exact h) (by rfl) (fun W hW => by go_simp; first | done | with_reducible rfl) hS ?_
                try simp only [Act.put, List.setIfInBounds_toArray, List.set_cons_zero, List.set_cons_succ]
                refine wpAnyH_done (by kernel_rfl) ?_ _
                first
                  | have HF := hid (Beyond.trans hX4 hS)
                    clear hS hcv1 hcv4
                    go_wp2_with fail
                    go_ret
                    exact ⟨by simp, HB.out.trans (HF.out.mono HB.out.size)⟩
                  | have HF := hid (Beyond.trans hX1 hS)
                    clear hS hcv1 hcv4
                    go_wp2_with fail
                    go_ret
                    exact ⟨by simp, HB.out.trans (HF.out.mono HB.out.size)⟩
              · go_upto_region 18 with fail
                refine wp_region_held_drew (S := Beyond wr) (by kernel_rfl) (Beyond.drew _) (fun hS => ?_)
                refine take_step (i := 0) (by simp only [List.getElem?_toArray, List.getElem?_cons_zero]; rfl) (by kernel_rfl) (by kernel_rfl) (by kernel_rfl) (by intro _ _ _ h; exact h) (by rfl) (fun W hW => by go_simp; first | done | with_reducible rfl) hS ?_
                try simp only [Act.put, List.setIfInBounds_toArray, List.set_cons_zero, List.set_cons_succ]
                refine take_step (i := 3) (by simp only [List.getElem?_toArray, List.getElem?_cons_succ, List.getElem?_cons_zero]; rfl) (by kernel_rfl) (by kernel_rfl) (by kernel_rfl) (by intro _ _ _ h; exact h) (by rfl) (fun W hW => by go_simp; first | done | with_reducible rfl) hS ?_
                try simp only [Act.put, List.setIfInBounds_toArray, List.set_cons_zero, List.set_cons_succ]
                refine wpAnyH_ready (rs := [1]) (by kernel_rfl) (by simp) ?_
                refine AllReadyH.cons (by simp only [List.getElem?_toArray, List.getElem?_cons_succ, List.getElem?_cons_zero]; rfl) (fun K hK => ?_) AllReadyH.nil
                go_simp
                go_fit (HZ1.out _ hS)
                rintro e w7 ⟨A1, m1, c1, rfl, hr1, hb1⟩
                have hS1 := Beyond.step hS hb1
                have hX1 := Beyond.trans hS hb1
                have hcv1 := fun (W : World) (hW : Beyond w7 W) => str_of (c := c1) (hr1.at_.below hW) hr1.1
                clear hb1
                refine hK.out _ _ (by assumption) (fun _ => ?_)
                clear hK K hS
                have hS := hS1
                try simp only [Act.put, List.setIfInBounds_toArray, List.set_cons_zero, List.set_cons_succ]
                refine wpAnyH_more (S' := Beyond w7) (fun W hW => Beyond.trans hS hW) ?_
                have hS := Beyond.refl w7
                refine take_step (i := 2) (by simp only [List.getElem?_toArray, List.getElem?_cons_succ, List.getElem?_cons_zero]; rfl) (by kernel_rfl) (by kernel_rfl) (by kernel_rfl) (by intro _ _ _ h; exact h) (by rfl) (fun W hW => by go_simp; first | done | with_reducible rfl) hS ?_
                try simp only [Act.put, List.setIfInBounds_toArray, List.set_cons_zero, List.set_cons_succ]
                refine wpAnyH_ready (rs := [4]) (by kernel_rfl) (by simp) ?_
                refine AllReadyH.cons (by simp only [List.getElem?_toArray, List.getElem?_cons_succ, List.getElem?_cons_zero]; rfl) (fun K hK => ?_) AllReadyH.nil
                go_simp
                go_fit (HZ2.out _ (Beyond.trans hX1 hS))
                rintro e w8 ⟨A4, m4, c4, rfl, hr4, hb4⟩
                have hS4 := Beyond.step hS hb4
                have hX4 := Beyond.trans (Beyond.trans hX1 hS) hb4
                have hcv4 := fun (W : World) (hW : Beyond w8 W) => str_of (c := c4) (hr4.at_.below hW) hr4.1
                have hcv1 := fun (W : World) (hW : Beyond w8 W) => hcv1 W (Beyond.trans (Beyond.step hS hb4) hW)
                clear hb4
                refine hK.out _ _ (by assumption) (fun _ => ?_)
                clear hK K hS
                have hS := hS4
                try simp only [Act.put, List.setIfInBounds_toArray, List.set_cons_zero, List.set_cons_succ]
                refine wpAnyH_more (S' := Beyond w8) (fun W hW => Beyond.trans hS hW) ?_
                have hS := Beyond.refl w8
                refine take_step (i := 5) (by simp only [List.getElem?_toArray, List.getElem?_cons_succ, List.getElem?_cons_zero]; rfl) (by kernel_rfl) (by kernel_rfl) (by kernel_rfl) (by intro _ _ _ h; exact h) (by rfl) (fun W hW => by go_simp; first | done | with_reducible rfl) hS ?_
                try simp only [Act.put, List.setIfInBounds_toArray, List.set_cons_zero, List.set_cons_succ]
                refine take_step (i := 6) (by simp only [List.getElem?_toArray, List.getElem?_cons_succ, List.getElem?_cons_zero]; rfl) (by kernel_rfl) (by kernel_rfl) (by kernel_rfl) (by intro _ _ _ h; exact h) (by rfl) (fun W hW => by go_simp; first | done | with_reducible rfl) hS ?_
                try simp only [Act.put, List.setIfInBounds_toArray, List.set_cons_zero, List.set_cons_succ]
                refine take_step (i := 7) (by simp only [List.getElem?_toArray, List.getElem?_cons_succ, List.getElem?_cons_zero]; rfl) (by kernel_rfl) (by kernel_rfl) (by kernel_rfl) (by intro _ _ _ h; exact h) (by rfl) (fun W hW => by go_simp; first | done | with_reducible rfl) hS ?_
                try simp only [Act.put, List.setIfInBounds_toArray, List.set_cons_zero, List.set_cons_succ]
                first | (refine take_step (i := 8) (by simp only [List.getElem?_toArray, List.getElem?_cons_succ, List.getElem?_cons_zero]; rfl) (by kernel_rfl) (by kernel_rfl) (by kernel_rfl) (by intro _ _ _ h; exact h) (by rfl) (fun W hW => by go_simp; first | done | with_reducible rfl) hS ?_) | (refine skip_step (i := 8) (by simp only [List.getElem?_toArray, List.getElem?_cons_succ, List.getElem?_cons_zero]; rfl) (by kernel_rfl) (by kernel_rfl) (by kernel_rfl) (by intro _ _ _ h; exact h) (by rfl) hS ?_)
                try simp only [Act.put, List.setIfInBounds_toArray, List.set_cons_zero, List.set_cons_succ]
                first | (refine take_step (i := 10) (by simp only [List.getElem?_toArray, List.getElem?_cons_succ, List.getElem?_cons_zero]; rfl) (by kernel_rfl) (by kernel_rfl) (by kernel_rfl) (by intro _ _ _ h; exact h) (by rfl) (fun W hW => by go_simp; first | done | with_reducible rfl) hS ?_) | (refine skip_step (i := 10) (by simp only [List.getElem?_toArray, List.getElem?_cons_succ, List.getElem?_cons_zero]; rfl) (by kernel_rfl) (by kernel_rfl) (by kernel_rfl) (by intro _ _ _ h; exact h) (by rfl) hS ?_)
                try simp only [Act.put, List.setIfInBounds_toArray, List.set_cons_zero, List.set_cons_succ]
                refine wpAnyH_ready (rs := [9]) (by kernel_rfl) (by simp) ?_
                refine AllReadyH.cons (by simp only [List.getElem?_toArray, List.getElem?_cons_succ, List.getElem?_cons_zero]; rfl) (fun K hK => ?_) AllReadyH.nil
                go_simp
                go_fit (HL1.out _ (Beyond.trans hX4 hS))
                rintro e w9 ⟨rfl, hb9⟩
                have hS9 := Beyond.step hS hb9
                clear hb9
                refine hK.out _ _ (by assumption) (fun _ => ?_)
                clear hK K hS
                have hS := hS9
                try simp only [Act.put, List.setIfInBounds_toArray, List.set_cons_zero, List.set_cons_succ]
                refine wpAnyH_ready (rs := [11]) (by kernel_rfl) (by simp) ?_
                refine AllReadyH.cons (by simp only [List.getElem?_toArray, List.getElem?_cons_succ, List.getElem?_cons_zero]; rfl) (fun K hK => ?_) AllReadyH.nil
                go_simp
                go_fit (HL2.out _ (Beyond.trans hX4 hS))
                rintro e wa ⟨rfl, hb11⟩
                have hS11 := Beyond.step hS hb11
                clear hb11
                refine hK.out _ _ (by assumption) (fun _ => ?_)
                clear hK K hS
                have hS := hS11
                try simp only [Act.put, List.setIfInBounds_toArray, List.set_cons_zero, List.set_cons_succ]
                first | (refine take_step (i := 12) (by simp only [List.getElem?_toArray, List.getElem?_cons_succ, List.getElem?_cons_zero]; rfl) (by kernel_rfl) (by kernel_rfl) (by kernel_rfl) (by intro _ _ _ h; exact h) (by rfl) (fun W hW => by go_simp; first | done | with_reducible rfl) hS ?_) | (refine skip_step (i := 12) (by simp only [List.getElem?_toArray, List.getElem?_cons_succ, List.getElem?_cons_zero]; rfl) (by kernel_rfl) (by kernel_rfl) (by kernel_rfl) (by intro _ _ _ h; exact h) (by rfl) hS ?_)
                try simp only [Act.put, List.setIfInBounds_toArray, List.set_cons_zero, List.set_cons_succ]
                refine take_step (i := 13) (by simp only [List.getElem?_toArray, List.getElem?_cons_succ, List.getElem?_cons_zero]; rfl) (by kernel_rfl) (by kernel_rfl) (by kernel_rfl) (by intro _ _ _ h; exact h) (by rfl) (fun W hW => by go_simp; first | done | with_reducible rfl) hS ?_
                try simp only [Act.put, List.setIfInBounds_toArray, List.set_cons_zero, List.set_cons_succ]
                refine take_step (i := 14) (by simp only [List.getElem?_toArray, List.getElem?_cons_succ, List.getElem?_cons_zero]; rfl) (by kernel_rfl) (by kernel_rfl) (by kernel_rfl) (by intro _ _ _ h; exact h) (by rfl) (fun W hW => by go_simp; first | done | with_reducible rfl) hS ?_
                try simp only [Act.put, List.setIfInBounds_toArray, List.set_cons_zero, List.set_cons_succ]
                refine wpAnyH_done (by kernel_rfl) ?_ _
                first
                  | have HF := hid (Beyond.trans hX4 hS)
                    clear hS hcv1 hcv4
                    go_wp2_with fail
                    go_ret
                    exact ⟨by simp, HB.out.trans (HF.out.mono HB.out.size)⟩
                  | have HF := hid (Beyond.trans hX1 hS)
                    clear hS hcv1 hcv4
                    go_wp2_with fail
                    go_ret
                    exact ⟨by simp, HB.out.trans (HF.out.mono HB.out.size)⟩
        · go_wp2_with fail
          have HYB := hid (sbytes_any HS.out)
          go_fit HYB.out
          rintro e w4 ⟨A4, m4, c4, rfl, hr4, hb4⟩
          have HB4 := hid (HB.out.trans (hb4.mono HB.out.size))
          have HS4 := hid (HS.out.step hb4)
          have HO := hid (of_any (c := c4) hr4.at_ hr4.1 (Nat.le_refl _) (sbytes_len HS.out.few.2))
          rw [sof_sbytes HS.out.few.1 HS.out.few.2] at HO
          clear hr4 hb4 HYB HB HS
          go_wp2_with fail
          go_fit HO.out
          rintro e w5 ⟨hgot, hb5⟩
          obtain ⟨q, rfl, hq5, hqz⟩ : ∃ s, e = .returned (.tuple #[.pointer (some ⟨s, 0, none⟩), .int .i64 0]) ∧ SpIn w5 s l ∧ w4.heap.size ≤ s := hgot
          have HQ := hid (show p < q from Nat.lt_of_lt_of_le HS4.out.lt hqz)
          have HQ5 := hid hq5
          have HS5 := hid (HS4.out.step hb5)
          have HB5 := hid (HB4.out.trans (hb5.mono HB4.out.size))
          clear hq5 hqz hb5 HS4 HB4 HO
          go_wp2_with fail
          go_loopw [12] (fun i wr => ∃ (j : Nat) (l : List Bool), i = .int .i64 (j : Int) ∧ j ≤ m2 ∧ j ≤ 60 ∧ Kept (SpIn wr p l) ∧ Kept (SpIn wr q l) ∧ Kept (Below w.heap.size w wr)) (fun i _ => m2 - (intOf i).toNat)
          case atStart => exact ⟨0, _, rfl, Nat.zero_le _, Nat.zero_le _, HS5, HQ5, HB5⟩
          case round =>
            obtain ⟨j, l, rfl, hj, hj2, HS, HQS, HB⟩ := hrel
            clear HS5 HQ5 HB5
            by_cases hlt : j < m2 ∧ j < 60
            · obtain ⟨hlt1, hlt2⟩ := hlt
              obtain ⟨b, off, x, rfl, hxj, d0, d1⟩ := (HY.out.below HB.out).get (i := j) (by have := HML2.out; omega)
              obtain ⟨kd, pg⟩ := x
              dsimp only at d0 d1
              have HXJ := hid hxj
              have HDD := hid (do_any HS.out kd pg)
              clear hxj
              go_wp2_with fail
              go_fit HDD.out
              rintro e w6 ⟨rfl, hs6, ho6⟩
              have HS6 := hid hs6
              have HQ6 := hid (HQS.out.only ho6 (Nat.ne_of_gt HQ.out))
              have HB6 := hid (HB.out.grown ho6 HB.out.size (fun k hk => by injection hk with hk; have := HPP.out; omega))
              have HD2 := hid (do_any HQ6.out kd pg)
              obtain ⟨e0, e1⟩ := (HY.out.below HB6.out).at HXJ.out
              dsimp only at e0 e1
              clear hs6 ho6 HDD HB HS HQS d0 d1
              go_wp2_with fail
              go_fit HD2.out
              rintro e w7 ⟨rfl, hs7, ho7⟩
              have HQ7 := hid hs7
              have HS7 := hid (HS6.out.only ho7 (Nat.ne_of_lt HQ.out))
              have HB7 := hid (HB6.out.grown ho7 HB6.out.size (fun k hk => by injection hk with hk; have := HPP.out; have := HQ.out; omega))
              clear hs7 ho7 HD2 HB6 HS6 HQ6
              go_wp2_with fail
              go_roundw
              case rel => exact ⟨j + 1, _, by go_num, by omega, by omega, HS7, HQ7, HB7⟩
              case measure => simp [intOf]; omega
            · have hst : ¬ j < m2 ∨ j < m2 ∧ ¬ j < 60 := by omega
              have HZ1 := hid (fun (W : World) (hW : Beyond wr W) => sbytes_any (HS.out.step hW))
              have HZ2 := hid (fun (W : World) (hW : Beyond wr W) => sbytes_any (HQS.out.step hW))
              have HL1 := hid (fun (W : World) (hW : Beyond wr W) => left_any (HS.out.step hW))
              have HL2 := hid (fun (W : World) (hW : Beyond wr W) => left_any (HQS.out.step hW))
              clear hlt
              rcases hst with hlt3 | ⟨hlt3, hlt4⟩
              · go_upto_region 18 with fail
                refine wp_region_held_drew (S := Beyond wr) (by kernel_rfl) (Beyond.drew _) (fun hS => ?_)
                refine take_step (i := 0) (by simp only [List.getElem?_toArray, List.getElem?_cons_zero]; rfl) (by kernel_rfl) (by kernel_rfl) (by kernel_rfl) (by intro _ _ _ h; exact h) (by rfl) (fun W hW => by go_simp; first | done | with_reducible rfl) hS ?_
                try simp only [Act.put, List.setIfInBounds_toArray, List.set_cons_zero, List.set_cons_succ]
                refine take_step (i := 3) (by simp only [List.getElem?_toArray, List.getElem?_cons_succ, List.getElem?_cons_zero]; rfl) (by kernel_rfl) (by kernel_rfl) (by kernel_rfl) (by intro _ _ _ h; exact h) (by rfl) (fun W hW => by go_simp; first | done | with_reducible rfl) hS ?_
                try simp only [Act.put, List.setIfInBounds_toArray, List.set_cons_zero, List.set_cons_succ]
                refine wpAnyH_ready (rs := [1]) (by kernel_rfl) (by simp) ?_
                refine AllReadyH.cons (by simp only [List.getElem?_toArray, List.getElem?_cons_succ, List.getElem?_cons_zero]; rfl) (fun K hK => ?_) AllReadyH.nil
                go_simp
                go_fit (HZ1.out _ hS)
                rintro e w7 ⟨A1, m1, c1, rfl, hr1, hb1⟩
                have hS1 := Beyond.step hS hb1
                have hX1 := Beyond.trans hS hb1
                have hcv1 := fun (W : World) (hW : Beyond w7 W) => str_of (c := c1) (hr1.at_.below hW) hr1.1
                clear hb1
                refine hK.out _ _ (by assumption) (fun _ => ?_)
                clear hK K hS
                have hS := hS1
                try simp only [Act.put, List.setIfInBounds_toArray, List.set_cons_zero, List.set_cons_succ]
                refine wpAnyH_more (S' := Beyond w7) (fun W hW => Beyond.trans hS hW) ?_
                have hS := Beyond.refl w7
                refine take_step (i := 2) (by simp only [List.getElem?_toArray, List.getElem?_cons_succ, List.getElem?_cons_zero]; rfl) (by kernel_rfl) (by kernel_rfl) (by kernel_rfl) (by intro _ _ _ h; exact h) (by rfl) (fun W hW => by go_simp; first | done | with_reducible rfl) hS ?_
                try simp only [Act.put, List.setIfInBounds_toArray, List.set_cons_zero, List.set_cons_succ]
                refine wpAnyH_ready (rs := [4]) (by kernel_rfl) (by simp) ?_
                refine AllReadyH.cons (by simp only [List.getElem?_toArray, List.getElem?_cons_succ, List.getElem?_cons_zero]; rfl) (fun K hK => ?_) AllReadyH.nil
                go_simp
                go_fit (HZ2.out _ (Beyond.trans hX1 hS))
                rintro e w8 ⟨A4, m4, c4, rfl, hr4, hb4⟩
                have hS4 := Beyond.step hS hb4
                have hX4 := Beyond.trans (Beyond.trans hX1 hS) hb4
                have hcv4 := fun (W : World) (hW : Beyond w8 W) => str_of (c := c4) (hr4.at_.below hW) hr4.1
                have hcv1 := fun (W : World) (hW : Beyond w8 W) => hcv1 W (Beyond.trans (Beyond.step hS hb4) hW)
                clear hb4
                refine hK.out _ _ (by assumption) (fun _ => ?_)
                clear hK K hS
                have hS := hS4
                try simp only [Act.put, List.setIfInBounds_toArray, List.set_cons_zero, List.set_cons_succ]
                refine wpAnyH_more (S' := Beyond w8) (fun W hW => Beyond.trans hS hW) ?_
                have hS := Beyond.refl w8
                refine take_step (i := 5) (by simp only [List.getElem?_toArray, List.getElem?_cons_succ, List.getElem?_cons_zero]; rfl) (by kernel_rfl) (by kernel_rfl) (by kernel_rfl) (by intro _ _ _ h; exact h) (by rfl) (fun W hW => by go_simp; first | done | with_reducible rfl) hS ?_
                try simp only [Act.put, List.setIfInBounds_toArray, List.set_cons_zero, List.set_cons_succ]
                refine take_step (i := 6) (by simp only [List.getElem?_toArray, List.getElem?_cons_succ, List.getElem?_cons_zero]; rfl) (by kernel_rfl) (by kernel_rfl) (by kernel_rfl) (by intro _ _ _ h; exact h) (by rfl) (fun W hW => by go_simp; first | done | with_reducible rfl) hS ?_
                try simp only [Act.put, List.setIfInBounds_toArray, List.set_cons_zero, List.set_cons_succ]
                refine take_step (i := 7) (by simp only [List.getElem?_toArray, List.getElem?_cons_succ, List.getElem?_cons_zero]; rfl) (by kernel_rfl) (by kernel_rfl) (by kernel_rfl) (by intro _ _ _ h; exact h) (by rfl) (fun W hW => by go_simp; first | done | with_reducible rfl) hS ?_
                try simp only [Act.put, List.setIfInBounds_toArray, List.set_cons_zero, List.set_cons_succ]
                first | (refine take_step (i := 8) (by simp only [List.getElem?_toArray, List.getElem?_cons_succ, List.getElem?_cons_zero]; rfl) (by kernel_rfl) (by kernel_rfl) (by kernel_rfl) (by intro _ _ _ h; exact h) (by rfl) (fun W hW => by go_simp; first | done | with_reducible rfl) hS ?_) | (refine skip_step (i := 8) (by simp only [List.getElem?_toArray, List.getElem?_cons_succ, List.getElem?_cons_zero]; rfl) (by kernel_rfl) (by kernel_rfl) (by kernel_rfl) (by intro _ _ _ h; exact h) (by rfl) hS ?_)
                try simp only [Act.put, List.setIfInBounds_toArray, List.set_cons_zero, List.set_cons_succ]
                first | (refine take_step (i := 10) (by simp only [List.getElem?_toArray, List.getElem?_cons_succ, List.getElem?_cons_zero]; rfl) (by kernel_rfl) (by kernel_rfl) (by kernel_rfl) (by intro _ _ _ h; exact h) (by rfl) (fun W hW => by go_simp; first | done | with_reducible rfl) hS ?_) | (refine skip_step (i := 10) (by simp only [List.getElem?_toArray, List.getElem?_cons_succ, List.getElem?_cons_zero]; rfl) (by kernel_rfl) (by kernel_rfl) (by kernel_rfl) (by intro _ _ _ h; exact h) (by rfl) hS ?_)
                try simp only [Act.put, List.setIfInBounds_toArray, List.set_cons_zero, List.set_cons_succ]
                refine wpAnyH_ready (rs := [9]) (by kernel_rfl) (by simp) ?_
                refine AllReadyH.cons (by simp only [List.getElem?_toArray, List.getElem?_cons_succ, List.getElem?_cons_zero]; rfl) (fun K hK => ?_) AllReadyH.nil
                go_simp
                go_fit (HL1.out _ (Beyond.trans hX4 hS))
                rintro e w9 ⟨rfl, hb9⟩
                have hS9 := Beyond.step hS hb9
                clear hb9
                refine hK.out _ _ (by assumption) (fun _ => ?_)
                clear hK K hS
                have hS := hS9
                try simp only [Act.put, List.setIfInBounds_toArray, List.set_cons_zero, List.set_cons_succ]
                refine wpAnyH_ready (rs := [11]) (by kernel_rfl) (by simp) ?_
                refine AllReadyH.cons (by simp only [List.getElem?_toArray, List.getElem?_cons_succ, List.getElem?_cons_zero]; rfl) (fun K hK => ?_) AllReadyH.nil
                go_simp
                go_fit (HL2.out _ (Beyond.trans hX4 hS))
                rintro e wa ⟨rfl, hb11⟩
                have hS11 := Beyond.step hS hb11
                clear hb11
                refine hK.out _ _ (by assumption) (fun _ => ?_)
                clear hK K hS
                have hS := hS11
                try simp only [Act.put, List.setIfInBounds_toArray, List.set_cons_zero, List.set_cons_succ]
                first | (refine take_step (i := 12) (by simp only [List.getElem?_toArray, List.getElem?_cons_succ, List.getElem?_cons_zero]; rfl) (by kernel_rfl) (by kernel_rfl) (by kernel_rfl) (by intro _ _ _ h; exact h) (by rfl) (fun W hW => by go_simp; first | done | with_reducible rfl) hS ?_) | (refine skip_step (i := 12) (by simp only [List.getElem?_toArray, List.getElem?_cons_succ, List.getElem?_cons_zero]; rfl) (by kernel_rfl) (by kernel_rfl) (by kernel_rfl) (by intro _ _ _ h; exact h) (by rfl) hS ?_)
                try simp only [Act.put, List.setIfInBounds_toArray, List.set_cons_zero, List.set_cons_succ]
                refine take_step (i := 13) (by simp only [List.getElem?_toArray, List.getElem?_cons_succ, List.getElem?_cons_zero]; rfl) (by kernel_rfl) (by kernel_rfl) (by kernel_rfl) (by intro _ _ _ h; exact h) (by rfl) (fun W hW => by go_simp; first | done | with_reducible rfl) hS ?_
                try simp only [Act.put, List.setIfInBounds_toArray, List.set_cons_zero, List.set_cons_succ]
                refine take_step (i := 14) (by simp only [List.getElem?_toArray, List.getElem?_cons_succ, List.getElem?_cons_zero]; rfl) (by kernel_rfl) (by kernel_rfl) (by kernel_rfl) (by intro _ _ _ h; exact h) (by rfl) (fun W hW => by go_simp; first | done | with_reducible rfl) hS ?_
                try simp only [Act.put, List.setIfInBounds_toArray, List.set_cons_zero, List.set_cons_succ]
                refine wpAnyH_done (by kernel_rfl) ?_ _
                first
                  | have HF := hid (Beyond.trans hX4 hS)
                    clear hS hcv1 hcv4
                    go_wp2_with fail
                    go_ret
                    exact ⟨by simp, HB.out.trans (HF.out.mono HB.out.size)⟩
                  | have HF := hid (Beyond.trans hX1 hS)
                    clear hS hcv1 hcv4
                    go_wp2_with fail
                    go_ret
                    exact ⟨by simp, HB.out.trans (HF.out.mono HB.out.size)⟩
              · go_upto_region 18 with fail
                refine wp_region_held_drew (S := Beyond wr) (by kernel_rfl) (Beyond.drew _) (fun hS => ?_)
                refine take_step (i := 0) (by simp only [List.getElem?_toArray, List.getElem?_cons_zero]; rfl) (by kernel_rfl) (by kernel_rfl) (by kernel_rfl) (by intro _ _ _ h; exact h) (by rfl) (fun W hW => by go_simp; first | done | with_reducible rfl) hS ?_
                try simp only [Act.put, List.setIfInBounds_toArray, List.set_cons_zero, List.set_cons_succ]
                refine take_step (i := 3) (by simp only [List.getElem?_toArray, List.getElem?_cons_succ, List.getElem?_cons_zero]; rfl) (by kernel_rfl) (by kernel_rfl) (by kernel_rfl) (by intro _ _ _ h; exact h) (by rfl) (fun W hW => by go_simp; first | done | with_reducible rfl) hS ?_
                try simp only [Act.put, List.setIfInBounds_toArray, List.set_cons_zero, List.set_cons_succ]
                refine wpAnyH_ready (rs := [1]) (by kernel_rfl) (by simp) ?_
                refine AllReadyH.cons (by simp only [List.getElem?_toArray, List.getElem?_cons_succ, List.getElem?_cons_zero]; rfl) (fun K hK => ?_) AllReadyH.nil
                go_simp
                go_fit (HZ1.out _ hS)
                rintro e w7 ⟨A1, m1, c1, rfl, hr1, hb1⟩
                have hS1 := Beyond.step hS hb1
                have hX1 := Beyond.trans hS hb1
                have hcv1 := fun (W : World) (hW : Beyond w7 W) => str_of (c := c1) (hr1.at_.below hW) hr1.1
                clear hb1
                refine hK.out _ _ (by assumption) (fun _ => ?_)
                clear hK K hS
                have hS := hS1
                try simp only [Act.put, List.setIfInBounds_toArray, List.set_cons_zero, List.set_cons_succ]
                refine wpAnyH_more (S' := Beyond w7) (fun W hW => Beyond.trans hS hW) ?_
                have hS := Beyond.refl w7
                refine take_step (i := 2) (by simp only [List.getElem?_toArray, List.getElem?_cons_succ, List.getElem?_cons_zero]; rfl) (by kernel_rfl) (by kernel_rfl) (by kernel_rfl) (by intro _ _ _ h; exact h) (by rfl) (fun W hW => by go_simp; first | done | with_reducible rfl) hS ?_
                try simp only [Act.put, List.setIfInBounds_toArray, List.set_cons_zero, List.set_cons_succ]
                refine wpAnyH_ready (rs := [4]) (by kernel_rfl) (by simp) ?_
                refine AllReadyH.cons (by simp only [List.getElem?_toArray, List.getElem?_cons_succ, List.getElem?_cons_zero]; rfl) (fun K hK => ?_) AllReadyH.nil
                go_simp
                go_fit (HZ2.out _ (Beyond.trans hX1 hS))
                rintro e w8 ⟨A4, m4, c4, rfl, hr4, hb4⟩
                have hS4 := Beyond.step hS hb4
                have hX4 := Beyond.trans (Beyond.trans hX1 hS) hb4
                have hcv4 := fun (W : World) (hW : Beyond w8 W) => str_of (c := c4) (hr4.at_.below hW) hr4.1
                have hcv1 := fun (W : World) (hW : Beyond w8 W) => hcv1 W (Beyond.trans (Beyond.step hS hb4) hW)
                clear hb4
                refine hK.out _ _ (by assumption) (fun _ => ?_)
                clear hK K hS
                have hS := hS4
                try simp only [Act.put, List.setIfInBounds_toArray, List.set_cons_zero, List.set_cons_succ]
                refine wpAnyH_more (S' := Beyond w8) (fun W hW => Beyond.trans hS hW) ?_
                have hS := Beyond.refl w8
                refine take_step (i := 5) (by simp only [List.getElem?_toArray, List.getElem?_cons_succ, List.getElem?_cons_zero]; rfl) (by kernel_rfl) (by kernel_rfl) (by kernel_rfl) (by intro _ _ _ h; exact h) (by rfl) (fun W hW => by go_simp; first | done | with_reducible rfl) hS ?_
                try simp only [Act.put, List.setIfInBounds_toArray, List.set_cons_zero, List.set_cons_succ]
                refine take_step (i := 6) (by simp only [List.getElem?_toArray, List.getElem?_cons_succ, List.getElem?_cons_zero]; rfl) (by kernel_rfl) (by kernel_rfl) (by kernel_rfl) (by intro _ _ _ h; exact h) (by rfl) (fun W hW => by go_simp; first | done | with_reducible rfl) hS ?_
                try simp only [Act.put, List.setIfInBounds_toArray, List.set_cons_zero, List.set_cons_succ]
                refine take_step (i := 7) (by simp only [List.getElem?_toArray, List.getElem?_cons_succ, List.getElem?_cons_zero]; rfl) (by kernel_rfl) (by kernel_rfl) (by kernel_rfl) (by intro _ _ _ h; exact h) (by rfl) (fun W hW => by go_simp; first | done | with_reducible rfl) hS ?_
                try simp only [Act.put, List.setIfInBounds_toArray, List.set_cons_zero, List.set_cons_succ]
                first | (refine take_step (i := 8) (by simp only [List.getElem?_toArray, List.getElem?_cons_succ, List.getElem?_cons_zero]; rfl) (by kernel_rfl) (by kernel_rfl) (by kernel_rfl) (by intro _ _ _ h; exact h) (by rfl) (fun W hW => by go_simp; first | done | with_reducible rfl) hS ?_) | (refine skip_step (i := 8) (by simp only [List.getElem?_toArray, List.getElem?_cons_succ, List.getElem?_cons_zero]; rfl) (by kernel_rfl) (by kernel_rfl) (by kernel_rfl) (by intro _ _ _ h; exact h) (by rfl) hS ?_)
                try simp only [Act.put, List.setIfInBounds_toArray, List.set_cons_zero, List.set_cons_succ]
                first | (refine take_step (i := 10) (by simp only [List.getElem?_toArray, List.getElem?_cons_succ, List.getElem?_cons_zero]; rfl) (by kernel_rfl) (by kernel_rfl) (by kernel_rfl) (by intro _ _ _ h; exact h) (by rfl) (fun W hW => by go_simp; first | done | with_reducible rfl) hS ?_) | (refine skip_step (i := 10) (by simp only [List.getElem?_toArray, List.getElem?_cons_succ, List.getElem?_cons_zero]; rfl) (by kernel_rfl) (by kernel_rfl) (by kernel_rfl) (by intro _ _ _ h; exact h) (by rfl) hS ?_)
                try simp only [Act.put, List.setIfInBounds_toArray, List.set_cons_zero, List.set_cons_succ]
                refine wpAnyH_ready (rs := [9]) (by kernel_rfl) (by simp) ?_
                refine AllReadyH.cons (by simp only [List.getElem?_toArray, List.getElem?_cons_succ, List.getElem?_cons_zero]; rfl) (fun K hK => ?_) AllReadyH.nil
                go_simp
                go_fit (HL1.out _ (Beyond.trans hX4 hS))
                rintro e w9 ⟨rfl, hb9⟩
                have hS9 := Beyond.step hS hb9
                clear hb9
                refine hK.out _ _ (by assumption) (fun _ => ?_)
                clear hK K hS
                have hS := hS9
                try simp only [Act.put, List.setIfInBounds_toArray, List.set_cons_zero, List.set_cons_succ]
                refine wpAnyH_ready (rs := [11]) (by kernel_rfl) (by simp) ?_
                refine AllReadyH.cons (by simp only [List.getElem?_toArray, List.getElem?_cons_succ, List.getElem?_cons_zero]; rfl) (fun K hK => ?_) AllReadyH.nil
                go_simp
                go_fit (HL2.out _ (Beyond.trans hX4 hS))
                rintro e wa ⟨rfl, hb11⟩
                have hS11 := Beyond.step hS hb11
                clear hb11
                refine hK.out _ _ (by assumption) (fun _ => ?_)
                clear hK K hS
                have hS := hS11
                try simp only [Act.put, List.setIfInBounds_toArray, List.set_cons_zero, List.set_cons_succ]
                first | (refine take_step (i := 12) (by simp only [List.getElem?_toArray, List.getElem?_cons_succ, List.getElem?_cons_zero]; rfl) (by kernel_rfl) (by kernel_rfl) (by kernel_rfl) (by intro _ _ _ h; exact h) (by rfl) (fun W hW => by go_simp; first | done | with_reducible rfl) hS ?_) | (refine skip_step (i := 12) (by simp only [List.getElem?_toArray, List.getElem?_cons_succ, List.getElem?_cons_zero]; rfl) (by kernel_rfl) (by kernel_rfl) (by kernel_rfl) (by intro _ _ _ h; exact h) (by rfl) hS ?_)
                try simp only [Act.put, List.setIfInBounds_toArray, List.set_cons_zero, List.set_cons_succ]
                refine take_step (i := 13) (by simp only [List.getElem?_toArray, List.getElem?_cons_succ, List.getElem?_cons_zero]; rfl) (by kernel_rfl) (by kernel_rfl) (by kernel_rfl) (by intro _ _ _ h; exact h) (by rfl) (fun W hW => by go_simp; first | done | with_reducible rfl) hS ?_
                try simp only [Act.put, List.setIfInBounds_toArray, List.set_cons_zero, List.set_cons_succ]
                refine take_step (i := 14) (by simp only [List.getElem?_toArray, List.getElem?_cons_succ, List.getElem?_cons_zero]; rfl) (by kernel_rfl) (by kernel_rfl) (by kernel_rfl) (by intro _ _ _ h; exact h) (by rfl) (fun W hW => by go_simp; first | done | with_reducible rfl) hS ?_
                try simp only [Act.put, List.setIfInBounds_toArray, List.set_cons_zero, List.set_cons_succ]
                refine wpAnyH_done (by kernel_rfl) ?_ _
                first
                  | have HF := hid (Beyond.trans hX4 hS)
                    clear hS hcv1 hcv4
                    go_wp2_with fail
                    go_ret
                    exact ⟨by simp, HB.out.trans (HF.out.mono HB.out.size)⟩
                  | have HF := hid (Beyond.trans hX1 hS)
                    clear hS hcv1 hcv4
                    go_wp2_with fail
                    go_ret
                    exact ⟨by simp, HB.out.trans (HF.out.mono HB.out.size)⟩

end Go.Proofs.Ytcodljegicoeeaa
