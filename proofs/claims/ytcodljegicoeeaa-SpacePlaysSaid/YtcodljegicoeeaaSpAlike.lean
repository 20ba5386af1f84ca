/-
  The law's own: an act, and whether a space is the document's.
-/
import Derived.Test.YtcodljegicoeeaaRefSpOf
import Derived.Test.YtcodljegicoeeaaStrCut
import Derived.Test.YtcodljegicoeeaaSAt
namespace Go.Proofs.Ytcodljegicoeeaa
open Go Go.RowKit

set_option maxHeartbeats 4000000 in
set_option maxRecDepth 100000 in
theorem do_any {w : World} {p : Nat} {l : List Bool} (h : SpIn w p l) (k pg : Int) :
    Calls Try.prog 12 #[.pointer (some ⟨p, 0, none⟩), .agg #[.int .i64 k, .int .i64 pg]] w fun e w' => e = .returned (.tuple #[.int .i64 ((actB l k pg).2.1 : Int), .int .i64 ((actB l k pg).2.2 : Int)]) ∧ SpIn w' p (actB l k pg).1 ∧ Only p w w' := by
  have hb1 : Below w.heap.size w (w.alloc (.cells #[.int .i64 k, .int .i64 pg] 34)) := (Below.refl _ _).alloc (Nat.le_refl _) _
  have HO1 := hid (Only.of_below (r := p) hb1)
  have H := hid (h.step hb1)
  have HX := hid (Blk.new w 34 #[.int .i64 k, .int .i64 pg])
  have x0 := HX.out.cell 0
  have x1 := HX.out.cell 1
  clear h hb1
  by_cases hk0 : k = 0
  · subst hk0
    rw [show actB l 0 pg = takeB l from rfl]
    have HT := hid (take_any H.out)
    go_enter Try.func12, Try.ntmps12
    go_wp2_with fail
    go_fit HT.out
    rintro e w2 ⟨rfl, h1, h2⟩
    go_wp2_with fail
    go_ret2
    exact ⟨rfl, h1, HO1.out.trans h2⟩
  · by_cases hk1 : k = 1
    · subst hk1
      rw [show actB l 1 pg = ((turnB l pg true).1, 0, (turnB l pg true).2) from rfl]
      have HT := hid (claim_any H.out pg)
      go_enter Try.func12, Try.ntmps12
      go_wp2_with fail
      go_fit HT.out
      rintro e w2 ⟨rfl, h1, h2⟩
      go_wp2_with fail
      go_ret2
      exact ⟨rfl, h1, HO1.out.trans h2⟩
    · by_cases hk2 : k = 2
      · subst hk2
        rw [show actB l 2 pg = ((turnB l pg false).1, 0, (turnB l pg false).2) from rfl]
        have HT := hid (free_any H.out pg)
        go_enter Try.func12, Try.ntmps12
        go_wp2_with fail
        go_fit HT.out
        rintro e w2 ⟨rfl, h1, h2⟩
        go_wp2_with fail
        go_ret2
        exact ⟨rfl, h1, HO1.out.trans h2⟩
      · rw [show actB l k pg = (l, 0, 0) by unfold actB; rw [if_neg hk0, if_neg hk1, if_neg hk2]]
        have hk0' : (k == 0) = false := by simpa using hk0
        have hk1' : (k == 1) = false := by simpa using hk1
        have hk2' : (k == 2) = false := by simpa using hk2
        clear hk0 hk1 hk2
        go_enter Try.func12, Try.ntmps12
        go_wp2_with fail
        go_ret2
        exact ⟨rfl, H.out, HO1.out⟩

theorem tknB_more (l : List Bool) (i d : Nat) : ∃ r, tknB l (i + d) = tknB l i ++ r := by
  induction d with
  | zero => exact ⟨[], by simp⟩
  | succ d ih =>
    obtain ⟨r, hr⟩ := ih
    exact ⟨r ++ (if l.getD (i + d) false then [i + d] else []), by rw [← Nat.add_assoc, tknB_succ, hr, List.append_assoc]⟩
theorem tknB_at {l : List Bool} {i n : Nat} (hi : i < n) (h : l.getD i false = true) : (tknB l n)[(tknB l i).length]? = some i := by
  obtain ⟨d, rfl⟩ : ∃ d, n = (i + 1) + d := ⟨n - (i + 1), by omega⟩
  obtain ⟨r, hr⟩ := tknB_more l (i + 1) d
  rw [hr, tknB_succ, h, if_pos rfl]
  simp
/-- how many are taken ahead of a page -/
def cntB (l : List Bool) (i : Int) : Nat := (tknB l i.toNat).length
theorem cnt_no {l : List Bool} {i : Int} (h : hasB l i = false) : cntB l (i + 1) = cntB l i := by
  unfold cntB
  by_cases h0 : i < 0
  · rw [show (i + 1).toNat = 0 by omega, show i.toNat = 0 by omega]
  · obtain ⟨k, rfl⟩ : ∃ k : Nat, i = (k : Int) := ⟨i.toNat, by omega⟩
    rw [hasB_nat] at h
    rw [show ((k : Int) + 1).toNat = k + 1 by omega, show ((k : Int)).toNat = k by omega, tknB_succ, h]
    simp
theorem cnt_yes {l : List Bool} {k : Nat} (h : l.getD k false = true) : cntB l ((k : Int) + 1) = cntB l (k : Int) + 1 := by
  unfold cntB
  rw [show ((k : Int) + 1).toNat = k + 1 by omega, show ((k : Int)).toNat = k by omega, tknB_succ, h]
  simp
set_option maxHeartbeats 4000000 in
set_option maxRecDepth 100000 in
theorem alike_yes {w : World} {p : Nat} {A : Option Addr} {n c : Nat} {l : List Bool} (h : SpIn w p l) (hf : FL w A n c l) :
    Calls Try.prog 13 #[.pointer (some ⟨p, 0, none⟩), .slice A n c] w fun e w' => e = .returned (.bool true) ∧ Below w.heap.size w w' := by
  have hfew := h.few
  have H := hid h
  have HF := hid hf
  have HT := hid (taken_any h)
  have hln := hf.len
  have HN := hid hf.len
  have hn2 : n ≤ 256 := by omega
  have hn1 : 1 ≤ n := by omega
  rw [← hln] at HT
  clear h hf hfew hln
  go_enter Try.func13, Try.ntmps13
  go_wp2_with fail
  go_fit HT.out
  rintro e w1 ⟨A1, m1, c1, rfl, hr1, hb1⟩
  have HB1 := hid hb1
  have HR1 := hid hr1
  have HP1 := hid (H.out.step hb1)
  have HF1 := hid (HF.out.step hb1)
  have hm1 := hr1.1
  have HM1 := hid (show m1 = cntB l (n : Int) by unfold cntB; rw [show ((n : Int)).toNat = n by omega]; exact hm1)
  have hmn : m1 ≤ n := by rw [hm1]; exact tknB_le _ _
  have hmc := hr1.cap
  clear hb1 hr1 hm1 HT
  go_wp2_with fail
  go_loopw [6, 7] (fun kv i wr => ∃ q : Int, i = .int .i64 q ∧ kv = .int .i64 (cntB l q : Int) ∧ -1 ≤ q ∧ q ≤ (n : Int) + 1 ∧ wr = w1) (fun _ i _ => (n + 2 - (intOf i)).toNat)
  case atStart => exact ⟨-1, rfl, rfl, by omega, by omega, rfl⟩
  case round =>
    obtain ⟨q, rfl, rfl, hq1, hq2, rfl⟩ := hrel
    by_cases hlt : q ≤ (n : Int)
    · have HA := hid (refHas_any HF1.out q)
      have HB := hid (has_any HP1.out q)
      cases hb : hasB l q with
      | false =>
        rw [hb] at HA HB
        have HC := hid (cnt_no hb)
        clear hb
        go_wp2_with fail
        go_fit HA.out
        rintro e w2 ⟨rfl, rfl⟩
        go_wp2_with fail
        go_fit HB.out
        rintro e w2 ⟨rfl, rfl⟩
        go_wp2_with fail
        go_roundw
        case rel => exact ⟨q + 1, by go_num, by rw [HC.out], by omega, by omega, trivial⟩
        case measure => simp [intOf]; omega
      | true =>
        rw [hb] at HA HB
        obtain ⟨k, rfl, hk⟩ := inB_true (hasB_in hb)
        rw [hasB_nat] at hb
        have HC := hid (cnt_yes hb)
        have hkn : k < n := by have := HN.out; omega
        have hat : (tknB l n)[cntB l (k : Int)]? = some k := by unfold cntB; exact tknB_at hkn hb
        have hlt2 : cntB l (k : Int) < m1 := by rw [HR1.out.1]; exact (List.getElem?_eq_some_iff.1 hat).1
        obtain ⟨b, off, x, rfl, _, hx, hc⟩ := HR1.out.at_.get (i := cntB l (k : Int)) (by rw [← HR1.out.1]; exact hlt2)
        obtain rfl : x = k := by rw [hat] at hx; injection hx with hx; exact hx.symm
        have hc0 : wr.cell? ⟨b, off + cntB l (x : Int), none⟩ = some (.int .i64 (x : Int)) := by simpa [eInt] using hc 0 _ rfl
        generalize cntB l (x : Int) = K at *
        clear hb hat hx hc
        go_wp2_with fail
        go_fit HA.out
        rintro e w2 ⟨rfl, rfl⟩
        go_wp2_with fail
        go_fit HB.out
        rintro e w2 ⟨rfl, rfl⟩
        go_wp2_with fail
        go_roundw
        case rel => exact ⟨(x : Int) + 1, by go_num, by rw [HC.out]; go_num, by omega, by omega, trivial⟩
        case measure => simp [intOf]; omega
    · obtain rfl : q = (n : Int) + 1 := by omega
      have HKM := hid (show (cntB l ((n : Int) + 1) : Int) = (m1 : Int) by rw [HM1.out, cnt_no (hasB_far (by have := HN.out; omega))])
      rw [HKM.out]
      have HLE := hid (fun (W : World) (hW : Beyond wr W) => left_any (HP1.out.step hW))
      have HBY := hid (fun (W : World) (hW : Beyond wr W) => sbytes_any (HP1.out.step hW))
      have HRB := hid (fun (W : World) (hW : Beyond wr W) => refBytes_any (HF1.out.step hW) hn1 hn2)
      have hlv : (leftB l : Int) = (n : Int) - (m1 : Int) := by
        have h1 := HR1.out.1
        have h2 := HN.out
        unfold leftB
        rw [← h2, ← h1]
        omega
      rw [hlv] at HLE
      clear hlv
      have hws : IntKind.i64.wrap ((n : Int) - (m1 : Int)) = (n : Int) - (m1 : Int) := IntWalk.i64_in _ ⟨by omega, by omega⟩
      go_upto_region 13 with fail
      refine wp_region_held_drew (S := Beyond wr) (by kernel_rfl) (Beyond.drew _) (fun hS => ?_)
      refine take_step (i := 0) (by simp only [List.getElem?_toArray, List.getElem?_cons_zero]; rfl) (by kernel_rfl) (by kernel_rfl) (by kernel_rfl) (by intro _ _ _ h; exact h) (by rfl) (fun W hW => by go_simp; first | done | with_reducible rfl) hS ?_
      try simp only [Act.put, List.setIfInBounds_toArray, List.set_cons_zero, List.set_cons_succ]
      refine take_step (i := 1) (by simp only [List.getElem?_toArray, List.getElem?_cons_succ, List.getElem?_cons_zero]; rfl) (by kernel_rfl) (by kernel_rfl) (by kernel_rfl) (by intro _ _ _ h; exact h) (by rfl) (fun W hW => by go_simp; first | done | with_reducible rfl) hS ?_
      try simp only [Act.put, List.setIfInBounds_toArray, List.set_cons_zero, List.set_cons_succ]
      refine take_step (i := 2) (by simp only [List.getElem?_toArray, List.getElem?_cons_succ, List.getElem?_cons_zero]; rfl) (by kernel_rfl) (by kernel_rfl) (by kernel_rfl) (by intro _ _ _ h; exact h) (by rfl) (fun W hW => by go_simp; first | done | with_reducible rfl) hS ?_
      try simp only [Act.put, List.setIfInBounds_toArray, List.set_cons_zero, List.set_cons_succ]
      refine take_step (i := 3) (by simp only [List.getElem?_toArray, List.getElem?_cons_succ, List.getElem?_cons_zero]; rfl) (by kernel_rfl) (by kernel_rfl) (by kernel_rfl) (by intro _ _ _ h; exact h) (by rfl) (fun W hW => by go_simp; first | done | with_reducible rfl) hS ?_
      try simp only [Act.put, List.setIfInBounds_toArray, List.set_cons_zero, List.set_cons_succ]
      refine take_step (i := 4) (by simp only [List.getElem?_toArray, List.getElem?_cons_succ, List.getElem?_cons_zero]; rfl) (by kernel_rfl) (by kernel_rfl) (by kernel_rfl) (by intro _ _ _ h; exact h) (by rfl) (fun W hW => by go_simp; first | done | with_reducible rfl) hS ?_
      try simp only [Act.put, List.setIfInBounds_toArray, List.set_cons_zero, List.set_cons_succ]
      first | (refine take_step (i := 5) (by simp only [List.getElem?_toArray, List.getElem?_cons_succ, List.getElem?_cons_zero]; rfl) (by kernel_rfl) (by kernel_rfl) (by kernel_rfl) (by intro _ _ _ h; exact h) (by rfl) (fun W hW => by go_simp; first | done | with_reducible rfl) hS ?_) | (refine skip_step (i := 5) (by simp only [List.getElem?_toArray, List.getElem?_cons_succ, List.getElem?_cons_zero]; rfl) (by kernel_rfl) (by kernel_rfl) (by kernel_rfl) (by intro _ _ _ h; exact h) (by rfl) hS ?_)
      try simp only [Act.put, List.setIfInBounds_toArray, List.set_cons_zero, List.set_cons_succ]
      first | (refine take_step (i := 7) (by simp only [List.getElem?_toArray, List.getElem?_cons_succ, List.getElem?_cons_zero]; rfl) (by kernel_rfl) (by kernel_rfl) (by kernel_rfl) (by intro _ _ _ h; exact h) (by rfl) (fun W hW => by go_simp; first | done | with_reducible rfl) hS ?_) | (refine skip_step (i := 7) (by simp only [List.getElem?_toArray, List.getElem?_cons_succ, List.getElem?_cons_zero]; rfl) (by kernel_rfl) (by kernel_rfl) (by kernel_rfl) (by intro _ _ _ h; exact h) (by rfl) hS ?_)
      try simp only [Act.put, List.setIfInBounds_toArray, List.set_cons_zero, List.set_cons_succ]
      first | (refine take_step (i := 8) (by simp only [List.getElem?_toArray, List.getElem?_cons_succ, List.getElem?_cons_zero]; rfl) (by kernel_rfl) (by kernel_rfl) (by kernel_rfl) (by intro _ _ _ h; exact h) (by rfl) (fun W hW => by go_simp; first | done | with_reducible rfl) hS ?_) | (refine skip_step (i := 8) (by simp only [List.getElem?_toArray, List.getElem?_cons_succ, List.getElem?_cons_zero]; rfl) (by kernel_rfl) (by kernel_rfl) (by kernel_rfl) (by intro _ _ _ h; exact h) (by rfl) hS ?_)
      try simp only [Act.put, List.setIfInBounds_toArray, List.set_cons_zero, List.set_cons_succ]
      first | (refine take_step (i := 9) (by simp only [List.getElem?_toArray, List.getElem?_cons_succ, List.getElem?_cons_zero]; rfl) (by kernel_rfl) (by kernel_rfl) (by kernel_rfl) (by intro _ _ _ h; exact h) (by rfl) (fun W hW => by go_simp; first | done | with_reducible rfl) hS ?_) | (refine skip_step (i := 9) (by simp only [List.getElem?_toArray, List.getElem?_cons_succ, List.getElem?_cons_zero]; rfl) (by kernel_rfl) (by kernel_rfl) (by kernel_rfl) (by intro _ _ _ h; exact h) (by rfl) hS ?_)
      try simp only [Act.put, List.setIfInBounds_toArray, List.set_cons_zero, List.set_cons_succ]
      first | (refine take_step (i := 10) (by simp only [List.getElem?_toArray, List.getElem?_cons_succ, List.getElem?_cons_zero]; rfl) (by kernel_rfl) (by kernel_rfl) (by kernel_rfl) (by intro _ _ _ h; exact h) (by rfl) (fun W hW => by go_simp; first | done | with_reducible rfl) hS ?_) | (refine skip_step (i := 10) (by simp only [List.getElem?_toArray, List.getElem?_cons_succ, List.getElem?_cons_zero]; rfl) (by kernel_rfl) (by kernel_rfl) (by kernel_rfl) (by intro _ _ _ h; exact h) (by rfl) hS ?_)
      try simp only [Act.put, List.setIfInBounds_toArray, List.set_cons_zero, List.set_cons_succ]
      refine wpAnyH_ready (rs := [6]) (by kernel_rfl) (by simp) ?_
      refine AllReadyH.cons (by simp only [List.getElem?_toArray, List.getElem?_cons_succ, List.getElem?_cons_zero]; rfl) (fun K hK => ?_) AllReadyH.nil
      go_simp
      go_fit (HLE.out _ hS)
      rintro e w6 ⟨rfl, hb6⟩
      have hS6 := Beyond.step hS hb6
      clear hb6
      refine hK.out _ _ (by assumption) (fun _ => ?_)
      clear hK K hS
      have hS := hS6
      try simp only [Act.put, List.setIfInBounds_toArray, List.set_cons_zero, List.set_cons_succ]
      first | (refine take_step (i := 11) (by simp only [List.getElem?_toArray, List.getElem?_cons_succ, List.getElem?_cons_zero]; rfl) (by kernel_rfl) (by kernel_rfl) (by kernel_rfl) (by intro _ _ _ h; exact h) (by rfl) (fun W hW => by go_simp; first | done | with_reducible rfl) hS ?_) | (refine skip_step (i := 11) (by simp only [List.getElem?_toArray, List.getElem?_cons_succ, List.getElem?_cons_zero]; rfl) (by kernel_rfl) (by kernel_rfl) (by kernel_rfl) (by intro _ _ _ h; exact h) (by rfl) hS ?_)
      try simp only [Act.put, List.setIfInBounds_toArray, List.set_cons_zero, List.set_cons_succ]
      refine take_step (i := 12) (by simp only [List.getElem?_toArray, List.getElem?_cons_succ, List.getElem?_cons_zero]; rfl) (by kernel_rfl) (by kernel_rfl) (by kernel_rfl) (by intro _ _ _ h; exact h) (by rfl) (fun W hW => by go_simp; first | done | with_reducible rfl) hS ?_
      try simp only [Act.put, List.setIfInBounds_toArray, List.set_cons_zero, List.set_cons_succ]
      refine take_step (i := 13) (by simp only [List.getElem?_toArray, List.getElem?_cons_succ, List.getElem?_cons_zero]; rfl) (by kernel_rfl) (by kernel_rfl) (by kernel_rfl) (by intro _ _ _ h; exact h) (by rfl) (fun W hW => by go_simp; first | done | with_reducible rfl) hS ?_
      try simp only [Act.put, List.setIfInBounds_toArray, List.set_cons_zero, List.set_cons_succ]
      first | (refine take_step (i := 14) (by simp only [List.getElem?_toArray, List.getElem?_cons_succ, List.getElem?_cons_zero]; rfl) (by kernel_rfl) (by kernel_rfl) (by kernel_rfl) (by intro _ _ _ h; exact h) (by rfl) (fun W hW => by go_simp; first | done | with_reducible rfl) hS ?_) | (refine skip_step (i := 14) (by simp only [List.getElem?_toArray, List.getElem?_cons_succ, List.getElem?_cons_zero]; rfl) (by kernel_rfl) (by kernel_rfl) (by kernel_rfl) (by intro _ _ _ h; exact h) (by rfl) hS ?_)
      try simp only [Act.put, List.setIfInBounds_toArray, List.set_cons_zero, List.set_cons_succ]
      first | (refine take_step (i := 17) (by simp only [List.getElem?_toArray, List.getElem?_cons_succ, List.getElem?_cons_zero]; rfl) (by kernel_rfl) (by kernel_rfl) (by kernel_rfl) (by intro _ _ _ h; exact h) (by rfl) (fun W hW => by go_simp; first | done | with_reducible rfl) hS ?_) | (refine skip_step (i := 17) (by simp only [List.getElem?_toArray, List.getElem?_cons_succ, List.getElem?_cons_zero]; rfl) (by kernel_rfl) (by kernel_rfl) (by kernel_rfl) (by intro _ _ _ h; exact h) (by rfl) hS ?_)
      try simp only [Act.put, List.setIfInBounds_toArray, List.set_cons_zero, List.set_cons_succ]
      refine wpAnyH_ready (rs := [15]) (by kernel_rfl) (by simp) ?_
      refine AllReadyH.cons (by simp only [List.getElem?_toArray, List.getElem?_cons_succ, List.getElem?_cons_zero]; rfl) (fun K hK => ?_) AllReadyH.nil
      go_simp
      go_fit (HBY.out _ hS)
      rintro e w7 ⟨A7, m7, c7, rfl, hr7, hb7⟩
      have hS15 := Beyond.step hS hb7
      have hX15 := hS15
      have hcv := fun (W : World) (hW : Beyond w7 W) => str_of (c := c7) (hr7.at_.below hW) hr7.1
      clear hb7
      refine hK.out _ _ (by assumption) (fun _ => ?_)
      clear hK K hS
      have hS := hS15
      try simp only [Act.put, List.setIfInBounds_toArray, List.set_cons_zero, List.set_cons_succ]
      refine wpAnyH_more (S' := Beyond w7) (fun W hW => Beyond.trans hS hW) ?_
      have hS := Beyond.refl w7
      first | (refine take_step (i := 16) (by simp only [List.getElem?_toArray, List.getElem?_cons_succ, List.getElem?_cons_zero]; rfl) (by kernel_rfl) (by kernel_rfl) (by kernel_rfl) (by intro _ _ _ h; exact h) (by rfl) (fun W hW => by go_simp; first | done | with_reducible rfl) hS ?_) | (refine skip_step (i := 16) (by simp only [List.getElem?_toArray, List.getElem?_cons_succ, List.getElem?_cons_zero]; rfl) (by kernel_rfl) (by kernel_rfl) (by kernel_rfl) (by intro _ _ _ h; exact h) (by rfl) hS ?_)
      try simp only [Act.put, List.setIfInBounds_toArray, List.set_cons_zero, List.set_cons_succ]
      refine wpAnyH_ready (rs := [18]) (by kernel_rfl) (by simp) ?_
      refine AllReadyH.cons (by simp only [List.getElem?_toArray, List.getElem?_cons_succ, List.getElem?_cons_zero]; rfl) (fun K hK => ?_) AllReadyH.nil
      go_simp
      go_fit (HRB.out _ (Beyond.trans hX15 hS))
      rintro e w8 ⟨rfl, hb8⟩
      have hS18 := Beyond.step hS hb8
      clear hb8
      refine hK.out _ _ (by assumption) (fun _ => ?_)
      clear hK K hS
      have hS := hS18
      try simp only [Act.put, List.setIfInBounds_toArray, List.set_cons_zero, List.set_cons_succ]
      first | (refine take_step (i := 19) (by simp only [List.getElem?_toArray, List.getElem?_cons_succ, List.getElem?_cons_zero]; rfl) (by kernel_rfl) (by kernel_rfl) (by kernel_rfl) (by intro _ _ _ h; exact h) (by rfl) (fun W hW => by go_simp; first | done | with_reducible rfl) hS ?_) | (refine skip_step (i := 19) (by simp only [List.getElem?_toArray, List.getElem?_cons_succ, List.getElem?_cons_zero]; rfl) (by kernel_rfl) (by kernel_rfl) (by kernel_rfl) (by intro _ _ _ h; exact h) (by rfl) hS ?_)
      try simp only [Act.put, List.setIfInBounds_toArray, List.set_cons_zero, List.set_cons_succ]
      refine take_step (i := 20) (by simp only [List.getElem?_toArray, List.getElem?_cons_succ, List.getElem?_cons_zero]; rfl) (by kernel_rfl) (by kernel_rfl) (by kernel_rfl) (by intro _ _ _ h; exact h) (by rfl) (fun W hW => by go_simp; first | done | with_reducible rfl) hS ?_
      try simp only [Act.put, List.setIfInBounds_toArray, List.set_cons_zero, List.set_cons_succ]
      refine take_step (i := 21) (by simp only [List.getElem?_toArray, List.getElem?_cons_succ, List.getElem?_cons_zero]; rfl) (by kernel_rfl) (by kernel_rfl) (by kernel_rfl) (by intro _ _ _ h; exact h) (by rfl) (fun W hW => by go_simp; first | done | with_reducible rfl) hS ?_
      try simp only [Act.put, List.setIfInBounds_toArray, List.set_cons_zero, List.set_cons_succ]
      refine wpAnyH_done (by kernel_rfl) ?_ _
      have HS := hid (Beyond.trans hX15 hS)
      clear hS hcv
      go_wp2_with fail
      go_ret
      exact ⟨by simp, HB1.out.trans (HS.out.mono HB1.out.size)⟩

end Go.Proofs.Ytcodljegicoeeaa
