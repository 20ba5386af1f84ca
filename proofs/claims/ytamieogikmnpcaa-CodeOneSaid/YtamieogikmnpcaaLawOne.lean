/-
  CodeOne: its walk.
-/
import Derived.Test.YtamieogikmnpcaaTkEnc
import Derived.Test.YtamieogikmnpcaaRegion
namespace Go.Proofs.Ytamieogikmnpcaa
open Go Go.RowKit

theorem end_at {r e0 x : Nat} {l : List UInt8} {w : World} (h : endOf l e0 = x) (hr : Rd w r l e0) :
    Calls Try.prog 17 #[.pointer (some ⟨r, 0, none⟩)] w fun e w' => e = .returned (.int .i64 (x : Int)) ∧ w = w' := by
  subst h
  exact end_any r e0 l w hr

set_option maxRecDepth 100000 in
set_option maxHeartbeats 8000000 in
theorem one_walk {A : Option Addr} {c : Nat} (s : List UInt8) (fs : List Fd) (w : World) (hA : FAt w w.heap.size A fs) (hc : fs.length ≤ c) (hl : fs.length ≤ 9223372036854775807) (hsl : s.length ≤ 140737488351232) :
    Calls Try.prog 6 #[.string (bst s), .slice A fs.length c] w fun e w' => e = .returned (.bool true) ∧ Below w.heap.size w w' := by
  have HA := hid hA
  have HSL := hid hsl
  obtain ⟨n, hn⟩ : ∃ n, n = fs.length := ⟨_, rfl⟩
  rw [← hn] at hc hl ⊢
  have HN := hid hn
  have hz := bst_size s
  clear hA hn hsl
  by_cases hs1 : 1000 < s.length
  · have hsi : (1000 : Int) < (s.length : Int) := by omega
    go_enter Try.func6, Try.ntmps6
    go_wp2_with (with_reducible refine wpList_bytes_of _ rfl (.tmp 13) 9 30 5 rfl Try.underlying9 Try.underlying30 Try.underlying5 s rfl ?_; intro A1 c1 w1 hc1 hA1 hb1)
    go_fit (read_any hA1 rfl (Nat.le_refl _) HSL.out)
    rintro e w2 ⟨r, rfl, hr2, hle2, hb2⟩
    have HR2 := hid hr2
    have HB2 := hid (below_step hb1 hb2)
    have HLR := hid (Nat.le_trans hb1.size hle2)
    have HRP := hid hr2.lt
    clear hA1 hb1 hc1 hr2 hle2 hb2
    go_wp2_with fail
    go_fit (write_any w2)
    rintro e w3 ⟨rfl, hw3, hb3⟩
    have HW3 := hid hw3
    have HR3 := hid (HR2.out.step hb3)
    have HB3 := hid (below_step HB2.out hb3)
    clear hw3 hb3
    go_wp2_with fail
    go_fit (awake_yes w3)
    rintro e w4 ⟨rfl, hb4⟩
    have HR4 := hid (HR3.out.step hb4)
    have HW4 := hid (HW3.out.step hb4)
    have HB4 := hid (below_step HB3.out hb4)
    clear hb4
    go_wp2_with fail
    go_fit (awake_yes w4)
    rintro e w5 ⟨rfl, hb5⟩
    have HB5 := hid (below_step HB4.out hb5)
    clear hb5
    go_wp2_with fail
    go_ret
    exact ⟨rfl, HB5.out⟩

  have hsi : ¬ (1000 : Int) < (s.length : Int) := by omega
  by_cases hlen : 50 < n
  · skip
    go_enter Try.func6, Try.ntmps6
    go_wp2_with (with_reducible refine wpList_bytes_of _ rfl (.tmp 13) 9 30 5 rfl Try.underlying9 Try.underlying30 Try.underlying5 s rfl ?_; intro A1 c1 w1 hc1 hA1 hb1)
    go_fit (read_any hA1 rfl (Nat.le_refl _) HSL.out)
    rintro e w2 ⟨r, rfl, hr2, hle2, hb2⟩
    have HR2 := hid hr2
    have HB2 := hid (below_step hb1 hb2)
    have HLR := hid (Nat.le_trans hb1.size hle2)
    have HRP := hid hr2.lt
    clear hA1 hb1 hc1 hr2 hle2 hb2
    go_wp2_with fail
    go_fit (write_any w2)
    rintro e w3 ⟨rfl, hw3, hb3⟩
    have HW3 := hid hw3
    have HR3 := hid (HR2.out.step hb3)
    have HB3 := hid (below_step HB2.out hb3)
    clear hw3 hb3
    go_wp2_with fail
    go_fit (awake_yes w3)
    rintro e w4 ⟨rfl, hb4⟩
    have HR4 := hid (HR3.out.step hb4)
    have HW4 := hid (HW3.out.step hb4)
    have HB4 := hid (below_step HB3.out hb4)
    clear hb4
    go_wp2_with fail
    go_fit (awake_yes w4)
    rintro e w5 ⟨rfl, hb5⟩
    have HB5 := hid (below_step HB4.out hb5)
    clear hb5
    go_wp2_with fail
    go_ret
    exact ⟨rfl, HB5.out⟩

  go_enter Try.func6, Try.ntmps6
  go_wp2_with (with_reducible refine wpList_bytes_of _ rfl (.tmp 13) 9 30 5 rfl Try.underlying9 Try.underlying30 Try.underlying5 s rfl ?_; intro A1 c1 w1 hc1 hA1 hb1)
  go_fit (read_any hA1 rfl (Nat.le_refl _) HSL.out)
  rintro e w2 ⟨r, rfl, hr2, hle2, hb2⟩
  have HR2 := hid hr2
  have HB2 := hid (below_step hb1 hb2)
  have HLR := hid (Nat.le_trans hb1.size hle2)
  have HRP := hid hr2.lt
  clear hA1 hb1 hc1 hr2 hle2 hb2
  go_wp2_with fail
  go_fit (write_any w2)
  rintro e w3 ⟨rfl, hw3, hb3⟩
  have HW3 := hid hw3
  have HR3 := hid (HR2.out.step hb3)
  have HB3 := hid (below_step HB2.out hb3)
  clear hw3 hb3
  go_wp2_with fail
  go_fit (awake_yes w3)
  rintro e w4 ⟨rfl, hb4⟩
  have HR4 := hid (HR3.out.step hb4)
  have HW4 := hid (HW3.out.step hb4)
  have HB4 := hid (below_step HB3.out hb4)
  clear hb4
  go_wp2_with fail

  go_loopw [7] (fun i wr => ∃ (k : Nat) (l out : List UInt8), k ≤ n ∧ i = .int .i64 (k : Int) ∧ Rd wr r l 0 ∧ Wr wr w2.heap.size w2.heap.size out 0 ∧ Below w.heap.size w wr ∧ out ++ l = s) (fun i _ => n - (intOf i).toNat)
  case atStart => exact ⟨0, s, [], by omega, rfl, HR4.out, HW4.out, HB4.out, rfl⟩
  case round =>
    obtain ⟨k, l, out, hk, rfl, hrr, hwr, hbr, hol⟩ := hrel
    have HRR := hid hrr
    have HWR := hid hwr
    have HBR := hid hbr
    have HOL := hid hol
    have hll : out.length + l.length ≤ 1000 := by rw [← List.length_append, hol]; omega
    have HLL := hid hll
    clear hrr hwr hbr hol hll
    by_cases hlt : k < n
    · clear hs1 hsi hz
      obtain ⟨b, off, f, rfl, hb, hf, hok, hcells⟩ := (HA.out.below HBR.out).get (k := k) (by rw [← HN.out]; exact hlt)
      obtain ⟨c0, c1, c2, c3, c4⟩ := hcells
      obtain ⟨q, hq⟩ : ∃ q, q = k3 f.k := ⟨_, rfl⟩
      have HQ3 := hid (show q ≤ 3 by rw [hq]; exact (k3_spec f.k).2)
      have HMO := hid hok.m
      obtain ⟨fk, fv, fsx, fy, fm⟩ := f
      dsimp only at c0 c1 c2 c3 c4 hq HMO
      have HQ := hid hq
      clear hf hok hq
      obtain ⟨⟨⟨Fk, Fv, Fs, Fy, Fm⟩, l2, e2⟩, htk⟩ : ∃ o, tk q fm l = o := ⟨_, rfl⟩
      have HTK := hid (fun W h => take_any r q fm HQ3.out HMO.out l W h)
      rw [htk] at HTK
      unfold Fd.val at HTK
      dsimp only at HTK
      have HE31 := hid (show e2 ≠ 31 by have := tk_err q fm l; rw [htk] at this; exact this)
      have HTE := hid htk
      clear htk
      go_wp2_with fail
      go_fit (kinds_is (q := q) ⟨fk, fv, fsx, fy, fm⟩ wr HQ.out.symm)
      rintro e w5 ⟨rfl, hb5⟩
      dsimp only
      have HB5 := hid (below_step HBR.out hb5)
      have HR5 := hid (HRR.out.step hb5)
      have HW5 := hid (HWR.out.step hb5)
      have hBel : Below w5.heap.size w5 (w5.alloc (.cells #[.int .i64 (q : Int), .int .u64 (fv : Int), .string (bst fsx), .bool fy, .int .i64 fm] 28)) := (Below.refl _ _).alloc (Nat.le_refl _) _
      have HBel := hid hBel
      clear hb5 c0 c1 c2 c3 c4 hBel
      go_wp2_with fail
      go_fit (HTK.out _ (HR5.out.step HBel.out))
      rintro e w6 ⟨rfl, hr6, ho6⟩
      have HR6 := hid hr6
      have HW6 := hid ((HW5.out.step HBel.out).only ho6 HRP.out)
      have HB6 := hid ((below_step HB5.out HBel.out).trans (ho6.below HLR.out (below_step HB5.out HBel.out).size))
      clear hr6 ho6
      go_wp2_with fail
      have HP := hid (show w.heap.size ≤ w2.heap.size from HB2.out.size)
      have hB6a : Below w6.heap.size w6 (w6.alloc (.cells #[.int .i64 Fk, .int .u64 (Fv : Int), .string (bst Fs), .bool Fy, .int .i64 Fm] 28)) := (Below.refl _ _).alloc (Nat.le_refl _) _
      have HB6a := hid hB6a
      clear hB6a
      by_cases he : e2 = 0
      · subst he
        have HENC := hid (tk_enc HQ3.out HTE.out)
        rcases l2 with _ | ⟨x, y⟩
        · go_fit (end_at (x := 0) rfl (HR6.out.step HB6a.out))
          rintro e w7 ⟨rfl, rfl⟩
          go_wp2_with fail
          go_fit (put_any ⟨Fk, Fv, Fs, Fy, Fm⟩ (HW6.out.step HB6a.out) HENC.out.v HENC.out.s (by have := HLL.out; omega))
          rintro e w8 ⟨rfl, hw8, hk8⟩
          have HR8 := hid ((HR6.out.step HB6a.out).below hk8.below HRP.out)
          have HW8 := hid hw8
          have HB8 := hid ((below_step HB6.out HB6a.out).trans (hk8.below.mono HP.out))
          clear hw8 hk8
          go_wp2_with fail
          go_roundw
          case rel => exact ⟨k + 1, [], out ++ enc ⟨Fk, Fv, Fs, Fy, Fm⟩, by omega, by go_num, HR8.out, HW8.out, HB8.out, by rw [List.append_assoc, HENC.out.eq]; exact HOL.out⟩
          case measure => simp [intOf]; omega
        · go_fit (end_at (x := 31) (by simp [endOf]) (HR6.out.step HB6a.out))
          rintro e w7 ⟨rfl, rfl⟩
          go_wp2_with fail
          go_fit (put_any ⟨Fk, Fv, Fs, Fy, Fm⟩ (HW6.out.step HB6a.out) HENC.out.v HENC.out.s (by have := HLL.out; omega))
          rintro e w8 ⟨rfl, hw8, hk8⟩
          have HR8 := hid ((HR6.out.step HB6a.out).below hk8.below HRP.out)
          have HW8 := hid hw8
          have HB8 := hid ((below_step HB6.out HB6a.out).trans (hk8.below.mono HP.out))
          clear hw8 hk8
          go_wp2_with fail
          go_roundw
          case rel => exact ⟨k + 1, x :: y, out ++ enc ⟨Fk, Fv, Fs, Fy, Fm⟩, by omega, by go_num, HR8.out, HW8.out, HB8.out, by rw [List.append_assoc, HENC.out.eq]; exact HOL.out⟩
          case measure => simp [intOf]; omega
      · have hen := hid (show endOf l2 e2 = e2 by unfold endOf; rw [if_neg (by omega)])
        have hE : ((e2 : Int) != 0) = true := by simp; omega
        have hE2 : ((e2 : Int) != 31) = true := by have := HE31.out; simp; omega
        clear he
        go_fit (end_at hen.out (HR6.out.step HB6a.out))
        rintro e w7 ⟨rfl, rfl⟩
        go_wp2_with fail
        go_ret
        exact ⟨rfl, below_step HB6.out HB6a.out⟩
    · obtain rfl : k = n := by omega
      have HO := hid (show out.length ≤ 1000 by have := HLL.out; omega)
      go_wp2_with fail
      go_fit (bytes_any HWR.out (by have := HO.out; omega))
      rintro e w7 ⟨A7, m7, c7, rfl, hr7, hb7⟩
      have HRow := hid hr7
      have HR7 := hid (HRR.out.step hb7)
      have HB7 := hid (below_step HBR.out hb7)
      have happ := bst_append out l
      rw [HOL.out] at happ
      have hzo := bst_size out
      have hzl := bst_size l
      have hns : ¬ (9223372036854775807 < out.length + l.length) := by have := HLL.out; omega
      have hcv : ∀ W, Beyond w7 W → (convert 30 9 (.slice A7 m7 c7)).run Try.prog W = .ok (.string (bst out)) W := fun W hW => str_of (HRow.out.at_.below hW) HRow.out.1
      clear hr7 hb7
      go_wp2_with fail
      refine wp_region_held_drew (S := Beyond w7) (by kernel_rfl) (Beyond.drew _) (fun hS => ?_)
      refine take_step (i := 0) (by simp only [List.getElem?_toArray, List.getElem?_cons_zero]; rfl) (by kernel_rfl) (by kernel_rfl) (by kernel_rfl) (by intro _ _ _ h; exact h) (by rfl) (fun W hW => by go_simp; first | done | with_reducible rfl) hS ?_
      try simp only [Act.put, List.setIfInBounds_toArray, List.set_cons_zero, List.set_cons_succ]
      refine take_step (i := 1) (by simp only [List.getElem?_toArray, List.getElem?_cons_succ, List.getElem?_cons_zero]; rfl) (by kernel_rfl) (by kernel_rfl) (by kernel_rfl) (by intro _ _ _ h; exact h) (by rfl) (fun W hW => by go_simp; first | done | with_reducible rfl) hS ?_
      try simp only [Act.put, List.setIfInBounds_toArray, List.set_cons_zero, List.set_cons_succ]
      refine take_step (i := 2) (by simp only [List.getElem?_toArray, List.getElem?_cons_succ, List.getElem?_cons_zero]; rfl) (by kernel_rfl) (by kernel_rfl) (by kernel_rfl) (by intro _ _ _ h; exact h) (by rfl) (fun W hW => by go_simp; first | done | with_reducible rfl) hS ?_
      try simp only [Act.put, List.setIfInBounds_toArray, List.set_cons_zero, List.set_cons_succ]
      first | (refine take_step (i := 3) (by simp only [List.getElem?_toArray, List.getElem?_cons_succ, List.getElem?_cons_zero]; rfl) (by kernel_rfl) (by kernel_rfl) (by kernel_rfl) (by intro _ _ _ h; exact h) (by rfl) (fun W hW => by go_simp; first | done | with_reducible rfl) hS ?_) | (refine skip_step (i := 3) (by simp only [List.getElem?_toArray, List.getElem?_cons_succ, List.getElem?_cons_zero]; rfl) (by kernel_rfl) (by kernel_rfl) (by kernel_rfl) (by intro _ _ _ h; exact h) (by rfl) hS ?_)
      try simp only [Act.put, List.setIfInBounds_toArray, List.set_cons_zero, List.set_cons_succ]
      first | (refine take_step (i := 4) (by simp only [List.getElem?_toArray, List.getElem?_cons_succ, List.getElem?_cons_zero]; rfl) (by kernel_rfl) (by kernel_rfl) (by kernel_rfl) (by intro _ _ _ h; exact h) (by rfl) (fun W hW => by go_simp; first | done | with_reducible rfl) hS ?_) | (refine skip_step (i := 4) (by simp only [List.getElem?_toArray, List.getElem?_cons_succ, List.getElem?_cons_zero]; rfl) (by kernel_rfl) (by kernel_rfl) (by kernel_rfl) (by intro _ _ _ h; exact h) (by rfl) hS ?_)
      try simp only [Act.put, List.setIfInBounds_toArray, List.set_cons_zero, List.set_cons_succ]
      first | (refine take_step (i := 5) (by simp only [List.getElem?_toArray, List.getElem?_cons_succ, List.getElem?_cons_zero]; rfl) (by kernel_rfl) (by kernel_rfl) (by kernel_rfl) (by intro _ _ _ h; exact h) (by rfl) (fun W hW => by go_simp; first | done | with_reducible rfl) hS ?_) | (refine skip_step (i := 5) (by simp only [List.getElem?_toArray, List.getElem?_cons_succ, List.getElem?_cons_zero]; rfl) (by kernel_rfl) (by kernel_rfl) (by kernel_rfl) (by intro _ _ _ h; exact h) (by rfl) hS ?_)
      try simp only [Act.put, List.setIfInBounds_toArray, List.set_cons_zero, List.set_cons_succ]
      first | (refine take_step (i := 9) (by simp only [List.getElem?_toArray, List.getElem?_cons_succ, List.getElem?_cons_zero]; rfl) (by kernel_rfl) (by kernel_rfl) (by kernel_rfl) (by intro _ _ _ h; exact h) (by rfl) (fun W hW => by go_simp; first | done | with_reducible rfl) hS ?_) | (refine skip_step (i := 9) (by simp only [List.getElem?_toArray, List.getElem?_cons_succ, List.getElem?_cons_zero]; rfl) (by kernel_rfl) (by kernel_rfl) (by kernel_rfl) (by intro _ _ _ h; exact h) (by rfl) hS ?_)
      try simp only [Act.put, List.setIfInBounds_toArray, List.set_cons_zero, List.set_cons_succ]
      refine wpAnyH_ready (rs := [6]) (by kernel_rfl) (by simp) ?_
      refine AllReadyH.cons (by simp only [List.getElem?_toArray, List.getElem?_cons_succ, List.getElem?_cons_zero]; rfl) (fun K hK => ?_) AllReadyH.nil
      go_simp
      go_fit (rest_any r 0 l _ (HR7.out.step hS))
      rintro e w9 ⟨A9, m9, c9, rfl, hr9, hb9⟩
      have hS6 := Beyond.step hS hb9
      have HR9 := hid hr9
      clear hr9
      have hcv9 : ∀ W, Beyond w9 W → (convert 30 9 (.slice A9 m9 c9)).run Try.prog W = .ok (.string (bst l)) W := fun W hW => str_of (HR9.out.at_.below hW) HR9.out.1
      clear hcv
      refine hK.out _ _ (by assumption) (fun _ => ?_)
      clear hK K hS
      have hS := hS6
      try simp only [Act.put, List.setIfInBounds_toArray, List.set_cons_zero, List.set_cons_succ]
      refine wpAnyH_more (S' := Beyond w9) (fun W hW => Beyond.trans hS hW) ?_
      have hS := Beyond.refl w9
      first | (refine take_step (i := 7) (by simp only [List.getElem?_toArray, List.getElem?_cons_succ, List.getElem?_cons_zero]; rfl) (by kernel_rfl) (by kernel_rfl) (by kernel_rfl) (by intro _ _ _ h; exact h) (by rfl) (fun W hW => by go_simp; first | done | with_reducible rfl) hS ?_) | (refine skip_step (i := 7) (by simp only [List.getElem?_toArray, List.getElem?_cons_succ, List.getElem?_cons_zero]; rfl) (by kernel_rfl) (by kernel_rfl) (by kernel_rfl) (by intro _ _ _ h; exact h) (by rfl) hS ?_)
      try simp only [Act.put, List.setIfInBounds_toArray, List.set_cons_zero, List.set_cons_succ]
      first | (refine take_step (i := 8) (by simp only [List.getElem?_toArray, List.getElem?_cons_succ, List.getElem?_cons_zero]; rfl) (by kernel_rfl) (by kernel_rfl) (by kernel_rfl) (by intro _ _ _ h; exact h) (by rfl) (fun W hW => by go_simp; first | done | with_reducible rfl) hS ?_) | (refine skip_step (i := 8) (by simp only [List.getElem?_toArray, List.getElem?_cons_succ, List.getElem?_cons_zero]; rfl) (by kernel_rfl) (by kernel_rfl) (by kernel_rfl) (by intro _ _ _ h; exact h) (by rfl) hS ?_)
      try simp only [Act.put, List.setIfInBounds_toArray, List.set_cons_zero, List.set_cons_succ]
      first | (refine take_step (i := 10) (by simp only [List.getElem?_toArray, List.getElem?_cons_succ, List.getElem?_cons_zero]; rfl) (by kernel_rfl) (by kernel_rfl) (by kernel_rfl) (by intro _ _ _ h; exact h) (by rfl) (fun W hW => by go_simp; first | done | with_reducible rfl) hS ?_) | (refine skip_step (i := 10) (by simp only [List.getElem?_toArray, List.getElem?_cons_succ, List.getElem?_cons_zero]; rfl) (by kernel_rfl) (by kernel_rfl) (by kernel_rfl) (by intro _ _ _ h; exact h) (by rfl) hS ?_)
      try simp only [Act.put, List.setIfInBounds_toArray, List.set_cons_zero, List.set_cons_succ]
      refine take_step (i := 11) (by simp only [List.getElem?_toArray, List.getElem?_cons_succ, List.getElem?_cons_zero]; rfl) (by kernel_rfl) (by kernel_rfl) (by kernel_rfl) (by intro _ _ _ h; exact h) (by rfl) (fun W hW => by go_simp; first | done | with_reducible rfl) hS ?_
      try simp only [Act.put, List.setIfInBounds_toArray, List.set_cons_zero, List.set_cons_succ]
      refine take_step (i := 12) (by simp only [List.getElem?_toArray, List.getElem?_cons_succ, List.getElem?_cons_zero]; rfl) (by kernel_rfl) (by kernel_rfl) (by kernel_rfl) (by intro _ _ _ h; exact h) (by rfl) (fun W hW => by go_simp; first | done | with_reducible rfl) hS ?_
      try simp only [Act.put, List.setIfInBounds_toArray, List.set_cons_zero, List.set_cons_succ]
      refine wpAnyH_done (by kernel_rfl) ?_ _
      go_wp2_with fail
      go_ret
      exact ⟨rfl, below_step HB7.out hS6⟩

end Go.Proofs.Ytamieogikmnpcaa
