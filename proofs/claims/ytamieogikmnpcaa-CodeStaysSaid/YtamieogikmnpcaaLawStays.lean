/-
  CodeStays: its walk.
-/
import Derived.Test.YtamieogikmnpcaaTkEnc
import Derived.Test.YtamieogikmnpcaaRegion
import Derived.Test.YtamieogikmnpcaaEq
import Derived.Test.YtamieogikmnpcaaEndAt
namespace Go.Proofs.Ytamieogikmnpcaa
open Go Go.RowKit

theorem held_at {w : World} {r b o : Nat} {v : Value} (hc : w.cell? ⟨b, o, none⟩ = some v) (hne : b ≠ r) : ∀ W, Only r w W → W.cell? ⟨b, o, none⟩ = some v := fun _ hS =>
  (World.cell?_of_block (a := ⟨b, o, none⟩) (hS.block b (World.block_lt_of_cell? w _ hc) (fun e => hne (by injection e)))).trans hc
theorem held_beyond {w : World} {b o : Nat} {v : Value} (hc : w.cell? ⟨b, o, none⟩ = some v) : ∀ W, Beyond w W → W.cell? ⟨b, o, none⟩ = some v := fun _ hS =>
  (hS.cell (p := ⟨b, o, none⟩) (World.block_lt_of_cell? w _ hc)).trans hc
theorem held_blk {w : World} {g i : Nat} {t : TypeId} {cs : Array Value} (h : Blk w g t cs) : ∀ W, Beyond w W → W.cell? ⟨g, i, none⟩ = cs[i]? := fun _ hS => (Blk.below h hS h.lt).cell i
theorem at_world {P : Program} {md : Region.Mode} {ops : Array Oper} {Q : Exit → Act → World → Prop} {S : World → Prop} {fuel : Nat} {listed : Array Bool} {a : Act} (w : World) (h : wpAnyH P md ops Q S fuel listed a w) : wpAnyH P md ops Q S fuel listed a w := h
theorem take_some {r q e0 : Nat} {most : Int} {l : List UInt8} {w : World} (hq : q ≤ 3) (hmost : -9223372036854775808 ≤ most ∧ most ≤ 9223372036854775807) (hr : Rd w r l e0) :
    Calls Try.prog 16 #[.pointer (some ⟨r, 0, none⟩), .int .i64 (q : Int), .int .i64 most] w fun e w' =>
      ∃ v l' e', e = .returned v ∧ Rd w' r l' e' ∧ Only r w w' := by
  by_cases he : e0 = 0
  · subst he
    exact (take_any r q most hq hmost l w hr).mono fun e w' ⟨h1, h2, h3⟩ => ⟨_, _, _, h1, h2, h3⟩
  · exact (take_not r q e0 most hq l w hr he).mono fun e w' ⟨h1, h2, h3⟩ => ⟨_, _, _, h1, h2, h3⟩
theorem take_none {r q e0 : Nat} {most : Int} {l : List UInt8} {w : World} (hq : q ≤ 3) (he : e0 ≠ 0) (hr : Rd w r l e0) :
    Calls Try.prog 16 #[.pointer (some ⟨r, 0, none⟩), .int .i64 (q : Int), .int .i64 most] w fun e w' =>
      e = .returned (.agg #[.int .i64 (q : Int), .int .u64 0, .string ⟨#[]⟩, .bool false, .int .i64 0]) ∧ Rd w' r l e0 ∧ Only r w w' := take_not r q e0 most hq l w hr he

set_option maxRecDepth 100000 in
set_option maxHeartbeats 8000000 in
theorem stays_walk {A A' : Option Addr} {c c' : Nat} (s : List UInt8) (fs gs : List Fd) (w : World) (hA : FAt w w.heap.size A fs) (hc : fs.length ≤ c) (hl : fs.length ≤ 9223372036854775807)
    (hA' : FAt w w.heap.size A' gs) (hc' : gs.length ≤ c') (hl' : gs.length ≤ 9223372036854775807) (hsl : s.length ≤ 140737488351232) :
    Calls Try.prog 7 #[.string (bst s), .slice A fs.length c, .slice A' gs.length c'] w fun e w' => e = .returned (.bool true) ∧ Below w.heap.size w w' := by
  have HA := hid hA
  have HA' := hid hA'
  have HSL := hid hsl
  obtain ⟨n, hn⟩ : ∃ n, n = fs.length := ⟨_, rfl⟩
  obtain ⟨n', hn'⟩ : ∃ n', n' = gs.length := ⟨_, rfl⟩
  rw [← hn] at hc hl ⊢
  rw [← hn'] at hc' hl' ⊢
  have HN := hid hn
  have HN' := hid hn'
  have hz := bst_size s
  clear hA hn hsl hA' hn'
  by_cases hs1 : 1000 < s.length
  · have hsi : (1000 : Int) < (s.length : Int) := by omega
    go_enter Try.func7, Try.ntmps7
    go_wp2_with (with_reducible refine wpList_bytes_of _ rfl (.tmp 13) 9 30 5 rfl Try.underlying9 Try.underlying30 Try.underlying5 s rfl ?_; intro A1 c1 w1 hc1 hA1 hb1)
    go_fit (read_any hA1 rfl (Nat.le_refl _) HSL.out)
    rintro e w2 ⟨r, rfl, hr2, hle2, hb2⟩
    have HR2 := hid hr2
    have HB2 := hid (below_step hb1 hb2)
    have HLR := hid (Nat.le_trans hb1.size hle2)
    clear hA1 hb1 hc1 hr2 hle2 hb2
    go_wp2_with fail
    go_fit (awake_yes w2)
    rintro e w4 ⟨rfl, hb4⟩
    have HR4 := hid (HR2.out.step hb4)
    have HB4 := hid (below_step HB2.out hb4)
    clear hb4
    go_wp2_with fail
    go_fit (awake_yes w4)
    rintro e w5 ⟨rfl, hb5⟩
    have HB5 := hid (below_step HB4.out hb5)
    clear hb5
    go_wp2_with fail
    go_ret
    exact ⟨rfl, HB5.out⟩

  have hsi : ¬ (1000 : Int) < (s.length : Int) := by omega
  by_cases hlen : 50 < n
  · skip
    go_enter Try.func7, Try.ntmps7
    go_wp2_with (with_reducible refine wpList_bytes_of _ rfl (.tmp 13) 9 30 5 rfl Try.underlying9 Try.underlying30 Try.underlying5 s rfl ?_; intro A1 c1 w1 hc1 hA1 hb1)
    go_fit (read_any hA1 rfl (Nat.le_refl _) HSL.out)
    rintro e w2 ⟨r, rfl, hr2, hle2, hb2⟩
    have HR2 := hid hr2
    have HB2 := hid (below_step hb1 hb2)
    have HLR := hid (Nat.le_trans hb1.size hle2)
    clear hA1 hb1 hc1 hr2 hle2 hb2
    go_wp2_with fail
    go_fit (awake_yes w2)
    rintro e w4 ⟨rfl, hb4⟩
    have HR4 := hid (HR2.out.step hb4)
    have HB4 := hid (below_step HB2.out hb4)
    clear hb4
    go_wp2_with fail
    go_fit (awake_yes w4)
    rintro e w5 ⟨rfl, hb5⟩
    have HB5 := hid (below_step HB4.out hb5)
    clear hb5
    go_wp2_with fail
    go_ret
    exact ⟨rfl, HB5.out⟩

  by_cases hlen' : 50 < n'
  · skip
    go_enter Try.func7, Try.ntmps7
    go_wp2_with (with_reducible refine wpList_bytes_of _ rfl (.tmp 13) 9 30 5 rfl Try.underlying9 Try.underlying30 Try.underlying5 s rfl ?_; intro A1 c1 w1 hc1 hA1 hb1)
    go_fit (read_any hA1 rfl (Nat.le_refl _) HSL.out)
    rintro e w2 ⟨r, rfl, hr2, hle2, hb2⟩
    have HR2 := hid hr2
    have HB2 := hid (below_step hb1 hb2)
    have HLR := hid (Nat.le_trans hb1.size hle2)
    clear hA1 hb1 hc1 hr2 hle2 hb2
    go_wp2_with fail
    go_fit (awake_yes w2)
    rintro e w4 ⟨rfl, hb4⟩
    have HR4 := hid (HR2.out.step hb4)
    have HB4 := hid (below_step HB2.out hb4)
    clear hb4
    go_wp2_with fail
    go_fit (awake_yes w4)
    rintro e w5 ⟨rfl, hb5⟩
    have HB5 := hid (below_step HB4.out hb5)
    clear hb5
    go_wp2_with fail
    go_ret
    exact ⟨rfl, HB5.out⟩

  go_enter Try.func7, Try.ntmps7
  go_wp2_with (with_reducible refine wpList_bytes_of _ rfl (.tmp 13) 9 30 5 rfl Try.underlying9 Try.underlying30 Try.underlying5 s rfl ?_; intro A1 c1 w1 hc1 hA1 hb1)
  go_fit (read_any hA1 rfl (Nat.le_refl _) HSL.out)
  rintro e w2 ⟨r, rfl, hr2, hle2, hb2⟩
  have HR2 := hid hr2
  have HB2 := hid (below_step hb1 hb2)
  have HLR := hid (Nat.le_trans hb1.size hle2)
  clear hA1 hb1 hc1 hr2 hle2 hb2
  go_wp2_with fail
  go_fit (awake_yes w2)
  rintro e w4 ⟨rfl, hb4⟩
  have HR4 := hid (HR2.out.step hb4)
  have HB4 := hid (below_step HB2.out hb4)
  clear hb4
  go_wp2_with fail

  clear hs1 hsi hz
  go_loopw [8] (fun i wr => ∃ (k : Nat) (l : List UInt8) (e : Nat), k ≤ n ∧ i = .int .i64 (k : Int) ∧ Rd wr r l e ∧ Below w.heap.size w wr) (fun i _ => n - (intOf i).toNat)
  case atStart => exact ⟨0, s, 0, by omega, rfl, HR4.out, HB4.out⟩
  case round =>
    obtain ⟨k, l, e0, hk, rfl, hrr, hbr⟩ := hrel
    have HRR := hid hrr
    have HBR := hid hbr
    clear hrr hbr
    by_cases hlt : k < n
    · obtain ⟨b, off, f, rfl, hb, hf, hok, hcells⟩ := (HA.out.below HBR.out).get (k := k) (by rw [← HN.out]; exact hlt)
      obtain ⟨c0, c1, c2, c3, c4⟩ := hcells
      obtain ⟨q, hq⟩ : ∃ q, q = k3 f.k := ⟨_, rfl⟩
      have HQ3 := hid (show q ≤ 3 by rw [hq]; exact (k3_spec f.k).2)
      have HMO := hid hok.m
      have hk3 : bits BinOp.and IntKind.i64 f.k 3 = (q : Int) := by rw [hq]; exact (k3_spec f.k).1
      have hbr : b ≠ r := by have := HLR.out; omega
      have z0 := held_at c0 hbr
      have z4 := held_at c4 hbr
      have hk0 : (0 : Int) ≤ (k : Int) := by omega
      have hk1 : (k : Int) < (n : Int) := by omega
      clear hf hok hq c0 c1 c2 c3 c4
      go_wp2_with fail
      refine wp_region_held_drew (S := Only r wr) (by kernel_rfl) (Only.drew (Only.refl _ _)) (fun hS => ?_)
      refine take_step (i := 0) (by simp only [List.getElem?_toArray, List.getElem?_cons_zero]; rfl) (by kernel_rfl) (by kernel_rfl) (by kernel_rfl) (by intro _ _ _ h; exact h) (by rfl) (fun W hW => by go_simp; first | done | with_reducible rfl) hS ?_
      try simp only [Act.put, List.setIfInBounds_toArray, List.set_cons_zero, List.set_cons_succ]
      refine take_step (i := 1) (by simp only [List.getElem?_toArray, List.getElem?_cons_succ, List.getElem?_cons_zero]; rfl) (by kernel_rfl) (by kernel_rfl) (by kernel_rfl) (by intro _ _ _ h; exact h) (by rfl) (fun W hW => by go_simp; first | done | with_reducible rfl) hS ?_
      try simp only [Act.put, List.setIfInBounds_toArray, List.set_cons_zero, List.set_cons_succ]
      refine take_step (i := 2) (by simp only [List.getElem?_toArray, List.getElem?_cons_succ, List.getElem?_cons_zero]; rfl) (by kernel_rfl) (by kernel_rfl) (by kernel_rfl) (by intro _ _ _ h; exact h) (by rfl) (fun W hW => by go_simp; first | done | with_reducible rfl) hS ?_
      try simp only [Act.put, List.setIfInBounds_toArray, List.set_cons_zero, List.set_cons_succ]
      refine take_step (i := 3) (by simp only [List.getElem?_toArray, List.getElem?_cons_succ, List.getElem?_cons_zero]; rfl) (by kernel_rfl) (by kernel_rfl) (by kernel_rfl) (by intro _ _ _ h; exact h) (by rfl) (fun W hW => by go_simp; first | done | with_reducible rfl) hS ?_
      try simp only [Act.put, List.setIfInBounds_toArray, List.set_cons_zero, List.set_cons_succ]
      refine take_step (i := 4) (by simp only [List.getElem?_toArray, List.getElem?_cons_succ, List.getElem?_cons_zero]; rfl) (by kernel_rfl) (by kernel_rfl) (by kernel_rfl) (by intro _ _ _ h; exact h) (by rfl) (fun W hW => by go_simp; first | done | with_reducible rfl) hS ?_
      try simp only [Act.put, List.setIfInBounds_toArray, List.set_cons_zero, List.set_cons_succ]
      refine take_step (i := 5) (by simp only [List.getElem?_toArray, List.getElem?_cons_succ, List.getElem?_cons_zero]; rfl) (by kernel_rfl) (by kernel_rfl) (by kernel_rfl) (by intro _ _ _ h; exact h) (by rfl) (fun W hW => by go_simp; first | done | with_reducible rfl) hS ?_
      try simp only [Act.put, List.setIfInBounds_toArray, List.set_cons_zero, List.set_cons_succ]
      refine take_step (i := 6) (by simp only [List.getElem?_toArray, List.getElem?_cons_succ, List.getElem?_cons_zero]; rfl) (by kernel_rfl) (by kernel_rfl) (by kernel_rfl) (by intro _ _ _ h; exact h) (by rfl) (fun W hW => by go_simp; first | done | with_reducible rfl) hS ?_
      try simp only [Act.put, List.setIfInBounds_toArray, List.set_cons_zero, List.set_cons_succ]
      refine take_step (i := 7) (by simp only [List.getElem?_toArray, List.getElem?_cons_succ, List.getElem?_cons_zero]; rfl) (by kernel_rfl) (by kernel_rfl) (by kernel_rfl) (by intro _ _ _ h; exact h) (by rfl) (fun W hW => by go_simp; first | done | with_reducible rfl) hS ?_
      try simp only [Act.put, List.setIfInBounds_toArray, List.set_cons_zero, List.set_cons_succ]
      refine take_step (i := 8) (by simp only [List.getElem?_toArray, List.getElem?_cons_succ, List.getElem?_cons_zero]; rfl) (by kernel_rfl) (by kernel_rfl) (by kernel_rfl) (by intro _ _ _ h; exact h) (by rfl) (fun W hW => by go_simp; first | done | with_reducible rfl) hS ?_
      try simp only [Act.put, List.setIfInBounds_toArray, List.set_cons_zero, List.set_cons_succ]
      refine take_step (i := 9) (by simp only [List.getElem?_toArray, List.getElem?_cons_succ, List.getElem?_cons_zero]; rfl) (by kernel_rfl) (by kernel_rfl) (by kernel_rfl) (by intro _ _ _ h; exact h) (by rfl) (fun W hW => by go_simp; first | done | with_reducible rfl) hS ?_
      try simp only [Act.put, List.setIfInBounds_toArray, List.set_cons_zero, List.set_cons_succ]
      refine take_step (i := 10) (by simp only [List.getElem?_toArray, List.getElem?_cons_succ, List.getElem?_cons_zero]; rfl) (by kernel_rfl) (by kernel_rfl) (by kernel_rfl) (by intro _ _ _ h; exact h) (by rfl) (fun W hW => by go_simp; first | done | with_reducible rfl) hS ?_
      try simp only [Act.put, List.setIfInBounds_toArray, List.set_cons_zero, List.set_cons_succ]
      refine take_step (i := 11) (by simp only [List.getElem?_toArray, List.getElem?_cons_succ, List.getElem?_cons_zero]; rfl) (by kernel_rfl) (by kernel_rfl) (by kernel_rfl) (by intro _ _ _ h; exact h) (by rfl) (fun W hW => by go_simp; first | done | with_reducible rfl) hS ?_
      try simp only [Act.put, List.setIfInBounds_toArray, List.set_cons_zero, List.set_cons_succ]
      refine wpAnyH_ready (rs := [12]) (by kernel_rfl) (by simp) ?_
      refine AllReadyH.cons (by simp only [List.getElem?_toArray, List.getElem?_cons_succ, List.getElem?_cons_zero]; rfl) (fun K hK => ?_) AllReadyH.nil
      go_simp
      go_fit (take_some HQ3.out HMO.out (HRR.out.step ((Below.refl _ _).drew)))
      rintro e w6 ⟨v6, l6, e6, rfl, hr6, ho6⟩
      have hS12 := Only.trans hS ho6
      refine hK.out _ _ (by assumption) (fun _ => ?_)
      clear hK K hS
      have hS := hS12
      try simp only [Act.put, List.setIfInBounds_toArray, List.set_cons_zero, List.set_cons_succ]
      refine wpAnyH_done (by kernel_rfl) ?_ _
      have HR6 := hid hr6
      have HB6 := hid (HBR.out.trans (hS.below HLR.out HBR.out.size))
      clear hr6 ho6 hS
      go_wp2_with fail
      go_roundw
      case rel => exact ⟨k + 1, l6, e6, by omega, by go_num, HR6.out, HB6.out⟩
      case measure => simp [intOf]; omega
    · obtain rfl : k = n := by omega
      obtain ⟨x, hx⟩ : ∃ x, endOf l e0 = x := ⟨_, rfl⟩
      have HX := hid hx
      have hways : (x = 0 ∨ x = 31) ∨ (e0 ≠ 0 ∧ e0 = x ∧ ((x : Int) == 0) = false ∧ ((x : Int) == 31) = false) := by
        by_cases h1 : x = 0 ∨ x = 31
        · exact .inl h1
        · right
          unfold endOf at hx
          split at hx
          · omega
          · refine ⟨by omega, by omega, by simp; omega, by simp; omega⟩
      clear hx hlt
      rcases hways with hx | ⟨he0, rfl, hx0, hx31⟩
      · rcases hx with rfl | rfl
        · go_wp2_with fail
          refine wp_region_held_drew (S := Beyond wr) (by kernel_rfl) (Beyond.drew _) (fun hS => ?_)
          refine take_step (i := 0) (by simp only [List.getElem?_toArray, List.getElem?_cons_zero]; rfl) (by kernel_rfl) (by kernel_rfl) (by kernel_rfl) (by intro _ _ _ h; exact h) (by rfl) (fun W hW => by go_simp; first | done | with_reducible rfl) hS ?_
          try simp only [Act.put, List.setIfInBounds_toArray, List.set_cons_zero, List.set_cons_succ]
          refine take_step (i := 2) (by simp only [List.getElem?_toArray, List.getElem?_cons_succ, List.getElem?_cons_zero]; rfl) (by kernel_rfl) (by kernel_rfl) (by kernel_rfl) (by intro _ _ _ h; exact h) (by rfl) (fun W hW => by go_simp; first | done | with_reducible rfl) hS ?_
          try simp only [Act.put, List.setIfInBounds_toArray, List.set_cons_zero, List.set_cons_succ]
          refine wpAnyH_ready (rs := [1]) (by kernel_rfl) (by simp) ?_
          refine AllReadyH.cons (by simp only [List.getElem?_toArray, List.getElem?_cons_succ, List.getElem?_cons_zero]; rfl) (fun K hK => ?_) AllReadyH.nil
          go_simp
          go_fit (end_to HX.out (HRR.out.step hS))
          rintro e w6 ⟨rfl, rfl⟩
          have hS1 := hS
          refine hK.out _ _ (by assumption) (fun _ => ?_)
          clear hK K hS
          have hS := hS1
          try simp only [Act.put, List.setIfInBounds_toArray, List.set_cons_zero, List.set_cons_succ]
          refine wpAnyH_ready (rs := [3]) (by kernel_rfl) (by simp) ?_
          refine AllReadyH.cons (by simp only [List.getElem?_toArray, List.getElem?_cons_succ, List.getElem?_cons_zero]; rfl) (fun K hK => ?_) AllReadyH.nil
          go_simp
          go_fit (rest_any r e0 l _ (HRR.out.step hS))
          rintro e w7 ⟨A7, m7, c7, rfl, hr7, hb7⟩
          have hS3 := Beyond.step hS hb7
          have HR7 := hid hr7
          have HB7 := hid hS3
          clear hr7
          have hcv : ∀ W, Beyond w7 W → (convert 30 9 (.slice A7 m7 c7)).run Try.prog W = .ok (.string (bst l)) W := fun W hW => str_of (HR7.out.at_.below hW) HR7.out.1
          refine hK.out _ _ (by assumption) (fun _ => ?_)
          clear hK K hS
          have hS := hS3
          try simp only [Act.put, List.setIfInBounds_toArray, List.set_cons_zero, List.set_cons_succ]
          refine wpAnyH_more (S' := Beyond w7) (fun W hW => Beyond.trans hS hW) ?_
          have hS := Beyond.refl w7
          refine take_step (i := 4) (by simp only [List.getElem?_toArray, List.getElem?_cons_succ, List.getElem?_cons_zero]; rfl) (by kernel_rfl) (by kernel_rfl) (by kernel_rfl) (by intro _ _ _ h; exact h) (by rfl) (fun W hW => by go_simp; first | done | with_reducible rfl) hS ?_
          try simp only [Act.put, List.setIfInBounds_toArray, List.set_cons_zero, List.set_cons_succ]
          refine take_step (i := 5) (by simp only [List.getElem?_toArray, List.getElem?_cons_succ, List.getElem?_cons_zero]; rfl) (by kernel_rfl) (by kernel_rfl) (by kernel_rfl) (by intro _ _ _ h; exact h) (by rfl) (fun W hW => by go_simp; first | done | with_reducible rfl) hS ?_
          try simp only [Act.put, List.setIfInBounds_toArray, List.set_cons_zero, List.set_cons_succ]
          refine take_step (i := 6) (by simp only [List.getElem?_toArray, List.getElem?_cons_succ, List.getElem?_cons_zero]; rfl) (by kernel_rfl) (by kernel_rfl) (by kernel_rfl) (by intro _ _ _ h; exact h) (by rfl) (fun W hW => by go_simp; first | done | with_reducible rfl) hS ?_
          try simp only [Act.put, List.setIfInBounds_toArray, List.set_cons_zero, List.set_cons_succ]
          refine wpAnyH_done (by kernel_rfl) ?_ _
          clear hcv
          go_wp2_with fail
          go_ret
          exact ⟨rfl, below_step HBR.out HB7.out⟩
        · go_wp2_with fail
          refine wp_region_held_drew (S := Beyond wr) (by kernel_rfl) (Beyond.drew _) (fun hS => ?_)
          refine take_step (i := 0) (by simp only [List.getElem?_toArray, List.getElem?_cons_zero]; rfl) (by kernel_rfl) (by kernel_rfl) (by kernel_rfl) (by intro _ _ _ h; exact h) (by rfl) (fun W hW => by go_simp; first | done | with_reducible rfl) hS ?_
          try simp only [Act.put, List.setIfInBounds_toArray, List.set_cons_zero, List.set_cons_succ]
          refine take_step (i := 2) (by simp only [List.getElem?_toArray, List.getElem?_cons_succ, List.getElem?_cons_zero]; rfl) (by kernel_rfl) (by kernel_rfl) (by kernel_rfl) (by intro _ _ _ h; exact h) (by rfl) (fun W hW => by go_simp; first | done | with_reducible rfl) hS ?_
          try simp only [Act.put, List.setIfInBounds_toArray, List.set_cons_zero, List.set_cons_succ]
          refine wpAnyH_ready (rs := [1]) (by kernel_rfl) (by simp) ?_
          refine AllReadyH.cons (by simp only [List.getElem?_toArray, List.getElem?_cons_succ, List.getElem?_cons_zero]; rfl) (fun K hK => ?_) AllReadyH.nil
          go_simp
          go_fit (end_to HX.out (HRR.out.step hS))
          rintro e w6 ⟨rfl, rfl⟩
          have hS1 := hS
          refine hK.out _ _ (by assumption) (fun _ => ?_)
          clear hK K hS
          have hS := hS1
          try simp only [Act.put, List.setIfInBounds_toArray, List.set_cons_zero, List.set_cons_succ]
          refine wpAnyH_ready (rs := [3]) (by kernel_rfl) (by simp) ?_
          refine AllReadyH.cons (by simp only [List.getElem?_toArray, List.getElem?_cons_succ, List.getElem?_cons_zero]; rfl) (fun K hK => ?_) AllReadyH.nil
          go_simp
          go_fit (rest_any r e0 l _ (HRR.out.step hS))
          rintro e w7 ⟨A7, m7, c7, rfl, hr7, hb7⟩
          have hS3 := Beyond.step hS hb7
          have HR7 := hid hr7
          have HB7 := hid hS3
          clear hr7
          have hcv : ∀ W, Beyond w7 W → (convert 30 9 (.slice A7 m7 c7)).run Try.prog W = .ok (.string (bst l)) W := fun W hW => str_of (HR7.out.at_.below hW) HR7.out.1
          refine hK.out _ _ (by assumption) (fun _ => ?_)
          clear hK K hS
          have hS := hS3
          try simp only [Act.put, List.setIfInBounds_toArray, List.set_cons_zero, List.set_cons_succ]
          refine wpAnyH_more (S' := Beyond w7) (fun W hW => Beyond.trans hS hW) ?_
          have hS := Beyond.refl w7
          refine take_step (i := 4) (by simp only [List.getElem?_toArray, List.getElem?_cons_succ, List.getElem?_cons_zero]; rfl) (by kernel_rfl) (by kernel_rfl) (by kernel_rfl) (by intro _ _ _ h; exact h) (by rfl) (fun W hW => by go_simp; first | done | with_reducible rfl) hS ?_
          try simp only [Act.put, List.setIfInBounds_toArray, List.set_cons_zero, List.set_cons_succ]
          refine take_step (i := 5) (by simp only [List.getElem?_toArray, List.getElem?_cons_succ, List.getElem?_cons_zero]; rfl) (by kernel_rfl) (by kernel_rfl) (by kernel_rfl) (by intro _ _ _ h; exact h) (by rfl) (fun W hW => by go_simp; first | done | with_reducible rfl) hS ?_
          try simp only [Act.put, List.setIfInBounds_toArray, List.set_cons_zero, List.set_cons_succ]
          refine take_step (i := 6) (by simp only [List.getElem?_toArray, List.getElem?_cons_succ, List.getElem?_cons_zero]; rfl) (by kernel_rfl) (by kernel_rfl) (by kernel_rfl) (by intro _ _ _ h; exact h) (by rfl) (fun W hW => by go_simp; first | done | with_reducible rfl) hS ?_
          try simp only [Act.put, List.setIfInBounds_toArray, List.set_cons_zero, List.set_cons_succ]
          refine wpAnyH_done (by kernel_rfl) ?_ _
          clear hcv
          go_wp2_with fail
          go_ret
          exact ⟨rfl, below_step HBR.out HB7.out⟩
      · have HE0 := hid he0
        clear he0
        go_wp2_with fail
        refine wp_region_held_drew (S := Beyond wr) (by kernel_rfl) (Beyond.drew _) (fun hS => ?_)
        refine take_step (i := 0) (by simp only [List.getElem?_toArray, List.getElem?_cons_zero]; rfl) (by kernel_rfl) (by kernel_rfl) (by kernel_rfl) (by intro _ _ _ h; exact h) (by rfl) (fun W hW => by go_simp; first | done | with_reducible rfl) hS ?_
        try simp only [Act.put, List.setIfInBounds_toArray, List.set_cons_zero, List.set_cons_succ]
        refine take_step (i := 2) (by simp only [List.getElem?_toArray, List.getElem?_cons_succ, List.getElem?_cons_zero]; rfl) (by kernel_rfl) (by kernel_rfl) (by kernel_rfl) (by intro _ _ _ h; exact h) (by rfl) (fun W hW => by go_simp; first | done | with_reducible rfl) hS ?_
        try simp only [Act.put, List.setIfInBounds_toArray, List.set_cons_zero, List.set_cons_succ]
        refine wpAnyH_ready (rs := [1]) (by kernel_rfl) (by simp) ?_
        refine AllReadyH.cons (by simp only [List.getElem?_toArray, List.getElem?_cons_succ, List.getElem?_cons_zero]; rfl) (fun K hK => ?_) AllReadyH.nil
        go_simp
        go_fit (end_to HX.out (HRR.out.step hS))
        rintro e w6 ⟨rfl, rfl⟩
        have hS1 := hS
        refine hK.out _ _ (by assumption) (fun _ => ?_)
        clear hK K hS
        have hS := hS1
        try simp only [Act.put, List.setIfInBounds_toArray, List.set_cons_zero, List.set_cons_succ]
        refine wpAnyH_ready (rs := [3]) (by kernel_rfl) (by simp) ?_
        refine AllReadyH.cons (by simp only [List.getElem?_toArray, List.getElem?_cons_succ, List.getElem?_cons_zero]; rfl) (fun K hK => ?_) AllReadyH.nil
        go_simp
        go_fit (rest_any r e0 l _ (HRR.out.step hS))
        rintro e w7 ⟨A7, m7, c7, rfl, hr7, hb7⟩
        have hS3 := Beyond.step hS hb7
        have HR7 := hid hr7
        have HB7 := hid hS3
        clear hr7
        have hcv : ∀ W, Beyond w7 W → (convert 30 9 (.slice A7 m7 c7)).run Try.prog W = .ok (.string (bst l)) W := fun W hW => str_of (HR7.out.at_.below hW) HR7.out.1
        refine hK.out _ _ (by assumption) (fun _ => ?_)
        clear hK K hS
        have hS := hS3
        try simp only [Act.put, List.setIfInBounds_toArray, List.set_cons_zero, List.set_cons_succ]
        refine wpAnyH_more (S' := Beyond w7) (fun W hW => Beyond.trans hS hW) ?_
        have hS := Beyond.refl w7
        refine take_step (i := 4) (by simp only [List.getElem?_toArray, List.getElem?_cons_succ, List.getElem?_cons_zero]; rfl) (by kernel_rfl) (by kernel_rfl) (by kernel_rfl) (by intro _ _ _ h; exact h) (by rfl) (fun W hW => by go_simp; first | done | with_reducible rfl) hS ?_
        try simp only [Act.put, List.setIfInBounds_toArray, List.set_cons_zero, List.set_cons_succ]
        refine take_step (i := 5) (by simp only [List.getElem?_toArray, List.getElem?_cons_succ, List.getElem?_cons_zero]; rfl) (by kernel_rfl) (by kernel_rfl) (by kernel_rfl) (by intro _ _ _ h; exact h) (by rfl) (fun W hW => by go_simp; first | done | with_reducible rfl) hS ?_
        try simp only [Act.put, List.setIfInBounds_toArray, List.set_cons_zero, List.set_cons_succ]
        refine take_step (i := 6) (by simp only [List.getElem?_toArray, List.getElem?_cons_succ, List.getElem?_cons_zero]; rfl) (by kernel_rfl) (by kernel_rfl) (by kernel_rfl) (by intro _ _ _ h; exact h) (by rfl) (fun W hW => by go_simp; first | done | with_reducible rfl) hS ?_
        try simp only [Act.put, List.setIfInBounds_toArray, List.set_cons_zero, List.set_cons_succ]
        refine wpAnyH_done (by kernel_rfl) ?_ _
        have HR7' := hid (HRR.out.step HB7.out)
        have HB7' := hid (below_step HBR.out HB7.out)
        clear hcv hS hS1 hS3
        go_wp2_with fail
        go_loopw [11] (fun i wr => ∃ k : Nat, k ≤ n' ∧ i = .int .i64 (k : Int) ∧ Rd wr r l e0 ∧ Below w.heap.size w wr) (fun i _ => n' - (intOf i).toNat)
        case atStart => exact ⟨0, by omega, rfl, HR7'.out, HB7'.out⟩
        case round =>
          obtain ⟨j, hj, rfl, hrs, hbs⟩ := hrel
          have HRS := hid hrs
          have HBS := hid hbs
          have HLTS := hid hrs.lt
          clear hrs hbs
          by_cases hlt : j < n'
          · obtain ⟨b, off, f, rfl, hb, hf, hok, hcells⟩ := (HA'.out.below HBS.out).get (k := j) (by rw [← HN'.out]; exact hlt)
            obtain ⟨c0, c1, c2, c3, c4⟩ := hcells
            obtain ⟨q, hq⟩ : ∃ q, q = k3 f.k := ⟨_, rfl⟩
            have HQ3 := hid (show q ≤ 3 by rw [hq]; exact (k3_spec f.k).2)
            have hk3 : bits BinOp.and IntKind.i64 f.k 3 = (q : Int) := by rw [hq]; exact (k3_spec f.k).1
            have hbr : b ≠ r := by have := HLR.out; omega
            have z0 := held_at c0 hbr
            have z4 := held_at c4 hbr
            have hk0 : (0 : Int) ≤ (j : Int) := by omega
            have hk1 : (j : Int) < (n' : Int) := by omega
            have hRA : Rd wr.drew r l e0 := HRS.out.step ((Below.refl _ _).drew)
            have hneq := neq_agg (q : Int) 0 0 ⟨#[]⟩ false
            clear hf hok hq c0 c1 c2 c3 c4
            go_wp2_with fail
            refine wp_region_held_drew (S := Only r wr) (by kernel_rfl) (Only.drew (Only.refl _ _)) (fun hS => ?_)
            refine take_step (i := 0) (by simp only [List.getElem?_toArray, List.getElem?_cons_zero]; rfl) (by kernel_rfl) (by kernel_rfl) (by kernel_rfl) (by intro _ _ _ h; exact h) (by rfl) (fun W hW => by go_simp; first | done | with_reducible rfl) hS ?_
            try simp only [Act.put, List.setIfInBounds_toArray, List.set_cons_zero, List.set_cons_succ]
            refine take_step (i := 1) (by simp only [List.getElem?_toArray, List.getElem?_cons_succ, List.getElem?_cons_zero]; rfl) (by kernel_rfl) (by kernel_rfl) (by kernel_rfl) (by intro _ _ _ h; exact h) (by rfl) (fun W hW => by go_simp; first | done | with_reducible rfl) hS ?_
            try simp only [Act.put, List.setIfInBounds_toArray, List.set_cons_zero, List.set_cons_succ]
            refine take_step (i := 2) (by simp only [List.getElem?_toArray, List.getElem?_cons_succ, List.getElem?_cons_zero]; rfl) (by kernel_rfl) (by kernel_rfl) (by kernel_rfl) (by intro _ _ _ h; exact h) (by rfl) (fun W hW => by go_simp; first | done | with_reducible rfl) hS ?_
            try simp only [Act.put, List.setIfInBounds_toArray, List.set_cons_zero, List.set_cons_succ]
            refine take_step (i := 3) (by simp only [List.getElem?_toArray, List.getElem?_cons_succ, List.getElem?_cons_zero]; rfl) (by kernel_rfl) (by kernel_rfl) (by kernel_rfl) (by intro _ _ _ h; exact h) (by rfl) (fun W hW => by go_simp; first | done | with_reducible rfl) hS ?_
            try simp only [Act.put, List.setIfInBounds_toArray, List.set_cons_zero, List.set_cons_succ]
            refine take_step (i := 4) (by simp only [List.getElem?_toArray, List.getElem?_cons_succ, List.getElem?_cons_zero]; rfl) (by kernel_rfl) (by kernel_rfl) (by kernel_rfl) (by intro _ _ _ h; exact h) (by rfl) (fun W hW => by go_simp; first | done | with_reducible rfl) hS ?_
            try simp only [Act.put, List.setIfInBounds_toArray, List.set_cons_zero, List.set_cons_succ]
            refine take_step (i := 5) (by simp only [List.getElem?_toArray, List.getElem?_cons_succ, List.getElem?_cons_zero]; rfl) (by kernel_rfl) (by kernel_rfl) (by kernel_rfl) (by intro _ _ _ h; exact h) (by rfl) (fun W hW => by go_simp; first | done | with_reducible rfl) hS ?_
            try simp only [Act.put, List.setIfInBounds_toArray, List.set_cons_zero, List.set_cons_succ]
            refine take_step (i := 6) (by simp only [List.getElem?_toArray, List.getElem?_cons_succ, List.getElem?_cons_zero]; rfl) (by kernel_rfl) (by kernel_rfl) (by kernel_rfl) (by intro _ _ _ h; exact h) (by rfl) (fun W hW => by go_simp; first | done | with_reducible rfl) hS ?_
            try simp only [Act.put, List.setIfInBounds_toArray, List.set_cons_zero, List.set_cons_succ]
            refine take_step (i := 7) (by simp only [List.getElem?_toArray, List.getElem?_cons_succ, List.getElem?_cons_zero]; rfl) (by kernel_rfl) (by kernel_rfl) (by kernel_rfl) (by intro _ _ _ h; exact h) (by rfl) (fun W hW => by go_simp; first | done | with_reducible rfl) hS ?_
            try simp only [Act.put, List.setIfInBounds_toArray, List.set_cons_zero, List.set_cons_succ]
            refine take_step (i := 8) (by simp only [List.getElem?_toArray, List.getElem?_cons_succ, List.getElem?_cons_zero]; rfl) (by kernel_rfl) (by kernel_rfl) (by kernel_rfl) (by intro _ _ _ h; exact h) (by rfl) (fun W hW => by go_simp; first | done | with_reducible rfl) hS ?_
            try simp only [Act.put, List.setIfInBounds_toArray, List.set_cons_zero, List.set_cons_succ]
            refine take_step (i := 9) (by simp only [List.getElem?_toArray, List.getElem?_cons_succ, List.getElem?_cons_zero]; rfl) (by kernel_rfl) (by kernel_rfl) (by kernel_rfl) (by intro _ _ _ h; exact h) (by rfl) (fun W hW => by go_simp; first | done | with_reducible rfl) hS ?_
            try simp only [Act.put, List.setIfInBounds_toArray, List.set_cons_zero, List.set_cons_succ]
            refine take_step (i := 10) (by simp only [List.getElem?_toArray, List.getElem?_cons_succ, List.getElem?_cons_zero]; rfl) (by kernel_rfl) (by kernel_rfl) (by kernel_rfl) (by intro _ _ _ h; exact h) (by rfl) (fun W hW => by go_simp; first | done | with_reducible rfl) hS ?_
            try simp only [Act.put, List.setIfInBounds_toArray, List.set_cons_zero, List.set_cons_succ]
            refine take_step (i := 11) (by simp only [List.getElem?_toArray, List.getElem?_cons_succ, List.getElem?_cons_zero]; rfl) (by kernel_rfl) (by kernel_rfl) (by kernel_rfl) (by intro _ _ _ h; exact h) (by rfl) (fun W hW => by go_simp; first | done | with_reducible rfl) hS ?_
            try simp only [Act.put, List.setIfInBounds_toArray, List.set_cons_zero, List.set_cons_succ]
            refine wpAnyH_ready (rs := [12, 13]) (by kernel_rfl) (by simp) ?_
            refine AllReadyH.cons (by simp only [List.getElem?_toArray, List.getElem?_cons_succ, List.getElem?_cons_zero]; rfl) (fun K hK => ?_) ?_
            · skip
              go_simp
              go_fit (take_none HQ3.out HE0.out (show Rd _ r l e0 by assumption))
              rintro e w6 ⟨rfl, hr6, ho6⟩
              have hS12 := Only.trans hS ho6
              try (have b12 : Blk w6 wr.heap.size 28 #[.int .i64 0, .int .u64 0, .string ⟨#[]⟩, .bool false, .int .i64 0] := one_blk (w := wr.drew) HLTS.out ho6; obtain ⟨x0, x1, x2, x3, x4, g0, g1, g2, g3, g4⟩ := five b12)
              refine hK.out _ _ (by assumption) (fun _ => ?_)
              clear hK K hS
              have hS := hS12
              try simp only [Act.put, List.setIfInBounds_toArray, List.set_cons_zero, List.set_cons_succ]
              refine wpAnyH_ready (rs := [13]) (by kernel_rfl) (by simp) ?_
              refine AllReadyH.cons (by simp only [List.getElem?_toArray, List.getElem?_cons_succ, List.getElem?_cons_zero]; rfl) (fun K hK => ?_) AllReadyH.nil
              go_simp
              refine hK.out _ _ (Only.alloc hS _) (fun hS13 => ?_)
              have hRB := Rd.step (show Rd _ r l e0 by assumption) ((Below.refl _ _).alloc (Nat.le_refl _) (.cells #[.int .i64 0, .int .u64 0, .string ⟨#[]⟩, .bool false, .int .i64 0] 28))
              clear hK K hS
              have hS := hS13
              try simp only [Act.put, List.setIfInBounds_toArray, List.set_cons_zero, List.set_cons_succ]
              refine wpAnyH_ready (rs := [14]) (by kernel_rfl) (by simp) ?_
              refine AllReadyH.cons (by simp only [List.getElem?_toArray, List.getElem?_cons_succ, List.getElem?_cons_zero]; rfl) (fun K hK => ?_) AllReadyH.nil
              go_simp
              refine hK.out _ _ (by first | exact Only.alloc hS12 _ | exact ((((hS12.new (by simp) _).new (by simp) _).new (by simp) _).new (by simp) _).new (by simp) _) (fun hS14 => ?_)
              first
                | skip
                  with_reducible refine at_world (w6.alloc (.cells #[.int .i64 (q : Int), .int .u64 0, .string ⟨#[]⟩, .bool false, .int .i64 0] 28)) ?_
                  have hX : Blk (w6.alloc (.cells #[.int .i64 (q : Int), .int .u64 0, .string ⟨#[]⟩, .bool false, .int .i64 0] 28)) w6.heap.size 28 #[.int .i64 (q : Int), .int .u64 0, .string ⟨#[]⟩, .bool false, .int .i64 0] := Blk.new _ _ _
                  have hO : Only r wr (w6.alloc (.cells #[.int .i64 (q : Int), .int .u64 0, .string ⟨#[]⟩, .bool false, .int .i64 0] 28)) := hS14
                  have hRW : Rd (w6.alloc (.cells #[.int .i64 (q : Int), .int .u64 0, .string ⟨#[]⟩, .bool false, .int .i64 0] 28)) r l e0 := hr6.step ((Below.refl _ _).alloc (Nat.le_refl _) _)
                  generalize w6.alloc (.cells #[.int .i64 (q : Int), .int .u64 0, .string ⟨#[]⟩, .bool false, .int .i64 0] 28) = We at hX hO hRW ⊢
                  obtain ⟨X, hXe⟩ : ∃ X, X = w6.heap.size := ⟨_, rfl⟩
                  rw [← hXe] at hX ⊢
                  have hXr : X ≠ r := by rw [hXe]; have := HLTS.out; have := ho6.size; simp at this; omega
                  clear hXe
                | skip
                  with_reducible refine at_world (((((w6.setCell ⟨wr.heap.size, 0, none⟩ (.int .i64 (q : Int))).setCell ⟨wr.heap.size, 1, none⟩ (.int .u64 0)).setCell ⟨wr.heap.size, 2, none⟩ (.string ⟨#[]⟩)).setCell ⟨wr.heap.size, 3, none⟩ (.bool false)).setCell ⟨wr.heap.size, 4, none⟩ (.int .i64 0)) ?_
                  have hX : Blk (((((w6.setCell ⟨wr.heap.size, 0, none⟩ (.int .i64 (q : Int))).setCell ⟨wr.heap.size, 1, none⟩ (.int .u64 0)).setCell ⟨wr.heap.size, 2, none⟩ (.string ⟨#[]⟩)).setCell ⟨wr.heap.size, 3, none⟩ (.bool false)).setCell ⟨wr.heap.size, 4, none⟩ (.int .i64 0)) wr.heap.size 28 #[.int .i64 (q : Int), .int .u64 0, .string ⟨#[]⟩, .bool false, .int .i64 0] := ((((b12.set 0 _).set 1 _).set 2 _).set 3 _).set 4 _
                  have hO : Only r wr (((((w6.setCell ⟨wr.heap.size, 0, none⟩ (.int .i64 (q : Int))).setCell ⟨wr.heap.size, 1, none⟩ (.int .u64 0)).setCell ⟨wr.heap.size, 2, none⟩ (.string ⟨#[]⟩)).setCell ⟨wr.heap.size, 3, none⟩ (.bool false)).setCell ⟨wr.heap.size, 4, none⟩ (.int .i64 0)) := hS14
                  have hRW : Rd (((((w6.setCell ⟨wr.heap.size, 0, none⟩ (.int .i64 (q : Int))).setCell ⟨wr.heap.size, 1, none⟩ (.int .u64 0)).setCell ⟨wr.heap.size, 2, none⟩ (.string ⟨#[]⟩)).setCell ⟨wr.heap.size, 3, none⟩ (.bool false)).setCell ⟨wr.heap.size, 4, none⟩ (.int .i64 0)) r l e0 := ((((hr6.far (by simpa using HLTS.out) _).far (by simpa using HLTS.out) _).far (by simpa using HLTS.out) _).far (by simpa using HLTS.out) _).far (by simpa using HLTS.out) _
                  generalize ((((w6.setCell ⟨wr.heap.size, 0, none⟩ (.int .i64 (q : Int))).setCell ⟨wr.heap.size, 1, none⟩ (.int .u64 0)).setCell ⟨wr.heap.size, 2, none⟩ (.string ⟨#[]⟩)).setCell ⟨wr.heap.size, 3, none⟩ (.bool false)).setCell ⟨wr.heap.size, 4, none⟩ (.int .i64 0) = We at hX hO hRW ⊢
                  obtain ⟨X, hXe⟩ : ∃ X, X = wr.heap.size := ⟨_, rfl⟩
                  rw [← hXe] at hX ⊢
                  have hXr : X ≠ r := by rw [hXe]; have := HLTS.out; have := ho6.size; simp at this; omega
                  clear hXe
              have hS14 := hO
              clear hK K hS
              have hS := hS14
              try simp only [Act.put, List.setIfInBounds_toArray, List.set_cons_zero, List.set_cons_succ]
              refine wpAnyH_done (by kernel_rfl) ?_ _
              have HRWH := hid hRW
              have HBWH := hid (HBS.out.trans (hO.below HLR.out HBS.out.size))
              have e0' := z0 _ hO
              have u0 := held_beyond e0'
              have v0 : ∀ W, Beyond We W → W.cell? ⟨X, 0, none⟩ = some (.int .i64 (q : Int)) := held_blk hX
              have v1 : ∀ W, Beyond We W → W.cell? ⟨X, 1, none⟩ = some (.int .u64 0) := held_blk hX
              have v2 : ∀ W, Beyond We W → W.cell? ⟨X, 2, none⟩ = some (.string ⟨#[]⟩) := held_blk hX
              have v3 : ∀ W, Beyond We W → W.cell? ⟨X, 3, none⟩ = some (.bool false) := held_blk hX
              have v4 : ∀ W, Beyond We W → W.cell? ⟨X, 4, none⟩ = some (.int .i64 0) := held_blk hX
              clear hRW hO hX z0 z4 e0' hS hS14 hS12 hS13 hr6 ho6
              go_wp2_with fail
              refine wp_region_held_drew (S := Beyond We) (by kernel_rfl) (Beyond.drew _) (fun hS => ?_)
              refine take_step (i := 0) (by simp only [List.getElem?_toArray, List.getElem?_cons_zero]; rfl) (by kernel_rfl) (by kernel_rfl) (by kernel_rfl) (by intro _ _ _ h; exact h) (by rfl) (fun W hW => by go_simp; first | done | with_reducible rfl) hS ?_
              try simp only [Act.put, List.setIfInBounds_toArray, List.set_cons_zero, List.set_cons_succ]
              refine take_step (i := 1) (by simp only [List.getElem?_toArray, List.getElem?_cons_succ, List.getElem?_cons_zero]; rfl) (by kernel_rfl) (by kernel_rfl) (by kernel_rfl) (by intro _ _ _ h; exact h) (by rfl) (fun W hW => by go_simp; first | done | with_reducible rfl) hS ?_
              try simp only [Act.put, List.setIfInBounds_toArray, List.set_cons_zero, List.set_cons_succ]
              refine take_step (i := 2) (by simp only [List.getElem?_toArray, List.getElem?_cons_succ, List.getElem?_cons_zero]; rfl) (by kernel_rfl) (by kernel_rfl) (by kernel_rfl) (by intro _ _ _ h; exact h) (by rfl) (fun W hW => by go_simp; first | done | with_reducible rfl) hS ?_
              try simp only [Act.put, List.setIfInBounds_toArray, List.set_cons_zero, List.set_cons_succ]
              refine take_step (i := 3) (by simp only [List.getElem?_toArray, List.getElem?_cons_succ, List.getElem?_cons_zero]; rfl) (by kernel_rfl) (by kernel_rfl) (by kernel_rfl) (by intro _ _ _ h; exact h) (by rfl) (fun W hW => by go_simp; first | done | with_reducible rfl) hS ?_
              try simp only [Act.put, List.setIfInBounds_toArray, List.set_cons_zero, List.set_cons_succ]
              refine take_step (i := 4) (by simp only [List.getElem?_toArray, List.getElem?_cons_succ, List.getElem?_cons_zero]; rfl) (by kernel_rfl) (by kernel_rfl) (by kernel_rfl) (by intro _ _ _ h; exact h) (by rfl) (fun W hW => by go_simp; first | done | with_reducible rfl) hS ?_
              try simp only [Act.put, List.setIfInBounds_toArray, List.set_cons_zero, List.set_cons_succ]
              refine take_step (i := 5) (by simp only [List.getElem?_toArray, List.getElem?_cons_succ, List.getElem?_cons_zero]; rfl) (by kernel_rfl) (by kernel_rfl) (by kernel_rfl) (by intro _ _ _ h; exact h) (by rfl) (fun W hW => by go_simp; first | done | with_reducible rfl) hS ?_
              try simp only [Act.put, List.setIfInBounds_toArray, List.set_cons_zero, List.set_cons_succ]
              refine take_step (i := 6) (by simp only [List.getElem?_toArray, List.getElem?_cons_succ, List.getElem?_cons_zero]; rfl) (by kernel_rfl) (by kernel_rfl) (by kernel_rfl) (by intro _ _ _ h; exact h) (by rfl) (fun W hW => by go_simp; first | done | with_reducible rfl) hS ?_
              try simp only [Act.put, List.setIfInBounds_toArray, List.set_cons_zero, List.set_cons_succ]
              refine take_step (i := 7) (by simp only [List.getElem?_toArray, List.getElem?_cons_succ, List.getElem?_cons_zero]; rfl) (by kernel_rfl) (by kernel_rfl) (by kernel_rfl) (by intro _ _ _ h; exact h) (by rfl) (fun W hW => by go_simp; first | done | with_reducible rfl) hS ?_
              try simp only [Act.put, List.setIfInBounds_toArray, List.set_cons_zero, List.set_cons_succ]
              refine take_step (i := 8) (by simp only [List.getElem?_toArray, List.getElem?_cons_succ, List.getElem?_cons_zero]; rfl) (by kernel_rfl) (by kernel_rfl) (by kernel_rfl) (by intro _ _ _ h; exact h) (by rfl) (fun W hW => by go_simp; first | done | with_reducible rfl) hS ?_
              try simp only [Act.put, List.setIfInBounds_toArray, List.set_cons_zero, List.set_cons_succ]
              refine take_step (i := 9) (by simp only [List.getElem?_toArray, List.getElem?_cons_succ, List.getElem?_cons_zero]; rfl) (by kernel_rfl) (by kernel_rfl) (by kernel_rfl) (by intro _ _ _ h; exact h) (by rfl) (fun W hW => by go_simp; first | done | with_reducible rfl) hS ?_
              try simp only [Act.put, List.setIfInBounds_toArray, List.set_cons_zero, List.set_cons_succ]
              first | (refine take_step (i := 10) (by simp only [List.getElem?_toArray, List.getElem?_cons_succ, List.getElem?_cons_zero]; rfl) (by kernel_rfl) (by kernel_rfl) (by kernel_rfl) (by intro _ _ _ h; exact h) (by rfl) (fun W hW => by go_simp; first | done | with_reducible rfl) hS ?_) | (refine skip_step (i := 10) (by simp only [List.getElem?_toArray, List.getElem?_cons_succ, List.getElem?_cons_zero]; rfl) (by kernel_rfl) (by kernel_rfl) (by kernel_rfl) (by intro _ _ _ h; exact h) (by rfl) hS ?_)
              try simp only [Act.put, List.setIfInBounds_toArray, List.set_cons_zero, List.set_cons_succ]
              first | (refine take_step (i := 12) (by simp only [List.getElem?_toArray, List.getElem?_cons_succ, List.getElem?_cons_zero]; rfl) (by kernel_rfl) (by kernel_rfl) (by kernel_rfl) (by intro _ _ _ h; exact h) (by rfl) (fun W hW => by go_simp; first | done | with_reducible rfl) hS ?_) | (refine skip_step (i := 12) (by simp only [List.getElem?_toArray, List.getElem?_cons_succ, List.getElem?_cons_zero]; rfl) (by kernel_rfl) (by kernel_rfl) (by kernel_rfl) (by intro _ _ _ h; exact h) (by rfl) hS ?_)
              try simp only [Act.put, List.setIfInBounds_toArray, List.set_cons_zero, List.set_cons_succ]
              refine wpAnyH_ready (rs := [11]) (by kernel_rfl) (by simp) ?_
              refine AllReadyH.cons (by simp only [List.getElem?_toArray, List.getElem?_cons_succ, List.getElem?_cons_zero]; rfl) (fun K hK => ?_) AllReadyH.nil
              go_simp
              go_fit (end_to HX.out (HRWH.out.step hS))
              rintro e w7b ⟨rfl, rfl⟩
              have hS11 := hS
              refine hK.out _ _ (by assumption) (fun _ => ?_)
              clear hK K hS
              have hS := hS11
              try simp only [Act.put, List.setIfInBounds_toArray, List.set_cons_zero, List.set_cons_succ]
              first | (refine take_step (i := 13) (by simp only [List.getElem?_toArray, List.getElem?_cons_succ, List.getElem?_cons_zero]; rfl) (by kernel_rfl) (by kernel_rfl) (by kernel_rfl) (by intro _ _ _ h; exact h) (by rfl) (fun W hW => by go_simp; first | done | with_reducible rfl) hS ?_) | (refine skip_step (i := 13) (by simp only [List.getElem?_toArray, List.getElem?_cons_succ, List.getElem?_cons_zero]; rfl) (by kernel_rfl) (by kernel_rfl) (by kernel_rfl) (by intro _ _ _ h; exact h) (by rfl) hS ?_)
              try simp only [Act.put, List.setIfInBounds_toArray, List.set_cons_zero, List.set_cons_succ]
              refine take_step (i := 14) (by simp only [List.getElem?_toArray, List.getElem?_cons_succ, List.getElem?_cons_zero]; rfl) (by kernel_rfl) (by kernel_rfl) (by kernel_rfl) (by intro _ _ _ h; exact h) (by rfl) (fun W hW => by go_simp; first | done | with_reducible rfl) hS ?_
              try simp only [Act.put, List.setIfInBounds_toArray, List.set_cons_zero, List.set_cons_succ]
              refine take_step (i := 15) (by simp only [List.getElem?_toArray, List.getElem?_cons_succ, List.getElem?_cons_zero]; rfl) (by kernel_rfl) (by kernel_rfl) (by kernel_rfl) (by intro _ _ _ h; exact h) (by rfl) (fun W hW => by go_simp; first | done | with_reducible rfl) hS ?_
              try simp only [Act.put, List.setIfInBounds_toArray, List.set_cons_zero, List.set_cons_succ]
              first | (refine take_step (i := 16) (by simp only [List.getElem?_toArray, List.getElem?_cons_succ, List.getElem?_cons_zero]; rfl) (by kernel_rfl) (by kernel_rfl) (by kernel_rfl) (by intro _ _ _ h; exact h) (by rfl) (fun W hW => by go_simp; first | done | with_reducible rfl) hS ?_) | (refine skip_step (i := 16) (by simp only [List.getElem?_toArray, List.getElem?_cons_succ, List.getElem?_cons_zero]; rfl) (by kernel_rfl) (by kernel_rfl) (by kernel_rfl) (by intro _ _ _ h; exact h) (by rfl) hS ?_)
              try simp only [Act.put, List.setIfInBounds_toArray, List.set_cons_zero, List.set_cons_succ]
              first | (refine take_step (i := 19) (by simp only [List.getElem?_toArray, List.getElem?_cons_succ, List.getElem?_cons_zero]; rfl) (by kernel_rfl) (by kernel_rfl) (by kernel_rfl) (by intro _ _ _ h; exact h) (by rfl) (fun W hW => by go_simp; first | done | with_reducible rfl) hS ?_) | (refine skip_step (i := 19) (by simp only [List.getElem?_toArray, List.getElem?_cons_succ, List.getElem?_cons_zero]; rfl) (by kernel_rfl) (by kernel_rfl) (by kernel_rfl) (by intro _ _ _ h; exact h) (by rfl) hS ?_)
              try simp only [Act.put, List.setIfInBounds_toArray, List.set_cons_zero, List.set_cons_succ]
              refine wpAnyH_ready (rs := [17]) (by kernel_rfl) (by simp) ?_
              refine AllReadyH.cons (by simp only [List.getElem?_toArray, List.getElem?_cons_succ, List.getElem?_cons_zero]; rfl) (fun K hK => ?_) AllReadyH.nil
              go_simp
              go_fit (rest_any r e0 l _ (HRWH.out.step hS))
              rintro e w8 ⟨A8, m8, c8, rfl, hr8, hb8⟩
              have hS17 := Beyond.step hS hb8
              have HR8 := hid hr8
              have HB8 := hid hS17
              clear hr8
              have hcv8 : ∀ W, Beyond w8 W → (convert 30 9 (.slice A8 m8 c8)).run Try.prog W = .ok (.string (bst l)) W := fun W hW => str_of (HR8.out.at_.below hW) HR8.out.1
              refine hK.out _ _ (by assumption) (fun _ => ?_)
              clear hK K hS
              have hS := hS17
              try simp only [Act.put, List.setIfInBounds_toArray, List.set_cons_zero, List.set_cons_succ]
              refine wpAnyH_more (S' := Beyond w8) (fun W hW => Beyond.trans hS hW) ?_
              have hS := Beyond.refl w8
              first | (refine take_step (i := 18) (by simp only [List.getElem?_toArray, List.getElem?_cons_succ, List.getElem?_cons_zero]; rfl) (by kernel_rfl) (by kernel_rfl) (by kernel_rfl) (by intro _ _ _ h; exact h) (by rfl) (fun W hW => by go_simp; first | done | with_reducible rfl) hS ?_) | (refine skip_step (i := 18) (by simp only [List.getElem?_toArray, List.getElem?_cons_succ, List.getElem?_cons_zero]; rfl) (by kernel_rfl) (by kernel_rfl) (by kernel_rfl) (by intro _ _ _ h; exact h) (by rfl) hS ?_)
              try simp only [Act.put, List.setIfInBounds_toArray, List.set_cons_zero, List.set_cons_succ]
              first | (refine take_step (i := 20) (by simp only [List.getElem?_toArray, List.getElem?_cons_succ, List.getElem?_cons_zero]; rfl) (by kernel_rfl) (by kernel_rfl) (by kernel_rfl) (by intro _ _ _ h; exact h) (by rfl) (fun W hW => by go_simp; first | done | with_reducible rfl) hS ?_) | (refine skip_step (i := 20) (by simp only [List.getElem?_toArray, List.getElem?_cons_succ, List.getElem?_cons_zero]; rfl) (by kernel_rfl) (by kernel_rfl) (by kernel_rfl) (by intro _ _ _ h; exact h) (by rfl) hS ?_)
              try simp only [Act.put, List.setIfInBounds_toArray, List.set_cons_zero, List.set_cons_succ]
              refine take_step (i := 21) (by simp only [List.getElem?_toArray, List.getElem?_cons_succ, List.getElem?_cons_zero]; rfl) (by kernel_rfl) (by kernel_rfl) (by kernel_rfl) (by intro _ _ _ h; exact h) (by rfl) (fun W hW => by go_simp; first | done | with_reducible rfl) hS ?_
              try simp only [Act.put, List.setIfInBounds_toArray, List.set_cons_zero, List.set_cons_succ]
              refine wpAnyH_done (by kernel_rfl) ?_ _
              go_wp2_with fail
              go_roundw
              case rel => exact ⟨j + 1, by omega, by go_num, HRWH.out.step HB8.out, below_step HBWH.out HB8.out⟩
              case measure => simp [intOf]; omega
            refine AllReadyH.cons (by simp only [List.getElem?_toArray, List.getElem?_cons_succ, List.getElem?_cons_zero]; rfl) (fun K hK => ?_) AllReadyH.nil
            · skip
              go_simp
              refine hK.out _ _ (Only.alloc hS _) (fun hS13 => ?_)
              have hRB := Rd.step (show Rd _ r l e0 by assumption) ((Below.refl _ _).alloc (Nat.le_refl _) (.cells #[.int .i64 0, .int .u64 0, .string ⟨#[]⟩, .bool false, .int .i64 0] 28))
              clear hK K hS
              have hS := hS13
              try simp only [Act.put, List.setIfInBounds_toArray, List.set_cons_zero, List.set_cons_succ]
              refine wpAnyH_ready (rs := [12]) (by kernel_rfl) (by simp) ?_
              refine AllReadyH.cons (by simp only [List.getElem?_toArray, List.getElem?_cons_succ, List.getElem?_cons_zero]; rfl) (fun K hK => ?_) AllReadyH.nil
              go_simp
              go_fit (take_none HQ3.out HE0.out (show Rd _ r l e0 by assumption))
              rintro e w6 ⟨rfl, hr6, ho6⟩
              have hS12 := Only.trans hS ho6
              try (have b12 : Blk w6 wr.heap.size 28 #[.int .i64 0, .int .u64 0, .string ⟨#[]⟩, .bool false, .int .i64 0] := one_blk (w := wr.drew) HLTS.out ho6; obtain ⟨x0, x1, x2, x3, x4, g0, g1, g2, g3, g4⟩ := five b12)
              refine hK.out _ _ (by assumption) (fun _ => ?_)
              clear hK K hS
              have hS := hS12
              try simp only [Act.put, List.setIfInBounds_toArray, List.set_cons_zero, List.set_cons_succ]
              refine wpAnyH_ready (rs := [14]) (by kernel_rfl) (by simp) ?_
              refine AllReadyH.cons (by simp only [List.getElem?_toArray, List.getElem?_cons_succ, List.getElem?_cons_zero]; rfl) (fun K hK => ?_) AllReadyH.nil
              go_simp
              refine hK.out _ _ (by first | exact Only.alloc hS12 _ | exact ((((hS12.new (by simp) _).new (by simp) _).new (by simp) _).new (by simp) _).new (by simp) _) (fun hS14 => ?_)
              first
                | skip
                  with_reducible refine at_world (w6.alloc (.cells #[.int .i64 (q : Int), .int .u64 0, .string ⟨#[]⟩, .bool false, .int .i64 0] 28)) ?_
                  have hX : Blk (w6.alloc (.cells #[.int .i64 (q : Int), .int .u64 0, .string ⟨#[]⟩, .bool false, .int .i64 0] 28)) w6.heap.size 28 #[.int .i64 (q : Int), .int .u64 0, .string ⟨#[]⟩, .bool false, .int .i64 0] := Blk.new _ _ _
                  have hO : Only r wr (w6.alloc (.cells #[.int .i64 (q : Int), .int .u64 0, .string ⟨#[]⟩, .bool false, .int .i64 0] 28)) := hS14
                  have hRW : Rd (w6.alloc (.cells #[.int .i64 (q : Int), .int .u64 0, .string ⟨#[]⟩, .bool false, .int .i64 0] 28)) r l e0 := hr6.step ((Below.refl _ _).alloc (Nat.le_refl _) _)
                  generalize w6.alloc (.cells #[.int .i64 (q : Int), .int .u64 0, .string ⟨#[]⟩, .bool false, .int .i64 0] 28) = We at hX hO hRW ⊢
                  obtain ⟨X, hXe⟩ : ∃ X, X = w6.heap.size := ⟨_, rfl⟩
                  rw [← hXe] at hX ⊢
                  have hXr : X ≠ r := by rw [hXe]; have := HLTS.out; have := ho6.size; simp at this; omega
                  clear hXe
                | skip
                  with_reducible refine at_world (((((w6.setCell ⟨wr.heap.size, 0, none⟩ (.int .i64 (q : Int))).setCell ⟨wr.heap.size, 1, none⟩ (.int .u64 0)).setCell ⟨wr.heap.size, 2, none⟩ (.string ⟨#[]⟩)).setCell ⟨wr.heap.size, 3, none⟩ (.bool false)).setCell ⟨wr.heap.size, 4, none⟩ (.int .i64 0)) ?_
                  have hX : Blk (((((w6.setCell ⟨wr.heap.size, 0, none⟩ (.int .i64 (q : Int))).setCell ⟨wr.heap.size, 1, none⟩ (.int .u64 0)).setCell ⟨wr.heap.size, 2, none⟩ (.string ⟨#[]⟩)).setCell ⟨wr.heap.size, 3, none⟩ (.bool false)).setCell ⟨wr.heap.size, 4, none⟩ (.int .i64 0)) wr.heap.size 28 #[.int .i64 (q : Int), .int .u64 0, .string ⟨#[]⟩, .bool false, .int .i64 0] := ((((b12.set 0 _).set 1 _).set 2 _).set 3 _).set 4 _
                  have hO : Only r wr (((((w6.setCell ⟨wr.heap.size, 0, none⟩ (.int .i64 (q : Int))).setCell ⟨wr.heap.size, 1, none⟩ (.int .u64 0)).setCell ⟨wr.heap.size, 2, none⟩ (.string ⟨#[]⟩)).setCell ⟨wr.heap.size, 3, none⟩ (.bool false)).setCell ⟨wr.heap.size, 4, none⟩ (.int .i64 0)) := hS14
                  have hRW : Rd (((((w6.setCell ⟨wr.heap.size, 0, none⟩ (.int .i64 (q : Int))).setCell ⟨wr.heap.size, 1, none⟩ (.int .u64 0)).setCell ⟨wr.heap.size, 2, none⟩ (.string ⟨#[]⟩)).setCell ⟨wr.heap.size, 3, none⟩ (.bool false)).setCell ⟨wr.heap.size, 4, none⟩ (.int .i64 0)) r l e0 := ((((hr6.far (by simpa using HLTS.out) _).far (by simpa using HLTS.out) _).far (by simpa using HLTS.out) _).far (by simpa using HLTS.out) _).far (by simpa using HLTS.out) _
                  generalize ((((w6.setCell ⟨wr.heap.size, 0, none⟩ (.int .i64 (q : Int))).setCell ⟨wr.heap.size, 1, none⟩ (.int .u64 0)).setCell ⟨wr.heap.size, 2, none⟩ (.string ⟨#[]⟩)).setCell ⟨wr.heap.size, 3, none⟩ (.bool false)).setCell ⟨wr.heap.size, 4, none⟩ (.int .i64 0) = We at hX hO hRW ⊢
                  obtain ⟨X, hXe⟩ : ∃ X, X = wr.heap.size := ⟨_, rfl⟩
                  rw [← hXe] at hX ⊢
                  have hXr : X ≠ r := by rw [hXe]; have := HLTS.out; have := ho6.size; simp at this; omega
                  clear hXe
              have hS14 := hO
              clear hK K hS
              have hS := hS14
              try simp only [Act.put, List.setIfInBounds_toArray, List.set_cons_zero, List.set_cons_succ]
              refine wpAnyH_done (by kernel_rfl) ?_ _
              have HRWH := hid hRW
              have HBWH := hid (HBS.out.trans (hO.below HLR.out HBS.out.size))
              have e0' := z0 _ hO
              have u0 := held_beyond e0'
              have v0 : ∀ W, Beyond We W → W.cell? ⟨X, 0, none⟩ = some (.int .i64 (q : Int)) := held_blk hX
              have v1 : ∀ W, Beyond We W → W.cell? ⟨X, 1, none⟩ = some (.int .u64 0) := held_blk hX
              have v2 : ∀ W, Beyond We W → W.cell? ⟨X, 2, none⟩ = some (.string ⟨#[]⟩) := held_blk hX
              have v3 : ∀ W, Beyond We W → W.cell? ⟨X, 3, none⟩ = some (.bool false) := held_blk hX
              have v4 : ∀ W, Beyond We W → W.cell? ⟨X, 4, none⟩ = some (.int .i64 0) := held_blk hX
              clear hRW hO hX z0 z4 e0' hS hS14 hS12 hS13 hr6 ho6
              go_wp2_with fail
              refine wp_region_held_drew (S := Beyond We) (by kernel_rfl) (Beyond.drew _) (fun hS => ?_)
              refine take_step (i := 0) (by simp only [List.getElem?_toArray, List.getElem?_cons_zero]; rfl) (by kernel_rfl) (by kernel_rfl) (by kernel_rfl) (by intro _ _ _ h; exact h) (by rfl) (fun W hW => by go_simp; first | done | with_reducible rfl) hS ?_
              try simp only [Act.put, List.setIfInBounds_toArray, List.set_cons_zero, List.set_cons_succ]
              refine take_step (i := 1) (by simp only [List.getElem?_toArray, List.getElem?_cons_succ, List.getElem?_cons_zero]; rfl) (by kernel_rfl) (by kernel_rfl) (by kernel_rfl) (by intro _ _ _ h; exact h) (by rfl) (fun W hW => by go_simp; first | done | with_reducible rfl) hS ?_
              try simp only [Act.put, List.setIfInBounds_toArray, List.set_cons_zero, List.set_cons_succ]
              refine take_step (i := 2) (by simp only [List.getElem?_toArray, List.getElem?_cons_succ, List.getElem?_cons_zero]; rfl) (by kernel_rfl) (by kernel_rfl) (by kernel_rfl) (by intro _ _ _ h; exact h) (by rfl) (fun W hW => by go_simp; first | done | with_reducible rfl) hS ?_
              try simp only [Act.put, List.setIfInBounds_toArray, List.set_cons_zero, List.set_cons_succ]
              refine take_step (i := 3) (by simp only [List.getElem?_toArray, List.getElem?_cons_succ, List.getElem?_cons_zero]; rfl) (by kernel_rfl) (by kernel_rfl) (by kernel_rfl) (by intro _ _ _ h; exact h) (by rfl) (fun W hW => by go_simp; first | done | with_reducible rfl) hS ?_
              try simp only [Act.put, List.setIfInBounds_toArray, List.set_cons_zero, List.set_cons_succ]
              refine take_step (i := 4) (by simp only [List.getElem?_toArray, List.getElem?_cons_succ, List.getElem?_cons_zero]; rfl) (by kernel_rfl) (by kernel_rfl) (by kernel_rfl) (by intro _ _ _ h; exact h) (by rfl) (fun W hW => by go_simp; first | done | with_reducible rfl) hS ?_
              try simp only [Act.put, List.setIfInBounds_toArray, List.set_cons_zero, List.set_cons_succ]
              refine take_step (i := 5) (by simp only [List.getElem?_toArray, List.getElem?_cons_succ, List.getElem?_cons_zero]; rfl) (by kernel_rfl) (by kernel_rfl) (by kernel_rfl) (by intro _ _ _ h; exact h) (by rfl) (fun W hW => by go_simp; first | done | with_reducible rfl) hS ?_
              try simp only [Act.put, List.setIfInBounds_toArray, List.set_cons_zero, List.set_cons_succ]
              refine take_step (i := 6) (by simp only [List.getElem?_toArray, List.getElem?_cons_succ, List.getElem?_cons_zero]; rfl) (by kernel_rfl) (by kernel_rfl) (by kernel_rfl) (by intro _ _ _ h; exact h) (by rfl) (fun W hW => by go_simp; first | done | with_reducible rfl) hS ?_
              try simp only [Act.put, List.setIfInBounds_toArray, List.set_cons_zero, List.set_cons_succ]
              refine take_step (i := 7) (by simp only [List.getElem?_toArray, List.getElem?_cons_succ, List.getElem?_cons_zero]; rfl) (by kernel_rfl) (by kernel_rfl) (by kernel_rfl) (by intro _ _ _ h; exact h) (by rfl) (fun W hW => by go_simp; first | done | with_reducible rfl) hS ?_
              try simp only [Act.put, List.setIfInBounds_toArray, List.set_cons_zero, List.set_cons_succ]
              refine take_step (i := 8) (by simp only [List.getElem?_toArray, List.getElem?_cons_succ, List.getElem?_cons_zero]; rfl) (by kernel_rfl) (by kernel_rfl) (by kernel_rfl) (by intro _ _ _ h; exact h) (by rfl) (fun W hW => by go_simp; first | done | with_reducible rfl) hS ?_
              try simp only [Act.put, List.setIfInBounds_toArray, List.set_cons_zero, List.set_cons_succ]
              refine take_step (i := 9) (by simp only [List.getElem?_toArray, List.getElem?_cons_succ, List.getElem?_cons_zero]; rfl) (by kernel_rfl) (by kernel_rfl) (by kernel_rfl) (by intro _ _ _ h; exact h) (by rfl) (fun W hW => by go_simp; first | done | with_reducible rfl) hS ?_
              try simp only [Act.put, List.setIfInBounds_toArray, List.set_cons_zero, List.set_cons_succ]
              first | (refine take_step (i := 10) (by simp only [List.getElem?_toArray, List.getElem?_cons_succ, List.getElem?_cons_zero]; rfl) (by kernel_rfl) (by kernel_rfl) (by kernel_rfl) (by intro _ _ _ h; exact h) (by rfl) (fun W hW => by go_simp; first | done | with_reducible rfl) hS ?_) | (refine skip_step (i := 10) (by simp only [List.getElem?_toArray, List.getElem?_cons_succ, List.getElem?_cons_zero]; rfl) (by kernel_rfl) (by kernel_rfl) (by kernel_rfl) (by intro _ _ _ h; exact h) (by rfl) hS ?_)
              try simp only [Act.put, List.setIfInBounds_toArray, List.set_cons_zero, List.set_cons_succ]
              first | (refine take_step (i := 12) (by simp only [List.getElem?_toArray, List.getElem?_cons_succ, List.getElem?_cons_zero]; rfl) (by kernel_rfl) (by kernel_rfl) (by kernel_rfl) (by intro _ _ _ h; exact h) (by rfl) (fun W hW => by go_simp; first | done | with_reducible rfl) hS ?_) | (refine skip_step (i := 12) (by simp only [List.getElem?_toArray, List.getElem?_cons_succ, List.getElem?_cons_zero]; rfl) (by kernel_rfl) (by kernel_rfl) (by kernel_rfl) (by intro _ _ _ h; exact h) (by rfl) hS ?_)
              try simp only [Act.put, List.setIfInBounds_toArray, List.set_cons_zero, List.set_cons_succ]
              refine wpAnyH_ready (rs := [11]) (by kernel_rfl) (by simp) ?_
              refine AllReadyH.cons (by simp only [List.getElem?_toArray, List.getElem?_cons_succ, List.getElem?_cons_zero]; rfl) (fun K hK => ?_) AllReadyH.nil
              go_simp
              go_fit (end_to HX.out (HRWH.out.step hS))
              rintro e w7b ⟨rfl, rfl⟩
              have hS11 := hS
              refine hK.out _ _ (by assumption) (fun _ => ?_)
              clear hK K hS
              have hS := hS11
              try simp only [Act.put, List.setIfInBounds_toArray, List.set_cons_zero, List.set_cons_succ]
              first | (refine take_step (i := 13) (by simp only [List.getElem?_toArray, List.getElem?_cons_succ, List.getElem?_cons_zero]; rfl) (by kernel_rfl) (by kernel_rfl) (by kernel_rfl) (by intro _ _ _ h; exact h) (by rfl) (fun W hW => by go_simp; first | done | with_reducible rfl) hS ?_) | (refine skip_step (i := 13) (by simp only [List.getElem?_toArray, List.getElem?_cons_succ, List.getElem?_cons_zero]; rfl) (by kernel_rfl) (by kernel_rfl) (by kernel_rfl) (by intro _ _ _ h; exact h) (by rfl) hS ?_)
              try simp only [Act.put, List.setIfInBounds_toArray, List.set_cons_zero, List.set_cons_succ]
              refine take_step (i := 14) (by simp only [List.getElem?_toArray, List.getElem?_cons_succ, List.getElem?_cons_zero]; rfl) (by kernel_rfl) (by kernel_rfl) (by kernel_rfl) (by intro _ _ _ h; exact h) (by rfl) (fun W hW => by go_simp; first | done | with_reducible rfl) hS ?_
              try simp only [Act.put, List.setIfInBounds_toArray, List.set_cons_zero, List.set_cons_succ]
              refine take_step (i := 15) (by simp only [List.getElem?_toArray, List.getElem?_cons_succ, List.getElem?_cons_zero]; rfl) (by kernel_rfl) (by kernel_rfl) (by kernel_rfl) (by intro _ _ _ h; exact h) (by rfl) (fun W hW => by go_simp; first | done | with_reducible rfl) hS ?_
              try simp only [Act.put, List.setIfInBounds_toArray, List.set_cons_zero, List.set_cons_succ]
              first | (refine take_step (i := 16) (by simp only [List.getElem?_toArray, List.getElem?_cons_succ, List.getElem?_cons_zero]; rfl) (by kernel_rfl) (by kernel_rfl) (by kernel_rfl) (by intro _ _ _ h; exact h) (by rfl) (fun W hW => by go_simp; first | done | with_reducible rfl) hS ?_) | (refine skip_step (i := 16) (by simp only [List.getElem?_toArray, List.getElem?_cons_succ, List.getElem?_cons_zero]; rfl) (by kernel_rfl) (by kernel_rfl) (by kernel_rfl) (by intro _ _ _ h; exact h) (by rfl) hS ?_)
              try simp only [Act.put, List.setIfInBounds_toArray, List.set_cons_zero, List.set_cons_succ]
              first | (refine take_step (i := 19) (by simp only [List.getElem?_toArray, List.getElem?_cons_succ, List.getElem?_cons_zero]; rfl) (by kernel_rfl) (by kernel_rfl) (by kernel_rfl) (by intro _ _ _ h; exact h) (by rfl) (fun W hW => by go_simp; first | done | with_reducible rfl) hS ?_) | (refine skip_step (i := 19) (by simp only [List.getElem?_toArray, List.getElem?_cons_succ, List.getElem?_cons_zero]; rfl) (by kernel_rfl) (by kernel_rfl) (by kernel_rfl) (by intro _ _ _ h; exact h) (by rfl) hS ?_)
              try simp only [Act.put, List.setIfInBounds_toArray, List.set_cons_zero, List.set_cons_succ]
              refine wpAnyH_ready (rs := [17]) (by kernel_rfl) (by simp) ?_
              refine AllReadyH.cons (by simp only [List.getElem?_toArray, List.getElem?_cons_succ, List.getElem?_cons_zero]; rfl) (fun K hK => ?_) AllReadyH.nil
              go_simp
              go_fit (rest_any r e0 l _ (HRWH.out.step hS))
              rintro e w8 ⟨A8, m8, c8, rfl, hr8, hb8⟩
              have hS17 := Beyond.step hS hb8
              have HR8 := hid hr8
              have HB8 := hid hS17
              clear hr8
              have hcv8 : ∀ W, Beyond w8 W → (convert 30 9 (.slice A8 m8 c8)).run Try.prog W = .ok (.string (bst l)) W := fun W hW => str_of (HR8.out.at_.below hW) HR8.out.1
              refine hK.out _ _ (by assumption) (fun _ => ?_)
              clear hK K hS
              have hS := hS17
              try simp only [Act.put, List.setIfInBounds_toArray, List.set_cons_zero, List.set_cons_succ]
              refine wpAnyH_more (S' := Beyond w8) (fun W hW => Beyond.trans hS hW) ?_
              have hS := Beyond.refl w8
              first | (refine take_step (i := 18) (by simp only [List.getElem?_toArray, List.getElem?_cons_succ, List.getElem?_cons_zero]; rfl) (by kernel_rfl) (by kernel_rfl) (by kernel_rfl) (by intro _ _ _ h; exact h) (by rfl) (fun W hW => by go_simp; first | done | with_reducible rfl) hS ?_) | (refine skip_step (i := 18) (by simp only [List.getElem?_toArray, List.getElem?_cons_succ, List.getElem?_cons_zero]; rfl) (by kernel_rfl) (by kernel_rfl) (by kernel_rfl) (by intro _ _ _ h; exact h) (by rfl) hS ?_)
              try simp only [Act.put, List.setIfInBounds_toArray, List.set_cons_zero, List.set_cons_succ]
              first | (refine take_step (i := 20) (by simp only [List.getElem?_toArray, List.getElem?_cons_succ, List.getElem?_cons_zero]; rfl) (by kernel_rfl) (by kernel_rfl) (by kernel_rfl) (by intro _ _ _ h; exact h) (by rfl) (fun W hW => by go_simp; first | done | with_reducible rfl) hS ?_) | (refine skip_step (i := 20) (by simp only [List.getElem?_toArray, List.getElem?_cons_succ, List.getElem?_cons_zero]; rfl) (by kernel_rfl) (by kernel_rfl) (by kernel_rfl) (by intro _ _ _ h; exact h) (by rfl) hS ?_)
              try simp only [Act.put, List.setIfInBounds_toArray, List.set_cons_zero, List.set_cons_succ]
              refine take_step (i := 21) (by simp only [List.getElem?_toArray, List.getElem?_cons_succ, List.getElem?_cons_zero]; rfl) (by kernel_rfl) (by kernel_rfl) (by kernel_rfl) (by intro _ _ _ h; exact h) (by rfl) (fun W hW => by go_simp; first | done | with_reducible rfl) hS ?_
              try simp only [Act.put, List.setIfInBounds_toArray, List.set_cons_zero, List.set_cons_succ]
              refine wpAnyH_done (by kernel_rfl) ?_ _
              go_wp2_with fail
              go_roundw
              case rel => exact ⟨j + 1, by omega, by go_num, HRWH.out.step HB8.out, below_step HBWH.out HB8.out⟩
              case measure => simp [intOf]; omega
          · obtain rfl : j = n' := by omega
            go_wp2_with fail
            go_ret
            exact ⟨rfl, HBS.out⟩


end Go.Proofs.Ytamieogikmnpcaa
