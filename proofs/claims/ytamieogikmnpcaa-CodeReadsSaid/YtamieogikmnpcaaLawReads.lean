/-
  CodeReads: its walk.
-/
import Derived.Test.YtamieogikmnpcaaStep
import Derived.Test.YtamieogikmnpcaaRegion
namespace Go.Proofs.Ytamieogikmnpcaa
open Go Go.RowKit

/-- a block that is not the reader's, in each world that differs there alone -/
theorem held_cell {w : World} {r g i : Nat} {t : TypeId} {cs : Array Value} (h : Blk w g t cs) (hne : g ≠ r) : ∀ W, Only r w W → W.cell? ⟨g, i, none⟩ = cs[i]? := fun _ hS =>
  (Blk.grown h hS (fun e => hne (by injection e))).cell i

theorem heap_new_at {w : World} {g : Nat} {t : TypeId} {cs : Array Value} (h : g = w.heap.size) : Blk (w.alloc (.cells cs t)) g t cs := h ▸ Blk.new w t cs
theorem end_is {r e0 x : Nat} {l : List UInt8} {w : World} (h : endOf l e0 = x) (hr : Rd w r l e0) :
    Calls Try.prog 17 #[.pointer (some ⟨r, 0, none⟩)] w fun e w' => e = .returned (.int .i64 (x : Int)) ∧ w = w' := by
  subst h
  exact end_any r e0 l w hr

set_option maxRecDepth 100000 in
set_option maxHeartbeats 8000000 in
theorem reads_walk {A : Option Addr} {c : Nat} (s : List UInt8) (fs : List Fd) (w : World) (hA : FAt w w.heap.size A fs) (hc : fs.length ≤ c) (hl : fs.length ≤ 9223372036854775807) (hsl : s.length ≤ 140737488351232) :
    Calls Try.prog 4 #[.string (bst s), .slice A fs.length c] w fun e w' => e = .returned (.bool true) ∧ Below w.heap.size w w' := by
  have HA := hid hA
  have HSL := hid hsl
  obtain ⟨n, hn⟩ : ∃ n, n = fs.length := ⟨_, rfl⟩
  rw [← hn] at hc hl ⊢
  have HN := hid hn
  have hz := bst_size s
  clear hA hn hsl
  by_cases hs1 : 1000 < s.length
  · have hsi : (1000 : Int) < (s.length : Int) := by omega
    go_enter Try.func4, Try.ntmps4
    go_wp2_with (with_reducible refine wpList_bytes_of _ rfl (.tmp 14) 9 30 5 rfl Try.underlying9 Try.underlying30 Try.underlying5 s rfl ?_; intro A1 c1 w1 hc1 hA1 hb1)
    go_fit (read_any hA1 rfl (Nat.le_refl _) HSL.out)
    rintro e w2 ⟨r, rfl, hr2, hle2, hb2⟩
    have HR2 := hid hr2
    have HB2 := hid (below_step hb1 hb2)
    have HLR := hid (Nat.le_trans hb1.size hle2)
    clear hA1 hb1 hc1 hr2 hle2 hb2
    go_wp2_with fail
    go_fit (awake_yes w2)
    rintro e w3 ⟨rfl, hb3⟩
    have HR3 := hid (HR2.out.step hb3)
    have HB3 := hid (below_step HB2.out hb3)
    clear hb3
    go_wp2_with fail
    go_fit (awake_yes w3)
    rintro e w4 ⟨rfl, hb4⟩
    have HB4 := hid (below_step HB3.out hb4)
    clear hb4
    go_wp2_with fail
    go_ret
    exact ⟨rfl, HB4.out⟩

  have hsi : ¬ (1000 : Int) < (s.length : Int) := by omega
  by_cases hlen : 50 < n
  · skip
    go_enter Try.func4, Try.ntmps4
    go_wp2_with (with_reducible refine wpList_bytes_of _ rfl (.tmp 14) 9 30 5 rfl Try.underlying9 Try.underlying30 Try.underlying5 s rfl ?_; intro A1 c1 w1 hc1 hA1 hb1)
    go_fit (read_any hA1 rfl (Nat.le_refl _) HSL.out)
    rintro e w2 ⟨r, rfl, hr2, hle2, hb2⟩
    have HR2 := hid hr2
    have HB2 := hid (below_step hb1 hb2)
    have HLR := hid (Nat.le_trans hb1.size hle2)
    clear hA1 hb1 hc1 hr2 hle2 hb2
    go_wp2_with fail
    go_fit (awake_yes w2)
    rintro e w3 ⟨rfl, hb3⟩
    have HR3 := hid (HR2.out.step hb3)
    have HB3 := hid (below_step HB2.out hb3)
    clear hb3
    go_wp2_with fail
    go_fit (awake_yes w3)
    rintro e w4 ⟨rfl, hb4⟩
    have HB4 := hid (below_step HB3.out hb4)
    clear hb4
    go_wp2_with fail
    go_ret
    exact ⟨rfl, HB4.out⟩

  go_enter Try.func4, Try.ntmps4
  go_wp2_with (with_reducible refine wpList_bytes_of _ rfl (.tmp 14) 9 30 5 rfl Try.underlying9 Try.underlying30 Try.underlying5 s rfl ?_; intro A1 c1 w1 hc1 hA1 hb1)
  go_fit (read_any hA1 rfl (Nat.le_refl _) HSL.out)
  rintro e w2 ⟨r, rfl, hr2, hle2, hb2⟩
  have HR2 := hid hr2
  have HB2 := hid (below_step hb1 hb2)
  have HLR := hid (Nat.le_trans hb1.size hle2)
  clear hA1 hb1 hc1 hr2 hle2 hb2
  go_wp2_with fail
  go_fit (awake_yes w2)
  rintro e w3 ⟨rfl, hb3⟩
  have HR3 := hid (HR2.out.step hb3)
  have HB3 := hid (below_step HB2.out hb3)
  clear hb3
  go_wp2_with fail

  go_loopw [0, 6, 7] (fun s x i wr => ∃ (k : Nat) (l : List UInt8) (e : Nat), k ≤ n ∧ i = .int .i64 (k : Int) ∧ s = .string (bst l) ∧ x = .int .i64 (e : Int) ∧ Rd wr r l e ∧ Below w.heap.size w wr ∧ l.length ≤ 1000) (fun _ _ i _ => n - (intOf i).toNat)
  case atStart => exact ⟨0, s, 0, by omega, rfl, rfl, rfl, HR3.out, HB3.out, by omega⟩
  case round =>
    obtain ⟨k, l, e0, hk, rfl, rfl, rfl, hrr, hbr, hll⟩ := hrel
    have HRR := hid hrr
    have HBR := hid hbr
    have HL0 := hid hll
    have htl := bst_toList l
    clear hrr hbr hll hs1 hsi hz
    by_cases hlt : k < n
    · obtain ⟨b, off, f, rfl, hb, hf, hok, hcells⟩ := (HA.out.below HBR.out).get (k := k) (by rw [← HN.out]; exact hlt)
      obtain ⟨c0, c1, c2, c3, c4⟩ := hcells
      obtain ⟨q, hq⟩ : ∃ q, q = k3 f.k := ⟨_, rfl⟩
      have HQ3 := hid (show q ≤ 3 by rw [hq]; exact (k3_spec f.k).2)
      have HMO := hid hok.m
      obtain ⟨fk, fv, fsx, fy, fm⟩ := f
      dsimp only at c0 c1 c2 c3 c4 hq HMO
      have HQ := hid hq
      clear hf hok hq
      by_cases he : e0 = 0
      · subst he
        obtain ⟨⟨⟨Fk, Fv, Fs, Fy, Fm⟩, l2, e2⟩, htk⟩ : ∃ o, tk q fm l = o := ⟨_, rfl⟩
        have HTK := hid (fun W h => take_any r q fm HQ3.out HMO.out l W h)
        rw [htk] at HTK
        have HTR := hid (fun W => refTake_any q HQ3.out fm HMO.out l W (by have := HL0.out; omega))
        unfold TookRef at HTR
        rw [htk] at HTR
        unfold Fd.val at HTK HTR
        dsimp only at HTK HTR
        have HLL := hid (show l2.length ≤ 1000 by have := tk_len q fm l; rw [htk] at this; have := HL0.out; exact Nat.le_trans (by assumption) HL0.out)
        clear htk
        have htl2 := bst_toList l2
        have hneq := neq_agg Fk (Fv : Int) Fm (bst Fs) Fy
        have hways : (e2 = 0 ∧ l2 = []) ∨ (e2 = 0 ∧ ∃ x y, l2 = x :: y) ∨ ((e2 : Int) == 0) = false := by
          by_cases h0 : e2 = 0
          · rcases l2 with _ | ⟨x, y⟩
            · exact .inl ⟨h0, rfl⟩
            · exact .inr (.inl ⟨h0, x, y, rfl⟩)
          · right; right; simp; omega
        go_wp2_with fail
        go_fit (kinds_is (q := q) ⟨fk, fv, fsx, fy, fm⟩ wr HQ.out.symm)
        rintro e w4 ⟨rfl, hb4⟩
        dsimp only
        have HB4 := hid (below_step HBR.out hb4)
        have HR4 := hid (HRR.out.step hb4)
        have HLR4 := hid (HR4.out.lt)
        clear hb4 c0 c1 c2 c3 c4

        go_wp2_with fail
        go_fit (HTR.out ((w4.alloc (.cells #[.int .i64 (q : Int), .int .u64 (fv : Int), .string (bst fsx), .bool fy, .int .i64 fm] 28)).alloc (.cells #[.int .i64 (q : Int), .int .u64 0, .string ⟨#[]⟩, .bool false, .int .i64 0] 28)))
        rintro e w5 ⟨rfl, hb5⟩
        obtain ⟨b8, b9⟩ := two_below hb5
        obtain ⟨x0, x1, x2, x3, x4, g0, g1, g2, g3, g4⟩ := five b8
        obtain ⟨y0, y1, y2, y3, y4, k0, k1, k2, k3, k4⟩ := five b9
        have l8 := b8.lt
        have l9 := b9.lt
        obtain ⟨W0, hW0⟩ : ∃ W0, W0 = (((((w5.setCell ⟨w4.heap.size + 1, 0, none⟩ (.int .i64 Fk)).setCell ⟨w4.heap.size + 1, 1, none⟩ (.int .u64 (Fv : Int))).setCell ⟨w4.heap.size + 1, 2, none⟩ (.string (bst Fs))).setCell ⟨w4.heap.size + 1, 3, none⟩ (.bool Fy)).setCell ⟨w4.heap.size + 1, 4, none⟩ (.int .i64 Fm)).alloc (.cells #[.int .i64 Fk, .int .u64 (Fv : Int), .string (bst Fs), .bool Fy, .int .i64 Fm] 28) := ⟨_, rfl⟩
        have hB9 : Blk W0 (w4.heap.size + 1) 28 #[.int .i64 Fk, .int .u64 (Fv : Int), .string (bst Fs), .bool Fy, .int .i64 Fm] := by
          rw [hW0]
          exact Blk.alloc (((((b9.set 0 _).set 1 _).set 2 _).set 3 _).set 4 _) _
        have hB8 : Blk W0 w4.heap.size 28 #[.int .i64 (q : Int), .int .u64 (fv : Int), .string (bst fsx), .bool fy, .int .i64 fm] := by
          rw [hW0]
          exact Blk.alloc (((((b8.far (by simp) _).far (by simp) _).far (by simp) _).far (by simp) _).far (by simp) _) _
        have hBel : Below w4.heap.size w4 W0 := by
          rw [hW0]
          exact Below.alloc ((((((Below.trans (((Below.refl _ w4).alloc (Nat.le_refl _) _).alloc (by simp) _) (hb5.mono (by simp; omega))).setCell (by simp) _).setCell (by simp) _).setCell (by simp) _).setCell (by simp) _).setCell (by simp) _) (by simp [World.setCell]; omega) _
        have HRW0 := hid (HR4.out.step hBel)
        have HBW0 := hid (below_step HB4.out hBel)
        have hne8 : w4.heap.size ≠ r := by have := HLR4.out; omega
        have hne9 : w4.heap.size + 1 ≠ r := by have := HLR4.out; omega
        have z0 : ∀ W, Only r W0 W → W.cell? ⟨w4.heap.size, 0, none⟩ = some (.int .i64 (q : Int)) := held_cell hB8 hne8
        have z4 : ∀ W, Only r W0 W → W.cell? ⟨w4.heap.size, 4, none⟩ = some (.int .i64 fm) := held_cell hB8 hne8
        have t0 : ∀ W, Only r W0 W → W.cell? ⟨w4.heap.size + 1, 0, none⟩ = some (.int .i64 Fk) := held_cell hB9 hne9
        have t1 : ∀ W, Only r W0 W → W.cell? ⟨w4.heap.size + 1, 1, none⟩ = some (.int .u64 (Fv : Int)) := held_cell hB9 hne9
        have t2 : ∀ W, Only r W0 W → W.cell? ⟨w4.heap.size + 1, 2, none⟩ = some (.string (bst Fs)) := held_cell hB9 hne9
        have t3 : ∀ W, Only r W0 W → W.cell? ⟨w4.heap.size + 1, 3, none⟩ = some (.bool Fy) := held_cell hB9 hne9
        have t4 : ∀ W, Only r W0 W → W.cell? ⟨w4.heap.size + 1, 4, none⟩ = some (.int .i64 Fm) := held_cell hB9 hne9
        have HW0 := hid hW0
        clear hb5 b8 b9 hB8 hB9 hBel hW0
        go_wp2_with fail
        rw [← HW0.out]
        clear HW0 x0 x1 x2 x3 x4 g0 g1 g2 g3 g4 y0 y1 y2 y3 y4 k0 k1 k2 k3 k4 l8 l9
        refine wp_region_held_drew (S := Only r W0) (by kernel_rfl) (Only.drew (Only.refl _ _)) (fun hS => ?_)
        refine take_step (i := 0) (by simp only [List.getElem?_toArray, List.getElem?_cons_zero]; rfl) (by kernel_rfl) (by kernel_rfl) (by kernel_rfl) (by intro _ _ _ h; exact h) (by rfl) (fun W hW => by go_simp; first | done | with_reducible rfl) hS ?_
        try simp only [Act.put, List.setIfInBounds_toArray, List.set_cons_zero, List.set_cons_succ]
        refine take_step (i := 1) (by simp only [List.getElem?_toArray, List.getElem?_cons_succ, List.getElem?_cons_zero]; rfl) (by kernel_rfl) (by kernel_rfl) (by kernel_rfl) (by intro _ _ _ h; exact h) (by rfl) (fun W hW => by go_simp; first | done | with_reducible rfl) hS ?_
        try simp only [Act.put, List.setIfInBounds_toArray, List.set_cons_zero, List.set_cons_succ]
        refine take_step (i := 2) (by simp only [List.getElem?_toArray, List.getElem?_cons_succ, List.getElem?_cons_zero]; rfl) (by kernel_rfl) (by kernel_rfl) (by kernel_rfl) (by intro _ _ _ h; exact h) (by rfl) (fun W hW => by go_simp; first | done | with_reducible rfl) hS ?_
        try simp only [Act.put, List.setIfInBounds_toArray, List.set_cons_zero, List.set_cons_succ]
        refine take_step (i := 3) (by simp only [List.getElem?_toArray, List.getElem?_cons_succ, List.getElem?_cons_zero]; rfl) (by kernel_rfl) (by kernel_rfl) (by kernel_rfl) (by intro _ _ _ h; exact h) (by rfl) (fun W hW => by go_simp; first | done | with_reducible rfl) hS ?_
        try simp only [Act.put, List.setIfInBounds_toArray, List.set_cons_zero, List.set_cons_succ]
        refine take_step (i := 4) (by simp only [List.getElem?_toArray, List.getElem?_cons_succ, List.getElem?_cons_zero]; rfl) (by kernel_rfl) (by kernel_rfl) (by kernel_rfl) (by intro _ _ _ h; exact h) (by rfl) (fun W hW => by go_simp; first | done | with_reducible rfl) hS ?_
        try simp only [Act.put, List.setIfInBounds_toArray, List.set_cons_zero, List.set_cons_succ]
        refine take_step (i := 6) (by simp only [List.getElem?_toArray, List.getElem?_cons_succ, List.getElem?_cons_zero]; rfl) (by kernel_rfl) (by kernel_rfl) (by kernel_rfl) (by intro _ _ _ h; exact h) (by rfl) (fun W hW => by go_simp; first | done | with_reducible rfl) hS ?_
        try simp only [Act.put, List.setIfInBounds_toArray, List.set_cons_zero, List.set_cons_succ]
        refine wpAnyH_ready (rs := [5]) (by kernel_rfl) (by simp) ?_
        refine AllReadyH.cons (by simp only [List.getElem?_toArray, List.getElem?_cons_succ, List.getElem?_cons_zero]; rfl) (fun K hK => ?_) AllReadyH.nil
        go_simp
        go_fit (HTK.out _ (HRW0.out.step ((Below.refl _ _).drew)))
        rintro e w6 ⟨rfl, hr6, ho6⟩
        have hS5 := Only.trans hS ho6
        refine hK.out _ _ (by assumption) (fun _ => ?_)
        clear hK K hS
        have hS := hS5
        try simp only [Act.put, List.setIfInBounds_toArray, List.set_cons_zero, List.set_cons_succ]
        refine take_step (i := 7) (by simp only [List.getElem?_toArray, List.getElem?_cons_succ, List.getElem?_cons_zero]; rfl) (by kernel_rfl) (by kernel_rfl) (by kernel_rfl) (by intro _ _ _ h; exact h) (by rfl) (fun W hW => by go_simp; first | done | with_reducible rfl) hS ?_
        try simp only [Act.put, List.setIfInBounds_toArray, List.set_cons_zero, List.set_cons_succ]
        refine wpAnyH_done (by kernel_rfl) ?_ _
        skip
        rcases hways with ⟨rfl, rfl⟩ | ⟨rfl, x, y, rfl⟩ | hE
        · skip
          have HR6 := hid hr6
          have HB6 := hid (HBW0.out.trans (hS5.below HLR.out HBW0.out.size))
          clear hr6 ho6 hS hS5
          go_wp2_with fail
          go_fit (end_is (x := 0) rfl HR6.out)
          rintro e w7 ⟨rfl, rfl⟩
          go_wp2_with fail
          go_fit (rest_any r _ _ w6 HR6.out)
          rintro e w8 ⟨A8, m8, c8, rfl, hr8, hb8⟩
          have cv := str_of (c := c8) hr8.at_ hr8.1
          have HR8 := hid (HR6.out.step hb8)
          have HB8 := hid (below_step HB6.out hb8)
          clear hr8 hb8
          go_wp2_with fail
          go_roundw
          case rel => exact ⟨k + 1, [], 0, by omega, by go_num, rfl, rfl, HR8.out, HB8.out, HLL.out⟩
          case measure => simp [intOf]; omega

        · skip
          have HR6 := hid hr6
          have HB6 := hid (HBW0.out.trans (hS5.below HLR.out HBW0.out.size))
          clear hr6 ho6 hS hS5
          go_wp2_with fail
          go_fit (end_is (x := 31) (by simp [endOf]) HR6.out)
          rintro e w7 ⟨rfl, rfl⟩
          go_wp2_with fail
          go_fit (rest_any r _ _ w6 HR6.out)
          rintro e w8 ⟨A8, m8, c8, rfl, hr8, hb8⟩
          have cv := str_of (c := c8) hr8.at_ hr8.1
          have HR8 := hid (HR6.out.step hb8)
          have HB8 := hid (below_step HB6.out hb8)
          clear hr8 hb8
          go_wp2_with fail
          go_roundw
          case rel => exact ⟨k + 1, x :: y, 0, by omega, by go_num, rfl, rfl, HR8.out, HB8.out, HLL.out⟩
          case measure => simp [intOf]; omega

        · have hen := hid (show endOf l2 e2 = e2 by unfold endOf; rw [if_neg (by simp at hE; omega)])
          have HR6 := hid hr6
          have HB6 := hid (HBW0.out.trans (hS5.below HLR.out HBW0.out.size))
          clear hr6 ho6 hS hS5
          go_wp2_with fail
          go_fit (end_is hen.out HR6.out)
          rintro e w7 ⟨rfl, rfl⟩
          go_wp2_with fail
          go_fit (rest_any r _ _ w6 HR6.out)
          rintro e w8 ⟨A8, m8, c8, rfl, hr8, hb8⟩
          have cv := str_of (c := c8) hr8.at_ hr8.1
          have HR8 := hid (HR6.out.step hb8)
          have HB8 := hid (below_step HB6.out hb8)
          clear hr8 hb8
          go_wp2_with fail
          go_roundw
          case rel => exact ⟨k + 1, l2, e2, by omega, by go_num, rfl, rfl, HR8.out, HB8.out, HLL.out⟩
          case measure => simp [intOf]; omega

      · have hTK := fun W h => take_not r q e0 fm HQ3.out l W h he
        unfold zeroFd Fd.val at hTK
        simp only [bst_nil] at hTK
        have HTK := hid hTK
        clear hTK
        have HLL := hid HL0.out
        have hE : ((e0 : Int) == 0) = false := by simp; omega
        have hen := hid (show endOf l e0 = e0 by unfold endOf; rw [if_neg (by omega)])
        have hneq := neq_agg (q : Int) 0 0 ⟨#[]⟩ false
        clear he
        go_wp2_with fail
        go_fit (kinds_is (q := q) ⟨fk, fv, fsx, fy, fm⟩ wr HQ.out.symm)
        rintro e w4 ⟨rfl, hb4⟩
        dsimp only
        have HB4 := hid (below_step HBR.out hb4)
        have HR4 := hid (HRR.out.step hb4)
        have HLR4 := hid (HR4.out.lt)
        clear hb4 c0 c1 c2 c3 c4

        obtain ⟨W0, hW0⟩ : ∃ W0, W0 = (w4.alloc (.cells #[.int .i64 (q : Int), .int .u64 (fv : Int), .string (bst fsx), .bool fy, .int .i64 fm] 28)).alloc (.cells #[.int .i64 (q : Int), .int .u64 0, .string ⟨#[]⟩, .bool false, .int .i64 0] 28) := ⟨_, rfl⟩
        have hB9 : Blk W0 (w4.heap.size + 1) 28 #[.int .i64 (q : Int), .int .u64 0, .string ⟨#[]⟩, .bool false, .int .i64 0] := by
          rw [hW0]
          exact heap_new_at (by simp)
        have hB8 : Blk W0 w4.heap.size 28 #[.int .i64 (q : Int), .int .u64 (fv : Int), .string (bst fsx), .bool fy, .int .i64 fm] := by
          rw [hW0]
          exact Blk.alloc (Blk.new _ _ _) _
        have hBel : Below w4.heap.size w4 W0 := by
          rw [hW0]
          exact ((Below.refl _ _).alloc (Nat.le_refl _) _).alloc (by simp) _
        have HRW0 := hid (HR4.out.step hBel)
        have HBW0 := hid (below_step HB4.out hBel)
        have hne8 : w4.heap.size ≠ r := by have := HLR4.out; omega
        have hne9 : w4.heap.size + 1 ≠ r := by have := HLR4.out; omega
        have z0 : ∀ W, Only r W0 W → W.cell? ⟨w4.heap.size, 0, none⟩ = some (.int .i64 (q : Int)) := held_cell hB8 hne8
        have z4 : ∀ W, Only r W0 W → W.cell? ⟨w4.heap.size, 4, none⟩ = some (.int .i64 fm) := held_cell hB8 hne8
        have t0 : ∀ W, Only r W0 W → W.cell? ⟨w4.heap.size + 1, 0, none⟩ = some (.int .i64 (q : Int)) := held_cell hB9 hne9
        have t1 : ∀ W, Only r W0 W → W.cell? ⟨w4.heap.size + 1, 1, none⟩ = some (.int .u64 0) := held_cell hB9 hne9
        have t2 : ∀ W, Only r W0 W → W.cell? ⟨w4.heap.size + 1, 2, none⟩ = some (.string ⟨#[]⟩) := held_cell hB9 hne9
        have t3 : ∀ W, Only r W0 W → W.cell? ⟨w4.heap.size + 1, 3, none⟩ = some (.bool false) := held_cell hB9 hne9
        have t4 : ∀ W, Only r W0 W → W.cell? ⟨w4.heap.size + 1, 4, none⟩ = some (.int .i64 0) := held_cell hB9 hne9
        have HW0 := hid hW0
        clear hB8 hB9 hBel hW0
        go_wp2_with fail
        rw [← HW0.out]
        clear HW0
        refine wp_region_held_drew (S := Only r W0) (by kernel_rfl) (Only.drew (Only.refl _ _)) (fun hS => ?_)
        refine take_step (i := 0) (by simp only [List.getElem?_toArray, List.getElem?_cons_zero]; rfl) (by kernel_rfl) (by kernel_rfl) (by kernel_rfl) (by intro _ _ _ h; exact h) (by rfl) (fun W hW => by go_simp; first | done | with_reducible rfl) hS ?_
        try simp only [Act.put, List.setIfInBounds_toArray, List.set_cons_zero, List.set_cons_succ]
        refine take_step (i := 1) (by simp only [List.getElem?_toArray, List.getElem?_cons_succ, List.getElem?_cons_zero]; rfl) (by kernel_rfl) (by kernel_rfl) (by kernel_rfl) (by intro _ _ _ h; exact h) (by rfl) (fun W hW => by go_simp; first | done | with_reducible rfl) hS ?_
        try simp only [Act.put, List.setIfInBounds_toArray, List.set_cons_zero, List.set_cons_succ]
        refine take_step (i := 2) (by simp only [List.getElem?_toArray, List.getElem?_cons_succ, List.getElem?_cons_zero]; rfl) (by kernel_rfl) (by kernel_rfl) (by kernel_rfl) (by intro _ _ _ h; exact h) (by rfl) (fun W hW => by go_simp; first | done | with_reducible rfl) hS ?_
        try simp only [Act.put, List.setIfInBounds_toArray, List.set_cons_zero, List.set_cons_succ]
        refine take_step (i := 3) (by simp only [List.getElem?_toArray, List.getElem?_cons_succ, List.getElem?_cons_zero]; rfl) (by kernel_rfl) (by kernel_rfl) (by kernel_rfl) (by intro _ _ _ h; exact h) (by rfl) (fun W hW => by go_simp; first | done | with_reducible rfl) hS ?_
        try simp only [Act.put, List.setIfInBounds_toArray, List.set_cons_zero, List.set_cons_succ]
        refine take_step (i := 4) (by simp only [List.getElem?_toArray, List.getElem?_cons_succ, List.getElem?_cons_zero]; rfl) (by kernel_rfl) (by kernel_rfl) (by kernel_rfl) (by intro _ _ _ h; exact h) (by rfl) (fun W hW => by go_simp; first | done | with_reducible rfl) hS ?_
        try simp only [Act.put, List.setIfInBounds_toArray, List.set_cons_zero, List.set_cons_succ]
        refine take_step (i := 6) (by simp only [List.getElem?_toArray, List.getElem?_cons_succ, List.getElem?_cons_zero]; rfl) (by kernel_rfl) (by kernel_rfl) (by kernel_rfl) (by intro _ _ _ h; exact h) (by rfl) (fun W hW => by go_simp; first | done | with_reducible rfl) hS ?_
        try simp only [Act.put, List.setIfInBounds_toArray, List.set_cons_zero, List.set_cons_succ]
        refine wpAnyH_ready (rs := [5]) (by kernel_rfl) (by simp) ?_
        refine AllReadyH.cons (by simp only [List.getElem?_toArray, List.getElem?_cons_succ, List.getElem?_cons_zero]; rfl) (fun K hK => ?_) AllReadyH.nil
        go_simp
        go_fit (HTK.out _ (HRW0.out.step ((Below.refl _ _).drew)))
        rintro e w6 ⟨rfl, hr6, ho6⟩
        have hS5 := Only.trans hS ho6
        refine hK.out _ _ (by assumption) (fun _ => ?_)
        clear hK K hS
        have hS := hS5
        try simp only [Act.put, List.setIfInBounds_toArray, List.set_cons_zero, List.set_cons_succ]
        refine take_step (i := 7) (by simp only [List.getElem?_toArray, List.getElem?_cons_succ, List.getElem?_cons_zero]; rfl) (by kernel_rfl) (by kernel_rfl) (by kernel_rfl) (by intro _ _ _ h; exact h) (by rfl) (fun W hW => by go_simp; first | done | with_reducible rfl) hS ?_
        try simp only [Act.put, List.setIfInBounds_toArray, List.set_cons_zero, List.set_cons_succ]
        refine wpAnyH_done (by kernel_rfl) ?_ _
        have HR6 := hid hr6
        have HB6 := hid (HBW0.out.trans (hS5.below HLR.out HBW0.out.size))
        clear hr6 ho6 hS hS5
        go_wp2_with fail
        go_fit (end_is hen.out HR6.out)
        rintro e w7 ⟨rfl, rfl⟩
        go_wp2_with fail
        go_fit (rest_any r _ _ w6 HR6.out)
        rintro e w8 ⟨A8, m8, c8, rfl, hr8, hb8⟩
        have cv := str_of (c := c8) hr8.at_ hr8.1
        have HR8 := hid (HR6.out.step hb8)
        have HB8 := hid (below_step HB6.out hb8)
        clear hr8 hb8
        go_wp2_with fail
        go_roundw
        case rel => exact ⟨k + 1, l, e0, by omega, by go_num, rfl, rfl, HR8.out, HB8.out, HLL.out⟩
        case measure => simp [intOf]; omega
    · obtain rfl : k = n := by omega
      go_wp2_with fail
      go_fit (rest_any r _ _ wr HRR.out)
      rintro e w8 ⟨A8, m8, c8, rfl, hr8, hb8⟩
      have cv := str_of (c := c8) hr8.at_ hr8.1
      have HB8 := hid (below_step HBR.out hb8)
      clear hr8 hb8
      go_wp2_with fail
      go_ret
      exact ⟨rfl, HB8.out⟩

end Go.Proofs.Ytamieogikmnpcaa
