/-
  BatchSorts: its walk, over what is to be shown of the landed code.
-/
import Derived.Test.YtcdjbacljnofiaaLawBFinds
import Derived.Deep.QuietTactic
import Derived.BigQuiet
import Derived.Deep.Draws
namespace Go.Proofs.Ytcdjbacljnofiaa
open Go Go.RowKit

theorem find_stb {a b : List Wt} (h : Stb a b) (k : List UInt8) : findW a k = findW b k := by
  unfold findW
  rw [← List.head?_filter, ← List.head?_filter]
  exact congrArg List.head? (h k)
theorem sort_idem (ws : List Wt) : sortW (sortW ws) = sortW ws := (sortW_is (sortW_srt ws) (fun _ => rfl)).symm
theorem sort_len (ws : List Wt) : (sortW ws).length = ws.length := by
  have : ∀ (l acc : List Wt), (l.foldl ins acc).length = acc.length + l.length := by
    intro l
    induction l with
    | nil => intro acc; simp
    | cons x l ih => intro acc; rw [List.foldl_cons, ih, ins_length, List.length_cons]; omega
  have := this ws []
  simpa [sortW] using this
theorem srt_at {ws : List Wt} (h : Srt ws) {i : Nat} {x y : Wt} (hx : ws[i]? = some x) (hy : ws[i + 1]? = some y) : leK x.k y.k = true := by
  obtain ⟨h1, e1⟩ := List.getElem?_eq_some_iff.1 hx
  obtain ⟨h2, e2⟩ := List.getElem?_eq_some_iff.1 hy
  have := List.pairwise_iff_getElem.1 h i (i + 1) h1 h2 (by omega)
  rwa [e1, e2] at this

set_option maxRecDepth 100000 in
set_option maxHeartbeats 8000000 in
theorem bsorts_walk (hF : Face) {A : Option Addr} {cap : Nat} (b : Bt) (key : List UInt8) (w : World) (hA : WAt w w.heap.size A b.ws) (hc : b.ws.length ≤ cap) (hl : b.ws.length ≤ 9223372036854775807) (h3 : b.c < 18446744073709551616 ∧ b.r < 18446744073709551616 ∧ b.s < 18446744073709551616) :
    Calls Try.prog 9 #[b.val A cap, .string (bst key)] w fun e w' => e = .returned (.bool true) ∧ Below w.heap.size w w' := by
  have tk := bst_toList key
  obtain ⟨c, r, s, ws⟩ := b
  unfold Bt.val
  dsimp only at hA hc hl h3 ⊢
  obtain ⟨n, hn⟩ : ∃ n, n = ws.length := ⟨_, rfl⟩
  rw [← hn] at hc hl ⊢
  have HF := hid hF
  have HN := hid hn
  have hb1 : Below w.heap.size w (w.alloc (.cells #[.int .u64 (c : Int), .int .u64 (r : Int), .int .u64 (s : Int), .slice A n cap] 25)) := (Below.refl _ _).alloc (Nat.le_refl _) _
  have HB1 := hid hb1
  have HBX := hid (box_cells w 25 (.int .u64 (c : Int)) (.int .u64 (r : Int)) (.int .u64 (s : Int)) (.slice A n cap))
  have HSZ := hid (show w.heap.size < (w.alloc (.cells #[.int .u64 (c : Int), .int .u64 (r : Int), .int .u64 (s : Int), .slice A n cap] 25)).heap.size by simp)
  have HAT := hid (hA.below hb1)
  have H3 := hid h3
  have HCAP := hid hc
  clear hb1 hA hn hF h3
  cases hfew : isFew ws with
  | false =>
    have HFEW := hid hfew
    go_enter Try.func9, Try.ntmps9
    go_wp2_with fail
    generalize w.alloc (.cells #[.int .u64 (c : Int), .int .u64 (r : Int), .int .u64 (s : Int), .slice A n cap] 25) = w1 at *
    go_fit (few_any c r s HAT.out HN.out HCAP.out (Nat.le_of_lt HSZ.out))
    rw [HFEW.out]
    rintro e w2 ⟨rfl, hb2⟩
    have HB2 := hid (below_step HB1.out hb2)
    have HK2 := hid hb2
    clear hb2
    
    go_wp2_with fail
    go_fit (awake_yes HF.out w2)
    rintro e w3 ⟨rfl, hb3⟩
    go_wp2_with fail
    go_ret
    exact ⟨rfl, below_step HB2.out hb3⟩
  | true =>
    have HFEW := hid hfew
    have hn80 : n ≤ 80 := few_len hfew HN.out
    have HFS := hid (few_sort hfew)
    have HSS := hid (sort_idem ws)
    clear hfew
    go_enter Try.func9, Try.ntmps9
    go_wp2_with fail
    generalize w.alloc (.cells #[.int .u64 (c : Int), .int .u64 (r : Int), .int .u64 (s : Int), .slice A n cap] 25) = w1 at *
    go_fit (few_any c r s HAT.out HN.out HCAP.out (Nat.le_of_lt HSZ.out))
    rw [HFEW.out]
    rintro e w2 ⟨rfl, hb2⟩
    have HB2 := hid (below_step HB1.out hb2)
    have HK2 := hid hb2
    clear hb2
    
    have HB := hid (show BAt w2 w.heap.size A n cap ws from ⟨HAT.out.step (Nat.le_of_lt HSZ.out) HK2.out, HN.out, HCAP.out, HFEW.out, Nat.le_trans (Nat.le_of_lt HSZ.out) HK2.out.size⟩)
    have HL2 := hid (Nat.lt_of_lt_of_le HSZ.out HK2.out.size)
    have k0 := (HK2.out.cell (p := ⟨w.heap.size, 0, none⟩) HSZ.out).trans HBX.out.1
    have k1 := (HK2.out.cell (p := ⟨w.heap.size, 1, none⟩) HSZ.out).trans HBX.out.2.1
    have k2 := (HK2.out.cell (p := ⟨w.heap.size, 2, none⟩) HSZ.out).trans HBX.out.2.2.1
    have k3 := (HK2.out.cell (p := ⟨w.heap.size, 3, none⟩) HSZ.out).trans HBX.out.2.2.2
    have HX := hid (show Box w2 w.heap.size c r s A n cap ws from ⟨HL2.out, k0, k1, k2, k3, ⟨HB.out.at_.more HB.out.below, HN.out, HCAP.out, HFEW.out, Nat.le_refl _⟩⟩)
    go_wp2_with fail
    go_fit (HF.out.sorted (c := (c : Int)) (r := (r : Int)) (s := (s : Int)) HX.out.at_)
    rintro e w3 ⟨A3, n3, cap3, rfl, hr3, hb3⟩
    obtain rfl : n3 = n := by rw [hr3.1, sort_len, HN.out]
    have HY := hid (Box.new (c := (c : Int)) (r := (r : Int)) (s := (s : Int)) (BAt.row hr3 HFS.out))
    have hal : Below w3.heap.size w3 (w3.alloc (.cells #[.int .u64 (c : Int), .int .u64 (r : Int), .int .u64 (s : Int), .slice A3 n3 cap3] 25)) := (Below.refl _ _).alloc (Nat.le_refl _) _
    have HX := hid ((HX.out.step hb3).step hal)
    have HB3 := hid (below_step (below_step HB2.out hb3) hal)
    clear hr3 hb3 hal k0 k1 k2 k3
    obtain ⟨_, k0, k1, k2, k3, _⟩ := HX.out
    obtain ⟨_, m0, m1, m2, m3, _⟩ := HY.out
    have e0 := (int_eq (c : Int)).1
    have e1 := (int_eq (r : Int)).1
    have e2 := (int_eq (s : Int)).1
    have e3 := (int_eq (n3 : Int)).1
    go_wp2_with fail
    generalize hv3 : w3.alloc (.cells #[.int .u64 (c : Int), .int .u64 (r : Int), .int .u64 (s : Int), .slice A3 n3 cap3] 25) = v3 at *
    clear hv3
    go_loopw [6] (fun i wr => ∃ k m : Nat, 1 ≤ k ∧ k ≤ n3 + 1 ∧ i = .int .i64 (k : Int) ∧ wr = v3.drewN m) (fun i _ => n3 + 1 - (intOf i).toNat)
    case atStart => exact ⟨1, 0, Nat.le_refl _, by omega, rfl, rfl⟩
    case round =>
      obtain ⟨k, m, hk1, hk, rfl, rfl⟩ := hrel
      by_cases hlt : k < n3
      · obtain ⟨b0, off, y, rfl, hb, hy, d0, d1, d2⟩ := HY.out.at_.at_.get (k := k) (by rw [← HY.out.at_.len]; exact hlt)
        obtain ⟨b1, off1, x, hA1, hb1, hx, g0, g1, g2⟩ := HY.out.at_.at_.get (k := k - 1) (by rw [← HY.out.at_.len]; omega)
        injection hA1 with hA1
        injection hA1 with hq1 hq2 _
        subst hq1 hq2
        have hle := srt_at (sortW_srt ws) hx (by rw [show k - 1 + 1 = k by omega]; exact hy)
        have hidx : (k : Int) - 1 = ((k - 1 : Nat) : Int) := by omega
        have tx := bst_toList x.k
        have ty := bst_toList y.k
        obtain ⟨K, hK⟩ : ∃ K, K = bst x.k := ⟨_, rfl⟩
        obtain ⟨K2, hK2⟩ : ∃ K, K = bst y.k := ⟨_, rfl⟩
        rw [← hK] at tx g0
        rw [← hK2] at ty d0
        clear hK hK2 hx hy d1 d2 g1 g2
        rcases leK_cases x.k y.k with ⟨j1, j2⟩ | ⟨j1, j3, j2⟩ | ⟨j1, j3, j2⟩
        · clear j2 hle
          go_wp2_with fail
          go_quiet (fail)
          go_wp2_with fail
          go_roundw
          case rel => exact ⟨k + 1, _, by omega, by omega, by go_num, rfl⟩
          case measure => simp [intOf]; omega
        · clear j2 hle
          go_wp2_with fail
          go_quiet (fail)
          go_wp2_with fail
          go_roundw
          case rel => exact ⟨k + 1, _, by omega, by omega, by go_num, rfl⟩
          case measure => simp [intOf]; omega
        · rw [j2] at hle; cases hle
      · have hdr : Below v3.heap.size v3 (v3.drewN m) := below_drewN (Below.refl _ _) _
        have HX := hid (HX.out.step hdr)
        have HY := hid (HY.out.step hdr)
        have HBQ := hid (below_step HB3.out hdr)
        have hko : ¬ k < n3 := hlt
        clear k0 k1 k2 k3 m0 m1 m2 m3 hdr
        obtain ⟨_, k0, k1, k2, k3, _⟩ := HX.out
        obtain ⟨_, m0, m1, m2, m3, _⟩ := HY.out
        cases hfd : findW ws key with
        | none =>
          have HFD := hid hfd
          have HFD' := hid (show findW (sortW ws) key = none by rw [find_stb (sortW_stb ws)]; exact hfd)
          clear hfd
          go_wp2_with fail
          go_fit (HF.out.find key HX.out.at_)
          rw [HFD.out]
          rintro e w5 ⟨rfl, hb5⟩
          unfold findV
          dsimp only
          have hal5 : Below w5.heap.size w5 (w5.alloc (.cells #[.string (bst []), .string (bst []), .bool false] 43)) := (Below.refl _ _).alloc (Nat.le_refl _) _
          have HX5 := hid ((HX.out.step hb5).step hal5)
          have HY5 := hid ((HY.out.step hb5).step hal5)
          have HB5 := hid (below_step (below_step HBQ.out hb5) hal5)
          have HK5 := hid (cells_three w5 43 (.string (bst [])) (.string (bst [])) (.bool false))
          have HZ5 := hid (show w5.heap.size < (w5.alloc (.cells #[.string (bst []), .string (bst []), .bool false] 43)).heap.size by simp)
          clear hb5 hal5
          obtain ⟨_, k0, k1, k2, k3, _⟩ := HX5.out
          obtain ⟨_, m0, m1, m2, m3, _⟩ := HY5.out
          go_wp2_with fail
          generalize hv5 : w5.alloc (.cells #[.string (bst []), .string (bst []), .bool false] 43) = v5 at *
          clear hv5
          go_fit (HF.out.find key HY5.out.at_)
          rw [HFD'.out]
          rintro e w6 ⟨rfl, hb6⟩
          unfold findV
          dsimp only
          have hal6 : Below w6.heap.size w6 (w6.alloc (.cells #[.string (bst []), .string (bst []), .bool false] 43)) := (Below.refl _ _).alloc (Nat.le_refl _) _
          have hb56 := below_step hb6 hal6
          have HX6 := hid (HX5.out.step hb56)
          have HY6 := hid (HY5.out.step hb56)
          have HB6 := hid (below_step HB5.out hb56)
          have HK6 := hid (cells_three w6 43 (.string (bst [])) (.string (bst [])) (.bool false))
          have HZ6 := hid (show w6.heap.size < (w6.alloc (.cells #[.string (bst []), .string (bst []), .bool false] 43)).heap.size by simp)
          have HK5 := hid (And.intro ((hb56.cell (p := ⟨w5.heap.size, 0, none⟩) HZ5.out).trans HK5.out.1) (And.intro ((hb56.cell (p := ⟨w5.heap.size, 1, none⟩) HZ5.out).trans HK5.out.2.1) ((hb56.cell (p := ⟨w5.heap.size, 2, none⟩) HZ5.out).trans HK5.out.2.2)))
          have HZ5 := hid (Nat.lt_of_lt_of_le HZ5.out hb56.size)
          clear hb6 hal6 hb56 k0 k1 k2 k3 m0 m1 m2 m3
          go_wp2_with fail
          generalize hv6 : w6.alloc (.cells #[.string (bst []), .string (bst []), .bool false] 43) = v6 at *
          clear hv6
          have q0 : ∀ W, Beyond v6 W → W.cell? ⟨w3.heap.size, 0, none⟩ = some (.int .u64 c) := fun W h => (HY6.out.step h).c0
          have q1 : ∀ W, Beyond v6 W → W.cell? ⟨w3.heap.size, 1, none⟩ = some (.int .u64 r) := fun W h => (HY6.out.step h).c1
          have q2 : ∀ W, Beyond v6 W → W.cell? ⟨w3.heap.size, 2, none⟩ = some (.int .u64 s) := fun W h => (HY6.out.step h).c2
          have q3 : ∀ W, Beyond v6 W → W.cell? ⟨w3.heap.size, 3, none⟩ = some (.slice A3 n3 cap3) := fun W h => (HY6.out.step h).c3
          have p0 : ∀ W, Beyond v6 W → W.cell? ⟨w5.heap.size, 0, none⟩ = some (.string (bst [])) := fun W h => (Below.cell (p := ⟨w5.heap.size, 0, none⟩) h HZ5.out).trans HK5.out.1
          have p1 : ∀ W, Beyond v6 W → W.cell? ⟨w5.heap.size, 1, none⟩ = some (.string (bst [])) := fun W h => (Below.cell (p := ⟨w5.heap.size, 1, none⟩) h HZ5.out).trans HK5.out.2.1
          have p2 : ∀ W, Beyond v6 W → W.cell? ⟨w5.heap.size, 2, none⟩ = some (.bool false) := fun W h => (Below.cell (p := ⟨w5.heap.size, 2, none⟩) h HZ5.out).trans HK5.out.2.2
          have r0 : ∀ W, Beyond v6 W → W.cell? ⟨w6.heap.size, 0, none⟩ = some (.string (bst [])) := fun W h => (Below.cell (p := ⟨w6.heap.size, 0, none⟩) h HZ6.out).trans HK6.out.1
          have r1 : ∀ W, Beyond v6 W → W.cell? ⟨w6.heap.size, 1, none⟩ = some (.string (bst [])) := fun W h => (Below.cell (p := ⟨w6.heap.size, 1, none⟩) h HZ6.out).trans HK6.out.2.1
          have r2 : ∀ W, Beyond v6 W → W.cell? ⟨w6.heap.size, 2, none⟩ = some (.bool false) := fun W h => (Below.cell (p := ⟨w6.heap.size, 2, none⟩) h HZ6.out).trans HK6.out.2.2
          have heq := eql_w ⟨[], [], false⟩ ⟨[], [], false⟩
          rw [decide_eq_true rfl] at heq
          go_wp2_with fail
          refine wp_region_held_drew (S := Beyond v6) (by kernel_rfl) (Beyond.drew _) (fun hS => ?_)
          refine wpAnyH_ready (rs := [0]) (by kernel_rfl) (by simp) ?_
          refine AllReadyH.cons (by simp only [List.getElem?_toArray, List.getElem?_cons_zero]; rfl) (fun K hK => ?_) AllReadyH.nil
          go_simp
          go_fit (awake_yes HF.out _)
          rintro e v0 ⟨rfl, hb0⟩
          have hS0 := Beyond.step hS hb0
          clear hb0
          refine hK.out _ _ (by assumption) (fun _ => ?_)
          clear hK K hS
          have hS := hS0
          try simp only [Act.put, List.setIfInBounds_toArray, List.set_cons_zero, List.set_cons_succ]
          refine take_step (i := 1) (by simp only [List.getElem?_toArray, List.getElem?_cons_succ, List.getElem?_cons_zero]; rfl) (by kernel_rfl) (by kernel_rfl) (by kernel_rfl) (by intro _ _ _ h; exact h) (by rfl) (fun W hW => by go_simp; first | done | with_reducible rfl) hS ?_
          try simp only [Act.put, List.setIfInBounds_toArray, List.set_cons_zero, List.set_cons_succ]
          first | (refine take_step (i := 2) (by simp only [List.getElem?_toArray, List.getElem?_cons_succ, List.getElem?_cons_zero]; rfl) (by kernel_rfl) (by kernel_rfl) (by kernel_rfl) (by intro _ _ _ h; exact h) (by rfl) (fun W hW => by go_simp; first | done | with_reducible rfl) hS ?_) | (refine skip_step (i := 2) (by simp only [List.getElem?_toArray, List.getElem?_cons_succ, List.getElem?_cons_zero]; rfl) (by kernel_rfl) (by kernel_rfl) (by kernel_rfl) (by intro _ _ _ h; exact h) (by rfl) hS ?_)
          try simp only [Act.put, List.setIfInBounds_toArray, List.set_cons_zero, List.set_cons_succ]
          first | (refine take_step (i := 3) (by simp only [List.getElem?_toArray, List.getElem?_cons_succ, List.getElem?_cons_zero]; rfl) (by kernel_rfl) (by kernel_rfl) (by kernel_rfl) (by intro _ _ _ h; exact h) (by rfl) (fun W hW => by go_simp; first | done | with_reducible rfl) hS ?_) | (refine skip_step (i := 3) (by simp only [List.getElem?_toArray, List.getElem?_cons_succ, List.getElem?_cons_zero]; rfl) (by kernel_rfl) (by kernel_rfl) (by kernel_rfl) (by intro _ _ _ h; exact h) (by rfl) hS ?_)
          try simp only [Act.put, List.setIfInBounds_toArray, List.set_cons_zero, List.set_cons_succ]
          first | (refine take_step (i := 4) (by simp only [List.getElem?_toArray, List.getElem?_cons_succ, List.getElem?_cons_zero]; rfl) (by kernel_rfl) (by kernel_rfl) (by kernel_rfl) (by intro _ _ _ h; exact h) (by rfl) (fun W hW => by go_simp; first | done | with_reducible rfl) hS ?_) | (refine skip_step (i := 4) (by simp only [List.getElem?_toArray, List.getElem?_cons_succ, List.getElem?_cons_zero]; rfl) (by kernel_rfl) (by kernel_rfl) (by kernel_rfl) (by intro _ _ _ h; exact h) (by rfl) hS ?_)
          try simp only [Act.put, List.setIfInBounds_toArray, List.set_cons_zero, List.set_cons_succ]
          refine take_step (i := 5) (by simp only [List.getElem?_toArray, List.getElem?_cons_succ, List.getElem?_cons_zero]; rfl) (by kernel_rfl) (by kernel_rfl) (by kernel_rfl) (by intro _ _ _ h; exact h) (by rfl) (fun W hW => by go_simp; first | done | with_reducible rfl) hS ?_
          try simp only [Act.put, List.setIfInBounds_toArray, List.set_cons_zero, List.set_cons_succ]
          refine take_step (i := 6) (by simp only [List.getElem?_toArray, List.getElem?_cons_succ, List.getElem?_cons_zero]; rfl) (by kernel_rfl) (by kernel_rfl) (by kernel_rfl) (by intro _ _ _ h; exact h) (by rfl) (fun W hW => by go_simp; first | done | with_reducible rfl) hS ?_
          try simp only [Act.put, List.setIfInBounds_toArray, List.set_cons_zero, List.set_cons_succ]
          first | (refine take_step (i := 7) (by simp only [List.getElem?_toArray, List.getElem?_cons_succ, List.getElem?_cons_zero]; rfl) (by kernel_rfl) (by kernel_rfl) (by kernel_rfl) (by intro _ _ _ h; exact h) (by rfl) (fun W hW => by go_simp; first | done | with_reducible rfl) hS ?_) | (refine skip_step (i := 7) (by simp only [List.getElem?_toArray, List.getElem?_cons_succ, List.getElem?_cons_zero]; rfl) (by kernel_rfl) (by kernel_rfl) (by kernel_rfl) (by intro _ _ _ h; exact h) (by rfl) hS ?_)
          try simp only [Act.put, List.setIfInBounds_toArray, List.set_cons_zero, List.set_cons_succ]
          first | (refine take_step (i := 8) (by simp only [List.getElem?_toArray, List.getElem?_cons_succ, List.getElem?_cons_zero]; rfl) (by kernel_rfl) (by kernel_rfl) (by kernel_rfl) (by intro _ _ _ h; exact h) (by rfl) (fun W hW => by go_simp; first | done | with_reducible rfl) hS ?_) | (refine skip_step (i := 8) (by simp only [List.getElem?_toArray, List.getElem?_cons_succ, List.getElem?_cons_zero]; rfl) (by kernel_rfl) (by kernel_rfl) (by kernel_rfl) (by intro _ _ _ h; exact h) (by rfl) hS ?_)
          try simp only [Act.put, List.setIfInBounds_toArray, List.set_cons_zero, List.set_cons_succ]
          first | (refine take_step (i := 9) (by simp only [List.getElem?_toArray, List.getElem?_cons_succ, List.getElem?_cons_zero]; rfl) (by kernel_rfl) (by kernel_rfl) (by kernel_rfl) (by intro _ _ _ h; exact h) (by rfl) (fun W hW => by go_simp; first | done | with_reducible rfl) hS ?_) | (refine skip_step (i := 9) (by simp only [List.getElem?_toArray, List.getElem?_cons_succ, List.getElem?_cons_zero]; rfl) (by kernel_rfl) (by kernel_rfl) (by kernel_rfl) (by intro _ _ _ h; exact h) (by rfl) hS ?_)
          try simp only [Act.put, List.setIfInBounds_toArray, List.set_cons_zero, List.set_cons_succ]
          refine take_step (i := 10) (by simp only [List.getElem?_toArray, List.getElem?_cons_succ, List.getElem?_cons_zero]; rfl) (by kernel_rfl) (by kernel_rfl) (by kernel_rfl) (by intro _ _ _ h; exact h) (by rfl) (fun W hW => by go_simp; first | done | with_reducible rfl) hS ?_
          try simp only [Act.put, List.setIfInBounds_toArray, List.set_cons_zero, List.set_cons_succ]
          refine take_step (i := 11) (by simp only [List.getElem?_toArray, List.getElem?_cons_succ, List.getElem?_cons_zero]; rfl) (by kernel_rfl) (by kernel_rfl) (by kernel_rfl) (by intro _ _ _ h; exact h) (by rfl) (fun W hW => by go_simp; first | done | with_reducible rfl) hS ?_
          try simp only [Act.put, List.setIfInBounds_toArray, List.set_cons_zero, List.set_cons_succ]
          first | (refine take_step (i := 12) (by simp only [List.getElem?_toArray, List.getElem?_cons_succ, List.getElem?_cons_zero]; rfl) (by kernel_rfl) (by kernel_rfl) (by kernel_rfl) (by intro _ _ _ h; exact h) (by rfl) (fun W hW => by go_simp; first | done | with_reducible rfl) hS ?_) | (refine skip_step (i := 12) (by simp only [List.getElem?_toArray, List.getElem?_cons_succ, List.getElem?_cons_zero]; rfl) (by kernel_rfl) (by kernel_rfl) (by kernel_rfl) (by intro _ _ _ h; exact h) (by rfl) hS ?_)
          try simp only [Act.put, List.setIfInBounds_toArray, List.set_cons_zero, List.set_cons_succ]
          first | (refine take_step (i := 14) (by simp only [List.getElem?_toArray, List.getElem?_cons_succ, List.getElem?_cons_zero]; rfl) (by kernel_rfl) (by kernel_rfl) (by kernel_rfl) (by intro _ _ _ h; exact h) (by rfl) (fun W hW => by go_simp; first | done | with_reducible rfl) hS ?_) | (refine skip_step (i := 14) (by simp only [List.getElem?_toArray, List.getElem?_cons_succ, List.getElem?_cons_zero]; rfl) (by kernel_rfl) (by kernel_rfl) (by kernel_rfl) (by intro _ _ _ h; exact h) (by rfl) hS ?_)
          try simp only [Act.put, List.setIfInBounds_toArray, List.set_cons_zero, List.set_cons_succ]
          refine wpAnyH_ready (rs := [13]) (by kernel_rfl) (by simp) ?_
          refine AllReadyH.cons (by simp only [List.getElem?_toArray, List.getElem?_cons_succ, List.getElem?_cons_zero]; rfl) (fun K hK => ?_) AllReadyH.nil
          go_simp
          go_fit (HF.out.sorted (HY6.out.step hS).at_)
          rintro e v13 ⟨A9, n9, cap9, rfl, hr9, hb13⟩
          have hS13 := Beyond.step hS hb13
          rw [HSS.out] at hr9
          have HR9 := hid (BAt.row hr9 HFS.out)
          clear hr9 hb13
          refine hK.out _ _ (by assumption) (fun _ => ?_)
          clear hK K hS
          have hS := hS13
          try simp only [Act.put, List.setIfInBounds_toArray, List.set_cons_zero, List.set_cons_succ]
          refine wpAnyH_ready (rs := [15]) (by kernel_rfl) (by simp) ?_
          refine AllReadyH.cons (by simp only [List.getElem?_toArray, List.getElem?_cons_succ, List.getElem?_cons_zero]; rfl) (fun K hK => ?_) AllReadyH.nil
          go_simp
          go_fit (rSame_yes HR9.out (HY6.out.step hS).at_)
          rintro e v15 ⟨rfl, hb15⟩
          have hS15 := Beyond.step hS hb15
          clear hb15
          refine hK.out _ _ (by assumption) (fun _ => ?_)
          clear hK K hS
          have hS := hS15
          try simp only [Act.put, List.setIfInBounds_toArray, List.set_cons_zero, List.set_cons_succ]
          refine take_step (i := 16) (by simp only [List.getElem?_toArray, List.getElem?_cons_succ, List.getElem?_cons_zero]; rfl) (by kernel_rfl) (by kernel_rfl) (by kernel_rfl) (by intro _ _ _ h; exact h) (by rfl) (fun W hW => by go_simp; first | done | with_reducible rfl) hS ?_
          try simp only [Act.put, List.setIfInBounds_toArray, List.set_cons_zero, List.set_cons_succ]
          refine take_step (i := 17) (by simp only [List.getElem?_toArray, List.getElem?_cons_succ, List.getElem?_cons_zero]; rfl) (by kernel_rfl) (by kernel_rfl) (by kernel_rfl) (by intro _ _ _ h; exact h) (by rfl) (fun W hW => by go_simp; first | done | with_reducible rfl) hS ?_
          try simp only [Act.put, List.setIfInBounds_toArray, List.set_cons_zero, List.set_cons_succ]
          refine wpAnyH_done (by kernel_rfl) ?_ _
          go_wp2_with fail
          go_ret
          exact ⟨rfl, below_step HB6.out hS15⟩
        | some x0 =>
          have HFD := hid hfd
          have HFD' := hid (show findW (sortW ws) key = some x0 by rw [find_stb (sortW_stb ws)]; exact hfd)
          clear hfd
          go_wp2_with fail
          go_fit (HF.out.find key HX.out.at_)
          rw [HFD.out]
          rintro e w5 ⟨rfl, hb5⟩
          unfold findV
          dsimp only
          have hal5 : Below w5.heap.size w5 (w5.alloc (.cells #[.string (bst x0.k), .string (bst x0.v), .bool x0.g] 43)) := (Below.refl _ _).alloc (Nat.le_refl _) _
          have HX5 := hid ((HX.out.step hb5).step hal5)
          have HY5 := hid ((HY.out.step hb5).step hal5)
          have HB5 := hid (below_step (below_step HBQ.out hb5) hal5)
          have HK5 := hid (cells_three w5 43 (.string (bst x0.k)) (.string (bst x0.v)) (.bool x0.g))
          have HZ5 := hid (show w5.heap.size < (w5.alloc (.cells #[.string (bst x0.k), .string (bst x0.v), .bool x0.g] 43)).heap.size by simp)
          clear hb5 hal5
          obtain ⟨_, k0, k1, k2, k3, _⟩ := HX5.out
          obtain ⟨_, m0, m1, m2, m3, _⟩ := HY5.out
          go_wp2_with fail
          generalize hv5 : w5.alloc (.cells #[.string (bst x0.k), .string (bst x0.v), .bool x0.g] 43) = v5 at *
          clear hv5
          go_fit (HF.out.find key HY5.out.at_)
          rw [HFD'.out]
          rintro e w6 ⟨rfl, hb6⟩
          unfold findV
          dsimp only
          have hal6 : Below w6.heap.size w6 (w6.alloc (.cells #[.string (bst x0.k), .string (bst x0.v), .bool x0.g] 43)) := (Below.refl _ _).alloc (Nat.le_refl _) _
          have hb56 := below_step hb6 hal6
          have HX6 := hid (HX5.out.step hb56)
          have HY6 := hid (HY5.out.step hb56)
          have HB6 := hid (below_step HB5.out hb56)
          have HK6 := hid (cells_three w6 43 (.string (bst x0.k)) (.string (bst x0.v)) (.bool x0.g))
          have HZ6 := hid (show w6.heap.size < (w6.alloc (.cells #[.string (bst x0.k), .string (bst x0.v), .bool x0.g] 43)).heap.size by simp)
          have HK5 := hid (And.intro ((hb56.cell (p := ⟨w5.heap.size, 0, none⟩) HZ5.out).trans HK5.out.1) (And.intro ((hb56.cell (p := ⟨w5.heap.size, 1, none⟩) HZ5.out).trans HK5.out.2.1) ((hb56.cell (p := ⟨w5.heap.size, 2, none⟩) HZ5.out).trans HK5.out.2.2)))
          have HZ5 := hid (Nat.lt_of_lt_of_le HZ5.out hb56.size)
          clear hb6 hal6 hb56 k0 k1 k2 k3 m0 m1 m2 m3
          go_wp2_with fail
          generalize hv6 : w6.alloc (.cells #[.string (bst x0.k), .string (bst x0.v), .bool x0.g] 43) = v6 at *
          clear hv6
          have q0 : ∀ W, Beyond v6 W → W.cell? ⟨w3.heap.size, 0, none⟩ = some (.int .u64 c) := fun W h => (HY6.out.step h).c0
          have q1 : ∀ W, Beyond v6 W → W.cell? ⟨w3.heap.size, 1, none⟩ = some (.int .u64 r) := fun W h => (HY6.out.step h).c1
          have q2 : ∀ W, Beyond v6 W → W.cell? ⟨w3.heap.size, 2, none⟩ = some (.int .u64 s) := fun W h => (HY6.out.step h).c2
          have q3 : ∀ W, Beyond v6 W → W.cell? ⟨w3.heap.size, 3, none⟩ = some (.slice A3 n3 cap3) := fun W h => (HY6.out.step h).c3
          have p0 : ∀ W, Beyond v6 W → W.cell? ⟨w5.heap.size, 0, none⟩ = some (.string (bst x0.k)) := fun W h => (Below.cell (p := ⟨w5.heap.size, 0, none⟩) h HZ5.out).trans HK5.out.1
          have p1 : ∀ W, Beyond v6 W → W.cell? ⟨w5.heap.size, 1, none⟩ = some (.string (bst x0.v)) := fun W h => (Below.cell (p := ⟨w5.heap.size, 1, none⟩) h HZ5.out).trans HK5.out.2.1
          have p2 : ∀ W, Beyond v6 W → W.cell? ⟨w5.heap.size, 2, none⟩ = some (.bool x0.g) := fun W h => (Below.cell (p := ⟨w5.heap.size, 2, none⟩) h HZ5.out).trans HK5.out.2.2
          have r0 : ∀ W, Beyond v6 W → W.cell? ⟨w6.heap.size, 0, none⟩ = some (.string (bst x0.k)) := fun W h => (Below.cell (p := ⟨w6.heap.size, 0, none⟩) h HZ6.out).trans HK6.out.1
          have r1 : ∀ W, Beyond v6 W → W.cell? ⟨w6.heap.size, 1, none⟩ = some (.string (bst x0.v)) := fun W h => (Below.cell (p := ⟨w6.heap.size, 1, none⟩) h HZ6.out).trans HK6.out.2.1
          have r2 : ∀ W, Beyond v6 W → W.cell? ⟨w6.heap.size, 2, none⟩ = some (.bool x0.g) := fun W h => (Below.cell (p := ⟨w6.heap.size, 2, none⟩) h HZ6.out).trans HK6.out.2.2
          have heq := eql_w x0 x0
          rw [decide_eq_true rfl] at heq
          go_wp2_with fail
          refine wp_region_held_drew (S := Beyond v6) (by kernel_rfl) (Beyond.drew _) (fun hS => ?_)
          refine wpAnyH_ready (rs := [0]) (by kernel_rfl) (by simp) ?_
          refine AllReadyH.cons (by simp only [List.getElem?_toArray, List.getElem?_cons_zero]; rfl) (fun K hK => ?_) AllReadyH.nil
          go_simp
          go_fit (awake_yes HF.out _)
          rintro e v0 ⟨rfl, hb0⟩
          have hS0 := Beyond.step hS hb0
          clear hb0
          refine hK.out _ _ (by assumption) (fun _ => ?_)
          clear hK K hS
          have hS := hS0
          try simp only [Act.put, List.setIfInBounds_toArray, List.set_cons_zero, List.set_cons_succ]
          refine take_step (i := 1) (by simp only [List.getElem?_toArray, List.getElem?_cons_succ, List.getElem?_cons_zero]; rfl) (by kernel_rfl) (by kernel_rfl) (by kernel_rfl) (by intro _ _ _ h; exact h) (by rfl) (fun W hW => by go_simp; first | done | with_reducible rfl) hS ?_
          try simp only [Act.put, List.setIfInBounds_toArray, List.set_cons_zero, List.set_cons_succ]
          first | (refine take_step (i := 2) (by simp only [List.getElem?_toArray, List.getElem?_cons_succ, List.getElem?_cons_zero]; rfl) (by kernel_rfl) (by kernel_rfl) (by kernel_rfl) (by intro _ _ _ h; exact h) (by rfl) (fun W hW => by go_simp; first | done | with_reducible rfl) hS ?_) | (refine skip_step (i := 2) (by simp only [List.getElem?_toArray, List.getElem?_cons_succ, List.getElem?_cons_zero]; rfl) (by kernel_rfl) (by kernel_rfl) (by kernel_rfl) (by intro _ _ _ h; exact h) (by rfl) hS ?_)
          try simp only [Act.put, List.setIfInBounds_toArray, List.set_cons_zero, List.set_cons_succ]
          first | (refine take_step (i := 3) (by simp only [List.getElem?_toArray, List.getElem?_cons_succ, List.getElem?_cons_zero]; rfl) (by kernel_rfl) (by kernel_rfl) (by kernel_rfl) (by intro _ _ _ h; exact h) (by rfl) (fun W hW => by go_simp; first | done | with_reducible rfl) hS ?_) | (refine skip_step (i := 3) (by simp only [List.getElem?_toArray, List.getElem?_cons_succ, List.getElem?_cons_zero]; rfl) (by kernel_rfl) (by kernel_rfl) (by kernel_rfl) (by intro _ _ _ h; exact h) (by rfl) hS ?_)
          try simp only [Act.put, List.setIfInBounds_toArray, List.set_cons_zero, List.set_cons_succ]
          first | (refine take_step (i := 4) (by simp only [List.getElem?_toArray, List.getElem?_cons_succ, List.getElem?_cons_zero]; rfl) (by kernel_rfl) (by kernel_rfl) (by kernel_rfl) (by intro _ _ _ h; exact h) (by rfl) (fun W hW => by go_simp; first | done | with_reducible rfl) hS ?_) | (refine skip_step (i := 4) (by simp only [List.getElem?_toArray, List.getElem?_cons_succ, List.getElem?_cons_zero]; rfl) (by kernel_rfl) (by kernel_rfl) (by kernel_rfl) (by intro _ _ _ h; exact h) (by rfl) hS ?_)
          try simp only [Act.put, List.setIfInBounds_toArray, List.set_cons_zero, List.set_cons_succ]
          refine take_step (i := 5) (by simp only [List.getElem?_toArray, List.getElem?_cons_succ, List.getElem?_cons_zero]; rfl) (by kernel_rfl) (by kernel_rfl) (by kernel_rfl) (by intro _ _ _ h; exact h) (by rfl) (fun W hW => by go_simp; first | done | with_reducible rfl) hS ?_
          try simp only [Act.put, List.setIfInBounds_toArray, List.set_cons_zero, List.set_cons_succ]
          refine take_step (i := 6) (by simp only [List.getElem?_toArray, List.getElem?_cons_succ, List.getElem?_cons_zero]; rfl) (by kernel_rfl) (by kernel_rfl) (by kernel_rfl) (by intro _ _ _ h; exact h) (by rfl) (fun W hW => by go_simp; first | done | with_reducible rfl) hS ?_
          try simp only [Act.put, List.setIfInBounds_toArray, List.set_cons_zero, List.set_cons_succ]
          first | (refine take_step (i := 7) (by simp only [List.getElem?_toArray, List.getElem?_cons_succ, List.getElem?_cons_zero]; rfl) (by kernel_rfl) (by kernel_rfl) (by kernel_rfl) (by intro _ _ _ h; exact h) (by rfl) (fun W hW => by go_simp; first | done | with_reducible rfl) hS ?_) | (refine skip_step (i := 7) (by simp only [List.getElem?_toArray, List.getElem?_cons_succ, List.getElem?_cons_zero]; rfl) (by kernel_rfl) (by kernel_rfl) (by kernel_rfl) (by intro _ _ _ h; exact h) (by rfl) hS ?_)
          try simp only [Act.put, List.setIfInBounds_toArray, List.set_cons_zero, List.set_cons_succ]
          first | (refine take_step (i := 8) (by simp only [List.getElem?_toArray, List.getElem?_cons_succ, List.getElem?_cons_zero]; rfl) (by kernel_rfl) (by kernel_rfl) (by kernel_rfl) (by intro _ _ _ h; exact h) (by rfl) (fun W hW => by go_simp; first | done | with_reducible rfl) hS ?_) | (refine skip_step (i := 8) (by simp only [List.getElem?_toArray, List.getElem?_cons_succ, List.getElem?_cons_zero]; rfl) (by kernel_rfl) (by kernel_rfl) (by kernel_rfl) (by intro _ _ _ h; exact h) (by rfl) hS ?_)
          try simp only [Act.put, List.setIfInBounds_toArray, List.set_cons_zero, List.set_cons_succ]
          first | (refine take_step (i := 9) (by simp only [List.getElem?_toArray, List.getElem?_cons_succ, List.getElem?_cons_zero]; rfl) (by kernel_rfl) (by kernel_rfl) (by kernel_rfl) (by intro _ _ _ h; exact h) (by rfl) (fun W hW => by go_simp; first | done | with_reducible rfl) hS ?_) | (refine skip_step (i := 9) (by simp only [List.getElem?_toArray, List.getElem?_cons_succ, List.getElem?_cons_zero]; rfl) (by kernel_rfl) (by kernel_rfl) (by kernel_rfl) (by intro _ _ _ h; exact h) (by rfl) hS ?_)
          try simp only [Act.put, List.setIfInBounds_toArray, List.set_cons_zero, List.set_cons_succ]
          refine take_step (i := 10) (by simp only [List.getElem?_toArray, List.getElem?_cons_succ, List.getElem?_cons_zero]; rfl) (by kernel_rfl) (by kernel_rfl) (by kernel_rfl) (by intro _ _ _ h; exact h) (by rfl) (fun W hW => by go_simp; first | done | with_reducible rfl) hS ?_
          try simp only [Act.put, List.setIfInBounds_toArray, List.set_cons_zero, List.set_cons_succ]
          refine take_step (i := 11) (by simp only [List.getElem?_toArray, List.getElem?_cons_succ, List.getElem?_cons_zero]; rfl) (by kernel_rfl) (by kernel_rfl) (by kernel_rfl) (by intro _ _ _ h; exact h) (by rfl) (fun W hW => by go_simp; first | done | with_reducible rfl) hS ?_
          try simp only [Act.put, List.setIfInBounds_toArray, List.set_cons_zero, List.set_cons_succ]
          first | (refine take_step (i := 12) (by simp only [List.getElem?_toArray, List.getElem?_cons_succ, List.getElem?_cons_zero]; rfl) (by kernel_rfl) (by kernel_rfl) (by kernel_rfl) (by intro _ _ _ h; exact h) (by rfl) (fun W hW => by go_simp; first | done | with_reducible rfl) hS ?_) | (refine skip_step (i := 12) (by simp only [List.getElem?_toArray, List.getElem?_cons_succ, List.getElem?_cons_zero]; rfl) (by kernel_rfl) (by kernel_rfl) (by kernel_rfl) (by intro _ _ _ h; exact h) (by rfl) hS ?_)
          try simp only [Act.put, List.setIfInBounds_toArray, List.set_cons_zero, List.set_cons_succ]
          first | (refine take_step (i := 14) (by simp only [List.getElem?_toArray, List.getElem?_cons_succ, List.getElem?_cons_zero]; rfl) (by kernel_rfl) (by kernel_rfl) (by kernel_rfl) (by intro _ _ _ h; exact h) (by rfl) (fun W hW => by go_simp; first | done | with_reducible rfl) hS ?_) | (refine skip_step (i := 14) (by simp only [List.getElem?_toArray, List.getElem?_cons_succ, List.getElem?_cons_zero]; rfl) (by kernel_rfl) (by kernel_rfl) (by kernel_rfl) (by intro _ _ _ h; exact h) (by rfl) hS ?_)
          try simp only [Act.put, List.setIfInBounds_toArray, List.set_cons_zero, List.set_cons_succ]
          refine wpAnyH_ready (rs := [13]) (by kernel_rfl) (by simp) ?_
          refine AllReadyH.cons (by simp only [List.getElem?_toArray, List.getElem?_cons_succ, List.getElem?_cons_zero]; rfl) (fun K hK => ?_) AllReadyH.nil
          go_simp
          go_fit (HF.out.sorted (HY6.out.step hS).at_)
          rintro e v13 ⟨A9, n9, cap9, rfl, hr9, hb13⟩
          have hS13 := Beyond.step hS hb13
          rw [HSS.out] at hr9
          have HR9 := hid (BAt.row hr9 HFS.out)
          clear hr9 hb13
          refine hK.out _ _ (by assumption) (fun _ => ?_)
          clear hK K hS
          have hS := hS13
          try simp only [Act.put, List.setIfInBounds_toArray, List.set_cons_zero, List.set_cons_succ]
          refine wpAnyH_ready (rs := [15]) (by kernel_rfl) (by simp) ?_
          refine AllReadyH.cons (by simp only [List.getElem?_toArray, List.getElem?_cons_succ, List.getElem?_cons_zero]; rfl) (fun K hK => ?_) AllReadyH.nil
          go_simp
          go_fit (rSame_yes HR9.out (HY6.out.step hS).at_)
          rintro e v15 ⟨rfl, hb15⟩
          have hS15 := Beyond.step hS hb15
          clear hb15
          refine hK.out _ _ (by assumption) (fun _ => ?_)
          clear hK K hS
          have hS := hS15
          try simp only [Act.put, List.setIfInBounds_toArray, List.set_cons_zero, List.set_cons_succ]
          refine take_step (i := 16) (by simp only [List.getElem?_toArray, List.getElem?_cons_succ, List.getElem?_cons_zero]; rfl) (by kernel_rfl) (by kernel_rfl) (by kernel_rfl) (by intro _ _ _ h; exact h) (by rfl) (fun W hW => by go_simp; first | done | with_reducible rfl) hS ?_
          try simp only [Act.put, List.setIfInBounds_toArray, List.set_cons_zero, List.set_cons_succ]
          refine take_step (i := 17) (by simp only [List.getElem?_toArray, List.getElem?_cons_succ, List.getElem?_cons_zero]; rfl) (by kernel_rfl) (by kernel_rfl) (by kernel_rfl) (by intro _ _ _ h; exact h) (by rfl) (fun W hW => by go_simp; first | done | with_reducible rfl) hS ?_
          try simp only [Act.put, List.setIfInBounds_toArray, List.set_cons_zero, List.set_cons_succ]
          refine wpAnyH_done (by kernel_rfl) ?_ _
          go_wp2_with fail
          go_ret
          exact ⟨rfl, below_step HB6.out hS15⟩

end Go.Proofs.Ytcdjbacljnofiaa
