/-
  BatchFinds: its walk, over what is to be shown of the landed code.
-/
import Derived.Test.YtcdjbacljnofiaaLawBGets
import Derived.Test.YtcdjbacljnofiaaJBytes
namespace Go.Proofs.Ytcdjbacljnofiaa
open Go Go.RowKit

theorem cells_three (w : World) (t : TypeId) (a b c : Value) :
    (w.alloc (.cells #[a, b, c] t)).cell? ⟨w.heap.size, 0, none⟩ = some a ∧ (w.alloc (.cells #[a, b, c] t)).cell? ⟨w.heap.size, 1, none⟩ = some b ∧ (w.alloc (.cells #[a, b, c] t)).cell? ⟨w.heap.size, 2, none⟩ = some c := by
  have hb := heap_alloc_new w (.cells #[a, b, c] t)
  refine ⟨?_, ?_, ?_⟩ <;> rw [cell_of_row _ _ _ _ _ _ hb] <;> rfl
theorem few_len {ws : List Wt} {n : Nat} (h : isFew ws = true) (hn : n = ws.length) : n ≤ 80 := by
  unfold isFew at h
  simp only [Bool.and_eq_true, decide_eq_true_eq] at h
  rw [hn]; exact h.1
theorem find_drop {ws : List Wt} {k : Nat} {x : Wt} {key : List UInt8} (h : ws[k]? = some x) : findW (ws.drop k) key = if x.k == key then some x else findW (ws.drop (k + 1)) key := by
  obtain ⟨hk, hx⟩ := List.getElem?_eq_some_iff.1 h
  rw [List.drop_eq_getElem_cons hk, hx]
  unfold findW
  rw [List.find?_cons]
  cases x.k == key <;> rfl

set_option maxRecDepth 100000 in
set_option maxHeartbeats 8000000 in
theorem bfinds_walk (hF : Face) {A : Option Addr} {cap : Nat} (b : Bt) (key : List UInt8) (w : World) (hA : WAt w w.heap.size A b.ws) (hc : b.ws.length ≤ cap) (hl : b.ws.length ≤ 9223372036854775807) (h3 : b.c < 18446744073709551616 ∧ b.r < 18446744073709551616 ∧ b.s < 18446744073709551616) :
    Calls Try.prog 8 #[b.val A cap, .string (bst key)] w fun e w' => e = .returned (.bool true) ∧ Below w.heap.size w w' := by
  have tk := bst_toList key
  obtain ⟨c, r, s, ws⟩ := b
  unfold Bt.val
  dsimp only at hA hc hl h3 ⊢
  obtain ⟨n, hn⟩ : ∃ n, n = ws.length := ⟨_, rfl⟩
  rw [← hn] at hc hl ⊢
  have HF := hid hF
  have HN := hid hn
  have hb1 : Below w.heap.size w (w.alloc (.cells #[.int .u64 (c : Int), .int .u64 (r : Int), .int .u64 (s : Int), .slice A n cap] 25)) := (Below.refl _ _).alloc (Nat.le_refl _) _
  have HB1 := hid hb1
  have HBX := hid (box_cells w 25 (.int .u64 (c : Int)) (.int .u64 (r : Int)) (.int .u64 (s : Int)) (.slice A n cap))
  have HSZ := hid (show w.heap.size < (w.alloc (.cells #[.int .u64 (c : Int), .int .u64 (r : Int), .int .u64 (s : Int), .slice A n cap] 25)).heap.size by simp)
  have HAT := hid (hA.below hb1)
  have H3 := hid h3
  have HCAP := hid hc
  clear hb1 hA hn hF h3
  cases hfew : isFew ws with
  | false =>
    have HFEW := hid hfew
    go_enter Try.func8, Try.ntmps8
    go_wp2_with fail
    generalize w.alloc (.cells #[.int .u64 (c : Int), .int .u64 (r : Int), .int .u64 (s : Int), .slice A n cap] 25) = w1 at *
    go_fit (few_any c r s HAT.out HN.out HCAP.out (Nat.le_of_lt HSZ.out))
    rw [HFEW.out]
    rintro e w2 ⟨rfl, hb2⟩
    have HB2 := hid (below_step HB1.out hb2)
    have HK2 := hid hb2
    clear hb2
    
    go_wp2_with fail
    go_fit (awake_yes HF.out w2)
    rintro e w3 ⟨rfl, hb3⟩
    go_wp2_with fail
    go_ret
    exact ⟨rfl, below_step HB2.out hb3⟩
  | true =>
    have HFEW := hid hfew
    have hn80 : n ≤ 80 := few_len hfew HN.out
    clear hfew
    cases hfd : findW ws key with
    | none =>
      have HFD := hid hfd
      clear hfd
      go_enter Try.func8, Try.ntmps8
      go_wp2_with fail
      generalize w.alloc (.cells #[.int .u64 (c : Int), .int .u64 (r : Int), .int .u64 (s : Int), .slice A n cap] 25) = w1 at *
      go_fit (few_any c r s HAT.out HN.out HCAP.out (Nat.le_of_lt HSZ.out))
      rw [HFEW.out]
      rintro e w2 ⟨rfl, hb2⟩
      have HB2 := hid (below_step HB1.out hb2)
      have HK2 := hid hb2
      clear hb2
      
      have HB := hid (show BAt w2 w.heap.size A n cap ws from ⟨HAT.out.step (Nat.le_of_lt HSZ.out) HK2.out, HN.out, HCAP.out, HFEW.out, Nat.le_trans (Nat.le_of_lt HSZ.out) HK2.out.size⟩)
      have HL2 := hid (Nat.lt_of_lt_of_le HSZ.out HK2.out.size)
      have k0 := (HK2.out.cell (p := ⟨w.heap.size, 0, none⟩) HSZ.out).trans HBX.out.1
      have k1 := (HK2.out.cell (p := ⟨w.heap.size, 1, none⟩) HSZ.out).trans HBX.out.2.1
      have k2 := (HK2.out.cell (p := ⟨w.heap.size, 2, none⟩) HSZ.out).trans HBX.out.2.2.1
      have k3 := (HK2.out.cell (p := ⟨w.heap.size, 3, none⟩) HSZ.out).trans HBX.out.2.2.2
      
      have HX := hid (show Box w2 w.heap.size c r s A n cap ws from ⟨HL2.out, k0, k1, k2, k3, ⟨HB.out.at_.more HB.out.below, HN.out, HCAP.out, HFEW.out, Nat.le_refl _⟩⟩)
      go_wp2_with fail
      go_fit (HF.out.find key HX.out.at_)
      rw [HFD.out]
      rintro e w3 ⟨rfl, hb3⟩
      unfold findV
      dsimp only
      have hal : Below w3.heap.size w3 (w3.alloc (.cells #[.string (bst []), .string (bst []), .bool false] 43)) := (Below.refl _ _).alloc (Nat.le_refl _) _
      have HX := hid ((HX.out.step hb3).step hal)
      have HB3 := hid (below_step (below_step HB2.out hb3) hal)
      have HK := hid (cells_three w3 43 (.string (bst [])) (.string (bst [])) (.bool false))
      have HS3 := hid (show w3.heap.size < (w3.alloc (.cells #[.string (bst []), .string (bst []), .bool false] 43)).heap.size by simp)
      clear hb3 hal k0 k1 k2 k3
      obtain ⟨_, k0, k1, k2, k3, _⟩ := HX.out
      go_wp2_with fail
      generalize hv3 : w3.alloc (.cells #[.string (bst []), .string (bst []), .bool false] 43) = v3 at *
      clear hv3
      go_loop [7] (fun i => ∃ k : Nat, k ≤ n ∧ i = .int .i64 (k : Int) ∧ findW (ws.drop k) key = none) (fun i => n - (intOf i).toNat)
      case atStart => exact ⟨0, Nat.zero_le _, rfl, HFD.out⟩
      case round =>
        obtain ⟨k, hk, rfl, hd⟩ := hrel
        have HD := hid hd
        clear hd
        by_cases hlt : k < n
        · obtain ⟨b0, off, x, rfl, hb, hx, d0, d1, d2⟩ := HX.out.at_.at_.get (k := k) (by rw [← HN.out]; exact hlt)
          have HDD := hid (HD.out.symm.trans (find_drop hx))
          clear hx d1 d2
          have tx := bst_toList x.k
          obtain ⟨K, hK⟩ : ∃ K, K = bst x.k := ⟨_, rfl⟩
          rw [← hK] at d0 tx
          clear hK
          cases he : x.k == key with
          | true => have := HDD.out; rw [he] at this; cases this
          | false =>
            have HN2 := hid (show findW (ws.drop (k + 1)) key = none by have := HDD.out; rw [he] at this; exact this.symm)
            go_wp2_with fail
            go_round
            case rel => exact ⟨k + 1, by omega, by go_num, HN2.out⟩
            case measure => simp [intOf]; omega
        · have heq : ∀ W, (binOp .eql 43 (.agg #[.string (bst []), .string (bst []), .bool false]) (.agg #[.string ⟨#[]⟩, .string ⟨#[]⟩, .bool false])).run Try.prog W = .ok (.bool true) W := fun W => by
            have := eql_w ⟨[], [], false⟩ ⟨[], [], false⟩ W
            rwa [decide_eq_true rfl] at this
          have tn := bst_toList []
          go_wp2_with fail
          go_fit (awake_yes HF.out _)
          rintro e w5 ⟨rfl, hb5⟩
          have m0 := (hb5.cell (p := ⟨w3.heap.size, 0, none⟩) HS3.out).trans HK.out.1
          have m1 := (hb5.cell (p := ⟨w3.heap.size, 1, none⟩) HS3.out).trans HK.out.2.1
          have m2 := (hb5.cell (p := ⟨w3.heap.size, 2, none⟩) HS3.out).trans HK.out.2.2
          have HB5 := hid (below_step HB3.out hb5)
          clear hb5
          go_wp2_with fail
          go_ret
          exact ⟨rfl, HB5.out⟩
    | some x0 =>
      have HFD := hid hfd
      clear hfd
      go_enter Try.func8, Try.ntmps8
      go_wp2_with fail
      generalize w.alloc (.cells #[.int .u64 (c : Int), .int .u64 (r : Int), .int .u64 (s : Int), .slice A n cap] 25) = w1 at *
      go_fit (few_any c r s HAT.out HN.out HCAP.out (Nat.le_of_lt HSZ.out))
      rw [HFEW.out]
      rintro e w2 ⟨rfl, hb2⟩
      have HB2 := hid (below_step HB1.out hb2)
      have HK2 := hid hb2
      clear hb2
      
      have HB := hid (show BAt w2 w.heap.size A n cap ws from ⟨HAT.out.step (Nat.le_of_lt HSZ.out) HK2.out, HN.out, HCAP.out, HFEW.out, Nat.le_trans (Nat.le_of_lt HSZ.out) HK2.out.size⟩)
      have HL2 := hid (Nat.lt_of_lt_of_le HSZ.out HK2.out.size)
      have k0 := (HK2.out.cell (p := ⟨w.heap.size, 0, none⟩) HSZ.out).trans HBX.out.1
      have k1 := (HK2.out.cell (p := ⟨w.heap.size, 1, none⟩) HSZ.out).trans HBX.out.2.1
      have k2 := (HK2.out.cell (p := ⟨w.heap.size, 2, none⟩) HSZ.out).trans HBX.out.2.2.1
      have k3 := (HK2.out.cell (p := ⟨w.heap.size, 3, none⟩) HSZ.out).trans HBX.out.2.2.2
      
      have HX := hid (show Box w2 w.heap.size c r s A n cap ws from ⟨HL2.out, k0, k1, k2, k3, ⟨HB.out.at_.more HB.out.below, HN.out, HCAP.out, HFEW.out, Nat.le_refl _⟩⟩)
      go_wp2_with fail
      go_fit (HF.out.find key HX.out.at_)
      rw [HFD.out]
      rintro e w3 ⟨rfl, hb3⟩
      unfold findV
      dsimp only
      have hal : Below w3.heap.size w3 (w3.alloc (.cells #[.string (bst x0.k), .string (bst x0.v), .bool x0.g] 43)) := (Below.refl _ _).alloc (Nat.le_refl _) _
      have HX := hid ((HX.out.step hb3).step hal)
      have HB3 := hid (below_step (below_step HB2.out hb3) hal)
      have HK := hid (cells_three w3 43 (.string (bst x0.k)) (.string (bst x0.v)) (.bool x0.g))
      have HS3 := hid (show w3.heap.size < (w3.alloc (.cells #[.string (bst x0.k), .string (bst x0.v), .bool x0.g] 43)).heap.size by simp)
      clear hb3 hal k0 k1 k2 k3
      obtain ⟨_, k0, k1, k2, k3, _⟩ := HX.out
      go_wp2_with fail
      generalize hv3 : w3.alloc (.cells #[.string (bst x0.k), .string (bst x0.v), .bool x0.g] 43) = v3 at *
      clear hv3
      go_loop [7] (fun i => ∃ k : Nat, k ≤ n ∧ i = .int .i64 (k : Int) ∧ findW (ws.drop k) key = some x0) (fun i => n - (intOf i).toNat)
      case atStart => exact ⟨0, Nat.zero_le _, rfl, HFD.out⟩
      case round =>
        obtain ⟨k, hk, rfl, hd⟩ := hrel
        have HD := hid hd
        clear hd
        by_cases hlt : k < n
        · obtain ⟨b0, off, x, rfl, hb, hx, d0, d1, d2⟩ := HX.out.at_.at_.get (k := k) (by rw [← HN.out]; exact hlt)
          have HDD := hid (HD.out.symm.trans (find_drop hx))
          clear hx
          have tx := bst_toList x.k
          cases he : x.k == key with
          | true =>
            obtain rfl : x0 = x := by have := HDD.out; rw [he] at this; injection this
            have heq := eql_w x0 x0
            rw [decide_eq_true rfl] at heq
            have hbl : b0 < v3.heap.size := hb
            have q3 : ∀ W, Beyond v3 W → W.cell? ⟨w.heap.size, 3, none⟩ = some (.slice (some ⟨b0, off, none⟩) n cap) := fun W h => (HX.out.step h).c3
            have m0 : ∀ W, Beyond v3 W → W.cell? ⟨w3.heap.size, 0, none⟩ = some (.string (bst x0.k)) := fun W h => (Below.cell (p := ⟨w3.heap.size, 0, none⟩) h HS3.out).trans HK.out.1
            have m1 : ∀ W, Beyond v3 W → W.cell? ⟨w3.heap.size, 1, none⟩ = some (.string (bst x0.v)) := fun W h => (Below.cell (p := ⟨w3.heap.size, 1, none⟩) h HS3.out).trans HK.out.2.1
            have m2 : ∀ W, Beyond v3 W → W.cell? ⟨w3.heap.size, 2, none⟩ = some (.bool x0.g) := fun W h => (Below.cell (p := ⟨w3.heap.size, 2, none⟩) h HS3.out).trans HK.out.2.2
            have e0 : ∀ W, Beyond v3 W → W.cell? ⟨b0, off + k * 3, none⟩ = some (.string (bst x0.k)) := fun W h => (Below.cell (p := ⟨b0, off + k * 3, none⟩) h hbl).trans d0
            have e1 : ∀ W, Beyond v3 W → W.cell? ⟨b0, off + k * 3 + 1, none⟩ = some (.string (bst x0.v)) := fun W h => (Below.cell (p := ⟨b0, off + k * 3 + 1, none⟩) h hbl).trans d1
            have e2 : ∀ W, Beyond v3 W → W.cell? ⟨b0, off + k * 3 + 2, none⟩ = some (.bool x0.g) := fun W h => (Below.cell (p := ⟨b0, off + k * 3 + 2, none⟩) h hbl).trans d2
            go_wp2_with fail
            refine wp_region_held_drew (S := Beyond v3) (by kernel_rfl) (Beyond.drew _) (fun hS => ?_)
            refine wpAnyH_ready (rs := [0]) (by kernel_rfl) (by simp) ?_
            refine AllReadyH.cons (by simp only [List.getElem?_toArray, List.getElem?_cons_zero]; rfl) (fun K hK => ?_) AllReadyH.nil
            go_simp
            go_fit (awake_yes HF.out _)
            rintro e v0 ⟨rfl, hb0⟩
            have hS0 := Beyond.step hS hb0
            clear hb0
            refine hK.out _ _ (by assumption) (fun _ => ?_)
            clear hK K hS
            have hS := hS0
            try simp only [Act.put, List.setIfInBounds_toArray, List.set_cons_zero, List.set_cons_succ]
            refine take_step (i := 1) (by simp only [List.getElem?_toArray, List.getElem?_cons_succ, List.getElem?_cons_zero]; rfl) (by kernel_rfl) (by kernel_rfl) (by kernel_rfl) (by intro _ _ _ h; exact h) (by rfl) (fun W hW => by go_simp; first | done | with_reducible rfl) hS ?_
            try simp only [Act.put, List.setIfInBounds_toArray, List.set_cons_zero, List.set_cons_succ]
            first | (refine take_step (i := 2) (by simp only [List.getElem?_toArray, List.getElem?_cons_succ, List.getElem?_cons_zero]; rfl) (by kernel_rfl) (by kernel_rfl) (by kernel_rfl) (by intro _ _ _ h; exact h) (by rfl) (fun W hW => by go_simp; first | done | with_reducible rfl) hS ?_) | (refine skip_step (i := 2) (by simp only [List.getElem?_toArray, List.getElem?_cons_succ, List.getElem?_cons_zero]; rfl) (by kernel_rfl) (by kernel_rfl) (by kernel_rfl) (by intro _ _ _ h; exact h) (by rfl) hS ?_)
            try simp only [Act.put, List.setIfInBounds_toArray, List.set_cons_zero, List.set_cons_succ]
            refine take_step (i := 3) (by simp only [List.getElem?_toArray, List.getElem?_cons_succ, List.getElem?_cons_zero]; rfl) (by kernel_rfl) (by kernel_rfl) (by kernel_rfl) (by intro _ _ _ h; exact h) (by rfl) (fun W hW => by go_simp; first | done | with_reducible rfl) hS ?_
            try simp only [Act.put, List.setIfInBounds_toArray, List.set_cons_zero, List.set_cons_succ]
            refine take_step (i := 4) (by simp only [List.getElem?_toArray, List.getElem?_cons_succ, List.getElem?_cons_zero]; rfl) (by kernel_rfl) (by kernel_rfl) (by kernel_rfl) (by intro _ _ _ h; exact h) (by rfl) (fun W hW => by go_simp; first | done | with_reducible rfl) hS ?_
            try simp only [Act.put, List.setIfInBounds_toArray, List.set_cons_zero, List.set_cons_succ]
            first | (refine take_step (i := 5) (by simp only [List.getElem?_toArray, List.getElem?_cons_succ, List.getElem?_cons_zero]; rfl) (by kernel_rfl) (by kernel_rfl) (by kernel_rfl) (by intro _ _ _ h; exact h) (by rfl) (fun W hW => by go_simp; first | done | with_reducible rfl) hS ?_) | (refine skip_step (i := 5) (by simp only [List.getElem?_toArray, List.getElem?_cons_succ, List.getElem?_cons_zero]; rfl) (by kernel_rfl) (by kernel_rfl) (by kernel_rfl) (by intro _ _ _ h; exact h) (by rfl) hS ?_)
            try simp only [Act.put, List.setIfInBounds_toArray, List.set_cons_zero, List.set_cons_succ]
            first | (refine take_step (i := 6) (by simp only [List.getElem?_toArray, List.getElem?_cons_succ, List.getElem?_cons_zero]; rfl) (by kernel_rfl) (by kernel_rfl) (by kernel_rfl) (by intro _ _ _ h; exact h) (by rfl) (fun W hW => by go_simp; first | done | with_reducible rfl) hS ?_) | (refine skip_step (i := 6) (by simp only [List.getElem?_toArray, List.getElem?_cons_succ, List.getElem?_cons_zero]; rfl) (by kernel_rfl) (by kernel_rfl) (by kernel_rfl) (by intro _ _ _ h; exact h) (by rfl) hS ?_)
            try simp only [Act.put, List.setIfInBounds_toArray, List.set_cons_zero, List.set_cons_succ]
            first | (refine take_step (i := 7) (by simp only [List.getElem?_toArray, List.getElem?_cons_succ, List.getElem?_cons_zero]; rfl) (by kernel_rfl) (by kernel_rfl) (by kernel_rfl) (by intro _ _ _ h; exact h) (by rfl) (fun W hW => by go_simp; first | done | with_reducible rfl) hS ?_) | (refine skip_step (i := 7) (by simp only [List.getElem?_toArray, List.getElem?_cons_succ, List.getElem?_cons_zero]; rfl) (by kernel_rfl) (by kernel_rfl) (by kernel_rfl) (by intro _ _ _ h; exact h) (by rfl) hS ?_)
            try simp only [Act.put, List.setIfInBounds_toArray, List.set_cons_zero, List.set_cons_succ]
            first | (refine take_step (i := 8) (by simp only [List.getElem?_toArray, List.getElem?_cons_succ, List.getElem?_cons_zero]; rfl) (by kernel_rfl) (by kernel_rfl) (by kernel_rfl) (by intro _ _ _ h; exact h) (by rfl) (fun W hW => by go_simp; first | done | with_reducible rfl) hS ?_) | (refine skip_step (i := 8) (by simp only [List.getElem?_toArray, List.getElem?_cons_succ, List.getElem?_cons_zero]; rfl) (by kernel_rfl) (by kernel_rfl) (by kernel_rfl) (by intro _ _ _ h; exact h) (by rfl) hS ?_)
            try simp only [Act.put, List.setIfInBounds_toArray, List.set_cons_zero, List.set_cons_succ]
            first | (refine take_step (i := 9) (by simp only [List.getElem?_toArray, List.getElem?_cons_succ, List.getElem?_cons_zero]; rfl) (by kernel_rfl) (by kernel_rfl) (by kernel_rfl) (by intro _ _ _ h; exact h) (by rfl) (fun W hW => by go_simp; first | done | with_reducible rfl) hS ?_) | (refine skip_step (i := 9) (by simp only [List.getElem?_toArray, List.getElem?_cons_succ, List.getElem?_cons_zero]; rfl) (by kernel_rfl) (by kernel_rfl) (by kernel_rfl) (by intro _ _ _ h; exact h) (by rfl) hS ?_)
            try simp only [Act.put, List.setIfInBounds_toArray, List.set_cons_zero, List.set_cons_succ]
            first | (refine take_step (i := 10) (by simp only [List.getElem?_toArray, List.getElem?_cons_succ, List.getElem?_cons_zero]; rfl) (by kernel_rfl) (by kernel_rfl) (by kernel_rfl) (by intro _ _ _ h; exact h) (by rfl) (fun W hW => by go_simp; first | done | with_reducible rfl) hS ?_) | (refine skip_step (i := 10) (by simp only [List.getElem?_toArray, List.getElem?_cons_succ, List.getElem?_cons_zero]; rfl) (by kernel_rfl) (by kernel_rfl) (by kernel_rfl) (by intro _ _ _ h; exact h) (by rfl) hS ?_)
            try simp only [Act.put, List.setIfInBounds_toArray, List.set_cons_zero, List.set_cons_succ]
            first | (refine take_step (i := 11) (by simp only [List.getElem?_toArray, List.getElem?_cons_succ, List.getElem?_cons_zero]; rfl) (by kernel_rfl) (by kernel_rfl) (by kernel_rfl) (by intro _ _ _ h; exact h) (by rfl) (fun W hW => by go_simp; first | done | with_reducible rfl) hS ?_) | (refine skip_step (i := 11) (by simp only [List.getElem?_toArray, List.getElem?_cons_succ, List.getElem?_cons_zero]; rfl) (by kernel_rfl) (by kernel_rfl) (by kernel_rfl) (by intro _ _ _ h; exact h) (by rfl) hS ?_)
            try simp only [Act.put, List.setIfInBounds_toArray, List.set_cons_zero, List.set_cons_succ]
            refine take_step (i := 12) (by simp only [List.getElem?_toArray, List.getElem?_cons_succ, List.getElem?_cons_zero]; rfl) (by kernel_rfl) (by kernel_rfl) (by kernel_rfl) (by intro _ _ _ h; exact h) (by rfl) (fun W hW => by go_simp; first | done | with_reducible rfl) hS ?_
            try simp only [Act.put, List.setIfInBounds_toArray, List.set_cons_zero, List.set_cons_succ]
            refine take_step (i := 13) (by simp only [List.getElem?_toArray, List.getElem?_cons_succ, List.getElem?_cons_zero]; rfl) (by kernel_rfl) (by kernel_rfl) (by kernel_rfl) (by intro _ _ _ h; exact h) (by rfl) (fun W hW => by go_simp; first | done | with_reducible rfl) hS ?_
            try simp only [Act.put, List.setIfInBounds_toArray, List.set_cons_zero, List.set_cons_succ]
            refine wpAnyH_done (by kernel_rfl) ?_ _
            go_wp2_with fail
            go_ret
            exact ⟨rfl, below_step HB3.out hS0⟩
          | false =>
            have HN2 := hid (show findW (ws.drop (k + 1)) key = some x0 by have := HDD.out; rw [he] at this; exact this.symm)
            clear d1 d2
            obtain ⟨K, hK⟩ : ∃ K, K = bst x.k := ⟨_, rfl⟩
            rw [← hK] at d0 tx
            clear hK
            go_wp2_with fail
            go_round
            case rel => exact ⟨k + 1, by omega, by go_num, HN2.out⟩
            case measure => simp [intOf]; omega
        · have := HD.out
          rw [List.drop_of_length_le (by rw [← HN.out]; omega)] at this
          cases this

end Go.Proofs.Ytcdjbacljnofiaa
