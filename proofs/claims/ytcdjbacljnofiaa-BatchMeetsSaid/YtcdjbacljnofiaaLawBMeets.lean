/-
  BatchMeets: its walk, over what is to be shown of the landed code.
-/
import Derived.Test.YtcdjbacljnofiaaLawBGets
import Derived.Test.YtcdjbacljnofiaaJBytes
namespace Go.Proofs.Ytcdjbacljnofiaa
open Go Go.RowKit

theorem meets_symm (a b : List Wt) : meets a b = meets b a := by
  rw [Bool.eq_iff_iff]
  simp only [meets, List.any_eq_true]
  constructor
  · rintro ⟨x, hx, y, hy, h⟩
    exact ⟨y, hy, x, hx, by rw [eq_of_beq h]; simp⟩
  · rintro ⟨x, hx, y, hy, h⟩
    exact ⟨y, hy, x, hx, by rw [eq_of_beq h]; simp⟩
theorem box_four (w : World) (t : TypeId) (a b c d a' b' c' d' : Value) :
    (∀ i, i < 4 → ((w.alloc (.cells #[a, b, c, d] t)).alloc (.cells #[a', b', c', d'] t)).cell? ⟨w.heap.size, i, none⟩ = #[a, b, c, d][i]?) ∧ (∀ i, i < 4 → ((w.alloc (.cells #[a, b, c, d] t)).alloc (.cells #[a', b', c', d'] t)).cell? ⟨w.heap.size + 1, i, none⟩ = #[a', b', c', d'][i]?) := by
  constructor
  · intro i _
    rw [World.cell?_alloc_lt _ _ _ (by simp), cell_of_row _ _ _ _ _ _ (heap_alloc_new w _)]
  · intro i _
    have s1 : (w.alloc (.cells #[a, b, c, d] t)).heap.size = w.heap.size + 1 := by simp
    rw [← s1, cell_of_row _ _ _ _ _ _ (heap_alloc_new _ _)]

set_option maxHeartbeats 8000000 in
theorem bmeets_walk (hF : Face) {A A' : Option Addr} {cap cap' : Nat} (b b' : Bt) (w : World) (hA : WAt w w.heap.size A b.ws) (hc : b.ws.length ≤ cap) (hl : b.ws.length ≤ 9223372036854775807)
    (hA' : WAt w w.heap.size A' b'.ws) (hc' : b'.ws.length ≤ cap') (hl' : b'.ws.length ≤ 9223372036854775807) :
    Calls Try.prog 7 #[b.val A cap, b'.val A' cap'] w fun e w' => e = .returned (.bool true) ∧ Below w.heap.size w w' := by
  obtain ⟨c, r, s, ws⟩ := b
  obtain ⟨c', r', s', ws'⟩ := b'
  unfold Bt.val
  dsimp only at hA hc hl hA' hc' hl' ⊢
  obtain ⟨n, hn⟩ : ∃ n, n = ws.length := ⟨_, rfl⟩
  obtain ⟨n', hn'⟩ : ∃ n, n = ws'.length := ⟨_, rfl⟩
  rw [← hn] at hc hl ⊢
  rw [← hn'] at hc' hl' ⊢
  have HF := hid hF
  have HN := hid hn
  have HN' := hid hn'
  have hal1 : Below w.heap.size w (w.alloc (.cells #[.int .u64 (c : Int), .int .u64 (r : Int), .int .u64 (s : Int), .slice A n cap] 25)) := (Below.refl _ _).alloc (Nat.le_refl _) _
  have hal2 : Below (w.alloc (.cells #[.int .u64 (c : Int), .int .u64 (r : Int), .int .u64 (s : Int), .slice A n cap] 25)).heap.size (w.alloc (.cells #[.int .u64 (c : Int), .int .u64 (r : Int), .int .u64 (s : Int), .slice A n cap] 25)) ((w.alloc (.cells #[.int .u64 (c : Int), .int .u64 (r : Int), .int .u64 (s : Int), .slice A n cap] 25)).alloc (.cells #[.int .u64 (c' : Int), .int .u64 (r' : Int), .int .u64 (s' : Int), .slice A' n' cap'] 25)) := (Below.refl _ _).alloc (Nat.le_refl _) _
  have s1 : (w.alloc (.cells #[.int .u64 (c : Int), .int .u64 (r : Int), .int .u64 (s : Int), .slice A n cap] 25)).heap.size = w.heap.size + 1 := by simp
  have HQ := hid (box_four w 25 (.int .u64 (c : Int)) (.int .u64 (r : Int)) (.int .u64 (s : Int)) (.slice A n cap) (.int .u64 (c' : Int)) (.int .u64 (r' : Int)) (.int .u64 (s' : Int)) (.slice A' n' cap'))
  have HB2 := hid (below_step hal1 hal2)
  have HAT := hid (hA.below (below_step hal1 hal2))
  have HAT' := hid (hA'.below (below_step hal1 hal2))
  have HSZ := hid (show w.heap.size + 1 < ((w.alloc (.cells #[.int .u64 (c : Int), .int .u64 (r : Int), .int .u64 (s : Int), .slice A n cap] 25)).alloc (.cells #[.int .u64 (c' : Int), .int .u64 (r' : Int), .int .u64 (s' : Int), .slice A' n' cap'] 25)).heap.size by simp)
  have HCAP := hid hc
  have HCAP' := hid hc'
  clear hal1 hal2 s1 hA hA' hn hn' hF
  have HLW := hid (show w.heap.size ≤ ((w.alloc (.cells #[.int .u64 (c : Int), .int .u64 (r : Int), .int .u64 (s : Int), .slice A n cap] 25)).alloc (.cells #[.int .u64 (c' : Int), .int .u64 (r' : Int), .int .u64 (s' : Int), .slice A' n' cap'] 25)).heap.size from HB2.out.size)
  go_enter Try.func7, Try.ntmps7
  have a0 := HQ.out.1 0 (by decide)
  have a1 := HQ.out.1 1 (by decide)
  have a2 := HQ.out.1 2 (by decide)
  have a3 := HQ.out.1 3 (by decide)
  have b0 := HQ.out.2 0 (by decide)
  have b1 := HQ.out.2 1 (by decide)
  have b2 := HQ.out.2 2 (by decide)
  have b3 := HQ.out.2 3 (by decide)
  simp only [List.getElem?_toArray, List.getElem?_cons_zero, List.getElem?_cons_succ] at a0 a1 a2 a3 b0 b1 b2 b3
  clear HQ
  cases hf : isFew ws with
  | false => 
    have HFE := hid hf
    clear hf
    go_wp2_with fail
    generalize ((w.alloc (.cells #[.int .u64 (c : Int), .int .u64 (r : Int), .int .u64 (s : Int), .slice A n cap] 25)).alloc (.cells #[.int .u64 (c' : Int), .int .u64 (r' : Int), .int .u64 (s' : Int), .slice A' n' cap'] 25)) = w2 at *
    go_fit (few_any c r s HAT.out HN.out HCAP.out HLW.out)
    rw [HFE.out]
    rintro e w4 ⟨rfl, hb4⟩
    have HB4 := hid (below_step HB2.out hb4)
    clear hb4
    go_wp2_with fail
    go_fit (awake_yes HF.out w4)
    rintro e w5 ⟨rfl, hb5⟩
    go_wp2_with fail
    go_ret
    exact ⟨rfl, below_step HB4.out hb5⟩
  | true =>
    have HFE := hid hf
    clear hf
    go_wp2_with fail
    generalize ((w.alloc (.cells #[.int .u64 (c : Int), .int .u64 (r : Int), .int .u64 (s : Int), .slice A n cap] 25)).alloc (.cells #[.int .u64 (c' : Int), .int .u64 (r' : Int), .int .u64 (s' : Int), .slice A' n' cap'] 25)) = w2 at *
    go_fit (few_any c r s HAT.out HN.out HCAP.out HLW.out)
    rw [HFE.out]
    rintro e w3 ⟨rfl, hb3⟩
    have HX := hid (show Box w3 w.heap.size c r s A n cap ws from Box.step ⟨by have := HSZ.out; omega, a0, a1, a2, a3, ⟨HAT.out.more HLW.out, HN.out, HCAP.out, HFE.out, Nat.le_refl _⟩⟩ hb3)
    have HAT' := hid (HAT'.out.step HLW.out hb3)
    have HB3 := hid (below_step HB2.out hb3)
    have HLW3 := hid HB3.out.size
    have c0 := (hb3.cell (p := ⟨w.heap.size + 1, 0, none⟩) HSZ.out).trans b0
    have c1 := (hb3.cell (p := ⟨w.heap.size + 1, 1, none⟩) HSZ.out).trans b1
    have c2 := (hb3.cell (p := ⟨w.heap.size + 1, 2, none⟩) HSZ.out).trans b2
    have c3 := (hb3.cell (p := ⟨w.heap.size + 1, 3, none⟩) HSZ.out).trans b3
    have HSZ3 := hid (Nat.lt_of_lt_of_le HSZ.out hb3.size)
    clear a0 a1 a2 a3 b0 b1 b2 b3 hb3
    go_wp2_with fail
    go_fit (few_any c' r' s' HAT'.out HN'.out HCAP'.out HLW3.out)
    cases hf : isFew ws' with
    | false =>
      rintro e w4 ⟨rfl, hb4⟩
      have HB4 := hid (below_step HB3.out hb4)
      clear hb4 hf
      go_wp2_with fail
      go_fit (awake_yes HF.out w4)
      rintro e w5 ⟨rfl, hb5⟩
      go_wp2_with fail
      go_ret
      exact ⟨rfl, below_step HB4.out hb5⟩
    | true =>
      have HFE' := hid hf
      clear hf
      rintro e w4 ⟨rfl, hb4⟩
      have HX := hid (HX.out.step hb4)
      have HX' := hid (show Box w4 (w.heap.size + 1) c' r' s' A' n' cap' ws' from Box.step ⟨HSZ3.out, c0, c1, c2, c3, ⟨HAT'.out.more HLW3.out, HN'.out, HCAP'.out, HFE'.out, Nat.le_refl _⟩⟩ hb4)
      have HB4 := hid (below_step HB3.out hb4)
      clear c0 c1 c2 c3 hb4
      obtain ⟨_, a0, a1, a2, a3, _⟩ := HX.out
      obtain ⟨_, b0, b1, b2, b3, _⟩ := HX'.out
      go_wp2_with fail
      go_fit (HF.out.meets HX.out.at_ HX'.out.at_)
      rintro e w5 ⟨rfl, hb5⟩
      have HX := hid (HX.out.step hb5)
      have HX' := hid (HX'.out.step hb5)
      have HB5 := hid (below_step HB4.out hb5)
      clear a0 a1 a2 a3 b0 b1 b2 b3 hb5
      have q0 : ∀ W, Beyond w5 W → W.cell? ⟨w.heap.size, 0, none⟩ = some (.int .u64 c) := fun W h => (HX.out.step h).c0
      have q1 : ∀ W, Beyond w5 W → W.cell? ⟨w.heap.size, 1, none⟩ = some (.int .u64 r) := fun W h => (HX.out.step h).c1
      have q2 : ∀ W, Beyond w5 W → W.cell? ⟨w.heap.size, 2, none⟩ = some (.int .u64 s) := fun W h => (HX.out.step h).c2
      have q3 : ∀ W, Beyond w5 W → W.cell? ⟨w.heap.size, 3, none⟩ = some (.slice A n cap) := fun W h => (HX.out.step h).c3
      have p0 : ∀ W, Beyond w5 W → W.cell? ⟨w.heap.size + 1, 0, none⟩ = some (.int .u64 c') := fun W h => (HX'.out.step h).c0
      have p1 : ∀ W, Beyond w5 W → W.cell? ⟨w.heap.size + 1, 1, none⟩ = some (.int .u64 r') := fun W h => (HX'.out.step h).c1
      have p2 : ∀ W, Beyond w5 W → W.cell? ⟨w.heap.size + 1, 2, none⟩ = some (.int .u64 s') := fun W h => (HX'.out.step h).c2
      have p3 : ∀ W, Beyond w5 W → W.cell? ⟨w.heap.size + 1, 3, none⟩ = some (.slice A' n' cap') := fun W h => (HX'.out.step h).c3
      obtain ⟨M, hM⟩ : ∃ M, M = meets ws ws' := ⟨_, rfl⟩
      have HM := hid hM
      have HM' := hid (hM.trans (meets_symm ws ws'))
      obtain ⟨E, hE⟩ : ∃ E, E = decide ((c : Int) = c' ∧ (r : Int) = r' ∧ (s : Int) = s' ∧ ws = ws') := ⟨_, rfl⟩
      have HE := hid hE
      rw [← hM]
      clear hM hE
      go_wp2_with fail
      refine wp_region_held_drew (S := Beyond w5) (by kernel_rfl) (Beyond.drew _) (fun hS => ?_)
      refine wpAnyH_ready (rs := [0]) (by kernel_rfl) (by simp) ?_
      refine AllReadyH.cons (by simp only [List.getElem?_toArray, List.getElem?_cons_zero]; rfl) (fun K hK => ?_) AllReadyH.nil
      go_simp
      go_fit (awake_yes HF.out _)
      rintro e v0 ⟨rfl, hb0⟩
      have hS0 := Beyond.step hS hb0
      clear hb0
      refine hK.out _ _ (by assumption) (fun _ => ?_)
      clear hK K hS
      have hS := hS0
      try simp only [Act.put, List.setIfInBounds_toArray, List.set_cons_zero, List.set_cons_succ]
      refine take_step (i := 1) (by simp only [List.getElem?_toArray, List.getElem?_cons_succ, List.getElem?_cons_zero]; rfl) (by kernel_rfl) (by kernel_rfl) (by kernel_rfl) (by intro _ _ _ h; exact h) (by rfl) (fun W hW => by go_simp; first | done | with_reducible rfl) hS ?_
      try simp only [Act.put, List.setIfInBounds_toArray, List.set_cons_zero, List.set_cons_succ]
      first | (refine take_step (i := 2) (by simp only [List.getElem?_toArray, List.getElem?_cons_succ, List.getElem?_cons_zero]; rfl) (by kernel_rfl) (by kernel_rfl) (by kernel_rfl) (by intro _ _ _ h; exact h) (by rfl) (fun W hW => by go_simp; first | done | with_reducible rfl) hS ?_) | (refine skip_step (i := 2) (by simp only [List.getElem?_toArray, List.getElem?_cons_succ, List.getElem?_cons_zero]; rfl) (by kernel_rfl) (by kernel_rfl) (by kernel_rfl) (by intro _ _ _ h; exact h) (by rfl) hS ?_)
      try simp only [Act.put, List.setIfInBounds_toArray, List.set_cons_zero, List.set_cons_succ]
      first | (refine take_step (i := 3) (by simp only [List.getElem?_toArray, List.getElem?_cons_succ, List.getElem?_cons_zero]; rfl) (by kernel_rfl) (by kernel_rfl) (by kernel_rfl) (by intro _ _ _ h; exact h) (by rfl) (fun W hW => by go_simp; first | done | with_reducible rfl) hS ?_) | (refine skip_step (i := 3) (by simp only [List.getElem?_toArray, List.getElem?_cons_succ, List.getElem?_cons_zero]; rfl) (by kernel_rfl) (by kernel_rfl) (by kernel_rfl) (by intro _ _ _ h; exact h) (by rfl) hS ?_)
      try simp only [Act.put, List.setIfInBounds_toArray, List.set_cons_zero, List.set_cons_succ]
      first | (refine take_step (i := 4) (by simp only [List.getElem?_toArray, List.getElem?_cons_succ, List.getElem?_cons_zero]; rfl) (by kernel_rfl) (by kernel_rfl) (by kernel_rfl) (by intro _ _ _ h; exact h) (by rfl) (fun W hW => by go_simp; first | done | with_reducible rfl) hS ?_) | (refine skip_step (i := 4) (by simp only [List.getElem?_toArray, List.getElem?_cons_succ, List.getElem?_cons_zero]; rfl) (by kernel_rfl) (by kernel_rfl) (by kernel_rfl) (by intro _ _ _ h; exact h) (by rfl) hS ?_)
      try simp only [Act.put, List.setIfInBounds_toArray, List.set_cons_zero, List.set_cons_succ]
      refine wpAnyH_ready (rs := [5]) (by kernel_rfl) (by simp) ?_
      refine AllReadyH.cons (by simp only [List.getElem?_toArray, List.getElem?_cons_succ, List.getElem?_cons_zero]; rfl) (fun K hK => ?_) AllReadyH.nil
      go_simp
      go_fit (rMeets (HX.out.step hS).at_ (HX'.out.step hS).at_)
      rintro e v5 ⟨rfl, hb5⟩
      have hS5 := Beyond.step hS hb5
      clear hb5
      rw [← HM.out]
      refine hK.out _ _ (by assumption) (fun _ => ?_)
      clear hK K hS
      have hS := hS5
      try simp only [Act.put, List.setIfInBounds_toArray, List.set_cons_zero, List.set_cons_succ]
      first | (refine take_step (i := 6) (by simp only [List.getElem?_toArray, List.getElem?_cons_succ, List.getElem?_cons_zero]; rfl) (by kernel_rfl) (by kernel_rfl) (by kernel_rfl) (by intro _ _ _ h; exact h) (by rfl) (fun W hW => by go_simp; first | done | with_reducible rfl) hS ?_) | (refine skip_step (i := 6) (by simp only [List.getElem?_toArray, List.getElem?_cons_succ, List.getElem?_cons_zero]; rfl) (by kernel_rfl) (by kernel_rfl) (by kernel_rfl) (by intro _ _ _ h; exact h) (by rfl) hS ?_)
      try simp only [Act.put, List.setIfInBounds_toArray, List.set_cons_zero, List.set_cons_succ]
      refine take_step (i := 7) (by simp only [List.getElem?_toArray, List.getElem?_cons_succ, List.getElem?_cons_zero]; rfl) (by kernel_rfl) (by kernel_rfl) (by kernel_rfl) (by intro _ _ _ h; exact h) (by rfl) (fun W hW => by go_simp; first | done | with_reducible rfl) hS ?_
      try simp only [Act.put, List.setIfInBounds_toArray, List.set_cons_zero, List.set_cons_succ]
      refine take_step (i := 8) (by simp only [List.getElem?_toArray, List.getElem?_cons_succ, List.getElem?_cons_zero]; rfl) (by kernel_rfl) (by kernel_rfl) (by kernel_rfl) (by intro _ _ _ h; exact h) (by rfl) (fun W hW => by go_simp; first | done | with_reducible rfl) hS ?_
      try simp only [Act.put, List.setIfInBounds_toArray, List.set_cons_zero, List.set_cons_succ]
      first | (refine take_step (i := 9) (by simp only [List.getElem?_toArray, List.getElem?_cons_succ, List.getElem?_cons_zero]; rfl) (by kernel_rfl) (by kernel_rfl) (by kernel_rfl) (by intro _ _ _ h; exact h) (by rfl) (fun W hW => by go_simp; first | done | with_reducible rfl) hS ?_) | (refine skip_step (i := 9) (by simp only [List.getElem?_toArray, List.getElem?_cons_succ, List.getElem?_cons_zero]; rfl) (by kernel_rfl) (by kernel_rfl) (by kernel_rfl) (by intro _ _ _ h; exact h) (by rfl) hS ?_)
      try simp only [Act.put, List.setIfInBounds_toArray, List.set_cons_zero, List.set_cons_succ]
      first | (refine take_step (i := 10) (by simp only [List.getElem?_toArray, List.getElem?_cons_succ, List.getElem?_cons_zero]; rfl) (by kernel_rfl) (by kernel_rfl) (by kernel_rfl) (by intro _ _ _ h; exact h) (by rfl) (fun W hW => by go_simp; first | done | with_reducible rfl) hS ?_) | (refine skip_step (i := 10) (by simp only [List.getElem?_toArray, List.getElem?_cons_succ, List.getElem?_cons_zero]; rfl) (by kernel_rfl) (by kernel_rfl) (by kernel_rfl) (by intro _ _ _ h; exact h) (by rfl) hS ?_)
      try simp only [Act.put, List.setIfInBounds_toArray, List.set_cons_zero, List.set_cons_succ]
      first | (refine take_step (i := 11) (by simp only [List.getElem?_toArray, List.getElem?_cons_succ, List.getElem?_cons_zero]; rfl) (by kernel_rfl) (by kernel_rfl) (by kernel_rfl) (by intro _ _ _ h; exact h) (by rfl) (fun W hW => by go_simp; first | done | with_reducible rfl) hS ?_) | (refine skip_step (i := 11) (by simp only [List.getElem?_toArray, List.getElem?_cons_succ, List.getElem?_cons_zero]; rfl) (by kernel_rfl) (by kernel_rfl) (by kernel_rfl) (by intro _ _ _ h; exact h) (by rfl) hS ?_)
      try simp only [Act.put, List.setIfInBounds_toArray, List.set_cons_zero, List.set_cons_succ]
      refine wpAnyH_ready (rs := [12]) (by kernel_rfl) (by simp) ?_
      refine AllReadyH.cons (by simp only [List.getElem?_toArray, List.getElem?_cons_succ, List.getElem?_cons_zero]; rfl) (fun K hK => ?_) AllReadyH.nil
      go_simp
      go_fit (HF.out.meets (HX'.out.step hS).at_ (HX.out.step hS).at_)
      rintro e v12 ⟨rfl, hb12⟩
      have hS12 := Beyond.step hS hb12
      clear hb12
      rw [← HM'.out]
      refine hK.out _ _ (by assumption) (fun _ => ?_)
      clear hK K hS
      have hS := hS12
      try simp only [Act.put, List.setIfInBounds_toArray, List.set_cons_zero, List.set_cons_succ]
      first | (refine take_step (i := 13) (by simp only [List.getElem?_toArray, List.getElem?_cons_succ, List.getElem?_cons_zero]; rfl) (by kernel_rfl) (by kernel_rfl) (by kernel_rfl) (by intro _ _ _ h; exact h) (by rfl) (fun W hW => by go_simp; first | done | with_reducible rfl) hS ?_) | (refine skip_step (i := 13) (by simp only [List.getElem?_toArray, List.getElem?_cons_succ, List.getElem?_cons_zero]; rfl) (by kernel_rfl) (by kernel_rfl) (by kernel_rfl) (by intro _ _ _ h; exact h) (by rfl) hS ?_)
      try simp only [Act.put, List.setIfInBounds_toArray, List.set_cons_zero, List.set_cons_succ]
      refine take_step (i := 14) (by simp only [List.getElem?_toArray, List.getElem?_cons_succ, List.getElem?_cons_zero]; rfl) (by kernel_rfl) (by kernel_rfl) (by kernel_rfl) (by intro _ _ _ h; exact h) (by rfl) (fun W hW => by go_simp; first | done | with_reducible rfl) hS ?_
      try simp only [Act.put, List.setIfInBounds_toArray, List.set_cons_zero, List.set_cons_succ]
      refine take_step (i := 15) (by simp only [List.getElem?_toArray, List.getElem?_cons_succ, List.getElem?_cons_zero]; rfl) (by kernel_rfl) (by kernel_rfl) (by kernel_rfl) (by intro _ _ _ h; exact h) (by rfl) (fun W hW => by go_simp; first | done | with_reducible rfl) hS ?_
      try simp only [Act.put, List.setIfInBounds_toArray, List.set_cons_zero, List.set_cons_succ]
      first | (refine take_step (i := 16) (by simp only [List.getElem?_toArray, List.getElem?_cons_succ, List.getElem?_cons_zero]; rfl) (by kernel_rfl) (by kernel_rfl) (by kernel_rfl) (by intro _ _ _ h; exact h) (by rfl) (fun W hW => by go_simp; first | done | with_reducible rfl) hS ?_) | (refine skip_step (i := 16) (by simp only [List.getElem?_toArray, List.getElem?_cons_succ, List.getElem?_cons_zero]; rfl) (by kernel_rfl) (by kernel_rfl) (by kernel_rfl) (by intro _ _ _ h; exact h) (by rfl) hS ?_)
      try simp only [Act.put, List.setIfInBounds_toArray, List.set_cons_zero, List.set_cons_succ]
      first | (refine take_step (i := 17) (by simp only [List.getElem?_toArray, List.getElem?_cons_succ, List.getElem?_cons_zero]; rfl) (by kernel_rfl) (by kernel_rfl) (by kernel_rfl) (by intro _ _ _ h; exact h) (by rfl) (fun W hW => by go_simp; first | done | with_reducible rfl) hS ?_) | (refine skip_step (i := 17) (by simp only [List.getElem?_toArray, List.getElem?_cons_succ, List.getElem?_cons_zero]; rfl) (by kernel_rfl) (by kernel_rfl) (by kernel_rfl) (by intro _ _ _ h; exact h) (by rfl) hS ?_)
      try simp only [Act.put, List.setIfInBounds_toArray, List.set_cons_zero, List.set_cons_succ]
      first | (refine take_step (i := 19) (by simp only [List.getElem?_toArray, List.getElem?_cons_succ, List.getElem?_cons_zero]; rfl) (by kernel_rfl) (by kernel_rfl) (by kernel_rfl) (by intro _ _ _ h; exact h) (by rfl) (fun W hW => by go_simp; first | done | with_reducible rfl) hS ?_) | (refine skip_step (i := 19) (by simp only [List.getElem?_toArray, List.getElem?_cons_succ, List.getElem?_cons_zero]; rfl) (by kernel_rfl) (by kernel_rfl) (by kernel_rfl) (by intro _ _ _ h; exact h) (by rfl) hS ?_)
      try simp only [Act.put, List.setIfInBounds_toArray, List.set_cons_zero, List.set_cons_succ]
      first | (refine take_step (i := 20) (by simp only [List.getElem?_toArray, List.getElem?_cons_succ, List.getElem?_cons_zero]; rfl) (by kernel_rfl) (by kernel_rfl) (by kernel_rfl) (by intro _ _ _ h; exact h) (by rfl) (fun W hW => by go_simp; first | done | with_reducible rfl) hS ?_) | (refine skip_step (i := 20) (by simp only [List.getElem?_toArray, List.getElem?_cons_succ, List.getElem?_cons_zero]; rfl) (by kernel_rfl) (by kernel_rfl) (by kernel_rfl) (by intro _ _ _ h; exact h) (by rfl) hS ?_)
      try simp only [Act.put, List.setIfInBounds_toArray, List.set_cons_zero, List.set_cons_succ]
      refine wpAnyH_ready (rs := [18]) (by kernel_rfl) (by simp) ?_
      refine AllReadyH.cons (by simp only [List.getElem?_toArray, List.getElem?_cons_succ, List.getElem?_cons_zero]; rfl) (fun K hK => ?_) AllReadyH.nil
      go_simp
      go_fit (HF.out.same (HX.out.step hS).at_ (HX'.out.step hS).at_)
      rintro e v18 ⟨rfl, hb18⟩
      have hS18 := Beyond.step hS hb18
      clear hb18
      rw [← HE.out]
      refine hK.out _ _ (by assumption) (fun _ => ?_)
      clear hK K hS
      have hS := hS18
      try simp only [Act.put, List.setIfInBounds_toArray, List.set_cons_zero, List.set_cons_succ]
      refine wpAnyH_ready (rs := [21]) (by kernel_rfl) (by simp) ?_
      refine AllReadyH.cons (by simp only [List.getElem?_toArray, List.getElem?_cons_succ, List.getElem?_cons_zero]; rfl) (fun K hK => ?_) AllReadyH.nil
      go_simp
      go_fit (rSame (HX.out.step hS).at_ (HX'.out.step hS).at_)
      rintro e v21 ⟨rfl, hb21⟩
      have hS21 := Beyond.step hS hb21
      clear hb21
      rw [← HE.out]
      refine hK.out _ _ (by assumption) (fun _ => ?_)
      clear hK K hS
      have hS := hS21
      try simp only [Act.put, List.setIfInBounds_toArray, List.set_cons_zero, List.set_cons_succ]
      first | (refine take_step (i := 22) (by simp only [List.getElem?_toArray, List.getElem?_cons_succ, List.getElem?_cons_zero]; rfl) (by kernel_rfl) (by kernel_rfl) (by kernel_rfl) (by intro _ _ _ h; exact h) (by rfl) (fun W hW => by go_simp; first | done | with_reducible rfl) hS ?_) | (refine skip_step (i := 22) (by simp only [List.getElem?_toArray, List.getElem?_cons_succ, List.getElem?_cons_zero]; rfl) (by kernel_rfl) (by kernel_rfl) (by kernel_rfl) (by intro _ _ _ h; exact h) (by rfl) hS ?_)
      try simp only [Act.put, List.setIfInBounds_toArray, List.set_cons_zero, List.set_cons_succ]
      refine take_step (i := 23) (by simp only [List.getElem?_toArray, List.getElem?_cons_succ, List.getElem?_cons_zero]; rfl) (by kernel_rfl) (by kernel_rfl) (by kernel_rfl) (by intro _ _ _ h; exact h) (by rfl) (fun W hW => by go_simp; first | done | with_reducible rfl) hS ?_
      try simp only [Act.put, List.setIfInBounds_toArray, List.set_cons_zero, List.set_cons_succ]
      refine take_step (i := 24) (by simp only [List.getElem?_toArray, List.getElem?_cons_succ, List.getElem?_cons_zero]; rfl) (by kernel_rfl) (by kernel_rfl) (by kernel_rfl) (by intro _ _ _ h; exact h) (by rfl) (fun W hW => by go_simp; first | done | with_reducible rfl) hS ?_
      try simp only [Act.put, List.setIfInBounds_toArray, List.set_cons_zero, List.set_cons_succ]
      refine wpAnyH_done (by kernel_rfl) ?_ _
      go_wp2_with fail
      go_ret
      exact ⟨rfl, below_step HB5.out hS21⟩

end Go.Proofs.Ytcdjbacljnofiaa
