/-
  The document's Find, Half.
-/
import Derived.Test.YtikggbopoajcbaaDoorRefPg
import Derived.Test.YtikggbopoajcbaaDoorPgFn
namespace Go.Proofs.YtikggbopoajcbaaDoor
open Go Go.RowKit

set_option maxHeartbeats 4000000 in
set_option maxRecDepth 100000 in
theorem refFind_any {leaf : Bool} {next : Int} {A : Option Addr} {n c B : Nat} {l : List Cl} {K : List UInt8} {w : World} (h : CS w B A n c l) :
    Calls Tryd.prog 23 #[pageV leaf next A n c, .string (bst K)] w fun e w' => e = .returned (.tuple #[.int .i64 (fnd K l : Int), .bool (hasK K l)]) ∧ Below w.heap.size w w' := by
  have hb1 : Below w.heap.size w (w.alloc (.cells #[.bool leaf, .int .i64 next, .slice A n c] 24)) := (Below.refl _ _).alloc (Nat.le_refl _) _
  have HB := hid hb1
  have HX := hid (Blk.new w 24 #[.bool leaf, .int .i64 next, .slice A n c])
  have HC := hid (h.step hb1)
  have HML := hid h.most
  have HLN := hid h.len
  obtain ⟨D, hD⟩ : ∃ D, D = hasK K l := ⟨_, rfl⟩
  rw [← hD]
  unfold hasK at hD
  have HD := hid hD
  obtain ⟨I, hI⟩ : ∃ I, I = fnd K l := ⟨_, rfl⟩
  rw [← hI]
  have HI := hid hI
  have t2 := bst_toList K
  obtain ⟨KB, hK⟩ : ∃ X, X = bst K := ⟨_, rfl⟩
  rw [← hK] at t2 ⊢
  clear h hb1 hD hI hK
  unfold pageV
  go_enter Tryd.func23, Tryd.ntmps23
  go_wp2_with fail
  generalize w.alloc (.cells #[.bool leaf, .int .i64 next, .slice A n c] 24) = w1 at *
  obtain ⟨g, hg⟩ : ∃ g, w.heap.size = g := ⟨_, rfl⟩
  rw [hg] at HX ⊢
  clear hg
  go_loopw [6] (fun i wr => ∃ k : Nat, k ≤ n ∧ i = .int .i64 (k : Int) ∧ Kept (∀ t x, t < k → l[t]? = some x → ltk K x = true) ∧ Kept (Below w1.heap.size w1 wr)) (fun i _ => n - (intOf i).toNat)
  case atStart => exact ⟨0, Nat.zero_le _, rfl, hid (fun t x ht => absurd ht (Nat.not_lt_zero _)), hid (Below.refl _ _)⟩
  case round =>
    obtain ⟨k, hk, rfl, HLO, HW⟩ := hrel
    have HXW := hid (HX.out.below HW.out HX.out.lt)
    have x2 := HXW.out.cell 2
    have hnm := HML.out
    by_cases hlt : k < n
    · obtain ⟨b, off, x, rfl, hb, hx, c0, c1⟩ := (HC.out.step HW.out).at_.get (i := k) (by rw [← HLN.out]; exact hlt)
      have HXX := hid hx
      have t1 := bst_toList x.k
      obtain ⟨XB, hX⟩ : ∃ K, K = bst x.k := ⟨_, rfl⟩
      rw [← hX] at c0 t1
      clear hX hx hb c1
      cases hr : Op.bytesLess x.k K with
      | true =>
        have HR := hid (show ltk K x = true from hr)
        go_wp2_with fail
        go_roundw
        case rel => exact ⟨k + 1, by omega, by go_num, hid (fun t y ht hy => by
          by_cases e : t = k
          · subst e
            have a := HXX.out
            rw [hy] at a
            injection a with a
            rw [a]; exact HR.out
          · exact HLO.out t y (by omega) hy), HW⟩
        case measure => simp [intOf]; omega
      | false =>
        obtain rfl : I = k := by
          rw [HI.out]
          exact (fnd_is (by rw [← HLN.out]; omega) HLO.out (fun y hy => by
            have a := HXX.out
            rw [hy] at a
            injection a with a
            rw [a]; exact hr)).symm
        have HD2 := hid (show D = (x.k == K) by rw [HD.out, ← HI.out, HXX.out]; rfl)
        go_wp2_with fail
        go_quiet (fail)
        go_wp2_with fail
        go_ret2
        exact ⟨by rw [HD2.out]; rfl, below_drewN (below_step HB.out HW.out) _⟩
    · have hkn : k = n := by omega
      have hil : I = n := by
        rw [HI.out]
        exact (fnd_is (by rw [← HLN.out]; omega) (fun t x ht => HLO.out t x (by omega)) (fun y hy => absurd (List.getElem?_eq_some_iff.1 hy).1 (by rw [← HLN.out]; omega))).symm
      obtain rfl : D = false := by rw [HD.out, ← HI.out, hil, List.getElem?_eq_none (by rw [← HLN.out]; omega)]; rfl
      obtain rfl := hil
      go_wp2_with fail
      go_ret2
      exact ⟨rfl, below_step HB.out HW.out⟩

set_option maxHeartbeats 4000000 in
set_option maxRecDepth 100000 in
theorem refHalf_any {leaf : Bool} {next : Int} {A : Option Addr} {n c B : Nat} {l : List Cl} {w : World} (h : CS w B A n c l) (h2 : 2 ≤ n) (hs : csum l ≤ 4398046511104) (he : ∀ x ∈ l, x.k.length ≤ 65536 ∧ x.v.length ≤ 65536) :
    Calls Tryd.prog 28 #[pageV leaf next A n c] w fun e w' => e = .returned (.int .i64 (halfC l : Int)) ∧ Below w.heap.size w w' := by
  have hb1 : Below w.heap.size w (w.alloc (.cells #[.bool leaf, .int .i64 next, .slice A n c] 24)) := (Below.refl _ _).alloc (Nat.le_refl _) _
  have HB := hid hb1
  have HX := hid (Blk.new w 24 #[.bool leaf, .int .i64 next, .slice A n c])
  have HC := hid (h.step hb1)
  have HML := hid h.most
  have HLN := hid h.len
  have HE := hid he
  have HS := hid hs
  clear h hb1 hs he
  unfold pageV
  go_enter Tryd.func28, Tryd.ntmps28
  go_wp2_with fail
  generalize w.alloc (.cells #[.bool leaf, .int .i64 next, .slice A n c] 24) = w1 at *
  obtain ⟨g, hg⟩ : ∃ g, w.heap.size = g := ⟨_, rfl⟩
  rw [hg] at HX ⊢
  clear hg
  go_loopw [3, 4] (fun s i wr => ∃ k : Nat, k ≤ n ∧ s = .int .i64 (csum (l.take k) : Int) ∧ i = .int .i64 (k : Int) ∧ Kept (Below w1.heap.size w1 wr)) (fun _ i _ => n - (intOf i).toNat)
  case atStart => exact ⟨0, Nat.zero_le _, rfl, rfl, hid (Below.refl _ _)⟩
  case round =>
    obtain ⟨k, hk, rfl, rfl, HW⟩ := hrel
    have HXW := hid (HX.out.below HW.out HX.out.lt)
    have x2 := HXW.out.cell 2
    have hnm := HML.out
    by_cases hlt : k < n
    · skip
      obtain ⟨b, off, x, rfl, hb, hx, c0, c1⟩ := (HC.out.step HW.out).at_.get (i := k) (by rw [← HLN.out]; omega)
      have hxm := HE.out x (List.mem_of_getElem? hx)
      have HT1 := hid (fun (W : World) => refText_any x.k W hxm.1)
      have HT2 := hid (fun (W : World) => refText_any x.v W hxm.2)
      have hv1 := vlen_le x.k.length
      have hv2 := vlen_le x.v.length
      obtain ⟨T1, hT1⟩ : ∃ T, T = vbytes x.k.length ++ x.k := ⟨_, rfl⟩
      obtain ⟨T2, hT2⟩ : ∃ T, T = vbytes x.v.length ++ x.v := ⟨_, rfl⟩
      have zl1 : T1.length ≤ 70000 := by rw [hT1, List.length_append, vbytes_length]; have := hxm.1; omega
      have zl2 : T2.length ≤ 70000 := by rw [hT2, List.length_append, vbytes_length]; have := hxm.2; omega
      have z1 := bst_size T1
      have z2 := bst_size T2
      have hcl : T1.length + T2.length = clen x := by rw [hT1, hT2]; simp only [List.length_append, vbytes_length, clen]
      rw [← hT1] at HT1
      rw [← hT2] at HT2
      have p1 := bst_append T1 T2
      have z3 := bst_size (T1 ++ T2)
      rw [List.length_append, hcl] at z3
      have q0 : ∀ W, Beyond wr W → W.cell? ⟨g, 2, none⟩ = some (.slice (some ⟨b, off, none⟩) n c) := fun W hW => (HXW.out.below hW HXW.out.lt).cell 2
      have q1 : ∀ W, Beyond wr W → W.cell? ⟨b, off + k * 2, none⟩ = some (.string (bst x.k)) := fun W hW => (((HC.out.step HW.out).step hW).at_.at hx).1
      have q2 : ∀ W, Beyond wr W → W.cell? ⟨b, off + k * 2 + 1, none⟩ = some (.string (bst x.v)) := fun W hW => (((HC.out.step HW.out).step hW).at_.at hx).2
      have n1 : ¬ (9223372036854775807 < T1.length + T2.length) := by omega
      have hcx := csum_mem hx
      have hct := csum_takes l k
      have HTK := hid (csum_take hx)
      have HSUM := hid (show ((csum (l.take k) : Nat) : Int) + ((clen x : Nat) : Int) = ((csum (l.take (k + 1)) : Nat) : Int) by rw [HTK.out]; omega)
      have hz1 : csum (l.take k) ≤ 4398046511104 := by have := HS.out; omega
      have hz2 : clen x ≤ 4398046511104 := by have := HS.out; omega
      have HWR := hid (show IntKind.i64.wrap ((csum (l.take (k + 1)) : Nat) : Int) = ((csum (l.take (k + 1)) : Nat) : Int) from IntWalk.i64_in _ ⟨by rw [HTK.out]; omega, by rw [HTK.out]; omega⟩)
      generalize clen x = CX at *
      clear hT1 hT2 hxm hv1 hv2 hx c0 c1 hb hcx hct HTK hcl
      go_upto_region 5 with fail
      refine wp_region_held_drew (S := Beyond wr) (by kernel_rfl) (Beyond.drew _) (fun hS => ?_)
      refine take_step (i := 0) (by simp only [List.getElem?_toArray, List.getElem?_cons_zero]; rfl) (by kernel_rfl) (by kernel_rfl) (by kernel_rfl) (by intro _ _ _ h; exact h) (by rfl) (fun W hW => by go_simp; first | done | with_reducible rfl) hS ?_
      try simp only [Act.put, List.setIfInBounds_toArray, List.set_cons_zero, List.set_cons_succ]
      refine take_step (i := 1) (by simp only [List.getElem?_toArray, List.getElem?_cons_succ, List.getElem?_cons_zero]; rfl) (by kernel_rfl) (by kernel_rfl) (by kernel_rfl) (by intro _ _ _ h; exact h) (by rfl) (fun W hW => by go_simp; first | done | with_reducible rfl) hS ?_
      try simp only [Act.put, List.setIfInBounds_toArray, List.set_cons_zero, List.set_cons_succ]
      refine take_step (i := 2) (by simp only [List.getElem?_toArray, List.getElem?_cons_succ, List.getElem?_cons_zero]; rfl) (by kernel_rfl) (by kernel_rfl) (by kernel_rfl) (by intro _ _ _ h; exact h) (by rfl) (fun W hW => by go_simp; first | done | with_reducible rfl) hS ?_
      try simp only [Act.put, List.setIfInBounds_toArray, List.set_cons_zero, List.set_cons_succ]
      refine take_step (i := 3) (by simp only [List.getElem?_toArray, List.getElem?_cons_succ, List.getElem?_cons_zero]; rfl) (by kernel_rfl) (by kernel_rfl) (by kernel_rfl) (by intro _ _ _ h; exact h) (by rfl) (fun W hW => by go_simp; first | done | with_reducible rfl) hS ?_
      try simp only [Act.put, List.setIfInBounds_toArray, List.set_cons_zero, List.set_cons_succ]
      refine take_step (i := 4) (by simp only [List.getElem?_toArray, List.getElem?_cons_succ, List.getElem?_cons_zero]; rfl) (by kernel_rfl) (by kernel_rfl) (by kernel_rfl) (by intro _ _ _ h; exact h) (by rfl) (fun W hW => by go_simp; first | done | with_reducible rfl) hS ?_
      try simp only [Act.put, List.setIfInBounds_toArray, List.set_cons_zero, List.set_cons_succ]
      refine take_step (i := 5) (by simp only [List.getElem?_toArray, List.getElem?_cons_succ, List.getElem?_cons_zero]; rfl) (by kernel_rfl) (by kernel_rfl) (by kernel_rfl) (by intro _ _ _ h; exact h) (by rfl) (fun W hW => by go_simp; first | done | with_reducible rfl) hS ?_
      try simp only [Act.put, List.setIfInBounds_toArray, List.set_cons_zero, List.set_cons_succ]
      refine take_step (i := 6) (by simp only [List.getElem?_toArray, List.getElem?_cons_succ, List.getElem?_cons_zero]; rfl) (by kernel_rfl) (by kernel_rfl) (by kernel_rfl) (by intro _ _ _ h; exact h) (by rfl) (fun W hW => by go_simp; first | done | with_reducible rfl) hS ?_
      try simp only [Act.put, List.setIfInBounds_toArray, List.set_cons_zero, List.set_cons_succ]
      refine take_step (i := 8) (by simp only [List.getElem?_toArray, List.getElem?_cons_succ, List.getElem?_cons_zero]; rfl) (by kernel_rfl) (by kernel_rfl) (by kernel_rfl) (by intro _ _ _ h; exact h) (by rfl) (fun W hW => by go_simp; first | done | with_reducible rfl) hS ?_
      try simp only [Act.put, List.setIfInBounds_toArray, List.set_cons_zero, List.set_cons_succ]
      refine take_step (i := 9) (by simp only [List.getElem?_toArray, List.getElem?_cons_succ, List.getElem?_cons_zero]; rfl) (by kernel_rfl) (by kernel_rfl) (by kernel_rfl) (by intro _ _ _ h; exact h) (by rfl) (fun W hW => by go_simp; first | done | with_reducible rfl) hS ?_
      try simp only [Act.put, List.setIfInBounds_toArray, List.set_cons_zero, List.set_cons_succ]
      refine take_step (i := 10) (by simp only [List.getElem?_toArray, List.getElem?_cons_succ, List.getElem?_cons_zero]; rfl) (by kernel_rfl) (by kernel_rfl) (by kernel_rfl) (by intro _ _ _ h; exact h) (by rfl) (fun W hW => by go_simp; first | done | with_reducible rfl) hS ?_
      try simp only [Act.put, List.setIfInBounds_toArray, List.set_cons_zero, List.set_cons_succ]
      refine take_step (i := 11) (by simp only [List.getElem?_toArray, List.getElem?_cons_succ, List.getElem?_cons_zero]; rfl) (by kernel_rfl) (by kernel_rfl) (by kernel_rfl) (by intro _ _ _ h; exact h) (by rfl) (fun W hW => by go_simp; first | done | with_reducible rfl) hS ?_
      try simp only [Act.put, List.setIfInBounds_toArray, List.set_cons_zero, List.set_cons_succ]
      refine take_step (i := 12) (by simp only [List.getElem?_toArray, List.getElem?_cons_succ, List.getElem?_cons_zero]; rfl) (by kernel_rfl) (by kernel_rfl) (by kernel_rfl) (by intro _ _ _ h; exact h) (by rfl) (fun W hW => by go_simp; first | done | with_reducible rfl) hS ?_
      try simp only [Act.put, List.setIfInBounds_toArray, List.set_cons_zero, List.set_cons_succ]
      refine take_step (i := 13) (by simp only [List.getElem?_toArray, List.getElem?_cons_succ, List.getElem?_cons_zero]; rfl) (by kernel_rfl) (by kernel_rfl) (by kernel_rfl) (by intro _ _ _ h; exact h) (by rfl) (fun W hW => by go_simp; first | done | with_reducible rfl) hS ?_
      try simp only [Act.put, List.setIfInBounds_toArray, List.set_cons_zero, List.set_cons_succ]
      refine wpAnyH_ready (rs := [7]) (by kernel_rfl) (by simp) ?_
      refine AllReadyH.cons (by simp only [List.getElem?_toArray, List.getElem?_cons_succ, List.getElem?_cons_zero]; rfl) (fun K hK => ?_) AllReadyH.nil
      go_simp
      go_fit (HT1.out _)
      rintro e w5 ⟨rfl, hb5⟩
      have hS7 := Beyond.step hS hb5
      clear hb5
      refine hK.out _ _ (by assumption) (fun _ => ?_)
      clear hK K hS
      have hS := hS7
      try simp only [Act.put, List.setIfInBounds_toArray, List.set_cons_zero, List.set_cons_succ]
      refine wpAnyH_ready (rs := [14]) (by kernel_rfl) (by simp) ?_
      refine AllReadyH.cons (by simp only [List.getElem?_toArray, List.getElem?_cons_succ, List.getElem?_cons_zero]; rfl) (fun K hK => ?_) AllReadyH.nil
      go_simp
      go_fit (HT2.out _)
      rintro e w6 ⟨rfl, hb6⟩
      have hS14 := Beyond.step hS hb6
      clear hb6
      refine hK.out _ _ (by assumption) (fun _ => ?_)
      clear hK K hS
      have hS := hS14
      try simp only [Act.put, List.setIfInBounds_toArray, List.set_cons_zero, List.set_cons_succ]
      refine take_step (i := 15) (by simp only [List.getElem?_toArray, List.getElem?_cons_succ, List.getElem?_cons_zero]; rfl) (by kernel_rfl) (by kernel_rfl) (by kernel_rfl) (by intro _ _ _ h; exact h) (by rfl) (fun W hW => by go_simp; first | done | with_reducible rfl) hS ?_
      try simp only [Act.put, List.setIfInBounds_toArray, List.set_cons_zero, List.set_cons_succ]
      refine take_step (i := 16) (by simp only [List.getElem?_toArray, List.getElem?_cons_succ, List.getElem?_cons_zero]; rfl) (by kernel_rfl) (by kernel_rfl) (by kernel_rfl) (by intro _ _ _ h; exact h) (by rfl) (fun W hW => by go_simp; first | done | with_reducible rfl) hS ?_
      try simp only [Act.put, List.setIfInBounds_toArray, List.set_cons_zero, List.set_cons_succ]
      refine take_step (i := 17) (by simp only [List.getElem?_toArray, List.getElem?_cons_succ, List.getElem?_cons_zero]; rfl) (by kernel_rfl) (by kernel_rfl) (by kernel_rfl) (by intro _ _ _ h; exact h) (by rfl) (fun W hW => by go_simp; first | done | with_reducible rfl) hS ?_
      try simp only [Act.put, List.setIfInBounds_toArray, List.set_cons_zero, List.set_cons_succ]
      refine take_step (i := 18) (by simp only [List.getElem?_toArray, List.getElem?_cons_succ, List.getElem?_cons_zero]; rfl) (by kernel_rfl) (by kernel_rfl) (by kernel_rfl) (by intro _ _ _ h; exact h) (by rfl) (fun W hW => by go_simp; first | done | with_reducible rfl) hS ?_
      try simp only [Act.put, List.setIfInBounds_toArray, List.set_cons_zero, List.set_cons_succ]
      refine wpAnyH_done (by kernel_rfl) ?_ _
      have HB6 := hid (below_step HW.out hS14)
      clear hS14 hS7 q0 q1 q2
      rw [HSUM.out, HWR.out]
      go_wp2_with fail
      go_roundw
      case rel => exact ⟨k + 1, by omega, rfl, by go_num, HB6⟩
      case measure => simp [intOf]; omega
    · obtain rfl : k = n := by omega
      have HTL := hid (show l.take k = l by rw [HLN.out]; exact List.take_length)
      rw [HTL.out]
      have HW1 := HW
      have hsl : csum l ≤ 4398046511104 := HS.out
      have hkm : IntKind.i64.wrap ((k : Int) - 1) = ((k - 1 : Nat) : Int) := by rw [IntWalk.i64_in _ ⟨by omega, by omega⟩]; omega
      have hkm2 : (k : Int) - 1 = ((k - 1 : Nat) : Int) := by omega
      have HTM := hid (show (l.take (k - 1)).length = k - 1 by rw [List.length_take, ← HLN.out]; omega)
      have HH0 := hid (show halfC l = 0 + halfG (csum l) (csum (l.take 0)) ((l.take (k - 1)).drop 0) by unfold halfC; rw [← HLN.out]; simp [csum])
      obtain ⟨ALL, hALL⟩ : ∃ ALL, ALL = csum l := ⟨_, rfl⟩
      rw [← hALL] at HH0 ⊢
      have HALL := hid hALL
      have hal2 : ALL ≤ 4398046511104 := by omega
      clear HTL hALL
      go_wp2_with fail
      clear x2 HXW HW
      go_loopw [5, 6] (fun s i wr => ∃ j : Nat, j ≤ k - 1 ∧ s = .int .i64 (csum (l.take j) : Int) ∧ i = .int .i64 (j : Int) ∧ Kept (halfC l = j + halfG ALL (csum (l.take j)) ((l.take (k - 1)).drop j)) ∧ Kept (Below w1.heap.size w1 wr)) (fun _ i _ => k - (intOf i).toNat)
      case atStart => exact ⟨0, Nat.zero_le _, rfl, rfl, HH0, HW1⟩
      case round =>
        obtain ⟨j, hj, rfl, rfl, HG, HW⟩ := hrel
        have HXW := hid (HX.out.below HW.out HX.out.lt)
        have x2 := HXW.out.cell 2
        clear HW1
        by_cases hlt : j < k - 1
        · have hjk : j < k := by omega
          obtain ⟨b, off, x, rfl, hb, hx, c0, c1⟩ := (HC.out.step HW.out).at_.get (i := j) (by rw [← HLN.out]; omega)
          have hxm := HE.out x (List.mem_of_getElem? hx)
          have HT1 := hid (fun (W : World) => refText_any x.k W hxm.1)
          have HT2 := hid (fun (W : World) => refText_any x.v W hxm.2)
          have hv1 := vlen_le x.k.length
          have hv2 := vlen_le x.v.length
          obtain ⟨T1, hT1⟩ : ∃ T, T = vbytes x.k.length ++ x.k := ⟨_, rfl⟩
          obtain ⟨T2, hT2⟩ : ∃ T, T = vbytes x.v.length ++ x.v := ⟨_, rfl⟩
          have zl1 : T1.length ≤ 70000 := by rw [hT1, List.length_append, vbytes_length]; have := hxm.1; omega
          have zl2 : T2.length ≤ 70000 := by rw [hT2, List.length_append, vbytes_length]; have := hxm.2; omega
          have z1 := bst_size T1
          have z2 := bst_size T2
          have hcl : T1.length + T2.length = clen x := by rw [hT1, hT2]; simp only [List.length_append, vbytes_length, clen]
          rw [← hT1] at HT1
          rw [← hT2] at HT2
          have p1 := bst_append T1 T2
          have z3 := bst_size (T1 ++ T2)
          rw [List.length_append, hcl] at z3
          have q0 : ∀ W, Beyond wr W → W.cell? ⟨g, 2, none⟩ = some (.slice (some ⟨b, off, none⟩) k c) := fun W hW => (HXW.out.below hW HXW.out.lt).cell 2
          have q1 : ∀ W, Beyond wr W → W.cell? ⟨b, off + j * 2, none⟩ = some (.string (bst x.k)) := fun W hW => (((HC.out.step HW.out).step hW).at_.at hx).1
          have q2 : ∀ W, Beyond wr W → W.cell? ⟨b, off + j * 2 + 1, none⟩ = some (.string (bst x.v)) := fun W hW => (((HC.out.step HW.out).step hW).at_.at hx).2
          have n1 : ¬ (9223372036854775807 < T1.length + T2.length) := by omega
          have hcx := csum_mem hx
          have hct := csum_takes l j
          have HTK := hid (csum_take hx)
          have HSUM := hid (show ((csum (l.take j) : Nat) : Int) + ((clen x : Nat) : Int) = ((csum (l.take (j + 1)) : Nat) : Int) by rw [HTK.out]; omega)
          have hz1 : csum (l.take j) ≤ 4398046511104 := by have := HS.out; omega
          have hz2 : clen x ≤ 4398046511104 := by have := HS.out; omega
          have HWR := hid (show IntKind.i64.wrap ((csum (l.take (j + 1)) : Nat) : Int) = ((csum (l.take (j + 1)) : Nat) : Int) from IntWalk.i64_in _ ⟨by rw [HTK.out]; omega, by rw [HTK.out]; omega⟩)
          have hz3 : csum (l.take (j + 1)) ≤ 8796093022208 := by rw [HTK.out]; omega
          have HG2 := hid (HG.out.trans (by rw [halfG_drop (x := x) (by rw [List.getElem?_take, if_pos hlt]; exact hx), ← HTK.out]))
          generalize clen x = CX at *
          clear hT1 hT2 hxm hv1 hv2 hx c0 c1 hb hcx hct HTK hcl
          go_upto_region 10 with fail
          refine wp_region_held_drew (S := Beyond wr) (by kernel_rfl) (Beyond.drew _) (fun hS => ?_)
          refine take_step (i := 0) (by simp only [List.getElem?_toArray, List.getElem?_cons_zero]; rfl) (by kernel_rfl) (by kernel_rfl) (by kernel_rfl) (by intro _ _ _ h; exact h) (by rfl) (fun W hW => by go_simp; first | done | with_reducible rfl) hS ?_
          try simp only [Act.put, List.setIfInBounds_toArray, List.set_cons_zero, List.set_cons_succ]
          refine take_step (i := 1) (by simp only [List.getElem?_toArray, List.getElem?_cons_succ, List.getElem?_cons_zero]; rfl) (by kernel_rfl) (by kernel_rfl) (by kernel_rfl) (by intro _ _ _ h; exact h) (by rfl) (fun W hW => by go_simp; first | done | with_reducible rfl) hS ?_
          try simp only [Act.put, List.setIfInBounds_toArray, List.set_cons_zero, List.set_cons_succ]
          refine take_step (i := 2) (by simp only [List.getElem?_toArray, List.getElem?_cons_succ, List.getElem?_cons_zero]; rfl) (by kernel_rfl) (by kernel_rfl) (by kernel_rfl) (by intro _ _ _ h; exact h) (by rfl) (fun W hW => by go_simp; first | done | with_reducible rfl) hS ?_
          try simp only [Act.put, List.setIfInBounds_toArray, List.set_cons_zero, List.set_cons_succ]
          refine take_step (i := 3) (by simp only [List.getElem?_toArray, List.getElem?_cons_succ, List.getElem?_cons_zero]; rfl) (by kernel_rfl) (by kernel_rfl) (by kernel_rfl) (by intro _ _ _ h; exact h) (by rfl) (fun W hW => by go_simp; first | done | with_reducible rfl) hS ?_
          try simp only [Act.put, List.setIfInBounds_toArray, List.set_cons_zero, List.set_cons_succ]
          refine take_step (i := 4) (by simp only [List.getElem?_toArray, List.getElem?_cons_succ, List.getElem?_cons_zero]; rfl) (by kernel_rfl) (by kernel_rfl) (by kernel_rfl) (by intro _ _ _ h; exact h) (by rfl) (fun W hW => by go_simp; first | done | with_reducible rfl) hS ?_
          try simp only [Act.put, List.setIfInBounds_toArray, List.set_cons_zero, List.set_cons_succ]
          refine take_step (i := 5) (by simp only [List.getElem?_toArray, List.getElem?_cons_succ, List.getElem?_cons_zero]; rfl) (by kernel_rfl) (by kernel_rfl) (by kernel_rfl) (by intro _ _ _ h; exact h) (by rfl) (fun W hW => by go_simp; first | done | with_reducible rfl) hS ?_
          try simp only [Act.put, List.setIfInBounds_toArray, List.set_cons_zero, List.set_cons_succ]
          refine take_step (i := 6) (by simp only [List.getElem?_toArray, List.getElem?_cons_succ, List.getElem?_cons_zero]; rfl) (by kernel_rfl) (by kernel_rfl) (by kernel_rfl) (by intro _ _ _ h; exact h) (by rfl) (fun W hW => by go_simp; first | done | with_reducible rfl) hS ?_
          try simp only [Act.put, List.setIfInBounds_toArray, List.set_cons_zero, List.set_cons_succ]
          refine take_step (i := 8) (by simp only [List.getElem?_toArray, List.getElem?_cons_succ, List.getElem?_cons_zero]; rfl) (by kernel_rfl) (by kernel_rfl) (by kernel_rfl) (by intro _ _ _ h; exact h) (by rfl) (fun W hW => by go_simp; first | done | with_reducible rfl) hS ?_
          try simp only [Act.put, List.setIfInBounds_toArray, List.set_cons_zero, List.set_cons_succ]
          refine take_step (i := 9) (by simp only [List.getElem?_toArray, List.getElem?_cons_succ, List.getElem?_cons_zero]; rfl) (by kernel_rfl) (by kernel_rfl) (by kernel_rfl) (by intro _ _ _ h; exact h) (by rfl) (fun W hW => by go_simp; first | done | with_reducible rfl) hS ?_
          try simp only [Act.put, List.setIfInBounds_toArray, List.set_cons_zero, List.set_cons_succ]
          refine take_step (i := 10) (by simp only [List.getElem?_toArray, List.getElem?_cons_succ, List.getElem?_cons_zero]; rfl) (by kernel_rfl) (by kernel_rfl) (by kernel_rfl) (by intro _ _ _ h; exact h) (by rfl) (fun W hW => by go_simp; first | done | with_reducible rfl) hS ?_
          try simp only [Act.put, List.setIfInBounds_toArray, List.set_cons_zero, List.set_cons_succ]
          refine take_step (i := 11) (by simp only [List.getElem?_toArray, List.getElem?_cons_succ, List.getElem?_cons_zero]; rfl) (by kernel_rfl) (by kernel_rfl) (by kernel_rfl) (by intro _ _ _ h; exact h) (by rfl) (fun W hW => by go_simp; first | done | with_reducible rfl) hS ?_
          try simp only [Act.put, List.setIfInBounds_toArray, List.set_cons_zero, List.set_cons_succ]
          refine take_step (i := 12) (by simp only [List.getElem?_toArray, List.getElem?_cons_succ, List.getElem?_cons_zero]; rfl) (by kernel_rfl) (by kernel_rfl) (by kernel_rfl) (by intro _ _ _ h; exact h) (by rfl) (fun W hW => by go_simp; first | done | with_reducible rfl) hS ?_
          try simp only [Act.put, List.setIfInBounds_toArray, List.set_cons_zero, List.set_cons_succ]
          refine take_step (i := 13) (by simp only [List.getElem?_toArray, List.getElem?_cons_succ, List.getElem?_cons_zero]; rfl) (by kernel_rfl) (by kernel_rfl) (by kernel_rfl) (by intro _ _ _ h; exact h) (by rfl) (fun W hW => by go_simp; first | done | with_reducible rfl) hS ?_
          try simp only [Act.put, List.setIfInBounds_toArray, List.set_cons_zero, List.set_cons_succ]
          refine wpAnyH_ready (rs := [7]) (by kernel_rfl) (by simp) ?_
          refine AllReadyH.cons (by simp only [List.getElem?_toArray, List.getElem?_cons_succ, List.getElem?_cons_zero]; rfl) (fun K hK => ?_) AllReadyH.nil
          go_simp
          go_fit (HT1.out _)
          rintro e w5 ⟨rfl, hb5⟩
          have hS7 := Beyond.step hS hb5
          clear hb5
          refine hK.out _ _ (by assumption) (fun _ => ?_)
          clear hK K hS
          have hS := hS7
          try simp only [Act.put, List.setIfInBounds_toArray, List.set_cons_zero, List.set_cons_succ]
          refine wpAnyH_ready (rs := [14]) (by kernel_rfl) (by simp) ?_
          refine AllReadyH.cons (by simp only [List.getElem?_toArray, List.getElem?_cons_succ, List.getElem?_cons_zero]; rfl) (fun K hK => ?_) AllReadyH.nil
          go_simp
          go_fit (HT2.out _)
          rintro e w6 ⟨rfl, hb6⟩
          have hS14 := Beyond.step hS hb6
          clear hb6
          refine hK.out _ _ (by assumption) (fun _ => ?_)
          clear hK K hS
          have hS := hS14
          try simp only [Act.put, List.setIfInBounds_toArray, List.set_cons_zero, List.set_cons_succ]
          refine take_step (i := 15) (by simp only [List.getElem?_toArray, List.getElem?_cons_succ, List.getElem?_cons_zero]; rfl) (by kernel_rfl) (by kernel_rfl) (by kernel_rfl) (by intro _ _ _ h; exact h) (by rfl) (fun W hW => by go_simp; first | done | with_reducible rfl) hS ?_
          try simp only [Act.put, List.setIfInBounds_toArray, List.set_cons_zero, List.set_cons_succ]
          refine take_step (i := 16) (by simp only [List.getElem?_toArray, List.getElem?_cons_succ, List.getElem?_cons_zero]; rfl) (by kernel_rfl) (by kernel_rfl) (by kernel_rfl) (by intro _ _ _ h; exact h) (by rfl) (fun W hW => by go_simp; first | done | with_reducible rfl) hS ?_
          try simp only [Act.put, List.setIfInBounds_toArray, List.set_cons_zero, List.set_cons_succ]
          refine take_step (i := 17) (by simp only [List.getElem?_toArray, List.getElem?_cons_succ, List.getElem?_cons_zero]; rfl) (by kernel_rfl) (by kernel_rfl) (by kernel_rfl) (by intro _ _ _ h; exact h) (by rfl) (fun W hW => by go_simp; first | done | with_reducible rfl) hS ?_
          try simp only [Act.put, List.setIfInBounds_toArray, List.set_cons_zero, List.set_cons_succ]
          refine take_step (i := 18) (by simp only [List.getElem?_toArray, List.getElem?_cons_succ, List.getElem?_cons_zero]; rfl) (by kernel_rfl) (by kernel_rfl) (by kernel_rfl) (by intro _ _ _ h; exact h) (by rfl) (fun W hW => by go_simp; first | done | with_reducible rfl) hS ?_
          try simp only [Act.put, List.setIfInBounds_toArray, List.set_cons_zero, List.set_cons_succ]
          refine wpAnyH_done (by kernel_rfl) ?_ _
          have HB6 := hid (below_step HW.out hS14)
          clear hS14 hS7 q0 q1 q2
          rw [HSUM.out, HWR.out]
          obtain ⟨F, hF⟩ : ∃ F, F = csum (l.take (j + 1)) := ⟨_, rfl⟩
          rw [← hF] at HG2 hz3 ⊢
          have HF := hid hF
          clear hF HSUM HWR
          by_cases hhalf : ALL ≤ 2 * F
          · have hhalf' : ((2 : Int) * (F : Int) < (ALL : Int)) = False := by simp; omega
            have HEQ := hid (show halfC l = j + 1 by rw [HG2.out, if_pos hhalf])
            go_wp2_with fail
            go_ret
            rw [HEQ.out]
            exact ⟨rfl, below_step HB.out HB6.out⟩
          · have hhalf' : (2 : Int) * (F : Int) < (ALL : Int) := by omega
            have HEQ := hid (show halfC l = (j + 1) + halfG ALL (csum (l.take (j + 1))) ((l.take (k - 1)).drop (j + 1)) by rw [HG2.out, if_neg hhalf, HF.out]; omega)
            go_wp2_with fail
            go_roundw
            case rel => exact ⟨j + 1, by omega, by rw [HF.out], by go_num, HEQ, HB6⟩
            case measure => simp [intOf]; omega
        · obtain rfl : j = k - 1 := by omega
          have HE2 := hid (show halfC l = k - 1 by rw [HG.out, List.drop_eq_nil_of_le (by rw [HTM.out]; omega)]; rfl)
          go_wp2_with fail
          go_ret
          rw [HE2.out]
          exact ⟨rfl, below_step HB.out HW.out⟩

end Go.Proofs.YtikggbopoajcbaaDoor
