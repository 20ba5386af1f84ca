/-
  The document's Fields, Rises, Same.
-/
import Derived.Test.YtikggbopoajcbaaDoorPgCheck
import Derived.Test.YtikggbopoajcbaaDoorJRefV
import Derived.Deep.Cut
import Derived.Deep.CutRange
import Derived.BigRegion
namespace Go.Proofs.YtikggbopoajcbaaDoor
open Go Go.RowKit

set_option maxHeartbeats 4000000 in
set_option maxRecDepth 100000 in
theorem refFields_any {leaf : Bool} {next : Int} {A : Option Addr} {n c B : Nat} {l : List Cl} {w : World} (h : CS w B A n c l) (hs : csum l ≤ 4398046511104) (he : ∀ x ∈ l, x.k.length ≤ 65536 ∧ x.v.length ≤ 65536) (hn : next ≤ 9223372036854775807) :
    Calls Tryd.prog 16 #[pageV leaf next A n c] w fun e w' => e = .returned (.string (bst (pfields leaf next.toNat l))) ∧ Below w.heap.size w w' := by
  have hb1 : Below w.heap.size w (w.alloc (.cells #[.bool leaf, .int .i64 next, .slice A n c] 24)) := (Below.refl _ _).alloc (Nat.le_refl _) _
  have HB := hid hb1
  have HX := hid (Blk.new w 24 #[.bool leaf, .int .i64 next, .slice A n c])
  have HC := hid (h.step hb1)
  have HS := hid hs
  have HE := hid he
  have HML := hid h.most
  have HLN := hid h.len
  have hm := h.most
  obtain ⟨V, hV⟩ : ∃ V, next.toNat = V := ⟨_, rfl⟩
  rw [hV]
  have HV1 := hid (fun (W : World) => refVar_any V W (by omega))
  have HV2 := hid (fun (W : World) => refVar_any n W (by omega))
  rw [h.len] at HV2
  have e1 := vlen_le V
  have e2 := vlen_le l.length
  have z4 := bst_size (vbytes V)
  have z5 := bst_size (vbytes l.length)
  rw [vbytes_length] at z4 z5
  have p4 := bst_append (vbytes V) (vbytes l.length)
  have z6 := bst_size (vbytes V ++ vbytes l.length)
  rw [List.length_append, vbytes_length, vbytes_length] at z6
  have n3 : ¬ (9223372036854775807 < vlen V + vlen l.length) := by omega
  have hwn : IntKind.u64.wrap (n : Int) = (n : Int) := by rw [IntWalk.u64_in _ ⟨by omega, by omega⟩]
  have hln2 : (l.length : Int) = (n : Int) := by rw [h.len]
  rw [hln2] at HV2
  clear h hs he hb1
  unfold pageV
  cases leaf with
  | true =>
    by_cases hpos : 0 < next
    · obtain rfl : next = (V : Int) := by omega
      have hVb : V < 9223372036854775808 := by omega
      have hvw : IntKind.u64.wrap (V : Int) = (V : Int) := by rw [IntWalk.u64_in _ ⟨by omega, by omega⟩]
      clear hV hn
      go_enter Tryd.func16, Tryd.ntmps16
      go_upto_region 7 with fail
      generalize w.alloc (.cells #[.bool true, .int .i64 (V : Int), .slice A n c] 24) = w1 at *
      obtain ⟨g, hg⟩ : ∃ g, w.heap.size = g := ⟨_, rfl⟩
      rw [hg] at HX ⊢
      clear hg
      have z2 : ∀ W, Beyond w1 W → W.cell? ⟨g, 2, none⟩ = some (.slice A n c) := fun W hW => (HX.out.below hW HX.out.lt).cell 2
      have p5 : (⟨#[1]⟩ : ByteArray) ++ bst (vbytes V ++ vbytes l.length) = bst ([1] ++ (vbytes V ++ vbytes l.length)) := bst_append [1] _
      have p6 : (⟨#[1]⟩ : ByteArray).size = 1 := rfl
      have n4 : ¬ (9223372036854775807 < 1 + (vlen V + vlen l.length)) := by omega
      refine wp_region_held_drew (S := Beyond w1) (by kernel_rfl) (Beyond.drew _) (fun hS => ?_)
      refine take_step (i := 0) (by simp only [List.getElem?_toArray, List.getElem?_cons_zero]; rfl) (by kernel_rfl) (by kernel_rfl) (by kernel_rfl) (by intro _ _ _ h; exact h) (by rfl) (fun W hW => by go_simp; first | done | with_reducible rfl) hS ?_
      try simp only [Act.put, List.setIfInBounds_toArray, List.set_cons_zero, List.set_cons_succ]
      refine take_step (i := 1) (by simp only [List.getElem?_toArray, List.getElem?_cons_succ, List.getElem?_cons_zero]; rfl) (by kernel_rfl) (by kernel_rfl) (by kernel_rfl) (by intro _ _ _ h; exact h) (by rfl) (fun W hW => by go_simp; first | done | with_reducible rfl) hS ?_
      try simp only [Act.put, List.setIfInBounds_toArray, List.set_cons_zero, List.set_cons_succ]
      refine take_step (i := 3) (by simp only [List.getElem?_toArray, List.getElem?_cons_succ, List.getElem?_cons_zero]; rfl) (by kernel_rfl) (by kernel_rfl) (by kernel_rfl) (by intro _ _ _ h; exact h) (by rfl) (fun W hW => by go_simp; first | done | with_reducible rfl) hS ?_
      try simp only [Act.put, List.setIfInBounds_toArray, List.set_cons_zero, List.set_cons_succ]
      refine take_step (i := 4) (by simp only [List.getElem?_toArray, List.getElem?_cons_succ, List.getElem?_cons_zero]; rfl) (by kernel_rfl) (by kernel_rfl) (by kernel_rfl) (by intro _ _ _ h; exact h) (by rfl) (fun W hW => by go_simp; first | done | with_reducible rfl) hS ?_
      try simp only [Act.put, List.setIfInBounds_toArray, List.set_cons_zero, List.set_cons_succ]
      refine take_step (i := 5) (by simp only [List.getElem?_toArray, List.getElem?_cons_succ, List.getElem?_cons_zero]; rfl) (by kernel_rfl) (by kernel_rfl) (by kernel_rfl) (by intro _ _ _ h; exact h) (by rfl) (fun W hW => by go_simp; first | done | with_reducible rfl) hS ?_
      try simp only [Act.put, List.setIfInBounds_toArray, List.set_cons_zero, List.set_cons_succ]
      refine take_step (i := 6) (by simp only [List.getElem?_toArray, List.getElem?_cons_succ, List.getElem?_cons_zero]; rfl) (by kernel_rfl) (by kernel_rfl) (by kernel_rfl) (by intro _ _ _ h; exact h) (by rfl) (fun W hW => by go_simp; first | done | with_reducible rfl) hS ?_
      try simp only [Act.put, List.setIfInBounds_toArray, List.set_cons_zero, List.set_cons_succ]
      refine wpAnyH_ready (rs := [2]) (by kernel_rfl) (by simp) ?_
      refine AllReadyH.cons (by simp only [List.getElem?_toArray, List.getElem?_cons_succ, List.getElem?_cons_zero]; rfl) (fun K hK => ?_) AllReadyH.nil
      go_simp
      go_fit (HV1.out _)
      rintro e w3 ⟨rfl, hb3⟩
      have hS2 := Beyond.step hS hb3
      clear hb3
      refine hK.out _ _ (by assumption) (fun _ => ?_)
      clear hK K hS
      have hS := hS2
      try simp only [Act.put, List.setIfInBounds_toArray, List.set_cons_zero, List.set_cons_succ]
      refine wpAnyH_ready (rs := [7]) (by kernel_rfl) (by simp) ?_
      refine AllReadyH.cons (by simp only [List.getElem?_toArray, List.getElem?_cons_succ, List.getElem?_cons_zero]; rfl) (fun K hK => ?_) AllReadyH.nil
      go_simp
      go_fit (HV2.out _)
      rintro e w4 ⟨rfl, hb4⟩
      have hS7 := Beyond.step hS hb4
      clear hb4
      refine hK.out _ _ (by assumption) (fun _ => ?_)
      clear hK K hS
      have hS := hS7
      try simp only [Act.put, List.setIfInBounds_toArray, List.set_cons_zero, List.set_cons_succ]
      refine take_step (i := 8) (by simp only [List.getElem?_toArray, List.getElem?_cons_succ, List.getElem?_cons_zero]; rfl) (by kernel_rfl) (by kernel_rfl) (by kernel_rfl) (by intro _ _ _ h; exact h) (by rfl) (fun W hW => by go_simp; first | done | with_reducible rfl) hS ?_
      try simp only [Act.put, List.setIfInBounds_toArray, List.set_cons_zero, List.set_cons_succ]
      refine take_step (i := 9) (by simp only [List.getElem?_toArray, List.getElem?_cons_succ, List.getElem?_cons_zero]; rfl) (by kernel_rfl) (by kernel_rfl) (by kernel_rfl) (by intro _ _ _ h; exact h) (by rfl) (fun W hW => by go_simp; first | done | with_reducible rfl) hS ?_
      try simp only [Act.put, List.setIfInBounds_toArray, List.set_cons_zero, List.set_cons_succ]
      refine take_step (i := 10) (by simp only [List.getElem?_toArray, List.getElem?_cons_succ, List.getElem?_cons_zero]; rfl) (by kernel_rfl) (by kernel_rfl) (by kernel_rfl) (by intro _ _ _ h; exact h) (by rfl) (fun W hW => by go_simp; first | done | with_reducible rfl) hS ?_
      try simp only [Act.put, List.setIfInBounds_toArray, List.set_cons_zero, List.set_cons_succ]
      refine wpAnyH_done (by kernel_rfl) ?_ _
      have HB4 := hid hS7
      clear hS7 hS2 z2
      have HX4 := hid (HX.out.below HB4.out HX.out.lt)
      have HC4 := hid (HC.out.step HB4.out)
      have HF4 := hid (below_step HB.out HB4.out)
      clear HB4 HX HC HB HV1 HV2 p4 p5 p6 n3 n4 z4 z5 z6
      go_wp2_with fail
      go_loopw [3, 5] (fun s i wr => ∃ (k : Nat) (U : List UInt8), k ≤ n ∧ i = .int .i64 (k : Int) ∧ s = .string (bst U) ∧ Kept (U = ([1] ++ vbytes V ++ vbytes l.length) ++ cencs (l.take k)) ∧ Kept (Below w4.heap.size w4 wr)) (fun _ i _ => n - (intOf i).toNat)
      case atStart => exact ⟨0, [1] ++ (vbytes V ++ vbytes l.length), Nat.zero_le _, rfl, rfl, hid (by simp [cencs]), hid (Below.refl _ _)⟩
      case round =>
        obtain ⟨k, U, hk, rfl, rfl, HU, HW⟩ := hrel
        have HXW := hid (HX4.out.below HW.out HX4.out.lt)
        have x2 := HXW.out.cell 2
        have hnm := HML.out
        have zU := bst_size U
        have hUl : U.length ≤ 4398046611104 := by
          rw [HU.out]
          simp only [List.length_append, vbytes_length, cencs_len, List.length_cons, List.length_nil]
          have h3 := csum_takes l k
          have h4 := HS.out
          omega
        by_cases hlt : k < n
        · obtain ⟨b, off, x, rfl, hb, hx, c0, c1⟩ := (HC4.out.step HW.out).at_.get (i := k) (by rw [← HLN.out]; exact hlt)
          have hxm := HE.out x (List.mem_of_getElem? hx)
          have HT1 := hid (fun (W : World) => refText_any x.k W hxm.1)
          have HT2 := hid (fun (W : World) => refText_any x.v W hxm.2)
          have hv1 := vlen_le x.k.length
          have hv2 := vlen_le x.v.length
          obtain ⟨T1, hT1⟩ : ∃ T, T = vbytes x.k.length ++ x.k := ⟨_, rfl⟩
          obtain ⟨T2, hT2⟩ : ∃ T, T = vbytes x.v.length ++ x.v := ⟨_, rfl⟩
          have zl1 : T1.length ≤ 70000 := by rw [hT1, List.length_append, vbytes_length]; have := hxm.1; omega
          have zl2 : T2.length ≤ 70000 := by rw [hT2, List.length_append, vbytes_length]; have := hxm.2; omega
          have z1 := bst_size T1
          have z2 := bst_size T2
          have HUN := hid (show U ++ (T1 ++ T2) = ([1] ++ vbytes V ++ vbytes l.length) ++ cencs (l.take (k + 1)) by rw [HU.out, cencs_take hx, hT1, hT2, List.append_assoc]; rfl)
          rw [← hT1] at HT1
          rw [← hT2] at HT2
          have p1 := bst_append T1 T2
          have p2 := bst_append U (T1 ++ T2)
          have z3 := bst_size (T1 ++ T2)
          rw [List.length_append] at z3
          have q0 : ∀ W, Beyond wr W → W.cell? ⟨g, 2, none⟩ = some (.slice (some ⟨b, off, none⟩) n c) := fun W hW => (HXW.out.below hW HXW.out.lt).cell 2
          have q1 : ∀ W, Beyond wr W → W.cell? ⟨b, off + k * 2, none⟩ = some (.string (bst x.k)) := fun W hW => (((HC4.out.step HW.out).step hW).at_.at hx).1
          have q2 : ∀ W, Beyond wr W → W.cell? ⟨b, off + k * 2 + 1, none⟩ = some (.string (bst x.v)) := fun W hW => (((HC4.out.step HW.out).step hW).at_.at hx).2
          have n1 : ¬ (9223372036854775807 < T1.length + T2.length) := by omega
          have n2 : ¬ (9223372036854775807 < U.length + (T1.length + T2.length)) := by omega
          clear hT1 hT2 hxm hv1 hv2 hx c0 c1 hb
          go_upto_region 11 with fail
          refine wp_region_held_drew (S := Beyond wr) (by kernel_rfl) (Beyond.drew _) (fun hS => ?_)
          refine take_step (i := 0) (by simp only [List.getElem?_toArray, List.getElem?_cons_zero]; rfl) (by kernel_rfl) (by kernel_rfl) (by kernel_rfl) (by intro _ _ _ h; exact h) (by rfl) (fun W hW => by go_simp; first | done | with_reducible rfl) hS ?_
          try simp only [Act.put, List.setIfInBounds_toArray, List.set_cons_zero, List.set_cons_succ]
          refine take_step (i := 1) (by simp only [List.getElem?_toArray, List.getElem?_cons_succ, List.getElem?_cons_zero]; rfl) (by kernel_rfl) (by kernel_rfl) (by kernel_rfl) (by intro _ _ _ h; exact h) (by rfl) (fun W hW => by go_simp; first | done | with_reducible rfl) hS ?_
          try simp only [Act.put, List.setIfInBounds_toArray, List.set_cons_zero, List.set_cons_succ]
          refine take_step (i := 2) (by simp only [List.getElem?_toArray, List.getElem?_cons_succ, List.getElem?_cons_zero]; rfl) (by kernel_rfl) (by kernel_rfl) (by kernel_rfl) (by intro _ _ _ h; exact h) (by rfl) (fun W hW => by go_simp; first | done | with_reducible rfl) hS ?_
          try simp only [Act.put, List.setIfInBounds_toArray, List.set_cons_zero, List.set_cons_succ]
          refine take_step (i := 3) (by simp only [List.getElem?_toArray, List.getElem?_cons_succ, List.getElem?_cons_zero]; rfl) (by kernel_rfl) (by kernel_rfl) (by kernel_rfl) (by intro _ _ _ h; exact h) (by rfl) (fun W hW => by go_simp; first | done | with_reducible rfl) hS ?_
          try simp only [Act.put, List.setIfInBounds_toArray, List.set_cons_zero, List.set_cons_succ]
          refine take_step (i := 4) (by simp only [List.getElem?_toArray, List.getElem?_cons_succ, List.getElem?_cons_zero]; rfl) (by kernel_rfl) (by kernel_rfl) (by kernel_rfl) (by intro _ _ _ h; exact h) (by rfl) (fun W hW => by go_simp; first | done | with_reducible rfl) hS ?_
          try simp only [Act.put, List.setIfInBounds_toArray, List.set_cons_zero, List.set_cons_succ]
          refine take_step (i := 5) (by simp only [List.getElem?_toArray, List.getElem?_cons_succ, List.getElem?_cons_zero]; rfl) (by kernel_rfl) (by kernel_rfl) (by kernel_rfl) (by intro _ _ _ h; exact h) (by rfl) (fun W hW => by go_simp; first | done | with_reducible rfl) hS ?_
          try simp only [Act.put, List.setIfInBounds_toArray, List.set_cons_zero, List.set_cons_succ]
          refine take_step (i := 6) (by simp only [List.getElem?_toArray, List.getElem?_cons_succ, List.getElem?_cons_zero]; rfl) (by kernel_rfl) (by kernel_rfl) (by kernel_rfl) (by intro _ _ _ h; exact h) (by rfl) (fun W hW => by go_simp; first | done | with_reducible rfl) hS ?_
          try simp only [Act.put, List.setIfInBounds_toArray, List.set_cons_zero, List.set_cons_succ]
          refine take_step (i := 8) (by simp only [List.getElem?_toArray, List.getElem?_cons_succ, List.getElem?_cons_zero]; rfl) (by kernel_rfl) (by kernel_rfl) (by kernel_rfl) (by intro _ _ _ h; exact h) (by rfl) (fun W hW => by go_simp; first | done | with_reducible rfl) hS ?_
          try simp only [Act.put, List.setIfInBounds_toArray, List.set_cons_zero, List.set_cons_succ]
          refine take_step (i := 9) (by simp only [List.getElem?_toArray, List.getElem?_cons_succ, List.getElem?_cons_zero]; rfl) (by kernel_rfl) (by kernel_rfl) (by kernel_rfl) (by intro _ _ _ h; exact h) (by rfl) (fun W hW => by go_simp; first | done | with_reducible rfl) hS ?_
          try simp only [Act.put, List.setIfInBounds_toArray, List.set_cons_zero, List.set_cons_succ]
          refine take_step (i := 10) (by simp only [List.getElem?_toArray, List.getElem?_cons_succ, List.getElem?_cons_zero]; rfl) (by kernel_rfl) (by kernel_rfl) (by kernel_rfl) (by intro _ _ _ h; exact h) (by rfl) (fun W hW => by go_simp; first | done | with_reducible rfl) hS ?_
          try simp only [Act.put, List.setIfInBounds_toArray, List.set_cons_zero, List.set_cons_succ]
          refine take_step (i := 11) (by simp only [List.getElem?_toArray, List.getElem?_cons_succ, List.getElem?_cons_zero]; rfl) (by kernel_rfl) (by kernel_rfl) (by kernel_rfl) (by intro _ _ _ h; exact h) (by rfl) (fun W hW => by go_simp; first | done | with_reducible rfl) hS ?_
          try simp only [Act.put, List.setIfInBounds_toArray, List.set_cons_zero, List.set_cons_succ]
          refine take_step (i := 12) (by simp only [List.getElem?_toArray, List.getElem?_cons_succ, List.getElem?_cons_zero]; rfl) (by kernel_rfl) (by kernel_rfl) (by kernel_rfl) (by intro _ _ _ h; exact h) (by rfl) (fun W hW => by go_simp; first | done | with_reducible rfl) hS ?_
          try simp only [Act.put, List.setIfInBounds_toArray, List.set_cons_zero, List.set_cons_succ]
          refine take_step (i := 13) (by simp only [List.getElem?_toArray, List.getElem?_cons_succ, List.getElem?_cons_zero]; rfl) (by kernel_rfl) (by kernel_rfl) (by kernel_rfl) (by intro _ _ _ h; exact h) (by rfl) (fun W hW => by go_simp; first | done | with_reducible rfl) hS ?_
          try simp only [Act.put, List.setIfInBounds_toArray, List.set_cons_zero, List.set_cons_succ]
          refine wpAnyH_ready (rs := [7]) (by kernel_rfl) (by simp) ?_
          refine AllReadyH.cons (by simp only [List.getElem?_toArray, List.getElem?_cons_succ, List.getElem?_cons_zero]; rfl) (fun K hK => ?_) AllReadyH.nil
          go_simp
          go_fit (HT1.out _)
          rintro e w5 ⟨rfl, hb5⟩
          have hS7 := Beyond.step hS hb5
          clear hb5
          refine hK.out _ _ (by assumption) (fun _ => ?_)
          clear hK K hS
          have hS := hS7
          try simp only [Act.put, List.setIfInBounds_toArray, List.set_cons_zero, List.set_cons_succ]
          refine wpAnyH_ready (rs := [14]) (by kernel_rfl) (by simp) ?_
          refine AllReadyH.cons (by simp only [List.getElem?_toArray, List.getElem?_cons_succ, List.getElem?_cons_zero]; rfl) (fun K hK => ?_) AllReadyH.nil
          go_simp
          go_fit (HT2.out _)
          rintro e w6 ⟨rfl, hb6⟩
          have hS14 := Beyond.step hS hb6
          clear hb6
          refine hK.out _ _ (by assumption) (fun _ => ?_)
          clear hK K hS
          have hS := hS14
          try simp only [Act.put, List.setIfInBounds_toArray, List.set_cons_zero, List.set_cons_succ]
          refine take_step (i := 15) (by simp only [List.getElem?_toArray, List.getElem?_cons_succ, List.getElem?_cons_zero]; rfl) (by kernel_rfl) (by kernel_rfl) (by kernel_rfl) (by intro _ _ _ h; exact h) (by rfl) (fun W hW => by go_simp; first | done | with_reducible rfl) hS ?_
          try simp only [Act.put, List.setIfInBounds_toArray, List.set_cons_zero, List.set_cons_succ]
          refine take_step (i := 16) (by simp only [List.getElem?_toArray, List.getElem?_cons_succ, List.getElem?_cons_zero]; rfl) (by kernel_rfl) (by kernel_rfl) (by kernel_rfl) (by intro _ _ _ h; exact h) (by rfl) (fun W hW => by go_simp; first | done | with_reducible rfl) hS ?_
          try simp only [Act.put, List.setIfInBounds_toArray, List.set_cons_zero, List.set_cons_succ]
          refine take_step (i := 17) (by simp only [List.getElem?_toArray, List.getElem?_cons_succ, List.getElem?_cons_zero]; rfl) (by kernel_rfl) (by kernel_rfl) (by kernel_rfl) (by intro _ _ _ h; exact h) (by rfl) (fun W hW => by go_simp; first | done | with_reducible rfl) hS ?_
          try simp only [Act.put, List.setIfInBounds_toArray, List.set_cons_zero, List.set_cons_succ]
          refine wpAnyH_done (by kernel_rfl) ?_ _
          have HB6 := hid (below_step HW.out hS14)
          clear hS14 hS7 q0 q1 q2
          go_wp2_with fail
          go_roundw
          case rel => exact ⟨k + 1, U ++ (T1 ++ T2), by omega, by go_num, rfl, HUN, HB6⟩
          case measure => simp [intOf]; omega
        · have HE2 := hid (show U = pfields true V l by rw [HU.out, List.take_of_length_le (by rw [← HLN.out]; omega)]; rfl)
          go_wp2_with fail
          go_ret
          rw [HE2.out]
          exact ⟨rfl, below_step HF4.out HW.out⟩
    · have hpos' : next ≤ 0 := by omega
      obtain rfl : V = 0 := by omega
      clear hV hn
      go_enter Tryd.func16, Tryd.ntmps16
      go_upto_region 7 with fail
      generalize w.alloc (.cells #[.bool true, .int .i64 next, .slice A n c] 24) = w1 at *
      obtain ⟨g, hg⟩ : ∃ g, w.heap.size = g := ⟨_, rfl⟩
      rw [hg] at HX ⊢
      clear hg
      have z2 : ∀ W, Beyond w1 W → W.cell? ⟨g, 2, none⟩ = some (.slice A n c) := fun W hW => (HX.out.below hW HX.out.lt).cell 2
      have p5 : (⟨#[1]⟩ : ByteArray) ++ bst (vbytes 0 ++ vbytes l.length) = bst ([1] ++ (vbytes 0 ++ vbytes l.length)) := bst_append [1] _
      have p6 : (⟨#[1]⟩ : ByteArray).size = 1 := rfl
      have n4 : ¬ (9223372036854775807 < 1 + (vlen 0 + vlen l.length)) := by omega
      refine wp_region_held_drew (S := Beyond w1) (by kernel_rfl) (Beyond.drew _) (fun hS => ?_)
      refine take_step (i := 0) (by simp only [List.getElem?_toArray, List.getElem?_cons_zero]; rfl) (by kernel_rfl) (by kernel_rfl) (by kernel_rfl) (by intro _ _ _ h; exact h) (by rfl) (fun W hW => by go_simp; first | done | with_reducible rfl) hS ?_
      try simp only [Act.put, List.setIfInBounds_toArray, List.set_cons_zero, List.set_cons_succ]
      refine take_step (i := 1) (by simp only [List.getElem?_toArray, List.getElem?_cons_succ, List.getElem?_cons_zero]; rfl) (by kernel_rfl) (by kernel_rfl) (by kernel_rfl) (by intro _ _ _ h; exact h) (by rfl) (fun W hW => by go_simp; first | done | with_reducible rfl) hS ?_
      try simp only [Act.put, List.setIfInBounds_toArray, List.set_cons_zero, List.set_cons_succ]
      refine take_step (i := 3) (by simp only [List.getElem?_toArray, List.getElem?_cons_succ, List.getElem?_cons_zero]; rfl) (by kernel_rfl) (by kernel_rfl) (by kernel_rfl) (by intro _ _ _ h; exact h) (by rfl) (fun W hW => by go_simp; first | done | with_reducible rfl) hS ?_
      try simp only [Act.put, List.setIfInBounds_toArray, List.set_cons_zero, List.set_cons_succ]
      refine take_step (i := 4) (by simp only [List.getElem?_toArray, List.getElem?_cons_succ, List.getElem?_cons_zero]; rfl) (by kernel_rfl) (by kernel_rfl) (by kernel_rfl) (by intro _ _ _ h; exact h) (by rfl) (fun W hW => by go_simp; first | done | with_reducible rfl) hS ?_
      try simp only [Act.put, List.setIfInBounds_toArray, List.set_cons_zero, List.set_cons_succ]
      refine take_step (i := 5) (by simp only [List.getElem?_toArray, List.getElem?_cons_succ, List.getElem?_cons_zero]; rfl) (by kernel_rfl) (by kernel_rfl) (by kernel_rfl) (by intro _ _ _ h; exact h) (by rfl) (fun W hW => by go_simp; first | done | with_reducible rfl) hS ?_
      try simp only [Act.put, List.setIfInBounds_toArray, List.set_cons_zero, List.set_cons_succ]
      refine take_step (i := 6) (by simp only [List.getElem?_toArray, List.getElem?_cons_succ, List.getElem?_cons_zero]; rfl) (by kernel_rfl) (by kernel_rfl) (by kernel_rfl) (by intro _ _ _ h; exact h) (by rfl) (fun W hW => by go_simp; first | done | with_reducible rfl) hS ?_
      try simp only [Act.put, List.setIfInBounds_toArray, List.set_cons_zero, List.set_cons_succ]
      refine wpAnyH_ready (rs := [2]) (by kernel_rfl) (by simp) ?_
      refine AllReadyH.cons (by simp only [List.getElem?_toArray, List.getElem?_cons_succ, List.getElem?_cons_zero]; rfl) (fun K hK => ?_) AllReadyH.nil
      go_simp
      go_fit (HV1.out _)
      rintro e w3 ⟨rfl, hb3⟩
      have hS2 := Beyond.step hS hb3
      clear hb3
      refine hK.out _ _ (by assumption) (fun _ => ?_)
      clear hK K hS
      have hS := hS2
      try simp only [Act.put, List.setIfInBounds_toArray, List.set_cons_zero, List.set_cons_succ]
      refine wpAnyH_ready (rs := [7]) (by kernel_rfl) (by simp) ?_
      refine AllReadyH.cons (by simp only [List.getElem?_toArray, List.getElem?_cons_succ, List.getElem?_cons_zero]; rfl) (fun K hK => ?_) AllReadyH.nil
      go_simp
      go_fit (HV2.out _)
      rintro e w4 ⟨rfl, hb4⟩
      have hS7 := Beyond.step hS hb4
      clear hb4
      refine hK.out _ _ (by assumption) (fun _ => ?_)
      clear hK K hS
      have hS := hS7
      try simp only [Act.put, List.setIfInBounds_toArray, List.set_cons_zero, List.set_cons_succ]
      refine take_step (i := 8) (by simp only [List.getElem?_toArray, List.getElem?_cons_succ, List.getElem?_cons_zero]; rfl) (by kernel_rfl) (by kernel_rfl) (by kernel_rfl) (by intro _ _ _ h; exact h) (by rfl) (fun W hW => by go_simp; first | done | with_reducible rfl) hS ?_
      try simp only [Act.put, List.setIfInBounds_toArray, List.set_cons_zero, List.set_cons_succ]
      refine take_step (i := 9) (by simp only [List.getElem?_toArray, List.getElem?_cons_succ, List.getElem?_cons_zero]; rfl) (by kernel_rfl) (by kernel_rfl) (by kernel_rfl) (by intro _ _ _ h; exact h) (by rfl) (fun W hW => by go_simp; first | done | with_reducible rfl) hS ?_
      try simp only [Act.put, List.setIfInBounds_toArray, List.set_cons_zero, List.set_cons_succ]
      refine take_step (i := 10) (by simp only [List.getElem?_toArray, List.getElem?_cons_succ, List.getElem?_cons_zero]; rfl) (by kernel_rfl) (by kernel_rfl) (by kernel_rfl) (by intro _ _ _ h; exact h) (by rfl) (fun W hW => by go_simp; first | done | with_reducible rfl) hS ?_
      try simp only [Act.put, List.setIfInBounds_toArray, List.set_cons_zero, List.set_cons_succ]
      refine wpAnyH_done (by kernel_rfl) ?_ _
      have HB4 := hid hS7
      clear hS7 hS2 z2
      have HX4 := hid (HX.out.below HB4.out HX.out.lt)
      have HC4 := hid (HC.out.step HB4.out)
      have HF4 := hid (below_step HB.out HB4.out)
      clear HB4 HX HC HB HV1 HV2 p4 p5 p6 n3 n4 z4 z5 z6
      go_wp2_with fail
      go_loopw [3, 5] (fun s i wr => ∃ (k : Nat) (U : List UInt8), k ≤ n ∧ i = .int .i64 (k : Int) ∧ s = .string (bst U) ∧ Kept (U = ([1] ++ vbytes 0 ++ vbytes l.length) ++ cencs (l.take k)) ∧ Kept (Below w4.heap.size w4 wr)) (fun _ i _ => n - (intOf i).toNat)
      case atStart => exact ⟨0, [1] ++ (vbytes 0 ++ vbytes l.length), Nat.zero_le _, rfl, rfl, hid (by simp [cencs]), hid (Below.refl _ _)⟩
      case round =>
        obtain ⟨k, U, hk, rfl, rfl, HU, HW⟩ := hrel
        have HXW := hid (HX4.out.below HW.out HX4.out.lt)
        have x2 := HXW.out.cell 2
        have hnm := HML.out
        have zU := bst_size U
        have hUl : U.length ≤ 4398046611104 := by
          rw [HU.out]
          simp only [List.length_append, vbytes_length, cencs_len, List.length_cons, List.length_nil]
          have h3 := csum_takes l k
          have h4 := HS.out
          omega
        by_cases hlt : k < n
        · obtain ⟨b, off, x, rfl, hb, hx, c0, c1⟩ := (HC4.out.step HW.out).at_.get (i := k) (by rw [← HLN.out]; exact hlt)
          have hxm := HE.out x (List.mem_of_getElem? hx)
          have HT1 := hid (fun (W : World) => refText_any x.k W hxm.1)
          have HT2 := hid (fun (W : World) => refText_any x.v W hxm.2)
          have hv1 := vlen_le x.k.length
          have hv2 := vlen_le x.v.length
          obtain ⟨T1, hT1⟩ : ∃ T, T = vbytes x.k.length ++ x.k := ⟨_, rfl⟩
          obtain ⟨T2, hT2⟩ : ∃ T, T = vbytes x.v.length ++ x.v := ⟨_, rfl⟩
          have zl1 : T1.length ≤ 70000 := by rw [hT1, List.length_append, vbytes_length]; have := hxm.1; omega
          have zl2 : T2.length ≤ 70000 := by rw [hT2, List.length_append, vbytes_length]; have := hxm.2; omega
          have z1 := bst_size T1
          have z2 := bst_size T2
          have HUN := hid (show U ++ (T1 ++ T2) = ([1] ++ vbytes 0 ++ vbytes l.length) ++ cencs (l.take (k + 1)) by rw [HU.out, cencs_take hx, hT1, hT2, List.append_assoc]; rfl)
          rw [← hT1] at HT1
          rw [← hT2] at HT2
          have p1 := bst_append T1 T2
          have p2 := bst_append U (T1 ++ T2)
          have z3 := bst_size (T1 ++ T2)
          rw [List.length_append] at z3
          have q0 : ∀ W, Beyond wr W → W.cell? ⟨g, 2, none⟩ = some (.slice (some ⟨b, off, none⟩) n c) := fun W hW => (HXW.out.below hW HXW.out.lt).cell 2
          have q1 : ∀ W, Beyond wr W → W.cell? ⟨b, off + k * 2, none⟩ = some (.string (bst x.k)) := fun W hW => (((HC4.out.step HW.out).step hW).at_.at hx).1
          have q2 : ∀ W, Beyond wr W → W.cell? ⟨b, off + k * 2 + 1, none⟩ = some (.string (bst x.v)) := fun W hW => (((HC4.out.step HW.out).step hW).at_.at hx).2
          have n1 : ¬ (9223372036854775807 < T1.length + T2.length) := by omega
          have n2 : ¬ (9223372036854775807 < U.length + (T1.length + T2.length)) := by omega
          clear hT1 hT2 hxm hv1 hv2 hx c0 c1 hb
          go_upto_region 11 with fail
          refine wp_region_held_drew (S := Beyond wr) (by kernel_rfl) (Beyond.drew _) (fun hS => ?_)
          refine take_step (i := 0) (by simp only [List.getElem?_toArray, List.getElem?_cons_zero]; rfl) (by kernel_rfl) (by kernel_rfl) (by kernel_rfl) (by intro _ _ _ h; exact h) (by rfl) (fun W hW => by go_simp; first | done | with_reducible rfl) hS ?_
          try simp only [Act.put, List.setIfInBounds_toArray, List.set_cons_zero, List.set_cons_succ]
          refine take_step (i := 1) (by simp only [List.getElem?_toArray, List.getElem?_cons_succ, List.getElem?_cons_zero]; rfl) (by kernel_rfl) (by kernel_rfl) (by kernel_rfl) (by intro _ _ _ h; exact h) (by rfl) (fun W hW => by go_simp; first | done | with_reducible rfl) hS ?_
          try simp only [Act.put, List.setIfInBounds_toArray, List.set_cons_zero, List.set_cons_succ]
          refine take_step (i := 2) (by simp only [List.getElem?_toArray, List.getElem?_cons_succ, List.getElem?_cons_zero]; rfl) (by kernel_rfl) (by kernel_rfl) (by kernel_rfl) (by intro _ _ _ h; exact h) (by rfl) (fun W hW => by go_simp; first | done | with_reducible rfl) hS ?_
          try simp only [Act.put, List.setIfInBounds_toArray, List.set_cons_zero, List.set_cons_succ]
          refine take_step (i := 3) (by simp only [List.getElem?_toArray, List.getElem?_cons_succ, List.getElem?_cons_zero]; rfl) (by kernel_rfl) (by kernel_rfl) (by kernel_rfl) (by intro _ _ _ h; exact h) (by rfl) (fun W hW => by go_simp; first | done | with_reducible rfl) hS ?_
          try simp only [Act.put, List.setIfInBounds_toArray, List.set_cons_zero, List.set_cons_succ]
          refine take_step (i := 4) (by simp only [List.getElem?_toArray, List.getElem?_cons_succ, List.getElem?_cons_zero]; rfl) (by kernel_rfl) (by kernel_rfl) (by kernel_rfl) (by intro _ _ _ h; exact h) (by rfl) (fun W hW => by go_simp; first | done | with_reducible rfl) hS ?_
          try simp only [Act.put, List.setIfInBounds_toArray, List.set_cons_zero, List.set_cons_succ]
          refine take_step (i := 5) (by simp only [List.getElem?_toArray, List.getElem?_cons_succ, List.getElem?_cons_zero]; rfl) (by kernel_rfl) (by kernel_rfl) (by kernel_rfl) (by intro _ _ _ h; exact h) (by rfl) (fun W hW => by go_simp; first | done | with_reducible rfl) hS ?_
          try simp only [Act.put, List.setIfInBounds_toArray, List.set_cons_zero, List.set_cons_succ]
          refine take_step (i := 6) (by simp only [List.getElem?_toArray, List.getElem?_cons_succ, List.getElem?_cons_zero]; rfl) (by kernel_rfl) (by kernel_rfl) (by kernel_rfl) (by intro _ _ _ h; exact h) (by rfl) (fun W hW => by go_simp; first | done | with_reducible rfl) hS ?_
          try simp only [Act.put, List.setIfInBounds_toArray, List.set_cons_zero, List.set_cons_succ]
          refine take_step (i := 8) (by simp only [List.getElem?_toArray, List.getElem?_cons_succ, List.getElem?_cons_zero]; rfl) (by kernel_rfl) (by kernel_rfl) (by kernel_rfl) (by intro _ _ _ h; exact h) (by rfl) (fun W hW => by go_simp; first | done | with_reducible rfl) hS ?_
          try simp only [Act.put, List.setIfInBounds_toArray, List.set_cons_zero, List.set_cons_succ]
          refine take_step (i := 9) (by simp only [List.getElem?_toArray, List.getElem?_cons_succ, List.getElem?_cons_zero]; rfl) (by kernel_rfl) (by kernel_rfl) (by kernel_rfl) (by intro _ _ _ h; exact h) (by rfl) (fun W hW => by go_simp; first | done | with_reducible rfl) hS ?_
          try simp only [Act.put, List.setIfInBounds_toArray, List.set_cons_zero, List.set_cons_succ]
          refine take_step (i := 10) (by simp only [List.getElem?_toArray, List.getElem?_cons_succ, List.getElem?_cons_zero]; rfl) (by kernel_rfl) (by kernel_rfl) (by kernel_rfl) (by intro _ _ _ h; exact h) (by rfl) (fun W hW => by go_simp; first | done | with_reducible rfl) hS ?_
          try simp only [Act.put, List.setIfInBounds_toArray, List.set_cons_zero, List.set_cons_succ]
          refine take_step (i := 11) (by simp only [List.getElem?_toArray, List.getElem?_cons_succ, List.getElem?_cons_zero]; rfl) (by kernel_rfl) (by kernel_rfl) (by kernel_rfl) (by intro _ _ _ h; exact h) (by rfl) (fun W hW => by go_simp; first | done | with_reducible rfl) hS ?_
          try simp only [Act.put, List.setIfInBounds_toArray, List.set_cons_zero, List.set_cons_succ]
          refine take_step (i := 12) (by simp only [List.getElem?_toArray, List.getElem?_cons_succ, List.getElem?_cons_zero]; rfl) (by kernel_rfl) (by kernel_rfl) (by kernel_rfl) (by intro _ _ _ h; exact h) (by rfl) (fun W hW => by go_simp; first | done | with_reducible rfl) hS ?_
          try simp only [Act.put, List.setIfInBounds_toArray, List.set_cons_zero, List.set_cons_succ]
          refine take_step (i := 13) (by simp only [List.getElem?_toArray, List.getElem?_cons_succ, List.getElem?_cons_zero]; rfl) (by kernel_rfl) (by kernel_rfl) (by kernel_rfl) (by intro _ _ _ h; exact h) (by rfl) (fun W hW => by go_simp; first | done | with_reducible rfl) hS ?_
          try simp only [Act.put, List.setIfInBounds_toArray, List.set_cons_zero, List.set_cons_succ]
          refine wpAnyH_ready (rs := [7]) (by kernel_rfl) (by simp) ?_
          refine AllReadyH.cons (by simp only [List.getElem?_toArray, List.getElem?_cons_succ, List.getElem?_cons_zero]; rfl) (fun K hK => ?_) AllReadyH.nil
          go_simp
          go_fit (HT1.out _)
          rintro e w5 ⟨rfl, hb5⟩
          have hS7 := Beyond.step hS hb5
          clear hb5
          refine hK.out _ _ (by assumption) (fun _ => ?_)
          clear hK K hS
          have hS := hS7
          try simp only [Act.put, List.setIfInBounds_toArray, List.set_cons_zero, List.set_cons_succ]
          refine wpAnyH_ready (rs := [14]) (by kernel_rfl) (by simp) ?_
          refine AllReadyH.cons (by simp only [List.getElem?_toArray, List.getElem?_cons_succ, List.getElem?_cons_zero]; rfl) (fun K hK => ?_) AllReadyH.nil
          go_simp
          go_fit (HT2.out _)
          rintro e w6 ⟨rfl, hb6⟩
          have hS14 := Beyond.step hS hb6
          clear hb6
          refine hK.out _ _ (by assumption) (fun _ => ?_)
          clear hK K hS
          have hS := hS14
          try simp only [Act.put, List.setIfInBounds_toArray, List.set_cons_zero, List.set_cons_succ]
          refine take_step (i := 15) (by simp only [List.getElem?_toArray, List.getElem?_cons_succ, List.getElem?_cons_zero]; rfl) (by kernel_rfl) (by kernel_rfl) (by kernel_rfl) (by intro _ _ _ h; exact h) (by rfl) (fun W hW => by go_simp; first | done | with_reducible rfl) hS ?_
          try simp only [Act.put, List.setIfInBounds_toArray, List.set_cons_zero, List.set_cons_succ]
          refine take_step (i := 16) (by simp only [List.getElem?_toArray, List.getElem?_cons_succ, List.getElem?_cons_zero]; rfl) (by kernel_rfl) (by kernel_rfl) (by kernel_rfl) (by intro _ _ _ h; exact h) (by rfl) (fun W hW => by go_simp; first | done | with_reducible rfl) hS ?_
          try simp only [Act.put, List.setIfInBounds_toArray, List.set_cons_zero, List.set_cons_succ]
          refine take_step (i := 17) (by simp only [List.getElem?_toArray, List.getElem?_cons_succ, List.getElem?_cons_zero]; rfl) (by kernel_rfl) (by kernel_rfl) (by kernel_rfl) (by intro _ _ _ h; exact h) (by rfl) (fun W hW => by go_simp; first | done | with_reducible rfl) hS ?_
          try simp only [Act.put, List.setIfInBounds_toArray, List.set_cons_zero, List.set_cons_succ]
          refine wpAnyH_done (by kernel_rfl) ?_ _
          have HB6 := hid (below_step HW.out hS14)
          clear hS14 hS7 q0 q1 q2
          go_wp2_with fail
          go_roundw
          case rel => exact ⟨k + 1, U ++ (T1 ++ T2), by omega, by go_num, rfl, HUN, HB6⟩
          case measure => simp [intOf]; omega
        · have HE2 := hid (show U = pfields true 0 l by rw [HU.out, List.take_of_length_le (by rw [← HLN.out]; omega)]; rfl)
          go_wp2_with fail
          go_ret
          rw [HE2.out]
          exact ⟨rfl, below_step HF4.out HW.out⟩
  | false =>
    by_cases hpos : 0 < next
    · obtain rfl : next = (V : Int) := by omega
      have hVb : V < 9223372036854775808 := by omega
      have hvw : IntKind.u64.wrap (V : Int) = (V : Int) := by rw [IntWalk.u64_in _ ⟨by omega, by omega⟩]
      clear hV hn
      go_enter Tryd.func16, Tryd.ntmps16
      go_upto_region 7 with fail
      generalize w.alloc (.cells #[.bool false, .int .i64 (V : Int), .slice A n c] 24) = w1 at *
      obtain ⟨g, hg⟩ : ∃ g, w.heap.size = g := ⟨_, rfl⟩
      rw [hg] at HX ⊢
      clear hg
      have z2 : ∀ W, Beyond w1 W → W.cell? ⟨g, 2, none⟩ = some (.slice A n c) := fun W hW => (HX.out.below hW HX.out.lt).cell 2
      have p5 : (⟨#[0]⟩ : ByteArray) ++ bst (vbytes V ++ vbytes l.length) = bst ([0] ++ (vbytes V ++ vbytes l.length)) := bst_append [0] _
      have p6 : (⟨#[0]⟩ : ByteArray).size = 1 := rfl
      have n4 : ¬ (9223372036854775807 < 1 + (vlen V + vlen l.length)) := by omega
      refine wp_region_held_drew (S := Beyond w1) (by kernel_rfl) (Beyond.drew _) (fun hS => ?_)
      refine take_step (i := 0) (by simp only [List.getElem?_toArray, List.getElem?_cons_zero]; rfl) (by kernel_rfl) (by kernel_rfl) (by kernel_rfl) (by intro _ _ _ h; exact h) (by rfl) (fun W hW => by go_simp; first | done | with_reducible rfl) hS ?_
      try simp only [Act.put, List.setIfInBounds_toArray, List.set_cons_zero, List.set_cons_succ]
      refine take_step (i := 1) (by simp only [List.getElem?_toArray, List.getElem?_cons_succ, List.getElem?_cons_zero]; rfl) (by kernel_rfl) (by kernel_rfl) (by kernel_rfl) (by intro _ _ _ h; exact h) (by rfl) (fun W hW => by go_simp; first | done | with_reducible rfl) hS ?_
      try simp only [Act.put, List.setIfInBounds_toArray, List.set_cons_zero, List.set_cons_succ]
      refine take_step (i := 3) (by simp only [List.getElem?_toArray, List.getElem?_cons_succ, List.getElem?_cons_zero]; rfl) (by kernel_rfl) (by kernel_rfl) (by kernel_rfl) (by intro _ _ _ h; exact h) (by rfl) (fun W hW => by go_simp; first | done | with_reducible rfl) hS ?_
      try simp only [Act.put, List.setIfInBounds_toArray, List.set_cons_zero, List.set_cons_succ]
      refine take_step (i := 4) (by simp only [List.getElem?_toArray, List.getElem?_cons_succ, List.getElem?_cons_zero]; rfl) (by kernel_rfl) (by kernel_rfl) (by kernel_rfl) (by intro _ _ _ h; exact h) (by rfl) (fun W hW => by go_simp; first | done | with_reducible rfl) hS ?_
      try simp only [Act.put, List.setIfInBounds_toArray, List.set_cons_zero, List.set_cons_succ]
      refine take_step (i := 5) (by simp only [List.getElem?_toArray, List.getElem?_cons_succ, List.getElem?_cons_zero]; rfl) (by kernel_rfl) (by kernel_rfl) (by kernel_rfl) (by intro _ _ _ h; exact h) (by rfl) (fun W hW => by go_simp; first | done | with_reducible rfl) hS ?_
      try simp only [Act.put, List.setIfInBounds_toArray, List.set_cons_zero, List.set_cons_succ]
      refine take_step (i := 6) (by simp only [List.getElem?_toArray, List.getElem?_cons_succ, List.getElem?_cons_zero]; rfl) (by kernel_rfl) (by kernel_rfl) (by kernel_rfl) (by intro _ _ _ h; exact h) (by rfl) (fun W hW => by go_simp; first | done | with_reducible rfl) hS ?_
      try simp only [Act.put, List.setIfInBounds_toArray, List.set_cons_zero, List.set_cons_succ]
      refine wpAnyH_ready (rs := [2]) (by kernel_rfl) (by simp) ?_
      refine AllReadyH.cons (by simp only [List.getElem?_toArray, List.getElem?_cons_succ, List.getElem?_cons_zero]; rfl) (fun K hK => ?_) AllReadyH.nil
      go_simp
      go_fit (HV1.out _)
      rintro e w3 ⟨rfl, hb3⟩
      have hS2 := Beyond.step hS hb3
      clear hb3
      refine hK.out _ _ (by assumption) (fun _ => ?_)
      clear hK K hS
      have hS := hS2
      try simp only [Act.put, List.setIfInBounds_toArray, List.set_cons_zero, List.set_cons_succ]
      refine wpAnyH_ready (rs := [7]) (by kernel_rfl) (by simp) ?_
      refine AllReadyH.cons (by simp only [List.getElem?_toArray, List.getElem?_cons_succ, List.getElem?_cons_zero]; rfl) (fun K hK => ?_) AllReadyH.nil
      go_simp
      go_fit (HV2.out _)
      rintro e w4 ⟨rfl, hb4⟩
      have hS7 := Beyond.step hS hb4
      clear hb4
      refine hK.out _ _ (by assumption) (fun _ => ?_)
      clear hK K hS
      have hS := hS7
      try simp only [Act.put, List.setIfInBounds_toArray, List.set_cons_zero, List.set_cons_succ]
      refine take_step (i := 8) (by simp only [List.getElem?_toArray, List.getElem?_cons_succ, List.getElem?_cons_zero]; rfl) (by kernel_rfl) (by kernel_rfl) (by kernel_rfl) (by intro _ _ _ h; exact h) (by rfl) (fun W hW => by go_simp; first | done | with_reducible rfl) hS ?_
      try simp only [Act.put, List.setIfInBounds_toArray, List.set_cons_zero, List.set_cons_succ]
      refine take_step (i := 9) (by simp only [List.getElem?_toArray, List.getElem?_cons_succ, List.getElem?_cons_zero]; rfl) (by kernel_rfl) (by kernel_rfl) (by kernel_rfl) (by intro _ _ _ h; exact h) (by rfl) (fun W hW => by go_simp; first | done | with_reducible rfl) hS ?_
      try simp only [Act.put, List.setIfInBounds_toArray, List.set_cons_zero, List.set_cons_succ]
      refine take_step (i := 10) (by simp only [List.getElem?_toArray, List.getElem?_cons_succ, List.getElem?_cons_zero]; rfl) (by kernel_rfl) (by kernel_rfl) (by kernel_rfl) (by intro _ _ _ h; exact h) (by rfl) (fun W hW => by go_simp; first | done | with_reducible rfl) hS ?_
      try simp only [Act.put, List.setIfInBounds_toArray, List.set_cons_zero, List.set_cons_succ]
      refine wpAnyH_done (by kernel_rfl) ?_ _
      have HB4 := hid hS7
      clear hS7 hS2 z2
      have HX4 := hid (HX.out.below HB4.out HX.out.lt)
      have HC4 := hid (HC.out.step HB4.out)
      have HF4 := hid (below_step HB.out HB4.out)
      clear HB4 HX HC HB HV1 HV2 p4 p5 p6 n3 n4 z4 z5 z6
      go_wp2_with fail
      go_loopw [3, 5] (fun s i wr => ∃ (k : Nat) (U : List UInt8), k ≤ n ∧ i = .int .i64 (k : Int) ∧ s = .string (bst U) ∧ Kept (U = ([0] ++ vbytes V ++ vbytes l.length) ++ cencs (l.take k)) ∧ Kept (Below w4.heap.size w4 wr)) (fun _ i _ => n - (intOf i).toNat)
      case atStart => exact ⟨0, [0] ++ (vbytes V ++ vbytes l.length), Nat.zero_le _, rfl, rfl, hid (by simp [cencs]), hid (Below.refl _ _)⟩
      case round =>
        obtain ⟨k, U, hk, rfl, rfl, HU, HW⟩ := hrel
        have HXW := hid (HX4.out.below HW.out HX4.out.lt)
        have x2 := HXW.out.cell 2
        have hnm := HML.out
        have zU := bst_size U
        have hUl : U.length ≤ 4398046611104 := by
          rw [HU.out]
          simp only [List.length_append, vbytes_length, cencs_len, List.length_cons, List.length_nil]
          have h3 := csum_takes l k
          have h4 := HS.out
          omega
        by_cases hlt : k < n
        · obtain ⟨b, off, x, rfl, hb, hx, c0, c1⟩ := (HC4.out.step HW.out).at_.get (i := k) (by rw [← HLN.out]; exact hlt)
          have hxm := HE.out x (List.mem_of_getElem? hx)
          have HT1 := hid (fun (W : World) => refText_any x.k W hxm.1)
          have HT2 := hid (fun (W : World) => refText_any x.v W hxm.2)
          have hv1 := vlen_le x.k.length
          have hv2 := vlen_le x.v.length
          obtain ⟨T1, hT1⟩ : ∃ T, T = vbytes x.k.length ++ x.k := ⟨_, rfl⟩
          obtain ⟨T2, hT2⟩ : ∃ T, T = vbytes x.v.length ++ x.v := ⟨_, rfl⟩
          have zl1 : T1.length ≤ 70000 := by rw [hT1, List.length_append, vbytes_length]; have := hxm.1; omega
          have zl2 : T2.length ≤ 70000 := by rw [hT2, List.length_append, vbytes_length]; have := hxm.2; omega
          have z1 := bst_size T1
          have z2 := bst_size T2
          have HUN := hid (show U ++ (T1 ++ T2) = ([0] ++ vbytes V ++ vbytes l.length) ++ cencs (l.take (k + 1)) by rw [HU.out, cencs_take hx, hT1, hT2, List.append_assoc]; rfl)
          rw [← hT1] at HT1
          rw [← hT2] at HT2
          have p1 := bst_append T1 T2
          have p2 := bst_append U (T1 ++ T2)
          have z3 := bst_size (T1 ++ T2)
          rw [List.length_append] at z3
          have q0 : ∀ W, Beyond wr W → W.cell? ⟨g, 2, none⟩ = some (.slice (some ⟨b, off, none⟩) n c) := fun W hW => (HXW.out.below hW HXW.out.lt).cell 2
          have q1 : ∀ W, Beyond wr W → W.cell? ⟨b, off + k * 2, none⟩ = some (.string (bst x.k)) := fun W hW => (((HC4.out.step HW.out).step hW).at_.at hx).1
          have q2 : ∀ W, Beyond wr W → W.cell? ⟨b, off + k * 2 + 1, none⟩ = some (.string (bst x.v)) := fun W hW => (((HC4.out.step HW.out).step hW).at_.at hx).2
          have n1 : ¬ (9223372036854775807 < T1.length + T2.length) := by omega
          have n2 : ¬ (9223372036854775807 < U.length + (T1.length + T2.length)) := by omega
          clear hT1 hT2 hxm hv1 hv2 hx c0 c1 hb
          go_upto_region 11 with fail
          refine wp_region_held_drew (S := Beyond wr) (by kernel_rfl) (Beyond.drew _) (fun hS => ?_)
          refine take_step (i := 0) (by simp only [List.getElem?_toArray, List.getElem?_cons_zero]; rfl) (by kernel_rfl) (by kernel_rfl) (by kernel_rfl) (by intro _ _ _ h; exact h) (by rfl) (fun W hW => by go_simp; first | done | with_reducible rfl) hS ?_
          try simp only [Act.put, List.setIfInBounds_toArray, List.set_cons_zero, List.set_cons_succ]
          refine take_step (i := 1) (by simp only [List.getElem?_toArray, List.getElem?_cons_succ, List.getElem?_cons_zero]; rfl) (by kernel_rfl) (by kernel_rfl) (by kernel_rfl) (by intro _ _ _ h; exact h) (by rfl) (fun W hW => by go_simp; first | done | with_reducible rfl) hS ?_
          try simp only [Act.put, List.setIfInBounds_toArray, List.set_cons_zero, List.set_cons_succ]
          refine take_step (i := 2) (by simp only [List.getElem?_toArray, List.getElem?_cons_succ, List.getElem?_cons_zero]; rfl) (by kernel_rfl) (by kernel_rfl) (by kernel_rfl) (by intro _ _ _ h; exact h) (by rfl) (fun W hW => by go_simp; first | done | with_reducible rfl) hS ?_
          try simp only [Act.put, List.setIfInBounds_toArray, List.set_cons_zero, List.set_cons_succ]
          refine take_step (i := 3) (by simp only [List.getElem?_toArray, List.getElem?_cons_succ, List.getElem?_cons_zero]; rfl) (by kernel_rfl) (by kernel_rfl) (by kernel_rfl) (by intro _ _ _ h; exact h) (by rfl) (fun W hW => by go_simp; first | done | with_reducible rfl) hS ?_
          try simp only [Act.put, List.setIfInBounds_toArray, List.set_cons_zero, List.set_cons_succ]
          refine take_step (i := 4) (by simp only [List.getElem?_toArray, List.getElem?_cons_succ, List.getElem?_cons_zero]; rfl) (by kernel_rfl) (by kernel_rfl) (by kernel_rfl) (by intro _ _ _ h; exact h) (by rfl) (fun W hW => by go_simp; first | done | with_reducible rfl) hS ?_
          try simp only [Act.put, List.setIfInBounds_toArray, List.set_cons_zero, List.set_cons_succ]
          refine take_step (i := 5) (by simp only [List.getElem?_toArray, List.getElem?_cons_succ, List.getElem?_cons_zero]; rfl) (by kernel_rfl) (by kernel_rfl) (by kernel_rfl) (by intro _ _ _ h; exact h) (by rfl) (fun W hW => by go_simp; first | done | with_reducible rfl) hS ?_
          try simp only [Act.put, List.setIfInBounds_toArray, List.set_cons_zero, List.set_cons_succ]
          refine take_step (i := 6) (by simp only [List.getElem?_toArray, List.getElem?_cons_succ, List.getElem?_cons_zero]; rfl) (by kernel_rfl) (by kernel_rfl) (by kernel_rfl) (by intro _ _ _ h; exact h) (by rfl) (fun W hW => by go_simp; first | done | with_reducible rfl) hS ?_
          try simp only [Act.put, List.setIfInBounds_toArray, List.set_cons_zero, List.set_cons_succ]
          refine take_step (i := 8) (by simp only [List.getElem?_toArray, List.getElem?_cons_succ, List.getElem?_cons_zero]; rfl) (by kernel_rfl) (by kernel_rfl) (by kernel_rfl) (by intro _ _ _ h; exact h) (by rfl) (fun W hW => by go_simp; first | done | with_reducible rfl) hS ?_
          try simp only [Act.put, List.setIfInBounds_toArray, List.set_cons_zero, List.set_cons_succ]
          refine take_step (i := 9) (by simp only [List.getElem?_toArray, List.getElem?_cons_succ, List.getElem?_cons_zero]; rfl) (by kernel_rfl) (by kernel_rfl) (by kernel_rfl) (by intro _ _ _ h; exact h) (by rfl) (fun W hW => by go_simp; first | done | with_reducible rfl) hS ?_
          try simp only [Act.put, List.setIfInBounds_toArray, List.set_cons_zero, List.set_cons_succ]
          refine take_step (i := 10) (by simp only [List.getElem?_toArray, List.getElem?_cons_succ, List.getElem?_cons_zero]; rfl) (by kernel_rfl) (by kernel_rfl) (by kernel_rfl) (by intro _ _ _ h; exact h) (by rfl) (fun W hW => by go_simp; first | done | with_reducible rfl) hS ?_
          try simp only [Act.put, List.setIfInBounds_toArray, List.set_cons_zero, List.set_cons_succ]
          refine take_step (i := 11) (by simp only [List.getElem?_toArray, List.getElem?_cons_succ, List.getElem?_cons_zero]; rfl) (by kernel_rfl) (by kernel_rfl) (by kernel_rfl) (by intro _ _ _ h; exact h) (by rfl) (fun W hW => by go_simp; first | done | with_reducible rfl) hS ?_
          try simp only [Act.put, List.setIfInBounds_toArray, List.set_cons_zero, List.set_cons_succ]
          refine take_step (i := 12) (by simp only [List.getElem?_toArray, List.getElem?_cons_succ, List.getElem?_cons_zero]; rfl) (by kernel_rfl) (by kernel_rfl) (by kernel_rfl) (by intro _ _ _ h; exact h) (by rfl) (fun W hW => by go_simp; first | done | with_reducible rfl) hS ?_
          try simp only [Act.put, List.setIfInBounds_toArray, List.set_cons_zero, List.set_cons_succ]
          refine take_step (i := 13) (by simp only [List.getElem?_toArray, List.getElem?_cons_succ, List.getElem?_cons_zero]; rfl) (by kernel_rfl) (by kernel_rfl) (by kernel_rfl) (by intro _ _ _ h; exact h) (by rfl) (fun W hW => by go_simp; first | done | with_reducible rfl) hS ?_
          try simp only [Act.put, List.setIfInBounds_toArray, List.set_cons_zero, List.set_cons_succ]
          refine wpAnyH_ready (rs := [7]) (by kernel_rfl) (by simp) ?_
          refine AllReadyH.cons (by simp only [List.getElem?_toArray, List.getElem?_cons_succ, List.getElem?_cons_zero]; rfl) (fun K hK => ?_) AllReadyH.nil
          go_simp
          go_fit (HT1.out _)
          rintro e w5 ⟨rfl, hb5⟩
          have hS7 := Beyond.step hS hb5
          clear hb5
          refine hK.out _ _ (by assumption) (fun _ => ?_)
          clear hK K hS
          have hS := hS7
          try simp only [Act.put, List.setIfInBounds_toArray, List.set_cons_zero, List.set_cons_succ]
          refine wpAnyH_ready (rs := [14]) (by kernel_rfl) (by simp) ?_
          refine AllReadyH.cons (by simp only [List.getElem?_toArray, List.getElem?_cons_succ, List.getElem?_cons_zero]; rfl) (fun K hK => ?_) AllReadyH.nil
          go_simp
          go_fit (HT2.out _)
          rintro e w6 ⟨rfl, hb6⟩
          have hS14 := Beyond.step hS hb6
          clear hb6
          refine hK.out _ _ (by assumption) (fun _ => ?_)
          clear hK K hS
          have hS := hS14
          try simp only [Act.put, List.setIfInBounds_toArray, List.set_cons_zero, List.set_cons_succ]
          refine take_step (i := 15) (by simp only [List.getElem?_toArray, List.getElem?_cons_succ, List.getElem?_cons_zero]; rfl) (by kernel_rfl) (by kernel_rfl) (by kernel_rfl) (by intro _ _ _ h; exact h) (by rfl) (fun W hW => by go_simp; first | done | with_reducible rfl) hS ?_
          try simp only [Act.put, List.setIfInBounds_toArray, List.set_cons_zero, List.set_cons_succ]
          refine take_step (i := 16) (by simp only [List.getElem?_toArray, List.getElem?_cons_succ, List.getElem?_cons_zero]; rfl) (by kernel_rfl) (by kernel_rfl) (by kernel_rfl) (by intro _ _ _ h; exact h) (by rfl) (fun W hW => by go_simp; first | done | with_reducible rfl) hS ?_
          try simp only [Act.put, List.setIfInBounds_toArray, List.set_cons_zero, List.set_cons_succ]
          refine take_step (i := 17) (by simp only [List.getElem?_toArray, List.getElem?_cons_succ, List.getElem?_cons_zero]; rfl) (by kernel_rfl) (by kernel_rfl) (by kernel_rfl) (by intro _ _ _ h; exact h) (by rfl) (fun W hW => by go_simp; first | done | with_reducible rfl) hS ?_
          try simp only [Act.put, List.setIfInBounds_toArray, List.set_cons_zero, List.set_cons_succ]
          refine wpAnyH_done (by kernel_rfl) ?_ _
          have HB6 := hid (below_step HW.out hS14)
          clear hS14 hS7 q0 q1 q2
          go_wp2_with fail
          go_roundw
          case rel => exact ⟨k + 1, U ++ (T1 ++ T2), by omega, by go_num, rfl, HUN, HB6⟩
          case measure => simp [intOf]; omega
        · have HE2 := hid (show U = pfields false V l by rw [HU.out, List.take_of_length_le (by rw [← HLN.out]; omega)]; rfl)
          go_wp2_with fail
          go_ret
          rw [HE2.out]
          exact ⟨rfl, below_step HF4.out HW.out⟩
    · have hpos' : next ≤ 0 := by omega
      obtain rfl : V = 0 := by omega
      clear hV hn
      go_enter Tryd.func16, Tryd.ntmps16
      go_upto_region 7 with fail
      generalize w.alloc (.cells #[.bool false, .int .i64 next, .slice A n c] 24) = w1 at *
      obtain ⟨g, hg⟩ : ∃ g, w.heap.size = g := ⟨_, rfl⟩
      rw [hg] at HX ⊢
      clear hg
      have z2 : ∀ W, Beyond w1 W → W.cell? ⟨g, 2, none⟩ = some (.slice A n c) := fun W hW => (HX.out.below hW HX.out.lt).cell 2
      have p5 : (⟨#[0]⟩ : ByteArray) ++ bst (vbytes 0 ++ vbytes l.length) = bst ([0] ++ (vbytes 0 ++ vbytes l.length)) := bst_append [0] _
      have p6 : (⟨#[0]⟩ : ByteArray).size = 1 := rfl
      have n4 : ¬ (9223372036854775807 < 1 + (vlen 0 + vlen l.length)) := by omega
      refine wp_region_held_drew (S := Beyond w1) (by kernel_rfl) (Beyond.drew _) (fun hS => ?_)
      refine take_step (i := 0) (by simp only [List.getElem?_toArray, List.getElem?_cons_zero]; rfl) (by kernel_rfl) (by kernel_rfl) (by kernel_rfl) (by intro _ _ _ h; exact h) (by rfl) (fun W hW => by go_simp; first | done | with_reducible rfl) hS ?_
      try simp only [Act.put, List.setIfInBounds_toArray, List.set_cons_zero, List.set_cons_succ]
      refine take_step (i := 1) (by simp only [List.getElem?_toArray, List.getElem?_cons_succ, List.getElem?_cons_zero]; rfl) (by kernel_rfl) (by kernel_rfl) (by kernel_rfl) (by intro _ _ _ h; exact h) (by rfl) (fun W hW => by go_simp; first | done | with_reducible rfl) hS ?_
      try simp only [Act.put, List.setIfInBounds_toArray, List.set_cons_zero, List.set_cons_succ]
      refine take_step (i := 3) (by simp only [List.getElem?_toArray, List.getElem?_cons_succ, List.getElem?_cons_zero]; rfl) (by kernel_rfl) (by kernel_rfl) (by kernel_rfl) (by intro _ _ _ h; exact h) (by rfl) (fun W hW => by go_simp; first | done | with_reducible rfl) hS ?_
      try simp only [Act.put, List.setIfInBounds_toArray, List.set_cons_zero, List.set_cons_succ]
      refine take_step (i := 4) (by simp only [List.getElem?_toArray, List.getElem?_cons_succ, List.getElem?_cons_zero]; rfl) (by kernel_rfl) (by kernel_rfl) (by kernel_rfl) (by intro _ _ _ h; exact h) (by rfl) (fun W hW => by go_simp; first | done | with_reducible rfl) hS ?_
      try simp only [Act.put, List.setIfInBounds_toArray, List.set_cons_zero, List.set_cons_succ]
      refine take_step (i := 5) (by simp only [List.getElem?_toArray, List.getElem?_cons_succ, List.getElem?_cons_zero]; rfl) (by kernel_rfl) (by kernel_rfl) (by kernel_rfl) (by intro _ _ _ h; exact h) (by rfl) (fun W hW => by go_simp; first | done | with_reducible rfl) hS ?_
      try simp only [Act.put, List.setIfInBounds_toArray, List.set_cons_zero, List.set_cons_succ]
      refine take_step (i := 6) (by simp only [List.getElem?_toArray, List.getElem?_cons_succ, List.getElem?_cons_zero]; rfl) (by kernel_rfl) (by kernel_rfl) (by kernel_rfl) (by intro _ _ _ h; exact h) (by rfl) (fun W hW => by go_simp; first | done | with_reducible rfl) hS ?_
      try simp only [Act.put, List.setIfInBounds_toArray, List.set_cons_zero, List.set_cons_succ]
      refine wpAnyH_ready (rs := [2]) (by kernel_rfl) (by simp) ?_
      refine AllReadyH.cons (by simp only [List.getElem?_toArray, List.getElem?_cons_succ, List.getElem?_cons_zero]; rfl) (fun K hK => ?_) AllReadyH.nil
      go_simp
      go_fit (HV1.out _)
      rintro e w3 ⟨rfl, hb3⟩
      have hS2 := Beyond.step hS hb3
      clear hb3
      refine hK.out _ _ (by assumption) (fun _ => ?_)
      clear hK K hS
      have hS := hS2
      try simp only [Act.put, List.setIfInBounds_toArray, List.set_cons_zero, List.set_cons_succ]
      refine wpAnyH_ready (rs := [7]) (by kernel_rfl) (by simp) ?_
      refine AllReadyH.cons (by simp only [List.getElem?_toArray, List.getElem?_cons_succ, List.getElem?_cons_zero]; rfl) (fun K hK => ?_) AllReadyH.nil
      go_simp
      go_fit (HV2.out _)
      rintro e w4 ⟨rfl, hb4⟩
      have hS7 := Beyond.step hS hb4
      clear hb4
      refine hK.out _ _ (by assumption) (fun _ => ?_)
      clear hK K hS
      have hS := hS7
      try simp only [Act.put, List.setIfInBounds_toArray, List.set_cons_zero, List.set_cons_succ]
      refine take_step (i := 8) (by simp only [List.getElem?_toArray, List.getElem?_cons_succ, List.getElem?_cons_zero]; rfl) (by kernel_rfl) (by kernel_rfl) (by kernel_rfl) (by intro _ _ _ h; exact h) (by rfl) (fun W hW => by go_simp; first | done | with_reducible rfl) hS ?_
      try simp only [Act.put, List.setIfInBounds_toArray, List.set_cons_zero, List.set_cons_succ]
      refine take_step (i := 9) (by simp only [List.getElem?_toArray, List.getElem?_cons_succ, List.getElem?_cons_zero]; rfl) (by kernel_rfl) (by kernel_rfl) (by kernel_rfl) (by intro _ _ _ h; exact h) (by rfl) (fun W hW => by go_simp; first | done | with_reducible rfl) hS ?_
      try simp only [Act.put, List.setIfInBounds_toArray, List.set_cons_zero, List.set_cons_succ]
      refine take_step (i := 10) (by simp only [List.getElem?_toArray, List.getElem?_cons_succ, List.getElem?_cons_zero]; rfl) (by kernel_rfl) (by kernel_rfl) (by kernel_rfl) (by intro _ _ _ h; exact h) (by rfl) (fun W hW => by go_simp; first | done | with_reducible rfl) hS ?_
      try simp only [Act.put, List.setIfInBounds_toArray, List.set_cons_zero, List.set_cons_succ]
      refine wpAnyH_done (by kernel_rfl) ?_ _
      have HB4 := hid hS7
      clear hS7 hS2 z2
      have HX4 := hid (HX.out.below HB4.out HX.out.lt)
      have HC4 := hid (HC.out.step HB4.out)
      have HF4 := hid (below_step HB.out HB4.out)
      clear HB4 HX HC HB HV1 HV2 p4 p5 p6 n3 n4 z4 z5 z6
      go_wp2_with fail
      go_loopw [3, 5] (fun s i wr => ∃ (k : Nat) (U : List UInt8), k ≤ n ∧ i = .int .i64 (k : Int) ∧ s = .string (bst U) ∧ Kept (U = ([0] ++ vbytes 0 ++ vbytes l.length) ++ cencs (l.take k)) ∧ Kept (Below w4.heap.size w4 wr)) (fun _ i _ => n - (intOf i).toNat)
      case atStart => exact ⟨0, [0] ++ (vbytes 0 ++ vbytes l.length), Nat.zero_le _, rfl, rfl, hid (by simp [cencs]), hid (Below.refl _ _)⟩
      case round =>
        obtain ⟨k, U, hk, rfl, rfl, HU, HW⟩ := hrel
        have HXW := hid (HX4.out.below HW.out HX4.out.lt)
        have x2 := HXW.out.cell 2
        have hnm := HML.out
        have zU := bst_size U
        have hUl : U.length ≤ 4398046611104 := by
          rw [HU.out]
          simp only [List.length_append, vbytes_length, cencs_len, List.length_cons, List.length_nil]
          have h3 := csum_takes l k
          have h4 := HS.out
          omega
        by_cases hlt : k < n
        · obtain ⟨b, off, x, rfl, hb, hx, c0, c1⟩ := (HC4.out.step HW.out).at_.get (i := k) (by rw [← HLN.out]; exact hlt)
          have hxm := HE.out x (List.mem_of_getElem? hx)
          have HT1 := hid (fun (W : World) => refText_any x.k W hxm.1)
          have HT2 := hid (fun (W : World) => refText_any x.v W hxm.2)
          have hv1 := vlen_le x.k.length
          have hv2 := vlen_le x.v.length
          obtain ⟨T1, hT1⟩ : ∃ T, T = vbytes x.k.length ++ x.k := ⟨_, rfl⟩
          obtain ⟨T2, hT2⟩ : ∃ T, T = vbytes x.v.length ++ x.v := ⟨_, rfl⟩
          have zl1 : T1.length ≤ 70000 := by rw [hT1, List.length_append, vbytes_length]; have := hxm.1; omega
          have zl2 : T2.length ≤ 70000 := by rw [hT2, List.length_append, vbytes_length]; have := hxm.2; omega
          have z1 := bst_size T1
          have z2 := bst_size T2
          have HUN := hid (show U ++ (T1 ++ T2) = ([0] ++ vbytes 0 ++ vbytes l.length) ++ cencs (l.take (k + 1)) by rw [HU.out, cencs_take hx, hT1, hT2, List.append_assoc]; rfl)
          rw [← hT1] at HT1
          rw [← hT2] at HT2
          have p1 := bst_append T1 T2
          have p2 := bst_append U (T1 ++ T2)
          have z3 := bst_size (T1 ++ T2)
          rw [List.length_append] at z3
          have q0 : ∀ W, Beyond wr W → W.cell? ⟨g, 2, none⟩ = some (.slice (some ⟨b, off, none⟩) n c) := fun W hW => (HXW.out.below hW HXW.out.lt).cell 2
          have q1 : ∀ W, Beyond wr W → W.cell? ⟨b, off + k * 2, none⟩ = some (.string (bst x.k)) := fun W hW => (((HC4.out.step HW.out).step hW).at_.at hx).1
          have q2 : ∀ W, Beyond wr W → W.cell? ⟨b, off + k * 2 + 1, none⟩ = some (.string (bst x.v)) := fun W hW => (((HC4.out.step HW.out).step hW).at_.at hx).2
          have n1 : ¬ (9223372036854775807 < T1.length + T2.length) := by omega
          have n2 : ¬ (9223372036854775807 < U.length + (T1.length + T2.length)) := by omega
          clear hT1 hT2 hxm hv1 hv2 hx c0 c1 hb
          go_upto_region 11 with fail
          refine wp_region_held_drew (S := Beyond wr) (by kernel_rfl) (Beyond.drew _) (fun hS => ?_)
          refine take_step (i := 0) (by simp only [List.getElem?_toArray, List.getElem?_cons_zero]; rfl) (by kernel_rfl) (by kernel_rfl) (by kernel_rfl) (by intro _ _ _ h; exact h) (by rfl) (fun W hW => by go_simp; first | done | with_reducible rfl) hS ?_
          try simp only [Act.put, List.setIfInBounds_toArray, List.set_cons_zero, List.set_cons_succ]
          refine take_step (i := 1) (by simp only [List.getElem?_toArray, List.getElem?_cons_succ, List.getElem?_cons_zero]; rfl) (by kernel_rfl) (by kernel_rfl) (by kernel_rfl) (by intro _ _ _ h; exact h) (by rfl) (fun W hW => by go_simp; first | done | with_reducible rfl) hS ?_
          try simp only [Act.put, List.setIfInBounds_toArray, List.set_cons_zero, List.set_cons_succ]
          refine take_step (i := 2) (by simp only [List.getElem?_toArray, List.getElem?_cons_succ, List.getElem?_cons_zero]; rfl) (by kernel_rfl) (by kernel_rfl) (by kernel_rfl) (by intro _ _ _ h; exact h) (by rfl) (fun W hW => by go_simp; first | done | with_reducible rfl) hS ?_
          try simp only [Act.put, List.setIfInBounds_toArray, List.set_cons_zero, List.set_cons_succ]
          refine take_step (i := 3) (by simp only [List.getElem?_toArray, List.getElem?_cons_succ, List.getElem?_cons_zero]; rfl) (by kernel_rfl) (by kernel_rfl) (by kernel_rfl) (by intro _ _ _ h; exact h) (by rfl) (fun W hW => by go_simp; first | done | with_reducible rfl) hS ?_
          try simp only [Act.put, List.setIfInBounds_toArray, List.set_cons_zero, List.set_cons_succ]
          refine take_step (i := 4) (by simp only [List.getElem?_toArray, List.getElem?_cons_succ, List.getElem?_cons_zero]; rfl) (by kernel_rfl) (by kernel_rfl) (by kernel_rfl) (by intro _ _ _ h; exact h) (by rfl) (fun W hW => by go_simp; first | done | with_reducible rfl) hS ?_
          try simp only [Act.put, List.setIfInBounds_toArray, List.set_cons_zero, List.set_cons_succ]
          refine take_step (i := 5) (by simp only [List.getElem?_toArray, List.getElem?_cons_succ, List.getElem?_cons_zero]; rfl) (by kernel_rfl) (by kernel_rfl) (by kernel_rfl) (by intro _ _ _ h; exact h) (by rfl) (fun W hW => by go_simp; first | done | with_reducible rfl) hS ?_
          try simp only [Act.put, List.setIfInBounds_toArray, List.set_cons_zero, List.set_cons_succ]
          refine take_step (i := 6) (by simp only [List.getElem?_toArray, List.getElem?_cons_succ, List.getElem?_cons_zero]; rfl) (by kernel_rfl) (by kernel_rfl) (by kernel_rfl) (by intro _ _ _ h; exact h) (by rfl) (fun W hW => by go_simp; first | done | with_reducible rfl) hS ?_
          try simp only [Act.put, List.setIfInBounds_toArray, List.set_cons_zero, List.set_cons_succ]
          refine take_step (i := 8) (by simp only [List.getElem?_toArray, List.getElem?_cons_succ, List.getElem?_cons_zero]; rfl) (by kernel_rfl) (by kernel_rfl) (by kernel_rfl) (by intro _ _ _ h; exact h) (by rfl) (fun W hW => by go_simp; first | done | with_reducible rfl) hS ?_
          try simp only [Act.put, List.setIfInBounds_toArray, List.set_cons_zero, List.set_cons_succ]
          refine take_step (i := 9) (by simp only [List.getElem?_toArray, List.getElem?_cons_succ, List.getElem?_cons_zero]; rfl) (by kernel_rfl) (by kernel_rfl) (by kernel_rfl) (by intro _ _ _ h; exact h) (by rfl) (fun W hW => by go_simp; first | done | with_reducible rfl) hS ?_
          try simp only [Act.put, List.setIfInBounds_toArray, List.set_cons_zero, List.set_cons_succ]
          refine take_step (i := 10) (by simp only [List.getElem?_toArray, List.getElem?_cons_succ, List.getElem?_cons_zero]; rfl) (by kernel_rfl) (by kernel_rfl) (by kernel_rfl) (by intro _ _ _ h; exact h) (by rfl) (fun W hW => by go_simp; first | done | with_reducible rfl) hS ?_
          try simp only [Act.put, List.setIfInBounds_toArray, List.set_cons_zero, List.set_cons_succ]
          refine take_step (i := 11) (by simp only [List.getElem?_toArray, List.getElem?_cons_succ, List.getElem?_cons_zero]; rfl) (by kernel_rfl) (by kernel_rfl) (by kernel_rfl) (by intro _ _ _ h; exact h) (by rfl) (fun W hW => by go_simp; first | done | with_reducible rfl) hS ?_
          try simp only [Act.put, List.setIfInBounds_toArray, List.set_cons_zero, List.set_cons_succ]
          refine take_step (i := 12) (by simp only [List.getElem?_toArray, List.getElem?_cons_succ, List.getElem?_cons_zero]; rfl) (by kernel_rfl) (by kernel_rfl) (by kernel_rfl) (by intro _ _ _ h; exact h) (by rfl) (fun W hW => by go_simp; first | done | with_reducible rfl) hS ?_
          try simp only [Act.put, List.setIfInBounds_toArray, List.set_cons_zero, List.set_cons_succ]
          refine take_step (i := 13) (by simp only [List.getElem?_toArray, List.getElem?_cons_succ, List.getElem?_cons_zero]; rfl) (by kernel_rfl) (by kernel_rfl) (by kernel_rfl) (by intro _ _ _ h; exact h) (by rfl) (fun W hW => by go_simp; first | done | with_reducible rfl) hS ?_
          try simp only [Act.put, List.setIfInBounds_toArray, List.set_cons_zero, List.set_cons_succ]
          refine wpAnyH_ready (rs := [7]) (by kernel_rfl) (by simp) ?_
          refine AllReadyH.cons (by simp only [List.getElem?_toArray, List.getElem?_cons_succ, List.getElem?_cons_zero]; rfl) (fun K hK => ?_) AllReadyH.nil
          go_simp
          go_fit (HT1.out _)
          rintro e w5 ⟨rfl, hb5⟩
          have hS7 := Beyond.step hS hb5
          clear hb5
          refine hK.out _ _ (by assumption) (fun _ => ?_)
          clear hK K hS
          have hS := hS7
          try simp only [Act.put, List.setIfInBounds_toArray, List.set_cons_zero, List.set_cons_succ]
          refine wpAnyH_ready (rs := [14]) (by kernel_rfl) (by simp) ?_
          refine AllReadyH.cons (by simp only [List.getElem?_toArray, List.getElem?_cons_succ, List.getElem?_cons_zero]; rfl) (fun K hK => ?_) AllReadyH.nil
          go_simp
          go_fit (HT2.out _)
          rintro e w6 ⟨rfl, hb6⟩
          have hS14 := Beyond.step hS hb6
          clear hb6
          refine hK.out _ _ (by assumption) (fun _ => ?_)
          clear hK K hS
          have hS := hS14
          try simp only [Act.put, List.setIfInBounds_toArray, List.set_cons_zero, List.set_cons_succ]
          refine take_step (i := 15) (by simp only [List.getElem?_toArray, List.getElem?_cons_succ, List.getElem?_cons_zero]; rfl) (by kernel_rfl) (by kernel_rfl) (by kernel_rfl) (by intro _ _ _ h; exact h) (by rfl) (fun W hW => by go_simp; first | done | with_reducible rfl) hS ?_
          try simp only [Act.put, List.setIfInBounds_toArray, List.set_cons_zero, List.set_cons_succ]
          refine take_step (i := 16) (by simp only [List.getElem?_toArray, List.getElem?_cons_succ, List.getElem?_cons_zero]; rfl) (by kernel_rfl) (by kernel_rfl) (by kernel_rfl) (by intro _ _ _ h; exact h) (by rfl) (fun W hW => by go_simp; first | done | with_reducible rfl) hS ?_
          try simp only [Act.put, List.setIfInBounds_toArray, List.set_cons_zero, List.set_cons_succ]
          refine take_step (i := 17) (by simp only [List.getElem?_toArray, List.getElem?_cons_succ, List.getElem?_cons_zero]; rfl) (by kernel_rfl) (by kernel_rfl) (by kernel_rfl) (by intro _ _ _ h; exact h) (by rfl) (fun W hW => by go_simp; first | done | with_reducible rfl) hS ?_
          try simp only [Act.put, List.setIfInBounds_toArray, List.set_cons_zero, List.set_cons_succ]
          refine wpAnyH_done (by kernel_rfl) ?_ _
          have HB6 := hid (below_step HW.out hS14)
          clear hS14 hS7 q0 q1 q2
          go_wp2_with fail
          go_roundw
          case rel => exact ⟨k + 1, U ++ (T1 ++ T2), by omega, by go_num, rfl, HUN, HB6⟩
          case measure => simp [intOf]; omega
        · have HE2 := hid (show U = pfields false 0 l by rw [HU.out, List.take_of_length_le (by rw [← HLN.out]; omega)]; rfl)
          go_wp2_with fail
          go_ret
          rw [HE2.out]
          exact ⟨rfl, below_step HF4.out HW.out⟩

end Go.Proofs.YtikggbopoajcbaaDoor
