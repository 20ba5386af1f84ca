/-
  The document's Put, by its contract.
-/
import Derived.Test.YtcdjbacljnofiaaRefBCheck
import Derived.Test.YtcdjbacljnofiaaRefText
import Derived.Test.YtcdjbacljnofiaaJBytes
namespace Go.Proofs.Ytcdjbacljnofiaa
open Go Go.RowKit

set_option maxHeartbeats 4000000 in
theorem refBPut_no {c r s : Nat} {C : Nat} {A : Option Addr} {n cap B : Nat} {ws : List Wt} {w : World} (hk : chk ws = C) (h0 : C ≠ 0) (hA : WAt w B A ws) (hn : n = ws.length) (hB : B ≤ w.heap.size) :
    Calls Try.prog 18 #[.agg #[.int .u64 (c : Int), .int .u64 (r : Int), .int .u64 (s : Int), .slice A n cap]] w fun e w' => e = .returned (.tuple #[.string (bst []), .int .i64 (C : Int)]) ∧ Below w.heap.size w w' := by
  have hk2 : ((C : Int) != 0) = true := (nat_ne h0).2
  clear h0
  have hb1 : Below w.heap.size w (w.alloc (.cells #[.int .u64 (c : Int), .int .u64 (r : Int), .int .u64 (s : Int), .slice A n cap] 25)) := (Below.refl _ _).alloc (Nat.le_refl _) _
  obtain ⟨c0, c1, c2, c3⟩ := box_cells w 25 (.int .u64 (c : Int)) (.int .u64 (r : Int)) (.int .u64 (s : Int)) (.slice A n cap)
  have HN := hid hn
  have HB1 := hid hb1
  have HSZ := hid (show (w.alloc (.cells #[.int .u64 (c : Int), .int .u64 (r : Int), .int .u64 (s : Int), .slice A n cap] 25)).heap.size = w.heap.size + 1 by simp)
  have HA := hid (hA.below (hb1.mono hB))
  have HBX := hid hB
  have HCK := hid hk
  clear hA hn hb1 hB hk
  go_enter Try.func18, Try.ntmps18
  go_wp2_with fail
  generalize (w.alloc (.cells #[.int .u64 (c : Int), .int .u64 (r : Int), .int .u64 (s : Int), .slice A n cap] 25)) = w1 at *
  go_fit (refBCheck_any c r s HA.out HN.out (by have := HBX.out; have := HSZ.out; omega))
  rw [HCK.out]
  rintro e w2 ⟨rfl, hb2⟩
  have hlt1 : w.heap.size < w1.heap.size := by have := HSZ.out; omega
  have d0 := (hb2.cell (p := ⟨w.heap.size, 0, none⟩) hlt1).trans c0
  have d1 := (hb2.cell (p := ⟨w.heap.size, 1, none⟩) hlt1).trans c1
  have d2 := (hb2.cell (p := ⟨w.heap.size, 2, none⟩) hlt1).trans c2
  have d3 := (hb2.cell (p := ⟨w.heap.size, 3, none⟩) hlt1).trans c3
  have HD3 := hid d3
  have HLT := hid hlt1
  have HB2 := hid hb2
  clear c0 c1 c2 c3 hb2 hlt1
  go_wp2_with fail
  go_ret2
  exact ⟨rfl, below_step HB1.out HB2.out⟩

set_option maxHeartbeats 4000000 in
theorem refBPut_yes {c r s : Nat} {A : Option Addr} {n cap B : Nat} {ws : List Wt} {w : World} (hk : chk ws = 0) (hA : WAt w B A ws) (hn : n = ws.length) (hB : B ≤ w.heap.size)
    (hc : c < 18446744073709551616) (hr : r < 18446744073709551616) (hs : s < 18446744073709551616) :
    Calls Try.prog 18 #[.agg #[.int .u64 (c : Int), .int .u64 (r : Int), .int .u64 (s : Int), .slice A n cap]] w fun e w' => e = .returned (.tuple #[.string (bst (benc ⟨c, r, s, ws⟩)), .int .i64 0]) ∧ Below w.heap.size w w' := by
  have HC := hid hc
  have HR := hid hr
  have HS := hid hs
  have HK := hid (chk_ok hk)
  clear hc hr hs
  have hb1 : Below w.heap.size w (w.alloc (.cells #[.int .u64 (c : Int), .int .u64 (r : Int), .int .u64 (s : Int), .slice A n cap] 25)) := (Below.refl _ _).alloc (Nat.le_refl _) _
  obtain ⟨c0, c1, c2, c3⟩ := box_cells w 25 (.int .u64 (c : Int)) (.int .u64 (r : Int)) (.int .u64 (s : Int)) (.slice A n cap)
  have HN := hid hn
  have HB1 := hid hb1
  have HSZ := hid (show (w.alloc (.cells #[.int .u64 (c : Int), .int .u64 (r : Int), .int .u64 (s : Int), .slice A n cap] 25)).heap.size = w.heap.size + 1 by simp)
  have HA := hid (hA.below (hb1.mono hB))
  have HBX := hid hB
  have HCK := hid hk
  clear hA hn hb1 hB hk
  have HN8 := hid (show n ≤ 8 by rw [HN.out]; exact HK.out.2.1)
  have hn8 := HN8.out
  have z1 := bst_size (vbytes c)
  have z2 := bst_size (vbytes r)
  have z3 := bst_size (vbytes s)
  have z4 := bst_size (vbytes n)
  have z5 := bst_size (vbytes c ++ vbytes r)
  have z6 := bst_size (vbytes c ++ (vbytes r ++ vbytes s))
  rw [vbytes_length] at z1 z2 z3 z4
  rw [List.length_append, vbytes_length, vbytes_length] at z5
  rw [List.length_append, List.length_append, vbytes_length, vbytes_length, vbytes_length] at z6
  have l1 := vlen_le c
  have l2 := vlen_le r
  have l3 := vlen_le s
  have l4 := vlen_le n
  have p1 := bst_append (vbytes c) (vbytes r)
  have p2 : bst (vbytes c ++ vbytes r) ++ bst (vbytes s) = bst (vbytes c ++ (vbytes r ++ vbytes s)) := by rw [bst_append, List.append_assoc]
  have p3 : bst (vbytes c ++ (vbytes r ++ vbytes s)) ++ bst (vbytes n) = bst (bhead c r s n) := by rw [bst_append]; simp [bhead]
  have HH := hid (bhead_len c r s n)
  have n1 : ¬ (9223372036854775807 < vlen c + vlen r) := by omega
  have n2 : ¬ (9223372036854775807 < vlen c + vlen r + vlen s) := by omega
  have n3 : ¬ (9223372036854775807 < vlen c + (vlen r + vlen s) + vlen n) := by omega
  have hwr : IntKind.u64.wrap (n : Int) = (n : Int) := by rw [IntKind.wrap_u64]; omega
  have HNN := hid (show n < 18446744073709551616 by omega)
  go_enter Try.func18, Try.ntmps18
  go_wp2_with fail
  generalize (w.alloc (.cells #[.int .u64 (c : Int), .int .u64 (r : Int), .int .u64 (s : Int), .slice A n cap] 25)) = w1 at *
  go_fit (refBCheck_any c r s HA.out HN.out (by have := HBX.out; have := HSZ.out; omega))
  rw [HCK.out]
  rintro e w2 ⟨rfl, hb2⟩
  have hlt1 : w.heap.size < w1.heap.size := by have := HSZ.out; omega
  have d0 := (hb2.cell (p := ⟨w.heap.size, 0, none⟩) hlt1).trans c0
  have d1 := (hb2.cell (p := ⟨w.heap.size, 1, none⟩) hlt1).trans c1
  have d2 := (hb2.cell (p := ⟨w.heap.size, 2, none⟩) hlt1).trans c2
  have d3 := (hb2.cell (p := ⟨w.heap.size, 3, none⟩) hlt1).trans c3
  have HD3 := hid d3
  have HLT := hid hlt1
  have HB2 := hid hb2
  clear c0 c1 c2 c3 hb2 hlt1
  have hlt2 : w.heap.size < w2.heap.size := Nat.lt_of_lt_of_le HLT.out HB2.out.size
  have q0 : ∀ W, Beyond w2 W → W.cell? ⟨w.heap.size, 0, none⟩ = some (.int .u64 (c : Int)) := fun W h => (Below.cell (p := ⟨w.heap.size, 0, none⟩) h hlt2).trans d0
  have q1 : ∀ W, Beyond w2 W → W.cell? ⟨w.heap.size, 1, none⟩ = some (.int .u64 (r : Int)) := fun W h => (Below.cell (p := ⟨w.heap.size, 1, none⟩) h hlt2).trans d1
  have q2 : ∀ W, Beyond w2 W → W.cell? ⟨w.heap.size, 2, none⟩ = some (.int .u64 (s : Int)) := fun W h => (Below.cell (p := ⟨w.heap.size, 2, none⟩) h hlt2).trans d2
  have q3 : ∀ W, Beyond w2 W → W.cell? ⟨w.heap.size, 3, none⟩ = some (.slice A n cap) := fun W h => (Below.cell (p := ⟨w.heap.size, 3, none⟩) h hlt2).trans d3
  go_wp2_with fail
  refine wp_region_held_drew (S := Beyond w2) (by kernel_rfl) (Beyond.drew _) (fun hS => ?_)
  refine take_step (i := 0) (by simp only [List.getElem?_toArray, List.getElem?_cons_zero]; rfl) (by kernel_rfl) (by kernel_rfl) (by kernel_rfl) (by intro _ _ _ h; exact h) (by rfl) (fun W hW => by go_simp; first | done | with_reducible rfl) hS ?_
  try simp only [Act.put, List.setIfInBounds_toArray, List.set_cons_zero, List.set_cons_succ]
  refine take_step (i := 1) (by simp only [List.getElem?_toArray, List.getElem?_cons_succ, List.getElem?_cons_zero]; rfl) (by kernel_rfl) (by kernel_rfl) (by kernel_rfl) (by intro _ _ _ h; exact h) (by rfl) (fun W hW => by go_simp; first | done | with_reducible rfl) hS ?_
  try simp only [Act.put, List.setIfInBounds_toArray, List.set_cons_zero, List.set_cons_succ]
  refine take_step (i := 3) (by simp only [List.getElem?_toArray, List.getElem?_cons_succ, List.getElem?_cons_zero]; rfl) (by kernel_rfl) (by kernel_rfl) (by kernel_rfl) (by intro _ _ _ h; exact h) (by rfl) (fun W hW => by go_simp; first | done | with_reducible rfl) hS ?_
  try simp only [Act.put, List.setIfInBounds_toArray, List.set_cons_zero, List.set_cons_succ]
  refine take_step (i := 4) (by simp only [List.getElem?_toArray, List.getElem?_cons_succ, List.getElem?_cons_zero]; rfl) (by kernel_rfl) (by kernel_rfl) (by kernel_rfl) (by intro _ _ _ h; exact h) (by rfl) (fun W hW => by go_simp; first | done | with_reducible rfl) hS ?_
  try simp only [Act.put, List.setIfInBounds_toArray, List.set_cons_zero, List.set_cons_succ]
  refine take_step (i := 7) (by simp only [List.getElem?_toArray, List.getElem?_cons_succ, List.getElem?_cons_zero]; rfl) (by kernel_rfl) (by kernel_rfl) (by kernel_rfl) (by intro _ _ _ h; exact h) (by rfl) (fun W hW => by go_simp; first | done | with_reducible rfl) hS ?_
  try simp only [Act.put, List.setIfInBounds_toArray, List.set_cons_zero, List.set_cons_succ]
  refine take_step (i := 8) (by simp only [List.getElem?_toArray, List.getElem?_cons_succ, List.getElem?_cons_zero]; rfl) (by kernel_rfl) (by kernel_rfl) (by kernel_rfl) (by intro _ _ _ h; exact h) (by rfl) (fun W hW => by go_simp; first | done | with_reducible rfl) hS ?_
  try simp only [Act.put, List.setIfInBounds_toArray, List.set_cons_zero, List.set_cons_succ]
  refine take_step (i := 11) (by simp only [List.getElem?_toArray, List.getElem?_cons_succ, List.getElem?_cons_zero]; rfl) (by kernel_rfl) (by kernel_rfl) (by kernel_rfl) (by intro _ _ _ h; exact h) (by rfl) (fun W hW => by go_simp; first | done | with_reducible rfl) hS ?_
  try simp only [Act.put, List.setIfInBounds_toArray, List.set_cons_zero, List.set_cons_succ]
  refine take_step (i := 12) (by simp only [List.getElem?_toArray, List.getElem?_cons_succ, List.getElem?_cons_zero]; rfl) (by kernel_rfl) (by kernel_rfl) (by kernel_rfl) (by intro _ _ _ h; exact h) (by rfl) (fun W hW => by go_simp; first | done | with_reducible rfl) hS ?_
  try simp only [Act.put, List.setIfInBounds_toArray, List.set_cons_zero, List.set_cons_succ]
  refine take_step (i := 13) (by simp only [List.getElem?_toArray, List.getElem?_cons_succ, List.getElem?_cons_zero]; rfl) (by kernel_rfl) (by kernel_rfl) (by kernel_rfl) (by intro _ _ _ h; exact h) (by rfl) (fun W hW => by go_simp; first | done | with_reducible rfl) hS ?_
  try simp only [Act.put, List.setIfInBounds_toArray, List.set_cons_zero, List.set_cons_succ]
  refine take_step (i := 14) (by simp only [List.getElem?_toArray, List.getElem?_cons_succ, List.getElem?_cons_zero]; rfl) (by kernel_rfl) (by kernel_rfl) (by kernel_rfl) (by intro _ _ _ h; exact h) (by rfl) (fun W hW => by go_simp; first | done | with_reducible rfl) hS ?_
  try simp only [Act.put, List.setIfInBounds_toArray, List.set_cons_zero, List.set_cons_succ]
  refine wpAnyH_ready (rs := [2]) (by kernel_rfl) (by simp) ?_
  refine AllReadyH.cons (by simp only [List.getElem?_toArray, List.getElem?_cons_succ, List.getElem?_cons_zero]; rfl) (fun K hK => ?_) AllReadyH.nil
  go_simp
  go_fit (refVar_any c _ HC.out)
  rintro e w3 ⟨rfl, hb3⟩
  have hS2 := Beyond.step hS hb3
  clear hb3
  refine hK.out _ _ (by assumption) (fun _ => ?_)
  clear hK K hS
  have hS := hS2
  try simp only [Act.put, List.setIfInBounds_toArray, List.set_cons_zero, List.set_cons_succ]
  refine wpAnyH_ready (rs := [5]) (by kernel_rfl) (by simp) ?_
  refine AllReadyH.cons (by simp only [List.getElem?_toArray, List.getElem?_cons_succ, List.getElem?_cons_zero]; rfl) (fun K hK => ?_) AllReadyH.nil
  go_simp
  go_fit (refVar_any r _ HR.out)
  rintro e w4 ⟨rfl, hb4⟩
  have hS5 := Beyond.step hS hb4
  clear hb4
  refine hK.out _ _ (by assumption) (fun _ => ?_)
  clear hK K hS
  have hS := hS5
  try simp only [Act.put, List.setIfInBounds_toArray, List.set_cons_zero, List.set_cons_succ]
  refine take_step (i := 6) (by simp only [List.getElem?_toArray, List.getElem?_cons_succ, List.getElem?_cons_zero]; rfl) (by kernel_rfl) (by kernel_rfl) (by kernel_rfl) (by intro _ _ _ h; exact h) (by rfl) (fun W hW => by go_simp; first | done | with_reducible rfl) hS ?_
  try simp only [Act.put, List.setIfInBounds_toArray, List.set_cons_zero, List.set_cons_succ]
  refine wpAnyH_ready (rs := [9]) (by kernel_rfl) (by simp) ?_
  refine AllReadyH.cons (by simp only [List.getElem?_toArray, List.getElem?_cons_succ, List.getElem?_cons_zero]; rfl) (fun K hK => ?_) AllReadyH.nil
  go_simp
  go_fit (refVar_any s _ HS.out)
  rintro e w5 ⟨rfl, hb5⟩
  have hS9 := Beyond.step hS hb5
  clear hb5
  refine hK.out _ _ (by assumption) (fun _ => ?_)
  clear hK K hS
  have hS := hS9
  try simp only [Act.put, List.setIfInBounds_toArray, List.set_cons_zero, List.set_cons_succ]
  refine take_step (i := 10) (by simp only [List.getElem?_toArray, List.getElem?_cons_succ, List.getElem?_cons_zero]; rfl) (by kernel_rfl) (by kernel_rfl) (by kernel_rfl) (by intro _ _ _ h; exact h) (by rfl) (fun W hW => by go_simp; first | done | with_reducible rfl) hS ?_
  try simp only [Act.put, List.setIfInBounds_toArray, List.set_cons_zero, List.set_cons_succ]
  refine wpAnyH_ready (rs := [15]) (by kernel_rfl) (by simp) ?_
  refine AllReadyH.cons (by simp only [List.getElem?_toArray, List.getElem?_cons_succ, List.getElem?_cons_zero]; rfl) (fun K hK => ?_) AllReadyH.nil
  go_simp
  go_fit (refVar_any n _ HNN.out)
  rintro e w6 ⟨rfl, hb6⟩
  have hS15 := Beyond.step hS hb6
  clear hb6
  refine hK.out _ _ (by assumption) (fun _ => ?_)
  clear hK K hS
  have hS := hS15
  try simp only [Act.put, List.setIfInBounds_toArray, List.set_cons_zero, List.set_cons_succ]
  refine take_step (i := 16) (by simp only [List.getElem?_toArray, List.getElem?_cons_succ, List.getElem?_cons_zero]; rfl) (by kernel_rfl) (by kernel_rfl) (by kernel_rfl) (by intro _ _ _ h; exact h) (by rfl) (fun W hW => by go_simp; first | done | with_reducible rfl) hS ?_
  try simp only [Act.put, List.setIfInBounds_toArray, List.set_cons_zero, List.set_cons_succ]
  refine take_step (i := 17) (by simp only [List.getElem?_toArray, List.getElem?_cons_succ, List.getElem?_cons_zero]; rfl) (by kernel_rfl) (by kernel_rfl) (by kernel_rfl) (by intro _ _ _ h; exact h) (by rfl) (fun W hW => by go_simp; first | done | with_reducible rfl) hS ?_
  try simp only [Act.put, List.setIfInBounds_toArray, List.set_cons_zero, List.set_cons_succ]
  refine wpAnyH_done (by kernel_rfl) ?_ _
  have HBS := hid hS15
  clear hS15 hS9 hS5 hS2 q0 q1 q2 q3 d0 d1 d2 d3
  clear z1 z2 z3 z4 z5 z6 l1 l2 l3 l4 p1 p2 p3 n1 n2 n3 hwr
  have HB6 := hid (below_step (below_step HB1.out HB2.out) HBS.out)
  have HA6 := hid ((HA.out.below (HB2.out.mono (by have := HBX.out; have := HSZ.out; omega))).below (Below.mono HBS.out (by have := HBX.out; have := HSZ.out; have := HB2.out.size; omega)))
  have HQ3 := hid ((Below.cell (p := ⟨w.heap.size, 3, none⟩) HBS.out hlt2).trans HD3.out)
  have HLT6 := hid (Nat.lt_of_lt_of_le hlt2 (Below.size HBS.out))
  clear hlt2
  go_wp2_with fail
  go_loopw [5, 6] (fun u i wr => ∃ (k : Nat) (U : List UInt8), k ≤ n ∧ i = .int .i64 (k : Int) ∧ u = .string (bst U) ∧ U = bhead c r s n ++ (ws.take k).flatMap wenc ∧ Below w6.heap.size w6 wr) (fun _ i _ => n - (intOf i).toNat)
  case atStart => exact ⟨0, bhead c r s n, Nat.zero_le _, rfl, rfl, by simp, Below.refl _ _⟩
  case round =>
    obtain ⟨k, U, hk, rfl, rfl, hU, hbw⟩ := hrel
    have HU := hid hU
    have HBW := hid hbw
    have c3 := (hbw.cell (p := ⟨w.heap.size, 3, none⟩) HLT6.out).trans HQ3.out
    have zU := bst_size U
    have hUl : U.length ≤ 3000 := by
      rw [hU, List.length_append]
      have h1 := HH.out
      have h2 := wencs_len (ws.take k) fun x hx => ⟨(HK.out.2.2 x (List.mem_of_mem_take hx)).2.1, (HK.out.2.2 x (List.mem_of_mem_take hx)).2.2.1⟩
      rw [List.length_take] at h2
      have h3 := HN.out
      omega
    clear hU hbw
    by_cases hlt : k < n
    · obtain ⟨b, off, x, rfl, hb, hx, d0, d1, d2⟩ := (HA6.out.below (HBW.out.mono (by have := HLT6.out; have := HBX.out; omega))).get (k := k) (by rw [← HN.out]; exact hlt)
      have hxm := HK.out.2.2 x (List.mem_of_getElem? hx)
      have HXM := hid hxm
      have HTK := hid (take_snoc hx)
      have HAL := hid (HBW.out.alloc HBW.out.size (.cells #[.string (bst x.k), .string (bst x.v), .bool x.g] 43))
      clear hx hxm
      obtain ⟨T, hT⟩ : ∃ T, T = vbytes x.k.length ++ x.k := ⟨_, rfl⟩
      have zT := bst_size T
      have hTl : T.length ≤ 100 := by rw [hT, List.length_append, vbytes_length]; have := vlen_le x.k.length; have := HXM.out; omega
      have HT := hid hT
      have pUT := bst_append U T
      have hnw : ¬ (9223372036854775807 < U.length + T.length) := by omega
      have HFT := hid (fun w => refText_any x.k w (by have := HXM.out; omega))
      rw [← hT] at HFT
      clear hT
      cases hg : x.g with
      | true =>
        rw [hg] at d2 HAL
        have HV := hid (show U ++ T ++ [1] = bhead c r s n ++ (ws.take (k + 1)).flatMap wenc by rw [HTK.out, List.flatMap_append, HU.out, HT.out]; simp [wenc, hg])
        obtain ⟨UT, hUT⟩ : ∃ UT, UT = U ++ T := ⟨_, rfl⟩
        rw [← hUT] at pUT HV
        have zUT := bst_size UT
        have hUTl : UT.length ≤ 3100 := by rw [hUT, List.length_append]; omega
        have pE : bst UT ++ ⟨#[1]⟩ = bst (UT ++ [1]) := bst_append UT [1]
        have zE : (⟨#[1]⟩ : ByteArray).size = 1 := rfl
        clear hUT
        go_wp2_with fail
        go_fit (HFT.out _)
        rintro e w7 ⟨rfl, hb7⟩
        have HB7 := hid (HAL.out.trans (hb7.mono HAL.out.size))
        have hnx := (hb7.cell (p := ⟨wr.heap.size, 2, none⟩) (by simp)).trans (show _ = some (.bool true) by rw [cell_of_row _ _ _ _ _ _ (heap_alloc_new wr _)]; rfl)
        clear hb7
        go_wp2_with fail
        go_roundw
        case rel => exact ⟨k + 1, UT ++ [1], by omega, by go_num, rfl, HV.out, HB7.out⟩
        case measure => simp [intOf]; omega
      | false =>
        rw [hg] at d2 HAL
        obtain ⟨V, hV⟩ : ∃ V, V = vbytes x.v.length ++ x.v := ⟨_, rfl⟩
        have HVV := hid (show U ++ T ++ (0 :: V) = bhead c r s n ++ (ws.take (k + 1)).flatMap wenc by rw [HTK.out, List.flatMap_append, HU.out, HT.out, hV]; simp [wenc, hg])
        have zV := bst_size V
        have hVl : V.length ≤ 300 := by rw [hV, List.length_append, vbytes_length]; have := vlen_le x.v.length; have := HXM.out; omega
        have HFV := hid (fun w => refText_any x.v w (by have := HXM.out; omega))
        rw [← hV] at HFV
        obtain ⟨UT, hUT⟩ : ∃ UT, UT = U ++ T := ⟨_, rfl⟩
        rw [← hUT] at pUT HVV
        have zUT := bst_size UT
        have hUTl : UT.length ≤ 3100 := by rw [hUT, List.length_append]; omega
        have p0V : (⟨#[0]⟩ : ByteArray) ++ bst V = bst (0 :: V) := bst_append [0] V
        have z0 : (⟨#[0]⟩ : ByteArray).size = 1 := rfl
        have z0V := bst_size (0 :: V)
        have pE := bst_append UT (0 :: V)
        have hn1 : ¬ (9223372036854775807 < 1 + V.length) := by omega
        have hn2 : ¬ (9223372036854775807 < UT.length + (V.length + 1)) := by omega
        clear hUT hV
        go_wp2_with fail
        go_fit (HFT.out _)
        rintro e w7 ⟨rfl, hb7⟩
        have HB7 := hid (HAL.out.trans (hb7.mono HAL.out.size))
        have hnx := (hb7.cell (p := ⟨wr.heap.size, 2, none⟩) (by simp)).trans (show _ = some (.bool false) by rw [cell_of_row _ _ _ _ _ _ (heap_alloc_new wr _)]; rfl)
        have hn1' := (hb7.cell (p := ⟨wr.heap.size, 1, none⟩) (by simp)).trans (show _ = some (.string (bst x.v)) by rw [cell_of_row _ _ _ _ _ _ (heap_alloc_new wr _)]; rfl)
        clear hb7
        go_wp2_with fail
        go_fit (HFV.out _)
        rintro e w8 ⟨rfl, hb8⟩
        have HB8 := hid (HB7.out.trans (hb8.mono HB7.out.size))
        clear hb8
        go_wp2_with fail
        go_roundw
        case rel => exact ⟨k + 1, UT ++ (0 :: V), by omega, by go_num, rfl, HVV.out, HB8.out⟩
        case measure => simp [intOf]; omega
    · have hE : U = benc ⟨c, r, s, ws⟩ := by rw [HU.out, List.take_of_length_le (by rw [← HN.out]; omega)]; simp [benc, bhead, HN.out]
      have HE := hid hE
      clear hE
      go_wp2_with fail
      go_ret2
      exact ⟨by rw [← HE.out]; rfl, below_step HB6.out HBW.out⟩

end Go.Proofs.Ytcdjbacljnofiaa
