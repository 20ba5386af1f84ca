/-
  The landed isLong, textSize, cellSize, cellsSize, Size.
-/
import Derived.Test.YtikggbopoajcbaaDoorPgMem
import Derived.Test.YtikggbopoajcbaaDoorJVars
import Derived.BigQuiet
import Derived.Lib.MinMax
import Derived.Test.YtikggbopoajcbaaDoorRegion
namespace Go.Proofs.YtikggbopoajcbaaDoor
open Go Go.RowKit

set_option maxHeartbeats 4000000 in
set_option maxRecDepth 100000 in
theorem isLong_any {x : Cl} {w : World} (hk : x.k.length ≤ 4398046511104) (hv : x.v.length ≤ 4398046511104) :
    Calls Tryd.prog 39 #[x.val] w fun e w' => e = .returned (.bool (decide (480 < x.k.length + x.v.length))) ∧ Below w.heap.size w w' := by
  have HB := hid (show Below w.heap.size w (w.alloc (.cells #[.string (bst x.k), .string (bst x.v)] 44)) from (Below.refl _ _).alloc (Nat.le_refl _) _)
  have z1 := bst_size x.k
  have z2 := bst_size x.v
  unfold Cl.val
  obtain ⟨D, hD⟩ : ∃ D, D = decide (480 < x.k.length + x.v.length) := ⟨_, rfl⟩
  rw [← hD]
  by_cases h : 480 < x.k.length + x.v.length
  · have h' : (480 : Int) < (x.k.length : Int) + (x.v.length : Int) := by omega
    obtain rfl : D = true := by rw [hD, decide_eq_true h]
    clear hD
    go_enter Tryd.func39, Tryd.ntmps39
    go_wp2_with fail
    go_ret
    exact ⟨rfl, HB.out⟩
  · have h' : ¬ (480 : Int) < (x.k.length : Int) + (x.v.length : Int) := by omega
    obtain rfl : D = false := by rw [hD, decide_eq_false h]
    clear hD
    go_enter Tryd.func39, Tryd.ntmps39
    go_wp2_with fail
    go_ret
    exact ⟨rfl, HB.out⟩

set_option maxHeartbeats 4000000 in
set_option maxRecDepth 100000 in
theorem textSize_any {s : List UInt8} {w : World} (hs : s.length ≤ 4398046511104) :
    Calls Tryd.prog 85 #[.string (bst s)] w fun e w' => e = .returned (.int .i64 ((vlen s.length + s.length : Nat) : Int)) ∧ w = w' := by
  have z := bst_size s
  have HV := hid (fun (W : World) => size_any s.length W (by omega))
  have hv := vlen_le s.length
  have HSUM := hid (show ((vlen s.length : Int) + (s.length : Int)) = ((vlen s.length + s.length : Nat) : Int) by omega)
  generalize vlen s.length = V at *
  go_enter Tryd.func85, Tryd.ntmps85
  go_wp2_with fail
  go_fit (HV.out w)
  rintro e w1 ⟨rfl, rfl⟩
  go_wp2_with fail
  rw [HSUM.out]
  go_ret
  exact ⟨rfl, rfl⟩

set_option maxHeartbeats 4000000 in
set_option maxRecDepth 100000 in
theorem cellSize_any {x : Cl} {w : World} (hk : x.k.length ≤ 4398046511104) (hv : x.v.length ≤ 4398046511104) :
    Calls Tryd.prog 65 #[x.val] w fun e w' => e = .returned (.int .i64 (clen x : Int)) ∧ Below w.heap.size w w' := by
  have HB := hid (show Below w.heap.size w (w.alloc (.cells #[.string (bst x.k), .string (bst x.v)] 44)) from (Below.refl _ _).alloc (Nat.le_refl _) _)
  have HX := hid (Blk.new w 44 #[.string (bst x.k), .string (bst x.v)])
  have HT1 := hid (fun (W : World) => textSize_any (w := W) hk)
  have HT2 := hid (fun (W : World) => textSize_any (w := W) hv)
  have e1 := vlen_le x.k.length
  have e2 := vlen_le x.v.length
  have HSUM := hid (show (((vlen x.k.length + x.k.length : Nat) : Int) + ((vlen x.v.length + x.v.length : Nat) : Int)) = (clen x : Int) by unfold clen; omega)
  obtain ⟨a, ha⟩ : ∃ a, a = vlen x.k.length + x.k.length := ⟨_, rfl⟩
  obtain ⟨b, hb⟩ : ∃ b, b = vlen x.v.length + x.v.length := ⟨_, rfl⟩
  rw [← ha] at HT1 HSUM
  rw [← hb] at HT2 HSUM
  have ha2 : a ≤ 4398046511114 := by omega
  have hb2 : b ≤ 4398046511114 := by omega
  clear ha hb e1 e2 hk hv
  generalize clen x = C at *
  unfold Cl.val
  go_enter Tryd.func65, Tryd.ntmps65
  go_wp2_with fail
  generalize w.alloc (.cells #[.string (bst x.k), .string (bst x.v)] 44) = w1 at *
  obtain ⟨g, hg⟩ : ∃ g, w.heap.size = g := ⟨_, rfl⟩
  rw [hg] at HX ⊢
  clear hg
  have HWR := hid (show IntKind.i64.wrap (C : Int) = (C : Int) from IntWalk.i64_in _ ⟨by have := HSUM.out; omega, by have := HSUM.out; omega⟩)
  have z0 : ∀ W, Beyond w1 W → W.cell? ⟨g, 0, none⟩ = some (.string (bst x.k)) := fun W hW => (HX.out.below hW HX.out.lt).cell 0
  have z1 : ∀ W, Beyond w1 W → W.cell? ⟨g, 1, none⟩ = some (.string (bst x.v)) := fun W hW => (HX.out.below hW HX.out.lt).cell 1
  refine wp_region_held_drew (S := Beyond w1) (by kernel_rfl) (Beyond.drew _) (fun hS => ?_)
  refine take_step (i := 0) (by simp only [List.getElem?_toArray, List.getElem?_cons_zero]; rfl) (by kernel_rfl) (by kernel_rfl) (by kernel_rfl) (by intro _ _ _ h; exact h) (by rfl) (fun W hW => by go_simp; first | done | with_reducible rfl) hS ?_
  try simp only [Act.put, List.setIfInBounds_toArray, List.set_cons_zero, List.set_cons_succ]
  refine take_step (i := 1) (by simp only [List.getElem?_toArray, List.getElem?_cons_succ, List.getElem?_cons_zero]; rfl) (by kernel_rfl) (by kernel_rfl) (by kernel_rfl) (by intro _ _ _ h; exact h) (by rfl) (fun W hW => by go_simp; first | done | with_reducible rfl) hS ?_
  try simp only [Act.put, List.setIfInBounds_toArray, List.set_cons_zero, List.set_cons_succ]
  refine take_step (i := 3) (by simp only [List.getElem?_toArray, List.getElem?_cons_succ, List.getElem?_cons_zero]; rfl) (by kernel_rfl) (by kernel_rfl) (by kernel_rfl) (by intro _ _ _ h; exact h) (by rfl) (fun W hW => by go_simp; first | done | with_reducible rfl) hS ?_
  try simp only [Act.put, List.setIfInBounds_toArray, List.set_cons_zero, List.set_cons_succ]
  refine take_step (i := 4) (by simp only [List.getElem?_toArray, List.getElem?_cons_succ, List.getElem?_cons_zero]; rfl) (by kernel_rfl) (by kernel_rfl) (by kernel_rfl) (by intro _ _ _ h; exact h) (by rfl) (fun W hW => by go_simp; first | done | with_reducible rfl) hS ?_
  try simp only [Act.put, List.setIfInBounds_toArray, List.set_cons_zero, List.set_cons_succ]
  refine wpAnyH_ready (rs := [2]) (by kernel_rfl) (by simp) ?_
  refine AllReadyH.cons (by simp only [List.getElem?_toArray, List.getElem?_cons_succ, List.getElem?_cons_zero]; rfl) (fun K hK => ?_) AllReadyH.nil
  go_simp
  go_fit (HT1.out _)
  rintro e w3 ⟨rfl, rfl⟩
  have hS2 := hS
  refine hK.out _ _ (by assumption) (fun _ => ?_)
  clear hK K hS
  have hS := hS2
  try simp only [Act.put, List.setIfInBounds_toArray, List.set_cons_zero, List.set_cons_succ]
  refine wpAnyH_ready (rs := [5]) (by kernel_rfl) (by simp) ?_
  refine AllReadyH.cons (by simp only [List.getElem?_toArray, List.getElem?_cons_succ, List.getElem?_cons_zero]; rfl) (fun K hK => ?_) AllReadyH.nil
  go_simp
  go_fit (HT2.out _)
  rintro e w4 ⟨rfl, rfl⟩
  have hS5 := hS
  refine hK.out _ _ (by assumption) (fun _ => ?_)
  clear hK K hS
  have hS := hS5
  try simp only [Act.put, List.setIfInBounds_toArray, List.set_cons_zero, List.set_cons_succ]
  refine take_step (i := 6) (by simp only [List.getElem?_toArray, List.getElem?_cons_succ, List.getElem?_cons_zero]; rfl) (by kernel_rfl) (by kernel_rfl) (by kernel_rfl) (by intro _ _ _ h; exact h) (by rfl) (fun W hW => by go_simp; first | done | with_reducible rfl) hS ?_
  try simp only [Act.put, List.setIfInBounds_toArray, List.set_cons_zero, List.set_cons_succ]
  refine take_step (i := 7) (by simp only [List.getElem?_toArray, List.getElem?_cons_succ, List.getElem?_cons_zero]; rfl) (by kernel_rfl) (by kernel_rfl) (by kernel_rfl) (by intro _ _ _ h; exact h) (by rfl) (fun W hW => by go_simp; first | done | with_reducible rfl) hS ?_
  try simp only [Act.put, List.setIfInBounds_toArray, List.set_cons_zero, List.set_cons_succ]
  refine wpAnyH_done (by kernel_rfl) ?_ _
  go_wp2_with fail
  rw [HSUM.out, HWR.out]
  go_ret
  exact ⟨rfl, HB.out.drew⟩


theorem csum_mem {l : List Cl} {i : Nat} {x : Cl} (h : l[i]? = some x) : clen x ≤ csum l := by
  have h1 := csum_split l i
  have h2 := csum_drop h
  omega
theorem csum_takes (l : List Cl) (i : Nat) : csum (l.take i) ≤ csum l := by
  have h1 := csum_split l i
  omega
theorem clen_parts (x : Cl) : x.k.length + x.v.length ≤ clen x := by unfold clen; omega

set_option maxHeartbeats 4000000 in
set_option maxRecDepth 100000 in
theorem cellsSize_any {A : Option Addr} {n c B : Nat} {l : List Cl} {w : World} (h : CS w B A n c l) (hs : csum l ≤ 4398046511104) :
    Calls Tryd.prog 41 #[.slice A n c] w fun e w' => e = .returned (.int .i64 (csum l : Int)) ∧ Below w.heap.size w w' := by
  have H := hid h
  have HL := hid h.len
  have HM := hid h.most
  have HS := hid hs
  clear h hs
  go_enter Tryd.func41, Tryd.ntmps41
  go_wp2_with fail
  go_loopw [3, 8] (fun s i wr => ∃ k : Nat, k ≤ n ∧ s = .int .i64 (csum (l.take k) : Int) ∧ i = .int .i64 (k : Int) ∧ Kept (Below w.heap.size w wr)) (fun _ i _ => n - (intOf i).toNat)
  case atStart => exact ⟨0, Nat.zero_le _, rfl, rfl, hid (Below.refl _ _)⟩
  case round =>
    obtain ⟨k, hk, rfl, rfl, HB⟩ := hrel
    by_cases hlt : k < n
    · obtain ⟨b, off, x, rfl, hb, hx, c0, c1⟩ := (H.out.step HB.out).at_.get (i := k) (by rw [← HL.out]; exact hlt)
      have hxs := csum_mem hx
      have hxp := clen_parts x
      have hts := csum_takes l k
      have HN := hid (csum_take hx)
      have HC := hid (fun (W : World) => cellSize_any (x := x) (w := W) (by have := HS.out; omega) (by have := HS.out; omega))
      have HSUM := hid (show ((csum (l.take k) : Nat) : Int) + ((clen x : Nat) : Int) = ((csum (l.take (k + 1)) : Nat) : Int) by rw [HN.out]; omega)
      have hz1 : csum (l.take k) ≤ 4398046511104 := by have := HS.out; omega
      have hz2 : clen x ≤ 4398046511104 := by have := HS.out; omega
      have HB1 := hid (HB.out.alloc HB.out.size (.cells #[.string (bst x.k), .string (bst x.v)] 44))
      have hnm := HM.out
      clear hx hxs hxp hts HN
      generalize csum (l.take k) = C0 at *
      obtain ⟨C1, hC1⟩ : ∃ C1, C1 = csum (l.take (k + 1)) := ⟨_, rfl⟩
      rw [← hC1] at HSUM
      have HC1 := hid hC1
      clear hC1
      generalize clen x = C2 at *
      go_wp2_with fail
      go_fit (HC.out _)
      rintro e w2 ⟨rfl, hb2⟩
      have HB2 := hid (HB1.out.trans (hb2.mono HB1.out.size))
      clear hb2
      go_wp2_with fail
      rw [HSUM.out]
      go_roundw
      case rel => exact ⟨k + 1, by omega, by rw [HC1.out], by go_num, HB2⟩
      case measure => simp [intOf]; omega
    · obtain rfl : k = n := by omega
      have HE := hid (show l.take k = l from by rw [HL.out]; exact List.take_length)
      rw [HE.out]
      go_wp2_with fail
      go_ret
      exact ⟨rfl, HB.out⟩

set_option maxHeartbeats 4000000 in
set_option maxRecDepth 100000 in
theorem psize_any {leaf : Bool} {next : Int} {A : Option Addr} {n c B : Nat} {l : List Cl} {w : World} (h : CS w B A n c l) (hs : csum l ≤ 4398046511104) (hn : next ≤ 9223372036854775807) :
    Calls Tryd.prog 15 #[pageV leaf next A n c] w fun e w' => e = .returned (.int .i64 (psize next.toNat l : Int)) ∧ Below w.heap.size w w' := by
  have hb1 : Below w.heap.size w (w.alloc (.cells #[.bool leaf, .int .i64 next, .slice A n c] 24)) := (Below.refl _ _).alloc (Nat.le_refl _) _
  have HB := hid hb1
  have HX := hid (Blk.new w 24 #[.bool leaf, .int .i64 next, .slice A n c])
  have HC := hid (cellsSize_any (h.step hb1) hs)
  have HV1 := hid (fun (W : World) => size_any next.toNat W (by omega))
  have hm := h.most
  have HV2 := hid (fun (W : World) => size_any n W (by omega))
  have e1 := vlen_le next.toNat
  have e2 := vlen_le n
  have HSUM := hid (show 1 + ((vlen next.toNat : Nat) : Int) + ((vlen n : Nat) : Int) + ((csum l : Nat) : Int) + 4 = (psize next.toNat l : Int) by unfold psize; rw [← h.len]; omega)
  have HNX := hid (show IntKind.u64.wrap (max next 0) = (next.toNat : Int) by rw [IntWalk.u64_in _ ⟨by omega, by omega⟩]; omega)
  clear h hb1
  generalize psize next.toNat l = Z at *
  obtain ⟨V, hV⟩ : ∃ V : Nat, V = next.toNat := ⟨_, rfl⟩
  rw [← hV] at HV1 HSUM e1 HNX
  have hVb : V < 9223372036854775808 := by omega
  generalize csum l = C at *
  clear hV hn
  unfold pageV
  go_enter Tryd.func15, Tryd.ntmps15
  go_wp2_with fail
  generalize w.alloc (.cells #[.bool leaf, .int .i64 next, .slice A n c] 24) = w1 at *
  obtain ⟨g, hg⟩ : ∃ g, w.heap.size = g := ⟨_, rfl⟩
  rw [hg] at HX ⊢
  clear hg
  have x1 := HX.out.cell 1
  have x2 := HX.out.cell 2
  go_wp2_with fail
  rw [HNX.out]
  go_fit (HV1.out _)
  rintro e w2 ⟨rfl, rfl⟩
  go_wp2_with fail
  go_fit (HV2.out _)
  rintro e w2 ⟨rfl, rfl⟩
  go_wp2_with fail
  go_fit HC.out
  rintro e w2 ⟨rfl, hb2⟩
  have HB2 := hid (below_step HB.out hb2)
  clear hb2
  go_wp2_with fail
  rw [HSUM.out]
  go_ret
  exact ⟨rfl, HB2.out⟩

end Go.Proofs.YtikggbopoajcbaaDoor
