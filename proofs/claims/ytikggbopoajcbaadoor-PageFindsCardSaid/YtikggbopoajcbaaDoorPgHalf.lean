/-
  The landed half, over the library's IndexFunc.
-/
import Derived.Test.YtikggbopoajcbaaDoorPgSmall
import Derived.Test.YtikggbopoajcbaaDoorPgCut
import Derived.Test.YtikggbopoajcbaaDoorPgFn
import Derived.Deep.RegionWith
namespace Go.Proofs.YtikggbopoajcbaaDoor
open Go Go.RowKit

/-- the variables that the closure reads: how many bytes so far, how many there are -/
structure HIn (w : World) (gf ga : Nat) (F ALL : Nat) : Prop where
  front : Blk w gf 3 #[.int .i64 (F : Int)]
  all : Blk w ga 3 #[.int .i64 (ALL : Int)]
  ne : gf ≠ ga
theorem HIn.step {w w' : World} {gf ga F ALL : Nat} (h : HIn w gf ga F ALL) (hb : Below w.heap.size w w') : HIn w' gf ga F ALL := ⟨h.front.below hb h.front.lt, h.all.below hb h.all.lt, h.ne⟩
theorem HIn.set {w : World} {gf ga F ALL : Nat} (h : HIn w gf ga F ALL) (F' : Nat) : HIn (w.setCell ⟨gf, 0, none⟩ (.int .i64 (F' : Int))) gf ga F' ALL := ⟨h.front.set 0 _, h.all.far h.ne.symm _, h.ne⟩

set_option maxHeartbeats 4000000 in
set_option maxRecDepth 100000 in
theorem isHalf_any {x : Cl} {w : World} {gf ga F ALL : Nat} (h : HIn w gf ga F ALL) (hx : clen x ≤ 4398046511104) (hF : F ≤ 8796093022208) (_hA : ALL ≤ 8796093022208) :
    Calls Tryd.prog 77 #[x.val, .pointer (some ⟨gf, 0, none⟩), .pointer (some ⟨ga, 0, none⟩)] w fun e w' => e = .returned (.bool (decide (ALL ≤ 2 * (F + clen x)))) ∧ HIn w' gf ga (F + clen x) ALL ∧ Only gf w w' := by
  have hb1 : Below w.heap.size w (w.alloc (.cells #[.string (bst x.k), .string (bst x.v)] 44)) := (Below.refl _ _).alloc (Nat.le_refl _) _
  have HB := hid ((Below.drew hb1))
  have HX := hid (show Blk (w.alloc (.cells #[.string (bst x.k), .string (bst x.v)] 44)).drew w.heap.size 44 #[.string (bst x.k), .string (bst x.v)] from Blk.new w 44 #[.string (bst x.k), .string (bst x.v)])
  have HH := hid (show HIn (w.alloc (.cells #[.string (bst x.k), .string (bst x.v)] 44)).drew gf ga F ALL from (h.step HB.out))
  have hp := clen_parts x
  have HC := hid (fun (W : World) => cellSize_any (x := x) (w := W) (by omega) (by omega))
  have HGF := hid h.front.lt
  unfold Cl.val at HC ⊢
  obtain ⟨C, hC⟩ : ∃ C, C = clen x := ⟨_, rfl⟩
  rw [← hC] at HC hx ⊢
  obtain ⟨S, hS⟩ : ∃ S, S = F + C := ⟨_, rfl⟩
  rw [← hS]
  have HSUM := hid (show ((F : Int) + (C : Int)) = (S : Int) by omega)
  have hSl : S ≤ 17592186044416 := by omega
  have HWR := hid (show IntKind.i64.wrap (S : Int) = (S : Int) from IntWalk.i64_in _ ⟨by omega, by omega⟩)
  obtain ⟨D, hD⟩ : ∃ D, D = decide (ALL ≤ 2 * S) := ⟨_, rfl⟩
  rw [← hD]
  have HD := hid hD
  clear hb1 h hp hC hS hD
  go_enter Tryd.func77, Tryd.ntmps77
  go_wp2_with fail
  generalize w.alloc (.cells #[.string (bst x.k), .string (bst x.v)] 44) = w1 at *
  refine wp_region_any (by kernel_rfl) ?_
  try (change wpAny _ _ _ _ _ _ _ (World.drew _))
  refine wpAny_ready (rs := [0, 1]) (by kernel_rfl) (by simp) ?_
  refine AllReady.cons (by simp only [List.getElem?_toArray, List.getElem?_cons_zero]; rfl) (fun KK hKK => ?_) ?_
  · skip
    have a0 := HH.out.front.cell 0
    go_simp
    refine hKK _ _ ?_
    clear hKK KK
    try simp only [Act.put, List.setIfInBounds_toArray, List.set_cons_zero, List.set_cons_succ]
    refine wpAny_ready (rs := [1]) (by kernel_rfl) (by simp) ?_
    refine AllReady.cons (by simp only [List.getElem?_toArray, List.getElem?_cons_succ, List.getElem?_cons_zero]; rfl) (fun KK hKK => ?_) AllReady.nil
    have a0 := HX.out.cell 0
    have a1 := HX.out.cell 1
    go_simp
    refine hKK _ _ ?_
    clear hKK KK
    try simp only [Act.put, List.setIfInBounds_toArray, List.set_cons_zero, List.set_cons_succ]
    refine wpAny_ready (rs := [2]) (by kernel_rfl) (by simp) ?_
    refine AllReady.cons (by simp only [List.getElem?_toArray, List.getElem?_cons_succ, List.getElem?_cons_zero]; rfl) (fun KK hKK => ?_) AllReady.nil
    go_simp
    go_fit (HC.out _)
    rintro e w3 ⟨rfl, hb3⟩
    refine hKK _ _ ?_
    clear hKK KK
    have HH3 := hid (HH.out.step hb3)
    have HB3 := hid (below_step HB.out hb3)
    clear hb3
    try simp only [Act.put, List.setIfInBounds_toArray, List.set_cons_zero, List.set_cons_succ]
    refine wpAny_take (i := 3) (v := ?_) (by simp only [List.getElem?_toArray, List.getElem?_cons_succ, List.getElem?_cons_zero]; rfl) (by kernel_rfl) (by kernel_rfl) (by kernel_rfl) (by intro _ _ _ h; exact h) (Or.inl ⟨by rfl, fun W => by go_simp; first | done | with_reducible rfl⟩) ?_
    try simp only [Act.put, List.setIfInBounds_toArray, List.set_cons_zero, List.set_cons_succ]
    refine wpAny_ready (rs := [4]) (by kernel_rfl) (by simp) ?_
    refine AllReady.cons (by simp only [List.getElem?_toArray, List.getElem?_cons_succ, List.getElem?_cons_zero]; rfl) (fun KK hKK => ?_) AllReady.nil
    have f0 := HH3.out.front.free 0
    have a0 := HH3.out.front.cell 0
    try rw [HSUM.out, HWR.out]
    go_simp
    refine hKK _ _ ?_
    clear hKK KK
    try simp only [Act.put]
    refine wpAny_done (by kernel_rfl) ?_ _
    have HH4 := hid (HH3.out.set S)
    have HO4 := hid ((Only.of_below (r := gf) HB3.out).set (i := 0) (.int .i64 (S : Int)))
    generalize w3.setCell ⟨gf, 0, none⟩ (.int .i64 (S : Int)) = w4 at *
    have b0 := HH4.out.front.cell 0
    have b1 := HH4.out.all.cell 0
    by_cases hd : ALL ≤ 2 * S
    · obtain rfl : D = true := by rw [HD.out, decide_eq_true hd]
      have hd' : ¬ (2 : Int) * (S : Int) < (ALL : Int) := by omega
      go_wp2_with fail
      go_ret
      exact ⟨rfl, HH4.out, HO4.out⟩
    · obtain rfl : D = false := by rw [HD.out, decide_eq_false hd]
      have hd' : decide ((ALL : Int) ≤ 2 * (S : Int)) = false := decide_eq_false (by omega)
      go_wp2_with fail
      go_ret
      exact ⟨rfl, HH4.out, HO4.out⟩
  refine AllReady.cons (by simp only [List.getElem?_toArray, List.getElem?_cons_succ, List.getElem?_cons_zero]; rfl) (fun KK hKK => ?_) AllReady.nil
  · skip
    have a0 := HX.out.cell 0
    have a1 := HX.out.cell 1
    go_simp
    refine hKK _ _ ?_
    clear hKK KK
    try simp only [Act.put, List.setIfInBounds_toArray, List.set_cons_zero, List.set_cons_succ]
    refine wpAny_ready (rs := [0, 2]) (by kernel_rfl) (by simp) ?_
    refine AllReady.cons (by simp only [List.getElem?_toArray, List.getElem?_cons_zero]; rfl) (fun KK hKK => ?_) ?_
    · skip
      have a0 := HH.out.front.cell 0
      go_simp
      refine hKK _ _ ?_
      clear hKK KK
      try simp only [Act.put, List.setIfInBounds_toArray, List.set_cons_zero, List.set_cons_succ]
      refine wpAny_ready (rs := [2]) (by kernel_rfl) (by simp) ?_
      refine AllReady.cons (by simp only [List.getElem?_toArray, List.getElem?_cons_succ, List.getElem?_cons_zero]; rfl) (fun KK hKK => ?_) AllReady.nil
      go_simp
      go_fit (HC.out _)
      rintro e w3 ⟨rfl, hb3⟩
      refine hKK _ _ ?_
      clear hKK KK
      have HH3 := hid (HH.out.step hb3)
      have HB3 := hid (below_step HB.out hb3)
      clear hb3
      try simp only [Act.put, List.setIfInBounds_toArray, List.set_cons_zero, List.set_cons_succ]
      refine wpAny_take (i := 3) (v := ?_) (by simp only [List.getElem?_toArray, List.getElem?_cons_succ, List.getElem?_cons_zero]; rfl) (by kernel_rfl) (by kernel_rfl) (by kernel_rfl) (by intro _ _ _ h; exact h) (Or.inl ⟨by rfl, fun W => by go_simp; first | done | with_reducible rfl⟩) ?_
      try simp only [Act.put, List.setIfInBounds_toArray, List.set_cons_zero, List.set_cons_succ]
      refine wpAny_ready (rs := [4]) (by kernel_rfl) (by simp) ?_
      refine AllReady.cons (by simp only [List.getElem?_toArray, List.getElem?_cons_succ, List.getElem?_cons_zero]; rfl) (fun KK hKK => ?_) AllReady.nil
      have f0 := HH3.out.front.free 0
      have a0 := HH3.out.front.cell 0
      try rw [HSUM.out, HWR.out]
      go_simp
      refine hKK _ _ ?_
      clear hKK KK
      try simp only [Act.put]
      refine wpAny_done (by kernel_rfl) ?_ _
      have HH4 := hid (HH3.out.set S)
      have HO4 := hid ((Only.of_below (r := gf) HB3.out).set (i := 0) (.int .i64 (S : Int)))
      generalize w3.setCell ⟨gf, 0, none⟩ (.int .i64 (S : Int)) = w4 at *
      have b0 := HH4.out.front.cell 0
      have b1 := HH4.out.all.cell 0
      by_cases hd : ALL ≤ 2 * S
      · obtain rfl : D = true := by rw [HD.out, decide_eq_true hd]
        have hd' : ¬ (2 : Int) * (S : Int) < (ALL : Int) := by omega
        go_wp2_with fail
        go_ret
        exact ⟨rfl, HH4.out, HO4.out⟩
      · obtain rfl : D = false := by rw [HD.out, decide_eq_false hd]
        have hd' : decide ((ALL : Int) ≤ 2 * (S : Int)) = false := decide_eq_false (by omega)
        go_wp2_with fail
        go_ret
        exact ⟨rfl, HH4.out, HO4.out⟩
    refine AllReady.cons (by simp only [List.getElem?_toArray, List.getElem?_cons_succ, List.getElem?_cons_zero]; rfl) (fun KK hKK => ?_) AllReady.nil
    · skip
      go_simp
      go_fit (HC.out _)
      rintro e w3 ⟨rfl, hb3⟩
      refine hKK _ _ ?_
      clear hKK KK
      have HH3 := hid (HH.out.step hb3)
      have HB3 := hid (below_step HB.out hb3)
      clear hb3
      try simp only [Act.put, List.setIfInBounds_toArray, List.set_cons_zero, List.set_cons_succ]
      refine wpAny_ready (rs := [0]) (by kernel_rfl) (by simp) ?_
      refine AllReady.cons (by simp only [List.getElem?_toArray, List.getElem?_cons_zero]; rfl) (fun KK hKK => ?_) AllReady.nil
      have a0 := HH3.out.front.cell 0
      go_simp
      refine hKK _ _ ?_
      clear hKK KK
      try simp only [Act.put, List.setIfInBounds_toArray, List.set_cons_zero, List.set_cons_succ]
      refine wpAny_take (i := 3) (v := ?_) (by simp only [List.getElem?_toArray, List.getElem?_cons_succ, List.getElem?_cons_zero]; rfl) (by kernel_rfl) (by kernel_rfl) (by kernel_rfl) (by intro _ _ _ h; exact h) (Or.inl ⟨by rfl, fun W => by go_simp; first | done | with_reducible rfl⟩) ?_
      try simp only [Act.put, List.setIfInBounds_toArray, List.set_cons_zero, List.set_cons_succ]
      refine wpAny_ready (rs := [4]) (by kernel_rfl) (by simp) ?_
      refine AllReady.cons (by simp only [List.getElem?_toArray, List.getElem?_cons_succ, List.getElem?_cons_zero]; rfl) (fun KK hKK => ?_) AllReady.nil
      have f0 := HH3.out.front.free 0
      have a0 := HH3.out.front.cell 0
      try rw [HSUM.out, HWR.out]
      go_simp
      refine hKK _ _ ?_
      clear hKK KK
      try simp only [Act.put]
      refine wpAny_done (by kernel_rfl) ?_ _
      have HH4 := hid (HH3.out.set S)
      have HO4 := hid ((Only.of_below (r := gf) HB3.out).set (i := 0) (.int .i64 (S : Int)))
      generalize w3.setCell ⟨gf, 0, none⟩ (.int .i64 (S : Int)) = w4 at *
      have b0 := HH4.out.front.cell 0
      have b1 := HH4.out.all.cell 0
      by_cases hd : ALL ≤ 2 * S
      · obtain rfl : D = true := by rw [HD.out, decide_eq_true hd]
        have hd' : ¬ (2 : Int) * (S : Int) < (ALL : Int) := by omega
        go_wp2_with fail
        go_ret
        exact ⟨rfl, HH4.out, HO4.out⟩
      · obtain rfl : D = false := by rw [HD.out, decide_eq_false hd]
        have hd' : decide ((ALL : Int) ≤ 2 * (S : Int)) = false := decide_eq_false (by omega)
        go_wp2_with fail
        go_ret
        exact ⟨rfl, HH4.out, HO4.out⟩

set_option maxHeartbeats 4000000 in
set_option maxRecDepth 100000 in
theorem index_any {A : Option Addr} {n c B : Nat} {l : List Cl} {w : World} {gf ga ALL : Nat} (h : CS w B A n c l) (hs : csum l ≤ 4398046511104) (hal : ALL ≤ 4398046511104) (hh : HIn w gf ga 0 ALL) (hB : B ≤ gf) :
    Calls Tryd.prog 78 #[.slice A n c, .func (.func 77) #[] #[.pointer (some ⟨gf, 0, none⟩), .pointer (some ⟨ga, 0, none⟩)]] w fun e w' => (∃ r : Int, e = .returned (.int .i64 r) ∧ ((r = -1 ∧ halfG ALL 0 l = n) ∨ ∃ j : Nat, j < n ∧ r = (j : Int) ∧ halfG ALL 0 l = j + 1)) ∧ Only gf w w' := by
  have hmost := h.most
  have HLN := hid h.len
  have HS := hid hs
  have H := hid h
  have HH := hid hh
  have HB := hid hB
  clear h hs hh hB
  go_enter Tryd.func78, Tryd.ntmps78
  go_wp2_with fail
  go_loopw [5, 8] (fun _ i wr => ∃ j : Nat, j ≤ n ∧ i = .int .i64 (j : Int) ∧ Kept (halfG ALL 0 l = j + halfG ALL (csum (l.take j)) (l.drop j)) ∧ Kept (HIn wr gf ga (csum (l.take j)) ALL) ∧ Kept (Only gf w wr)) (fun _ i _ => n - (intOf i).toNat)
  case atStart => exact ⟨0, Nat.zero_le _, rfl, hid (by simp [csum]), HH, hid (Only.refl _ _)⟩
  case round =>
    obtain ⟨j, hj, rfl, HG, HI, HO⟩ := hrel
    by_cases hlt : j < n
    · obtain ⟨b, off, x, rfl, hb, hx, c0, c1⟩ := (H.out.below (HO.out.below HB.out H.out.low) (Nat.le_refl _)).at_.get (i := j) (by rw [← HLN.out]; exact hlt)
      have hcx := csum_mem hx
      have hct := csum_takes l j
      have HTK := hid (csum_take hx)
      have HC := hid (isHalf_any (x := x) HI.out (by have := HS.out; omega) (by have := HS.out; omega) (by omega))
      have HG2 := hid (HG.out.trans (by rw [halfG_drop hx]))
      rw [← HTK.out] at HC HG2
      unfold Cl.val at HC
      clear hx hcx hct hb
      by_cases hd : ALL ≤ 2 * csum (l.take (j + 1))
      · rw [decide_eq_true hd] at HC
        have HE := hid (show halfG ALL 0 l = j + 1 by rw [HG2.out, if_pos hd])
        clear hd
        go_wp2_with fail
        go_fit HC.out
        rintro e w3 ⟨rfl, hi3, ho3⟩
        have HO3 := hid (HO.out.trans ho3)
        clear hi3 ho3
        go_wp2_with fail
        go_ret
        exact ⟨⟨_, rfl, .inr ⟨j, hlt, rfl, HE.out⟩⟩, HO3.out⟩
      · rw [decide_eq_false hd] at HC
        have HE := hid (show halfG ALL 0 l = (j + 1) + halfG ALL (csum (l.take (j + 1))) (l.drop (j + 1)) by rw [HG2.out, if_neg hd]; omega)
        clear hd
        go_wp2_with fail
        go_fit HC.out
        rintro e w3 ⟨rfl, hi3, ho3⟩
        have HI3 := hid hi3
        have HO3 := hid (HO.out.trans ho3)
        clear hi3 ho3
        go_wp2_with fail
        go_roundw
        case rel => exact ⟨j + 1, by omega, by go_num, HE, HI3, HO3⟩
        case measure => simp [intOf]; omega
    · have HE := hid (show halfG ALL 0 l = n by rw [HG.out, List.drop_eq_nil_of_le (by rw [← HLN.out]; omega)]; simp [halfG]; omega)
      go_wp2_with fail
      go_ret
      exact ⟨⟨_, rfl, .inl ⟨rfl, HE.out⟩⟩, HO.out⟩

set_option maxHeartbeats 4000000 in
set_option maxRecDepth 100000 in
theorem half_any {A : Option Addr} {n c B : Nat} {l : List Cl} {w : World} (h : CS w B A n c l) (h2 : 2 ≤ n) (hs : csum l ≤ 4398046511104) :
    Calls Tryd.prog 57 #[.slice A n c] w fun e w' => e = .returned (.int .i64 (halfC l : Int)) ∧ Below w.heap.size w w' := by
  have HC := hid (cellsSize_any h hs)
  have hmost := h.most
  have HLN := hid h.len
  have HS := hid hs
  have H := hid h
  obtain ⟨A2, hsl, ha2⟩ := cslice_to (n := n - 1) h.at_ h.len h.cap (by omega)
  have hsl2 := fun W => hsl .i64 W
  have HA2 := hid (show CS w B A2 (n - 1) c (l.take (n - 1)) from ⟨ha2, by rw [List.length_take, ← h.len]; omega, by have := h.cap; omega, by omega, h.low⟩)
  have hn1 : (n : Int) - 1 = ((n - 1 : Nat) : Int) := by omega
  clear h hs hsl ha2
  obtain ⟨ALL, hALL⟩ : ∃ ALL, ALL = csum l := ⟨_, rfl⟩
  rw [← hALL] at HC
  have HALL := hid hALL
  have hal : ALL ≤ 4398046511104 := by rw [hALL]; exact HS.out
  have HH0 := hid (show halfC l = halfG ALL 0 (l.take (n - 1)) by unfold halfC; rw [← HLN.out, hALL])
  have HS2 := hid (show csum (l.take (n - 1)) ≤ 4398046511104 from Nat.le_trans (csum_takes l _) HS.out)
  clear hALL
  go_enter Tryd.func57, Tryd.ntmps57
  go_wp2_with fail
  go_fit HC.out
  rintro e w1 ⟨rfl, hb1⟩
  have HB3 := hid ((hb1.alloc hb1.size (.cells #[.int .i64 (ALL : Int)] 3)).alloc (Nat.le_trans hb1.size (by simp)) (.cells #[.int .i64 0] 3))
  have hsz : (w1.alloc (.cells #[.int .i64 (ALL : Int)] 3)).heap.size = w1.heap.size + 1 := by simp
  have HH := hid (show HIn ((w1.alloc (.cells #[.int .i64 (ALL : Int)] 3)).alloc (.cells #[.int .i64 0] 3)) (w1.heap.size + 1) w1.heap.size 0 ALL from ⟨by have := Blk.new (w1.alloc (.cells #[.int .i64 (ALL : Int)] 3)) 3 #[.int .i64 0]; rwa [hsz] at this, (Blk.new w1 _ _).alloc _, by omega⟩)
  have HZ := hid hb1.size
  clear hsz hb1
  have HC3 := hid (HA2.out.step HB3.out)
  have HIX := hid (index_any HC3.out HS2.out hal HH.out (by have := HA2.out.low; have := HZ.out; omega))
  have HBF := hid (show w.heap.size ≤ w1.heap.size + 1 by have := HZ.out; omega)
  clear HC3 HH HA2 HC
  go_wp2_with fail
  go_fit HIX.out
  rintro e w4 ⟨⟨r, rfl, hr⟩, ho4⟩
  have HB4 := hid (HB3.out.grown ho4 HB3.out.size (fun k hk => by injection hk with hk; have := HBF.out; omega))
  clear ho4 HB3 HIX
  rcases hr with ⟨rfl, hr⟩ | ⟨j, hj, rfl, hr⟩
  · have HE := hid (HH0.out.trans hr)
    clear hr
    go_wp2_with fail
    go_ret
    rw [HE.out]
    exact ⟨rfl, HB4.out⟩
  · have HE := hid (HH0.out.trans hr)
    clear hr
    go_wp2_with fail
    go_ret
    rw [HE.out]
    exact ⟨rfl, HB4.out⟩

end Go.Proofs.YtikggbopoajcbaaDoor
