/-
  RecordCuts: its walk, over what is to be shown of the landed code.
-/
import Derived.Test.YtlcnjkonlnfnfaaDoorRCuts
namespace Go.Proofs.YtlcnjkonlnfnfaaDoor
open Go Go.RowKit

theorem cu_start (w : World) (q : Nat) (l : List (List UInt8)) : Cu w (((w.alloc (.cells #[] 5)).alloc (.cells #[.int .i64 0] 3)).alloc (.cells #[] 24)) (some ⟨w.heap.size, 0, none⟩) (some ⟨w.heap.size + 1, 0, none⟩) (some ⟨w.heap.size + 1 + 1, 0, none⟩) 0 0 1 1 0 0
    (rall q (l.take 0)) ((List.range (0 + 1)).map (endAt q l)) (rnumbered q (l.take 0)) := by
  have e1 : (w.alloc (.cells #[] 5)).heap.size = w.heap.size + 1 := by simp
  have e2 : ((w.alloc (.cells #[] 5)).alloc (.cells #[.int .i64 0] 3)).heap.size = w.heap.size + 1 + 1 := by simp
  have h1 := IRow.new (w.alloc (.cells #[] 5)) (base := w.heap.size) 0 (by simp)
  rw [e1] at h1
  exact ⟨⟨rfl, ((own_empty w 5).alloc _).alloc _⟩, ⟨rfl, h1.2.alloc _⟩, RcRow.empty _ e2.symm (by simp; omega), (((Below.refl _ _).alloc (Nat.le_refl _) _).alloc (by simp) _).alloc (by simp; omega) _⟩

set_option maxHeartbeats 8000000 in
set_option maxRecDepth 100000 in
theorem rcuts_walk (hF : RFace) (q : Nat) (cut : Int) (A : Option Addr) (c : Nat) (l : List (List UInt8)) (w : World) (hq : q < 18446744073709551616) (hcut : 0 ≤ cut ∧ cut < 65536) (hA : SAt w w.heap.size A l) (hc : l.length ≤ c) (hT : Table w) :
    Calls Tryd.prog 7 #[.int .u64 (q : Int), .slice A l.length c, .int .u16 cut] w fun e w' => e = .returned (.bool true) ∧ Below w.heap.size w w' := by
  have HF := hid hF
  have HAW := hid (rawake_yes hF)
  have HT := hid hT
  have HQ := hid hq
  have HCUT := hid hcut
  have HA := hid hA
  obtain ⟨n, hn⟩ : ∃ n, l.length = n := ⟨_, rfl⟩
  have HN := hid hn
  rw [hn] at hc ⊢
  clear hF hT hq hcut hA hn
  by_cases h20 : 20 < n
  · go_enter Tryd.func7, Tryd.ntmps7
    go_wp2_with fail
    go_fit (HAW.out w HT.out)
    rintro e w1 ⟨rfl, hb1⟩
    go_wp2_with fail
    go_ret
    exact ⟨rfl, hb1⟩
  have HC0 := hid (cu_start w q l)
  go_enter Tryd.func7, Tryd.ntmps7
  go_wp2_with fail
  go_loopw [7, 8, 9, 10] (fun v7 v8 v9 i wr => ∃ (k m7 c7 m8 c8 m9 c9 : Nat) (A7 A8 A9 : Option Addr), k ≤ n ∧ v7 = .slice A7 m7 c7 ∧ v8 = .slice A8 m8 c8 ∧ v9 = .slice A9 m9 c9 ∧ i = .int .i64 (k : Int) ∧
    Kept (∀ b ∈ l.take k, b.length ≤ 100) ∧ Kept (Cu w wr A7 A8 A9 m7 c7 m8 c8 m9 c9 (rall q (l.take k)) ((List.range (k + 1)).map (endAt q l)) (rnumbered q (l.take k)))) (fun _ _ _ i _ => n - (intOf i).toNat)
  case atStart =>
    exact ⟨0, 0, 0, 1, 1, 0, 0, _, _, _, Nat.zero_le _, rfl, rfl, rfl, rfl, ⟨by simp⟩, HC0⟩
  case round =>
    obtain ⟨k, m7, c7, m8, c8, m9, c9, A7, A8, A9, hk, rfl, rfl, rfl, rfl, HS, HC⟩ := hrel
    by_cases hkn : k < n
    · have hkl : k < l.length := by rw [HN.out]; exact hkn
      obtain ⟨sb, so, rfl, hcell⟩ := HA.out.get HC.out.below hkl
      obtain ⟨b, hb⟩ : ∃ b, l[k] = b := ⟨_, rfl⟩
      rw [hb] at hcell
      have HBK := hid hb
      have zb := bst_size b
      clear hb
      by_cases h100 : 100 < b.length
      · go_wp2_with fail
        go_fit (HAW.out _ (HT.out.step HC.out.below))
        rintro e w2 ⟨rfl, hb2⟩
        have HB3 := hid (below_step HC.out.below hb2)
        clear hb2
        go_wp2_with fail
        go_ret
        exact ⟨rfl, HB3.out⟩
      have HB100 := hid (show b.length ≤ 100 by omega)
      have hw64 : IntKind.u64.wrap ((q : Int) + (k : Int)) = ((nth64 q k : Nat) : Int) := by rw [IntKind.wrap_u64]; unfold nth64; omega
      have HPY := hid (fun (W : World) (hW : Table W) => HF.out.putYes (q := nth64 q k) (b := b) (w := W) (nth64_lt q k) (by omega) hW)
      have HL7 := hid (show (rall q (l.take k)).length + (renc (nth64 q k) b).length ≤ 140737488355328 by
        have h1 := rall_le (l.take k) q HS.out
        have h2 : (l.take k).length = k := by rw [List.length_take]; omega
        have h3 := renc_le (nth64 q k) b
        rw [h2] at h1
        omega)
      have HL8 := hid (show ((List.range (k + 1)).map (endAt q l)).length + 1 ≤ 1099511627776 by simp; omega)
      have HL9 := hid (show (rnumbered q (l.take k)).length + [(nth64 q k, b)].length ≤ 1099511627776 by rw [rnumbered_length, List.length_take]; simp; omega)
      have HSN := hid (show ∀ x ∈ l.take (k + 1), x.length ≤ 100 by
        have ht : l.take (k + 1) = l.take k ++ [b] := by rw [← HBK.out]; exact (List.take_append_getElem hkl).symm
        intro x hx
        rw [ht] at hx
        rcases List.mem_append.1 hx with h | h
        · exact HS.out x h
        · obtain rfl : x = b := by simpa using h
          exact HB100.out)
      have HX1 := hid (Blk.new wr 24 #[.int .u64 ((nth64 q k : Nat) : Int), .string (bst b)])
      have HC1 := hid (HC.out.alloc (.cells #[.int .u64 ((nth64 q k : Nat) : Int), .string (bst b)] 24))
      go_wp2_with fail
      generalize hv1 : wr.alloc (.cells #[.int .u64 ((nth64 q k : Nat) : Int), .string (bst b)] 24) = w1 at *
      clear hv1
      go_fit (HPY.out _ (HT.out.step HC1.out.below))
      rintro e w2 ⟨A12, m12, c12, rfl, hr2, hb2⟩
      have HMX := hid hr2.1
      have HAX := hid (show At w2.drew w2.drew.heap.size A12 (renc (nth64 q k) b) from hr2.at_)
      have HXX := hid (HX1.out.below hb2 HX1.out.lt).drew
      have HCX := hid (HC1.out.step hb2).drew
      clear hb2 hr2 hcell
      go_wp2_with fail
      refine wp_region_any (by kernel_rfl) ?_
      try (change wpAny _ _ _ _ _ _ _ (World.drew _))
      refine wpAny_take (i := 0) (v := ?_) (by simp only [List.getElem?_toArray, List.getElem?_cons_zero]; rfl) (by kernel_rfl) (by kernel_rfl) (by kernel_rfl) (by intro _ _ _ h; exact h) (Or.inl ⟨by rfl, fun W => by go_simp; first | done | with_reducible rfl⟩) ?_
      try simp only [Act.put, List.setIfInBounds_toArray, List.set_cons_zero, List.set_cons_succ]
      refine wpAny_take (i := 1) (v := ?_) (by simp only [List.getElem?_toArray, List.getElem?_cons_succ, List.getElem?_cons_zero]; rfl) (by kernel_rfl) (by kernel_rfl) (by kernel_rfl) (by intro _ _ _ h; exact h) (Or.inl ⟨by rfl, fun W => by go_simp; first | done | with_reducible rfl⟩) ?_
      try simp only [Act.put, List.setIfInBounds_toArray, List.set_cons_zero, List.set_cons_succ]
      refine wpAny_take (i := 3) (v := ?_) (by simp only [List.getElem?_toArray, List.getElem?_cons_succ, List.getElem?_cons_zero]; rfl) (by kernel_rfl) (by kernel_rfl) (by kernel_rfl) (by intro _ _ _ h; exact h) (Or.inl ⟨by rfl, fun W => by go_simp; first | done | with_reducible rfl⟩) ?_
      try simp only [Act.put, List.setIfInBounds_toArray, List.set_cons_zero, List.set_cons_succ]
      refine wpAny_ready (rs := [2, 4]) (by kernel_rfl) (by simp) ?_
      refine AllReady.cons (by simp only [List.getElem?_toArray, List.getElem?_cons_succ, List.getElem?_cons_zero]; rfl) (fun KK hKK => ?_) ?_
      · skip
        refine wp_cu_all _ _ rfl HCX.out rfl rfl HMX.out HAX.out HL7.out ?_
        intro A3 m3 c3 w3 hc3 hg3
        refine hKK _ _ ?_
        clear hKK KK
        have HXX := hid (HXX.out.grown hg3 (blk_ne_own HXX.out HCX.out.all.2 (by decide)))
        have HCX := hid hc3
        clear hc3 hg3
        try simp only [Act.put, List.setIfInBounds_toArray, List.set_cons_zero, List.set_cons_succ]
        refine wpAny_ready (rs := [4]) (by kernel_rfl) (by simp) ?_
        refine AllReady.cons (by simp only [List.getElem?_toArray, List.getElem?_cons_succ, List.getElem?_cons_zero]; rfl) (fun KK hKK => ?_) AllReady.nil
        have x0 := HXX.out.cell 0
        have x1 := HXX.out.cell 1
        go_simp
        refine hKK _ _ ?_
        clear hKK KK
        clear x0 x1
        try simp only [Act.put, List.setIfInBounds_toArray, List.set_cons_zero, List.set_cons_succ]
        refine wpAny_ready (rs := [5]) (by kernel_rfl) (by simp) ?_
        refine AllReady.cons (by simp only [List.getElem?_toArray, List.getElem?_cons_succ, List.getElem?_cons_zero]; rfl) (fun KK hKK => ?_) AllReady.nil
        go_simp
        refine hKK _ _ ?_
        clear hKK KK
        have HOX := hid (Blk.new w3 24 #[.int .u64 ((nth64 q k : Nat) : Int), .string (bst b)])
        have HCX := hid (HCX.out.alloc (.cells #[.int .u64 ((nth64 q k : Nat) : Int), .string (bst b)] 24))
        have HXX := hid (HXX.out.alloc (.cells #[.int .u64 ((nth64 q k : Nat) : Int), .string (bst b)] 24))
        try simp only [Act.put, List.setIfInBounds_toArray, List.set_cons_zero, List.set_cons_succ]
        refine wpAny_ready (rs := [6]) (by kernel_rfl) (by simp) ?_
        refine AllReady.cons (by simp only [List.getElem?_toArray, List.getElem?_cons_succ, List.getElem?_cons_zero]; rfl) (fun KK hKK => ?_) AllReady.nil
        refine wp_cu_want _ _ rfl HCX.out rfl rfl rfl (RcAt.ofBlk (x := (nth64 q k, b)) HOX.out (Nat.lt_succ_self _)) HL9.out ?_
        intro A9' m9' c9' w9 hc9 hg9
        refine hKK _ _ ?_
        clear hKK KK
        have HCX := hid hc9
        clear hc9 hg9
        try simp only [Act.put, List.setIfInBounds_toArray, List.set_cons_zero, List.set_cons_succ]
        refine wpAny_take (i := 7) (v := ?_) (by simp only [List.getElem?_toArray, List.getElem?_cons_succ, List.getElem?_cons_zero]; rfl) (by kernel_rfl) (by kernel_rfl) (by kernel_rfl) (by intro _ _ _ h; exact h) (Or.inl ⟨by rfl, fun W => by go_simp; first | done | with_reducible rfl⟩) ?_
        try simp only [Act.put, List.setIfInBounds_toArray, List.set_cons_zero, List.set_cons_succ]
        refine wpAny_take (i := 8) (v := ?_) (by simp only [List.getElem?_toArray, List.getElem?_cons_succ, List.getElem?_cons_zero]; rfl) (by kernel_rfl) (by kernel_rfl) (by kernel_rfl) (by intro _ _ _ h; exact h) (Or.inl ⟨by rfl, fun W => by go_simp; first | done | with_reducible rfl⟩) ?_
        try simp only [Act.put, List.setIfInBounds_toArray, List.set_cons_zero, List.set_cons_succ]
        refine wpAny_done (by kernel_rfl) ?_ _
        have HBI := hid (Blk.new w9 3 #[.int .i64 (m3 : Int)])
        have HCY := hid (HCX.out.alloc (.cells #[.int .i64 (m3 : Int)] 3))
        go_wp2_with (at_builtin; go_must (refine wpList_cu_ends rfl _ _ rfl HCY.out rfl rfl HBI.out HL8.out ?_); intro A8' m8' c8' w10 hc10)
        have HCZ := hid (cu_next HQ.out hkl HBK.out hc10)
        clear hc10
        go_wp2_with fail
        go_roundw
        case rel => exact ⟨k + 1, m3, c3, m8', c8', m9', c9', A3, A8', A9', by omega, rfl, rfl, rfl, by go_num, HSN, HCZ⟩
        case measure => simp [intOf]; omega
      refine AllReady.cons (by simp only [List.getElem?_toArray, List.getElem?_cons_succ, List.getElem?_cons_zero]; rfl) (fun KK hKK => ?_) AllReady.nil
      · skip
        have x0 := HXX.out.cell 0
        have x1 := HXX.out.cell 1
        go_simp
        refine hKK _ _ ?_
        clear hKK KK
        clear x0 x1
        try simp only [Act.put, List.setIfInBounds_toArray, List.set_cons_zero, List.set_cons_succ]
        refine wpAny_ready (rs := [2, 5]) (by kernel_rfl) (by simp) ?_
        refine AllReady.cons (by simp only [List.getElem?_toArray, List.getElem?_cons_succ, List.getElem?_cons_zero]; rfl) (fun KK hKK => ?_) ?_
        · skip
          refine wp_cu_all _ _ rfl HCX.out rfl rfl HMX.out HAX.out HL7.out ?_
          intro A3 m3 c3 w3 hc3 hg3
          refine hKK _ _ ?_
          clear hKK KK
          have HXX := hid (HXX.out.grown hg3 (blk_ne_own HXX.out HCX.out.all.2 (by decide)))
          have HCX := hid hc3
          clear hc3 hg3
          try simp only [Act.put, List.setIfInBounds_toArray, List.set_cons_zero, List.set_cons_succ]
          refine wpAny_ready (rs := [5]) (by kernel_rfl) (by simp) ?_
          refine AllReady.cons (by simp only [List.getElem?_toArray, List.getElem?_cons_succ, List.getElem?_cons_zero]; rfl) (fun KK hKK => ?_) AllReady.nil
          go_simp
          refine hKK _ _ ?_
          clear hKK KK
          have HOX := hid (Blk.new w3 24 #[.int .u64 ((nth64 q k : Nat) : Int), .string (bst b)])
          have HCX := hid (HCX.out.alloc (.cells #[.int .u64 ((nth64 q k : Nat) : Int), .string (bst b)] 24))
          have HXX := hid (HXX.out.alloc (.cells #[.int .u64 ((nth64 q k : Nat) : Int), .string (bst b)] 24))
          try simp only [Act.put, List.setIfInBounds_toArray, List.set_cons_zero, List.set_cons_succ]
          refine wpAny_ready (rs := [6]) (by kernel_rfl) (by simp) ?_
          refine AllReady.cons (by simp only [List.getElem?_toArray, List.getElem?_cons_succ, List.getElem?_cons_zero]; rfl) (fun KK hKK => ?_) AllReady.nil
          refine wp_cu_want _ _ rfl HCX.out rfl rfl rfl (RcAt.ofBlk (x := (nth64 q k, b)) HOX.out (Nat.lt_succ_self _)) HL9.out ?_
          intro A9' m9' c9' w9 hc9 hg9
          refine hKK _ _ ?_
          clear hKK KK
          have HCX := hid hc9
          clear hc9 hg9
          try simp only [Act.put, List.setIfInBounds_toArray, List.set_cons_zero, List.set_cons_succ]
          refine wpAny_take (i := 7) (v := ?_) (by simp only [List.getElem?_toArray, List.getElem?_cons_succ, List.getElem?_cons_zero]; rfl) (by kernel_rfl) (by kernel_rfl) (by kernel_rfl) (by intro _ _ _ h; exact h) (Or.inl ⟨by rfl, fun W => by go_simp; first | done | with_reducible rfl⟩) ?_
          try simp only [Act.put, List.setIfInBounds_toArray, List.set_cons_zero, List.set_cons_succ]
          refine wpAny_take (i := 8) (v := ?_) (by simp only [List.getElem?_toArray, List.getElem?_cons_succ, List.getElem?_cons_zero]; rfl) (by kernel_rfl) (by kernel_rfl) (by kernel_rfl) (by intro _ _ _ h; exact h) (Or.inl ⟨by rfl, fun W => by go_simp; first | done | with_reducible rfl⟩) ?_
          try simp only [Act.put, List.setIfInBounds_toArray, List.set_cons_zero, List.set_cons_succ]
          refine wpAny_done (by kernel_rfl) ?_ _
          have HBI := hid (Blk.new w9 3 #[.int .i64 (m3 : Int)])
          have HCY := hid (HCX.out.alloc (.cells #[.int .i64 (m3 : Int)] 3))
          go_wp2_with (at_builtin; go_must (refine wpList_cu_ends rfl _ _ rfl HCY.out rfl rfl HBI.out HL8.out ?_); intro A8' m8' c8' w10 hc10)
          have HCZ := hid (cu_next HQ.out hkl HBK.out hc10)
          clear hc10
          go_wp2_with fail
          go_roundw
          case rel => exact ⟨k + 1, m3, c3, m8', c8', m9', c9', A3, A8', A9', by omega, rfl, rfl, rfl, by go_num, HSN, HCZ⟩
          case measure => simp [intOf]; omega
        refine AllReady.cons (by simp only [List.getElem?_toArray, List.getElem?_cons_succ, List.getElem?_cons_zero]; rfl) (fun KK hKK => ?_) AllReady.nil
        · skip
          go_simp
          refine hKK _ _ ?_
          clear hKK KK
          have HOX := hid (Blk.new w2.drew 24 #[.int .u64 ((nth64 q k : Nat) : Int), .string (bst b)])
          have HCX := hid (HCX.out.alloc (.cells #[.int .u64 ((nth64 q k : Nat) : Int), .string (bst b)] 24))
          have HXX := hid (HXX.out.alloc (.cells #[.int .u64 ((nth64 q k : Nat) : Int), .string (bst b)] 24))
          have HAX := hid (show At (w2.drew.alloc (.cells #[.int .u64 ((nth64 q k : Nat) : Int), .string (bst b)] 24)) (w2.drew.alloc (.cells #[.int .u64 ((nth64 q k : Nat) : Int), .string (bst b)] 24)).heap.size A12 (renc (nth64 q k) b) from (HAX.out.below ((Below.refl _ _).alloc (Nat.le_refl _) _)).more (by simp))
          try simp only [Act.put, List.setIfInBounds_toArray, List.set_cons_zero, List.set_cons_succ]
          refine wpAny_ready (rs := [2]) (by kernel_rfl) (by simp) ?_
          refine AllReady.cons (by simp only [List.getElem?_toArray, List.getElem?_cons_succ, List.getElem?_cons_zero]; rfl) (fun KK hKK => ?_) AllReady.nil
          refine wp_cu_all _ _ rfl HCX.out rfl rfl HMX.out HAX.out HL7.out ?_
          intro A3 m3 c3 w3 hc3 hg3
          refine hKK _ _ ?_
          clear hKK KK
          have HXX := hid (HXX.out.grown hg3 (blk_ne_own HXX.out HCX.out.all.2 (by decide)))
          have HOX := hid (HOX.out.grown hg3 (blk_ne_own HOX.out HCX.out.all.2 (by decide)))
          have HCX := hid hc3
          clear hc3 hg3
          try simp only [Act.put, List.setIfInBounds_toArray, List.set_cons_zero, List.set_cons_succ]
          refine wpAny_ready (rs := [6]) (by kernel_rfl) (by simp) ?_
          refine AllReady.cons (by simp only [List.getElem?_toArray, List.getElem?_cons_succ, List.getElem?_cons_zero]; rfl) (fun KK hKK => ?_) AllReady.nil
          refine wp_cu_want _ _ rfl HCX.out rfl rfl rfl (RcAt.ofBlk (x := (nth64 q k, b)) HOX.out (Nat.lt_succ_self _)) HL9.out ?_
          intro A9' m9' c9' w9 hc9 hg9
          refine hKK _ _ ?_
          clear hKK KK
          have HCX := hid hc9
          clear hc9 hg9
          try simp only [Act.put, List.setIfInBounds_toArray, List.set_cons_zero, List.set_cons_succ]
          refine wpAny_take (i := 7) (v := ?_) (by simp only [List.getElem?_toArray, List.getElem?_cons_succ, List.getElem?_cons_zero]; rfl) (by kernel_rfl) (by kernel_rfl) (by kernel_rfl) (by intro _ _ _ h; exact h) (Or.inl ⟨by rfl, fun W => by go_simp; first | done | with_reducible rfl⟩) ?_
          try simp only [Act.put, List.setIfInBounds_toArray, List.set_cons_zero, List.set_cons_succ]
          refine wpAny_take (i := 8) (v := ?_) (by simp only [List.getElem?_toArray, List.getElem?_cons_succ, List.getElem?_cons_zero]; rfl) (by kernel_rfl) (by kernel_rfl) (by kernel_rfl) (by intro _ _ _ h; exact h) (Or.inl ⟨by rfl, fun W => by go_simp; first | done | with_reducible rfl⟩) ?_
          try simp only [Act.put, List.setIfInBounds_toArray, List.set_cons_zero, List.set_cons_succ]
          refine wpAny_done (by kernel_rfl) ?_ _
          have HBI := hid (Blk.new w9 3 #[.int .i64 (m3 : Int)])
          have HCY := hid (HCX.out.alloc (.cells #[.int .i64 (m3 : Int)] 3))
          go_wp2_with (at_builtin; go_must (refine wpList_cu_ends rfl _ _ rfl HCY.out rfl rfl HBI.out HL8.out ?_); intro A8' m8' c8' w10 hc10)
          have HCZ := hid (cu_next HQ.out hkl HBK.out hc10)
          clear hc10
          go_wp2_with fail
          go_roundw
          case rel => exact ⟨k + 1, m3, c3, m8', c8', m9', c9', A3, A8', A9', by omega, rfl, rfl, rfl, by go_num, HSN, HCZ⟩
          case measure => simp [intOf]; omega
    · obtain rfl : k = n := by omega
      have htk : l.take k = l := List.take_of_length_le (by rw [HN.out]; exact Nat.le_refl _)
      rw [htk] at HC HS
      obtain ⟨N, hN⟩ : ∃ N, (rall q l).length = N := ⟨_, rfl⟩
      obtain rfl : m7 = N := HC.out.all.1.trans hN
      have hm8 : m8 = k + 1 := HC.out.ends.1.trans (by simp)
      subst hm8
      have hm9 : m9 = k := HC.out.want.1.trans ((rnumbered_length l q).trans HN.out)
      subst hm9
      have HNL := hid hN
      have hle : m7 ≤ 2560 := by have h1 := rall_le l q HS.out; rw [hN, HN.out] at h1; omega
      clear htk hN
      obtain ⟨ct, hct⟩ := Int.eq_ofNat_of_zero_le HCUT.out.1
      subst hct
      obtain ⟨cn, hcn⟩ : ∃ cn, ct % (m7 + 1) = cn := ⟨_, rfl⟩
      have hcl7 : cn ≤ m7 := by rw [← hcn]; have := Nat.mod_lt ct (show 0 < m7 + 1 by omega); omega
      have hwr : (wrap64 (ct : Int)).tmod ((m7 : Int) + 1) = (cn : Int) := by
        have h1 : wrap64 (ct : Int) = (ct : Int) := by have := HCUT.out.2; unfold wrap64; omega
        rw [h1, ← hcn, Int.tmod_eq_emod_of_nonneg (by omega)]
        norm_cast
      have HCC := hid (show cn ≤ c7 by have := row_cap HC.out.all; omega)
      have hcc : (cn : Int) ≤ (c7 : Int) := by have := HCC.out; omega
      have HC7 := hid (HC.out.all.at_.take cn)
      have HL7 := hid (show cn = ((rall q l).take cn).length by rw [List.length_take, HNL.out]; omega)
      have HM7 := hid (show ((rall q l).take cn).length ≤ 5000 by have := HL7.out; omega)
      have hcuts := rscan_cut l q cn HQ.out (fun b hb => Nat.le_trans (HS.out b hb) (by decide)) (by rw [HNL.out]; exact hcl7)
      obtain ⟨W, hW⟩ : ∃ W, rwhole q cn l = W := ⟨_, rfl⟩
      have HEND := hid (fun j (h : j < l.length) => hW ▸ end_whole l q cn j h)
      have hWl : W ≤ m9 := by rw [← hW, ← HN.out]; exact rwhole_le l q cn
      rw [hW] at hcuts
      have HCUTS := hid hcuts
      obtain ⟨g8, rfl, hc8, _⟩ := HC.out.ends.cell (k := 0) (by simp)
      clear hcn hcuts hW
      go_wp2_with fail
      go_loopw [15] (fun i wq => ∃ j : Nat, j ≤ W ∧ i = .int .i64 (j : Int) ∧ wq = wr) (fun i _ => W - (intOf i).toNat)
      case atStart => exact ⟨0, Nat.zero_le _, rfl, rfl⟩
      case round =>
        obtain ⟨j, hj, rfl, rfl⟩ := hrel
        by_cases hjm : j < m9
        · obtain ⟨g9, hg9, _, hcj⟩ := HC.out.ends.cell (k := j + 1) (by simp; omega)
          obtain rfl : g8 = g9 := by injection hg9 with h; injection h
          rw [List.getElem_map, List.getElem_range] at hcj
          have hend := HEND.out j (by rw [HN.out]; exact hjm)
          clear hg9
          by_cases hle2 : endAt q l (j + 1) ≤ cn
          · have hjW := hend.1 hle2
            clear hend
            go_wp2_with fail
            go_roundw
            case rel => exact ⟨j + 1, by omega, by go_num, trivial⟩
            case measure => simp [intOf]; omega
          · obtain rfl : j = W := by have : ¬ j < W := fun h => hle2 (hend.2 h); omega
            clear hend
            go_wp2_with fail
            have HSC := hid (HF.out.scan (q := q) (w := wr) HC7.out HL7.out HCC.out (Nat.le_refl _) HM7.out HQ.out (HT.out.step HC.out.below))
            go_fit HSC.out
            rw [HCUTS.out]
            dsimp only
            rintro e w5 ⟨A5, m5, c5, rfl, hr5, hm5, hc5, hb5⟩
            have HB5 := hid (below_step HC.out.below hb5)
            have HC5 := hid (HC.out.step hb5)
            have HR5 := hid hr5
            have HM5 := hid hm5
            clear hb5 hr5 hm5 HSC
            go_wp2_with fail
            go_fit (HAW.out w5 (HT.out.step HB5.out))
            rintro e w6 ⟨rfl, hb6⟩
            have HB6 := hid (below_step HB5.out hb6)
            have HC6 := hid (HC5.out.step hb6)
            have HR6 := hid ((HR5.out.below hb6).more hb6.size)
            clear hb6
            have hew : ((rall q (l.take j)).length : Int) = ((endAt q l j : Nat) : Int) := rfl
            have HEW := hid hew
            rw [hew]
            clear hew
            have hs9 : (j : Int) ≤ (c9 : Int) := by have := HC6.out.want.cap; omega
            go_wp2_with fail
            go_fit (refRSame_any HR6.out ((HC6.out.want.at_.take j).more (Nat.le_refl _)) HM5.out (by rw [List.length_take, rnumbered_length, HN.out]; omega) (Nat.le_refl _) (by have := HM5.out; rw [List.length_take, rnumbered_length, HN.out] at this; omega))
            rw [decide_eq_true rfl]
            rintro e w7 ⟨rfl, hb7⟩
            have HB7 := hid (below_step HB6.out hb7)
            obtain ⟨g9, hg9, _, hcw⟩ := (HC6.out.step hb7).ends.cell (k := j) (by simp; omega)
            obtain rfl : g8 = g9 := by injection hg9 with h; injection h
            rw [List.getElem_map, List.getElem_range] at hcw
            clear hb7 hg9
            go_wp2_with fail
            go_ret
            exact ⟨rfl, HB7.out⟩
        · obtain rfl : j = W := by omega
          go_wp2_with fail
          have HSC := hid (HF.out.scan (q := q) (w := wr) HC7.out HL7.out HCC.out (Nat.le_refl _) HM7.out HQ.out (HT.out.step HC.out.below))
          go_fit HSC.out
          rw [HCUTS.out]
          dsimp only
          rintro e w5 ⟨A5, m5, c5, rfl, hr5, hm5, hc5, hb5⟩
          have HB5 := hid (below_step HC.out.below hb5)
          have HC5 := hid (HC.out.step hb5)
          have HR5 := hid hr5
          have HM5 := hid hm5
          clear hb5 hr5 hm5 HSC
          go_wp2_with fail
          go_fit (HAW.out w5 (HT.out.step HB5.out))
          rintro e w6 ⟨rfl, hb6⟩
          have HB6 := hid (below_step HB5.out hb6)
          have HC6 := hid (HC5.out.step hb6)
          have HR6 := hid ((HR5.out.below hb6).more hb6.size)
          clear hb6
          have hew : ((rall q (l.take j)).length : Int) = ((endAt q l j : Nat) : Int) := rfl
          have HEW := hid hew
          rw [hew]
          clear hew
          have hs9 : (j : Int) ≤ (c9 : Int) := by have := HC6.out.want.cap; omega
          go_wp2_with fail
          go_fit (refRSame_any HR6.out ((HC6.out.want.at_.take j).more (Nat.le_refl _)) HM5.out (by rw [List.length_take, rnumbered_length, HN.out]; omega) (Nat.le_refl _) (by have := HM5.out; rw [List.length_take, rnumbered_length, HN.out] at this; omega))
          rw [decide_eq_true rfl]
          rintro e w7 ⟨rfl, hb7⟩
          have HB7 := hid (below_step HB6.out hb7)
          obtain ⟨g9, hg9, _, hcw⟩ := (HC6.out.step hb7).ends.cell (k := j) (by simp; omega)
          obtain rfl : g8 = g9 := by injection hg9 with h; injection h
          rw [List.getElem_map, List.getElem_range] at hcw
          clear hb7 hg9
          go_wp2_with fail
          go_ret
          exact ⟨rfl, HB7.out⟩

theorem rcuts_int (hF : RFace) (q cut : Int) (A : Option Addr) (c : Nat) (l : List (List UInt8)) (w : World) (hq : 0 ≤ q ∧ q < 18446744073709551616) (hcut : 0 ≤ cut ∧ cut < 65536) (hA : SAt w w.heap.size A l) (hc : l.length ≤ c) (hT : Table w) :
    Calls Tryd.prog 7 #[.int .u64 q, .slice A l.length c, .int .u16 cut] w fun e w' => e = .returned (.bool true) ∧ Below w.heap.size w w' := by
  obtain ⟨n, rfl⟩ := Int.eq_ofNat_of_zero_le hq.1
  exact rcuts_walk hF n cut A c l w (by omega) hcut hA hc hT

end Go.Proofs.YtlcnjkonlnfnfaaDoor
