/-
  The landed Get, by its contract.
-/
import Derived.Test.YtcdjbacljnofiaaBGetW
import Derived.Test.YtcdjbacljnofiaaBGetP
import Derived.Test.YtcdjbacljnofiaaJCode
import Derived.Test.YtcdjbacljnofiaaBCheck
import Derived.Test.YtcdjbacljnofiaaRefBGet
import Derived.StillTail
import Derived.Deep.RegionWith
import Derived.Deep.Cut
namespace Go.Proofs.Ytcdjbacljnofiaa
open Go Go.RowKit

/-- what stands in memory while a batch is read -/
structure GSt (w wr : World) (rb p5 : Nat) (c r s : Nat) (A : Option Addr) (n cap : Nat) (acc : List Wt) (l : List UInt8) (e : Nat) : Prop where
  b2 : Blk wr w.heap.size 25 #[.int .u64 0, .int .u64 0, .int .u64 0, .slice none 0 0]
  b5 : Blk wr p5 25 #[.int .u64 (c : Int), .int .u64 (r : Int), .int .u64 (s : Int), .slice A n cap]
  rd : Rd wr rb l e
  row : WRow wr (rb + 1) A n cap acc
  below : Below w.heap.size w wr
  lt : w.heap.size < rb
  lt5 : rb < p5

section
variable {w wr w' : World} {rb p5 c r s n cap n' cap' e e' : Nat} {A A' : Option Addr} {acc acc' : List Wt} {l l' : List UInt8}
theorem rd_ne {w : World} {base r e : Nat} {l : List UInt8} {A : Option Addr} {n cap : Nat} {ws : List Wt} (h : WRow w base A n cap ws) (hr : Rd w r l e) : (Value.slice A n cap).ownBlock ≠ some r := by
  obtain ⟨A', m, c, hb, _⟩ := hr.out
  exact own_ne_cells h.2 (show w.heap[r]? = _ from hb) (by decide)
theorem GSt.to (h : GSt w wr rb p5 c r s A n cap acc l e) (ho : Only rb wr w') (hr : Rd w' rb l' e') : GSt w w' rb p5 c r s A n cap acc l' e' := by
  have hne := rd_ne h.row h.rd
  have h1 := h.lt
  have h2 := h.lt5
  refine ⟨h.b2.grown ho (by intro x; injection x with x; omega), h.b5.grown ho (by intro x; injection x with x; omega), hr, ⟨h.row.1, h.row.2.kept (row := some rb) ho ?_⟩, h.below.trans (ho.below (Nat.le_of_lt h1) h.below.size), h1, h2⟩
  cases hv : (Value.slice A n cap).ownBlock with
  | none => simp
  | some g => rw [hv] at hne; simpa using hne
theorem GSt.more (h : GSt w wr rb p5 c r s A n cap acc l e) (hb : Below wr.heap.size wr w') : GSt w w' rb p5 c r s A n cap acc l e := h.to (Only.of_below hb) (h.rd.step hb)
theorem GSt.res (h : GSt w wr rb p5 c r s A n cap acc l e) (u0 u1 u2 u3 : Value) :
    Blk ((((wr.setCell ⟨w.heap.size, 0, none⟩ u0).setCell ⟨w.heap.size, 1, none⟩ u1).setCell ⟨w.heap.size, 2, none⟩ u2).setCell ⟨w.heap.size, 3, none⟩ u3) w.heap.size 25 #[u0, u1, u2, u3] ∧
      WRow ((((wr.setCell ⟨w.heap.size, 0, none⟩ u0).setCell ⟨w.heap.size, 1, none⟩ u1).setCell ⟨w.heap.size, 2, none⟩ u2).setCell ⟨w.heap.size, 3, none⟩ u3) w.heap.size A n cap acc ∧
      Below w.heap.size w ((((wr.setCell ⟨w.heap.size, 0, none⟩ u0).setCell ⟨w.heap.size, 1, none⟩ u1).setCell ⟨w.heap.size, 2, none⟩ u2).setCell ⟨w.heap.size, 3, none⟩ u3) := by
  have h1 := h.lt
  have n2 := own_ne_cells h.row.2 h.b2 (by decide)
  refine ⟨(((h.b2.set 0 u0).set 1 u1).set 2 u2).set 3 u3, ⟨h.row.1, ?_⟩, (((h.below.setCell (by simp) _).setCell (by simp) _).setCell (by simp) _).setCell (by simp) _⟩
  exact ownsRow_setCell_other (ownsRow_setCell_other (ownsRow_setCell_other (ownsRow_setCell_other (h.row.le (by omega)).2 n2 u0) n2 u1) n2 u2) n2 u3
theorem GSt.grow (h : GSt w wr rb p5 c r s A n cap acc l e) (hg : wr.grownBy w' (Value.slice A n cap).ownBlock) (hr : WRow w' (rb + 1) A' n' cap' acc') :
    GSt w (w'.setCell ⟨p5, 3, none⟩ (.slice A' n' cap')) rb p5 c r s A' n' cap' acc' l e := by
  have h1 := h.lt
  have h2 := h.lt5
  have n2 := own_ne_cells h.row.2 h.b2 (by decide)
  have n5 := own_ne_cells h.row.2 h.b5 (by decide)
  have b5 := h.b5.grown hg (fun e => n5 e.symm)
  have n5' := own_ne_cells hr.2 (show w'.heap[p5]? = _ from b5) (by decide)
  have hb := (Below.refl (rb + 1) wr).grown hg (show rb + 1 ≤ wr.heap.size from h.rd.lt) (fun k hk => (h.row.2.lt k hk).1)
  have rd' : Rd w' rb l e := h.rd.below hb (Nat.lt_succ_self _)
  exact ⟨(h.b2.grown hg (fun e => n2 e.symm)).far (by show w.heap.size ≠ p5; omega) _, b5.set 3 _, rd'.farR h2 _, ⟨hr.1, ownsRow_setCell_other hr.2 n5' _⟩, (h.below.trans (hb.mono (by omega))).setCell (by show w.heap.size ≤ p5; omega) _, h1, h2⟩
end

set_option maxHeartbeats 4000000 in
set_option maxRecDepth 100000 in
theorem bget_any {A : Option Addr} {m c B : Nat} {l : List UInt8} {w : World} (hA : At w B A l) (hm : m = l.length) (_hc : m ≤ c) (hB : B ≤ w.heap.size) (hl : l.length ≤ 5000) :
    Calls Try.prog 19 #[.slice A m c] w (GotB w (bget l)) := by
  have hb1 : Below w.heap.size w (w.alloc (.cells #[.int .u64 0, .int .u64 0, .int .u64 0, .slice none 0 0] 25)) := (Below.refl _ _).alloc (Nat.le_refl _) _
  have HZ := hid (Blk.new w 25 #[.int .u64 0, .int .u64 0, .int .u64 0, .slice none 0 0])
  have HB1 := hid hb1
  have HSZ := hid (show (w.alloc (.cells #[.int .u64 0, .int .u64 0, .int .u64 0, .slice none 0 0] 25)).heap.size = w.heap.size + 1 by simp)
  have HA := hid (hA.below (hb1.mono hB))
  have HM := hid hm
  have HBX := hid hB
  have HL := hid hl
  obtain ⟨D, hD⟩ : ∃ D, D = bget l := ⟨_, rfl⟩
  rw [← hD]
  have HD := hid hD
  obtain ⟨⟨c0, l1, e1⟩, h1⟩ : ∃ o, sN l 0 = o := ⟨_, rfl⟩
  obtain ⟨⟨r0, l2, e2⟩, h2⟩ : ∃ o, sN l1 e1 = o := ⟨_, rfl⟩
  obtain ⟨⟨s0, l3, e3⟩, h3⟩ : ∃ o, sN l2 e2 = o := ⟨_, rfl⟩
  obtain ⟨⟨k0, l4, e4⟩, h4⟩ : ∃ o, sC 8 l3 e3 = o := ⟨_, rfl⟩
  have H1 := hid h1
  have H2 := hid h2
  have H3 := hid h3
  have H4 := hid h4
  clear hA hm hB hl hb1 hD h1 h2 h3 h4
  go_enter Try.func19, Try.ntmps19
  go_wp2_with fail
  generalize (w.alloc (.cells #[.int .u64 0, .int .u64 0, .int .u64 0, .slice none 0 0] 25)) = w1 at *
  go_fit (read_any HA.out HM.out (by rw [HSZ.out]; have := HBX.out; omega) (by have := HL.out; omega))
  rintro e w2 ⟨⟨rb, rfl, hr2, hle2, hb2⟩⟩
  have HR2 := hid hr2
  have HB2 := hid (below_step HB1.out hb2)
  have HZ2 := hid (HZ.out.below hb2 HZ.out.lt)
  have HLT := hid (show w.heap.size < rb by have := HSZ.out; omega)
  clear hr2 hle2 hb2
  go_wp2_with fail
  go_fit (sN_any HR2.out)
  rintro e w3 ⟨rfl, hr3, ho3⟩
  rw [H1.out] at hr3 ⊢
  dsimp only at hr3 ⊢
  have HR3 := hid hr3
  have HO3 := hid ho3
  clear hr3 ho3
  go_wp2_with fail
  go_fit (sN_any HR3.out)
  rintro e w4 ⟨rfl, hr4, ho4⟩
  rw [H2.out] at hr4 ⊢
  dsimp only at hr4 ⊢
  have HR4 := hid hr4
  have HO4 := hid (HO3.out.trans ho4)
  clear hr4 ho4
  go_wp2_with fail
  go_fit (sN_any HR4.out)
  rintro e w5 ⟨rfl, hr5, ho5⟩
  rw [H3.out] at hr5 ⊢
  dsimp only at hr5 ⊢
  have HR5 := hid hr5
  have HO5 := hid (HO4.out.trans ho5)
  clear hr5 ho5
  have hb6 : Below w5.heap.size w5 (w5.alloc (.cells #[.int .u64 (c0 : Int), .int .u64 (r0 : Int), .int .u64 (s0 : Int), .slice none 0 0] 25)) := (Below.refl _ _).alloc (Nat.le_refl _) _
  have HG6 := hid (show GSt w (w5.alloc (.cells #[.int .u64 (c0 : Int), .int .u64 (r0 : Int), .int .u64 (s0 : Int), .slice none 0 0] 25)) rb w5.heap.size c0 r0 s0 none 0 0 [] l3 e3 from
    ⟨(HZ2.out.grown HO5.out (by intro e; injection e with e; have := HLT.out; omega)).alloc _, Blk.new w5 _ _, HR5.out.step hb6, WRow.nil _ _, (HB2.out.trans (HO5.out.below (Nat.le_of_lt HLT.out) HB2.out.size)).trans (hb6.mono (by have := HR5.out.lt; have := HLT.out; omega)), HLT.out, HR5.out.lt⟩)
  clear hb6
  go_wp2_with fail
  generalize (w5.alloc (.cells #[.int .u64 (c0 : Int), .int .u64 (r0 : Int), .int .u64 (s0 : Int), .slice none 0 0] 25)) = w6 at *
  generalize w5.heap.size = p5 at *
  go_fit (sC_any (by decide) HG6.out.rd)
  rintro e w7 ⟨rfl, hr7, ho7⟩
  rw [H4.out] at hr7 ⊢
  dsimp only at hr7 ⊢
  have HG7 := hid (HG6.out.to ho7 hr7)
  have hk8 := sC_le H4.out
  clear hr7 ho7
  go_wp2_with fail
  go_loopw [17] (fun i wr => ∃ (k n : Nat) (A : Option Addr) (cap : Nat) (acc : List Wt) (l' : List UInt8) (e' : Nat), k ≤ k0 ∧ i = .int .i64 (k : Int) ∧ Kept (acc.length = k ∧ gws k0 [] l4 e4 = gws (k0 - k) acc l' e') ∧ Kept (GSt w wr rb p5 c0 r0 s0 A n cap acc l' e')) (fun i _ => k0 - (intOf i).toNat)
  case atStart => exact ⟨0, 0, none, 0, [], l4, e4, Nat.zero_le _, rfl, hid ⟨rfl, rfl⟩, HG7⟩
  case round =>
    obtain ⟨k, n, A1, cap, acc, l', e', hk, rfl, HQ, HG⟩ := hrel
    by_cases hlt : k < k0
    · obtain ⟨⟨⟨K, V, gg⟩, l5, e5⟩, hgw⟩ : ∃ o, gw l' e' = o := ⟨_, rfl⟩
      have HGW := hid hgw
      have HACC := hid (show acc.length ≤ 8 by rw [HQ.out.1]; omega)
      have HQ2 := hid (show (acc ++ [(⟨K, V, gg⟩ : Wt)]).length = k + 1 ∧ gws k0 [] l4 e4 = gws (k0 - (k + 1)) (acc ++ [(⟨K, V, gg⟩ : Wt)]) l5 e5 by
        refine ⟨by rw [List.length_append, HQ.out.1]; rfl, ?_⟩
        rw [HQ.out.2, show k0 - k = (k0 - (k + 1)) + 1 by omega, gws, hgw])
      have hcall := fun (W : World) (hW : GSt w W rb p5 c0 r0 s0 A1 n cap acc l' e') => getWrite_any hW.rd
      rw [hgw] at hcall
      dsimp only [Wt.val] at hcall
      have HCALL := hid hcall
      clear hgw hcall
      go_wp2_with fail
      generalize hwq : wr.drew = wq
      have HG0 := hid (show GSt w wq rb p5 c0 r0 s0 A1 n cap acc l' e' by rw [← hwq]; exact HG.out.more ((Below.refl _ _).drew))
      refine wp_region_any (by kernel_rfl) ?_
      try (change wpAny _ _ _ _ _ _ _ (World.drew _))
      refine wpAny_take (i := 0) (v := ?_) (by simp only [List.getElem?_toArray, List.getElem?_cons_zero]; rfl) (by kernel_rfl) (by kernel_rfl) (by kernel_rfl) (by intro _ _ _ h; exact h) (Or.inl ⟨by rfl, fun W => by go_simp; first | done | with_reducible rfl⟩) ?_
      try simp only [Act.put, List.setIfInBounds_toArray, List.set_cons_zero, List.set_cons_succ]
      refine wpAny_take (i := 2) (v := ?_) (by simp only [List.getElem?_toArray, List.getElem?_cons_succ, List.getElem?_cons_zero]; rfl) (by kernel_rfl) (by kernel_rfl) (by kernel_rfl) (by intro _ _ _ h; exact h) (Or.inl ⟨by rfl, fun W => by go_simp; first | done | with_reducible rfl⟩) ?_
      try simp only [Act.put, List.setIfInBounds_toArray, List.set_cons_zero, List.set_cons_succ]
      refine wpAny_ready (rs := [1, 3]) (by kernel_rfl) (by simp) ?_
      refine AllReady.cons (by simp only [List.getElem?_toArray, List.getElem?_cons_succ, List.getElem?_cons_zero]; rfl) (fun KK hKK => ?_) ?_
      · skip
        have q1 := HG0.out.b5.cell 3
        dsimp at q1
        go_simp
        refine hKK _ _ ?_
        clear hKK KK
        clear q1
        try simp only [Act.put, List.setIfInBounds_toArray, List.set_cons_zero, List.set_cons_succ]
        refine wpAny_ready (rs := [3]) (by kernel_rfl) (by simp) ?_
        refine AllReady.cons (by simp only [List.getElem?_toArray, List.getElem?_cons_succ, List.getElem?_cons_zero]; rfl) (fun KK hKK => ?_) AllReady.nil
        go_simp
        go_fit (HCALL.out _ HG0.out)
        rintro e w6 ⟨rfl, hr6, ho6⟩
        refine hKK _ _ ?_
        clear hKK KK
        have HG1 := hid (HG0.out.to ho6 hr6)
        clear hr6 ho6
        try simp only [Act.put, List.setIfInBounds_toArray, List.set_cons_zero, List.set_cons_succ]
        refine wpAny_ready (rs := [4]) (by kernel_rfl) (by simp) ?_
        refine AllReady.cons (by simp only [List.getElem?_toArray, List.getElem?_cons_succ, List.getElem?_cons_zero]; rfl) (fun KK hKK => ?_) AllReady.nil
        go_simp
        refine hKK _ _ ?_
        clear hKK KK
        have HG2 := hid (HG1.out.more ((Below.refl _ _).alloc (Nat.le_refl _) (.cells #[.string (bst K), .string (bst V), .bool gg] 43)))
        have HX2 := hid (WAt.one w6 ⟨K, V, gg⟩ (g := w6.heap.size) rfl)
        try simp only [Act.put, List.setIfInBounds_toArray, List.set_cons_zero, List.set_cons_succ]
        refine wpAny_ready (rs := [5]) (by kernel_rfl) (by simp) ?_
        refine AllReady.cons (by simp only [List.getElem?_toArray, List.getElem?_cons_succ, List.getElem?_cons_zero]; rfl) (fun KK hKK => ?_) AllReady.nil
        refine wp_append_ws _ (.tmp 20) (.tmp 23) rfl (rb + 1) rfl HG2.out.row rfl rfl (ns := [⟨K, V, gg⟩]) HX2.out (by have := HACC.out; simp; omega) HG2.out.rd.lt ?_
        intro A7 m7 c7 w7 hr7 hm7 hb7 hg7
        refine hKK _ _ ?_
        clear hKK KK
        have HG3 := hid (HG2.out.grow hg7 hr7)
        have HB7 := hid (HG2.out.b5.grown hg7 (fun e => own_ne_cells HG2.out.row.2 HG2.out.b5 (by decide) e.symm))
        clear hr7 hm7 hb7 hg7
        try simp only [Act.put, List.setIfInBounds_toArray, List.set_cons_zero, List.set_cons_succ]
        refine wpAny_take (i := 6) (v := ?_) (by simp only [List.getElem?_toArray, List.getElem?_cons_succ, List.getElem?_cons_zero]; rfl) (by kernel_rfl) (by kernel_rfl) (by kernel_rfl) (by intro _ _ _ h; exact h) (Or.inl ⟨by rfl, fun W => by go_simp; first | done | with_reducible rfl⟩) ?_
        try simp only [Act.put, List.setIfInBounds_toArray, List.set_cons_zero, List.set_cons_succ]
        refine wpAny_ready (rs := [7]) (by kernel_rfl) (by simp) ?_
        refine AllReady.cons (by simp only [List.getElem?_toArray, List.getElem?_cons_succ, List.getElem?_cons_zero]; rfl) (fun KK hKK => ?_) AllReady.nil
        have q7 := HB7.out.cell 3
        have g7 := HB7.out.free 3
        dsimp at q7
        go_simp
        refine hKK _ _ ?_
        clear hKK KK
        clear q7 g7
        try simp only [Act.put, List.setIfInBounds_toArray, List.set_cons_zero, List.set_cons_succ]
        refine wpAny_done (by kernel_rfl) ?_ _
        generalize w7.setCell ⟨p5, 3, none⟩ (.slice A7 m7 c7) = w8 at *
        clear hwq HB7 HX2 HG2 HG1 HG0
        go_wp2_with fail
        go_roundw
        case rel => exact ⟨k + 1, m7, A7, c7, _, l5, e5, by omega, by go_num, HQ2, HG3⟩
        case measure => simp [intOf]; omega
      refine AllReady.cons (by simp only [List.getElem?_toArray, List.getElem?_cons_succ, List.getElem?_cons_zero]; rfl) (fun KK hKK => ?_) AllReady.nil
      · skip
        go_simp
        go_fit (HCALL.out _ HG0.out)
        rintro e w6 ⟨rfl, hr6, ho6⟩
        refine hKK _ _ ?_
        clear hKK KK
        have HG1 := hid (HG0.out.to ho6 hr6)
        clear hr6 ho6
        try simp only [Act.put, List.setIfInBounds_toArray, List.set_cons_zero, List.set_cons_succ]
        refine wpAny_ready (rs := [1, 4]) (by kernel_rfl) (by simp) ?_
        refine AllReady.cons (by simp only [List.getElem?_toArray, List.getElem?_cons_succ, List.getElem?_cons_zero]; rfl) (fun KK hKK => ?_) ?_
        · skip
          have q1 := HG1.out.b5.cell 3
          dsimp at q1
          go_simp
          refine hKK _ _ ?_
          clear hKK KK
          clear q1
          try simp only [Act.put, List.setIfInBounds_toArray, List.set_cons_zero, List.set_cons_succ]
          refine wpAny_ready (rs := [4]) (by kernel_rfl) (by simp) ?_
          refine AllReady.cons (by simp only [List.getElem?_toArray, List.getElem?_cons_succ, List.getElem?_cons_zero]; rfl) (fun KK hKK => ?_) AllReady.nil
          go_simp
          refine hKK _ _ ?_
          clear hKK KK
          have HG2 := hid (HG1.out.more ((Below.refl _ _).alloc (Nat.le_refl _) (.cells #[.string (bst K), .string (bst V), .bool gg] 43)))
          have HX2 := hid (WAt.one w6 ⟨K, V, gg⟩ (g := w6.heap.size) rfl)
          try simp only [Act.put, List.setIfInBounds_toArray, List.set_cons_zero, List.set_cons_succ]
          refine wpAny_ready (rs := [5]) (by kernel_rfl) (by simp) ?_
          refine AllReady.cons (by simp only [List.getElem?_toArray, List.getElem?_cons_succ, List.getElem?_cons_zero]; rfl) (fun KK hKK => ?_) AllReady.nil
          refine wp_append_ws _ (.tmp 20) (.tmp 23) rfl (rb + 1) rfl HG2.out.row rfl rfl (ns := [⟨K, V, gg⟩]) HX2.out (by have := HACC.out; simp; omega) HG2.out.rd.lt ?_
          intro A7 m7 c7 w7 hr7 hm7 hb7 hg7
          refine hKK _ _ ?_
          clear hKK KK
          have HG3 := hid (HG2.out.grow hg7 hr7)
          have HB7 := hid (HG2.out.b5.grown hg7 (fun e => own_ne_cells HG2.out.row.2 HG2.out.b5 (by decide) e.symm))
          clear hr7 hm7 hb7 hg7
          try simp only [Act.put, List.setIfInBounds_toArray, List.set_cons_zero, List.set_cons_succ]
          refine wpAny_take (i := 6) (v := ?_) (by simp only [List.getElem?_toArray, List.getElem?_cons_succ, List.getElem?_cons_zero]; rfl) (by kernel_rfl) (by kernel_rfl) (by kernel_rfl) (by intro _ _ _ h; exact h) (Or.inl ⟨by rfl, fun W => by go_simp; first | done | with_reducible rfl⟩) ?_
          try simp only [Act.put, List.setIfInBounds_toArray, List.set_cons_zero, List.set_cons_succ]
          refine wpAny_ready (rs := [7]) (by kernel_rfl) (by simp) ?_
          refine AllReady.cons (by simp only [List.getElem?_toArray, List.getElem?_cons_succ, List.getElem?_cons_zero]; rfl) (fun KK hKK => ?_) AllReady.nil
          have q7 := HB7.out.cell 3
          have g7 := HB7.out.free 3
          dsimp at q7
          go_simp
          refine hKK _ _ ?_
          clear hKK KK
          clear q7 g7
          try simp only [Act.put, List.setIfInBounds_toArray, List.set_cons_zero, List.set_cons_succ]
          refine wpAny_done (by kernel_rfl) ?_ _
          generalize w7.setCell ⟨p5, 3, none⟩ (.slice A7 m7 c7) = w8 at *
          clear hwq HB7 HX2 HG2 HG1 HG0
          go_wp2_with fail
          go_roundw
          case rel => exact ⟨k + 1, m7, A7, c7, _, l5, e5, by omega, by go_num, HQ2, HG3⟩
          case measure => simp [intOf]; omega
        refine AllReady.cons (by simp only [List.getElem?_toArray, List.getElem?_cons_succ, List.getElem?_cons_zero]; rfl) (fun KK hKK => ?_) AllReady.nil
        · skip
          go_simp
          refine hKK _ _ ?_
          clear hKK KK
          have HG2 := hid (HG1.out.more ((Below.refl _ _).alloc (Nat.le_refl _) (.cells #[.string (bst K), .string (bst V), .bool gg] 43)))
          have HX2 := hid (WAt.one w6 ⟨K, V, gg⟩ (g := w6.heap.size) rfl)
          try simp only [Act.put, List.setIfInBounds_toArray, List.set_cons_zero, List.set_cons_succ]
          refine wpAny_ready (rs := [1]) (by kernel_rfl) (by simp) ?_
          refine AllReady.cons (by simp only [List.getElem?_toArray, List.getElem?_cons_succ, List.getElem?_cons_zero]; rfl) (fun KK hKK => ?_) AllReady.nil
          have q1 := HG2.out.b5.cell 3
          dsimp at q1
          go_simp
          refine hKK _ _ ?_
          clear hKK KK
          clear q1
          try simp only [Act.put, List.setIfInBounds_toArray, List.set_cons_zero, List.set_cons_succ]
          refine wpAny_ready (rs := [5]) (by kernel_rfl) (by simp) ?_
          refine AllReady.cons (by simp only [List.getElem?_toArray, List.getElem?_cons_succ, List.getElem?_cons_zero]; rfl) (fun KK hKK => ?_) AllReady.nil
          refine wp_append_ws _ (.tmp 20) (.tmp 23) rfl (rb + 1) rfl HG2.out.row rfl rfl (ns := [⟨K, V, gg⟩]) HX2.out (by have := HACC.out; simp; omega) HG2.out.rd.lt ?_
          intro A7 m7 c7 w7 hr7 hm7 hb7 hg7
          refine hKK _ _ ?_
          clear hKK KK
          have HG3 := hid (HG2.out.grow hg7 hr7)
          have HB7 := hid (HG2.out.b5.grown hg7 (fun e => own_ne_cells HG2.out.row.2 HG2.out.b5 (by decide) e.symm))
          clear hr7 hm7 hb7 hg7
          try simp only [Act.put, List.setIfInBounds_toArray, List.set_cons_zero, List.set_cons_succ]
          refine wpAny_take (i := 6) (v := ?_) (by simp only [List.getElem?_toArray, List.getElem?_cons_succ, List.getElem?_cons_zero]; rfl) (by kernel_rfl) (by kernel_rfl) (by kernel_rfl) (by intro _ _ _ h; exact h) (Or.inl ⟨by rfl, fun W => by go_simp; first | done | with_reducible rfl⟩) ?_
          try simp only [Act.put, List.setIfInBounds_toArray, List.set_cons_zero, List.set_cons_succ]
          refine wpAny_ready (rs := [7]) (by kernel_rfl) (by simp) ?_
          refine AllReady.cons (by simp only [List.getElem?_toArray, List.getElem?_cons_succ, List.getElem?_cons_zero]; rfl) (fun KK hKK => ?_) AllReady.nil
          have q7 := HB7.out.cell 3
          have g7 := HB7.out.free 3
          dsimp at q7
          go_simp
          refine hKK _ _ ?_
          clear hKK KK
          clear q7 g7
          try simp only [Act.put, List.setIfInBounds_toArray, List.set_cons_zero, List.set_cons_succ]
          refine wpAny_done (by kernel_rfl) ?_ _
          generalize w7.setCell ⟨p5, 3, none⟩ (.slice A7 m7 c7) = w8 at *
          clear hwq HB7 HX2 HG2 HG1 HG0
          go_wp2_with fail
          go_roundw
          case rel => exact ⟨k + 1, m7, A7, c7, _, l5, e5, by omega, by go_num, HQ2, HG3⟩
          case measure => simp [intOf]; omega
    · obtain rfl : k = k0 := by omega
      have HDG := hid (show D = gend c0 r0 s0 (acc, l', e') by
        rw [HD.out, bget_s H1.out H2.out H3.out H4.out, HQ.out.2, Nat.sub_self]; rfl)
      have HAL := hid (show acc.length ≤ 8 by rw [HQ.out.1]; omega)
      obtain ⟨E, hE⟩ : ∃ E, E = endOf l' e' := ⟨_, rfl⟩
      have HE := hid hE
      have HEND := hid (end_any rb e' l' wr HG.out.rd)
      rw [← hE] at HEND
      clear hE
      obtain ⟨y0, y1, y2, y3, g0, g1, g2, g3⟩ := four HG.out.b5
      obtain ⟨x0, x1, x2, x3, f0, f1, f2, f3⟩ := four HG.out.b2
      by_cases hE0 : E = 0
      case neg =>
        have HDN := hid (show D = none by rw [HDG.out]; unfold gend; rw [if_neg]; intro h; exact hE0 (by rw [HE.out]; exact h.1))
        have hcz : ((E : Int) != 0) = true := by simp; omega
        have hcz2 : ¬ ((E : Int) = 0) := by omega
        have HGF := HG
        go_wp2_with fail
        go_fit HEND.out
        rintro e w7 ⟨rfl, rfl⟩
        go_wp2_with fail
        obtain ⟨r0', r1', r2'⟩ := HGF.out.res (.int .u64 0) (.int .u64 0) (.int .u64 0) (.slice none 0 0)
        generalize ((((wr.setCell ⟨w.heap.size, 0, none⟩ (.int .u64 0)).setCell ⟨w.heap.size, 1, none⟩ (.int .u64 0)).setCell ⟨w.heap.size, 2, none⟩ (.int .u64 0)).setCell ⟨w.heap.size, 3, none⟩ (.slice none 0 0)) = w9 at *
        clear y0 y1 y2 y3 g0 g1 g2 g3 x0 x1 x2 x3 f0 f1 f2 f3
        obtain ⟨x0, x1, x2, x3, _, _, _, _⟩ := four r0'
        exact bodyPost_ret (v := .tuple #[.agg #[.int .u64 0, .int .u64 0, .int .u64 0, .slice none 0 0], .int .i64 55]) (by simp [results, Try.results19, go_sem, x0, x1, x2, x3]) rfl ⟨.inl ⟨HDN.out, rfl⟩, r2'⟩
      subst hE0
      obtain ⟨C, hC⟩ : ∃ C, C = chk acc := ⟨_, rfl⟩
      have HC := hid hC
      have HCH := hid (check_any (c := (c0 : Int)) (r := (r0 : Int)) (s := (s0 : Int)) (cap := cap) (HG.out.row.at_) HG.out.row.1 (Nat.le_refl _))
      rw [← hC] at HCH
      clear hC
      by_cases hC0 : C = 0
      case neg =>
        have HDN := hid (show D = none by rw [HDG.out]; unfold gend; rw [if_neg]; intro h; exact hC0 (by rw [HC.out]; exact h.2))
        have hcz : ((C : Int) != 0) = true := by simp; omega
        have hcz2 : ¬ ((C : Int) = 0) := by omega
        go_wp2_with fail
        go_fit HEND.out
        rintro e w7 ⟨rfl, rfl⟩
        go_wp2_with fail
        go_fit HCH.out
        rintro e w8 ⟨rfl, hb8⟩
        have HGF := hid (HG.out.more hb8)
        clear hb8 y0 y1 y2 y3 g0 g1 g2 g3 x0 x1 x2 x3 f0 f1 f2 f3
        obtain ⟨y0, y1, y2, y3, g0, g1, g2, g3⟩ := four HGF.out.b5
        obtain ⟨x0, x1, x2, x3, f0, f1, f2, f3⟩ := four HGF.out.b2
        go_wp2_with fail
        obtain ⟨r0', r1', r2'⟩ := HGF.out.res (.int .u64 0) (.int .u64 0) (.int .u64 0) (.slice none 0 0)
        generalize ((((w8.setCell ⟨w.heap.size, 0, none⟩ (.int .u64 0)).setCell ⟨w.heap.size, 1, none⟩ (.int .u64 0)).setCell ⟨w.heap.size, 2, none⟩ (.int .u64 0)).setCell ⟨w.heap.size, 3, none⟩ (.slice none 0 0)) = w9 at *
        clear y0 y1 y2 y3 g0 g1 g2 g3 x0 x1 x2 x3 f0 f1 f2 f3
        obtain ⟨x0, x1, x2, x3, _, _, _, _⟩ := four r0'
        exact bodyPost_ret (v := .tuple #[.agg #[.int .u64 0, .int .u64 0, .int .u64 0, .slice none 0 0], .int .i64 55]) (by simp [results, Try.results19, go_sem, x0, x1, x2, x3]) rfl ⟨.inl ⟨HDN.out, rfl⟩, r2'⟩
      subst hC0
      have HDS := hid (show D = some ⟨c0, r0, s0, acc⟩ by rw [HDG.out]; unfold gend; rw [if_pos ⟨HE.out.symm, HC.out.symm⟩])
      go_wp2_with fail
      go_fit HEND.out
      rintro e w7 ⟨rfl, rfl⟩
      go_wp2_with fail
      go_fit HCH.out
      rintro e w8 ⟨rfl, hb8⟩
      have HGF := hid (HG.out.more hb8)
      clear hb8 y0 y1 y2 y3 g0 g1 g2 g3 x0 x1 x2 x3 f0 f1 f2 f3
      obtain ⟨y0, y1, y2, y3, g0, g1, g2, g3⟩ := four HGF.out.b5
      obtain ⟨x0, x1, x2, x3, f0, f1, f2, f3⟩ := four HGF.out.b2
      go_wp2_with fail
      obtain ⟨r0', r1', r2'⟩ := HGF.out.res (.int .u64 (c0 : Int)) (.int .u64 (r0 : Int)) (.int .u64 (s0 : Int)) (.slice A1 n cap)
      generalize ((((w8.setCell ⟨w.heap.size, 0, none⟩ (.int .u64 (c0 : Int))).setCell ⟨w.heap.size, 1, none⟩ (.int .u64 (r0 : Int))).setCell ⟨w.heap.size, 2, none⟩ (.int .u64 (s0 : Int))).setCell ⟨w.heap.size, 3, none⟩ (.slice A1 n cap)) = w9 at *
      clear y0 y1 y2 y3 g0 g1 g2 g3 x0 x1 x2 x3 f0 f1 f2 f3
      obtain ⟨x0, x1, x2, x3, _, _, _, _⟩ := four r0'
      exact bodyPost_ret (v := .tuple #[.agg #[.int .u64 (c0 : Int), .int .u64 (r0 : Int), .int .u64 (s0 : Int), .slice A1 n cap], .int .i64 0]) (by simp [results, Try.results19, go_sem, x0, x1, x2, x3]) rfl ⟨.inr ⟨_, A1, n, cap, HDS.out, rfl, r1'⟩, r2'⟩

end Go.Proofs.Ytcdjbacljnofiaa
