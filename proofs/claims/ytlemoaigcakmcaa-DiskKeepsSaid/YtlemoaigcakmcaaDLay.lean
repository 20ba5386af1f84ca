/-
  write and free: an operation is laid.
-/
import Derived.Test.YtlemoaigcakmcaaDMid
import Derived.StillTailTactics
import Derived.Maps.OwnRows
namespace Go.Proofs.Ytlemoaigcakmcaa
open Go Go.RowKit

theorem used_le (s : Dk) : s.used ≤ s.size := cnt_le _ _

set_option maxHeartbeats 8000000 in
set_option maxRecDepth 100000 in
theorem lay_is {w : World} {d g c n cap nc : Nat} {A : Option Addr} {ch : Chg} {fs : List Value} {M R : Nat → Prop} {s : Dk} (h : DIn w d g c A n cap ch nc fs M R s) {i : Int} {b : List UInt8} (h0 : 0 ≤ i) (h1 : i < (s.size : Int)) (hb : b.length ≤ 512) (hpl : s.pend.length ≤ 1000000) :
    Calls Try.prog 23 #[.pointer (some ⟨d, 0, none⟩), .int .i64 i, .string (bst b)] w fun e w' => e = .returned (.tuple #[]) ∧
      ∃ M' R', DA6 w' d M' R' { s with view := upd s.view i (some b), pend := s.pend ++ [⟨i, some b⟩] } ∧ Turns M R w M' R' w' := by
  have HP := hid (h.pl.lay h0 h1 (some b) (fun x hx => by injection hx with hx; rw [← hx]; exact hb))
  have HCT := hid (show updT (cT ch) i (some (.agg #[.bool true, .string (bst b)])) = cT (updC ch i (some b)) from cT_upd ch i (some b))
  have hcu := cnt_upd (n := s.size) (m := s.view) (some b) h0 h1
  have hul := used_le s
  have hsz := h.pl.sz2
  have hnl : n = s.pend.length := h.row.len.trans h.ops.len
  have HLN := hid (show n + 1 ≤ 1099511627776 by omega)
  have s1 : (w.alloc (.cells #[.int .i64 i] 3)).heap.size = w.heap.size + 1 := by simp
  have HBI := hid (show Blk ((w.alloc (.cells #[.int .i64 i] 3)).alloc (.cells #[.string (bst b)] 9)) w.heap.size 3 #[.int .i64 i] from (Blk.new w _ _).alloc _)
  have hbb := Blk.new (w.alloc (.cells #[.int .i64 i] 3)) 9 #[.string (bst b)]
  rw [s1] at hbb
  have HBB := hid hbb
  have HM := hid (h.mid.below (((Below.refl _ _).alloc (Nat.le_refl _) (.cells #[.int .i64 i] 3)).alloc (by simp) (.cells #[.string (bst b)] 9)))
  have HV := hid (view_is (h.below (((Below.refl _ _).alloc (Nat.le_refl _) (.cells #[.int .i64 i] 3)).alloc (by simp) (.cells #[.string (bst b)] 9))) i)
  have hfu := field_used
  have i0 := HBI.out.cell 0
  have HSZ := hid (show w.heap.size + 1 < ((w.alloc (.cells #[.int .i64 i] 3)).alloc (.cells #[.string (bst b)] 9)).heap.size by simp)
  clear h hbb s1 hnl
  cases hv : s.view i with
  | none =>
    rw [hv] at HV hcu
    rw [show stV none = .agg #[.bool false, .string ⟨#[]⟩] from rfl] at HV
    have HU := hid (show (s.used : Int) + 1 = ((cnt s.size (upd s.view i (some b)) : Nat) : Int) by unfold Dk.used; simp at hcu; omega)
    clear hcu hv
    go_enter Try.func23, Try.ntmps23
    go_wp2_with fail
    generalize (w.alloc (.cells #[.int .i64 i] 3)).alloc (.cells #[.string (bst b)] 9) = w1 at *
    go_fit HV.out
    rintro e w2 ⟨rfl, hb2⟩
    have HM2 := hid (HM.out.below hb2)
    have HBI2 := hid (HBI.out.below hb2 HBI.out.lt)
    have HBB2 := hid (HBB.out.below hb2 HBB.out.lt)
    have HSZ2 := hid (Nat.lt_of_lt_of_le HSZ.out hb2.size)
    obtain ⟨d0, d1, d2, d3, d4, d5, _, f2, _, _⟩ := six HM2.out.blk
    clear i0 hb2
    go_wp2_with fail
    have HMr := hid (HM2.out.use ((s.used : Int) + 1))
    have HBIr := hid (HBI2.out.far (p := ⟨d, 2, none⟩) (by have := HM2.out.lt d (.inl HM2.out.md); show w.heap.size ≠ d; omega) (.int .i64 ((s.used : Int) + 1)))
    have HBBr := hid (HBB2.out.far (p := ⟨d, 2, none⟩) (by have := HM2.out.lt d (.inl HM2.out.md); show w.heap.size + 1 ≠ d; omega) (.int .i64 ((s.used : Int) + 1)))
    have HSZr := hid (show w.heap.size + 1 ≤ (w2.setCell ⟨d, 2, none⟩ (.int .i64 ((s.used : Int) + 1))).heap.size by have := HSZ2.out; simp; omega)
    generalize w2.setCell ⟨d, 2, none⟩ (.int .i64 ((s.used : Int) + 1)) = wr at *
    have HMd := hid (HMr.out.below ((Below.refl _ _).drew))
    have HBId := hid (show Blk wr.drew w.heap.size 3 #[.int .i64 i] from HBIr.out)
    have HBBd := hid (show Blk wr.drew (w.heap.size + 1) 9 #[.string (bst b)] from HBBr.out)
    have HSZd := hid (show w.heap.size + 1 ≤ wr.drew.heap.size from HSZr.out)
    refine wp_region_still_tail 7 (by kernel_rfl) (by kernel_rfl) ?_
    change wpStill _ _ wr.drew (fun a' => wpList _ _ _ _ a' wr.drew) _ _
    generalize wr.drew = w3 at HMd HBId HBBd HSZd ⊢
    simp only [List.take_succ_cons, List.take_zero, List.drop_succ_cons, List.drop_zero]
    obtain ⟨d0, d1, d2, d3, d4, d5, _, _, _, _⟩ := six HMd.out.blk
    have i0 := HBId.out.cell 0
    have j0 := HBBd.out.cell 0
    repeat still_step
    try refine wpStill_nil ?_
    have HNE := hid (show w.heap.size ≠ c ∧ w.heap.size + 1 ≠ c from by have := HMd.out.lt c (.inl HMd.out.mc); omega)
    go_wp2_with (first
      | (at_mapUpdate; refine wpList_put _ rfl _ _ _ 48 rfl 3 55 Try.underlying48 Try.underlying3 rfl HMd.out.ct i rfl (.agg #[.bool true, .string (bst b)]) rfl ?_; intro w4 ht4 ho4 hs4; rw [HCT.out] at ht4; have HM4 := hid (HMd.out.chg ht4 ho4); have HBI4 := hid (HBId.out.grown ho4 (fun e => HNE.out.1 (Option.some.inj e))); have HBB4 := hid (HBBd.out.grown ho4 (fun e => HNE.out.2 (Option.some.inj e))); have HSZ4 := hid (Nat.le_trans HSZd.out (Nat.le_of_eq hs4.symm)); have HM5 := hid (HM4.out.below ((Below.refl _ _).alloc (Nat.le_refl _) (.cells #[.func (.func 26) #[] #[.pointer (some ⟨w.heap.size + 1, 0, none⟩), .pointer (some ⟨w.heap.size, 0, none⟩)]] 60))); have HQ5 := hid (Blk.new w4 60 #[.func (.func 26) #[] #[.pointer (some ⟨w.heap.size + 1, 0, none⟩), .pointer (some ⟨w.heap.size, 0, none⟩)]]); clear ht4 ho4 hs4; obtain ⟨q0, q1, q2, q3, q4, q5, _, _, _, _⟩ := six HM4.out.blk)
      | (at_builtin; refine wpList_lay _ rfl _ _ rfl rfl HM5.out.row rfl (HQ5.out.cell 0) rfl HLN.out ?_; intro A6 c6 w6 hr6 hg6 hl6; have HB6 := hid (HM5.out.blk.grown hg6 (fun e => (HM5.out.row.ne HM5.out.blk (by decide)) d e.symm rfl)); have HX6 := hid (And.intro hr6 (And.intro hg6 hl6)); clear hr6 hg6 hl6; obtain ⟨r0, r1, r2, r3, r4, r5, _, _, _, g5⟩ := six HB6.out))
    go_end0
    refine ⟨rfl, HM5.out.laid (Pb := (fun k => k = w.heap.size ∨ k = w.heap.size + 1)) HX6.out.1 HX6.out.2.1 HX6.out.2.2 (fun k hk => ?_) ?_ HU.out HP.out⟩
    · have e1 : (w4.alloc (.cells #[.func (.func 26) #[] #[.pointer (some ⟨w.heap.size + 1, 0, none⟩), .pointer (some ⟨w.heap.size, 0, none⟩)]] 60)).heap.size = w4.heap.size + 1 := by simp
      have := HSZ4.out
      rw [e1]
      omega
    · exact ⟨w.heap.size, .inr (.inl rfl), HBI4.out.alloc _, ⟨w.heap.size + 1, .inr (.inr rfl), HBB4.out.alloc _, rfl⟩⟩
  | some old =>
    rw [hv] at HV hcu
    rw [show stV (some old) = .agg #[.bool true, .string (bst old)] from rfl] at HV
    have HU := hid (show (s.used : Int) = ((cnt s.size (upd s.view i (some b)) : Nat) : Int) by unfold Dk.used; simp at hcu; omega)
    clear hcu hv
    go_enter Try.func23, Try.ntmps23
    go_wp2_with fail
    generalize (w.alloc (.cells #[.int .i64 i] 3)).alloc (.cells #[.string (bst b)] 9) = w1 at *
    go_fit HV.out
    rintro e w2 ⟨rfl, hb2⟩
    have HMr := hid (HM.out.below hb2)
    have HBIr := hid (HBI.out.below hb2 HBI.out.lt)
    have HBBr := hid (HBB.out.below hb2 HBB.out.lt)
    have HSZr := hid (show w.heap.size + 1 ≤ w2.heap.size from Nat.le_of_lt (Nat.lt_of_lt_of_le HSZ.out hb2.size))
    clear i0 hb2
    go_wp2_with fail
    have HMd := hid (HMr.out.below ((Below.refl _ _).drew))
    have HBId := hid (show Blk w2.drew w.heap.size 3 #[.int .i64 i] from HBIr.out)
    have HBBd := hid (show Blk w2.drew (w.heap.size + 1) 9 #[.string (bst b)] from HBBr.out)
    have HSZd := hid (show w.heap.size + 1 ≤ w2.drew.heap.size from HSZr.out)
    refine wp_region_still_tail 7 (by kernel_rfl) (by kernel_rfl) ?_
    change wpStill _ _ w2.drew (fun a' => wpList _ _ _ _ a' w2.drew) _ _
    generalize w2.drew = w3 at HMd HBId HBBd HSZd ⊢
    simp only [List.take_succ_cons, List.take_zero, List.drop_succ_cons, List.drop_zero]
    obtain ⟨d0, d1, d2, d3, d4, d5, _, _, _, _⟩ := six HMd.out.blk
    have i0 := HBId.out.cell 0
    have j0 := HBBd.out.cell 0
    repeat still_step
    try refine wpStill_nil ?_
    have HNE := hid (show w.heap.size ≠ c ∧ w.heap.size + 1 ≠ c from by have := HMd.out.lt c (.inl HMd.out.mc); omega)
    go_wp2_with (first
      | (at_mapUpdate; refine wpList_put _ rfl _ _ _ 48 rfl 3 55 Try.underlying48 Try.underlying3 rfl HMd.out.ct i rfl (.agg #[.bool true, .string (bst b)]) rfl ?_; intro w4 ht4 ho4 hs4; rw [HCT.out] at ht4; have HM4 := hid (HMd.out.chg ht4 ho4); have HBI4 := hid (HBId.out.grown ho4 (fun e => HNE.out.1 (Option.some.inj e))); have HBB4 := hid (HBBd.out.grown ho4 (fun e => HNE.out.2 (Option.some.inj e))); have HSZ4 := hid (Nat.le_trans HSZd.out (Nat.le_of_eq hs4.symm)); have HM5 := hid (HM4.out.below ((Below.refl _ _).alloc (Nat.le_refl _) (.cells #[.func (.func 26) #[] #[.pointer (some ⟨w.heap.size + 1, 0, none⟩), .pointer (some ⟨w.heap.size, 0, none⟩)]] 60))); have HQ5 := hid (Blk.new w4 60 #[.func (.func 26) #[] #[.pointer (some ⟨w.heap.size + 1, 0, none⟩), .pointer (some ⟨w.heap.size, 0, none⟩)]]); clear ht4 ho4 hs4; obtain ⟨q0, q1, q2, q3, q4, q5, _, _, _, _⟩ := six HM4.out.blk)
      | (at_builtin; refine wpList_lay _ rfl _ _ rfl rfl HM5.out.row rfl (HQ5.out.cell 0) rfl HLN.out ?_; intro A6 c6 w6 hr6 hg6 hl6; have HB6 := hid (HM5.out.blk.grown hg6 (fun e => (HM5.out.row.ne HM5.out.blk (by decide)) d e.symm rfl)); have HX6 := hid (And.intro hr6 (And.intro hg6 hl6)); clear hr6 hg6 hl6; obtain ⟨r0, r1, r2, r3, r4, r5, _, _, _, g5⟩ := six HB6.out))
    go_end0
    refine ⟨rfl, HM5.out.laid (Pb := (fun k => k = w.heap.size ∨ k = w.heap.size + 1)) HX6.out.1 HX6.out.2.1 HX6.out.2.2 (fun k hk => ?_) ?_ HU.out HP.out⟩
    · have e1 : (w4.alloc (.cells #[.func (.func 26) #[] #[.pointer (some ⟨w.heap.size + 1, 0, none⟩), .pointer (some ⟨w.heap.size, 0, none⟩)]] 60)).heap.size = w4.heap.size + 1 := by simp
      have := HSZ4.out
      rw [e1]
      omega
    · exact ⟨w.heap.size, .inr (.inl rfl), HBI4.out.alloc _, ⟨w.heap.size + 1, .inr (.inr rfl), HBB4.out.alloc _, rfl⟩⟩

set_option maxHeartbeats 8000000 in
set_option maxRecDepth 100000 in
theorem unlay_is {w : World} {d g c n cap nc : Nat} {A : Option Addr} {ch : Chg} {fs : List Value} {M R : Nat → Prop} {s : Dk} (h : DIn w d g c A n cap ch nc fs M R s) {i : Int} {old : List UInt8} (hv : s.view i = some old) (hpl : s.pend.length ≤ 1000000) :
    Calls Try.prog 24 #[.pointer (some ⟨d, 0, none⟩), .int .i64 i] w fun e w' => e = .returned (.tuple #[]) ∧
      ∃ M' R', DA6 w' d M' R' { s with view := upd s.view i none, pend := s.pend ++ [⟨i, none⟩] } ∧ Turns M R w M' R' w' := by
  have hin := h.pl.inV i (by rw [hv]; simp)
  have HP := hid (h.pl.lay hin.1 hin.2 none (fun x hx => by cases hx))
  have HCT := hid (show updT (cT ch) i (some (.agg #[.bool false, .string ⟨#[]⟩])) = cT (updC ch i none) from cT_upd ch i none)
  have hcu := cnt_upd (n := s.size) (m := s.view) none hin.1 hin.2
  have hul := used_le s
  have hsz := h.pl.sz2
  have hnl : n = s.pend.length := h.row.len.trans h.ops.len
  have HLN := hid (show n + 1 ≤ 1099511627776 by omega)
  have hpos : 1 ≤ s.used := by unfold Dk.used; rw [hv] at hcu; simp at hcu; omega
  have HU := hid (show (s.used : Int) - 1 = ((cnt s.size (upd s.view i none) : Nat) : Int) by unfold Dk.used; rw [hv] at hcu; simp at hcu; omega)
  have DH := hid h
  obtain ⟨d0, d1, d2, d3, d4, d5, _, f2, _, _⟩ := six h.blk
  have hd := h.lt d (.inl h.md)
  clear h hcu hin hnl hv
  go_enter Try.func24, Try.ntmps24
  go_wp2_with fail
  have hne : w.heap.size ≠ d := by omega
  have hwa : (w.setCell ⟨d, 2, none⟩ (.int .i64 ((s.used : Int) - 1))).heap.size = w.heap.size := by simp
  have hmr := (DH.out.mid.use ((s.used : Int) - 1)).below ((Below.refl _ _).alloc (Nat.le_refl _) (.cells #[.int .i64 i] 3))
  have hbr := Blk.new (w.setCell ⟨d, 2, none⟩ (.int .i64 ((s.used : Int) - 1))) 3 #[.int .i64 i]
  rw [hwa] at hbr
  have HMr := hid hmr
  have HBIr := hid hbr
  have HSZr := hid (show w.heap.size + 1 ≤ ((w.setCell ⟨d, 2, none⟩ (.int .i64 ((s.used : Int) - 1))).alloc (.cells #[.int .i64 i] 3)).heap.size by simp)
  clear hne hwa hmr hbr
  generalize (w.setCell ⟨d, 2, none⟩ (.int .i64 ((s.used : Int) - 1))).alloc (.cells #[.int .i64 i] 3) = wr at *
  have HMd := hid (HMr.out.below ((Below.refl _ _).drew))
  have HBId := hid (show Blk wr.drew w.heap.size 3 #[.int .i64 i] from HBIr.out)
  have HSZd := hid (show w.heap.size + 1 ≤ wr.drew.heap.size from HSZr.out)
  refine wp_region_still_tail 6 (by kernel_rfl) (by kernel_rfl) ?_
  change wpStill _ _ wr.drew (fun a' => wpList _ _ _ _ a' wr.drew) _ _
  generalize wr.drew = w3 at HMd HBId  HSZd ⊢
  simp only [List.take_succ_cons, List.take_zero, List.drop_succ_cons, List.drop_zero]
  obtain ⟨d0, d1, d2, d3, d4, d5, _, _, _, _⟩ := six HMd.out.blk
  have i0 := HBId.out.cell 0
  repeat still_step
  try refine wpStill_nil ?_
  have HNE := hid (show w.heap.size ≠ c ∧ w.heap.size + 1 ≠ c from by have := HMd.out.lt c (.inl HMd.out.mc); omega)
  go_wp2_with (first
    | (at_mapUpdate; refine wpList_put _ rfl _ _ _ 48 rfl 3 55 Try.underlying48 Try.underlying3 rfl HMd.out.ct i rfl (.agg #[.bool false, .string ⟨#[]⟩]) rfl ?_; intro w4 ht4 ho4 hs4; rw [HCT.out] at ht4; have HM4 := hid (HMd.out.chg ht4 ho4); have HBI4 := hid (HBId.out.grown ho4 (fun e => HNE.out.1 (Option.some.inj e))); have HSZ4 := hid (Nat.le_trans HSZd.out (Nat.le_of_eq hs4.symm)); have HM5 := hid (HM4.out.below ((Below.refl _ _).alloc (Nat.le_refl _) (.cells #[.func (.func 28) #[] #[.pointer (some ⟨w.heap.size, 0, none⟩)]] 60))); have HQ5 := hid (Blk.new w4 60 #[.func (.func 28) #[] #[.pointer (some ⟨w.heap.size, 0, none⟩)]]); clear ht4 ho4 hs4; obtain ⟨q0, q1, q2, q3, q4, q5, _, _, _, _⟩ := six HM4.out.blk)
    | (at_builtin; refine wpList_lay _ rfl _ _ rfl rfl HM5.out.row rfl (HQ5.out.cell 0) rfl HLN.out ?_; intro A6 c6 w6 hr6 hg6 hl6; have HB6 := hid (HM5.out.blk.grown hg6 (fun e => (HM5.out.row.ne HM5.out.blk (by decide)) d e.symm rfl)); have HX6 := hid (And.intro hr6 (And.intro hg6 hl6)); clear hr6 hg6 hl6; obtain ⟨r0, r1, r2, r3, r4, r5, _, _, _, g5⟩ := six HB6.out))
  go_end0
  refine ⟨rfl, HM5.out.laid (Pb := (fun k => k = w.heap.size)) HX6.out.1 HX6.out.2.1 HX6.out.2.2 (fun k hk => ?_) ?_ HU.out HP.out⟩
  · have e1 : (w4.alloc (.cells #[.func (.func 28) #[] #[.pointer (some ⟨w.heap.size, 0, none⟩)]] 60)).heap.size = w4.heap.size + 1 := by simp
    have := HSZ4.out
    rw [e1]
    omega
  · exact ⟨w.heap.size, .inr rfl, HBI4.out.alloc _, rfl⟩

end Go.Proofs.Ytlemoaigcakmcaa
