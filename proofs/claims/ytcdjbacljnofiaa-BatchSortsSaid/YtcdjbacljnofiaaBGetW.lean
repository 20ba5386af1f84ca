/-
  The landed getWrite, by its contract.
-/
import Derived.Test.YtcdjbacljnofiaaJCode
import Derived.Test.YtcdjbacljnofiaaWAt
import Derived.Deep.Cut
namespace Go.Proofs.Ytcdjbacljnofiaa
open Go Go.RowKit

theorem Rd.farR {w : World} {r e b i : Nat} {l : List UInt8} (h : Rd w r l e) (hb : r < b) (u : Value) : Rd (w.setCell ⟨b, i, none⟩ u) r l e :=
  h.below (B := b) ((Below.refl b w).setCell (Nat.le_refl _) u) hb

/-- what a reader's calls answer, whether something is wrong already or not -/
def sN (l : List UInt8) (e : Nat) : Nat × List UInt8 × Nat := if e = 0 then rnum l else (0, l, e)
def sT (l : List UInt8) (e : Nat) : List UInt8 × List UInt8 × Nat := if e = 0 then rtext l else ([], l, e)
def sF (l : List UInt8) (e : Nat) : Bool × List UInt8 × Nat := if e = 0 then rflag l else (false, l, e)
def sC (m : Int) (l : List UInt8) (e : Nat) : Nat × List UInt8 × Nat := if e = 0 then rcount m l else (0, l, e)
theorem sN_any {r e0 : Nat} {l : List UInt8} {w : World} (hr : Rd w r l e0) :
    Calls Try.prog 39 #[.pointer (some ⟨r, 0, none⟩)] w fun e w' => e = .returned (.int .u64 ((sN l e0).1 : Int)) ∧ Rd w' r (sN l e0).2.1 (sN l e0).2.2 ∧ Only r w w' := by
  unfold sN
  by_cases h : e0 = 0
  · subst h; rw [if_pos rfl]; exact get_num r l w hr
  · rw [if_neg h]; exact get_num_not r e0 l w hr h
theorem sT_any {r e0 : Nat} {l : List UInt8} {w : World} (hr : Rd w r l e0) :
    Calls Try.prog 58 #[.pointer (some ⟨r, 0, none⟩)] w fun e w' => e = .returned (.string (bst (sT l e0).1)) ∧ Rd w' r (sT l e0).2.1 (sT l e0).2.2 ∧ Only r w w' := by
  unfold sT
  by_cases h : e0 = 0
  · subst h; rw [if_pos rfl]; exact get_text r l w hr
  · rw [if_neg h]; exact get_text_not r e0 l w hr h
theorem sF_any {r e0 : Nat} {l : List UInt8} {w : World} (hr : Rd w r l e0) :
    Calls Try.prog 59 #[.pointer (some ⟨r, 0, none⟩)] w fun e w' => e = .returned (.bool (sF l e0).1) ∧ Rd w' r (sF l e0).2.1 (sF l e0).2.2 ∧ Only r w w' := by
  unfold sF
  by_cases h : e0 = 0
  · subst h; rw [if_pos rfl]; exact get_flag r l w hr
  · rw [if_neg h]; exact get_flag_not r e0 l w hr h
theorem sC_any {r e0 : Nat} {m : Int} (hm : -9223372036854775808 ≤ m ∧ m ≤ 9223372036854775807) {l : List UInt8} {w : World} (hr : Rd w r l e0) :
    Calls Try.prog 40 #[.pointer (some ⟨r, 0, none⟩), .int .i64 m] w fun e w' => e = .returned (.int .i64 ((sC m l e0).1 : Int)) ∧ Rd w' r (sC m l e0).2.1 (sC m l e0).2.2 ∧ Only r w w' := by
  unfold sC
  by_cases h : e0 = 0
  · subst h; rw [if_pos rfl]; exact get_count r m hm l w hr
  · rw [if_neg h]; exact get_count_not r e0 m l w hr h

/-- a write that is read, what is left, what is wrong -/
def gw (l : List UInt8) (e : Nat) : Wt × List UInt8 × Nat :=
  if (sF (sT l e).2.1 (sT l e).2.2).1 then (⟨(sT l e).1, [], true⟩, (sF (sT l e).2.1 (sT l e).2.2).2.1, (sF (sT l e).2.1 (sT l e).2.2).2.2)
  else (⟨(sT l e).1, (sT (sF (sT l e).2.1 (sT l e).2.2).2.1 (sF (sT l e).2.1 (sT l e).2.2).2.2).1, false⟩, (sT (sF (sT l e).2.1 (sT l e).2.2).2.1 (sF (sT l e).2.1 (sT l e).2.2).2.2).2.1, (sT (sF (sT l e).2.1 (sT l e).2.2).2.1 (sF (sT l e).2.1 (sT l e).2.2).2.2).2.2)
theorem gw_is {l l1 l2 : List UInt8} {e e1 e2 : Nat} {K : List UInt8} (h1 : sT l e = (K, l1, e1)) (h2 : sF l1 e1 = (true, l2, e2)) : gw l e = (⟨K, [], true⟩, l2, e2) := by
  unfold gw
  rw [h1]; dsimp only; rw [h2]; rfl
theorem gw_isnt {l l1 l2 l3 : List UInt8} {e e1 e2 e3 : Nat} {K V : List UInt8} (h1 : sT l e = (K, l1, e1)) (h2 : sF l1 e1 = (false, l2, e2)) (h3 : sT l2 e2 = (V, l3, e3)) : gw l e = (⟨K, V, false⟩, l3, e3) := by
  unfold gw
  rw [h1]; dsimp only; rw [h2]; dsimp only; rw [h3]; rfl

set_option maxHeartbeats 4000000 in
set_option maxRecDepth 100000 in
theorem getWrite_any {r e0 : Nat} {l : List UInt8} {w : World} (hr : Rd w r l e0) :
    Calls Try.prog 41 #[.pointer (some ⟨r, 0, none⟩)] w fun e w' => e = .returned (gw l e0).1.val ∧ Rd w' r (gw l e0).2.1 (gw l e0).2.2 ∧ Only r w w' := by
  have hb1 : Below w.heap.size w (w.alloc (.cells #[.string ⟨#[]⟩, .string ⟨#[]⟩, .bool false] 43)) := (Below.refl _ _).alloc (Nat.le_refl _) _
  have HZ := hid (Blk.new w 43 #[.string ⟨#[]⟩, .string ⟨#[]⟩, .bool false])
  have HO1 := hid (Only.of_below (r := r) hb1)
  have HR1 := hid (hr.step hb1)
  have HRL := hid hr.lt
  have HSZ := hid (show (w.alloc (.cells #[.string ⟨#[]⟩, .string ⟨#[]⟩, .bool false] 43)).heap.size = w.heap.size + 1 by simp)
  obtain ⟨⟨K, l1, e1⟩, h1⟩ : ∃ o, sT l e0 = o := ⟨_, rfl⟩
  obtain ⟨⟨g, l2, e2⟩, h2⟩ : ∃ o, sF l1 e1 = o := ⟨_, rfl⟩
  have H1 := hid h1
  have H2 := hid h2
  clear hr hb1 h1 h2
  go_enter Try.func41, Try.ntmps41
  go_wp2_with fail
  generalize (w.alloc (.cells #[.string ⟨#[]⟩, .string ⟨#[]⟩, .bool false] 43)) = w1 at *
  go_fit (sT_any HR1.out)
  rintro e w2 ⟨rfl, hr2, ho2⟩
  rw [H1.out] at hr2 ⊢
  dsimp only at hr2 ⊢
  have HR2 := hid hr2
  have HO2 := hid (HO1.out.trans ho2)
  have HZ2 := hid (HZ.out.grown ho2 (by intro e; injection e with e; have := HRL.out; omega))
  clear hr2 ho2
  go_wp2_with fail
  go_fit (sF_any HR2.out)
  rintro e w3 ⟨rfl, hr3, ho3⟩
  rw [H2.out] at hr3 ⊢
  dsimp only at hr3 ⊢
  have HR3 := hid hr3
  have HO3 := hid (HO2.out.trans ho3)
  have HZ3 := hid (HZ2.out.grown ho3 (by intro e; injection e with e; have := HRL.out; omega))
  clear hr3 ho3
  have hb4 : Below w3.heap.size w3 (w3.alloc (.cells #[.string (bst K), .string ⟨#[]⟩, .bool g] 43)) := (Below.refl _ _).alloc (Nat.le_refl _) _
  have HB4 := hid hb4
  have HZ4 := hid (HZ3.out.below hb4 HZ3.out.lt)
  have HO4 := hid (HO3.out.more hb4)
  have HR4 := hid (HR3.out.step hb4)
  have HT4 := hid (Blk.new w3 43 #[.string (bst K), .string ⟨#[]⟩, .bool g])
  have HLT := hid (show w.heap.size < w3.heap.size from HZ3.out.lt)
  have HL3 := hid (show w.heap.size ≤ w3.heap.size from Nat.le_of_lt HLT.out)
  clear hb4
  cases g with
  | true =>
    have HG := hid (gw_is H1.out H2.out)
    go_upto_region 4 with fail
    generalize (w3.alloc (.cells #[.string (bst K), .string ⟨#[]⟩, .bool true] 43)) = w4 at *
    obtain ⟨y0, y1, y2, g0, g1, g2⟩ := three HT4.out
    obtain ⟨x0, x1, x2, f0, f1, f2⟩ := three HZ4.out
    go_wp2_with fail
    have HZ5 := HZ4
    have HO5 := HO4
    have HR5 := HR4
    have hres : Blk (((w4.setCell ⟨w.heap.size, 0, none⟩ (.string (bst K))).setCell ⟨w.heap.size, 1, none⟩ (.string ⟨#[]⟩)).setCell ⟨w.heap.size, 2, none⟩ (.bool true)) w.heap.size 43 #[.string (bst K), .string ⟨#[]⟩, .bool true] := ((HZ5.out.set 0 _).set 1 _).set 2 _
    have hro := ((HO5.out.new (p := ⟨w.heap.size, 0, none⟩) (Nat.le_refl _) (.string (bst K))).new (p := ⟨w.heap.size, 1, none⟩) (Nat.le_refl _) (.string ⟨#[]⟩)).new (p := ⟨w.heap.size, 2, none⟩) (Nat.le_refl _) (.bool true)
    have hrr := ((HR5.out.farR (i := 0) HRL.out (.string (bst K))).farR (i := 1) HRL.out (.string ⟨#[]⟩)).farR (i := 2) HRL.out (.bool true)
    generalize (((w4.setCell ⟨w.heap.size, 0, none⟩ (.string (bst K))).setCell ⟨w.heap.size, 1, none⟩ (.string ⟨#[]⟩)).setCell ⟨w.heap.size, 2, none⟩ (.bool true)) = w9 at *
    clear x0 x1 x2 f0 f1 f2
    obtain ⟨x0, x1, x2, _, _, _⟩ := three hres
    exact bodyPost_ret (v := .agg #[.string (bst K), .string ⟨#[]⟩, .bool true]) (by simp [results, Try.results41, go_sem, x0, x1, x2]) rfl ⟨by rw [HG.out]; rfl, by rw [HG.out]; exact hrr, hro⟩
  | false =>
    obtain ⟨⟨V, l3, e3⟩, h3⟩ : ∃ o, sT l2 e2 = o := ⟨_, rfl⟩
    have H3 := hid h3
    have HG := hid (gw_isnt H1.out H2.out h3)
    clear h3
    go_wp2_with fail
    generalize (w3.alloc (.cells #[.string (bst K), .string ⟨#[]⟩, .bool false] 43)) = w4 at *
    go_fit (sT_any HR4.out)
    rintro e w5 ⟨rfl, hr5, ho5⟩
    rw [H3.out] at hr5 ⊢
    dsimp only at hr5 ⊢
    have HT5 := hid (HT4.out.grown ho5 (by intro e; injection e with e; have := HRL.out; have := HLT.out; omega))
    have HZ5' := hid (HZ4.out.grown ho5 (by intro e; injection e with e; have := HRL.out; omega))
    have HO5' := hid (HO4.out.trans ho5)
    have HR5' := hid hr5
    clear hr5 ho5
    obtain ⟨y0, y1, y2, g0, g1, g2⟩ := three HT5.out
    obtain ⟨x0, x1, x2, f0, f1, f2⟩ := three HZ5'.out
    go_upto_region 4 with fail
    have HT6 := hid (HT5.out.set 1 (.string (bst V)))
    have HZ5 := hid (HZ5'.out.far (p := ⟨w3.heap.size, 1, none⟩) (by have := HLT.out; show w.heap.size ≠ w3.heap.size; omega) (.string (bst V)))
    have HO5 := hid (HO5'.out.new (p := ⟨w3.heap.size, 1, none⟩) HL3.out (.string (bst V)))
    have HR5 := hid (HR5'.out.farR (i := 1) (Nat.lt_trans HRL.out HLT.out) (.string (bst V)))
    clear y0 y1 y2 g0 g1 g2 x0 x1 x2 f0 f1 f2 HT5 HZ5' HO5' HR5'
    generalize w5.setCell ⟨w3.heap.size, 1, none⟩ (.string (bst V)) = w6 at *
    obtain ⟨y0, y1, y2, g0, g1, g2⟩ := three (a0 := .string (bst K)) (a1 := .string (bst V)) (a2 := .bool false) HT6.out
    obtain ⟨x0, x1, x2, f0, f1, f2⟩ := three HZ5.out
    go_wp2_with fail
    have hres : Blk (((w6.setCell ⟨w.heap.size, 0, none⟩ (.string (bst K))).setCell ⟨w.heap.size, 1, none⟩ (.string (bst V))).setCell ⟨w.heap.size, 2, none⟩ (.bool false)) w.heap.size 43 #[.string (bst K), .string (bst V), .bool false] := ((HZ5.out.set 0 _).set 1 _).set 2 _
    have hro := ((HO5.out.new (p := ⟨w.heap.size, 0, none⟩) (Nat.le_refl _) (.string (bst K))).new (p := ⟨w.heap.size, 1, none⟩) (Nat.le_refl _) (.string (bst V))).new (p := ⟨w.heap.size, 2, none⟩) (Nat.le_refl _) (.bool false)
    have hrr := ((HR5.out.farR (i := 0) HRL.out (.string (bst K))).farR (i := 1) HRL.out (.string (bst V))).farR (i := 2) HRL.out (.bool false)
    generalize (((w6.setCell ⟨w.heap.size, 0, none⟩ (.string (bst K))).setCell ⟨w.heap.size, 1, none⟩ (.string (bst V))).setCell ⟨w.heap.size, 2, none⟩ (.bool false)) = w9 at *
    clear x0 x1 x2 f0 f1 f2
    obtain ⟨x0, x1, x2, _, _, _⟩ := three hres
    exact bodyPost_ret (v := .agg #[.string (bst K), .string (bst V), .bool false]) (by simp [results, Try.results41, go_sem, x0, x1, x2]) rfl ⟨by rw [HG.out]; rfl, by rw [HG.out]; exact hrr, hro⟩

end Go.Proofs.Ytcdjbacljnofiaa
