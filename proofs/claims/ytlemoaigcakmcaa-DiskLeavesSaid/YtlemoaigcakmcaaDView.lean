/-
  view: a sector as reads see it.
-/
import Derived.Test.YtlemoaigcakmcaaDisk
namespace Go.Proofs.Ytlemoaigcakmcaa
open Go Go.RowKit

set_option maxHeartbeats 1000000 in
set_option maxRecDepth 100000 in
theorem view_is {w : World} {d g c n cap nc : Nat} {A : Option Addr} {ch : Chg} {fs : List Value} {M R : Nat → Prop} {s : Dk} (h : DIn w d g c A n cap ch nc fs M R s) (i : Int) :
    Calls Try.prog 20 #[.pointer (some ⟨d, 0, none⟩), .int .i64 i] w fun e w' => e = .returned (stV (s.view i)) ∧ Below w.heap.size w w' := by
  have HC := hid h.ct
  have HG := hid h.gt
  have hd := h.lt d (.inl h.md)
  obtain ⟨d0, d1, d2, d3, d4, d5, _, _, _, _⟩ := six h.blk
  have hv := congrFun h.pl.view i
  unfold over at hv
  clear h
  cases hc : ch i with
  | some st =>
    rw [hc] at hv
    rw [hv]
    clear hv
    have hst : stV st = .agg #[.bool st.isSome, .string (bst (st.getD []))] := rfl
    rw [hst]
    have HL := hid (show (cT ch i).getD (stV none) = .agg #[.bool st.isSome, .string (bst (st.getD []))] ∧ (cT ch i).isSome = true by unfold cT; rw [hc]; exact ⟨rfl, rfl⟩)
    clear hc hst
    generalize st.isSome = u at HL ⊢
    generalize bst (st.getD []) = x at HL ⊢
    go_enter Try.func20, Try.ntmps20
    go_wp2_with (at_lookup; refine wpList_lookOk _ rfl _ _ 48 rfl 3 55 Try.underlying48 Try.underlying3 (zero_state _) rfl (HC.out.alloc _) i rfl HL.out.1 HL.out.2 ?_)
    have hb : Below w.heap.size w ((w.alloc (.cells #[.bool u, .string x] 55)).alloc (.cells #[.bool u, .string x] 55)) := ((Below.refl _ _).alloc (Nat.le_refl _) _).alloc (by simp) _
    exact bodyPost_ret (v := .agg #[.bool u, .string x]) (by simp [results, Try.results20, go_sem]) rfl ⟨rfl, hb⟩
  | none =>
    rw [hc] at hv
    rw [hv]
    clear hv
    have HN := hid (show (cT ch i).getD (stV none) = .agg #[.bool false, .string ⟨#[]⟩] ∧ (cT ch i).isSome = false by unfold cT; rw [hc]; exact ⟨rfl, rfl⟩)
    have hst : stV (s.ground i) = .agg #[.bool (s.ground i).isSome, .string (bst ((s.ground i).getD []))] := rfl
    rw [hst]
    have HL := hid (show (gT s.ground i).getD (stV none) = .agg #[.bool (s.ground i).isSome, .string (bst ((s.ground i).getD []))] by unfold gT; cases s.ground i <;> rfl)
    clear hc hst
    generalize (s.ground i).isSome = u at HL ⊢
    generalize bst ((s.ground i).getD []) = x at HL ⊢
    go_enter Try.func20, Try.ntmps20
    go_wp2_with (first
      | (at_lookup; refine wpList_lookOk _ rfl _ _ 48 rfl 3 55 Try.underlying48 Try.underlying3 (zero_state _) rfl (HC.out.alloc _) i rfl HN.out.1 HN.out.2 ?_)
      | (at_lookup; refine wpList_look _ rfl _ _ 48 rfl 3 55 Try.underlying48 Try.underlying3 (zero_state _) rfl ((HG.out.alloc _).alloc _) i rfl HL.out ?_))
    have hb : Below w.heap.size w ((w.alloc (.cells #[.bool u, .string x] 55)).alloc (.cells #[.bool false, .string ⟨#[]⟩] 55)) := ((Below.refl _ _).alloc (Nat.le_refl _) _).alloc (by simp) _
    exact bodyPost_ret (v := .agg #[.bool u, .string x]) (by simp [results, Try.results20, go_sem]) rfl ⟨rfl, hb⟩

end Go.Proofs.Ytlemoaigcakmcaa
