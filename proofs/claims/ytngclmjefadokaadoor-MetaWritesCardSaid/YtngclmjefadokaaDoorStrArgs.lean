/-
  A slice of strings that is handed in, opened; what it reads as behind the call.
-/
import Derived.Test.YtngclmjefadokaaDoorSAt
import Derived.Test.YtngclmjefadokaaDoorJBytes
import Derived.Deep.Slices
import Derived.OpenShut
import Derived.WideKeyArgs
namespace Go.Proofs.YtngclmjefadokaaDoor
open Go Go.RowKit Go.ChangeShapes Go.WideShapes Go.ChangeAt

theorem strs_laid : laidOutB Tryd.prog = true := by kernel_rfl
theorem str_size : Tryd.prog.cellsOf 9 = 1 := by kernel_rfl

section
variable {H : Type} {enc : TypeId × Value → H}

set_option maxRecDepth 100000 in
theorem open_strs1 {W : World} {sp : Nat → Bool} {fuel : Nat} {u : Value} {x : DataW H × List MemPlace}
    (h : DataW.trod enc Tryd.prog W 0 sp true fuel 56 [u] = some x) : ∃ (A : Option Addr) (l : List (List UInt8)) (c : Nat), u = .slice A l.length c ∧ l.length ≤ c ∧ SAt W W.heap.size A l := by
  rcases Deep.open_slice Tryd.underlying56 h with ⟨h0, _⟩ | ⟨a, len, cap, m, k, D, Pl, hcs, _, hl, hm, hmm, _, hx⟩
  · simp only [List.cons.injEq, and_true] at h0
    subst h0
    exact ⟨none, [], 0, rfl, Nat.le_refl _, fun h => absurd h (by simp)⟩
  · simp only [List.cons.injEq, and_true] at hcs
    subst hcs
    rw [str_size] at hx
    have hnm : len ≤ m := by
      rw [hmm]
      by_cases hq : sp a.block = true
      · rw [if_pos hq]; exact hl
      · rw [if_neg hq]; exact Nat.le_refl _
    have each : ∀ i, i < len → (a.add (i * 1)).spot = none ∧ (a.add (i * 1)).block < W.heap.size ∧ ∃ s : List UInt8, W.cell? (a.add (i * 1)) = some (.string (bst s)) := by
      intro i hi
      obtain ⟨cs', h1, h2⟩ := hx i (by omega)
      obtain ⟨_, hlen, hcell⟩ := World.cells?_some h1
      match cs', hlen with
      | [v0], _ =>
        obtain ⟨s, e, _, _⟩ := DataW.trod_string Tryd.underlying9 h2
        obtain rfl : v0 = _ := by simpa using e
        have h0 := hcell 0 (by omega)
        have e0 : (a.add (i * 1)).add 0 = a.add (i * 1) := by unfold Addr.add; split <;> simp_all
        rw [e0] at h0
        exact ⟨World.cell?_spot h0, World.block_lt_of_cell? W _ h0, s.data.toList, by rw [← bst_of]; simpa using h0⟩
    have hex : ∃ F : Nat → List UInt8, ∀ i, i < len → W.cell? (a.add (i * 1)) = some (.string (bst (F i))) :=
      ⟨fun i => if h : i < len then (each i h).2.2.choose else [], fun i hi => by simp only [dif_pos hi]; exact (each i hi).2.2.choose_spec⟩
    obtain ⟨F, hF⟩ := hex
    refine ⟨some a, (List.range len).map F, cap, by simp, by simpa using hl, fun hpos => ?_⟩
    have hn : 0 < len := by simpa using hpos
    obtain ⟨hs, hb, _⟩ := each 0 hn
    obtain ⟨b, off, sp0⟩ := a
    have hsp : sp0 = none := by simpa [Addr.add] using hs
    subst hsp
    have ea : ∀ i, (⟨b, off, none⟩ : Addr).add i = ⟨b, off + i, none⟩ := by intro i; unfold Addr.add; split <;> simp_all
    refine ⟨b, off, rfl, by rw [ea] at hb; exact hb, fun i x hx => ?_⟩
    have hi : i < len := by have := (List.getElem?_eq_some_iff.1 hx).1; simpa using this
    have e : x = F i := by
      rw [List.getElem?_map, List.getElem?_range hi] at hx
      simpa using hx.symm
    subst e
    have h3 := hF i hi
    rw [ea, Nat.mul_one] at h3
    exact h3
set_option maxRecDepth 100000 in
theorem arg_strs {r : Reach} {b0 : Nat} {W : World} {sp : Nat → Bool} {v : Value} {d : DataW H} {ps : List MemPlace} (hval : Value.okWide Tryd.prog W r b0 56 v) (h : DataW.Trod enc Tryd.prog W 0 sp true 56 v d ps) :
    ∃ (A : Option Addr) (l : List (List UInt8)) (c : Nat), v = .slice A l.length c ∧ l.length ≤ c ∧ SAt W W.heap.size A l := by
  obtain ⟨a, n, c, rfl⟩ := okWide_slice Tryd.underlying56 hval
  obtain ⟨fuel, hf⟩ := h
  exact open_strs1 (u := .slice a n c) (by simpa [Value.cells] using hf)
theorem strs_stays {W W' : World} {v : Value} {d : DataW H} {ps : List MemPlace}
    (h : DataW.Trod enc Tryd.prog W 0 (fun _ => true) true 56 v d ps) (hlt : ∀ p ∈ ps, p.block < W.heap.size) (hb : Below W.heap.size W W') :
    DataW.Trod enc Tryd.prog W' 0 (fun b => decide (b < W.heap.size)) true 56 v d ps :=
  WideElems.Trod_stays strs_laid (by kernel_rfl) (of_decide_eq_true (by kernel_rfl)) h (fun p hp => hb.same (hlt p hp)) (fun p hp => by simpa using hlt p hp)
/-- a row whose arguments may lie in memory, where the call makes blocks of its own alone -/
theorem post_strs {f : Func} {s : ChangeSpec} {W W' : World} {args : Array Value} {v : Value} {ds gs : List (DataW H)} {before pa : List MemPlace}
    (hW : DataW.Whole enc Tryd.prog f.params.toList s.vars false W args.toList ds gs before)
    (hres : DataW.TrodAll enc Tryd.prog W' W.heap.size (fun _ => false) false f.resultTypes.toList (v.resultList f.resultTypes.size) (s.fn H (ds ++ gs)).results [])
    (hargs : DataW.TrodAll enc Tryd.prog W' 0 (fun b => decide (b < W.heap.size)) true f.params.toList args.toList (s.fn H (ds ++ gs)).args pa)
    (hvars : DataW.TrodVars enc Tryd.prog W' (fun b => decide (b < W.heap.size)) s.vars (s.fn H (ds ++ gs)).vars []) (hb : Below W.heap.size W W') :
    s.post enc Tryd.prog f false true false false W args v W' :=
  ⟨ds, gs, before, [], pa, [], hW, hres, hargs, hvars, hb.frame _, fun h => by cases h⟩
end

end Go.Proofs.YtngclmjefadokaaDoor
