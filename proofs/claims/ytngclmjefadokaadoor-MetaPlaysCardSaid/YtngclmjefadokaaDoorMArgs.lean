/-
  Acts on a meta page that are handed in, opened.
-/
import Derived.Test.YtngclmjefadokaaDoorMFew
import Derived.Test.YtngclmjefadokaaDoorJBytes
import Derived.Deep.Slices
import Derived.OpenShut
import Derived.WideKeyArgs
import Derived.Lib.SmallJoins
namespace Go.Proofs.YtngclmjefadokaaDoor
open Go Go.RowKit Go.ChangeShapes Go.WideShapes Go.ChangeAt

theorem laidOut12 : laidOutB Tryd.prog = true := by kernel_rfl

section
variable {H : Type} {enc : TypeId × Value → H}

theorem sv_size : Tryd.prog.cellsOf 67 = 2 := by kernel_rfl
theorem act12_size : Tryd.prog.cellsOf 44 = 4 := by kernel_rfl

set_option maxRecDepth 100000 in
theorem open_sv {W : World} {sp : Nat → Bool} {n : Nat} {a : Addr} {cs : List Value} {z : DataW H × List MemPlace}
    (h1 : W.cells? 0 a 2 = some cs) (h2 : DataW.trod enc Tryd.prog W 0 sp true n 67 cs = some z) :
    a.spot = none ∧ a.block < W.heap.size ∧ ∃ x : Int × Int, W.cell? ⟨a.block, a.off, none⟩ = some (.int .i64 x.1) ∧ W.cell? ⟨a.block, a.off + 1, none⟩ = some (.int .i64 x.2) := by
  obtain ⟨_, hlen, hcell⟩ := World.cells?_some h1
  obtain ⟨xs, k, hk, _, _, hxl, hf⟩ := DataW.trod_struct Tryd.underlying67 h2
  match cs, hlen with
  | [v0, v1], _ =>
    have g0 : DataW.trod enc Tryd.prog W 0 sp true k 3 (List.take (Tryd.prog.cellsOf 3) (List.drop 0 [v0, v1])) = xs[0]? := hf 0 _ rfl
    have g1 : DataW.trod enc Tryd.prog W 0 sp true k 3 (List.take (Tryd.prog.cellsOf 3) (List.drop 1 [v0, v1])) = xs[1]? := hf 1 _ rfl
    have z3 : Tryd.prog.cellsOf 3 = 1 := by kernel_rfl
    rw [z3] at g0 g1
    match xs, hxl with
    | [y0, y1], _ =>
      obtain ⟨k0, e0, _, w0⟩ := DataW.trod_int Tryd.underlying3 g0
      obtain ⟨k1, e1, _, w1⟩ := DataW.trod_int Tryd.underlying3 g1
      obtain rfl : v0 = _ := by simpa using e0
      obtain rfl : v1 = _ := by simpa using e1
      have h0 := hcell 0 (by omega)
      have hs : (a.add 0).spot = none := World.cell?_spot h0
      have hb := World.block_lt_of_cell? W (a.add 0) h0
      have ea : ∀ i, a.add i = ⟨a.block, a.off + i, none⟩ := by
        obtain ⟨b, o, sp⟩ := a
        have : sp = none := by simpa [Addr.add] using hs
        subst this
        intro i
        unfold Addr.add
        split <;> simp_all
      refine ⟨by have := ea 0; simpa [Addr.add] using hs, by simpa [Addr.add] using hb, (k0, k1), ?_⟩
      have c0 := hcell 0 (by omega)
      have c1 := hcell 1 (by omega)
      rw [ea] at c0 c1
      exact ⟨by simpa using c0, by simpa using c1⟩

set_option maxRecDepth 100000 in
theorem open_svs {W : World} {sp : Nat → Bool} {fuel : Nat} {u : Value} {x : DataW H × List MemPlace}
    (h : DataW.trod enc Tryd.prog W 0 sp true fuel 42 [u] = some x) : ∃ (A : Option Addr) (l : List (Int × Int)) (c : Nat), u = .slice A l.length c ∧ l.length ≤ c ∧ c ≤ 9223372036854775807 ∧ SvAt W W.heap.size A l := by
  rcases Deep.open_slice Tryd.underlying42 h with ⟨h0, _⟩ | ⟨a, len, cap, m, k, D, Pl, hcs, _, hl, hm, hmm, _, hx⟩
  · simp only [List.cons.injEq, and_true] at h0
    subst h0
    exact ⟨none, [], 0, rfl, Nat.le_refl _, by decide, fun h => absurd h (by simp)⟩
  · simp only [List.cons.injEq, and_true] at hcs
    subst hcs
    rw [sv_size] at hx
    have hnm : len ≤ m := by
      rw [hmm]
      by_cases hq : sp a.block = true
      · rw [if_pos hq]; exact hl
      · rw [if_neg hq]; exact Nat.le_refl _
    have hmx : maxLen ≤ 9223372036854775807 := by decide
    have each : ∀ i, i < len → (a.add (i * 2)).spot = none ∧ (a.add (i * 2)).block < W.heap.size ∧ ∃ x : Int × Int, W.cell? ⟨(a.add (i * 2)).block, (a.add (i * 2)).off, none⟩ = some (.int .i64 x.1) ∧ W.cell? ⟨(a.add (i * 2)).block, (a.add (i * 2)).off + 1, none⟩ = some (.int .i64 x.2) := by
      intro i hi
      obtain ⟨cs', h1, h2⟩ := hx i (by omega)
      exact open_sv h1 h2
    have hex : ∃ F : Nat → Int × Int, ∀ i, i < len → W.cell? ⟨(a.add (i * 2)).block, (a.add (i * 2)).off, none⟩ = some (.int .i64 (F i).1) ∧ W.cell? ⟨(a.add (i * 2)).block, (a.add (i * 2)).off + 1, none⟩ = some (.int .i64 (F i).2) :=
      ⟨fun i => if h : i < len then (each i h).2.2.choose else (0, 0), fun i hi => by simp only [dif_pos hi]; exact (each i hi).2.2.choose_spec⟩
    obtain ⟨F, hF⟩ := hex
    refine ⟨some a, (List.range len).map F, cap, by simp, by simpa using hl, Nat.le_trans hm hmx, fun hpos => ?_⟩
    have hn : 0 < len := by simpa using hpos
    obtain ⟨hs, hb, _⟩ := each 0 hn
    obtain ⟨b, off, sp0⟩ := a
    have hsp : sp0 = none := by simpa [Addr.add] using hs
    subst hsp
    have ea : ∀ i, (⟨b, off, none⟩ : Addr).add i = ⟨b, off + i, none⟩ := by intro i; unfold Addr.add; split <;> simp_all
    refine ⟨b, off, rfl, by rw [ea] at hb; exact hb, fun i x hx => ?_⟩
    have hi : i < len := by have := (List.getElem?_eq_some_iff.1 hx).1; simpa using this
    have e : x = F i := by
      rw [List.getElem?_map, List.getElem?_range hi] at hx
      simpa using hx.symm
    subst e
    have h3 := hF i hi
    rw [ea] at h3
    exact h3

set_option maxRecDepth 100000 in
theorem open_act12 {W : World} {sp : Nat → Bool} {n : Nat} {a : Addr} {cs : List Value} {z : DataW H × List MemPlace}
    (h1 : W.cells? 0 a 4 = some cs) (h2 : DataW.trod enc Tryd.prog W 0 sp true n 44 cs = some z) :
    a.spot = none ∧ a.block < W.heap.size ∧ ∃ x : Act12, ActIn12 W W.heap.size a.block a.off x := by
  obtain ⟨_, hlen, hcell⟩ := World.cells?_some h1
  obtain ⟨xs, k, hk, _, _, hxl, hf⟩ := DataW.trod_struct Tryd.underlying44 h2
  match cs, hlen with
  | [v0, v1, v2, v3], _ =>
    have g0 : DataW.trod enc Tryd.prog W 0 sp true k 3 (List.take (Tryd.prog.cellsOf 3) (List.drop 0 [v0, v1, v2, v3])) = xs[0]? := hf 0 _ rfl
    have g1 : DataW.trod enc Tryd.prog W 0 sp true k 3 (List.take (Tryd.prog.cellsOf 3) (List.drop 1 [v0, v1, v2, v3])) = xs[1]? := hf 1 _ rfl
    have g2 : DataW.trod enc Tryd.prog W 0 sp true k 9 (List.take (Tryd.prog.cellsOf 9) (List.drop 2 [v0, v1, v2, v3])) = xs[2]? := hf 2 _ rfl
    have g3 : DataW.trod enc Tryd.prog W 0 sp true k 42 (List.take (Tryd.prog.cellsOf 42) (List.drop 3 [v0, v1, v2, v3])) = xs[3]? := hf 3 _ rfl
    have z3 : Tryd.prog.cellsOf 3 = 1 := by kernel_rfl
    have z4 : Tryd.prog.cellsOf 9 = 1 := by kernel_rfl
    have z5 : Tryd.prog.cellsOf 42 = 1 := by kernel_rfl
    rw [z3] at g0 g1
    rw [z4] at g2
    rw [z5] at g3
    match xs, hxl with
    | [y0, y1, y2, y3], _ =>
      obtain ⟨k0, e0, _, w0⟩ := DataW.trod_int Tryd.underlying3 g0
      obtain ⟨k1, e1, _, w1⟩ := DataW.trod_int Tryd.underlying3 g1
      obtain ⟨s3, e3, _, w3⟩ := DataW.trod_string Tryd.underlying9 g2
      obtain rfl : v0 = _ := by simpa using e0
      obtain rfl : v1 = _ := by simpa using e1
      obtain rfl : v2 = _ := by simpa using e3
      obtain ⟨A4, l4, c4, rfl, hc4, hm4, hsv⟩ := open_svs (u := v3) (x := y3) (by simpa using g3)
      have h0 := hcell 0 (by omega)
      have hs : (a.add 0).spot = none := World.cell?_spot h0
      have hb := World.block_lt_of_cell? W (a.add 0) h0
      have ea : ∀ i, a.add i = ⟨a.block, a.off + i, none⟩ := by
        obtain ⟨b, o, sp⟩ := a
        have : sp = none := by simpa [Addr.add] using hs
        subst this
        intro i
        unfold Addr.add
        split <;> simp_all
      have hle : ∀ s : ByteArray, s.size ≤ maxLen → s.data.toList.length ≤ 9223372036854775807 := fun s h => by
        have e : s.data.toList.length = s.size := Array.length_toList
        rw [e]
        exact Nat.le_trans h (by decide)
      have c0 := hcell 0 (by omega)
      have c1 := hcell 1 (by omega)
      have c2 := hcell 2 (by omega)
      have c3' := hcell 3 (by omega)
      rw [ea] at c0 c1 c2 c3'
      refine ⟨by have := ea 0; simpa [Addr.add] using hs, by simpa [Addr.add] using hb, ⟨k0, k1, s3.data.toList, l4⟩, ⟨A4, l4.length, c4, by simpa using c0, by simpa using c1, ?_, by simpa using c3', hsv, rfl, hc4, hm4, hle _ w3⟩⟩
      rw [← bst_of]; simpa using c2

set_option maxRecDepth 100000 in
theorem open_acts12 {W : World} {sp : Nat → Bool} {fuel : Nat} {u : Value} {x : DataW H × List MemPlace}
    (h : DataW.trod enc Tryd.prog W 0 sp true fuel 22 [u] = some x) : ∃ (A : Option Addr) (xs : List Act12) (c : Nat), u = .slice A xs.length c ∧ xs.length ≤ c ∧ xs.length ≤ 9223372036854775807 ∧ ActsAt12 W W.heap.size A xs := by
  rcases Deep.open_slice Tryd.underlying22 h with ⟨h0, _⟩ | ⟨a, len, cap, m, k, D, Pl, hcs, _, hl, hm, hmm, _, hx⟩
  · simp only [List.cons.injEq, and_true] at h0
    subst h0
    exact ⟨none, [], 0, rfl, Nat.le_refl _, by simp, ⟨fun h => absurd h (by simp)⟩⟩
  · simp only [List.cons.injEq, and_true] at hcs
    subst hcs
    rw [act12_size] at hx
    have hnm : len ≤ m := by
      rw [hmm]
      by_cases hq : sp a.block = true
      · rw [if_pos hq]; exact hl
      · rw [if_neg hq]; exact Nat.le_refl _
    have hmx : maxLen ≤ 9223372036854775807 := by decide
    have each : ∀ i, i < len → (a.add (i * 4)).spot = none ∧ (a.add (i * 4)).block < W.heap.size ∧ ∃ x : Act12, ActIn12 W W.heap.size (a.add (i * 4)).block (a.add (i * 4)).off x := by
      intro i hi
      obtain ⟨cs', h1, h2⟩ := hx i (by omega)
      exact open_act12 h1 h2
    have hex : ∃ F : Nat → Act12, ∀ i, i < len → ActIn12 W W.heap.size (a.add (i * 4)).block (a.add (i * 4)).off (F i) :=
      ⟨fun i => if h : i < len then (each i h).2.2.choose else ⟨0, 0, [], []⟩, fun i hi => by simp only [dif_pos hi]; exact (each i hi).2.2.choose_spec⟩
    obtain ⟨F, hF⟩ := hex
    refine ⟨some a, (List.range len).map F, cap, by simp, by simpa using hl, by simp; exact Nat.le_trans hl (Nat.le_trans hm hmx), ⟨fun hpos => ?_⟩⟩
    have hn : 0 < len := by simpa using hpos
    obtain ⟨hs, hb, _⟩ := each 0 hn
    obtain ⟨b, off, sp0⟩ := a
    have hsp : sp0 = none := by simpa [Addr.add] using hs
    subst hsp
    have ea : ∀ i, (⟨b, off, none⟩ : Addr).add i = ⟨b, off + i, none⟩ := by intro i; unfold Addr.add; split <;> simp_all
    refine ⟨b, off, rfl, by rw [ea] at hb; exact hb, fun i x hx => ?_⟩
    have hi : i < len := by have := (List.getElem?_eq_some_iff.1 hx).1; simpa using this
    have e : x = F i := by
      rw [List.getElem?_map, List.getElem?_range hi] at hx
      simpa using hx.symm
    subst e
    have h3 := hF i hi
    rw [ea] at h3
    exact h3
set_option maxRecDepth 100000 in
/-- a slice of acts: as an argument -/
theorem arg_acts12 {r : Reach} {b0 : Nat} {W : World} {sp : Nat → Bool} {v : Value} {d : DataW H} {ps : List MemPlace} (hval : Value.okWide Tryd.prog W r b0 22 v) (h : DataW.Trod enc Tryd.prog W 0 sp true 22 v d ps) :
    ∃ (A : Option Addr) (xs : List Act12) (c : Nat), v = .slice A xs.length c ∧ xs.length ≤ c ∧ xs.length ≤ 9223372036854775807 ∧ ActsAt12 W W.heap.size A xs := by
  obtain ⟨a, n, c, rfl⟩ := okWide_slice Tryd.underlying22 hval
  obtain ⟨fuel, hf⟩ := h
  exact open_acts12 (u := .slice a n c) (by simpa [Value.cells] using hf)

/-- an argument behind a call that makes new memory alone -/
theorem acts12_stays {t : TypeId} (hr : Tryd.prog.readableRec t = true) (hrow : t < Tryd.prog.types.size) {W W' : World} {v : Value} {d : DataW H} {ps : List MemPlace}
    (h : DataW.Trod enc Tryd.prog W 0 (fun _ => true) true t v d ps) (hlt : ∀ p ∈ ps, p.block < W.heap.size) (hb : Below W.heap.size W W') :
    DataW.Trod enc Tryd.prog W' 0 (fun b => decide (b < W.heap.size)) true t v d ps :=
  WideElems.Trod_stays laidOut12 hr hrow h (fun p hp => hb.same (hlt p hp)) (fun p hp => by simpa using hlt p hp)

/-- a row whose arguments may lie in memory, where the call makes blocks of its own alone -/
theorem post_acts12 {f : Func} {s : ChangeSpec} {W W' : World} {args : Array Value} {v : Value} {ds gs : List (DataW H)} {before pa : List MemPlace}
    (hW : DataW.Whole enc Tryd.prog f.params.toList s.vars false W args.toList ds gs before)
    (hres : DataW.TrodAll enc Tryd.prog W' W.heap.size (fun _ => false) false f.resultTypes.toList (v.resultList f.resultTypes.size) (s.fn H (ds ++ gs)).results [])
    (hargs : DataW.TrodAll enc Tryd.prog W' 0 (fun b => decide (b < W.heap.size)) true f.params.toList args.toList (s.fn H (ds ++ gs)).args pa)
    (hvars : DataW.TrodVars enc Tryd.prog W' (fun b => decide (b < W.heap.size)) s.vars (s.fn H (ds ++ gs)).vars []) (hb : Below W.heap.size W W') :
    s.post enc Tryd.prog f false true false false W args v W' :=
  ⟨ds, gs, before, [], pa, [], hW, hres, hargs, hvars, hb.frame _, fun h => by cases h⟩
end

end Go.Proofs.YtngclmjefadokaaDoor
