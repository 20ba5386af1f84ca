/-
  Acts and survivors that are handed in, opened.
-/
import Derived.Test.YtlemoaigcakmcaaDInv
import Derived.Deep.Slices
import Derived.OpenShut
import Derived.WideKeyArgs
import Derived.Lib.SmallJoins
namespace Go.Proofs.Ytlemoaigcakmcaa
open Go Go.RowKit Go.ChangeShapes Go.WideShapes Go.ChangeAt

theorem own : ownKnob Try.prog.godebug = none := by kernel_rfl
theorem laidOutP : laidOutB Try.prog = true := by kernel_rfl

section
variable {H : Type} {enc : TypeId × Value → H}

theorem sv_size : Try.prog.cellsOf 44 = 2 := by kernel_rfl
theorem act_size : Try.prog.cellsOf 32 = 4 := by kernel_rfl

set_option maxRecDepth 100000 in
theorem open_sv {W : World} {sp : Nat → Bool} {n : Nat} {a : Addr} {cs : List Value} {z : DataW H × List MemPlace}
    (h1 : W.cells? 0 a 2 = some cs) (h2 : DataW.trod enc Try.prog W 0 sp true n 44 cs = some z) :
    a.spot = none ∧ a.block < W.heap.size ∧ ∃ x : Int × Int, W.cell? ⟨a.block, a.off, none⟩ = some (.int .i64 x.1) ∧ W.cell? ⟨a.block, a.off + 1, none⟩ = some (.int .i64 x.2) := by
  obtain ⟨_, hlen, hcell⟩ := World.cells?_some h1
  obtain ⟨xs, k, hk, _, _, hxl, hf⟩ := DataW.trod_struct Try.underlying44 h2
  match cs, hlen with
  | [v0, v1], _ =>
    have g0 : DataW.trod enc Try.prog W 0 sp true k 3 (List.take (Try.prog.cellsOf 3) (List.drop 0 [v0, v1])) = xs[0]? := hf 0 _ rfl
    have g1 : DataW.trod enc Try.prog W 0 sp true k 3 (List.take (Try.prog.cellsOf 3) (List.drop 1 [v0, v1])) = xs[1]? := hf 1 _ rfl
    have z3 : Try.prog.cellsOf 3 = 1 := by kernel_rfl
    rw [z3] at g0 g1
    match xs, hxl with
    | [y0, y1], _ =>
      obtain ⟨k0, e0, _, w0⟩ := DataW.trod_int Try.underlying3 g0
      obtain ⟨k1, e1, _, w1⟩ := DataW.trod_int Try.underlying3 g1
      obtain rfl : v0 = _ := by simpa using e0
      obtain rfl : v1 = _ := by simpa using e1
      have h0 := hcell 0 (by omega)
      have hs : (a.add 0).spot = none := World.cell?_spot h0
      have hb := World.block_lt_of_cell? W (a.add 0) h0
      have ea : ∀ i, a.add i = ⟨a.block, a.off + i, none⟩ := by
        obtain ⟨b, o, sp⟩ := a
        have : sp = none := by simpa [Addr.add] using hs
        subst this
        intro i
        unfold Addr.add
        split <;> simp_all
      refine ⟨by have := ea 0; simpa [Addr.add] using hs, by simpa [Addr.add] using hb, (k0, k1), ?_⟩
      have c0 := hcell 0 (by omega)
      have c1 := hcell 1 (by omega)
      rw [ea] at c0 c1
      exact ⟨by simpa using c0, by simpa using c1⟩

set_option maxRecDepth 100000 in
theorem open_svs {W : World} {sp : Nat → Bool} {fuel : Nat} {u : Value} {x : DataW H × List MemPlace}
    (h : DataW.trod enc Try.prog W 0 sp true fuel 24 [u] = some x) : ∃ (A : Option Addr) (l : List (Int × Int)) (c : Nat), u = .slice A l.length c ∧ l.length ≤ c ∧ c ≤ 9223372036854775807 ∧ SvAt W W.heap.size A l := by
  rcases Deep.open_slice Try.underlying24 h with ⟨h0, _⟩ | ⟨a, len, cap, m, k, D, Pl, hcs, _, hl, hm, hmm, _, hx⟩
  · simp only [List.cons.injEq, and_true] at h0
    subst h0
    exact ⟨none, [], 0, rfl, Nat.le_refl _, by decide, fun h => absurd h (by simp)⟩
  · simp only [List.cons.injEq, and_true] at hcs
    subst hcs
    rw [sv_size] at hx
    have hnm : len ≤ m := by
      rw [hmm]
      by_cases hq : sp a.block = true
      · rw [if_pos hq]; exact hl
      · rw [if_neg hq]; exact Nat.le_refl _
    have hmx : maxLen ≤ 9223372036854775807 := by decide
    have each : ∀ i, i < len → (a.add (i * 2)).spot = none ∧ (a.add (i * 2)).block < W.heap.size ∧ ∃ x : Int × Int, W.cell? ⟨(a.add (i * 2)).block, (a.add (i * 2)).off, none⟩ = some (.int .i64 x.1) ∧ W.cell? ⟨(a.add (i * 2)).block, (a.add (i * 2)).off + 1, none⟩ = some (.int .i64 x.2) := by
      intro i hi
      obtain ⟨cs', h1, h2⟩ := hx i (by omega)
      exact open_sv h1 h2
    have hex : ∃ F : Nat → Int × Int, ∀ i, i < len → W.cell? ⟨(a.add (i * 2)).block, (a.add (i * 2)).off, none⟩ = some (.int .i64 (F i).1) ∧ W.cell? ⟨(a.add (i * 2)).block, (a.add (i * 2)).off + 1, none⟩ = some (.int .i64 (F i).2) :=
      ⟨fun i => if h : i < len then (each i h).2.2.choose else (0, 0), fun i hi => by simp only [dif_pos hi]; exact (each i hi).2.2.choose_spec⟩
    obtain ⟨F, hF⟩ := hex
    refine ⟨some a, (List.range len).map F, cap, by simp, by simpa using hl, Nat.le_trans hm hmx, fun hpos => ?_⟩
    have hn : 0 < len := by simpa using hpos
    obtain ⟨hs, hb, _⟩ := each 0 hn
    obtain ⟨b, off, sp0⟩ := a
    have hsp : sp0 = none := by simpa [Addr.add] using hs
    subst hsp
    have ea : ∀ i, (⟨b, off, none⟩ : Addr).add i = ⟨b, off + i, none⟩ := by intro i; unfold Addr.add; split <;> simp_all
    refine ⟨b, off, rfl, by rw [ea] at hb; exact hb, fun i x hx => ?_⟩
    have hi : i < len := by have := (List.getElem?_eq_some_iff.1 hx).1; simpa using this
    have e : x = F i := by
      rw [List.getElem?_map, List.getElem?_range hi] at hx
      simpa using hx.symm
    subst e
    have h3 := hF i hi
    rw [ea] at h3
    exact h3

set_option maxRecDepth 100000 in
theorem open_act {W : World} {sp : Nat → Bool} {n : Nat} {a : Addr} {cs : List Value} {z : DataW H × List MemPlace}
    (h1 : W.cells? 0 a 4 = some cs) (h2 : DataW.trod enc Try.prog W 0 sp true n 32 cs = some z) :
    a.spot = none ∧ a.block < W.heap.size ∧ ∃ x : Act6, ActIn W W.heap.size a.block a.off x := by
  obtain ⟨_, hlen, hcell⟩ := World.cells?_some h1
  obtain ⟨xs, k, hk, _, _, hxl, hf⟩ := DataW.trod_struct Try.underlying32 h2
  match cs, hlen with
  | [v0, v1, v2, v3], _ =>
    have g0 : DataW.trod enc Try.prog W 0 sp true k 3 (List.take (Try.prog.cellsOf 3) (List.drop 0 [v0, v1, v2, v3])) = xs[0]? := hf 0 _ rfl
    have g1 : DataW.trod enc Try.prog W 0 sp true k 3 (List.take (Try.prog.cellsOf 3) (List.drop 1 [v0, v1, v2, v3])) = xs[1]? := hf 1 _ rfl
    have g2 : DataW.trod enc Try.prog W 0 sp true k 9 (List.take (Try.prog.cellsOf 9) (List.drop 2 [v0, v1, v2, v3])) = xs[2]? := hf 2 _ rfl
    have g3 : DataW.trod enc Try.prog W 0 sp true k 24 (List.take (Try.prog.cellsOf 24) (List.drop 3 [v0, v1, v2, v3])) = xs[3]? := hf 3 _ rfl
    have z3 : Try.prog.cellsOf 3 = 1 := by kernel_rfl
    have z4 : Try.prog.cellsOf 9 = 1 := by kernel_rfl
    have z5 : Try.prog.cellsOf 24 = 1 := by kernel_rfl
    rw [z3] at g0 g1
    rw [z4] at g2
    rw [z5] at g3
    match xs, hxl with
    | [y0, y1, y2, y3], _ =>
      obtain ⟨k0, e0, _, w0⟩ := DataW.trod_int Try.underlying3 g0
      obtain ⟨k1, e1, _, w1⟩ := DataW.trod_int Try.underlying3 g1
      obtain ⟨s2, e2, _, w2⟩ := DataW.trod_string Try.underlying9 g2
      obtain rfl : v0 = _ := by simpa using e0
      obtain rfl : v1 = _ := by simpa using e1
      obtain rfl : v2 = _ := by simpa using e2
      obtain ⟨A3, l3, c3, rfl, hc3, hm3, hsv⟩ := open_svs (u := v3) (x := y3) (by simpa using g3)
      have h0 := hcell 0 (by omega)
      have hs : (a.add 0).spot = none := World.cell?_spot h0
      have hb := World.block_lt_of_cell? W (a.add 0) h0
      have ea : ∀ i, a.add i = ⟨a.block, a.off + i, none⟩ := by
        obtain ⟨b, o, sp⟩ := a
        have : sp = none := by simpa [Addr.add] using hs
        subst this
        intro i
        unfold Addr.add
        split <;> simp_all
      have hle : ∀ s : ByteArray, s.size ≤ maxLen → s.data.toList.length ≤ 9223372036854775807 := fun s h => by
        have e : s.data.toList.length = s.size := Array.length_toList
        rw [e]
        exact Nat.le_trans h (by decide)
      have c0 := hcell 0 (by omega)
      have c1 := hcell 1 (by omega)
      have c2 := hcell 2 (by omega)
      have c3' := hcell 3 (by omega)
      rw [ea] at c0 c1 c2 c3'
      refine ⟨by have := ea 0; simpa [Addr.add] using hs, by simpa [Addr.add] using hb, ⟨k0, k1, s2.data.toList, l3⟩, ⟨A3, l3.length, c3, by simpa using c0, by simpa using c1, ?_, by simpa using c3', hsv, rfl, hc3, hm3, hle _ w2⟩⟩
      rw [← bst_of]; simpa using c2

set_option maxRecDepth 100000 in
theorem open_acts {W : World} {sp : Nat → Bool} {fuel : Nat} {u : Value} {x : DataW H × List MemPlace}
    (h : DataW.trod enc Try.prog W 0 sp true fuel 22 [u] = some x) : ∃ (A : Option Addr) (xs : List Act6) (c : Nat), u = .slice A xs.length c ∧ xs.length ≤ c ∧ xs.length ≤ 9223372036854775807 ∧ ActsAt W W.heap.size A xs := by
  rcases Deep.open_slice Try.underlying22 h with ⟨h0, _⟩ | ⟨a, len, cap, m, k, D, Pl, hcs, _, hl, hm, hmm, _, hx⟩
  · simp only [List.cons.injEq, and_true] at h0
    subst h0
    exact ⟨none, [], 0, rfl, Nat.le_refl _, by simp, ⟨fun h => absurd h (by simp)⟩⟩
  · simp only [List.cons.injEq, and_true] at hcs
    subst hcs
    rw [act_size] at hx
    have hnm : len ≤ m := by
      rw [hmm]
      by_cases hq : sp a.block = true
      · rw [if_pos hq]; exact hl
      · rw [if_neg hq]; exact Nat.le_refl _
    have hmx : maxLen ≤ 9223372036854775807 := by decide
    have each : ∀ i, i < len → (a.add (i * 4)).spot = none ∧ (a.add (i * 4)).block < W.heap.size ∧ ∃ x : Act6, ActIn W W.heap.size (a.add (i * 4)).block (a.add (i * 4)).off x := by
      intro i hi
      obtain ⟨cs', h1, h2⟩ := hx i (by omega)
      exact open_act h1 h2
    have hex : ∃ F : Nat → Act6, ∀ i, i < len → ActIn W W.heap.size (a.add (i * 4)).block (a.add (i * 4)).off (F i) :=
      ⟨fun i => if h : i < len then (each i h).2.2.choose else ⟨0, 0, [], []⟩, fun i hi => by simp only [dif_pos hi]; exact (each i hi).2.2.choose_spec⟩
    obtain ⟨F, hF⟩ := hex
    refine ⟨some a, (List.range len).map F, cap, by simp, by simpa using hl, by simp; exact Nat.le_trans hl (Nat.le_trans hm hmx), ⟨fun hpos => ?_⟩⟩
    have hn : 0 < len := by simpa using hpos
    obtain ⟨hs, hb, _⟩ := each 0 hn
    obtain ⟨b, off, sp0⟩ := a
    have hsp : sp0 = none := by simpa [Addr.add] using hs
    subst hsp
    have ea : ∀ i, (⟨b, off, none⟩ : Addr).add i = ⟨b, off + i, none⟩ := by intro i; unfold Addr.add; split <;> simp_all
    refine ⟨b, off, rfl, by rw [ea] at hb; exact hb, fun i x hx => ?_⟩
    have hi : i < len := by have := (List.getElem?_eq_some_iff.1 hx).1; simpa using this
    have e : x = F i := by
      rw [List.getElem?_map, List.getElem?_range hi] at hx
      simpa using hx.symm
    subst e
    have h3 := hF i hi
    rw [ea] at h3
    exact h3
/-- a slice of acts, of survivors, an array of two slices of acts: as arguments -/
theorem arg_acts {r : Reach} {b0 : Nat} {W : World} {sp : Nat → Bool} {v : Value} {d : DataW H} {ps : List MemPlace} (hval : Value.okWide Try.prog W r b0 22 v) (h : DataW.Trod enc Try.prog W 0 sp true 22 v d ps) :
    ∃ (A : Option Addr) (xs : List Act6) (c : Nat), v = .slice A xs.length c ∧ xs.length ≤ c ∧ xs.length ≤ 9223372036854775807 ∧ ActsAt W W.heap.size A xs := by
  obtain ⟨a, n, c, rfl⟩ := okWide_slice Try.underlying22 hval
  obtain ⟨fuel, hf⟩ := h
  exact open_acts (u := .slice a n c) (by simpa [Value.cells] using hf)
theorem arg_svs {r : Reach} {b0 : Nat} {W : World} {sp : Nat → Bool} {v : Value} {d : DataW H} {ps : List MemPlace} (hval : Value.okWide Try.prog W r b0 24 v) (h : DataW.Trod enc Try.prog W 0 sp true 24 v d ps) :
    ∃ (A : Option Addr) (l : List (Int × Int)) (c : Nat), v = .slice A l.length c ∧ l.length ≤ c ∧ c ≤ 9223372036854775807 ∧ SvAt W W.heap.size A l := by
  obtain ⟨a, n, c, rfl⟩ := okWide_slice Try.underlying24 hval
  obtain ⟨fuel, hf⟩ := h
  exact open_svs (u := .slice a n c) (by simpa [Value.cells] using hf)
set_option maxRecDepth 100000 in
theorem arg_acts2 {r : Reach} {b0 : Nat} {W : World} {sp : Nat → Bool} {v : Value} {d : DataW H} {ps : List MemPlace} (hval : Value.okWide Try.prog W r b0 23 v) (h : DataW.Trod enc Try.prog W 0 sp true 23 v d ps) :
    ∃ (A1 : Option Addr) (xs : List Act6) (c1 : Nat) (A2 : Option Addr) (ys : List Act6) (c2 : Nat), v = .agg #[.slice A1 xs.length c1, .slice A2 ys.length c2] ∧ ActsAt W W.heap.size A1 xs ∧ ActsAt W W.heap.size A2 ys := by
  have hu := Try.underlying23
  have z1 : Try.prog.cellsOf 23 = 2 := by kernel_rfl
  have z2 : Try.prog.cellsOf 22 = 1 := by kernel_rfl
  simp only [Value.okWide, hu] at hval
  obtain ⟨cs, rfl, hsz, _⟩ := hval
  obtain ⟨u0, u1, rfl⟩ := Joins.array2 (hsz.trans z1)
  obtain ⟨fuel, hf⟩ := h
  obtain ⟨xs, m, _, _, _, hxl, hi⟩ := DataW.trod_array hu hf
  have g0 := hi 0 (by decide)
  have g1 := hi 1 (by decide)
  rw [z2] at g0 g1
  match xs, hxl with
  | [y0, y1], _ =>
    obtain ⟨A1, l1, c1, rfl, _, _, h1⟩ := open_acts (u := u0) (x := y0) (by simpa [Value.cells] using g0)
    obtain ⟨A2, l2, c2, rfl, _, _, h2⟩ := open_acts (u := u1) (x := y1) (by simpa [Value.cells] using g1)
    exact ⟨A1, l1, c1, A2, l2, c2, rfl, h1, h2⟩

/-- an argument behind a call that makes new memory alone -/
theorem arg_stays {t : TypeId} (hr : Try.prog.readableRec t = true) (hrow : t < Try.prog.types.size) {W W' : World} {v : Value} {d : DataW H} {ps : List MemPlace}
    (h : DataW.Trod enc Try.prog W 0 (fun _ => true) true t v d ps) (hlt : ∀ p ∈ ps, p.block < W.heap.size) (hb : Below W.heap.size W W') :
    DataW.Trod enc Try.prog W' 0 (fun b => decide (b < W.heap.size)) true t v d ps :=
  WideElems.Trod_stays laidOutP hr hrow h (fun p hp => hb.same (hlt p hp)) (fun p hp => by simpa using hlt p hp)

/-- a row whose arguments may lie in memory, where the call makes blocks of its own alone -/
theorem post_args {f : Func} {s : ChangeSpec} {W W' : World} {args : Array Value} {v : Value} {ds gs : List (DataW H)} {before pa : List MemPlace}
    (hW : DataW.Whole enc Try.prog f.params.toList s.vars false W args.toList ds gs before)
    (hres : DataW.TrodAll enc Try.prog W' W.heap.size (fun _ => false) false f.resultTypes.toList (v.resultList f.resultTypes.size) (s.fn H (ds ++ gs)).results [])
    (hargs : DataW.TrodAll enc Try.prog W' 0 (fun b => decide (b < W.heap.size)) true f.params.toList args.toList (s.fn H (ds ++ gs)).args pa)
    (hvars : DataW.TrodVars enc Try.prog W' (fun b => decide (b < W.heap.size)) s.vars (s.fn H (ds ++ gs)).vars []) (hb : Below W.heap.size W W') :
    s.post enc Try.prog f false true false false W args v W' :=
  ⟨ds, gs, before, [], pa, [], hW, hres, hargs, hvars, hb.frame _, fun h => by cases h⟩
end

end Go.Proofs.Ytlemoaigcakmcaa
