/-
  Acts and numbers that are handed in, opened.
-/
import Derived.Test.YtdhjjjagjkencaaCaPS
import Derived.Deep.Slices
import Derived.OpenShut
import Derived.WideKeyArgs
import Derived.Lib.SmallJoins
namespace Go.Proofs.Ytdhjjjagjkencaa
open Go Go.RowKit Go.ChangeShapes Go.WideShapes Go.ChangeAt

theorem own : ownKnob Try.prog.godebug = none := by kernel_rfl
theorem laidOutP : laidOutB Try.prog = true := by kernel_rfl

section
variable {H : Type} {enc : TypeId × Value → H}
theorem act11_size : Try.prog.cellsOf 30 = 5 := by kernel_rfl
theorem int_size : Try.prog.cellsOf 3 = 1 := by kernel_rfl
theorem spot_all {a : Addr} (hs : a.spot = none) : ∀ i, a.add i = ⟨a.block, a.off + i, none⟩ := by
  obtain ⟨b, o, sp⟩ := a
  subst hs
  intro i
  unfold Addr.add
  split <;> simp_all

set_option maxRecDepth 100000 in
theorem open_act11 {W : World} {sp : Nat → Bool} {n : Nat} {a : Addr} {cs : List Value} {z : DataW H × List MemPlace}
    (h1 : W.cells? 0 a 5 = some cs) (h2 : DataW.trod enc Try.prog W 0 sp true n 30 cs = some z) :
    a.spot = none ∧ a.block < W.heap.size ∧ ∃ x : Ac, ∀ j u, (eAct.enc x)[j]? = some u → W.cell? ⟨a.block, a.off + j, none⟩ = some u := by
  obtain ⟨_, hlen, hcell⟩ := World.cells?_some h1
  obtain ⟨xs, k, hk, _, _, hxl, hf⟩ := DataW.trod_struct Try.underlying30 h2
  match cs, hlen with
  | [v0, v1, v2, v3, v4], _ =>
    have g0 : DataW.trod enc Try.prog W 0 sp true k 3 (List.take (Try.prog.cellsOf 3) (List.drop 0 [v0, v1, v2, v3, v4])) = xs[0]? := hf 0 _ rfl
    have g1 : DataW.trod enc Try.prog W 0 sp true k 3 (List.take (Try.prog.cellsOf 3) (List.drop 1 [v0, v1, v2, v3, v4])) = xs[1]? := hf 1 _ rfl
    have g2 : DataW.trod enc Try.prog W 0 sp true k 3 (List.take (Try.prog.cellsOf 3) (List.drop 2 [v0, v1, v2, v3, v4])) = xs[2]? := hf 2 _ rfl
    have g3 : DataW.trod enc Try.prog W 0 sp true k 9 (List.take (Try.prog.cellsOf 9) (List.drop 3 [v0, v1, v2, v3, v4])) = xs[3]? := hf 3 _ rfl
    have g4 : DataW.trod enc Try.prog W 0 sp true k 4 (List.take (Try.prog.cellsOf 4) (List.drop 4 [v0, v1, v2, v3, v4])) = xs[4]? := hf 4 _ rfl
    have z4 : Try.prog.cellsOf 9 = 1 := by kernel_rfl
    have z5 : Try.prog.cellsOf 4 = 1 := by kernel_rfl
    rw [int_size] at g0 g1 g2
    rw [z4] at g3
    rw [z5] at g4
    match xs, hxl with
    | [y0, y1, y2, y3, y4], _ =>
      obtain ⟨k0, e0, _, w0⟩ := DataW.trod_int Try.underlying3 g0
      obtain ⟨k1, e1, _, w1⟩ := DataW.trod_int Try.underlying3 g1
      obtain ⟨k2, e2, _, w2⟩ := DataW.trod_int Try.underlying3 g2
      obtain ⟨s3, e3, _, w3⟩ := DataW.trod_string Try.underlying9 g3
      obtain ⟨b4, e4, _⟩ := DataW.trod_bool Try.underlying4 g4
      obtain rfl : v0 = _ := by simpa using e0
      obtain rfl : v1 = _ := by simpa using e1
      obtain rfl : v2 = _ := by simpa using e2
      obtain rfl : v3 = _ := by simpa using e3
      obtain rfl : v4 = _ := by simpa using e4
      have h0 := hcell 0 (by omega)
      have hs0 : (a.add 0).spot = none := World.cell?_spot h0
      have hs : a.spot = none := by simpa [Addr.add] using hs0
      have hb := World.block_lt_of_cell? W (a.add 0) h0
      have ea := spot_all hs
      refine ⟨hs, by simpa [Addr.add] using hb, ⟨k0, k1, k2, s3.data.toList, b4⟩, fun j u hu => ?_⟩
      have hj : j < 5 := by
        have := (List.getElem?_eq_some_iff.1 hu).1
        rw [eAct.len] at this; exact this
      have c := hcell j (by omega)
      rw [ea] at c
      rw [c]
      have he : (eAct.enc ⟨k0, k1, k2, s3.data.toList, b4⟩) = [.int .i64 k0, .int .i64 k1, .int .i64 k2, .string (bst s3.data.toList), .bool b4] := rfl
      rw [he, ← bst_of] at hu
      exact hu
set_option maxRecDepth 100000 in
theorem open_int11 {W : World} {sp : Nat → Bool} {n : Nat} {a : Addr} {cs : List Value} {z : DataW H × List MemPlace}
    (h1 : W.cells? 0 a 1 = some cs) (h2 : DataW.trod enc Try.prog W 0 sp true n 3 cs = some z) :
    a.spot = none ∧ a.block < W.heap.size ∧ ∃ x : Int, ∀ j u, (eI64.enc x)[j]? = some u → W.cell? ⟨a.block, a.off + j, none⟩ = some u := by
  obtain ⟨_, hlen, hcell⟩ := World.cells?_some h1
  match cs, hlen with
  | [v0], _ =>
    obtain ⟨k0, e0, _, w0⟩ := DataW.trod_int Try.underlying3 h2
    obtain rfl : v0 = _ := by simpa using e0
    have h0 := hcell 0 (by omega)
    have hs0 : (a.add 0).spot = none := World.cell?_spot h0
    have hs : a.spot = none := by simpa [Addr.add] using hs0
    have hb := World.block_lt_of_cell? W (a.add 0) h0
    have ea := spot_all hs
    refine ⟨hs, by simpa [Addr.add] using hb, k0, fun j u hu => ?_⟩
    have hj : j < 1 := by
      have := (List.getElem?_eq_some_iff.1 hu).1
      rw [eI64.len] at this; exact this
    have c := hcell j (by omega)
    rw [ea] at c
    rw [c]
    exact hu

set_option maxRecDepth 100000 in
theorem open_row11 {α : Type} {E : Enc α} (dflt : α) {st et : TypeId} (hs : Try.prog.underlying st = some (.slice et)) (hsz : Try.prog.cellsOf et = E.k)
    (hone : ∀ {W : World} {sp : Nat → Bool} {n : Nat} {a : Addr} {cs : List Value} {z : DataW H × List MemPlace}, W.cells? 0 a E.k = some cs → DataW.trod enc Try.prog W 0 sp true n et cs = some z → a.spot = none ∧ a.block < W.heap.size ∧ ∃ x : α, ∀ j u, (E.enc x)[j]? = some u → W.cell? ⟨a.block, a.off + j, none⟩ = some u)
    {W : World} {sp : Nat → Bool} {fuel : Nat} {u : Value} {x : DataW H × List MemPlace}
    (h : DataW.trod enc Try.prog W 0 sp true fuel st [u] = some x) : ∃ (A : Option Addr) (xs : List α) (c : Nat), u = .slice A xs.length c ∧ xs.length ≤ c ∧ xs.length ≤ 9223372036854775807 ∧ GAt E W W.heap.size A xs := by
  rcases Deep.open_slice hs h with ⟨h0, _⟩ | ⟨a, len, cap, m, k, D, Pl, hcs, _, hl, hm, hmm, _, hx⟩
  · simp only [List.cons.injEq, and_true] at h0
    subst h0
    exact ⟨none, [], 0, rfl, Nat.le_refl _, by simp, fun h => absurd h (by simp)⟩
  · simp only [List.cons.injEq, and_true] at hcs
    subst hcs
    rw [hsz] at hx
    have hnm : len ≤ m := by
      rw [hmm]
      by_cases hq : sp a.block = true
      · rw [if_pos hq]; exact hl
      · rw [if_neg hq]; exact Nat.le_refl _
    have hmx : maxLen ≤ 9223372036854775807 := by decide
    have each : ∀ i, i < len → (a.add (i * E.k)).spot = none ∧ (a.add (i * E.k)).block < W.heap.size ∧ ∃ x : α, ∀ j u, (E.enc x)[j]? = some u → W.cell? ⟨(a.add (i * E.k)).block, (a.add (i * E.k)).off + j, none⟩ = some u := by
      intro i hi
      obtain ⟨cs', h1, h2⟩ := hx i (by omega)
      exact hone h1 h2
    have hex : ∃ F : Nat → α, ∀ i, i < len → ∀ j u, (E.enc (F i))[j]? = some u → W.cell? ⟨(a.add (i * E.k)).block, (a.add (i * E.k)).off + j, none⟩ = some u :=
      ⟨fun i => if h : i < len then (each i h).2.2.choose else dflt, fun i hi => by simp only [dif_pos hi]; exact (each i hi).2.2.choose_spec⟩
    obtain ⟨F, hF⟩ := hex
    refine ⟨some a, (List.range len).map F, cap, by simp, by simpa using hl, by simp; exact Nat.le_trans hl (Nat.le_trans hm hmx), fun hpos => ?_⟩
    have hn : 0 < len := by simpa using hpos
    obtain ⟨hs0, hb, _⟩ := each 0 hn
    have hsp : a.spot = none := by simpa [Addr.add] using hs0
    have ea := spot_all hsp
    refine ⟨a.block, a.off, by obtain ⟨b, o, s⟩ := a; dsimp only at hsp ⊢; rw [hsp], by rw [ea] at hb; exact hb, fun i x j u hx hu => ?_⟩
    have hi : i < len := by have := (List.getElem?_eq_some_iff.1 hx).1; simpa using this
    have e : x = F i := by
      rw [List.getElem?_map, List.getElem?_range hi] at hx
      simpa using hx.symm
    subst e
    have h3 := hF i hi j u hu
    rw [ea] at h3
    exact h3

theorem arg_ca11 {r : Reach} {b0 : Nat} {W : World} {sp : Nat → Bool} {v : Value} {d : DataW H} {ps : List MemPlace} (hval : Value.okWide Try.prog W r b0 22 v) (h : DataW.Trod enc Try.prog W 0 sp true 22 v d ps) :
    ∃ (A : Option Addr) (xs : List Ac) (c : Nat), v = .slice A xs.length c ∧ xs.length ≤ c ∧ xs.length ≤ 9223372036854775807 ∧ GAt eAct W W.heap.size A xs := by
  obtain ⟨a, n, c, rfl⟩ := okWide_slice Try.underlying22 hval
  obtain ⟨fuel, hf⟩ := h
  exact open_row11 (E := eAct) ⟨0, 0, 0, [], false⟩ Try.underlying22 act11_size (fun h1 h2 => open_act11 h1 h2) (u := .slice a n c) (by simpa [Value.cells] using hf)
theorem arg_ints {r : Reach} {b0 : Nat} {W : World} {sp : Nat → Bool} {v : Value} {d : DataW H} {ps : List MemPlace} (hval : Value.okWide Try.prog W r b0 43 v) (h : DataW.Trod enc Try.prog W 0 sp true 43 v d ps) :
    ∃ (A : Option Addr) (xs : List Int) (c : Nat), v = .slice A xs.length c ∧ xs.length ≤ c ∧ xs.length ≤ 9223372036854775807 ∧ GAt eI64 W W.heap.size A xs := by
  obtain ⟨a, n, c, rfl⟩ := okWide_slice Try.underlying43 hval
  obtain ⟨fuel, hf⟩ := h
  exact open_row11 (E := eI64) 0 Try.underlying43 int_size (fun h1 h2 => open_int11 h1 h2) (u := .slice a n c) (by simpa [Value.cells] using hf)
/-- an argument behind a call that makes new memory alone -/
theorem arg_stays {t : TypeId} (hr : Try.prog.readableRec t = true) (hrow : t < Try.prog.types.size) {W W' : World} {v : Value} {d : DataW H} {ps : List MemPlace}
    (h : DataW.Trod enc Try.prog W 0 (fun _ => true) true t v d ps) (hlt : ∀ p ∈ ps, p.block < W.heap.size) (hb : Below W.heap.size W W') :
    DataW.Trod enc Try.prog W' 0 (fun b => decide (b < W.heap.size)) true t v d ps :=
  WideElems.Trod_stays laidOutP hr hrow h (fun p hp => hb.same (hlt p hp)) (fun p hp => by simpa using hlt p hp)

/-- a row whose arguments may lie in memory, where the call makes blocks of its own alone -/
theorem post_args {f : Func} {s : ChangeSpec} {W W' : World} {args : Array Value} {v : Value} {ds gs : List (DataW H)} {before pa : List MemPlace}
    (hW : DataW.Whole enc Try.prog f.params.toList s.vars false W args.toList ds gs before)
    (hres : DataW.TrodAll enc Try.prog W' W.heap.size (fun _ => false) false f.resultTypes.toList (v.resultList f.resultTypes.size) (s.fn H (ds ++ gs)).results [])
    (hargs : DataW.TrodAll enc Try.prog W' 0 (fun b => decide (b < W.heap.size)) true f.params.toList args.toList (s.fn H (ds ++ gs)).args pa)
    (hvars : DataW.TrodVars enc Try.prog W' (fun b => decide (b < W.heap.size)) s.vars (s.fn H (ds ++ gs)).vars []) (hb : Below W.heap.size W W') :
    s.post enc Try.prog f false true false false W args v W' :=
  ⟨ds, gs, before, [], pa, [], hW, hres, hargs, hvars, hb.frame _, fun h => by cases h⟩
end

end Go.Proofs.Ytdhjjjagjkencaa
