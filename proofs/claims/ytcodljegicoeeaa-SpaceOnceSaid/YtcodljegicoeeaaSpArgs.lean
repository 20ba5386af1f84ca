/-
  Acts that are handed in, opened.
-/
import Derived.Test.YtcodljegicoeeaaSpAwake
import Derived.Deep.Slices
import Derived.OpenShut
import Derived.WideKeyArgs
import Derived.Lib.SmallJoins
namespace Go.Proofs.Ytcodljegicoeeaa
open Go Go.RowKit Go.ChangeShapes Go.WideShapes Go.ChangeAt

/-- these acts in memory, below block B -/
def AcAt (w : World) (B : Nat) (A : Option Addr) (l : List (Int × Int)) : Prop :=
  0 < l.length → ∃ b off, A = some ⟨b, off, none⟩ ∧ b < B ∧ ∀ i x, l[i]? = some x → w.cell? ⟨b, off + i * 2, none⟩ = some (.int .i64 x.1) ∧ w.cell? ⟨b, off + i * 2 + 1, none⟩ = some (.int .i64 x.2)
theorem AcAt.below {w w' : World} {B : Nat} {A : Option Addr} {l : List (Int × Int)} (h : AcAt w B A l) (hb : Below B w w') : AcAt w' B A l := fun hl => by
  obtain ⟨b, off, e, hlt, hc⟩ := h hl
  exact ⟨b, off, e, hlt, fun i x hx => ⟨(World.cell?_of_block (a := ⟨b, _, none⟩) (hb.block b hlt)).trans (hc i x hx).1, (World.cell?_of_block (a := ⟨b, _, none⟩) (hb.block b hlt)).trans (hc i x hx).2⟩⟩
theorem AcAt.get {w : World} {B i : Nat} {A : Option Addr} {l : List (Int × Int)} (h : AcAt w B A l) (hi : i < l.length) : ∃ b off x, A = some ⟨b, off, none⟩ ∧ l[i]? = some x ∧ w.cell? ⟨b, off + i * 2, none⟩ = some (.int .i64 x.1) ∧ w.cell? ⟨b, off + i * 2 + 1, none⟩ = some (.int .i64 x.2) := by
  obtain ⟨b, off, e, _, hc⟩ := h (by omega)
  have hx : l[i]? = some l[i] := List.getElem?_eq_getElem hi
  exact ⟨b, off, l[i], e, hx, (hc i _ hx).1, (hc i _ hx).2⟩
theorem AcAt.at {w : World} {B i b off : Nat} {l : List (Int × Int)} {x : Int × Int} (h : AcAt w B (some ⟨b, off, none⟩) l) (hx : l[i]? = some x) : w.cell? ⟨b, off + i * 2, none⟩ = some (.int .i64 x.1) ∧ w.cell? ⟨b, off + i * 2 + 1, none⟩ = some (.int .i64 x.2) := by
  obtain ⟨b', off', e, _, hc⟩ := h (by have := (List.getElem?_eq_some_iff.1 hx).1; omega)
  injection e with e
  injection e with e1 e2
  subst e1 e2
  exact hc i x hx

theorem own : ownKnob Try.prog.godebug = none := by kernel_rfl
theorem laidOutP : laidOutB Try.prog = true := by kernel_rfl

section
variable {H : Type} {enc : TypeId × Value → H}

theorem ac_size : Try.prog.cellsOf 34 = 2 := by kernel_rfl

set_option maxRecDepth 100000 in
theorem open_ac {W : World} {sp : Nat → Bool} {n : Nat} {a : Addr} {cs : List Value} {z : DataW H × List MemPlace}
    (h1 : W.cells? 0 a 2 = some cs) (h2 : DataW.trod enc Try.prog W 0 sp true n 34 cs = some z) :
    a.spot = none ∧ a.block < W.heap.size ∧ ∃ x : Int × Int, W.cell? ⟨a.block, a.off, none⟩ = some (.int .i64 x.1) ∧ W.cell? ⟨a.block, a.off + 1, none⟩ = some (.int .i64 x.2) := by
  obtain ⟨_, hlen, hcell⟩ := World.cells?_some h1
  obtain ⟨xs, k, hk, _, _, hxl, hf⟩ := DataW.trod_struct Try.underlying34 h2
  match cs, hlen with
  | [v0, v1], _ =>
    have g0 : DataW.trod enc Try.prog W 0 sp true k 3 (List.take (Try.prog.cellsOf 3) (List.drop 0 [v0, v1])) = xs[0]? := hf 0 _ rfl
    have g1 : DataW.trod enc Try.prog W 0 sp true k 3 (List.take (Try.prog.cellsOf 3) (List.drop 1 [v0, v1])) = xs[1]? := hf 1 _ rfl
    have z3 : Try.prog.cellsOf 3 = 1 := by kernel_rfl
    rw [z3] at g0 g1
    match xs, hxl with
    | [y0, y1], _ =>
      obtain ⟨k0, e0, _, w0⟩ := DataW.trod_int Try.underlying3 g0
      obtain ⟨k1, e1, _, w1⟩ := DataW.trod_int Try.underlying3 g1
      obtain rfl : v0 = _ := by simpa using e0
      obtain rfl : v1 = _ := by simpa using e1
      have h0 := hcell 0 (by omega)
      have hs : (a.add 0).spot = none := World.cell?_spot h0
      have hb := World.block_lt_of_cell? W (a.add 0) h0
      have ea : ∀ i, a.add i = ⟨a.block, a.off + i, none⟩ := by
        obtain ⟨b, o, sp⟩ := a
        have : sp = none := by simpa [Addr.add] using hs
        subst this
        intro i
        unfold Addr.add
        split <;> simp_all
      refine ⟨by have := ea 0; simpa [Addr.add] using hs, by simpa [Addr.add] using hb, (k0, k1), ?_⟩
      have c0 := hcell 0 (by omega)
      have c1 := hcell 1 (by omega)
      rw [ea] at c0 c1
      exact ⟨by simpa using c0, by simpa using c1⟩

set_option maxRecDepth 100000 in
theorem open_acs {W : World} {sp : Nat → Bool} {fuel : Nat} {u : Value} {x : DataW H × List MemPlace}
    (h : DataW.trod enc Try.prog W 0 sp true fuel 22 [u] = some x) : ∃ (A : Option Addr) (l : List (Int × Int)) (c : Nat), u = .slice A l.length c ∧ l.length ≤ c ∧ c ≤ 9223372036854775807 ∧ AcAt W W.heap.size A l := by
  rcases Deep.open_slice Try.underlying22 h with ⟨h0, _⟩ | ⟨a, len, cap, m, k, D, Pl, hcs, _, hl, hm, hmm, _, hx⟩
  · simp only [List.cons.injEq, and_true] at h0
    subst h0
    exact ⟨none, [], 0, rfl, Nat.le_refl _, by decide, fun h => absurd h (by simp)⟩
  · simp only [List.cons.injEq, and_true] at hcs
    subst hcs
    rw [ac_size] at hx
    have hnm : len ≤ m := by
      rw [hmm]
      by_cases hq : sp a.block = true
      · rw [if_pos hq]; exact hl
      · rw [if_neg hq]; exact Nat.le_refl _
    have hmx : maxLen ≤ 9223372036854775807 := by decide
    have each : ∀ i, i < len → (a.add (i * 2)).spot = none ∧ (a.add (i * 2)).block < W.heap.size ∧ ∃ x : Int × Int, W.cell? ⟨(a.add (i * 2)).block, (a.add (i * 2)).off, none⟩ = some (.int .i64 x.1) ∧ W.cell? ⟨(a.add (i * 2)).block, (a.add (i * 2)).off + 1, none⟩ = some (.int .i64 x.2) := by
      intro i hi
      obtain ⟨cs', h1, h2⟩ := hx i (by omega)
      exact open_ac h1 h2
    have hex : ∃ F : Nat → Int × Int, ∀ i, i < len → W.cell? ⟨(a.add (i * 2)).block, (a.add (i * 2)).off, none⟩ = some (.int .i64 (F i).1) ∧ W.cell? ⟨(a.add (i * 2)).block, (a.add (i * 2)).off + 1, none⟩ = some (.int .i64 (F i).2) :=
      ⟨fun i => if h : i < len then (each i h).2.2.choose else (0, 0), fun i hi => by simp only [dif_pos hi]; exact (each i hi).2.2.choose_spec⟩
    obtain ⟨F, hF⟩ := hex
    refine ⟨some a, (List.range len).map F, cap, by simp, by simpa using hl, Nat.le_trans hm hmx, fun hpos => ?_⟩
    have hn : 0 < len := by simpa using hpos
    obtain ⟨hs, hb, _⟩ := each 0 hn
    obtain ⟨b, off, sp0⟩ := a
    have hsp : sp0 = none := by simpa [Addr.add] using hs
    subst hsp
    have ea : ∀ i, (⟨b, off, none⟩ : Addr).add i = ⟨b, off + i, none⟩ := by intro i; unfold Addr.add; split <;> simp_all
    refine ⟨b, off, rfl, by rw [ea] at hb; exact hb, fun i x hx => ?_⟩
    have hi : i < len := by have := (List.getElem?_eq_some_iff.1 hx).1; simpa using this
    have e : x = F i := by
      rw [List.getElem?_map, List.getElem?_range hi] at hx
      simpa using hx.symm
    subst e
    have h3 := hF i hi
    rw [ea] at h3
    exact h3

theorem arg_acs {r : Reach} {b0 : Nat} {W : World} {sp : Nat → Bool} {v : Value} {d : DataW H} {ps : List MemPlace} (hval : Value.okWide Try.prog W r b0 22 v) (h : DataW.Trod enc Try.prog W 0 sp true 22 v d ps) :
    ∃ (A : Option Addr) (l : List (Int × Int)) (c : Nat), v = .slice A l.length c ∧ l.length ≤ c ∧ c ≤ 9223372036854775807 ∧ AcAt W W.heap.size A l := by
  obtain ⟨a, n, c, rfl⟩ := okWide_slice Try.underlying22 hval
  obtain ⟨fuel, hf⟩ := h
  exact open_acs (u := .slice a n c) (by simpa [Value.cells] using hf)
/-- an argument behind a call that makes new memory alone -/
theorem arg_stays {t : TypeId} (hr : Try.prog.readableRec t = true) (hrow : t < Try.prog.types.size) {W W' : World} {v : Value} {d : DataW H} {ps : List MemPlace}
    (h : DataW.Trod enc Try.prog W 0 (fun _ => true) true t v d ps) (hlt : ∀ p ∈ ps, p.block < W.heap.size) (hb : Below W.heap.size W W') :
    DataW.Trod enc Try.prog W' 0 (fun b => decide (b < W.heap.size)) true t v d ps :=
  WideElems.Trod_stays laidOutP hr hrow h (fun p hp => hb.same (hlt p hp)) (fun p hp => by simpa using hlt p hp)

/-- a row whose arguments may lie in memory, where the call makes blocks of its own alone -/
theorem post_args {f : Func} {s : ChangeSpec} {W W' : World} {args : Array Value} {v : Value} {ds gs : List (DataW H)} {before pa : List MemPlace}
    (hW : DataW.Whole enc Try.prog f.params.toList s.vars false W args.toList ds gs before)
    (hres : DataW.TrodAll enc Try.prog W' W.heap.size (fun _ => false) false f.resultTypes.toList (v.resultList f.resultTypes.size) (s.fn H (ds ++ gs)).results [])
    (hargs : DataW.TrodAll enc Try.prog W' 0 (fun b => decide (b < W.heap.size)) true f.params.toList args.toList (s.fn H (ds ++ gs)).args pa)
    (hvars : DataW.TrodVars enc Try.prog W' (fun b => decide (b < W.heap.size)) s.vars (s.fn H (ds ++ gs)).vars []) (hb : Below W.heap.size W W') :
    s.post enc Try.prog f false true false false W args v W' :=
  ⟨ds, gs, before, [], pa, [], hW, hres, hargs, hvars, hb.frame _, fun h => by cases h⟩
end

end Go.Proofs.Ytcodljegicoeeaa
