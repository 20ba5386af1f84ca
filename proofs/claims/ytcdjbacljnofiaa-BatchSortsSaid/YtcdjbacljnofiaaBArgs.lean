/-
  A batch that is handed in, opened; and what an argument reads as behind a call that makes new memory alone.
-/
import Derived.Test.YtcdjbacljnofiaaWAt
import Derived.Deep.Slices
import Derived.OpenShut
import Derived.WideKeyArgs
import Derived.Lib.SmallJoins
namespace Go.Proofs.Ytcdjbacljnofiaa
open Go Go.RowKit Go.ChangeShapes Go.WideShapes Go.ChangeAt

theorem own : ownKnob Try.prog.godebug = none := by kernel_rfl
theorem laidOutP : laidOutB Try.prog = true := by kernel_rfl

section
variable {H : Type} {enc : TypeId × Value → H}

theorem write_size : Try.prog.cellsOf 43 = 3 := by kernel_rfl

set_option maxRecDepth 100000 in
theorem open_write {W : World} {sp : Nat → Bool} {n : Nat} {a : Addr} {cs : List Value} {z : DataW H × List MemPlace}
    (h1 : W.cells? 0 a 3 = some cs) (h2 : DataW.trod enc Try.prog W 0 sp true n 43 cs = some z) :
    a.spot = none ∧ a.block < W.heap.size ∧ ∃ x : Wt, (x.k.length ≤ 9223372036854775807 ∧ x.v.length ≤ 9223372036854775807) ∧ WCells W a.block a.off x := by
  obtain ⟨_, hlen, hcell⟩ := World.cells?_some h1
  obtain ⟨xs, k, hk, _, _, hxl, hf⟩ := DataW.trod_struct Try.underlying43 h2
  match cs, hlen with
  | [v0, v1, v2], _ =>
    have g0 : DataW.trod enc Try.prog W 0 sp true k 9 (List.take (Try.prog.cellsOf 9) (List.drop 0 [v0, v1, v2])) = xs[0]? := hf 0 _ rfl
    have g1 : DataW.trod enc Try.prog W 0 sp true k 9 (List.take (Try.prog.cellsOf 9) (List.drop 1 [v0, v1, v2])) = xs[1]? := hf 1 _ rfl
    have g2 : DataW.trod enc Try.prog W 0 sp true k 4 (List.take (Try.prog.cellsOf 4) (List.drop 2 [v0, v1, v2])) = xs[2]? := hf 2 _ rfl
    have z3 : Try.prog.cellsOf 9 = 1 := by kernel_rfl
    have z4 : Try.prog.cellsOf 4 = 1 := by kernel_rfl
    rw [z3] at g0 g1
    rw [z4] at g2
    match xs, hxl with
    | [y0, y1, y2], _ =>
      obtain ⟨s0, e0, _, w0⟩ := DataW.trod_string Try.underlying9 g0
      obtain ⟨s1, e1, _, w1⟩ := DataW.trod_string Try.underlying9 g1
      obtain ⟨b2, e2, _⟩ := DataW.trod_bool Try.underlying4 g2
      obtain rfl : v0 = _ := by simpa using e0
      obtain rfl : v1 = _ := by simpa using e1
      obtain rfl : v2 = _ := by simpa using e2
      have h0 := hcell 0 (by omega)
      have hs : (a.add 0).spot = none := World.cell?_spot h0
      have hb := World.block_lt_of_cell? W (a.add 0) h0
      have ea : ∀ i, a.add i = ⟨a.block, a.off + i, none⟩ := by
        obtain ⟨b, o, sp⟩ := a
        have : sp = none := by simpa [Addr.add] using hs
        subst this
        intro i
        unfold Addr.add
        split <;> simp_all
      have hle : ∀ s : ByteArray, s.size ≤ maxLen → s.data.toList.length ≤ 9223372036854775807 := fun s h => by
        have e : s.data.toList.length = s.size := Array.length_toList
        rw [e]
        exact Nat.le_trans h (by decide)
      refine ⟨by have := ea 0; simpa [Addr.add] using hs, by simpa [Addr.add] using hb, ⟨s0.data.toList, s1.data.toList, b2⟩, ⟨hle _ w0, hle _ w1⟩, ?_⟩
      have c0 := hcell 0 (by omega)
      have c1 := hcell 1 (by omega)
      have c2 := hcell 2 (by omega)
      rw [ea] at c0 c1 c2
      refine ⟨?_, ?_, by simpa using c2⟩
      · rw [← bst_of]; simpa using c0
      · rw [← bst_of]; simpa using c1

theorem open_writes {W : World} {sp : Nat → Bool} {fuel : Nat} {u : Value} {x : DataW H × List MemPlace}
    (h : DataW.trod enc Try.prog W 0 sp true fuel 23 [u] = some x) : ∃ (A : Option Addr) (ws : List Wt) (c : Nat), u = .slice A ws.length c ∧ ws.length ≤ c ∧ ws.length ≤ 9223372036854775807 ∧ WAt W W.heap.size A ws ∧ ∀ x ∈ ws, x.k.length ≤ 9223372036854775807 ∧ x.v.length ≤ 9223372036854775807 := by
  rcases Deep.open_slice Try.underlying23 h with ⟨h0, _⟩ | ⟨a, len, cap, m, k, D, Pl, hcs, _, hl, hm, hmm, _, hx⟩
  · simp only [List.cons.injEq, and_true] at h0
    subst h0
    exact ⟨none, [], 0, rfl, Nat.le_refl _, by simp, WAt.nil _ _ _, fun x h => by simp at h⟩
  · simp only [List.cons.injEq, and_true] at hcs
    subst hcs
    rw [write_size] at hx
    have hnm : len ≤ m := by
      rw [hmm]
      by_cases hq : sp a.block = true
      · rw [if_pos hq]; exact hl
      · rw [if_neg hq]; exact Nat.le_refl _
    have hmx : maxLen ≤ 9223372036854775807 := by decide
    have each : ∀ i, i < len → (a.add (i * 3)).spot = none ∧ (a.add (i * 3)).block < W.heap.size ∧ ∃ x : Wt, (x.k.length ≤ 9223372036854775807 ∧ x.v.length ≤ 9223372036854775807) ∧ WCells W (a.add (i * 3)).block (a.add (i * 3)).off x := by
      intro i hi
      obtain ⟨cs', h1, h2⟩ := hx i (by omega)
      exact open_write h1 h2
    have hex : ∃ F : Nat → Wt, ∀ i, i < len → ((F i).k.length ≤ 9223372036854775807 ∧ (F i).v.length ≤ 9223372036854775807) ∧ WCells W (a.add (i * 3)).block (a.add (i * 3)).off (F i) :=
      ⟨fun i => if h : i < len then (each i h).2.2.choose else ⟨[], [], false⟩, fun i hi => by simp only [dif_pos hi]; exact (each i hi).2.2.choose_spec⟩
    obtain ⟨F, hF⟩ := hex
    refine ⟨some a, (List.range len).map F, cap, by simp, by simpa using hl, by simp; exact Nat.le_trans hl (Nat.le_trans hm hmx), ⟨fun hpos => ?_⟩, fun x hx => ?_⟩
    · have hn : 0 < len := by simpa using hpos
      obtain ⟨hs, hb, _⟩ := each 0 hn
      obtain ⟨b, off, sp0⟩ := a
      have hsp : sp0 = none := by simpa [Addr.add] using hs
      subst hsp
      have ea : ∀ i, (⟨b, off, none⟩ : Addr).add i = ⟨b, off + i, none⟩ := by intro i; unfold Addr.add; split <;> simp_all
      refine ⟨b, off, rfl, by rw [ea] at hb; exact hb, fun i x hx => ?_⟩
      have hi : i < len := by have := (List.getElem?_eq_some_iff.1 hx).1; simpa using this
      have e : x = F i := by
        rw [List.getElem?_map, List.getElem?_range hi] at hx
        simpa using hx.symm
      subst e
      have h3 := (hF i hi).2
      rw [ea] at h3
      exact h3
    · simp only [List.mem_map, List.mem_range] at hx
      obtain ⟨i, hi, rfl⟩ := hx
      exact (hF i hi).1

set_option maxRecDepth 100000 in
/-- a batch, by value -/
theorem open_batch {r : Reach} {b0 : Nat} {W : World} {sp : Nat → Bool} {v : Value} {d : DataW H} {ps : List MemPlace} (hval : Value.okWide Try.prog W r b0 25 v) (h : DataW.Trod enc Try.prog W 0 sp true 25 v d ps) :
    ∃ (b : Bt) (A : Option Addr) (cap : Nat), v = b.val A cap ∧ (b.c < 18446744073709551616 ∧ b.r < 18446744073709551616 ∧ b.s < 18446744073709551616) ∧ WAt W W.heap.size A b.ws ∧ b.ws.length ≤ cap ∧ b.ws.length ≤ 9223372036854775807 ∧ ∀ x ∈ b.ws, x.k.length ≤ 9223372036854775807 ∧ x.v.length ≤ 9223372036854775807 := by
  obtain ⟨v0, v1, v2, v3, y0, y1, y2, y3, n, rfl, _, _, t0, t1, t2, t3⟩ := Joins.open_agg4 Try.underlying25 (by kernel_rfl) (by kernel_rfl) hval h
  obtain ⟨k0, e0, _, w0⟩ := DataW.trod_int Try.underlying22 t0
  obtain ⟨k1, e1, _, w1⟩ := DataW.trod_int Try.underlying22 t1
  obtain ⟨k2, e2, _, w2⟩ := DataW.trod_int Try.underlying22 t2
  obtain rfl : v0 = _ := by simpa using e0
  obtain rfl : v1 = _ := by simpa using e1
  obtain rfl : v2 = _ := by simpa using e2
  obtain ⟨A, ws, c, rfl, hc, hl, hA, hx⟩ := open_writes t3
  have u0 := wf_u64 w0
  have u1 := wf_u64 w1
  have u2 := wf_u64 w2
  obtain ⟨V0, rfl⟩ : ∃ V : Nat, k0 = V := ⟨k0.toNat, by omega⟩
  obtain ⟨V1, rfl⟩ : ∃ V : Nat, k1 = V := ⟨k1.toNat, by omega⟩
  obtain ⟨V2, rfl⟩ : ∃ V : Nat, k2 = V := ⟨k2.toNat, by omega⟩
  exact ⟨⟨V0, V1, V2, ws⟩, A, c, rfl, ⟨by show V0 < _; omega, by show V1 < _; omega, by show V2 < _; omega⟩, hA, hc, hl, hx⟩

/-- an argument behind a call that makes new memory alone -/
theorem arg_stays {t : TypeId} (hr : Try.prog.readableRec t = true) (hrow : t < Try.prog.types.size) {W W' : World} {v : Value} {d : DataW H} {ps : List MemPlace}
    (h : DataW.Trod enc Try.prog W 0 (fun _ => true) true t v d ps) (hlt : ∀ p ∈ ps, p.block < W.heap.size) (hb : Below W.heap.size W W') :
    DataW.Trod enc Try.prog W' 0 (fun b => decide (b < W.heap.size)) true t v d ps :=
  WideElems.Trod_stays laidOutP hr hrow h (fun p hp => hb.same (hlt p hp)) (fun p hp => by simpa using hlt p hp)

/-- a row whose arguments may lie in memory, where the call makes blocks of its own alone -/
theorem post_args {f : Func} {s : ChangeSpec} {W W' : World} {args : Array Value} {v : Value} {ds gs : List (DataW H)} {before pa : List MemPlace}
    (hW : DataW.Whole enc Try.prog f.params.toList s.vars false W args.toList ds gs before)
    (hres : DataW.TrodAll enc Try.prog W' W.heap.size (fun _ => false) false f.resultTypes.toList (v.resultList f.resultTypes.size) (s.fn H (ds ++ gs)).results [])
    (hargs : DataW.TrodAll enc Try.prog W' 0 (fun b => decide (b < W.heap.size)) true f.params.toList args.toList (s.fn H (ds ++ gs)).args pa)
    (hvars : DataW.TrodVars enc Try.prog W' (fun b => decide (b < W.heap.size)) s.vars (s.fn H (ds ++ gs)).vars []) (hb : Below W.heap.size W W') :
    s.post enc Try.prog f false true false false W args v W' :=
  ⟨ds, gs, before, [], pa, [], hW, hres, hargs, hvars, hb.frame _, fun h => by cases h⟩
end

end Go.Proofs.Ytcdjbacljnofiaa
