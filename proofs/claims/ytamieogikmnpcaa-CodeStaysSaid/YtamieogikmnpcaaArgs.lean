/-
  A slice of fields that is handed in, opened; and what an argument reads as behind a call that makes new memory alone.
-/
import Derived.Test.YtamieogikmnpcaaFields
import Derived.Deep.Slices
import Derived.OpenShut
import Derived.WideKeyArgs
namespace Go.Proofs.Ytamieogikmnpcaa
open Go Go.RowKit Go.ChangeShapes Go.WideShapes Go.ChangeAt

theorem own : ownKnob Try.prog.godebug = none := by kernel_rfl
theorem laidOutP : laidOutB Try.prog = true := by kernel_rfl

section
variable {H : Type} {enc : TypeId × Value → H}

theorem fields_size : Try.prog.cellsOf 28 = 5 := by kernel_rfl

theorem open_field {W : World} {sp : Nat → Bool} {n : Nat} {a : Addr} {cs : List Value} {z : DataW H × List MemPlace}
    (h1 : W.cells? 0 a 5 = some cs) (h2 : DataW.trod enc Try.prog W 0 sp true n 28 cs = some z) :
    a.spot = none ∧ a.block < W.heap.size ∧ ∃ f : Fd, f.Ok ∧ FCells W a.block a.off f := by
  obtain ⟨_, hlen, hcell⟩ := World.cells?_some h1
  obtain ⟨xs, k, hk, _, _, hxl, hf⟩ := DataW.trod_struct Try.underlying28 h2
  match cs, hlen with
  | [v0, v1, v2, v3, v4], _ =>
    have g0 : DataW.trod enc Try.prog W 0 sp true k 3 (List.take (Try.prog.cellsOf 3) (List.drop 0 [v0, v1, v2, v3, v4])) = xs[0]? := hf 0 _ rfl
    have g1 : DataW.trod enc Try.prog W 0 sp true k 26 (List.take (Try.prog.cellsOf 26) (List.drop 1 [v0, v1, v2, v3, v4])) = xs[1]? := hf 1 _ rfl
    have g2 : DataW.trod enc Try.prog W 0 sp true k 9 (List.take (Try.prog.cellsOf 9) (List.drop 2 [v0, v1, v2, v3, v4])) = xs[2]? := hf 2 _ rfl
    have g3 : DataW.trod enc Try.prog W 0 sp true k 4 (List.take (Try.prog.cellsOf 4) (List.drop 3 [v0, v1, v2, v3, v4])) = xs[3]? := hf 3 _ rfl
    have g4 : DataW.trod enc Try.prog W 0 sp true k 3 (List.take (Try.prog.cellsOf 3) (List.drop 4 [v0, v1, v2, v3, v4])) = xs[4]? := hf 4 _ rfl
    have z1 : Try.prog.cellsOf 3 = 1 := by kernel_rfl
    have z2 : Try.prog.cellsOf 26 = 1 := by kernel_rfl
    have z3 : Try.prog.cellsOf 9 = 1 := by kernel_rfl
    have z4 : Try.prog.cellsOf 4 = 1 := by kernel_rfl
    rw [z1] at g0 g4
    rw [z2] at g1
    rw [z3] at g2
    rw [z4] at g3
    match xs, hxl with
    | [y0, y1, y2, y3, y4], _ =>
      obtain ⟨k0, e0, _, w0⟩ := DataW.trod_int Try.underlying3 g0
      obtain ⟨k1, e1, _, w1⟩ := DataW.trod_int Try.underlying26 g1
      obtain ⟨s2, e2, _, w2⟩ := DataW.trod_string Try.underlying9 g2
      obtain ⟨b3, e3, _⟩ := DataW.trod_bool Try.underlying4 g3
      obtain ⟨k4, e4, _, w4⟩ := DataW.trod_int Try.underlying3 g4
      obtain rfl : v0 = _ := by simpa using e0
      obtain rfl : v1 = _ := by simpa using e1
      obtain rfl : v2 = _ := by simpa using e2
      obtain rfl : v3 = _ := by simpa using e3
      obtain rfl : v4 = _ := by simpa using e4
      have h0 := hcell 0 (by omega)
      have hs : (a.add 0).spot = none := World.cell?_spot h0
      have hb := World.block_lt_of_cell? W (a.add 0) h0
      have ea : ∀ i, a.add i = ⟨a.block, a.off + i, none⟩ := by
        obtain ⟨b, o, sp⟩ := a
        have : sp = none := by simpa [Addr.add] using hs
        subst this
        intro i
        unfold Addr.add
        split <;> simp_all
      have u1 := wf_u64 w1
      obtain ⟨V, hV⟩ : ∃ V : Nat, k1 = V := ⟨k1.toNat, by omega⟩
      subst hV
      refine ⟨by have := ea 0; simpa [Addr.add] using hs, by simpa [Addr.add] using hb, ⟨k0, V, s2.data.toList, b3, k4⟩, ⟨by show V < _; omega, wf_i64 w0, wf_i64 w4, ?_⟩, ?_⟩
      · show s2.data.toList.length ≤ _
        have : s2.size ≤ 9223372036854775807 := Nat.le_trans w2 (by decide)
        have e : s2.data.toList.length = s2.size := Array.length_toList
        rw [e]
        exact this
      · have c0 := hcell 0 (by omega)
        have c1 := hcell 1 (by omega)
        have c2 := hcell 2 (by omega)
        have c3 := hcell 3 (by omega)
        have c4 := hcell 4 (by omega)
        rw [ea] at c0 c1 c2 c3 c4
        refine ⟨by simpa using c0, by simpa using c1, ?_, by simpa using c3, by simpa using c4⟩
        rw [← bst_of]
        simpa using c2

theorem open_fields {W : World} {sp : Nat → Bool} {n c : Nat} {A : Option Addr} {d : DataW H} {ps : List MemPlace}
    (h : DataW.Trod enc Try.prog W 0 sp true 22 (.slice A n c) d ps) : ∃ fs : List Fd, n = fs.length ∧ n ≤ c ∧ fs.length ≤ 9223372036854775807 ∧ FAt W W.heap.size A fs := by
  obtain ⟨fuel, hf⟩ := h
  have hf' : DataW.trod enc Try.prog W 0 sp true fuel 22 [.slice A n c] = some (d, ps) := hf
  rcases Deep.open_slice Try.underlying22 hf' with ⟨h0, _⟩ | ⟨a, len, cap, m, k, D, Pl, hcs, _, hl, hm, hmm, _, hx⟩
  · simp only [List.cons.injEq, and_true] at h0
    injection h0 with hA hn hc
    subst hA hn hc
    exact ⟨[], rfl, Nat.le_refl _, by simp, ⟨fun h => absurd h (by simp)⟩⟩
  · simp only [List.cons.injEq, and_true] at hcs
    injection hcs with hA hn hc
    subst hA hn hc
    rw [fields_size] at hx
    have hnm : n ≤ m := by
      rw [hmm]
      by_cases hq : sp a.block = true
      · rw [if_pos hq]; exact hl
      · rw [if_neg hq]; exact Nat.le_refl _
    have hmx : maxLen ≤ 9223372036854775807 := by decide
    have each : ∀ i, i < n → (a.add (i * 5)).spot = none ∧ (a.add (i * 5)).block < W.heap.size ∧ ∃ f : Fd, f.Ok ∧ FCells W (a.add (i * 5)).block (a.add (i * 5)).off f := by
      intro i hi
      obtain ⟨cs', h1, h2⟩ := hx i (by omega)
      exact open_field h1 h2
    have hex : ∃ F : Nat → Fd, ∀ i, i < n → (F i).Ok ∧ FCells W (a.add (i * 5)).block (a.add (i * 5)).off (F i) :=
      ⟨fun i => if h : i < n then (each i h).2.2.choose else ⟨0, 0, [], false, 0⟩, fun i hi => by simp only [dif_pos hi]; exact (each i hi).2.2.choose_spec⟩
    obtain ⟨F, hF⟩ := hex
    refine ⟨(List.range n).map F, by simp, hl, by simp; exact Nat.le_trans hl (Nat.le_trans hm hmx), ⟨fun hpos => ?_⟩⟩
    have hn : 0 < n := by simpa using hpos
    obtain ⟨hs, hb, _⟩ := each 0 hn
    obtain ⟨b, off, sp0⟩ := a
    have hsp : sp0 = none := by simpa [Addr.add] using hs
    subst hsp
    have ea : ∀ i, (⟨b, off, none⟩ : Addr).add i = ⟨b, off + i, none⟩ := by intro i; unfold Addr.add; split <;> simp_all
    refine ⟨b, off, rfl, by rw [ea] at hb; exact hb, fun i f hf => ?_⟩
    have hi : i < n := by have := (List.getElem?_eq_some_iff.1 hf).1; simpa using this
    have e : f = F i := by
      rw [List.getElem?_map, List.getElem?_range hi] at hf
      simpa using hf.symm
    subst e
    have h3 := hF i hi
    rw [ea] at h3
    exact h3

/-- an argument behind a call that makes new memory alone -/
theorem arg_stays {t : TypeId} (hr : Try.prog.readableRec t = true) (hrow : t < Try.prog.types.size) {W W' : World} {v : Value} {d : DataW H} {ps : List MemPlace}
    (h : DataW.Trod enc Try.prog W 0 (fun _ => true) true t v d ps) (hlt : ∀ p ∈ ps, p.block < W.heap.size) (hb : Below W.heap.size W W') :
    DataW.Trod enc Try.prog W' 0 (fun b => decide (b < W.heap.size)) true t v d ps :=
  WideElems.Trod_stays laidOutP hr hrow h (fun p hp => hb.same (hlt p hp)) (fun p hp => by simpa using hlt p hp)

/-- a row whose arguments may lie in memory, where the call makes blocks of its own alone -/
theorem post_args {f : Func} {s : ChangeSpec} {W W' : World} {args : Array Value} {v : Value} {ds gs : List (DataW H)} {before pa : List MemPlace}
    (hW : DataW.Whole enc Try.prog f.params.toList s.vars false W args.toList ds gs before)
    (hres : DataW.TrodAll enc Try.prog W' W.heap.size (fun _ => false) false f.resultTypes.toList (v.resultList f.resultTypes.size) (s.fn H (ds ++ gs)).results [])
    (hargs : DataW.TrodAll enc Try.prog W' 0 (fun b => decide (b < W.heap.size)) true f.params.toList args.toList (s.fn H (ds ++ gs)).args pa)
    (hvars : DataW.TrodVars enc Try.prog W' (fun b => decide (b < W.heap.size)) s.vars (s.fn H (ds ++ gs)).vars []) (hb : Below W.heap.size W W') :
    s.post enc Try.prog f false true false false W args v W' :=
  ⟨ds, gs, before, [], pa, [], hW, hres, hargs, hvars, hb.frame _, fun h => by cases h⟩
end

end Go.Proofs.Ytamieogikmnpcaa
