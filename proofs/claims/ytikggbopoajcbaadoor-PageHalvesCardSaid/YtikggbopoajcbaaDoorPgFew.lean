/-
  few: by its contract. A page as an argument, opened.
-/
import Derived.Test.YtikggbopoajcbaaDoorPgMem
import Derived.Deep.Slices
import Derived.OpenShut
import Derived.WideKeyArgs
import Derived.Lib.SmallJoins
namespace Go.Proofs.YtikggbopoajcbaaDoor
open Go Go.RowKit Go.ChangeShapes Go.WideShapes Go.ChangeAt

set_option maxHeartbeats 4000000 in
set_option maxRecDepth 100000 in
theorem few_any {leaf : Bool} {next : Int} {A : Option Addr} {n c B : Nat} {l : List Cl} {w : World} (hA : CAt w B A l) (hn : n = l.length) (hB : B ≤ w.heap.size) :
    Calls Tryd.prog 10 #[pageV leaf next A n c] w fun e w' => e = .returned (.bool (fewC l)) ∧ Below w.heap.size w w' := by
  obtain ⟨D, hD⟩ : ∃ D, D = fewC l := ⟨_, rfl⟩
  rw [← hD]
  have HD := hid hD
  have HN := hid hn
  have hb1 : Below w.heap.size w (w.alloc (.cells #[.bool leaf, .int .i64 next, .slice A n c] 24)) := (Below.refl _ _).alloc (Nat.le_refl _) _
  have HB1 := hid hb1
  have HA := hid (CAt.step hA hB hb1)
  clear hD hn hb1 hA
  unfold pageV
  by_cases h80 : 100 < n
  · obtain rfl : D = false := by rw [HD.out, fewC, decide_eq_false (by rw [← HN.out]; omega)]; rfl
    go_enter Tryd.func10, Tryd.ntmps10
    go_wp2_with fail
    go_ret
    exact ⟨rfl, HB1.out⟩
  · have HD2 := hid (show D = l.all (fun x => decide (x.k.length ≤ 600) && decide (x.v.length ≤ 600)) by rw [HD.out, fewC, decide_eq_true (by rw [← HN.out]; omega)]; rfl)
    go_enter Tryd.func10, Tryd.ntmps10
    go_wp2_with fail
    go_loop [3] (fun i => ∃ k : Nat, k ≤ n ∧ i = .int .i64 (k : Int) ∧ D = (l.drop k).all (fun x => decide (x.k.length ≤ 600) && decide (x.v.length ≤ 600))) (fun i => n - (intOf i).toNat)
    case atStart => exact ⟨0, Nat.zero_le _, rfl, HD2.out⟩
    case round =>
      obtain ⟨k, hk, rfl, hd⟩ := hrel
      have HDK := hid hd
      clear hd
      by_cases hlt : k < n
      · obtain ⟨b, off, x, rfl, hb, hx, c0, c1⟩ := HA.out.get (i := k) (by rw [← HN.out]; exact hlt)
        have HX := hid (HDK.out.trans (fewC_drop hx))
        have z1 := bst_size x.k
        have z2 := bst_size x.v
        clear hx
        by_cases h1 : 600 < x.k.length
        · obtain rfl : D = false := by rw [HX.out, decide_eq_false (by omega)]; rfl
          go_wp2_with fail
          go_ret
          exact ⟨rfl, HB1.out⟩
        · by_cases h2 : 600 < x.v.length
          · obtain rfl : D = false := by rw [HX.out, decide_eq_false (p := x.v.length ≤ 600) (by omega)]; simp
            go_wp2_with fail
            go_ret
            exact ⟨rfl, HB1.out⟩
          · have HX2 := hid (show D = (l.drop (k + 1)).all (fun x => decide (x.k.length ≤ 600) && decide (x.v.length ≤ 600)) by rw [HX.out, decide_eq_true (p := x.k.length ≤ 600) (by omega), decide_eq_true (p := x.v.length ≤ 600) (by omega)]; rfl)
            go_wp2_with fail
            go_round
            case rel => exact ⟨k + 1, by omega, by go_num, HX2.out⟩
            case measure => simp [intOf]; omega
      · obtain rfl : D = true := by rw [HDK.out, List.drop_of_length_le (by rw [← HN.out]; omega)]; rfl
        go_wp2_with fail
        go_ret
        exact ⟨rfl, HB1.out⟩

/-- what is known of a page that was handed in and isn't too great -/
theorem CS.few {w : World} {A : Option Addr} {n c B : Nat} {l : List Cl} (hA : CAt w B A l) (hn : n = l.length) (hc : n ≤ c) (hB : B ≤ w.heap.size) (hf : fewC l = true) : CS w B A n c l :=
  ⟨hA, hn, hc, by have := (few_of hf).len; omega, hB⟩

theorem pg_laid : laidOutB Tryd.prog = true := by kernel_rfl

section
variable {H : Type} {enc : TypeId × Value → H}
theorem cell_cells : Tryd.prog.cellsOf 44 = 2 := by kernel_rfl
set_option maxRecDepth 100000 in
theorem open_cell {W : World} {sp : Nat → Bool} {n : Nat} {a : Addr} {cs : List Value} {z : DataW H × List MemPlace}
    (h1 : W.cells? 0 a 2 = some cs) (h2 : DataW.trod enc Tryd.prog W 0 sp true n 44 cs = some z) :
    a.spot = none ∧ a.block < W.heap.size ∧ ∃ x : Cl, W.cell? ⟨a.block, a.off, none⟩ = some (.string (bst x.k)) ∧ W.cell? ⟨a.block, a.off + 1, none⟩ = some (.string (bst x.v)) := by
  obtain ⟨_, hlen, hcell⟩ := World.cells?_some h1
  obtain ⟨xs, k, hk, _, _, hxl, hf⟩ := DataW.trod_struct Tryd.underlying44 h2
  match cs, hlen with
  | [v0, v1], _ =>
    have g0 : DataW.trod enc Tryd.prog W 0 sp true k 9 (List.take (Tryd.prog.cellsOf 9) (List.drop 0 [v0, v1])) = xs[0]? := hf 0 _ rfl
    have g1 : DataW.trod enc Tryd.prog W 0 sp true k 9 (List.take (Tryd.prog.cellsOf 9) (List.drop 1 [v0, v1])) = xs[1]? := hf 1 _ rfl
    have z3 : Tryd.prog.cellsOf 9 = 1 := by kernel_rfl
    rw [z3] at g0 g1
    match xs, hxl with
    | [y0, y1], _ =>
      obtain ⟨s0, e0, _, w0⟩ := DataW.trod_string Tryd.underlying9 g0
      obtain ⟨s1, e1, _, w1⟩ := DataW.trod_string Tryd.underlying9 g1
      obtain rfl : v0 = _ := by simpa using e0
      obtain rfl : v1 = _ := by simpa using e1
      have h0 := hcell 0 (by omega)
      have hs : (a.add 0).spot = none := World.cell?_spot h0
      have hb := World.block_lt_of_cell? W (a.add 0) h0
      have ea : ∀ i, a.add i = ⟨a.block, a.off + i, none⟩ := by
        obtain ⟨b, o, sp⟩ := a
        have : sp = none := by simpa [Addr.add] using hs
        subst this
        intro i
        unfold Addr.add
        split <;> simp_all
      refine ⟨by have := ea 0; simpa [Addr.add] using hs, by simpa [Addr.add] using hb, ⟨s0.data.toList, s1.data.toList⟩, ?_⟩
      have c0 := hcell 0 (by omega)
      have c1 := hcell 1 (by omega)
      rw [ea] at c0 c1
      refine ⟨?_, ?_⟩
      · rw [← bst_of]; simpa using c0
      · rw [← bst_of]; simpa using c1
set_option maxRecDepth 100000 in
theorem open_cells {W : World} {sp : Nat → Bool} {fuel : Nat} {u : Value} {x : DataW H × List MemPlace}
    (h : DataW.trod enc Tryd.prog W 0 sp true fuel 22 [u] = some x) : ∃ (A : Option Addr) (l : List Cl) (c : Nat), u = .slice A l.length c ∧ l.length ≤ c ∧ CAt W W.heap.size A l := by
  rcases Deep.open_slice Tryd.underlying22 h with ⟨h0, _⟩ | ⟨a, len, cap, m, k, D, Pl, hcs, _, hl, hm, hmm, _, hx⟩
  · simp only [List.cons.injEq, and_true] at h0
    subst h0
    exact ⟨none, [], 0, rfl, Nat.le_refl _, GAt.nil⟩
  · simp only [List.cons.injEq, and_true] at hcs
    subst hcs
    rw [cell_cells] at hx
    have hnm : len ≤ m := by
      rw [hmm]
      by_cases hq : sp a.block = true
      · rw [if_pos hq]; exact hl
      · rw [if_neg hq]; exact Nat.le_refl _
    have each : ∀ i, i < len → (a.add (i * 2)).spot = none ∧ (a.add (i * 2)).block < W.heap.size ∧ ∃ x : Cl, W.cell? ⟨(a.add (i * 2)).block, (a.add (i * 2)).off, none⟩ = some (.string (bst x.k)) ∧ W.cell? ⟨(a.add (i * 2)).block, (a.add (i * 2)).off + 1, none⟩ = some (.string (bst x.v)) := by
      intro i hi
      obtain ⟨cs', h1, h2⟩ := hx i (by omega)
      exact open_cell h1 h2
    have hex : ∃ F : Nat → Cl, ∀ i, i < len → W.cell? ⟨(a.add (i * 2)).block, (a.add (i * 2)).off, none⟩ = some (.string (bst (F i).k)) ∧ W.cell? ⟨(a.add (i * 2)).block, (a.add (i * 2)).off + 1, none⟩ = some (.string (bst (F i).v)) :=
      ⟨fun i => if h : i < len then (each i h).2.2.choose else ⟨[], []⟩, fun i hi => by simp only [dif_pos hi]; exact (each i hi).2.2.choose_spec⟩
    obtain ⟨F, hF⟩ := hex
    refine ⟨some a, (List.range len).map F, cap, by simp, by simpa using hl, fun hpos => ?_⟩
    have hn : 0 < len := by simpa using hpos
    obtain ⟨hs, hb, _⟩ := each 0 hn
    obtain ⟨b, off, sp0⟩ := a
    have hsp : sp0 = none := by simpa [Addr.add] using hs
    subst hsp
    have ea : ∀ i, (⟨b, off, none⟩ : Addr).add i = ⟨b, off + i, none⟩ := by intro i; unfold Addr.add; split <;> simp_all
    refine ⟨b, off, rfl, by rw [ea] at hb; exact hb, fun i x j u hx hu => ?_⟩
    have hi : i < len := by have := (List.getElem?_eq_some_iff.1 hx).1; simpa using this
    have e : x = F i := by
      rw [List.getElem?_map, List.getElem?_range hi] at hx
      simpa using hx.symm
    subst e
    have h3 := hF i hi
    rw [ea] at h3
    have hj : j = 0 ∨ j = 1 := by
      have := (List.getElem?_eq_some_iff.1 hu).1
      simp [eCl] at this
      omega
    rcases hj with rfl | rfl
    · obtain rfl : u = .string (bst (F i).k) := by simpa [eCl] using hu.symm
      exact h3.1
    · obtain rfl : u = .string (bst (F i).v) := by simpa [eCl] using hu.symm
      exact h3.2

set_option maxRecDepth 100000 in
/-- a page, by value -/
theorem open_page {r : Reach} {b0 : Nat} {W : World} {sp : Nat → Bool} {v : Value} {d : DataW H} {ps : List MemPlace} (hval : Value.okWide Tryd.prog W r b0 24 v) (h : DataW.Trod enc Tryd.prog W 0 sp true 24 v d ps) :
    ∃ (leaf : Bool) (next : Int) (l : List Cl) (A : Option Addr) (c : Nat), v = pageV leaf next A l.length c ∧ (-9223372036854775808 ≤ next ∧ next ≤ 9223372036854775807) ∧ l.length ≤ c ∧ CAt W W.heap.size A l := by
  obtain ⟨v0, v1, v2, y0, y1, y2, n, rfl, _, _, t0, t1, t2⟩ := Joins.open_agg3 Tryd.underlying24 (by kernel_rfl) (by kernel_rfl) hval h
  obtain ⟨k0, e0, _⟩ := DataW.trod_bool Tryd.underlying4 t0
  obtain ⟨k1, e1, _, w1⟩ := DataW.trod_int Tryd.underlying3 t1
  obtain rfl : v0 = _ := by simpa using e0
  obtain rfl : v1 = _ := by simpa using e1
  obtain ⟨A, l, c, rfl, hc, hA⟩ := open_cells t2
  exact ⟨k0, k1, l, A, c, rfl, wf_i64 w1, hc, hA⟩
set_option maxRecDepth 100000 in
/-- a cell, by value -/
theorem open_cl {r : Reach} {b0 : Nat} {W : World} {sp : Nat → Bool} {v : Value} {d : DataW H} {ps : List MemPlace} (hval : Value.okWide Tryd.prog W r b0 44 v) (h : DataW.Trod enc Tryd.prog W 0 sp true 44 v d ps) :
    ∃ x : Cl, v = x.val := by
  obtain ⟨v0, v1, y0, y1, n, rfl, _, _, t0, t1⟩ := Joins.open_agg2 Tryd.underlying44 (by kernel_rfl) (by kernel_rfl) hval h
  obtain ⟨s0, e0, _, _⟩ := DataW.trod_string Tryd.underlying9 t0
  obtain ⟨s1, e1, _, _⟩ := DataW.trod_string Tryd.underlying9 t1
  obtain rfl : v0 = _ := by simpa using e0
  obtain rfl : v1 = _ := by simpa using e1
  exact ⟨⟨s0.data.toList, s1.data.toList⟩, by unfold Cl.val; rw [← bst_of, ← bst_of]⟩
/-- an argument behind a call that makes new memory alone -/
theorem pg_stays {t : TypeId} (hr : Tryd.prog.readableRec t = true) (hrow : t < Tryd.prog.types.size) {W W' : World} {v : Value} {d : DataW H} {ps : List MemPlace}
    (h : DataW.Trod enc Tryd.prog W 0 (fun _ => true) true t v d ps) (hlt : ∀ p ∈ ps, p.block < W.heap.size) (hb : Below W.heap.size W W') :
    DataW.Trod enc Tryd.prog W' 0 (fun b => decide (b < W.heap.size)) true t v d ps :=
  WideElems.Trod_stays pg_laid hr hrow h (fun p hp => hb.same (hlt p hp)) (fun p hp => by simpa using hlt p hp)
/-- a row whose arguments may lie in memory, where the call makes blocks of its own alone -/
theorem post_pages {f : Func} {s : ChangeSpec} {W W' : World} {args : Array Value} {v : Value} {ds gs : List (DataW H)} {before pa : List MemPlace}
    (hW : DataW.Whole enc Tryd.prog f.params.toList s.vars false W args.toList ds gs before)
    (hres : DataW.TrodAll enc Tryd.prog W' W.heap.size (fun _ => false) false f.resultTypes.toList (v.resultList f.resultTypes.size) (s.fn H (ds ++ gs)).results [])
    (hargs : DataW.TrodAll enc Tryd.prog W' 0 (fun b => decide (b < W.heap.size)) true f.params.toList args.toList (s.fn H (ds ++ gs)).args pa)
    (hvars : DataW.TrodVars enc Tryd.prog W' (fun b => decide (b < W.heap.size)) s.vars (s.fn H (ds ++ gs)).vars []) (hb : Below W.heap.size W W') :
    s.post enc Tryd.prog f false true false false W args v W' :=
  ⟨ds, gs, before, [], pa, [], hW, hres, hargs, hvars, hb.frame _, fun h => by cases h⟩
end

end Go.Proofs.YtikggbopoajcbaaDoor
