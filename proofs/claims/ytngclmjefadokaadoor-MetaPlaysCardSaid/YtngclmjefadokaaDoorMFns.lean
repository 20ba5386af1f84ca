/-
  The landed meta page: the steps of a write, one by one.
-/
import Derived.Test.YtngclmjefadokaaDoorMOpen
namespace Go.Proofs.YtngclmjefadokaaDoor
open Go Go.RowKit

def fn1 (g : Nat) : Value := .func (.func 46) #[] #[.pointer (some ⟨g, 0, none⟩), .pointer (some ⟨g + 1, 0, none⟩)]
def fn2 (g : Nat) : Value := .func (.func 48) #[] #[.pointer (some ⟨g, 0, none⟩)]
def fn3 (g : Nat) : Value := .func (.func 50) #[] #[.pointer (some ⟨g + 2, 0, none⟩), .pointer (some ⟨g, 0, none⟩), .pointer (some ⟨g + 1, 0, none⟩)]
/-- what the steps hold -/
structure Caps (w : World) (g d : Nat) (i : Int) (q : Nat) (b : List UInt8) : Prop where
  p0 : Blk w g 23 #[.pointer (some ⟨d, 0, none⟩)]
  p1 : Blk w (g + 1) 3 #[.int .i64 i]
  p2 : Blk w (g + 2) 71 #[.int .u64 (q : Int), .string (bst b)]
theorem Caps.keep {w w' : World} {g d : Nat} {i : Int} {q : Nat} {b : List UInt8} (h : Caps w g d i q b) (hk : ∀ k, g ≤ k → k < g + 3 → w'.heap[k]? = w.heap[k]?) : Caps w' g d i q b :=
  ⟨(hk g (by omega) (by omega)).trans h.p0, (hk _ (by omega) (by omega)).trans h.p1, (hk _ (by omega) (by omega)).trans h.p2⟩
theorem Caps.lt {w : World} {g d : Nat} {i : Int} {q : Nat} {b : List UInt8} (h : Caps w g d i q b) : g + 3 ≤ w.heap.size := h.p2.lt

set_option maxHeartbeats 4000000 in
set_option maxRecDepth 100000 in
theorem fn1_is {w : World} {g d q : Nat} {i : Int} {b : List UInt8} {M R : Nat → Prop} {s : Dk} (h : DA6 w d M R s) (hc : Caps w g d i q b) (hp : s.pend.length ≤ 1000000) :
    Calls Tryd.prog 46 #[.pointer (some ⟨g, 0, none⟩), .pointer (some ⟨g + 1, 0, none⟩)] w fun e w' => e = .returned (.int .i64 0) ∧ ∃ M' R', DA6 w' d M' R' (s.free i) ∧ Turns M R w M' R' w' := by
  have HF := hid (face.free (i := i) h hp)
  have x0 := hc.p0.cell 0
  have x1 := hc.p1.cell 0
  clear h hc hp
  go_enter Tryd.func46, Tryd.ntmps46
  go_wp2_with fail
  go_fit HF.out
  rintro e w2 ⟨rfl, hd⟩
  have HD := hid hd
  clear hd
  go_wp2_with fail
  go_ret
  exact ⟨rfl, HD.out⟩
set_option maxHeartbeats 4000000 in
set_option maxRecDepth 100000 in
theorem fn2_is {w : World} {g d q : Nat} {i : Int} {b : List UInt8} {M R : Nat → Prop} {s : Dk} (h : DA6 w d M R s) (hc : Caps w g d i q b) :
    Calls Tryd.prog 48 #[.pointer (some ⟨g, 0, none⟩)] w fun e w' => e = .returned (.int .i64 0) ∧ ∃ M' R', DA6 w' d M' R' s.sync ∧ Turns M R w M' R' w' := by
  have HF := hid (face.sync h)
  have x0 := hc.p0.cell 0
  clear h hc
  go_enter Tryd.func48, Tryd.ntmps48
  go_wp2_with fail
  go_fit HF.out
  rintro e w2 ⟨rfl, hd⟩
  have HD := hid hd
  clear hd
  go_wp2_with fail
  go_ret
  exact ⟨rfl, HD.out⟩
set_option maxHeartbeats 4000000 in
set_option maxRecDepth 100000 in
theorem fn3_is {w : World} {g d q : Nat} {i : Int} {b : List UInt8} {M R : Nat → Prop} {s : Dk} (h : DA6 w d M R s) (hc : Caps w g d i q b) (hT : Table w) (hq : q < 18446744073709551616) (hb : b.length ≤ 480) (hp : s.pend.length ≤ 1000000) :
    Calls Tryd.prog 50 #[.pointer (some ⟨g + 2, 0, none⟩), .pointer (some ⟨g, 0, none⟩), .pointer (some ⟨g + 1, 0, none⟩)] w fun e w' => e = .returned (.int .i64 (s.why i (renc q b) : Int)) ∧ ∃ M' R', DA6 w' d M' R' (s.write i (renc q b)) ∧ Turns M R w M' R' w' := by
  have HP := hid (rput_yes (w := w) hq (show b.length ≤ 32768 by omega) hT)
  have HD := hid h
  have HC := hid hc
  have HPE := hid hp
  have HBL := hid (renc_le q b)
  have x0 := hc.p2.cell 0
  have x1 := hc.p2.cell 1
  have HB := hid hb
  clear h hc hp hT hq hb
  go_enter Tryd.func50, Tryd.ntmps50
  go_wp2_with fail
  go_fit HP.out
  rintro e w2 ⟨A, m, c, rfl, hr, hb2⟩
  have HW := hid (face.write (i := i) (c := c) (HD.out.step hb2) hr.at_ hr.1 (Nat.le_refl _) (fun bb off e hm => by
    rcases hr.2.2 with h0 | ⟨gg, cap, cur, hv, hg, _⟩
    · have h1 : A = none ∧ m = 0 ∧ c = 0 := by simpa using h0.1
      rw [h1.1] at e; cases e
    · subst e
      have h2 : (bb = gg ∧ off = 0) ∧ c = cap := by simpa using hv
      have := HD.out.lt bb (.inl hm)
      omega) (by have := HBL.out; have := HB.out; omega) HPE.out)
  have HC2 := hid (HC.out.keep (w' := w2) fun k _ hk => hb2.block k (Nat.lt_of_lt_of_le hk HC.out.lt))
  have HB2 := hid hb2
  have x0 := HC2.out.p0.cell 0
  have x1 := HC2.out.p1.cell 0
  clear hr hb2
  go_wp2_with fail
  go_fit HW.out
  rintro e w3 ⟨rfl, M', R', hd, ht⟩
  have HD3 := hid hd
  have HT3 := hid (Turns.behind HB2.out ht)
  clear hd ht
  go_wp2_with fail
  go_ret
  exact ⟨rfl, M', R', HD3.out, HT3.out⟩
/-- a function is stored as any value of one cell -/
theorem store_func (w : World) (a : Addr) (f : Fn) (x y : Array Value) (m : Mode) : (store a (.func f x y) m).run Tryd.prog w = stored Tryd.prog w a (.func f x y) m := run_store Tryd.prog w a _ m rfl
set_option maxHeartbeats 4000000 in
set_option maxRecDepth 100000 in
theorem stepsOf_is {w : World} (d : Nat) (i : Int) (q : Nat) (b : List UInt8) :
    Calls Tryd.prog 30 #[.pointer (some ⟨d, 0, none⟩), .int .i64 i, .agg #[.int .u64 (q : Int), .string (bst b)]] w fun e w' => ∃ g, e = .returned (.agg #[fn1 g, fn2 g, fn3 g, fn2 g]) ∧ Caps w' g d i q b ∧ w.heap.size ≤ g ∧ Below w.heap.size w w' := by
  have s1 : (w.alloc (.cells #[.pointer (some ⟨d, 0, none⟩)] 23)).heap.size = w.heap.size + 1 := by simp
  have hb1 : Below w.heap.size w (w.alloc (.cells #[.pointer (some ⟨d, 0, none⟩)] 23)) := (Below.refl _ _).alloc (Nat.le_refl _) _
  have hx1 := Blk.new w 23 #[.pointer (some ⟨d, 0, none⟩)]
  go_enter Tryd.func30, Tryd.ntmps30
  go_upto_region 4 with fail
  generalize w.alloc (.cells #[.pointer (some ⟨d, 0, none⟩)] 23) = w1 at *
  have s2 : (w1.alloc (.cells #[.int .i64 i] 3)).heap.size = w.heap.size + 2 := by simp [s1]
  have hx2 := Blk.new w1 3 #[.int .i64 i]
  have hy2 := hx1.alloc (.cells #[.int .i64 i] 3)
  have hb2 := hb1.alloc hb1.size (.cells #[.int .i64 i] 3)
  rw [s1] at hx2
  generalize w1.alloc (.cells #[.int .i64 i] 3) = w2 at *
  have s3 : (w2.alloc (.cells #[.int .u64 (q : Int), .string (bst b)] 71)).heap.size = w.heap.size + 3 := by simp [s2]
  have hx3 := Blk.new w2 71 #[.int .u64 (q : Int), .string (bst b)]
  have hy3 := hx2.alloc (.cells #[.int .u64 (q : Int), .string (bst b)] 71)
  have hz3 := hy2.alloc (.cells #[.int .u64 (q : Int), .string (bst b)] 71)
  have hb3 := hb2.alloc hb2.size (.cells #[.int .u64 (q : Int), .string (bst b)] 71)
  rw [s2] at hx3
  generalize w2.alloc (.cells #[.int .u64 (q : Int), .string (bst b)] 71) = w3 at *
  have hx4 := Blk.new w3 85 #[.nilFunc, .nilFunc, .nilFunc, .nilFunc]
  have HB4 := hid (hb3.alloc hb3.size (.cells #[.nilFunc, .nilFunc, .nilFunc, .nilFunc] 85))
  have HC4 := hid (show Caps (w3.alloc (.cells #[.nilFunc, .nilFunc, .nilFunc, .nilFunc] 85)) w.heap.size d i q b from ⟨hz3.alloc _, hy3.alloc _, hx3.alloc _⟩)
  rw [s3] at hx4
  have HX4 := hid hx4
  generalize w3.alloc (.cells #[.nilFunc, .nilFunc, .nilFunc, .nilFunc] 85) = w4 at *
  clear s1 hb1 hx1 s2 hx2 hy2 hb2 s3 hx3 hy3 hz3 hb3 hx4
  have e2 : w.heap.size + 1 + 1 = w.heap.size + 2 := rfl
  have e3 : w.heap.size + 2 + 1 = w.heap.size + 3 := rfl
  obtain ⟨g, hg⟩ : ∃ g, g = w.heap.size := ⟨_, rfl⟩
  rw [← hg] at HB4 HC4 HX4
  have HG := hid hg
  clear hg
  have a0 := HX4.out.cell 0
  have a1 := HX4.out.cell 1
  have a2 := HX4.out.cell 2
  have a3 := HX4.out.cell 3
  have f0 := HX4.out.free 0
  have f1 := HX4.out.free 1
  have f2 := HX4.out.free 2
  have f3 := HX4.out.free 3
  rw [HG.out] at a0 a1 a2 a3 f0 f1 f2 f3
  have st := store_func
  go_wp2_with fail
  have hg := HG.out
  subst hg
  have HX5 := hid ((((HX4.out.set 0 (fn1 w.heap.size)).set 1 (fn2 w.heap.size)).set 2 (fn3 w.heap.size)).set 3 (fn2 w.heap.size))
  have y0 := HX5.out.cell 0
  have y1 := HX5.out.cell 1
  have y2 := HX5.out.cell 2
  have y3 := HX5.out.cell 3
  clear a0 a1 a2 a3 f0 f1 f2 f3 st
  simp [fn1, fn2, fn3] at y0 y1 y2 y3
  refine bodyPost_ret (v := .agg #[fn1 w.heap.size, fn2 w.heap.size, fn3 w.heap.size, fn2 w.heap.size]) (by simp [results, Tryd.results30, go_sem, fn1, fn2, fn3, y0, y1, y2, y3]) rfl ?_
  refine ⟨w.heap.size, rfl, HC4.out.keep fun k _ hk => ?_, Nat.le_refl _, ?_⟩
  · have h1 : ∀ (W : World) (j : Nat) (u : Value), (W.setCell ⟨w.heap.size + 3, j, none⟩ u).heap[k]? = W.heap[k]? := fun W j u => Below.heap_setCell _ _ _ _ (by show k ≠ w.heap.size + 3; omega)
    rw [h1, h1, h1, h1]
  · exact (((HB4.out.setCell (p := ⟨w.heap.size + 3, 0, none⟩) (by show w.heap.size ≤ w.heap.size + 3; omega) _).setCell (p := ⟨w.heap.size + 3, 1, none⟩) (by show w.heap.size ≤ w.heap.size + 3; omega) _).setCell (p := ⟨w.heap.size + 3, 2, none⟩) (by show w.heap.size ≤ w.heap.size + 3; omega) _).setCell (p := ⟨w.heap.size + 3, 3, none⟩) (by show w.heap.size ≤ w.heap.size + 3; omega) _

end Go.Proofs.YtngclmjefadokaaDoor
