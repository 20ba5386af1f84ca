/-
  The document's meta page: Steps.
-/
import Derived.Test.YtngclmjefadokaaDoorR12Open
import Derived.Test.YtngclmjefadokaaDoorJR6
import Derived.Test.YtngclmjefadokaaDoorJRec
import Derived.Test.YtngclmjefadokaaDoorMSteps
namespace Go.Proofs.YtngclmjefadokaaDoor
open Go Go.RowKit

theorem mdisk_one {s : Dk} {i : Int} {r : List UInt8} {k : Int} (h : 1 ≤ k) (h2 : k < 2) : mdisk s i r k = s.free i := by unfold mdisk; rw [if_neg (by omega), if_pos h2]
theorem mdisk_two {s : Dk} {i : Int} {r : List UInt8} {k : Int} (h : 2 ≤ k) (h2 : k < 3) : mdisk s i r k = (s.free i).sync := by unfold mdisk; rw [if_neg (by omega), if_neg (by omega), if_pos h2]
theorem mdisk_mid {s : Dk} {i : Int} {r : List UInt8} {k : Int} (h : 3 ≤ k) (h2 : k < 4) : mdisk s i r k = (s.free i).sync.write i r := by unfold mdisk; rw [if_neg (by omega), if_neg (by omega), if_neg (by omega), if_pos h2]
theorem cell_drew {W : World} {a : Addr} {v : Option Value} (h : W.cell? a = v) : W.drew.cell? a = v := h
theorem blk_off {W : World} {h g i : Nat} {t : TypeId} {cs : Array Value} (hx : Blk W h t cs) (hne : h ≠ g) (u : Value) : Blk (W.setCell ⟨g, i, none⟩ u) h t cs := (Below.heap_setCell _ _ _ _ hne).trans hx
/-- the boxes on the way: the disk, the page, the two answers -/
structure S12 (P : Nat → Prop) (w W : World) (cs ms : Array Value) (s : Dk) : Prop where
  x0 : Blk W w.heap.size 30 cs
  x1 : Blk W (w.heap.size + 1) 39 ms
  x2 : Blk W (w.heap.size + 2) 30 #[.int .i64 0, .int .i64 0, .slice none 0 0, .slice none 0 0, .slice none 0 0]
  x3 : Blk W (w.heap.size + 3) 39 #[.int .i64 0, .int .i64 0, .int .u64 0]
  d : D6 (fun j => P j ∧ j < w.heap.size ∨ w.heap.size + 4 ≤ j) W (.agg cs) s
  b : Below w.heap.size w W
theorem W2.drew {w : World} (W : World) : Within (fun j => j = w.heap.size + 2 ∨ j = w.heap.size + 3) W W.drew := Within.of_below (Beyond.drew W)
theorem Within.put {M : Nat → Prop} {a w : World} (h : Within M a w) {g i : Nat} (hp : M g) (u : Value) : Within M a (w.setCell ⟨g, i, none⟩ u) :=
  ⟨h.os, h.tape, h.output, by simpa using h.size, fun k hk hn => (Below.heap_setCell _ _ _ _ (fun e => hn (by have : k = g := e; rw [this]; exact hp))).trans (h.block k hk hn)⟩
theorem W2.set2 {w a W : World} (h : Within (fun j => j = w.heap.size + 2 ∨ j = w.heap.size + 3) a W) (i : Nat) (u : Value) : Within (fun j => j = w.heap.size + 2 ∨ j = w.heap.size + 3) a (W.setCell ⟨w.heap.size + 2, i, none⟩ u) := h.put (.inl rfl) u
theorem W2.set3 {w a W : World} (h : Within (fun j => j = w.heap.size + 2 ∨ j = w.heap.size + 3) a W) (i : Nat) (u : Value) : Within (fun j => j = w.heap.size + 2 ∨ j = w.heap.size + 3) a (W.setCell ⟨w.heap.size + 3, i, none⟩ u) := h.put (.inr rfl) u
section
variable {P : Nat → Prop} {w W W' : World} {cs ms : Array Value} {s s' : Dk} {y0 y1 y2 y3 y4 u0 u1 u2 : Value}
theorem S12.step (h : S12 P w W cs ms s) (hb : Below W.heap.size W W') : S12 P w W' cs ms s := ⟨h.x0.below hb h.x0.lt, h.x1.below hb h.x1.lt, h.x2.below hb h.x2.lt, h.x3.below hb h.x3.lt, h.d.step hb, below_step h.b hb⟩
theorem S12.put {q0 q1 q2 q3 q4 : Value} (h : S12 P w W #[q0, q1, q2, q3, q4] ms s) (hb : Below W.heap.size W W') (hd : D6 (fun j => (P j ∧ j < w.heap.size ∨ w.heap.size + 4 ≤ j) ∨ W.heap.size ≤ j) W' (.agg #[y0, y1, y2, y3, y4]) s') : S12 P w (((((W'.setCell ⟨w.heap.size, 0, none⟩ (y0)).setCell ⟨w.heap.size, 1, none⟩ (y1)).setCell ⟨w.heap.size, 2, none⟩ (y2)).setCell ⟨w.heap.size, 3, none⟩ (y3)).setCell ⟨w.heap.size, 4, none⟩ (y4)) #[y0, y1, y2, y3, y4] ms s' := by
  have h4 : w.heap.size + 4 ≤ W.heap.size := h.x3.lt
  have hk : ∀ k, k ≠ w.heap.size → (((((W'.setCell ⟨w.heap.size, 0, none⟩ (y0)).setCell ⟨w.heap.size, 1, none⟩ (y1)).setCell ⟨w.heap.size, 2, none⟩ (y2)).setCell ⟨w.heap.size, 3, none⟩ (y3)).setCell ⟨w.heap.size, 4, none⟩ (y4)).heap[k]? = W'.heap[k]? := fun k hk => keep5 hk
  have hx := h.step hb
  refine ⟨by simpa using ((((hx.x0.set 0 y0).set 1 y1).set 2 y2).set 3 y3).set 4 y4, (hk _ (by omega)).trans hx.x1, (hk _ (by omega)).trans hx.x2, (hk _ (by omega)).trans hx.x3, (hd.weak (P' := fun j => P j ∧ j < w.heap.size ∨ w.heap.size + 4 ≤ j) (fun k hk => hk.elim id (fun x => .inr (by omega)))).keep (by simp) (fun k hj => hk k (by omega)), ?_⟩
  exact ((((hx.b.setCell (p := ⟨w.heap.size, 0, none⟩) (Nat.le_refl _) _).setCell (p := ⟨w.heap.size, 1, none⟩) (Nat.le_refl _) _).setCell (p := ⟨w.heap.size, 2, none⟩) (Nat.le_refl _) _).setCell (p := ⟨w.heap.size, 3, none⟩) (Nat.le_refl _) _).setCell (p := ⟨w.heap.size, 4, none⟩) (Nat.le_refl _) _
theorem S12.loads (h : S12 P w W cs ms s) (ho : Within (fun j => j = w.heap.size + 2 ∨ j = w.heap.size + 3) W W') : Blk W' w.heap.size 30 cs ∧ Blk W' (w.heap.size + 1) 39 ms :=
  ⟨(ho.block _ h.x0.lt (by omega)).trans h.x0, (ho.block _ h.x1.lt (by omega)).trans h.x1⟩
theorem fin_w (hd : D6 (fun j => P j ∧ j < w.heap.size ∨ w.heap.size + 4 ≤ j) W (.agg cs) s) (hb : Below w.heap.size w W) (ho : Within (fun j => j = w.heap.size + 2 ∨ j = w.heap.size + 3) W W') : D6 (fun j => P j ∨ w.heap.size ≤ j) W' (.agg cs) s ∧ Below w.heap.size w W' := by
  refine ⟨(hd.bound.keep ho.size fun k hk => ho.block k hk.2 (fun x => by have := hk.1; omega)).weak fun k hk => hk.1.elim (fun x => .inl x.1) (fun x => .inr (by omega)), ho.os.trans hb.os, ho.tape.trans hb.tape, ho.output.trans hb.output, Nat.le_trans hb.size ho.size, fun k hk => (ho.block k (Nat.lt_of_lt_of_le hk hb.size) (fun x => by omega)).trans (hb.block k hk)⟩
theorem fin8 {g : Nat} (h2 : Blk W (g + 2) 30 #[.int .i64 0, .int .i64 0, .slice none 0 0, .slice none 0 0, .slice none 0 0]) (h3 : Blk W (g + 3) 39 #[.int .i64 0, .int .i64 0, .int .u64 0]) : Blk ((((((((W.setCell ⟨g + 2, 0, none⟩ (y0)).setCell ⟨g + 2, 1, none⟩ (y1)).setCell ⟨g + 2, 2, none⟩ (y2)).setCell ⟨g + 2, 3, none⟩ (y3)).setCell ⟨g + 2, 4, none⟩ (y4)).setCell ⟨g + 3, 0, none⟩ (u0)).setCell ⟨g + 3, 1, none⟩ (u1)).setCell ⟨g + 3, 2, none⟩ (u2)) (g + 2) 30 #[y0, y1, y2, y3, y4] ∧ Blk ((((((((W.setCell ⟨g + 2, 0, none⟩ (y0)).setCell ⟨g + 2, 1, none⟩ (y1)).setCell ⟨g + 2, 2, none⟩ (y2)).setCell ⟨g + 2, 3, none⟩ (y3)).setCell ⟨g + 2, 4, none⟩ (y4)).setCell ⟨g + 3, 0, none⟩ (u0)).setCell ⟨g + 3, 1, none⟩ (u1)).setCell ⟨g + 3, 2, none⟩ (u2)) (g + 3) 39 #[u0, u1, u2] := by
  have hne : g + 2 ≠ g + 3 := by omega
  have e2 : Blk (((((W.setCell ⟨g + 2, 0, none⟩ (y0)).setCell ⟨g + 2, 1, none⟩ (y1)).setCell ⟨g + 2, 2, none⟩ (y2)).setCell ⟨g + 2, 3, none⟩ (y3)).setCell ⟨g + 2, 4, none⟩ (y4)) (g + 2) 30 #[y0, y1, y2, y3, y4] := by simpa using ((((h2.set 0 y0).set 1 y1).set 2 y2).set 3 y3).set 4 y4
  have e3 : Blk (((((W.setCell ⟨g + 2, 0, none⟩ (y0)).setCell ⟨g + 2, 1, none⟩ (y1)).setCell ⟨g + 2, 2, none⟩ (y2)).setCell ⟨g + 2, 3, none⟩ (y3)).setCell ⟨g + 2, 4, none⟩ (y4)) (g + 3) 39 #[.int .i64 0, .int .i64 0, .int .u64 0] := (keep5 hne.symm).trans h3
  exact ⟨blk_off (blk_off (blk_off e2 hne _) hne _) hne _, by simpa using ((e3.set 0 u0).set 1 u1).set 2 u2⟩
theorem S12.first (hd : D6 P w (.agg #[y0, y1, y2, y3, y4]) s) : S12 P w ((((w.alloc (.cells #[y0, y1, y2, y3, y4] 30)).alloc (.cells #[u0, u1, u2] 39)).alloc (.cells #[.int .i64 0, .int .i64 0, .slice none 0 0, .slice none 0 0, .slice none 0 0] 30)).alloc (.cells #[.int .i64 0, .int .i64 0, .int .u64 0] 39)) #[y0, y1, y2, y3, y4] #[u0, u1, u2] s := by
  have s1 : (w.alloc (.cells #[y0, y1, y2, y3, y4] 30)).heap.size = w.heap.size + 1 := by simp
  have s2 : ((w.alloc (.cells #[y0, y1, y2, y3, y4] 30)).alloc (.cells #[u0, u1, u2] 39)).heap.size = w.heap.size + 2 := by simp
  have s3 : (((w.alloc (.cells #[y0, y1, y2, y3, y4] 30)).alloc (.cells #[u0, u1, u2] 39)).alloc (.cells #[.int .i64 0, .int .i64 0, .slice none 0 0, .slice none 0 0, .slice none 0 0] 30)).heap.size = w.heap.size + 3 := by simp
  have x1 := Blk.new (w.alloc (.cells #[y0, y1, y2, y3, y4] 30)) 39 #[u0, u1, u2]
  have x2 := Blk.new ((w.alloc (.cells #[y0, y1, y2, y3, y4] 30)).alloc (.cells #[u0, u1, u2] 39)) 30 #[.int .i64 0, .int .i64 0, .slice none 0 0, .slice none 0 0, .slice none 0 0]
  have x3 := Blk.new (((w.alloc (.cells #[y0, y1, y2, y3, y4] 30)).alloc (.cells #[u0, u1, u2] 39)).alloc (.cells #[.int .i64 0, .int .i64 0, .slice none 0 0, .slice none 0 0, .slice none 0 0] 30)) 39 #[.int .i64 0, .int .i64 0, .int .u64 0]
  rw [s1] at x1
  rw [s2] at x2
  rw [s3] at x3
  have hb : Below w.heap.size w ((((w.alloc (.cells #[y0, y1, y2, y3, y4] 30)).alloc (.cells #[u0, u1, u2] 39)).alloc (.cells #[.int .i64 0, .int .i64 0, .slice none 0 0, .slice none 0 0, .slice none 0 0] 30)).alloc (.cells #[.int .i64 0, .int .i64 0, .int .u64 0] 39)) := ((((Below.refl _ _).alloc (Nat.le_refl _) _).alloc (by omega) _).alloc (by omega) _).alloc (by omega) _
  exact ⟨(((Blk.new w _ _).alloc _).alloc _).alloc _, (x1.alloc _).alloc _, x2.alloc _, x3, (hd.bound.keep hb.size fun k hk => hb.block k hk.2).weak fun k hk => .inl hk, hb⟩
end

set_option maxHeartbeats 16000000 in
set_option maxRecDepth 100000 in
theorem steps12_long {P : Nat → Prop} {w : World} {v : Value} {s : Dk} {a l : Int} {q : Nat} {body : List UInt8} (hD : D6 P w v s) (hbl : 480 < body.length) (k : Int) :
    Calls Tryd.prog 13 #[v, .agg #[.int .i64 a, .int .i64 l, .int .u64 (q : Int)], .string (bst body), .int .i64 k] w fun e w' => ∃ v', e = .returned (.tuple #[v', .agg #[.int .i64 a, .int .i64 l, .int .u64 (q : Int)], .bool false, .int .i64 120]) ∧ D6 (fun j => P j ∨ w.heap.size ≤ j) w' v' s ∧ Below w.heap.size w w' := by
  have z := bst_size body
  obtain ⟨sz0, lm0, A0, B0, C0, m0, n0, o0, c0, d0, e0, rfl⟩ := hD.shape
  have HSc := hid (S12.first (u0 := .int .i64 a) (u1 := .int .i64 l) (u2 := .int .u64 (q : Int)) hD)
  have e2 : w.heap.size + 1 + 1 = w.heap.size + 2 := rfl
  have e3 : w.heap.size + 2 + 1 = w.heap.size + 3 := rfl
  clear hD
  go_enter Tryd.func13, Tryd.ntmps13
  go_upto_region 1 with fail
  generalize (((w.alloc (.cells #[.int .i64 sz0, .int .i64 lm0, .slice A0 m0 c0, .slice B0 n0 d0, .slice C0 o0 e0] 30)).alloc (.cells #[.int .i64 a, .int .i64 l, .int .u64 (q : Int)] 39)).alloc (.cells #[.int .i64 0, .int .i64 0, .slice none 0 0, .slice none 0 0, .slice none 0 0] 30)).alloc (.cells #[.int .i64 0, .int .i64 0, .int .u64 0] 39) = wc at *
  go_upto_region 2 with fail
  have z0 : ∀ W, Within (fun j => j = w.heap.size + 2 ∨ j = w.heap.size + 3) wc W → W.cell? ⟨w.heap.size, 0, none⟩ = some (.int .i64 sz0) := fun W ho => ((HSc.out.loads ho).1).cell 0
  have z1 : ∀ W, Within (fun j => j = w.heap.size + 2 ∨ j = w.heap.size + 3) wc W → W.cell? ⟨w.heap.size, 1, none⟩ = some (.int .i64 lm0) := fun W ho => ((HSc.out.loads ho).1).cell 1
  have z2 : ∀ W, Within (fun j => j = w.heap.size + 2 ∨ j = w.heap.size + 3) wc W → W.cell? ⟨w.heap.size, 2, none⟩ = some (.slice A0 m0 c0) := fun W ho => ((HSc.out.loads ho).1).cell 2
  have z3 : ∀ W, Within (fun j => j = w.heap.size + 2 ∨ j = w.heap.size + 3) wc W → W.cell? ⟨w.heap.size, 3, none⟩ = some (.slice B0 n0 d0) := fun W ho => ((HSc.out.loads ho).1).cell 3
  have z4 : ∀ W, Within (fun j => j = w.heap.size + 2 ∨ j = w.heap.size + 3) wc W → W.cell? ⟨w.heap.size, 4, none⟩ = some (.slice C0 o0 e0) := fun W ho => ((HSc.out.loads ho).1).cell 4
  have s0 : ∀ W, Within (fun j => j = w.heap.size + 2 ∨ j = w.heap.size + 3) wc W → W.cell? ⟨w.heap.size + 1, 0, none⟩ = some (.int .i64 a) := fun W ho => ((HSc.out.loads ho).2.cell 0)
  have s1 : ∀ W, Within (fun j => j = w.heap.size + 2 ∨ j = w.heap.size + 3) wc W → W.cell? ⟨w.heap.size + 1, 1, none⟩ = some (.int .i64 l) := fun W ho => ((HSc.out.loads ho).2.cell 1)
  have s2 : ∀ W, Within (fun j => j = w.heap.size + 2 ∨ j = w.heap.size + 3) wc W → W.cell? ⟨w.heap.size + 1, 2, none⟩ = some (.int .u64 (q : Int)) := fun W ho => ((HSc.out.loads ho).2.cell 2)
  have t0 := HSc.out.x2.cell 0
  have ft0 := HSc.out.x2.free 0
  have t1 := HSc.out.x2.cell 1
  have ft1 := HSc.out.x2.free 1
  have t2 := HSc.out.x2.cell 2
  have ft2 := HSc.out.x2.free 2
  have t3 := HSc.out.x2.cell 3
  have ft3 := HSc.out.x2.free 3
  have t4 := HSc.out.x2.cell 4
  have ft4 := HSc.out.x2.free 4
  have u0 := HSc.out.x3.cell 0
  have fu0 := HSc.out.x3.free 0
  have u1 := HSc.out.x3.cell 1
  have fu1 := HSc.out.x3.free 1
  have u2 := HSc.out.x3.cell 2
  have fu2 := HSc.out.x3.free 2
  refine wp_region_held_drew (S := Within (fun j => j = w.heap.size + 2 ∨ j = w.heap.size + 3) wc) (by kernel_rfl) (W2.drew _) (fun hS => ?_)
  refine stT 0 hS ?_
  try simp only [putr]
  refine stT 1 hS ?_
  try simp only [putr]
  refine rdH [2] ?_
  refine rcH (fun K hK => ?_) AllReadyH.nil
  go_simp
  refine hK.out _ _ ((by have hz := (W2.set2 (W2.set2 (W2.set2 (W2.set2 (W2.set2 hS 0 (.int .i64 sz0)) 1 (.int .i64 lm0)) 2 (.slice A0 m0 c0)) 3 (.slice B0 n0 d0)) 4 (.slice C0 o0 e0)); simpa only [drew_set12] using hz)) (fun hS2 => ?_)
  clear hK K hS
  have hS := hS2
  try simp only [Act.put]
  refine rdH [3] ?_
  refine rcH (fun K hK => ?_) AllReadyH.nil
  go_simp
  refine hK.out _ _ ((by have hz := (W2.set3 (W2.set3 (W2.set3 hS 0 (.int .i64 a)) 1 (.int .i64 l)) 2 (.int .u64 (q : Int))); simpa only [drew_set12] using hz)) (fun hS3 => ?_)
  clear hK K hS
  have hS := hS3
  try simp only [Act.put]
  refine stT 4 hS ?_
  try simp only [putr]
  refine stT 5 hS ?_
  try simp only [putr]
  refine wpAnyH_done (by kernel_rfl) ?_ _
  obtain ⟨hx2, hx3⟩ := fin8 (y0 := .int .i64 sz0) (y1 := .int .i64 lm0) (y2 := .slice A0 m0 c0) (y3 := .slice B0 n0 d0) (y4 := .slice C0 o0 e0) (u0 := .int .i64 a) (u1 := .int .i64 l) (u2 := .int .u64 (q : Int)) HSc.out.x2 HSc.out.x3
  have r0 : (((((((((wc.setCell ⟨w.heap.size + 2, 0, none⟩ (.int .i64 sz0)).setCell ⟨w.heap.size + 2, 1, none⟩ (.int .i64 lm0)).setCell ⟨w.heap.size + 2, 2, none⟩ (.slice A0 m0 c0)).setCell ⟨w.heap.size + 2, 3, none⟩ (.slice B0 n0 d0)).setCell ⟨w.heap.size + 2, 4, none⟩ (.slice C0 o0 e0)).setCell ⟨w.heap.size + 3, 0, none⟩ (.int .i64 a)).setCell ⟨w.heap.size + 3, 1, none⟩ (.int .i64 l)).setCell ⟨w.heap.size + 3, 2, none⟩ (.int .u64 (q : Int)))).drew.cell? ⟨w.heap.size + 2, 0, none⟩ = some (.int .i64 sz0) := cell_drew (hx2.cell 0)
  have r1 : (((((((((wc.setCell ⟨w.heap.size + 2, 0, none⟩ (.int .i64 sz0)).setCell ⟨w.heap.size + 2, 1, none⟩ (.int .i64 lm0)).setCell ⟨w.heap.size + 2, 2, none⟩ (.slice A0 m0 c0)).setCell ⟨w.heap.size + 2, 3, none⟩ (.slice B0 n0 d0)).setCell ⟨w.heap.size + 2, 4, none⟩ (.slice C0 o0 e0)).setCell ⟨w.heap.size + 3, 0, none⟩ (.int .i64 a)).setCell ⟨w.heap.size + 3, 1, none⟩ (.int .i64 l)).setCell ⟨w.heap.size + 3, 2, none⟩ (.int .u64 (q : Int)))).drew.cell? ⟨w.heap.size + 2, 1, none⟩ = some (.int .i64 lm0) := cell_drew (hx2.cell 1)
  have r2 : (((((((((wc.setCell ⟨w.heap.size + 2, 0, none⟩ (.int .i64 sz0)).setCell ⟨w.heap.size + 2, 1, none⟩ (.int .i64 lm0)).setCell ⟨w.heap.size + 2, 2, none⟩ (.slice A0 m0 c0)).setCell ⟨w.heap.size + 2, 3, none⟩ (.slice B0 n0 d0)).setCell ⟨w.heap.size + 2, 4, none⟩ (.slice C0 o0 e0)).setCell ⟨w.heap.size + 3, 0, none⟩ (.int .i64 a)).setCell ⟨w.heap.size + 3, 1, none⟩ (.int .i64 l)).setCell ⟨w.heap.size + 3, 2, none⟩ (.int .u64 (q : Int)))).drew.cell? ⟨w.heap.size + 2, 2, none⟩ = some (.slice A0 m0 c0) := cell_drew (hx2.cell 2)
  have r3 : (((((((((wc.setCell ⟨w.heap.size + 2, 0, none⟩ (.int .i64 sz0)).setCell ⟨w.heap.size + 2, 1, none⟩ (.int .i64 lm0)).setCell ⟨w.heap.size + 2, 2, none⟩ (.slice A0 m0 c0)).setCell ⟨w.heap.size + 2, 3, none⟩ (.slice B0 n0 d0)).setCell ⟨w.heap.size + 2, 4, none⟩ (.slice C0 o0 e0)).setCell ⟨w.heap.size + 3, 0, none⟩ (.int .i64 a)).setCell ⟨w.heap.size + 3, 1, none⟩ (.int .i64 l)).setCell ⟨w.heap.size + 3, 2, none⟩ (.int .u64 (q : Int)))).drew.cell? ⟨w.heap.size + 2, 3, none⟩ = some (.slice B0 n0 d0) := cell_drew (hx2.cell 3)
  have r4 : (((((((((wc.setCell ⟨w.heap.size + 2, 0, none⟩ (.int .i64 sz0)).setCell ⟨w.heap.size + 2, 1, none⟩ (.int .i64 lm0)).setCell ⟨w.heap.size + 2, 2, none⟩ (.slice A0 m0 c0)).setCell ⟨w.heap.size + 2, 3, none⟩ (.slice B0 n0 d0)).setCell ⟨w.heap.size + 2, 4, none⟩ (.slice C0 o0 e0)).setCell ⟨w.heap.size + 3, 0, none⟩ (.int .i64 a)).setCell ⟨w.heap.size + 3, 1, none⟩ (.int .i64 l)).setCell ⟨w.heap.size + 3, 2, none⟩ (.int .u64 (q : Int)))).drew.cell? ⟨w.heap.size + 2, 4, none⟩ = some (.slice C0 o0 e0) := cell_drew (hx2.cell 4)
  have v0 : (((((((((wc.setCell ⟨w.heap.size + 2, 0, none⟩ (.int .i64 sz0)).setCell ⟨w.heap.size + 2, 1, none⟩ (.int .i64 lm0)).setCell ⟨w.heap.size + 2, 2, none⟩ (.slice A0 m0 c0)).setCell ⟨w.heap.size + 2, 3, none⟩ (.slice B0 n0 d0)).setCell ⟨w.heap.size + 2, 4, none⟩ (.slice C0 o0 e0)).setCell ⟨w.heap.size + 3, 0, none⟩ (.int .i64 a)).setCell ⟨w.heap.size + 3, 1, none⟩ (.int .i64 l)).setCell ⟨w.heap.size + 3, 2, none⟩ (.int .u64 (q : Int)))).drew.cell? ⟨w.heap.size + 3, 0, none⟩ = some (.int .i64 a) := cell_drew (hx3.cell 0)
  have v1 : (((((((((wc.setCell ⟨w.heap.size + 2, 0, none⟩ (.int .i64 sz0)).setCell ⟨w.heap.size + 2, 1, none⟩ (.int .i64 lm0)).setCell ⟨w.heap.size + 2, 2, none⟩ (.slice A0 m0 c0)).setCell ⟨w.heap.size + 2, 3, none⟩ (.slice B0 n0 d0)).setCell ⟨w.heap.size + 2, 4, none⟩ (.slice C0 o0 e0)).setCell ⟨w.heap.size + 3, 0, none⟩ (.int .i64 a)).setCell ⟨w.heap.size + 3, 1, none⟩ (.int .i64 l)).setCell ⟨w.heap.size + 3, 2, none⟩ (.int .u64 (q : Int)))).drew.cell? ⟨w.heap.size + 3, 1, none⟩ = some (.int .i64 l) := cell_drew (hx3.cell 1)
  have v2 : (((((((((wc.setCell ⟨w.heap.size + 2, 0, none⟩ (.int .i64 sz0)).setCell ⟨w.heap.size + 2, 1, none⟩ (.int .i64 lm0)).setCell ⟨w.heap.size + 2, 2, none⟩ (.slice A0 m0 c0)).setCell ⟨w.heap.size + 2, 3, none⟩ (.slice B0 n0 d0)).setCell ⟨w.heap.size + 2, 4, none⟩ (.slice C0 o0 e0)).setCell ⟨w.heap.size + 3, 0, none⟩ (.int .i64 a)).setCell ⟨w.heap.size + 3, 1, none⟩ (.int .i64 l)).setCell ⟨w.heap.size + 3, 2, none⟩ (.int .u64 (q : Int)))).drew.cell? ⟨w.heap.size + 3, 2, none⟩ = some (.int .u64 (q : Int)) := cell_drew (hx3.cell 2)
  obtain ⟨hdd, hbb⟩ := fin_w HSc.out.d HSc.out.b hS
  have HDD := hid hdd
  have HBB := hid hbb
  clear hx2 hx3 hdd hbb hS z0 z1 z2 z3 z4 s0 s1 s2 t0 t1 t2 t3 t4 ft0 ft1 ft2 ft3 ft4 u0 u1 u2 fu0 fu1 fu2
  generalize (((((((((wc.setCell ⟨w.heap.size + 2, 0, none⟩ (.int .i64 sz0)).setCell ⟨w.heap.size + 2, 1, none⟩ (.int .i64 lm0)).setCell ⟨w.heap.size + 2, 2, none⟩ (.slice A0 m0 c0)).setCell ⟨w.heap.size + 2, 3, none⟩ (.slice B0 n0 d0)).setCell ⟨w.heap.size + 2, 4, none⟩ (.slice C0 o0 e0)).setCell ⟨w.heap.size + 3, 0, none⟩ (.int .i64 a)).setCell ⟨w.heap.size + 3, 1, none⟩ (.int .i64 l)).setCell ⟨w.heap.size + 3, 2, none⟩ (.int .u64 (q : Int)))).drew = wf at *
  go_wp2_with fail
  refine bodyPost_ret (v := .tuple #[.agg #[.int .i64 sz0, .int .i64 lm0, .slice A0 m0 c0, .slice B0 n0 d0, .slice C0 o0 e0], .agg #[.int .i64 a, .int .i64 l, .int .u64 (q : Int)], .bool false, .int .i64 120]) (by simp [results, Tryd.results13, go_sem, r0, r1, r2, r3, r4, v0, v1, v2]) rfl ?_
  exact ⟨_, rfl, HDD.out, HBB.out⟩

set_option maxHeartbeats 16000000 in
set_option maxRecDepth 100000 in
theorem steps12_is {P : Nat → Prop} {w : World} {v : Value} {s : Dk} {a l : Int} {nx q : Nat} {body : List UInt8} (hD : D6 P w v s) (ha0 : 0 ≤ a) (ha1 : a ≤ 65534) (hl : l = 0 ∧ nx = 1 ∨ l ≠ 0 ∧ nx = 0) (hp : s.pend.length ≤ 900000) (hbl : body.length ≤ 480) (k : Int) :
    Calls Tryd.prog 13 #[v, .agg #[.int .i64 a, .int .i64 l, .int .u64 (q : Int)], .string (bst body), .int .i64 k] w fun e w' => ∃ v', e = .returned (.tuple #[v', .agg (if mdone s (a + (nx : Int)) (renc (next64 q) body) k then #[.int .i64 a, .int .i64 (nx : Int), .int .u64 (next64 q : Int)] else #[.int .i64 a, .int .i64 l, .int .u64 (q : Int)]), .bool (mdone s (a + (nx : Int)) (renc (next64 q) body) k), .int .i64 (mwhy s (a + (nx : Int)) (renc (next64 q) body) k : Int)]) ∧
      D6 (fun j => P j ∨ w.heap.size ≤ j) w' v' (mdisk s (a + (nx : Int)) (renc (next64 q) body) k) ∧ Below w.heap.size w w' := by
  have z := bst_size body
  have hn : ¬ 480 < body.length := by omega
  have hnx : nx ≤ 1 := by omega
  have hwi : IntKind.i64.wrap (a + (nx : Int)) = a + (nx : Int) := by rw [IntKind.wrap_i64]; omega
  have hwq : IntKind.u64.wrap ((q : Int) + 1) = (next64 q : Int) := by rw [IntKind.wrap_u64]; unfold next64; omega
  obtain ⟨p, hpq⟩ : ∃ p, p = next64 q := ⟨_, rfl⟩
  have HPU := hid (fun (W : World) => refRPut_yes p body W (by rw [hpq]; exact next64_lt q) (by omega))
  rw [← hpq] at hwq ⊢
  obtain ⟨i, hi⟩ : ∃ i, i = a + (nx : Int) := ⟨_, rfl⟩
  rw [← hi]
  replace hwi := hwi.trans hi.symm
  obtain ⟨r, hr⟩ : ∃ r, r = renc p body := ⟨_, rfl⟩
  rw [← hr] at HPU ⊢
  obtain ⟨D, hDD⟩ : ∃ D, D = mdone s i r k := ⟨_, rfl⟩
  obtain ⟨Y, hY⟩ : ∃ Y, Y = mwhy s i r k := ⟨_, rfl⟩
  obtain ⟨SD, hSD⟩ : ∃ SD, SD = mdisk s i r k := ⟨_, rfl⟩
  rw [← hDD, ← hY, ← hSD]
  have HD := hid hDD
  have HY := hid hY
  have HSD := hid hSD
  have HP := hid hp
  obtain ⟨sz0, lm0, A0, B0, C0, m0, n0, o0, c0, d0, e0, rfl⟩ := hD.shape
  have HSc := hid (S12.first (u0 := .int .i64 a) (u1 := .int .i64 l) (u2 := .int .u64 (q : Int)) hD)
  have e2 : w.heap.size + 1 + 1 = w.heap.size + 2 := rfl
  have e3 : w.heap.size + 2 + 1 = w.heap.size + 3 := rfl
  clear hD hDD hY hSD hp hpq hi hr ha0 ha1 hnx hbl
  go_enter Tryd.func13, Tryd.ntmps13
  go_upto_region 1 with fail
  generalize (((w.alloc (.cells #[.int .i64 sz0, .int .i64 lm0, .slice A0 m0 c0, .slice B0 n0 d0, .slice C0 o0 e0] 30)).alloc (.cells #[.int .i64 a, .int .i64 l, .int .u64 (q : Int)] 39)).alloc (.cells #[.int .i64 0, .int .i64 0, .slice none 0 0, .slice none 0 0, .slice none 0 0] 30)).alloc (.cells #[.int .i64 0, .int .i64 0, .int .u64 0] 39) = w1 at *
  have x1 := HSc.out.x1.cell 1
  go_upto_if 24 with fail
  go_cut [12] from 24 to 25 (fun x wx => x = .int .i64 (nx : Int) ∧ Kept (S12 P w wx #[.int .i64 sz0, .int .i64 lm0, .slice A0 m0 c0, .slice B0 n0 d0, .slice C0 o0 e0] #[.int .i64 a, .int .i64 l, .int .u64 (q : Int)] s))
  case first =>
    rcases hl with ⟨rfl, rfl⟩ | ⟨hl, rfl⟩
    · go_wp2_with fail
      go_meet
      case rel => exact ⟨rfl, HSc⟩
    · go_wp2_with fail
      go_meet
      case rel => exact ⟨rfl, HSc⟩
  case rest =>
    obtain ⟨rfl, HSn⟩ := hcut
    clear HSc x1 hl
    have HSc := HSn
    clear HSn
    by_cases g1 : k ≥ 1
    · have y0 := HSc.out.x0.cell 0
      have f0 := HSc.out.x0.free 0
      have y1 := HSc.out.x0.cell 1
      have f1 := HSc.out.x0.free 1
      have y2 := HSc.out.x0.cell 2
      have f2 := HSc.out.x0.free 2
      have y3 := HSc.out.x0.cell 3
      have f3 := HSc.out.x0.free 3
      have y4 := HSc.out.x0.cell 4
      have f4 := HSc.out.x0.free 4
      have p0 := HSc.out.x1.cell 0
      have p1 := HSc.out.x1.cell 1
      have p2 := HSc.out.x1.cell 2
      have HCA := hid (free6_any i HSc.out.d (by have := HP.out; omega))
      go_wp2_with fail
      go_fit HCA.out
      rintro e w2t ⟨v2, rfl, hd, hb⟩
      obtain ⟨sz2, lm2, A2, B2, C2, m2, n2, o2, c2, d2, e2, rfl⟩ := hd.shape
      skip
      have HSy := hid (HSc.out.step hb)
      have HN := hid (HSc.out.put hb hd)
      clear hd hb HCA y0 y1 y2 y3 y4 f0 f1 f2 f3 f4 p0 p1 p2
      have y0 := HSy.out.x0.cell 0
      have f0 := HSy.out.x0.free 0
      have y1 := HSy.out.x0.cell 1
      have f1 := HSy.out.x0.free 1
      have y2 := HSy.out.x0.cell 2
      have f2 := HSy.out.x0.free 2
      have y3 := HSy.out.x0.cell 3
      have f3 := HSy.out.x0.free 3
      have y4 := HSy.out.x0.cell 4
      have f4 := HSy.out.x0.free 4
      go_upto_region 8 with fail
      clear HSy y0 y1 y2 y3 y4 f0 f1 f2 f3 f4
      have HS2 := hid HN.out
      clear HN HSc
      generalize (((((w2t.setCell ⟨w.heap.size, 0, none⟩ (.int .i64 sz2)).setCell ⟨w.heap.size, 1, none⟩ (.int .i64 lm2)).setCell ⟨w.heap.size, 2, none⟩ (.slice A2 m2 c2)).setCell ⟨w.heap.size, 3, none⟩ (.slice B2 n2 d2)).setCell ⟨w.heap.size, 4, none⟩ (.slice C2 o2 e2)) = w2 at *
      by_cases g2 : k ≥ 2
      · have y0 := HS2.out.x0.cell 0
        have f0 := HS2.out.x0.free 0
        have y1 := HS2.out.x0.cell 1
        have f1 := HS2.out.x0.free 1
        have y2 := HS2.out.x0.cell 2
        have f2 := HS2.out.x0.free 2
        have y3 := HS2.out.x0.cell 3
        have f3 := HS2.out.x0.free 3
        have y4 := HS2.out.x0.cell 4
        have f4 := HS2.out.x0.free 4
        have p0 := HS2.out.x1.cell 0
        have p1 := HS2.out.x1.cell 1
        have p2 := HS2.out.x1.cell 2
        have HCA := hid (sync6_any HS2.out.d)
        go_wp2_with fail
        go_fit HCA.out
        rintro e w3t ⟨v3, rfl, hd, hb⟩
        obtain ⟨sz3, lm3, A3, B3, C3, m3, n3, o3, c3, d3, e3, rfl⟩ := hd.shape
        have hd := hd.weak (P' := fun j => (P j ∧ j < w.heap.size ∨ w.heap.size + 4 ≤ j) ∨ w2.heap.size ≤ j) (fun _ x => .inl x)
        have HSy := hid (HS2.out.step hb)
        have HN := hid (HS2.out.put hb hd)
        clear hd hb HCA y0 y1 y2 y3 y4 f0 f1 f2 f3 f4 p0 p1 p2
        have y0 := HSy.out.x0.cell 0
        have f0 := HSy.out.x0.free 0
        have y1 := HSy.out.x0.cell 1
        have f1 := HSy.out.x0.free 1
        have y2 := HSy.out.x0.cell 2
        have f2 := HSy.out.x0.free 2
        have y3 := HSy.out.x0.cell 3
        have f3 := HSy.out.x0.free 3
        have y4 := HSy.out.x0.cell 4
        have f4 := HSy.out.x0.free 4
        go_upto_region 10 with fail
        clear HSy y0 y1 y2 y3 y4 f0 f1 f2 f3 f4
        have HS3 := hid HN.out
        clear HN HS2
        generalize (((((w3t.setCell ⟨w.heap.size, 0, none⟩ (.int .i64 sz3)).setCell ⟨w.heap.size, 1, none⟩ (.int .i64 lm3)).setCell ⟨w.heap.size, 2, none⟩ (.slice A3 m3 c3)).setCell ⟨w.heap.size, 3, none⟩ (.slice B3 n3 d3)).setCell ⟨w.heap.size, 4, none⟩ (.slice C3 o3 e3)) = w3 at *
        by_cases g3 : k ≥ 3
        · have p0 := HS3.out.x1.cell 0
          have p1 := HS3.out.x1.cell 1
          have p2 := HS3.out.x1.cell 2
          go_wp2_with fail
          go_fit (HPU.out w3)
          rintro e w4 ⟨rfl, hb4⟩
          have HS4 := hid (HS3.out.step hb4)
          clear hb4 p0 p1 p2 HS3
          have y0 := HS4.out.x0.cell 0
          have y1 := HS4.out.x0.cell 1
          have y2 := HS4.out.x0.cell 2
          have y3 := HS4.out.x0.cell 3
          have y4 := HS4.out.x0.cell 4
          have p0 := HS4.out.x1.cell 0
          have p1 := HS4.out.x1.cell 1
          have p2 := HS4.out.x1.cell 2
          have HCA := hid (write6_any i (b := r) HS4.out.d (show (0 : Nat) ≤ 1000000 by decide))
          go_wp2_with fail
          go_fit HCA.out
          rintro e w5 ⟨v5, rfl, hd, hb⟩
          obtain ⟨sz5, lm5, A5, B5, C5, m5, n5, o5, c5, d5, e5, rfl⟩ := hd.shape
          have hb6 := hb.alloc hb.size (.cells #[.int .i64 sz5, .int .i64 lm5, .slice A5 m5 c5, .slice B5 n5 d5, .slice C5 o5 e5] 30)
          have HX6 := hid (Blk.new w5 30 #[.int .i64 sz5, .int .i64 lm5, .slice A5 m5 c5, .slice B5 n5 d5, .slice C5 o5 e5])
          have HG6 := hid (show w.heap.size + 4 ≤ w5.heap.size from Nat.le_trans HS4.out.x3.lt hb.size)
          have HD6' := hid (hd.step (w' := w5.alloc (.cells #[.int .i64 sz5, .int .i64 lm5, .slice A5 m5 c5, .slice B5 n5 d5, .slice C5 o5 e5] 30)) ((Below.refl _ _).alloc (Nat.le_refl _) _))
          have HS6 := hid (HS4.out.step hb6)
          have HB6 := hid hb6
          clear hd hb hb6 HCA y0 y1 y2 y3 y4 p0 p1 p2
          go_upto_region 13 with fail
          generalize w5.alloc (.cells #[.int .i64 sz5, .int .i64 lm5, .slice A5 m5 c5, .slice B5 n5 d5, .slice C5 o5 e5] 30) = w6 at *
          generalize w5.heap.size = gx at *
          by_cases hwy : (s.free i).sync.why i r = 0
          · have HWY := hid hwy
            rw [hwy]
            clear hwy
            have HN := hid (HS4.out.put HB6.out HD6'.out)
            have y0 := HX6.out.cell 0
            have y1 := HX6.out.cell 1
            have y2 := HX6.out.cell 2
            have y3 := HX6.out.cell 3
            have y4 := HX6.out.cell 4
            have t0 := HS6.out.x0.cell 0
            have ft0 := HS6.out.x0.free 0
            have t1 := HS6.out.x0.cell 1
            have ft1 := HS6.out.x0.free 1
            have t2 := HS6.out.x0.cell 2
            have ft2 := HS6.out.x0.free 2
            have t3 := HS6.out.x0.cell 3
            have ft3 := HS6.out.x0.free 3
            have t4 := HS6.out.x0.cell 4
            have ft4 := HS6.out.x0.free 4
            go_upto_region 16 with fail
            clear y0 y1 y2 y3 y4 t0 t1 t2 t3 t4 ft0 ft1 ft2 ft3 ft4 HS6 HB6 HD6' HX6 HG6
            have HS7 := hid HN.out
            clear HN HS4
            generalize (((((w6.setCell ⟨w.heap.size, 0, none⟩ (.int .i64 sz5)).setCell ⟨w.heap.size, 1, none⟩ (.int .i64 lm5)).setCell ⟨w.heap.size, 2, none⟩ (.slice A5 m5 c5)).setCell ⟨w.heap.size, 3, none⟩ (.slice B5 n5 d5)).setCell ⟨w.heap.size, 4, none⟩ (.slice C5 o5 e5)) = w7 at *
            by_cases g4 : k ≥ 4
            · have e1 := HD.out.trans (mdone_yes g4 HWY.out)
              have e4 := HY.out.trans ((mwhy_high g3).trans HWY.out)
              have e5 := HSD.out.trans (mdisk_high g4 HWY.out)
              subst e1 e4 e5
              clear HD HY HSD
              have HSY := hid (fun (W : World) (hW : Within (fun j => j = w.heap.size + 2 ∨ j = w.heap.size + 3) w7 W) => sync6_any (HS7.out.d.bound.keep hW.size (fun k hk => hW.block k hk.2 (fun x => by have := hk.1; omega)) |>.weak (P' := fun j => P j ∧ j < w.heap.size ∨ w.heap.size + 4 ≤ j) (fun _ hk => hk.1)))
              go_upto_region 17 with fail
              have z0 : ∀ W, Within (fun j => j = w.heap.size + 2 ∨ j = w.heap.size + 3) w7 W → W.cell? ⟨w.heap.size, 0, none⟩ = some (.int .i64 sz5) := fun W ho => ((HS7.out.loads ho).1).cell 0
              have z1 : ∀ W, Within (fun j => j = w.heap.size + 2 ∨ j = w.heap.size + 3) w7 W → W.cell? ⟨w.heap.size, 1, none⟩ = some (.int .i64 lm5) := fun W ho => ((HS7.out.loads ho).1).cell 1
              have z2 : ∀ W, Within (fun j => j = w.heap.size + 2 ∨ j = w.heap.size + 3) w7 W → W.cell? ⟨w.heap.size, 2, none⟩ = some (.slice A5 m5 c5) := fun W ho => ((HS7.out.loads ho).1).cell 2
              have z3 : ∀ W, Within (fun j => j = w.heap.size + 2 ∨ j = w.heap.size + 3) w7 W → W.cell? ⟨w.heap.size, 3, none⟩ = some (.slice B5 n5 d5) := fun W ho => ((HS7.out.loads ho).1).cell 3
              have z4 : ∀ W, Within (fun j => j = w.heap.size + 2 ∨ j = w.heap.size + 3) w7 W → W.cell? ⟨w.heap.size, 4, none⟩ = some (.slice C5 o5 e5) := fun W ho => ((HS7.out.loads ho).1).cell 4
              have s0 : ∀ W, Within (fun j => j = w.heap.size + 2 ∨ j = w.heap.size + 3) w7 W → W.cell? ⟨w.heap.size + 1, 0, none⟩ = some (.int .i64 a) := fun W ho => ((HS7.out.loads ho).2.cell 0)
              have s1 : ∀ W, Within (fun j => j = w.heap.size + 2 ∨ j = w.heap.size + 3) w7 W → W.cell? ⟨w.heap.size + 1, 1, none⟩ = some (.int .i64 l) := fun W ho => ((HS7.out.loads ho).2.cell 1)
              have s2 : ∀ W, Within (fun j => j = w.heap.size + 2 ∨ j = w.heap.size + 3) w7 W → W.cell? ⟨w.heap.size + 1, 2, none⟩ = some (.int .u64 (q : Int)) := fun W ho => ((HS7.out.loads ho).2.cell 2)
              have t0 := HS7.out.x2.cell 0
              have ft0 := HS7.out.x2.free 0
              have t1 := HS7.out.x2.cell 1
              have ft1 := HS7.out.x2.free 1
              have t2 := HS7.out.x2.cell 2
              have ft2 := HS7.out.x2.free 2
              have t3 := HS7.out.x2.cell 3
              have ft3 := HS7.out.x2.free 3
              have t4 := HS7.out.x2.cell 4
              have ft4 := HS7.out.x2.free 4
              have u0 := HS7.out.x3.cell 0
              have fu0 := HS7.out.x3.free 0
              have u1 := HS7.out.x3.cell 1
              have fu1 := HS7.out.x3.free 1
              have u2 := HS7.out.x3.cell 2
              have fu2 := HS7.out.x3.free 2
              refine wp_region_held_drew (S := Within (fun j => j = w.heap.size + 2 ∨ j = w.heap.size + 3) w7) (by kernel_rfl) (W2.drew _) (fun hS => ?_)
              refine stT 0 hS ?_
              try simp only [putr]
              refine stT 2 hS ?_
              try simp only [putr]
              refine stT 3 hS ?_
              try simp only [putr]
              refine stT 4 hS ?_
              try simp only [putr]
              refine stT 5 hS ?_
              try simp only [putr]
              refine stT 6 hS ?_
              try simp only [putr]
              refine stT 7 hS ?_
              try simp only [putr]
              refine stT 8 hS ?_
              try simp only [putr]
              refine rdH [1] ?_
              refine rcH (fun K hK => ?_) AllReadyH.nil
              go_simp
              go_fit (HSY.out _ hS)
              rintro e w8 ⟨v8, rfl, hd, hb8⟩
              obtain ⟨sz8, lm8, A8, B8, C8, m8, n8, o8, c8, d8, e8, rfl⟩ := hd.shape
              have hS1 := hS.trans (Within.of_below hb8)
              have HD8 := hid hd
              have HS8 := hid ((HS7.out.step (Beyond.drew w7)).step hb8)
              clear hd hb8 t0 t1 t2 t3 t4 ft0 ft1 ft2 ft3 ft4
              clear u0 u1 u2 fu0 fu1 fu2
              have t0 := HS8.out.x2.cell 0
              have ft0 := HS8.out.x2.free 0
              have t1 := HS8.out.x2.cell 1
              have ft1 := HS8.out.x2.free 1
              have t2 := HS8.out.x2.cell 2
              have ft2 := HS8.out.x2.free 2
              have t3 := HS8.out.x2.cell 3
              have ft3 := HS8.out.x2.free 3
              have t4 := HS8.out.x2.cell 4
              have ft4 := HS8.out.x2.free 4
              have u0 := HS8.out.x3.cell 0
              have fu0 := HS8.out.x3.free 0
              have u1 := HS8.out.x3.cell 1
              have fu1 := HS8.out.x3.free 1
              have u2 := HS8.out.x3.cell 2
              have fu2 := HS8.out.x3.free 2
              refine hK.out _ _ (by assumption) (fun _ => ?_)
              clear hK K hS
              have hS := hS1
              try simp only [putr]
              refine rdH [9] ?_
              refine rcH (fun K hK => ?_) AllReadyH.nil
              go_simp
              refine hK.out _ _ ((by have hz := (W2.set2 (W2.set2 (W2.set2 (W2.set2 (W2.set2 hS 0 (.int .i64 sz8)) 1 (.int .i64 lm8)) 2 (.slice A8 m8 c8)) 3 (.slice B8 n8 d8)) 4 (.slice C8 o8 e8)); simpa only [drew_set12] using hz)) (fun hS9 => ?_)
              clear hK K hS
              have hS := hS9
              try simp only [Act.put]
              refine rdH [10] ?_
              refine rcH (fun K hK => ?_) AllReadyH.nil
              go_simp
              refine hK.out _ _ ((by have hz := (W2.set3 (W2.set3 (W2.set3 hS 0 (.int .i64 a)) 1 (.int .i64 (nx : Int))) 2 (.int .u64 (p : Int))); simpa only [drew_set12] using hz)) (fun hS10 => ?_)
              clear hK K hS
              have hS := hS10
              try simp only [Act.put]
              refine stT 11 hS ?_
              try simp only [putr]
              refine stT 12 hS ?_
              try simp only [putr]
              refine wpAnyH_done (by kernel_rfl) ?_ _
              have hS : Within (fun j => j = w.heap.size + 2 ∨ j = w.heap.size + 3) w8 _ := (W2.set3 (W2.set3 (W2.set3 (W2.set2 (W2.set2 (W2.set2 (W2.set2 (W2.set2 (Within.refl _ w8) 0 (.int .i64 sz8)) 1 (.int .i64 lm8)) 2 (.slice A8 m8 c8)) 3 (.slice B8 n8 d8)) 4 (.slice C8 o8 e8)) 0 (.int .i64 a)) 1 (.int .i64 (nx : Int))) 2 (.int .u64 (p : Int)))
              obtain ⟨hx2, hx3⟩ := fin8 (y0 := .int .i64 sz8) (y1 := .int .i64 lm8) (y2 := .slice A8 m8 c8) (y3 := .slice B8 n8 d8) (y4 := .slice C8 o8 e8) (u0 := .int .i64 a) (u1 := .int .i64 (nx : Int)) (u2 := .int .u64 (p : Int)) HS8.out.x2 HS8.out.x3
              have r0 : ((((((((w8.setCell ⟨w.heap.size + 2, 0, none⟩ (.int .i64 sz8)).setCell ⟨w.heap.size + 2, 1, none⟩ (.int .i64 lm8)).setCell ⟨w.heap.size + 2, 2, none⟩ (.slice A8 m8 c8)).setCell ⟨w.heap.size + 2, 3, none⟩ (.slice B8 n8 d8)).setCell ⟨w.heap.size + 2, 4, none⟩ (.slice C8 o8 e8)).setCell ⟨w.heap.size + 3, 0, none⟩ (.int .i64 a)).setCell ⟨w.heap.size + 3, 1, none⟩ (.int .i64 (nx : Int))).setCell ⟨w.heap.size + 3, 2, none⟩ (.int .u64 (p : Int))).cell? ⟨w.heap.size + 2, 0, none⟩ = some (.int .i64 sz8) := (hx2.cell 0)
              have r1 : ((((((((w8.setCell ⟨w.heap.size + 2, 0, none⟩ (.int .i64 sz8)).setCell ⟨w.heap.size + 2, 1, none⟩ (.int .i64 lm8)).setCell ⟨w.heap.size + 2, 2, none⟩ (.slice A8 m8 c8)).setCell ⟨w.heap.size + 2, 3, none⟩ (.slice B8 n8 d8)).setCell ⟨w.heap.size + 2, 4, none⟩ (.slice C8 o8 e8)).setCell ⟨w.heap.size + 3, 0, none⟩ (.int .i64 a)).setCell ⟨w.heap.size + 3, 1, none⟩ (.int .i64 (nx : Int))).setCell ⟨w.heap.size + 3, 2, none⟩ (.int .u64 (p : Int))).cell? ⟨w.heap.size + 2, 1, none⟩ = some (.int .i64 lm8) := (hx2.cell 1)
              have r2 : ((((((((w8.setCell ⟨w.heap.size + 2, 0, none⟩ (.int .i64 sz8)).setCell ⟨w.heap.size + 2, 1, none⟩ (.int .i64 lm8)).setCell ⟨w.heap.size + 2, 2, none⟩ (.slice A8 m8 c8)).setCell ⟨w.heap.size + 2, 3, none⟩ (.slice B8 n8 d8)).setCell ⟨w.heap.size + 2, 4, none⟩ (.slice C8 o8 e8)).setCell ⟨w.heap.size + 3, 0, none⟩ (.int .i64 a)).setCell ⟨w.heap.size + 3, 1, none⟩ (.int .i64 (nx : Int))).setCell ⟨w.heap.size + 3, 2, none⟩ (.int .u64 (p : Int))).cell? ⟨w.heap.size + 2, 2, none⟩ = some (.slice A8 m8 c8) := (hx2.cell 2)
              have r3 : ((((((((w8.setCell ⟨w.heap.size + 2, 0, none⟩ (.int .i64 sz8)).setCell ⟨w.heap.size + 2, 1, none⟩ (.int .i64 lm8)).setCell ⟨w.heap.size + 2, 2, none⟩ (.slice A8 m8 c8)).setCell ⟨w.heap.size + 2, 3, none⟩ (.slice B8 n8 d8)).setCell ⟨w.heap.size + 2, 4, none⟩ (.slice C8 o8 e8)).setCell ⟨w.heap.size + 3, 0, none⟩ (.int .i64 a)).setCell ⟨w.heap.size + 3, 1, none⟩ (.int .i64 (nx : Int))).setCell ⟨w.heap.size + 3, 2, none⟩ (.int .u64 (p : Int))).cell? ⟨w.heap.size + 2, 3, none⟩ = some (.slice B8 n8 d8) := (hx2.cell 3)
              have r4 : ((((((((w8.setCell ⟨w.heap.size + 2, 0, none⟩ (.int .i64 sz8)).setCell ⟨w.heap.size + 2, 1, none⟩ (.int .i64 lm8)).setCell ⟨w.heap.size + 2, 2, none⟩ (.slice A8 m8 c8)).setCell ⟨w.heap.size + 2, 3, none⟩ (.slice B8 n8 d8)).setCell ⟨w.heap.size + 2, 4, none⟩ (.slice C8 o8 e8)).setCell ⟨w.heap.size + 3, 0, none⟩ (.int .i64 a)).setCell ⟨w.heap.size + 3, 1, none⟩ (.int .i64 (nx : Int))).setCell ⟨w.heap.size + 3, 2, none⟩ (.int .u64 (p : Int))).cell? ⟨w.heap.size + 2, 4, none⟩ = some (.slice C8 o8 e8) := (hx2.cell 4)
              have v0 : ((((((((w8.setCell ⟨w.heap.size + 2, 0, none⟩ (.int .i64 sz8)).setCell ⟨w.heap.size + 2, 1, none⟩ (.int .i64 lm8)).setCell ⟨w.heap.size + 2, 2, none⟩ (.slice A8 m8 c8)).setCell ⟨w.heap.size + 2, 3, none⟩ (.slice B8 n8 d8)).setCell ⟨w.heap.size + 2, 4, none⟩ (.slice C8 o8 e8)).setCell ⟨w.heap.size + 3, 0, none⟩ (.int .i64 a)).setCell ⟨w.heap.size + 3, 1, none⟩ (.int .i64 (nx : Int))).setCell ⟨w.heap.size + 3, 2, none⟩ (.int .u64 (p : Int))).cell? ⟨w.heap.size + 3, 0, none⟩ = some (.int .i64 a) := (hx3.cell 0)
              have v1 : ((((((((w8.setCell ⟨w.heap.size + 2, 0, none⟩ (.int .i64 sz8)).setCell ⟨w.heap.size + 2, 1, none⟩ (.int .i64 lm8)).setCell ⟨w.heap.size + 2, 2, none⟩ (.slice A8 m8 c8)).setCell ⟨w.heap.size + 2, 3, none⟩ (.slice B8 n8 d8)).setCell ⟨w.heap.size + 2, 4, none⟩ (.slice C8 o8 e8)).setCell ⟨w.heap.size + 3, 0, none⟩ (.int .i64 a)).setCell ⟨w.heap.size + 3, 1, none⟩ (.int .i64 (nx : Int))).setCell ⟨w.heap.size + 3, 2, none⟩ (.int .u64 (p : Int))).cell? ⟨w.heap.size + 3, 1, none⟩ = some (.int .i64 (nx : Int)) := (hx3.cell 1)
              have v2 : ((((((((w8.setCell ⟨w.heap.size + 2, 0, none⟩ (.int .i64 sz8)).setCell ⟨w.heap.size + 2, 1, none⟩ (.int .i64 lm8)).setCell ⟨w.heap.size + 2, 2, none⟩ (.slice A8 m8 c8)).setCell ⟨w.heap.size + 2, 3, none⟩ (.slice B8 n8 d8)).setCell ⟨w.heap.size + 2, 4, none⟩ (.slice C8 o8 e8)).setCell ⟨w.heap.size + 3, 0, none⟩ (.int .i64 a)).setCell ⟨w.heap.size + 3, 1, none⟩ (.int .i64 (nx : Int))).setCell ⟨w.heap.size + 3, 2, none⟩ (.int .u64 (p : Int))).cell? ⟨w.heap.size + 3, 2, none⟩ = some (.int .u64 (p : Int)) := (hx3.cell 2)
              obtain ⟨hdd, hbb⟩ := fin_w HD8.out HS8.out.b hS
              have HDD := hid hdd
              have HBB := hid hbb
              clear hx2 hx3 hdd hbb hS z0 z1 z2 z3 z4 s0 s1 s2 t0 t1 t2 t3 t4 ft0 ft1 ft2 ft3 ft4 u0 u1 u2 fu0 fu1 fu2
              generalize ((((((((w8.setCell ⟨w.heap.size + 2, 0, none⟩ (.int .i64 sz8)).setCell ⟨w.heap.size + 2, 1, none⟩ (.int .i64 lm8)).setCell ⟨w.heap.size + 2, 2, none⟩ (.slice A8 m8 c8)).setCell ⟨w.heap.size + 2, 3, none⟩ (.slice B8 n8 d8)).setCell ⟨w.heap.size + 2, 4, none⟩ (.slice C8 o8 e8)).setCell ⟨w.heap.size + 3, 0, none⟩ (.int .i64 a)).setCell ⟨w.heap.size + 3, 1, none⟩ (.int .i64 (nx : Int))).setCell ⟨w.heap.size + 3, 2, none⟩ (.int .u64 (p : Int))) = wf at *
              go_wp2_with fail
              refine bodyPost_ret (v := .tuple #[.agg #[.int .i64 sz8, .int .i64 lm8, .slice A8 m8 c8, .slice B8 n8 d8, .slice C8 o8 e8], .agg #[.int .i64 a, .int .i64 (nx : Int), .int .u64 (p : Int)], .bool true, .int .i64 0]) (by simp [results, Tryd.results13, go_sem, r0, r1, r2, r3, r4, v0, v1, v2]) rfl ?_
              exact ⟨_, rfl, HDD.out, HBB.out⟩
            · have e1 := HD.out.trans (mdone_not (by omega))
              have e4 := HY.out.trans ((mwhy_high g3).trans HWY.out)
              have e5 := HSD.out.trans (mdisk_mid g3 (by omega))
              subst e1 e4 e5
              clear HD HY HSD
              go_upto_region 18 with fail
              have z0 : ∀ W, Within (fun j => j = w.heap.size + 2 ∨ j = w.heap.size + 3) w7 W → W.cell? ⟨w.heap.size, 0, none⟩ = some (.int .i64 sz5) := fun W ho => ((HS7.out.loads ho).1).cell 0
              have z1 : ∀ W, Within (fun j => j = w.heap.size + 2 ∨ j = w.heap.size + 3) w7 W → W.cell? ⟨w.heap.size, 1, none⟩ = some (.int .i64 lm5) := fun W ho => ((HS7.out.loads ho).1).cell 1
              have z2 : ∀ W, Within (fun j => j = w.heap.size + 2 ∨ j = w.heap.size + 3) w7 W → W.cell? ⟨w.heap.size, 2, none⟩ = some (.slice A5 m5 c5) := fun W ho => ((HS7.out.loads ho).1).cell 2
              have z3 : ∀ W, Within (fun j => j = w.heap.size + 2 ∨ j = w.heap.size + 3) w7 W → W.cell? ⟨w.heap.size, 3, none⟩ = some (.slice B5 n5 d5) := fun W ho => ((HS7.out.loads ho).1).cell 3
              have z4 : ∀ W, Within (fun j => j = w.heap.size + 2 ∨ j = w.heap.size + 3) w7 W → W.cell? ⟨w.heap.size, 4, none⟩ = some (.slice C5 o5 e5) := fun W ho => ((HS7.out.loads ho).1).cell 4
              have s0 : ∀ W, Within (fun j => j = w.heap.size + 2 ∨ j = w.heap.size + 3) w7 W → W.cell? ⟨w.heap.size + 1, 0, none⟩ = some (.int .i64 a) := fun W ho => ((HS7.out.loads ho).2.cell 0)
              have s1 : ∀ W, Within (fun j => j = w.heap.size + 2 ∨ j = w.heap.size + 3) w7 W → W.cell? ⟨w.heap.size + 1, 1, none⟩ = some (.int .i64 l) := fun W ho => ((HS7.out.loads ho).2.cell 1)
              have s2 : ∀ W, Within (fun j => j = w.heap.size + 2 ∨ j = w.heap.size + 3) w7 W → W.cell? ⟨w.heap.size + 1, 2, none⟩ = some (.int .u64 (q : Int)) := fun W ho => ((HS7.out.loads ho).2.cell 2)
              have t0 := HS7.out.x2.cell 0
              have ft0 := HS7.out.x2.free 0
              have t1 := HS7.out.x2.cell 1
              have ft1 := HS7.out.x2.free 1
              have t2 := HS7.out.x2.cell 2
              have ft2 := HS7.out.x2.free 2
              have t3 := HS7.out.x2.cell 3
              have ft3 := HS7.out.x2.free 3
              have t4 := HS7.out.x2.cell 4
              have ft4 := HS7.out.x2.free 4
              have u0 := HS7.out.x3.cell 0
              have fu0 := HS7.out.x3.free 0
              have u1 := HS7.out.x3.cell 1
              have fu1 := HS7.out.x3.free 1
              have u2 := HS7.out.x3.cell 2
              have fu2 := HS7.out.x3.free 2
              refine wp_region_held_drew (S := Within (fun j => j = w.heap.size + 2 ∨ j = w.heap.size + 3) w7) (by kernel_rfl) (W2.drew _) (fun hS => ?_)
              refine stT 0 hS ?_
              try simp only [putr]
              refine stT 1 hS ?_
              try simp only [putr]
              refine rdH [2] ?_
              refine rcH (fun K hK => ?_) AllReadyH.nil
              go_simp
              refine hK.out _ _ ((by have hz := (W2.set2 (W2.set2 (W2.set2 (W2.set2 (W2.set2 hS 0 (.int .i64 sz5)) 1 (.int .i64 lm5)) 2 (.slice A5 m5 c5)) 3 (.slice B5 n5 d5)) 4 (.slice C5 o5 e5)); simpa only [drew_set12] using hz)) (fun hS2 => ?_)
              clear hK K hS
              have hS := hS2
              try simp only [Act.put]
              refine rdH [3] ?_
              refine rcH (fun K hK => ?_) AllReadyH.nil
              go_simp
              refine hK.out _ _ ((by have hz := (W2.set3 (W2.set3 (W2.set3 hS 0 (.int .i64 a)) 1 (.int .i64 l)) 2 (.int .u64 (q : Int))); simpa only [drew_set12] using hz)) (fun hS3 => ?_)
              clear hK K hS
              have hS := hS3
              try simp only [Act.put]
              refine stT 4 hS ?_
              try simp only [putr]
              refine stT 5 hS ?_
              try simp only [putr]
              refine wpAnyH_done (by kernel_rfl) ?_ _
              obtain ⟨hx2, hx3⟩ := fin8 (y0 := .int .i64 sz5) (y1 := .int .i64 lm5) (y2 := .slice A5 m5 c5) (y3 := .slice B5 n5 d5) (y4 := .slice C5 o5 e5) (u0 := .int .i64 a) (u1 := .int .i64 l) (u2 := .int .u64 (q : Int)) HS7.out.x2 HS7.out.x3
              have r0 : (((((((((w7.setCell ⟨w.heap.size + 2, 0, none⟩ (.int .i64 sz5)).setCell ⟨w.heap.size + 2, 1, none⟩ (.int .i64 lm5)).setCell ⟨w.heap.size + 2, 2, none⟩ (.slice A5 m5 c5)).setCell ⟨w.heap.size + 2, 3, none⟩ (.slice B5 n5 d5)).setCell ⟨w.heap.size + 2, 4, none⟩ (.slice C5 o5 e5)).setCell ⟨w.heap.size + 3, 0, none⟩ (.int .i64 a)).setCell ⟨w.heap.size + 3, 1, none⟩ (.int .i64 l)).setCell ⟨w.heap.size + 3, 2, none⟩ (.int .u64 (q : Int)))).drew.cell? ⟨w.heap.size + 2, 0, none⟩ = some (.int .i64 sz5) := cell_drew (hx2.cell 0)
              have r1 : (((((((((w7.setCell ⟨w.heap.size + 2, 0, none⟩ (.int .i64 sz5)).setCell ⟨w.heap.size + 2, 1, none⟩ (.int .i64 lm5)).setCell ⟨w.heap.size + 2, 2, none⟩ (.slice A5 m5 c5)).setCell ⟨w.heap.size + 2, 3, none⟩ (.slice B5 n5 d5)).setCell ⟨w.heap.size + 2, 4, none⟩ (.slice C5 o5 e5)).setCell ⟨w.heap.size + 3, 0, none⟩ (.int .i64 a)).setCell ⟨w.heap.size + 3, 1, none⟩ (.int .i64 l)).setCell ⟨w.heap.size + 3, 2, none⟩ (.int .u64 (q : Int)))).drew.cell? ⟨w.heap.size + 2, 1, none⟩ = some (.int .i64 lm5) := cell_drew (hx2.cell 1)
              have r2 : (((((((((w7.setCell ⟨w.heap.size + 2, 0, none⟩ (.int .i64 sz5)).setCell ⟨w.heap.size + 2, 1, none⟩ (.int .i64 lm5)).setCell ⟨w.heap.size + 2, 2, none⟩ (.slice A5 m5 c5)).setCell ⟨w.heap.size + 2, 3, none⟩ (.slice B5 n5 d5)).setCell ⟨w.heap.size + 2, 4, none⟩ (.slice C5 o5 e5)).setCell ⟨w.heap.size + 3, 0, none⟩ (.int .i64 a)).setCell ⟨w.heap.size + 3, 1, none⟩ (.int .i64 l)).setCell ⟨w.heap.size + 3, 2, none⟩ (.int .u64 (q : Int)))).drew.cell? ⟨w.heap.size + 2, 2, none⟩ = some (.slice A5 m5 c5) := cell_drew (hx2.cell 2)
              have r3 : (((((((((w7.setCell ⟨w.heap.size + 2, 0, none⟩ (.int .i64 sz5)).setCell ⟨w.heap.size + 2, 1, none⟩ (.int .i64 lm5)).setCell ⟨w.heap.size + 2, 2, none⟩ (.slice A5 m5 c5)).setCell ⟨w.heap.size + 2, 3, none⟩ (.slice B5 n5 d5)).setCell ⟨w.heap.size + 2, 4, none⟩ (.slice C5 o5 e5)).setCell ⟨w.heap.size + 3, 0, none⟩ (.int .i64 a)).setCell ⟨w.heap.size + 3, 1, none⟩ (.int .i64 l)).setCell ⟨w.heap.size + 3, 2, none⟩ (.int .u64 (q : Int)))).drew.cell? ⟨w.heap.size + 2, 3, none⟩ = some (.slice B5 n5 d5) := cell_drew (hx2.cell 3)
              have r4 : (((((((((w7.setCell ⟨w.heap.size + 2, 0, none⟩ (.int .i64 sz5)).setCell ⟨w.heap.size + 2, 1, none⟩ (.int .i64 lm5)).setCell ⟨w.heap.size + 2, 2, none⟩ (.slice A5 m5 c5)).setCell ⟨w.heap.size + 2, 3, none⟩ (.slice B5 n5 d5)).setCell ⟨w.heap.size + 2, 4, none⟩ (.slice C5 o5 e5)).setCell ⟨w.heap.size + 3, 0, none⟩ (.int .i64 a)).setCell ⟨w.heap.size + 3, 1, none⟩ (.int .i64 l)).setCell ⟨w.heap.size + 3, 2, none⟩ (.int .u64 (q : Int)))).drew.cell? ⟨w.heap.size + 2, 4, none⟩ = some (.slice C5 o5 e5) := cell_drew (hx2.cell 4)
              have v0 : (((((((((w7.setCell ⟨w.heap.size + 2, 0, none⟩ (.int .i64 sz5)).setCell ⟨w.heap.size + 2, 1, none⟩ (.int .i64 lm5)).setCell ⟨w.heap.size + 2, 2, none⟩ (.slice A5 m5 c5)).setCell ⟨w.heap.size + 2, 3, none⟩ (.slice B5 n5 d5)).setCell ⟨w.heap.size + 2, 4, none⟩ (.slice C5 o5 e5)).setCell ⟨w.heap.size + 3, 0, none⟩ (.int .i64 a)).setCell ⟨w.heap.size + 3, 1, none⟩ (.int .i64 l)).setCell ⟨w.heap.size + 3, 2, none⟩ (.int .u64 (q : Int)))).drew.cell? ⟨w.heap.size + 3, 0, none⟩ = some (.int .i64 a) := cell_drew (hx3.cell 0)
              have v1 : (((((((((w7.setCell ⟨w.heap.size + 2, 0, none⟩ (.int .i64 sz5)).setCell ⟨w.heap.size + 2, 1, none⟩ (.int .i64 lm5)).setCell ⟨w.heap.size + 2, 2, none⟩ (.slice A5 m5 c5)).setCell ⟨w.heap.size + 2, 3, none⟩ (.slice B5 n5 d5)).setCell ⟨w.heap.size + 2, 4, none⟩ (.slice C5 o5 e5)).setCell ⟨w.heap.size + 3, 0, none⟩ (.int .i64 a)).setCell ⟨w.heap.size + 3, 1, none⟩ (.int .i64 l)).setCell ⟨w.heap.size + 3, 2, none⟩ (.int .u64 (q : Int)))).drew.cell? ⟨w.heap.size + 3, 1, none⟩ = some (.int .i64 l) := cell_drew (hx3.cell 1)
              have v2 : (((((((((w7.setCell ⟨w.heap.size + 2, 0, none⟩ (.int .i64 sz5)).setCell ⟨w.heap.size + 2, 1, none⟩ (.int .i64 lm5)).setCell ⟨w.heap.size + 2, 2, none⟩ (.slice A5 m5 c5)).setCell ⟨w.heap.size + 2, 3, none⟩ (.slice B5 n5 d5)).setCell ⟨w.heap.size + 2, 4, none⟩ (.slice C5 o5 e5)).setCell ⟨w.heap.size + 3, 0, none⟩ (.int .i64 a)).setCell ⟨w.heap.size + 3, 1, none⟩ (.int .i64 l)).setCell ⟨w.heap.size + 3, 2, none⟩ (.int .u64 (q : Int)))).drew.cell? ⟨w.heap.size + 3, 2, none⟩ = some (.int .u64 (q : Int)) := cell_drew (hx3.cell 2)
              obtain ⟨hdd, hbb⟩ := fin_w HS7.out.d HS7.out.b hS
              have HDD := hid hdd
              have HBB := hid hbb
              clear hx2 hx3 hdd hbb hS z0 z1 z2 z3 z4 s0 s1 s2 t0 t1 t2 t3 t4 ft0 ft1 ft2 ft3 ft4 u0 u1 u2 fu0 fu1 fu2
              generalize (((((((((w7.setCell ⟨w.heap.size + 2, 0, none⟩ (.int .i64 sz5)).setCell ⟨w.heap.size + 2, 1, none⟩ (.int .i64 lm5)).setCell ⟨w.heap.size + 2, 2, none⟩ (.slice A5 m5 c5)).setCell ⟨w.heap.size + 2, 3, none⟩ (.slice B5 n5 d5)).setCell ⟨w.heap.size + 2, 4, none⟩ (.slice C5 o5 e5)).setCell ⟨w.heap.size + 3, 0, none⟩ (.int .i64 a)).setCell ⟨w.heap.size + 3, 1, none⟩ (.int .i64 l)).setCell ⟨w.heap.size + 3, 2, none⟩ (.int .u64 (q : Int)))).drew = wf at *
              go_wp2_with fail
              refine bodyPost_ret (v := .tuple #[.agg #[.int .i64 sz5, .int .i64 lm5, .slice A5 m5 c5, .slice B5 n5 d5, .slice C5 o5 e5], .agg #[.int .i64 a, .int .i64 l, .int .u64 (q : Int)], .bool false, .int .i64 0]) (by simp [results, Tryd.results13, go_sem, r0, r1, r2, r3, r4, v0, v1, v2]) rfl ?_
              exact ⟨_, rfl, HDD.out, HBB.out⟩
          · have e1 := HD.out.trans (mdone_bad hwy)
            have e4 := HY.out.trans (mwhy_high g3)
            have e5 := HSD.out.trans (mdisk_bad g3 hwy)
            subst e1 e4 e5
            clear HD HY HSD
            have hne : (((s.free i).sync.why i r : Int) != 0) = true := by simp; omega
            clear hwy
            go_upto_region 14 with fail
            have HW6 := hid (HD6'.out.weak (P' := fun j => P j ∧ j < w.heap.size ∨ w.heap.size + 4 ≤ j) (fun k hk => hk.elim id (fun x => .inr (Nat.le_trans HS4.out.x3.lt x))))
            have z0 : ∀ W, Within (fun j => j = w.heap.size + 2 ∨ j = w.heap.size + 3) w6 W → W.cell? ⟨gx, 0, none⟩ = some (.int .i64 sz5) := fun W ho => ((show Blk W gx 30 #[.int .i64 sz5, .int .i64 lm5, .slice A5 m5 c5, .slice B5 n5 d5, .slice C5 o5 e5] from (ho.block gx HX6.out.lt (by have := HG6.out; omega)).trans HX6.out)).cell 0
            have z1 : ∀ W, Within (fun j => j = w.heap.size + 2 ∨ j = w.heap.size + 3) w6 W → W.cell? ⟨gx, 1, none⟩ = some (.int .i64 lm5) := fun W ho => ((show Blk W gx 30 #[.int .i64 sz5, .int .i64 lm5, .slice A5 m5 c5, .slice B5 n5 d5, .slice C5 o5 e5] from (ho.block gx HX6.out.lt (by have := HG6.out; omega)).trans HX6.out)).cell 1
            have z2 : ∀ W, Within (fun j => j = w.heap.size + 2 ∨ j = w.heap.size + 3) w6 W → W.cell? ⟨gx, 2, none⟩ = some (.slice A5 m5 c5) := fun W ho => ((show Blk W gx 30 #[.int .i64 sz5, .int .i64 lm5, .slice A5 m5 c5, .slice B5 n5 d5, .slice C5 o5 e5] from (ho.block gx HX6.out.lt (by have := HG6.out; omega)).trans HX6.out)).cell 2
            have z3 : ∀ W, Within (fun j => j = w.heap.size + 2 ∨ j = w.heap.size + 3) w6 W → W.cell? ⟨gx, 3, none⟩ = some (.slice B5 n5 d5) := fun W ho => ((show Blk W gx 30 #[.int .i64 sz5, .int .i64 lm5, .slice A5 m5 c5, .slice B5 n5 d5, .slice C5 o5 e5] from (ho.block gx HX6.out.lt (by have := HG6.out; omega)).trans HX6.out)).cell 3
            have z4 : ∀ W, Within (fun j => j = w.heap.size + 2 ∨ j = w.heap.size + 3) w6 W → W.cell? ⟨gx, 4, none⟩ = some (.slice C5 o5 e5) := fun W ho => ((show Blk W gx 30 #[.int .i64 sz5, .int .i64 lm5, .slice A5 m5 c5, .slice B5 n5 d5, .slice C5 o5 e5] from (ho.block gx HX6.out.lt (by have := HG6.out; omega)).trans HX6.out)).cell 4
            have s0 : ∀ W, Within (fun j => j = w.heap.size + 2 ∨ j = w.heap.size + 3) w6 W → W.cell? ⟨w.heap.size + 1, 0, none⟩ = some (.int .i64 a) := fun W ho => ((HS6.out.loads ho).2.cell 0)
            have s1 : ∀ W, Within (fun j => j = w.heap.size + 2 ∨ j = w.heap.size + 3) w6 W → W.cell? ⟨w.heap.size + 1, 1, none⟩ = some (.int .i64 l) := fun W ho => ((HS6.out.loads ho).2.cell 1)
            have s2 : ∀ W, Within (fun j => j = w.heap.size + 2 ∨ j = w.heap.size + 3) w6 W → W.cell? ⟨w.heap.size + 1, 2, none⟩ = some (.int .u64 (q : Int)) := fun W ho => ((HS6.out.loads ho).2.cell 2)
            have t0 := HS6.out.x2.cell 0
            have ft0 := HS6.out.x2.free 0
            have t1 := HS6.out.x2.cell 1
            have ft1 := HS6.out.x2.free 1
            have t2 := HS6.out.x2.cell 2
            have ft2 := HS6.out.x2.free 2
            have t3 := HS6.out.x2.cell 3
            have ft3 := HS6.out.x2.free 3
            have t4 := HS6.out.x2.cell 4
            have ft4 := HS6.out.x2.free 4
            have u0 := HS6.out.x3.cell 0
            have fu0 := HS6.out.x3.free 0
            have u1 := HS6.out.x3.cell 1
            have fu1 := HS6.out.x3.free 1
            have u2 := HS6.out.x3.cell 2
            have fu2 := HS6.out.x3.free 2
            refine wp_region_held_drew (S := Within (fun j => j = w.heap.size + 2 ∨ j = w.heap.size + 3) w6) (by kernel_rfl) (W2.drew _) (fun hS => ?_)
            refine stT 0 hS ?_
            try simp only [putr]
            refine stT 1 hS ?_
            try simp only [putr]
            refine stT 2 hS ?_
            try simp only [putr]
            refine rdH [3] ?_
            refine rcH (fun K hK => ?_) AllReadyH.nil
            go_simp
            refine hK.out _ _ ((by have hz := (W2.set2 (W2.set2 (W2.set2 (W2.set2 (W2.set2 hS 0 (.int .i64 sz5)) 1 (.int .i64 lm5)) 2 (.slice A5 m5 c5)) 3 (.slice B5 n5 d5)) 4 (.slice C5 o5 e5)); simpa only [drew_set12] using hz)) (fun hS3 => ?_)
            clear hK K hS
            have hS := hS3
            try simp only [Act.put]
            refine rdH [4] ?_
            refine rcH (fun K hK => ?_) AllReadyH.nil
            go_simp
            refine hK.out _ _ ((by have hz := (W2.set3 (W2.set3 (W2.set3 hS 0 (.int .i64 a)) 1 (.int .i64 l)) 2 (.int .u64 (q : Int))); simpa only [drew_set12] using hz)) (fun hS4 => ?_)
            clear hK K hS
            have hS := hS4
            try simp only [Act.put]
            refine stT 5 hS ?_
            try simp only [putr]
            refine stT 6 hS ?_
            try simp only [putr]
            refine wpAnyH_done (by kernel_rfl) ?_ _
            obtain ⟨hx2, hx3⟩ := fin8 (y0 := .int .i64 sz5) (y1 := .int .i64 lm5) (y2 := .slice A5 m5 c5) (y3 := .slice B5 n5 d5) (y4 := .slice C5 o5 e5) (u0 := .int .i64 a) (u1 := .int .i64 l) (u2 := .int .u64 (q : Int)) HS6.out.x2 HS6.out.x3
            have r0 : (((((((((w6.setCell ⟨w.heap.size + 2, 0, none⟩ (.int .i64 sz5)).setCell ⟨w.heap.size + 2, 1, none⟩ (.int .i64 lm5)).setCell ⟨w.heap.size + 2, 2, none⟩ (.slice A5 m5 c5)).setCell ⟨w.heap.size + 2, 3, none⟩ (.slice B5 n5 d5)).setCell ⟨w.heap.size + 2, 4, none⟩ (.slice C5 o5 e5)).setCell ⟨w.heap.size + 3, 0, none⟩ (.int .i64 a)).setCell ⟨w.heap.size + 3, 1, none⟩ (.int .i64 l)).setCell ⟨w.heap.size + 3, 2, none⟩ (.int .u64 (q : Int)))).drew.cell? ⟨w.heap.size + 2, 0, none⟩ = some (.int .i64 sz5) := cell_drew (hx2.cell 0)
            have r1 : (((((((((w6.setCell ⟨w.heap.size + 2, 0, none⟩ (.int .i64 sz5)).setCell ⟨w.heap.size + 2, 1, none⟩ (.int .i64 lm5)).setCell ⟨w.heap.size + 2, 2, none⟩ (.slice A5 m5 c5)).setCell ⟨w.heap.size + 2, 3, none⟩ (.slice B5 n5 d5)).setCell ⟨w.heap.size + 2, 4, none⟩ (.slice C5 o5 e5)).setCell ⟨w.heap.size + 3, 0, none⟩ (.int .i64 a)).setCell ⟨w.heap.size + 3, 1, none⟩ (.int .i64 l)).setCell ⟨w.heap.size + 3, 2, none⟩ (.int .u64 (q : Int)))).drew.cell? ⟨w.heap.size + 2, 1, none⟩ = some (.int .i64 lm5) := cell_drew (hx2.cell 1)
            have r2 : (((((((((w6.setCell ⟨w.heap.size + 2, 0, none⟩ (.int .i64 sz5)).setCell ⟨w.heap.size + 2, 1, none⟩ (.int .i64 lm5)).setCell ⟨w.heap.size + 2, 2, none⟩ (.slice A5 m5 c5)).setCell ⟨w.heap.size + 2, 3, none⟩ (.slice B5 n5 d5)).setCell ⟨w.heap.size + 2, 4, none⟩ (.slice C5 o5 e5)).setCell ⟨w.heap.size + 3, 0, none⟩ (.int .i64 a)).setCell ⟨w.heap.size + 3, 1, none⟩ (.int .i64 l)).setCell ⟨w.heap.size + 3, 2, none⟩ (.int .u64 (q : Int)))).drew.cell? ⟨w.heap.size + 2, 2, none⟩ = some (.slice A5 m5 c5) := cell_drew (hx2.cell 2)
            have r3 : (((((((((w6.setCell ⟨w.heap.size + 2, 0, none⟩ (.int .i64 sz5)).setCell ⟨w.heap.size + 2, 1, none⟩ (.int .i64 lm5)).setCell ⟨w.heap.size + 2, 2, none⟩ (.slice A5 m5 c5)).setCell ⟨w.heap.size + 2, 3, none⟩ (.slice B5 n5 d5)).setCell ⟨w.heap.size + 2, 4, none⟩ (.slice C5 o5 e5)).setCell ⟨w.heap.size + 3, 0, none⟩ (.int .i64 a)).setCell ⟨w.heap.size + 3, 1, none⟩ (.int .i64 l)).setCell ⟨w.heap.size + 3, 2, none⟩ (.int .u64 (q : Int)))).drew.cell? ⟨w.heap.size + 2, 3, none⟩ = some (.slice B5 n5 d5) := cell_drew (hx2.cell 3)
            have r4 : (((((((((w6.setCell ⟨w.heap.size + 2, 0, none⟩ (.int .i64 sz5)).setCell ⟨w.heap.size + 2, 1, none⟩ (.int .i64 lm5)).setCell ⟨w.heap.size + 2, 2, none⟩ (.slice A5 m5 c5)).setCell ⟨w.heap.size + 2, 3, none⟩ (.slice B5 n5 d5)).setCell ⟨w.heap.size + 2, 4, none⟩ (.slice C5 o5 e5)).setCell ⟨w.heap.size + 3, 0, none⟩ (.int .i64 a)).setCell ⟨w.heap.size + 3, 1, none⟩ (.int .i64 l)).setCell ⟨w.heap.size + 3, 2, none⟩ (.int .u64 (q : Int)))).drew.cell? ⟨w.heap.size + 2, 4, none⟩ = some (.slice C5 o5 e5) := cell_drew (hx2.cell 4)
            have v0 : (((((((((w6.setCell ⟨w.heap.size + 2, 0, none⟩ (.int .i64 sz5)).setCell ⟨w.heap.size + 2, 1, none⟩ (.int .i64 lm5)).setCell ⟨w.heap.size + 2, 2, none⟩ (.slice A5 m5 c5)).setCell ⟨w.heap.size + 2, 3, none⟩ (.slice B5 n5 d5)).setCell ⟨w.heap.size + 2, 4, none⟩ (.slice C5 o5 e5)).setCell ⟨w.heap.size + 3, 0, none⟩ (.int .i64 a)).setCell ⟨w.heap.size + 3, 1, none⟩ (.int .i64 l)).setCell ⟨w.heap.size + 3, 2, none⟩ (.int .u64 (q : Int)))).drew.cell? ⟨w.heap.size + 3, 0, none⟩ = some (.int .i64 a) := cell_drew (hx3.cell 0)
            have v1 : (((((((((w6.setCell ⟨w.heap.size + 2, 0, none⟩ (.int .i64 sz5)).setCell ⟨w.heap.size + 2, 1, none⟩ (.int .i64 lm5)).setCell ⟨w.heap.size + 2, 2, none⟩ (.slice A5 m5 c5)).setCell ⟨w.heap.size + 2, 3, none⟩ (.slice B5 n5 d5)).setCell ⟨w.heap.size + 2, 4, none⟩ (.slice C5 o5 e5)).setCell ⟨w.heap.size + 3, 0, none⟩ (.int .i64 a)).setCell ⟨w.heap.size + 3, 1, none⟩ (.int .i64 l)).setCell ⟨w.heap.size + 3, 2, none⟩ (.int .u64 (q : Int)))).drew.cell? ⟨w.heap.size + 3, 1, none⟩ = some (.int .i64 l) := cell_drew (hx3.cell 1)
            have v2 : (((((((((w6.setCell ⟨w.heap.size + 2, 0, none⟩ (.int .i64 sz5)).setCell ⟨w.heap.size + 2, 1, none⟩ (.int .i64 lm5)).setCell ⟨w.heap.size + 2, 2, none⟩ (.slice A5 m5 c5)).setCell ⟨w.heap.size + 2, 3, none⟩ (.slice B5 n5 d5)).setCell ⟨w.heap.size + 2, 4, none⟩ (.slice C5 o5 e5)).setCell ⟨w.heap.size + 3, 0, none⟩ (.int .i64 a)).setCell ⟨w.heap.size + 3, 1, none⟩ (.int .i64 l)).setCell ⟨w.heap.size + 3, 2, none⟩ (.int .u64 (q : Int)))).drew.cell? ⟨w.heap.size + 3, 2, none⟩ = some (.int .u64 (q : Int)) := cell_drew (hx3.cell 2)
            obtain ⟨hdd, hbb⟩ := fin_w HW6.out HS6.out.b hS
            have HDD := hid hdd
            have HBB := hid hbb
            clear hx2 hx3 hdd hbb hS z0 z1 z2 z3 z4 s0 s1 s2 t0 t1 t2 t3 t4 ft0 ft1 ft2 ft3 ft4 u0 u1 u2 fu0 fu1 fu2
            generalize (((((((((w6.setCell ⟨w.heap.size + 2, 0, none⟩ (.int .i64 sz5)).setCell ⟨w.heap.size + 2, 1, none⟩ (.int .i64 lm5)).setCell ⟨w.heap.size + 2, 2, none⟩ (.slice A5 m5 c5)).setCell ⟨w.heap.size + 2, 3, none⟩ (.slice B5 n5 d5)).setCell ⟨w.heap.size + 2, 4, none⟩ (.slice C5 o5 e5)).setCell ⟨w.heap.size + 3, 0, none⟩ (.int .i64 a)).setCell ⟨w.heap.size + 3, 1, none⟩ (.int .i64 l)).setCell ⟨w.heap.size + 3, 2, none⟩ (.int .u64 (q : Int)))).drew = wf at *
            go_wp2_with fail
            refine bodyPost_ret (v := .tuple #[.agg #[.int .i64 sz5, .int .i64 lm5, .slice A5 m5 c5, .slice B5 n5 d5, .slice C5 o5 e5], .agg #[.int .i64 a, .int .i64 l, .int .u64 (q : Int)], .bool false, .int .i64 ((s.free i).sync.why i r : Int)]) (by simp [results, Tryd.results13, go_sem, r0, r1, r2, r3, r4, v0, v1, v2]) rfl ?_
            exact ⟨_, rfl, HDD.out, HBB.out⟩
        · have e1 := HD.out.trans (mdone_not (by omega))
          have e4 := HY.out.trans (mwhy_low (by omega))
          have e5 := HSD.out.trans (mdisk_two g2 (by omega))
          subst e1 e4 e5
          clear HD HY HSD
          have g4 : ¬ k ≥ 4 := by omega
          go_upto_region 18 with fail
          have z0 : ∀ W, Within (fun j => j = w.heap.size + 2 ∨ j = w.heap.size + 3) w3 W → W.cell? ⟨w.heap.size, 0, none⟩ = some (.int .i64 sz3) := fun W ho => ((HS3.out.loads ho).1).cell 0
          have z1 : ∀ W, Within (fun j => j = w.heap.size + 2 ∨ j = w.heap.size + 3) w3 W → W.cell? ⟨w.heap.size, 1, none⟩ = some (.int .i64 lm3) := fun W ho => ((HS3.out.loads ho).1).cell 1
          have z2 : ∀ W, Within (fun j => j = w.heap.size + 2 ∨ j = w.heap.size + 3) w3 W → W.cell? ⟨w.heap.size, 2, none⟩ = some (.slice A3 m3 c3) := fun W ho => ((HS3.out.loads ho).1).cell 2
          have z3 : ∀ W, Within (fun j => j = w.heap.size + 2 ∨ j = w.heap.size + 3) w3 W → W.cell? ⟨w.heap.size, 3, none⟩ = some (.slice B3 n3 d3) := fun W ho => ((HS3.out.loads ho).1).cell 3
          have z4 : ∀ W, Within (fun j => j = w.heap.size + 2 ∨ j = w.heap.size + 3) w3 W → W.cell? ⟨w.heap.size, 4, none⟩ = some (.slice C3 o3 e3) := fun W ho => ((HS3.out.loads ho).1).cell 4
          have s0 : ∀ W, Within (fun j => j = w.heap.size + 2 ∨ j = w.heap.size + 3) w3 W → W.cell? ⟨w.heap.size + 1, 0, none⟩ = some (.int .i64 a) := fun W ho => ((HS3.out.loads ho).2.cell 0)
          have s1 : ∀ W, Within (fun j => j = w.heap.size + 2 ∨ j = w.heap.size + 3) w3 W → W.cell? ⟨w.heap.size + 1, 1, none⟩ = some (.int .i64 l) := fun W ho => ((HS3.out.loads ho).2.cell 1)
          have s2 : ∀ W, Within (fun j => j = w.heap.size + 2 ∨ j = w.heap.size + 3) w3 W → W.cell? ⟨w.heap.size + 1, 2, none⟩ = some (.int .u64 (q : Int)) := fun W ho => ((HS3.out.loads ho).2.cell 2)
          have t0 := HS3.out.x2.cell 0
          have ft0 := HS3.out.x2.free 0
          have t1 := HS3.out.x2.cell 1
          have ft1 := HS3.out.x2.free 1
          have t2 := HS3.out.x2.cell 2
          have ft2 := HS3.out.x2.free 2
          have t3 := HS3.out.x2.cell 3
          have ft3 := HS3.out.x2.free 3
          have t4 := HS3.out.x2.cell 4
          have ft4 := HS3.out.x2.free 4
          have u0 := HS3.out.x3.cell 0
          have fu0 := HS3.out.x3.free 0
          have u1 := HS3.out.x3.cell 1
          have fu1 := HS3.out.x3.free 1
          have u2 := HS3.out.x3.cell 2
          have fu2 := HS3.out.x3.free 2
          refine wp_region_held_drew (S := Within (fun j => j = w.heap.size + 2 ∨ j = w.heap.size + 3) w3) (by kernel_rfl) (W2.drew _) (fun hS => ?_)
          refine stT 0 hS ?_
          try simp only [putr]
          refine stT 1 hS ?_
          try simp only [putr]
          refine rdH [2] ?_
          refine rcH (fun K hK => ?_) AllReadyH.nil
          go_simp
          refine hK.out _ _ ((by have hz := (W2.set2 (W2.set2 (W2.set2 (W2.set2 (W2.set2 hS 0 (.int .i64 sz3)) 1 (.int .i64 lm3)) 2 (.slice A3 m3 c3)) 3 (.slice B3 n3 d3)) 4 (.slice C3 o3 e3)); simpa only [drew_set12] using hz)) (fun hS2 => ?_)
          clear hK K hS
          have hS := hS2
          try simp only [Act.put]
          refine rdH [3] ?_
          refine rcH (fun K hK => ?_) AllReadyH.nil
          go_simp
          refine hK.out _ _ ((by have hz := (W2.set3 (W2.set3 (W2.set3 hS 0 (.int .i64 a)) 1 (.int .i64 l)) 2 (.int .u64 (q : Int))); simpa only [drew_set12] using hz)) (fun hS3 => ?_)
          clear hK K hS
          have hS := hS3
          try simp only [Act.put]
          refine stT 4 hS ?_
          try simp only [putr]
          refine stT 5 hS ?_
          try simp only [putr]
          refine wpAnyH_done (by kernel_rfl) ?_ _
          obtain ⟨hx2, hx3⟩ := fin8 (y0 := .int .i64 sz3) (y1 := .int .i64 lm3) (y2 := .slice A3 m3 c3) (y3 := .slice B3 n3 d3) (y4 := .slice C3 o3 e3) (u0 := .int .i64 a) (u1 := .int .i64 l) (u2 := .int .u64 (q : Int)) HS3.out.x2 HS3.out.x3
          have r0 : (((((((((w3.setCell ⟨w.heap.size + 2, 0, none⟩ (.int .i64 sz3)).setCell ⟨w.heap.size + 2, 1, none⟩ (.int .i64 lm3)).setCell ⟨w.heap.size + 2, 2, none⟩ (.slice A3 m3 c3)).setCell ⟨w.heap.size + 2, 3, none⟩ (.slice B3 n3 d3)).setCell ⟨w.heap.size + 2, 4, none⟩ (.slice C3 o3 e3)).setCell ⟨w.heap.size + 3, 0, none⟩ (.int .i64 a)).setCell ⟨w.heap.size + 3, 1, none⟩ (.int .i64 l)).setCell ⟨w.heap.size + 3, 2, none⟩ (.int .u64 (q : Int)))).drew.cell? ⟨w.heap.size + 2, 0, none⟩ = some (.int .i64 sz3) := cell_drew (hx2.cell 0)
          have r1 : (((((((((w3.setCell ⟨w.heap.size + 2, 0, none⟩ (.int .i64 sz3)).setCell ⟨w.heap.size + 2, 1, none⟩ (.int .i64 lm3)).setCell ⟨w.heap.size + 2, 2, none⟩ (.slice A3 m3 c3)).setCell ⟨w.heap.size + 2, 3, none⟩ (.slice B3 n3 d3)).setCell ⟨w.heap.size + 2, 4, none⟩ (.slice C3 o3 e3)).setCell ⟨w.heap.size + 3, 0, none⟩ (.int .i64 a)).setCell ⟨w.heap.size + 3, 1, none⟩ (.int .i64 l)).setCell ⟨w.heap.size + 3, 2, none⟩ (.int .u64 (q : Int)))).drew.cell? ⟨w.heap.size + 2, 1, none⟩ = some (.int .i64 lm3) := cell_drew (hx2.cell 1)
          have r2 : (((((((((w3.setCell ⟨w.heap.size + 2, 0, none⟩ (.int .i64 sz3)).setCell ⟨w.heap.size + 2, 1, none⟩ (.int .i64 lm3)).setCell ⟨w.heap.size + 2, 2, none⟩ (.slice A3 m3 c3)).setCell ⟨w.heap.size + 2, 3, none⟩ (.slice B3 n3 d3)).setCell ⟨w.heap.size + 2, 4, none⟩ (.slice C3 o3 e3)).setCell ⟨w.heap.size + 3, 0, none⟩ (.int .i64 a)).setCell ⟨w.heap.size + 3, 1, none⟩ (.int .i64 l)).setCell ⟨w.heap.size + 3, 2, none⟩ (.int .u64 (q : Int)))).drew.cell? ⟨w.heap.size + 2, 2, none⟩ = some (.slice A3 m3 c3) := cell_drew (hx2.cell 2)
          have r3 : (((((((((w3.setCell ⟨w.heap.size + 2, 0, none⟩ (.int .i64 sz3)).setCell ⟨w.heap.size + 2, 1, none⟩ (.int .i64 lm3)).setCell ⟨w.heap.size + 2, 2, none⟩ (.slice A3 m3 c3)).setCell ⟨w.heap.size + 2, 3, none⟩ (.slice B3 n3 d3)).setCell ⟨w.heap.size + 2, 4, none⟩ (.slice C3 o3 e3)).setCell ⟨w.heap.size + 3, 0, none⟩ (.int .i64 a)).setCell ⟨w.heap.size + 3, 1, none⟩ (.int .i64 l)).setCell ⟨w.heap.size + 3, 2, none⟩ (.int .u64 (q : Int)))).drew.cell? ⟨w.heap.size + 2, 3, none⟩ = some (.slice B3 n3 d3) := cell_drew (hx2.cell 3)
          have r4 : (((((((((w3.setCell ⟨w.heap.size + 2, 0, none⟩ (.int .i64 sz3)).setCell ⟨w.heap.size + 2, 1, none⟩ (.int .i64 lm3)).setCell ⟨w.heap.size + 2, 2, none⟩ (.slice A3 m3 c3)).setCell ⟨w.heap.size + 2, 3, none⟩ (.slice B3 n3 d3)).setCell ⟨w.heap.size + 2, 4, none⟩ (.slice C3 o3 e3)).setCell ⟨w.heap.size + 3, 0, none⟩ (.int .i64 a)).setCell ⟨w.heap.size + 3, 1, none⟩ (.int .i64 l)).setCell ⟨w.heap.size + 3, 2, none⟩ (.int .u64 (q : Int)))).drew.cell? ⟨w.heap.size + 2, 4, none⟩ = some (.slice C3 o3 e3) := cell_drew (hx2.cell 4)
          have v0 : (((((((((w3.setCell ⟨w.heap.size + 2, 0, none⟩ (.int .i64 sz3)).setCell ⟨w.heap.size + 2, 1, none⟩ (.int .i64 lm3)).setCell ⟨w.heap.size + 2, 2, none⟩ (.slice A3 m3 c3)).setCell ⟨w.heap.size + 2, 3, none⟩ (.slice B3 n3 d3)).setCell ⟨w.heap.size + 2, 4, none⟩ (.slice C3 o3 e3)).setCell ⟨w.heap.size + 3, 0, none⟩ (.int .i64 a)).setCell ⟨w.heap.size + 3, 1, none⟩ (.int .i64 l)).setCell ⟨w.heap.size + 3, 2, none⟩ (.int .u64 (q : Int)))).drew.cell? ⟨w.heap.size + 3, 0, none⟩ = some (.int .i64 a) := cell_drew (hx3.cell 0)
          have v1 : (((((((((w3.setCell ⟨w.heap.size + 2, 0, none⟩ (.int .i64 sz3)).setCell ⟨w.heap.size + 2, 1, none⟩ (.int .i64 lm3)).setCell ⟨w.heap.size + 2, 2, none⟩ (.slice A3 m3 c3)).setCell ⟨w.heap.size + 2, 3, none⟩ (.slice B3 n3 d3)).setCell ⟨w.heap.size + 2, 4, none⟩ (.slice C3 o3 e3)).setCell ⟨w.heap.size + 3, 0, none⟩ (.int .i64 a)).setCell ⟨w.heap.size + 3, 1, none⟩ (.int .i64 l)).setCell ⟨w.heap.size + 3, 2, none⟩ (.int .u64 (q : Int)))).drew.cell? ⟨w.heap.size + 3, 1, none⟩ = some (.int .i64 l) := cell_drew (hx3.cell 1)
          have v2 : (((((((((w3.setCell ⟨w.heap.size + 2, 0, none⟩ (.int .i64 sz3)).setCell ⟨w.heap.size + 2, 1, none⟩ (.int .i64 lm3)).setCell ⟨w.heap.size + 2, 2, none⟩ (.slice A3 m3 c3)).setCell ⟨w.heap.size + 2, 3, none⟩ (.slice B3 n3 d3)).setCell ⟨w.heap.size + 2, 4, none⟩ (.slice C3 o3 e3)).setCell ⟨w.heap.size + 3, 0, none⟩ (.int .i64 a)).setCell ⟨w.heap.size + 3, 1, none⟩ (.int .i64 l)).setCell ⟨w.heap.size + 3, 2, none⟩ (.int .u64 (q : Int)))).drew.cell? ⟨w.heap.size + 3, 2, none⟩ = some (.int .u64 (q : Int)) := cell_drew (hx3.cell 2)
          obtain ⟨hdd, hbb⟩ := fin_w HS3.out.d HS3.out.b hS
          have HDD := hid hdd
          have HBB := hid hbb
          clear hx2 hx3 hdd hbb hS z0 z1 z2 z3 z4 s0 s1 s2 t0 t1 t2 t3 t4 ft0 ft1 ft2 ft3 ft4 u0 u1 u2 fu0 fu1 fu2
          generalize (((((((((w3.setCell ⟨w.heap.size + 2, 0, none⟩ (.int .i64 sz3)).setCell ⟨w.heap.size + 2, 1, none⟩ (.int .i64 lm3)).setCell ⟨w.heap.size + 2, 2, none⟩ (.slice A3 m3 c3)).setCell ⟨w.heap.size + 2, 3, none⟩ (.slice B3 n3 d3)).setCell ⟨w.heap.size + 2, 4, none⟩ (.slice C3 o3 e3)).setCell ⟨w.heap.size + 3, 0, none⟩ (.int .i64 a)).setCell ⟨w.heap.size + 3, 1, none⟩ (.int .i64 l)).setCell ⟨w.heap.size + 3, 2, none⟩ (.int .u64 (q : Int)))).drew = wf at *
          go_wp2_with fail
          refine bodyPost_ret (v := .tuple #[.agg #[.int .i64 sz3, .int .i64 lm3, .slice A3 m3 c3, .slice B3 n3 d3, .slice C3 o3 e3], .agg #[.int .i64 a, .int .i64 l, .int .u64 (q : Int)], .bool false, .int .i64 0]) (by simp [results, Tryd.results13, go_sem, r0, r1, r2, r3, r4, v0, v1, v2]) rfl ?_
          exact ⟨_, rfl, HDD.out, HBB.out⟩
      · have e1 := HD.out.trans (mdone_not (by omega))
        have e4 := HY.out.trans (mwhy_low (by omega))
        have e5 := HSD.out.trans (mdisk_one g1 (by omega))
        subst e1 e4 e5
        clear HD HY HSD
        have g3 : ¬ k ≥ 3 := by omega
        have g4 : ¬ k ≥ 4 := by omega
        go_upto_region 18 with fail
        have z0 : ∀ W, Within (fun j => j = w.heap.size + 2 ∨ j = w.heap.size + 3) w2 W → W.cell? ⟨w.heap.size, 0, none⟩ = some (.int .i64 sz2) := fun W ho => ((HS2.out.loads ho).1).cell 0
        have z1 : ∀ W, Within (fun j => j = w.heap.size + 2 ∨ j = w.heap.size + 3) w2 W → W.cell? ⟨w.heap.size, 1, none⟩ = some (.int .i64 lm2) := fun W ho => ((HS2.out.loads ho).1).cell 1
        have z2 : ∀ W, Within (fun j => j = w.heap.size + 2 ∨ j = w.heap.size + 3) w2 W → W.cell? ⟨w.heap.size, 2, none⟩ = some (.slice A2 m2 c2) := fun W ho => ((HS2.out.loads ho).1).cell 2
        have z3 : ∀ W, Within (fun j => j = w.heap.size + 2 ∨ j = w.heap.size + 3) w2 W → W.cell? ⟨w.heap.size, 3, none⟩ = some (.slice B2 n2 d2) := fun W ho => ((HS2.out.loads ho).1).cell 3
        have z4 : ∀ W, Within (fun j => j = w.heap.size + 2 ∨ j = w.heap.size + 3) w2 W → W.cell? ⟨w.heap.size, 4, none⟩ = some (.slice C2 o2 e2) := fun W ho => ((HS2.out.loads ho).1).cell 4
        have s0 : ∀ W, Within (fun j => j = w.heap.size + 2 ∨ j = w.heap.size + 3) w2 W → W.cell? ⟨w.heap.size + 1, 0, none⟩ = some (.int .i64 a) := fun W ho => ((HS2.out.loads ho).2.cell 0)
        have s1 : ∀ W, Within (fun j => j = w.heap.size + 2 ∨ j = w.heap.size + 3) w2 W → W.cell? ⟨w.heap.size + 1, 1, none⟩ = some (.int .i64 l) := fun W ho => ((HS2.out.loads ho).2.cell 1)
        have s2 : ∀ W, Within (fun j => j = w.heap.size + 2 ∨ j = w.heap.size + 3) w2 W → W.cell? ⟨w.heap.size + 1, 2, none⟩ = some (.int .u64 (q : Int)) := fun W ho => ((HS2.out.loads ho).2.cell 2)
        have t0 := HS2.out.x2.cell 0
        have ft0 := HS2.out.x2.free 0
        have t1 := HS2.out.x2.cell 1
        have ft1 := HS2.out.x2.free 1
        have t2 := HS2.out.x2.cell 2
        have ft2 := HS2.out.x2.free 2
        have t3 := HS2.out.x2.cell 3
        have ft3 := HS2.out.x2.free 3
        have t4 := HS2.out.x2.cell 4
        have ft4 := HS2.out.x2.free 4
        have u0 := HS2.out.x3.cell 0
        have fu0 := HS2.out.x3.free 0
        have u1 := HS2.out.x3.cell 1
        have fu1 := HS2.out.x3.free 1
        have u2 := HS2.out.x3.cell 2
        have fu2 := HS2.out.x3.free 2
        refine wp_region_held_drew (S := Within (fun j => j = w.heap.size + 2 ∨ j = w.heap.size + 3) w2) (by kernel_rfl) (W2.drew _) (fun hS => ?_)
        refine stT 0 hS ?_
        try simp only [putr]
        refine stT 1 hS ?_
        try simp only [putr]
        refine rdH [2] ?_
        refine rcH (fun K hK => ?_) AllReadyH.nil
        go_simp
        refine hK.out _ _ ((by have hz := (W2.set2 (W2.set2 (W2.set2 (W2.set2 (W2.set2 hS 0 (.int .i64 sz2)) 1 (.int .i64 lm2)) 2 (.slice A2 m2 c2)) 3 (.slice B2 n2 d2)) 4 (.slice C2 o2 e2)); simpa only [drew_set12] using hz)) (fun hS2 => ?_)
        clear hK K hS
        have hS := hS2
        try simp only [Act.put]
        refine rdH [3] ?_
        refine rcH (fun K hK => ?_) AllReadyH.nil
        go_simp
        refine hK.out _ _ ((by have hz := (W2.set3 (W2.set3 (W2.set3 hS 0 (.int .i64 a)) 1 (.int .i64 l)) 2 (.int .u64 (q : Int))); simpa only [drew_set12] using hz)) (fun hS3 => ?_)
        clear hK K hS
        have hS := hS3
        try simp only [Act.put]
        refine stT 4 hS ?_
        try simp only [putr]
        refine stT 5 hS ?_
        try simp only [putr]
        refine wpAnyH_done (by kernel_rfl) ?_ _
        obtain ⟨hx2, hx3⟩ := fin8 (y0 := .int .i64 sz2) (y1 := .int .i64 lm2) (y2 := .slice A2 m2 c2) (y3 := .slice B2 n2 d2) (y4 := .slice C2 o2 e2) (u0 := .int .i64 a) (u1 := .int .i64 l) (u2 := .int .u64 (q : Int)) HS2.out.x2 HS2.out.x3
        have r0 : (((((((((w2.setCell ⟨w.heap.size + 2, 0, none⟩ (.int .i64 sz2)).setCell ⟨w.heap.size + 2, 1, none⟩ (.int .i64 lm2)).setCell ⟨w.heap.size + 2, 2, none⟩ (.slice A2 m2 c2)).setCell ⟨w.heap.size + 2, 3, none⟩ (.slice B2 n2 d2)).setCell ⟨w.heap.size + 2, 4, none⟩ (.slice C2 o2 e2)).setCell ⟨w.heap.size + 3, 0, none⟩ (.int .i64 a)).setCell ⟨w.heap.size + 3, 1, none⟩ (.int .i64 l)).setCell ⟨w.heap.size + 3, 2, none⟩ (.int .u64 (q : Int)))).drew.cell? ⟨w.heap.size + 2, 0, none⟩ = some (.int .i64 sz2) := cell_drew (hx2.cell 0)
        have r1 : (((((((((w2.setCell ⟨w.heap.size + 2, 0, none⟩ (.int .i64 sz2)).setCell ⟨w.heap.size + 2, 1, none⟩ (.int .i64 lm2)).setCell ⟨w.heap.size + 2, 2, none⟩ (.slice A2 m2 c2)).setCell ⟨w.heap.size + 2, 3, none⟩ (.slice B2 n2 d2)).setCell ⟨w.heap.size + 2, 4, none⟩ (.slice C2 o2 e2)).setCell ⟨w.heap.size + 3, 0, none⟩ (.int .i64 a)).setCell ⟨w.heap.size + 3, 1, none⟩ (.int .i64 l)).setCell ⟨w.heap.size + 3, 2, none⟩ (.int .u64 (q : Int)))).drew.cell? ⟨w.heap.size + 2, 1, none⟩ = some (.int .i64 lm2) := cell_drew (hx2.cell 1)
        have r2 : (((((((((w2.setCell ⟨w.heap.size + 2, 0, none⟩ (.int .i64 sz2)).setCell ⟨w.heap.size + 2, 1, none⟩ (.int .i64 lm2)).setCell ⟨w.heap.size + 2, 2, none⟩ (.slice A2 m2 c2)).setCell ⟨w.heap.size + 2, 3, none⟩ (.slice B2 n2 d2)).setCell ⟨w.heap.size + 2, 4, none⟩ (.slice C2 o2 e2)).setCell ⟨w.heap.size + 3, 0, none⟩ (.int .i64 a)).setCell ⟨w.heap.size + 3, 1, none⟩ (.int .i64 l)).setCell ⟨w.heap.size + 3, 2, none⟩ (.int .u64 (q : Int)))).drew.cell? ⟨w.heap.size + 2, 2, none⟩ = some (.slice A2 m2 c2) := cell_drew (hx2.cell 2)
        have r3 : (((((((((w2.setCell ⟨w.heap.size + 2, 0, none⟩ (.int .i64 sz2)).setCell ⟨w.heap.size + 2, 1, none⟩ (.int .i64 lm2)).setCell ⟨w.heap.size + 2, 2, none⟩ (.slice A2 m2 c2)).setCell ⟨w.heap.size + 2, 3, none⟩ (.slice B2 n2 d2)).setCell ⟨w.heap.size + 2, 4, none⟩ (.slice C2 o2 e2)).setCell ⟨w.heap.size + 3, 0, none⟩ (.int .i64 a)).setCell ⟨w.heap.size + 3, 1, none⟩ (.int .i64 l)).setCell ⟨w.heap.size + 3, 2, none⟩ (.int .u64 (q : Int)))).drew.cell? ⟨w.heap.size + 2, 3, none⟩ = some (.slice B2 n2 d2) := cell_drew (hx2.cell 3)
        have r4 : (((((((((w2.setCell ⟨w.heap.size + 2, 0, none⟩ (.int .i64 sz2)).setCell ⟨w.heap.size + 2, 1, none⟩ (.int .i64 lm2)).setCell ⟨w.heap.size + 2, 2, none⟩ (.slice A2 m2 c2)).setCell ⟨w.heap.size + 2, 3, none⟩ (.slice B2 n2 d2)).setCell ⟨w.heap.size + 2, 4, none⟩ (.slice C2 o2 e2)).setCell ⟨w.heap.size + 3, 0, none⟩ (.int .i64 a)).setCell ⟨w.heap.size + 3, 1, none⟩ (.int .i64 l)).setCell ⟨w.heap.size + 3, 2, none⟩ (.int .u64 (q : Int)))).drew.cell? ⟨w.heap.size + 2, 4, none⟩ = some (.slice C2 o2 e2) := cell_drew (hx2.cell 4)
        have v0 : (((((((((w2.setCell ⟨w.heap.size + 2, 0, none⟩ (.int .i64 sz2)).setCell ⟨w.heap.size + 2, 1, none⟩ (.int .i64 lm2)).setCell ⟨w.heap.size + 2, 2, none⟩ (.slice A2 m2 c2)).setCell ⟨w.heap.size + 2, 3, none⟩ (.slice B2 n2 d2)).setCell ⟨w.heap.size + 2, 4, none⟩ (.slice C2 o2 e2)).setCell ⟨w.heap.size + 3, 0, none⟩ (.int .i64 a)).setCell ⟨w.heap.size + 3, 1, none⟩ (.int .i64 l)).setCell ⟨w.heap.size + 3, 2, none⟩ (.int .u64 (q : Int)))).drew.cell? ⟨w.heap.size + 3, 0, none⟩ = some (.int .i64 a) := cell_drew (hx3.cell 0)
        have v1 : (((((((((w2.setCell ⟨w.heap.size + 2, 0, none⟩ (.int .i64 sz2)).setCell ⟨w.heap.size + 2, 1, none⟩ (.int .i64 lm2)).setCell ⟨w.heap.size + 2, 2, none⟩ (.slice A2 m2 c2)).setCell ⟨w.heap.size + 2, 3, none⟩ (.slice B2 n2 d2)).setCell ⟨w.heap.size + 2, 4, none⟩ (.slice C2 o2 e2)).setCell ⟨w.heap.size + 3, 0, none⟩ (.int .i64 a)).setCell ⟨w.heap.size + 3, 1, none⟩ (.int .i64 l)).setCell ⟨w.heap.size + 3, 2, none⟩ (.int .u64 (q : Int)))).drew.cell? ⟨w.heap.size + 3, 1, none⟩ = some (.int .i64 l) := cell_drew (hx3.cell 1)
        have v2 : (((((((((w2.setCell ⟨w.heap.size + 2, 0, none⟩ (.int .i64 sz2)).setCell ⟨w.heap.size + 2, 1, none⟩ (.int .i64 lm2)).setCell ⟨w.heap.size + 2, 2, none⟩ (.slice A2 m2 c2)).setCell ⟨w.heap.size + 2, 3, none⟩ (.slice B2 n2 d2)).setCell ⟨w.heap.size + 2, 4, none⟩ (.slice C2 o2 e2)).setCell ⟨w.heap.size + 3, 0, none⟩ (.int .i64 a)).setCell ⟨w.heap.size + 3, 1, none⟩ (.int .i64 l)).setCell ⟨w.heap.size + 3, 2, none⟩ (.int .u64 (q : Int)))).drew.cell? ⟨w.heap.size + 3, 2, none⟩ = some (.int .u64 (q : Int)) := cell_drew (hx3.cell 2)
        obtain ⟨hdd, hbb⟩ := fin_w HS2.out.d HS2.out.b hS
        have HDD := hid hdd
        have HBB := hid hbb
        clear hx2 hx3 hdd hbb hS z0 z1 z2 z3 z4 s0 s1 s2 t0 t1 t2 t3 t4 ft0 ft1 ft2 ft3 ft4 u0 u1 u2 fu0 fu1 fu2
        generalize (((((((((w2.setCell ⟨w.heap.size + 2, 0, none⟩ (.int .i64 sz2)).setCell ⟨w.heap.size + 2, 1, none⟩ (.int .i64 lm2)).setCell ⟨w.heap.size + 2, 2, none⟩ (.slice A2 m2 c2)).setCell ⟨w.heap.size + 2, 3, none⟩ (.slice B2 n2 d2)).setCell ⟨w.heap.size + 2, 4, none⟩ (.slice C2 o2 e2)).setCell ⟨w.heap.size + 3, 0, none⟩ (.int .i64 a)).setCell ⟨w.heap.size + 3, 1, none⟩ (.int .i64 l)).setCell ⟨w.heap.size + 3, 2, none⟩ (.int .u64 (q : Int)))).drew = wf at *
        go_wp2_with fail
        refine bodyPost_ret (v := .tuple #[.agg #[.int .i64 sz2, .int .i64 lm2, .slice A2 m2 c2, .slice B2 n2 d2, .slice C2 o2 e2], .agg #[.int .i64 a, .int .i64 l, .int .u64 (q : Int)], .bool false, .int .i64 0]) (by simp [results, Tryd.results13, go_sem, r0, r1, r2, r3, r4, v0, v1, v2]) rfl ?_
        exact ⟨_, rfl, HDD.out, HBB.out⟩
    · have e1 := HD.out.trans (mdone_not (by omega))
      have e4 := HY.out.trans (mwhy_low (by omega))
      have e5 := HSD.out.trans (mdisk_low (by omega))
      subst e1 e4 e5
      clear HD HY HSD
      have g2 : ¬ k ≥ 2 := by omega
      have g3 : ¬ k ≥ 3 := by omega
      have g4 : ¬ k ≥ 4 := by omega
      go_upto_region 18 with fail
      have z0 : ∀ W, Within (fun j => j = w.heap.size + 2 ∨ j = w.heap.size + 3) wc W → W.cell? ⟨w.heap.size, 0, none⟩ = some (.int .i64 sz0) := fun W ho => ((HSc.out.loads ho).1).cell 0
      have z1 : ∀ W, Within (fun j => j = w.heap.size + 2 ∨ j = w.heap.size + 3) wc W → W.cell? ⟨w.heap.size, 1, none⟩ = some (.int .i64 lm0) := fun W ho => ((HSc.out.loads ho).1).cell 1
      have z2 : ∀ W, Within (fun j => j = w.heap.size + 2 ∨ j = w.heap.size + 3) wc W → W.cell? ⟨w.heap.size, 2, none⟩ = some (.slice A0 m0 c0) := fun W ho => ((HSc.out.loads ho).1).cell 2
      have z3 : ∀ W, Within (fun j => j = w.heap.size + 2 ∨ j = w.heap.size + 3) wc W → W.cell? ⟨w.heap.size, 3, none⟩ = some (.slice B0 n0 d0) := fun W ho => ((HSc.out.loads ho).1).cell 3
      have z4 : ∀ W, Within (fun j => j = w.heap.size + 2 ∨ j = w.heap.size + 3) wc W → W.cell? ⟨w.heap.size, 4, none⟩ = some (.slice C0 o0 e0) := fun W ho => ((HSc.out.loads ho).1).cell 4
      have s0 : ∀ W, Within (fun j => j = w.heap.size + 2 ∨ j = w.heap.size + 3) wc W → W.cell? ⟨w.heap.size + 1, 0, none⟩ = some (.int .i64 a) := fun W ho => ((HSc.out.loads ho).2.cell 0)
      have s1 : ∀ W, Within (fun j => j = w.heap.size + 2 ∨ j = w.heap.size + 3) wc W → W.cell? ⟨w.heap.size + 1, 1, none⟩ = some (.int .i64 l) := fun W ho => ((HSc.out.loads ho).2.cell 1)
      have s2 : ∀ W, Within (fun j => j = w.heap.size + 2 ∨ j = w.heap.size + 3) wc W → W.cell? ⟨w.heap.size + 1, 2, none⟩ = some (.int .u64 (q : Int)) := fun W ho => ((HSc.out.loads ho).2.cell 2)
      have t0 := HSc.out.x2.cell 0
      have ft0 := HSc.out.x2.free 0
      have t1 := HSc.out.x2.cell 1
      have ft1 := HSc.out.x2.free 1
      have t2 := HSc.out.x2.cell 2
      have ft2 := HSc.out.x2.free 2
      have t3 := HSc.out.x2.cell 3
      have ft3 := HSc.out.x2.free 3
      have t4 := HSc.out.x2.cell 4
      have ft4 := HSc.out.x2.free 4
      have u0 := HSc.out.x3.cell 0
      have fu0 := HSc.out.x3.free 0
      have u1 := HSc.out.x3.cell 1
      have fu1 := HSc.out.x3.free 1
      have u2 := HSc.out.x3.cell 2
      have fu2 := HSc.out.x3.free 2
      refine wp_region_held_drew (S := Within (fun j => j = w.heap.size + 2 ∨ j = w.heap.size + 3) wc) (by kernel_rfl) (W2.drew _) (fun hS => ?_)
      refine stT 0 hS ?_
      try simp only [putr]
      refine stT 1 hS ?_
      try simp only [putr]
      refine rdH [2] ?_
      refine rcH (fun K hK => ?_) AllReadyH.nil
      go_simp
      refine hK.out _ _ ((by have hz := (W2.set2 (W2.set2 (W2.set2 (W2.set2 (W2.set2 hS 0 (.int .i64 sz0)) 1 (.int .i64 lm0)) 2 (.slice A0 m0 c0)) 3 (.slice B0 n0 d0)) 4 (.slice C0 o0 e0)); simpa only [drew_set12] using hz)) (fun hS2 => ?_)
      clear hK K hS
      have hS := hS2
      try simp only [Act.put]
      refine rdH [3] ?_
      refine rcH (fun K hK => ?_) AllReadyH.nil
      go_simp
      refine hK.out _ _ ((by have hz := (W2.set3 (W2.set3 (W2.set3 hS 0 (.int .i64 a)) 1 (.int .i64 l)) 2 (.int .u64 (q : Int))); simpa only [drew_set12] using hz)) (fun hS3 => ?_)
      clear hK K hS
      have hS := hS3
      try simp only [Act.put]
      refine stT 4 hS ?_
      try simp only [putr]
      refine stT 5 hS ?_
      try simp only [putr]
      refine wpAnyH_done (by kernel_rfl) ?_ _
      obtain ⟨hx2, hx3⟩ := fin8 (y0 := .int .i64 sz0) (y1 := .int .i64 lm0) (y2 := .slice A0 m0 c0) (y3 := .slice B0 n0 d0) (y4 := .slice C0 o0 e0) (u0 := .int .i64 a) (u1 := .int .i64 l) (u2 := .int .u64 (q : Int)) HSc.out.x2 HSc.out.x3
      have r0 : (((((((((wc.setCell ⟨w.heap.size + 2, 0, none⟩ (.int .i64 sz0)).setCell ⟨w.heap.size + 2, 1, none⟩ (.int .i64 lm0)).setCell ⟨w.heap.size + 2, 2, none⟩ (.slice A0 m0 c0)).setCell ⟨w.heap.size + 2, 3, none⟩ (.slice B0 n0 d0)).setCell ⟨w.heap.size + 2, 4, none⟩ (.slice C0 o0 e0)).setCell ⟨w.heap.size + 3, 0, none⟩ (.int .i64 a)).setCell ⟨w.heap.size + 3, 1, none⟩ (.int .i64 l)).setCell ⟨w.heap.size + 3, 2, none⟩ (.int .u64 (q : Int)))).drew.cell? ⟨w.heap.size + 2, 0, none⟩ = some (.int .i64 sz0) := cell_drew (hx2.cell 0)
      have r1 : (((((((((wc.setCell ⟨w.heap.size + 2, 0, none⟩ (.int .i64 sz0)).setCell ⟨w.heap.size + 2, 1, none⟩ (.int .i64 lm0)).setCell ⟨w.heap.size + 2, 2, none⟩ (.slice A0 m0 c0)).setCell ⟨w.heap.size + 2, 3, none⟩ (.slice B0 n0 d0)).setCell ⟨w.heap.size + 2, 4, none⟩ (.slice C0 o0 e0)).setCell ⟨w.heap.size + 3, 0, none⟩ (.int .i64 a)).setCell ⟨w.heap.size + 3, 1, none⟩ (.int .i64 l)).setCell ⟨w.heap.size + 3, 2, none⟩ (.int .u64 (q : Int)))).drew.cell? ⟨w.heap.size + 2, 1, none⟩ = some (.int .i64 lm0) := cell_drew (hx2.cell 1)
      have r2 : (((((((((wc.setCell ⟨w.heap.size + 2, 0, none⟩ (.int .i64 sz0)).setCell ⟨w.heap.size + 2, 1, none⟩ (.int .i64 lm0)).setCell ⟨w.heap.size + 2, 2, none⟩ (.slice A0 m0 c0)).setCell ⟨w.heap.size + 2, 3, none⟩ (.slice B0 n0 d0)).setCell ⟨w.heap.size + 2, 4, none⟩ (.slice C0 o0 e0)).setCell ⟨w.heap.size + 3, 0, none⟩ (.int .i64 a)).setCell ⟨w.heap.size + 3, 1, none⟩ (.int .i64 l)).setCell ⟨w.heap.size + 3, 2, none⟩ (.int .u64 (q : Int)))).drew.cell? ⟨w.heap.size + 2, 2, none⟩ = some (.slice A0 m0 c0) := cell_drew (hx2.cell 2)
      have r3 : (((((((((wc.setCell ⟨w.heap.size + 2, 0, none⟩ (.int .i64 sz0)).setCell ⟨w.heap.size + 2, 1, none⟩ (.int .i64 lm0)).setCell ⟨w.heap.size + 2, 2, none⟩ (.slice A0 m0 c0)).setCell ⟨w.heap.size + 2, 3, none⟩ (.slice B0 n0 d0)).setCell ⟨w.heap.size + 2, 4, none⟩ (.slice C0 o0 e0)).setCell ⟨w.heap.size + 3, 0, none⟩ (.int .i64 a)).setCell ⟨w.heap.size + 3, 1, none⟩ (.int .i64 l)).setCell ⟨w.heap.size + 3, 2, none⟩ (.int .u64 (q : Int)))).drew.cell? ⟨w.heap.size + 2, 3, none⟩ = some (.slice B0 n0 d0) := cell_drew (hx2.cell 3)
      have r4 : (((((((((wc.setCell ⟨w.heap.size + 2, 0, none⟩ (.int .i64 sz0)).setCell ⟨w.heap.size + 2, 1, none⟩ (.int .i64 lm0)).setCell ⟨w.heap.size + 2, 2, none⟩ (.slice A0 m0 c0)).setCell ⟨w.heap.size + 2, 3, none⟩ (.slice B0 n0 d0)).setCell ⟨w.heap.size + 2, 4, none⟩ (.slice C0 o0 e0)).setCell ⟨w.heap.size + 3, 0, none⟩ (.int .i64 a)).setCell ⟨w.heap.size + 3, 1, none⟩ (.int .i64 l)).setCell ⟨w.heap.size + 3, 2, none⟩ (.int .u64 (q : Int)))).drew.cell? ⟨w.heap.size + 2, 4, none⟩ = some (.slice C0 o0 e0) := cell_drew (hx2.cell 4)
      have v0 : (((((((((wc.setCell ⟨w.heap.size + 2, 0, none⟩ (.int .i64 sz0)).setCell ⟨w.heap.size + 2, 1, none⟩ (.int .i64 lm0)).setCell ⟨w.heap.size + 2, 2, none⟩ (.slice A0 m0 c0)).setCell ⟨w.heap.size + 2, 3, none⟩ (.slice B0 n0 d0)).setCell ⟨w.heap.size + 2, 4, none⟩ (.slice C0 o0 e0)).setCell ⟨w.heap.size + 3, 0, none⟩ (.int .i64 a)).setCell ⟨w.heap.size + 3, 1, none⟩ (.int .i64 l)).setCell ⟨w.heap.size + 3, 2, none⟩ (.int .u64 (q : Int)))).drew.cell? ⟨w.heap.size + 3, 0, none⟩ = some (.int .i64 a) := cell_drew (hx3.cell 0)
      have v1 : (((((((((wc.setCell ⟨w.heap.size + 2, 0, none⟩ (.int .i64 sz0)).setCell ⟨w.heap.size + 2, 1, none⟩ (.int .i64 lm0)).setCell ⟨w.heap.size + 2, 2, none⟩ (.slice A0 m0 c0)).setCell ⟨w.heap.size + 2, 3, none⟩ (.slice B0 n0 d0)).setCell ⟨w.heap.size + 2, 4, none⟩ (.slice C0 o0 e0)).setCell ⟨w.heap.size + 3, 0, none⟩ (.int .i64 a)).setCell ⟨w.heap.size + 3, 1, none⟩ (.int .i64 l)).setCell ⟨w.heap.size + 3, 2, none⟩ (.int .u64 (q : Int)))).drew.cell? ⟨w.heap.size + 3, 1, none⟩ = some (.int .i64 l) := cell_drew (hx3.cell 1)
      have v2 : (((((((((wc.setCell ⟨w.heap.size + 2, 0, none⟩ (.int .i64 sz0)).setCell ⟨w.heap.size + 2, 1, none⟩ (.int .i64 lm0)).setCell ⟨w.heap.size + 2, 2, none⟩ (.slice A0 m0 c0)).setCell ⟨w.heap.size + 2, 3, none⟩ (.slice B0 n0 d0)).setCell ⟨w.heap.size + 2, 4, none⟩ (.slice C0 o0 e0)).setCell ⟨w.heap.size + 3, 0, none⟩ (.int .i64 a)).setCell ⟨w.heap.size + 3, 1, none⟩ (.int .i64 l)).setCell ⟨w.heap.size + 3, 2, none⟩ (.int .u64 (q : Int)))).drew.cell? ⟨w.heap.size + 3, 2, none⟩ = some (.int .u64 (q : Int)) := cell_drew (hx3.cell 2)
      obtain ⟨hdd, hbb⟩ := fin_w HSc.out.d HSc.out.b hS
      have HDD := hid hdd
      have HBB := hid hbb
      clear hx2 hx3 hdd hbb hS z0 z1 z2 z3 z4 s0 s1 s2 t0 t1 t2 t3 t4 ft0 ft1 ft2 ft3 ft4 u0 u1 u2 fu0 fu1 fu2
      generalize (((((((((wc.setCell ⟨w.heap.size + 2, 0, none⟩ (.int .i64 sz0)).setCell ⟨w.heap.size + 2, 1, none⟩ (.int .i64 lm0)).setCell ⟨w.heap.size + 2, 2, none⟩ (.slice A0 m0 c0)).setCell ⟨w.heap.size + 2, 3, none⟩ (.slice B0 n0 d0)).setCell ⟨w.heap.size + 2, 4, none⟩ (.slice C0 o0 e0)).setCell ⟨w.heap.size + 3, 0, none⟩ (.int .i64 a)).setCell ⟨w.heap.size + 3, 1, none⟩ (.int .i64 l)).setCell ⟨w.heap.size + 3, 2, none⟩ (.int .u64 (q : Int)))).drew = wf at *
      go_wp2_with fail
      refine bodyPost_ret (v := .tuple #[.agg #[.int .i64 sz0, .int .i64 lm0, .slice A0 m0 c0, .slice B0 n0 d0, .slice C0 o0 e0], .agg #[.int .i64 a, .int .i64 l, .int .u64 (q : Int)], .bool false, .int .i64 0]) (by simp [results, Tryd.results13, go_sem, r0, r1, r2, r3, r4, v0, v1, v2]) rfl ?_
      exact ⟨_, rfl, HDD.out, HBB.out⟩

end Go.Proofs.YtngclmjefadokaaDoor
