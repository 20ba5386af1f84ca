/-
  Both sides of a meta page: the landed one and the document's, each beside the other.
-/
import Derived.Test.YtngclmjefadokaaDoorR12Steps
import Derived.Test.YtngclmjefadokaaDoorMAwake
import Derived.Test.YtngclmjefadokaaDoorMFew
import Derived.Test.YtngclmjefadokaaDoorJR6
import Derived.Test.YtngclmjefadokaaDoorJSL
namespace Go.Proofs.YtngclmjefadokaaDoor
open Go Go.RowKit

/-! what both answer -/
def fD (s : Dk) (a : Int) (nx q : Nat) (body : List UInt8) (k : Int) : Bool := if 480 < body.length then false else mdone s (a + (nx : Int)) (renc (next64 q) body) k
def fY (s : Dk) (a : Int) (nx q : Nat) (body : List UInt8) (k : Int) : Nat := if 480 < body.length then 120 else mwhy s (a + (nx : Int)) (renc (next64 q) body) k
def fS (s : Dk) (a : Int) (nx q : Nat) (body : List UInt8) (k : Int) : Dk := if 480 < body.length then s else mdisk s (a + (nx : Int)) (renc (next64 q) body) k
theorem mdisk_pend (s : Dk) (i : Int) (r : List UInt8) (k : Int) : (mdisk s i r k).pend.length ≤ s.pend.length + 2 := by
  have h1 := free_pend s i
  have h2 : ((s.free i).sync.write i r).pend.length ≤ 1 := by
    unfold Dk.write
    split
    · exact Nat.le_refl _
    · exact Nat.zero_le _
  unfold mdisk
  split
  · omega
  · split
    · omega
    · split
      · exact Nat.zero_le _
      · split
        · omega
        · split
          · exact Nat.zero_le _
          · omega
theorem fS_pend (s : Dk) (a : Int) (nx q : Nat) (body : List UInt8) (k : Int) : (fS s a nx q body k).pend.length ≤ s.pend.length + 2 := by
  unfold fS
  split
  · omega
  · exact mdisk_pend _ _ _ _
/-- the landed steps -/
theorem msteps_f {w : World} {b d : Nat} {M R : Nat → Prop} {s : Dk} {a : Int} {nx q : Nat} (h : MA w b d M R s a nx q) (hm0 : ¬ M 0) (hT : Table w) (body : List UInt8) (hp : s.pend.length ≤ 900000) (k : Int) :
    Calls Tryd.prog 14 #[.pointer (some ⟨b, 0, none⟩), .string (bst body), .int .i64 k] w fun e w' =>
      e = .returned (.tuple #[.bool (fD s a nx q body k), .int .i64 (fY s a nx q body k : Int)]) ∧ ∃ M' R', MA w' b d M' R' (fS s a nx q body k) a (if (fD s a nx q body k) then 1 - nx else nx) (if (fD s a nx q body k) then next64 q else q) ∧ MTurns b M R w M' R' w' := by
  unfold fD fY fS
  by_cases hl : 480 < body.length
  · simp only [if_pos hl]
    exact (msteps_long hl).mono fun e w' ⟨he, hw⟩ => ⟨he, M, R, hw ▸ h, hw ▸ MTurns.refl b M R w⟩
  · simp only [if_neg hl]
    exact msteps_is h hm0 hT (by omega) hp k
/-- the document's steps -/
theorem steps12_f {P : Nat → Prop} {w : World} {v : Value} {s : Dk} {a l : Int} {nx q : Nat} (body : List UInt8) (hD : D6 P w v s) (ha0 : 0 ≤ a) (ha1 : a ≤ 65534) (hl : l = 0 ∧ nx = 1 ∨ l ≠ 0 ∧ nx = 0) (hp : s.pend.length ≤ 900000) (k : Int) :
    Calls Tryd.prog 13 #[v, .agg #[.int .i64 a, .int .i64 l, .int .u64 (q : Int)], .string (bst body), .int .i64 k] w fun e w' => ∃ v', e = .returned (.tuple #[v', .agg #[.int .i64 a, .int .i64 (if (fD s a nx q body k) then (nx : Int) else l), .int .u64 ((if (fD s a nx q body k) then next64 q else q : Nat) : Int)], .bool (fD s a nx q body k), .int .i64 (fY s a nx q body k : Int)]) ∧
      D6 (fun j => P j ∨ w.heap.size ≤ j) w' v' (fS s a nx q body k) ∧ Below w.heap.size w w' := by
  unfold fD fY fS
  by_cases hlg : 480 < body.length
  · simp only [if_pos hlg]
    exact steps12_long hD hlg k
  · simp only [if_neg hlg]
    refine (steps12_is hD ha0 ha1 hl hp (by omega) k).mono fun e w' ⟨v', he, hd, hb⟩ => ⟨v', ?_, hd, hb⟩
    rw [he]
    cases mdone s (a + (nx : Int)) (renc (next64 q) body) k <;> rfl
theorem ll_next {D : Bool} {l : Int} {nx : Nat} (h : l = 0 ∧ nx = 1 ∨ l ≠ 0 ∧ nx = 0) : (if D then (nx : Int) else l) = 0 ∧ (if D then 1 - nx else nx) = 1 ∨ (if D then (nx : Int) else l) ≠ 0 ∧ (if D then 1 - nx else nx) = 0 := by
  cases D with
  | false => exact h
  | true => rcases h with ⟨_, rfl⟩ | ⟨_, rfl⟩ <;> simp
theorem ll_of {m : Mo} {l : Int} (h : lastI m l) : l = 0 ∧ m.nx = 1 ∨ l ≠ 0 ∧ m.nx = 0 := by
  rcases h with ⟨h1, h2, _⟩ | ⟨h1, h2, _⟩ | ⟨h1, h2, _⟩
  · exact .inr ⟨by omega, h2⟩
  · exact .inl ⟨h1, h2⟩
  · exact .inr ⟨by omega, h2⟩

/-- both pages: the landed one at block b over the disk at block d, the document's disk in box gn and page in box gk -/
structure Pl (w0 w : World) (b d gn gk : Nat) (M R P : Nat → Prop) (cs : Array Value) (a l : Int) (nx q q2 : Nat) (s t : Dk) : Prop where
  ma : MA w b d M R s a nx q
  dn : Blk w gn 30 cs
  kn : Blk w gk 39 #[.int .i64 a, .int .i64 l, .int .u64 (q2 : Int)]
  d6 : D6 P w (.agg cs) t
  pl : ∀ j, P j → j < w.heap.size
  pa : ∀ j, P j → j ≠ b ∧ ¬ M j ∧ j ≠ gn ∧ j ≠ gk
  ne : gn ≠ gk ∧ gn ≠ b ∧ gk ≠ b
  mm : ¬ M gn ∧ ¬ M gk ∧ ¬ R gn ∧ ¬ R gk
  ng : w0.heap.size ≤ gn ∧ w0.heap.size ≤ gk
  new : ∀ k, k = b ∨ M k → w0.heap.size ≤ k
  below : Below w0.heap.size w0 w
section
variable {w0 w w' : World} {b b' d gn gk : Nat} {M R M' R' P P' : Nat → Prop} {cs cs' : Array Value} {a l l' : Int} {nx q q2 nx' q' q2' : Nat} {s t s' t' : Dk} {y0 y1 y2 y3 y4 u0 u1 u2 : Value}
theorem Pl.step (h : Pl w0 w b d gn gk M R P cs a l nx q q2 s t) (hb : Below w.heap.size w w') : Pl w0 w' b d gn gk M R P cs a l nx q q2 s t :=
  ⟨h.ma.step hb, h.dn.below hb h.dn.lt, h.kn.below hb h.kn.lt, h.d6.step hb, fun j hj => Nat.lt_of_lt_of_le (h.pl j hj) hb.size, h.pa, h.ne, h.mm, h.ng, h.new, h.below.trans (hb.mono h.below.size)⟩
theorem Pl.okP (h : Pl w0 w b d gn gk M R P cs a l nx q q2 s t) : ∀ j, P j ∨ w.heap.size ≤ j → j ≠ b ∧ ¬ M j ∧ j ≠ gn ∧ j ≠ gk := fun j hj => by
  rcases hj with x | x
  · exact h.pa j x
  · have h1 := h.ma.blk.lt
    have h2 := h.dn.lt
    have h3 := h.kn.lt
    exact ⟨by omega, fun y => by have := h.ma.lt j (.inr y); omega, by omega, by omega⟩
/-- the boxes are stored anew -/
theorem Pl.box (h : Pl w0 w b d gn gk M R P cs a l nx q q2 s t) (ho : Within (fun k => k = gn ∨ k = gk) w w') (hdn : Blk w' gn 30 cs') (hkn : Blk w' gk 39 #[.int .i64 a, .int .i64 l', .int .u64 (q2' : Int)])
    (hd : D6 P' w' (.agg cs') t') (hP : ∀ j, P' j → j < w'.heap.size ∧ (j ≠ b ∧ ¬ M j ∧ j ≠ gn ∧ j ≠ gk)) : Pl w0 w' b d gn gk M R P' cs' a l' nx q q2' s t' := by
  have hm := h.ma
  refine ⟨⟨(ho.block b hm.blk.lt (fun x => x.elim (fun e => h.ne.2.1 e.symm) (fun e => h.ne.2.2 e.symm))).trans hm.blk, hm.disk.keep ho.size (fun k hk => ho.block k (hm.disk.lt k hk) (fun x => ?_)), hm.m, hm.r, hm.a0, hm.a1, hm.nx1, hm.q64⟩, hdn, hkn, hd, fun j hj => (hP j hj).1, fun j hj => (hP j hj).2, h.ne, h.mm, h.ng, h.new, ho.below0 h.below (fun k hk => hk.elim (fun e => e ▸ h.ng.1) (fun e => e ▸ h.ng.2))⟩
  obtain ⟨m1, m2, m3, m4⟩ := h.mm
  rcases x with rfl | rfl
  · exact hk.elim m1 m3
  · exact hk.elim m2 m4
theorem blk5 {c0 c1 c2 c3 c4 : Value} {tt : TypeId} {g : Nat} (h : Blk w g tt #[c0, c1, c2, c3, c4]) : Blk (((((w.setCell ⟨g, 0, none⟩ (y0)).setCell ⟨g, 1, none⟩ (y1)).setCell ⟨g, 2, none⟩ (y2)).setCell ⟨g, 3, none⟩ (y3)).setCell ⟨g, 4, none⟩ (y4)) g tt #[y0, y1, y2, y3, y4] := by
  have := ((((h.set 0 y0).set 1 y1).set 2 y2).set 3 y3).set 4 y4
  simpa using this
theorem blk3 {c0 c1 c2 : Value} {tt : TypeId} {g : Nat} (h : Blk w g tt #[c0, c1, c2]) : Blk (((w.setCell ⟨g, 0, none⟩ (u0)).setCell ⟨g, 1, none⟩ (u1)).setCell ⟨g, 2, none⟩ (u2)) g tt #[u0, u1, u2] := by
  have := ((h.set 0 u0).set 1 u1).set 2 u2
  simpa using this
theorem keep3 {g k : Nat} (h : k ≠ g) : (((w.setCell ⟨g, 0, none⟩ (u0)).setCell ⟨g, 1, none⟩ (u1)).setCell ⟨g, 2, none⟩ (u2)).heap[k]? = w.heap[k]? := by
  rw [Below.heap_setCell _ _ _ _ h, Below.heap_setCell _ _ _ _ h, Below.heap_setCell _ _ _ _ h]
theorem within5 {Q : Nat → Prop} {g : Nat} (hg : Q g) : Within Q w (((((w.setCell ⟨g, 0, none⟩ (y0)).setCell ⟨g, 1, none⟩ (y1)).setCell ⟨g, 2, none⟩ (y2)).setCell ⟨g, 3, none⟩ (y3)).setCell ⟨g, 4, none⟩ (y4)) := (((((Within.refl Q w).put hg y0).put hg y1).put hg y2).put hg y3).put hg y4
theorem within3 {Q : Nat → Prop} {g : Nat} (hg : Q g) : Within Q w (((w.setCell ⟨g, 0, none⟩ (u0)).setCell ⟨g, 1, none⟩ (u1)).setCell ⟨g, 2, none⟩ (u2)) := (((Within.refl Q w).put hg u0).put hg u1).put hg u2
/-- the disk and the page behind the steps, from the call's own boxes -/
theorem Pl.put8 {c0 c1 c2 c3 c4 : Value} (h : Pl w0 w b d gn gk M R P #[c0, c1, c2, c3, c4] a l nx q q2 s t) (hb : Below w.heap.size w w') (hd : D6 (fun j => P j ∨ w.heap.size ≤ j) w' (.agg #[y0, y1, y2, y3, y4]) t') :
    Pl w0 ((((((((w'.setCell ⟨gn, 0, none⟩ (y0)).setCell ⟨gn, 1, none⟩ (y1)).setCell ⟨gn, 2, none⟩ (y2)).setCell ⟨gn, 3, none⟩ (y3)).setCell ⟨gn, 4, none⟩ (y4)).setCell ⟨gk, 0, none⟩ (.int .i64 a)).setCell ⟨gk, 1, none⟩ (.int .i64 l')).setCell ⟨gk, 2, none⟩ (.int .u64 (q2' : Int))) b d gn gk M R (fun j => (P j ∨ w.heap.size ≤ j) ∧ j < w'.heap.size) #[y0, y1, y2, y3, y4] a l' nx q q2' s t' := by
  have hs := h.step hb
  have h1 : Within (fun k => k = gn ∨ k = gk) w' ((((((((w'.setCell ⟨gn, 0, none⟩ (y0)).setCell ⟨gn, 1, none⟩ (y1)).setCell ⟨gn, 2, none⟩ (y2)).setCell ⟨gn, 3, none⟩ (y3)).setCell ⟨gn, 4, none⟩ (y4)).setCell ⟨gk, 0, none⟩ (.int .i64 a)).setCell ⟨gk, 1, none⟩ (.int .i64 l')).setCell ⟨gk, 2, none⟩ (.int .u64 (q2' : Int))) := (within5 (.inl rfl)).trans (within3 (.inr rfl))
  refine hs.box h1 ?_ (blk3 ((keep5 h.ne.1.symm).trans hs.kn)) (hd.bound.keep h1.size (fun k hk => h1.block k hk.2 (fun x => by have := h.okP k hk.1; omega))) (fun j hj => ⟨Nat.lt_of_lt_of_le hj.2 h1.size, h.okP j hj.1⟩)
  exact (keep3 h.ne.1).trans (blk5 hs.dn)
/-- the disk alone -/
theorem Pl.put5 {c0 c1 c2 c3 c4 : Value} (h : Pl w0 w b d gn gk M R P #[c0, c1, c2, c3, c4] a l nx q q2 s t) (hb : Below w.heap.size w w') (hd : D6 (fun j => P j ∨ w.heap.size ≤ j) w' (.agg #[y0, y1, y2, y3, y4]) t') :
    Pl w0 (((((w'.setCell ⟨gn, 0, none⟩ (y0)).setCell ⟨gn, 1, none⟩ (y1)).setCell ⟨gn, 2, none⟩ (y2)).setCell ⟨gn, 3, none⟩ (y3)).setCell ⟨gn, 4, none⟩ (y4)) b d gn gk M R (fun j => (P j ∨ w.heap.size ≤ j) ∧ j < w'.heap.size) #[y0, y1, y2, y3, y4] a l nx q q2 s t' := by
  have hs := h.step hb
  have h1 : Within (fun k => k = gn ∨ k = gk) w' (((((w'.setCell ⟨gn, 0, none⟩ (y0)).setCell ⟨gn, 1, none⟩ (y1)).setCell ⟨gn, 2, none⟩ (y2)).setCell ⟨gn, 3, none⟩ (y3)).setCell ⟨gn, 4, none⟩ (y4)) := within5 (.inl rfl)
  exact hs.box h1 (blk5 hs.dn) ((keep5 h.ne.1.symm).trans hs.kn) (hd.bound.keep h1.size (fun k hk => h1.block k hk.2 (fun x => by have := h.okP k hk.1; omega))) (fun j hj => ⟨Nat.lt_of_lt_of_le hj.2 h1.size, h.okP j hj.1⟩)
/-- the page alone -/
theorem Pl.put3 (h : Pl w0 w b d gn gk M R P cs a l nx q q2 s t) : Pl w0 (((w.setCell ⟨gk, 0, none⟩ (.int .i64 a)).setCell ⟨gk, 1, none⟩ (.int .i64 l')).setCell ⟨gk, 2, none⟩ (.int .u64 (q2' : Int))) b d gn gk M R P cs a l' nx q q2' s t := by
  have h1 : Within (fun k => k = gn ∨ k = gk) w (((w.setCell ⟨gk, 0, none⟩ (.int .i64 a)).setCell ⟨gk, 1, none⟩ (.int .i64 l')).setCell ⟨gk, 2, none⟩ (.int .u64 (q2' : Int))) := within3 (.inr rfl)
  exact h.box h1 ((keep3 h.ne.1).trans h.dn) (blk3 h.kn) (h.d6.keep h1.size (fun k hk => h1.block k (h.pl k hk) (fun x => by have := h.pa k hk; omega))) (fun j hj => ⟨Nat.lt_of_lt_of_le (h.pl j hj) h1.size, h.pa j hj⟩)
/-- a call on the landed page -/
theorem Pl.landed (h : Pl w0 w b d gn gk M R P cs a l nx q q2 s t) (hm : MA w' b d M' R' s' a nx' q') (ht : MTurns b M R w M' R' w') : Pl w0 w' b d gn gk M' R' P cs a l nx' q' q2 s' t := by
  have own : ∀ j, j < w.heap.size → ¬ M j → ¬ M' j := fun j hj hn x => by
    rcases ht.own j x with y | y
    · exact hn y
    · omega
  have held : ∀ j, j < w.heap.size → ¬ R j → ¬ R' j := fun j hj hn x => by
    rcases ht.held j x with y | y
    · exact hn y
    · omega
  obtain ⟨m1, m2, m3, m4⟩ := h.mm
  have g1 := h.dn.lt
  have g2 := h.kn.lt
  refine ⟨hm, (ht.within.block gn g1 (fun x => x.elim h.ne.2.1 m1)).trans h.dn, (ht.within.block gk g2 (fun x => x.elim h.ne.2.2 m2)).trans h.kn, h.d6.keep ht.within.size (fun k hk => ht.within.block k (h.pl k hk) (fun x => x.elim (h.pa k hk).1 (h.pa k hk).2.1)), fun j hj => Nat.lt_of_lt_of_le (h.pl j hj) ht.within.size, fun j hj => ⟨(h.pa j hj).1, own j (h.pl j hj) (h.pa j hj).2.1, (h.pa j hj).2.2⟩, h.ne, ⟨own _ g1 m1, own _ g2 m2, held _ g1 m3, held _ g2 m4⟩, h.ng, fun k hk => hk.elim (fun e => h.new k (.inl e)) (fun x => (ht.own k x).elim (fun y => h.new k (.inr y)) (fun y => Nat.le_trans h.below.size y)), ht.within.below0 h.below h.new⟩
/-- opened again -/
theorem Pl.reopen (h : Pl w0 w b d gn gk M R P cs a l nx q q2 s t) (hm : MA w' b' d M R s a nx' q') (hn : w.heap.size ≤ b') (hb : Below w.heap.size w w') : Pl w0 w' b' d gn gk M R P cs a l nx' q' q2 s t := by
  have hs := h.step hb
  have g1 := h.dn.lt
  have g2 := h.kn.lt
  exact ⟨hm, hs.dn, hs.kn, hs.d6, hs.pl, fun j hj => ⟨by have := h.pl j hj; omega, (h.pa j hj).2⟩, ⟨h.ne.1, by omega, by omega⟩, h.mm, h.ng, fun k hk => hk.elim (fun e => by have := h.below.size; omega) (fun x => h.new k (.inr x)), hs.below⟩
theorem Pl.zero (h : Pl w0 w b d gn gk M R P cs a l nx q q2 s t) (hT : Table w0) : ¬ M 0 := fun x => by have := h.new 0 (.inr x); have := hT.pos; omega
theorem D6.lim {x y : Int} {A1 A2 A3 : Option Addr} {n1 n2 n3 c1 c2 c3 : Nat} (h : D6 P w (.agg #[.int .i64 x, .int .i64 y, .slice A1 n1 c1, .slice A2 n2 c2, .slice A3 n3 c3]) s) (z : Int) : D6 P w (.agg #[.int .i64 x, .int .i64 z, .slice A1 n1 c1, .slice A2 n2 c2, .slice A3 n3 c3]) (s.lim z) := by
  obtain ⟨V, G, B1, B2, B3, d1, d2, d3, hv, r⟩ := h.ex
  refine ⟨⟨V, G, B1, B2, B3, d1, d2, d3, ?_, r⟩, h.pend, h.size⟩
  injection hv with hv
  simp at hv
  show _ = Value.agg #[.int .i64 (s.size : Int), .int .i64 z, _, _, .slice B3 s.pend.length d3]
  rw [hv.1, hv.2.2.1.1, hv.2.2.1.2.1, hv.2.2.1.2.2, hv.2.2.2.1.1, hv.2.2.2.1.2.1, hv.2.2.2.1.2.2, hv.2.2.2.2.1, hv.2.2.2.2.2.1, hv.2.2.2.2.2.2]
/-- how many sectors it has, and how much is pending -/
theorem D6.counts {x y : Int} {A1 A2 A3 : Option Addr} {n1 n2 n3 c1 c2 c3 : Nat} (h : D6 P w (.agg #[.int .i64 x, .int .i64 y, .slice A1 n1 c1, .slice A2 n2 c2, .slice A3 n3 c3]) s) : n1 = s.used ∧ n3 = s.pend.length := by
  obtain ⟨V, G, B1, B2, B3, d1, d2, d3, hv, h1, _⟩ := h.ex
  injection hv with hv
  simp at hv
  exact ⟨hv.2.2.1.2.1.trans h1.len, hv.2.2.2.2.2.1⟩
theorem Pl.lim {x y : Int} {A1 A2 A3 : Option Addr} {n1 n2 n3 c1 c2 c3 : Nat} (h : Pl w0 w b d gn gk M R P #[.int .i64 x, .int .i64 y, .slice A1 n1 c1, .slice A2 n2 c2, .slice A3 n3 c3] a l nx q q2 s t) (z : Int) : Pl w0 (w.setCell ⟨gn, 1, none⟩ (.int .i64 z)) b d gn gk M R P #[.int .i64 x, .int .i64 z, .slice A1 n1 c1, .slice A2 n2 c2, .slice A3 n3 c3] a l nx q q2 s (t.lim z) := by
  have h1 : Within (fun k => k = gn ∨ k = gk) w (w.setCell ⟨gn, 1, none⟩ (.int .i64 z)) := (Within.refl _ w).put (.inl rfl) _
  exact h.box h1 (by simpa using h.dn.set 1 (.int .i64 z)) (blk_off h.kn h.ne.1.symm _) ((h.d6.lim z).keep h1.size (fun k hk => h1.block k (h.pl k hk) (fun x => by have := h.pa k hk; omega))) (fun j hj => ⟨Nat.lt_of_lt_of_le (h.pl j hj) h1.size, h.pa j hj⟩)
end
/-- a box beside all of it -/
structure Kq (w : World) (g : Nat) (tt : TypeId) (cs : Array Value) (b : Nat) (M : Nat → Prop) (gn gk : Nat) : Prop where
  k : Kp w g tt cs b M
  n : g ≠ gn
  e : g ≠ gk
section
variable {w w' : World} {g b gn gk : Nat} {tt : TypeId} {cs : Array Value} {M R M' R' : Nat → Prop}
theorem Kq.step (h : Kq w g tt cs b M gn gk) (hb : Below w.heap.size w w') : Kq w' g tt cs b M gn gk := ⟨h.k.step hb, h.n, h.e⟩
theorem Kq.turns (h : Kq w g tt cs b M gn gk) (ht : MTurns b M R w M' R' w') : Kq w' g tt cs b M' gn gk := ⟨h.k.turns ht, h.n, h.e⟩
theorem Kq.box (h : Kq w g tt cs b M gn gk) (ho : Within (fun k => k = gn ∨ k = gk) w w') : Kq w' g tt cs b M gn gk := ⟨⟨(ho.block g h.k.blk.lt (fun x => x.elim h.n h.e)).trans h.k.blk, h.k.b, h.k.m⟩, h.n, h.e⟩
theorem Kq.new {w0 : World} {d : Nat} {P : Nat → Prop} {c2 : Array Value} {a l : Int} {nx q q2 : Nat} {s t : Dk} (h : Pl w0 w b d gn gk M R P c2 a l nx q q2 s t) (hx : Blk w' g tt cs) (hg : w.heap.size ≤ g) : Kq w' g tt cs b M gn gk := by
  have h1 := h.okP g (.inr hg)
  exact ⟨⟨hx, h1.1, h1.2.1⟩, h1.2.2.1, h1.2.2.2⟩
end

end Go.Proofs.YtngclmjefadokaaDoor
