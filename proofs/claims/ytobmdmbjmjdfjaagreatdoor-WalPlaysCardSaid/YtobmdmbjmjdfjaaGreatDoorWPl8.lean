/-
  Both sides of a log: the landed one and the document's, each beside the other.
-/
import Derived.Test.YtobmdmbjmjdfjaaGreatDoorWFew
import Derived.Test.YtobmdmbjmjdfjaaGreatDoorWAwake
import Derived.Test.YtobmdmbjmjdfjaaGreatDoorR8Append
import Derived.Test.YtobmdmbjmjdfjaaGreatDoorWTrunc
namespace Go.Proofs.YtobmdmbjmjdfjaaGreatDoor
open Go Go.RowKit

structure Kp (w : World) (g gk : Nat) (t : TypeId) (cs : Array Value) (N M : Nat → Prop) : Prop where
  blk : Blk w g t cs
  n : ¬ N g
  m : ¬ M g
  ne : g ≠ gk
structure D8 (w0 w : World) (gk : Nat) (N M R P : Nat → Prop) (cs : Array Value) (s : Dk) (l : Wl) : Prop where
  box : Blk w gk 43 cs
  val : W8 P w (.agg cs) s l
  lt : ∀ j, P j → j < w.heap.size
  ap : ∀ j, P j → ¬ N j ∧ ¬ M j ∧ j ≠ gk
  n : ¬ N gk
  m : ¬ M gk
  r : ¬ R gk
  new : w0.heap.size ≤ gk
section
variable {w0 w w' : World} {b d gk g : Nat} {t : TypeId} {N M R N' M' R' P : Nat → Prop} {cs cs' : Array Value} {s s' : Dk} {l l' : Wl}
theorem Kp.step (h : Kp w g gk t cs N M) (hb : Below w.heap.size w w') : Kp w' g gk t cs N M := ⟨h.blk.below hb h.blk.lt, h.n, h.m, h.ne⟩
theorem Kp.turns (h : Kp w g gk t cs N M) (ht : LTurns N M R w N' M' R' w') : Kp w' g gk t cs N' M' := by
  have hlt := h.blk.lt
  refine ⟨(ht.within.block g hlt (fun x => x.elim h.n h.m)).trans h.blk, fun x => ?_, fun x => ?_, h.ne⟩
  · rcases ht.own g (.inl x) with y | y
    · exact y.elim h.n h.m
    · omega
  · rcases ht.own g (.inr x) with y | y
    · exact y.elim h.n h.m
    · omega
theorem Kp.off (h : Kp w g gk t cs N M) (ho : Off2 gk gk w w') : Kp w' g gk t cs N M := ⟨(ho.block g h.ne h.ne).trans h.blk, h.n, h.m, h.ne⟩
theorem D8.step (h : D8 w0 w gk N M R P cs s l) (hb : Below w.heap.size w w') : D8 w0 w' gk N M R P cs s l :=
  ⟨h.box.below hb h.box.lt, h.val.step hb, fun j hj => Nat.lt_of_lt_of_le (h.lt j hj) hb.size, h.ap, h.n, h.m, h.r, h.new⟩
theorem D8.turns (h : D8 w0 w gk N M R P cs s l) (ht : LTurns N M R w N' M' R' w') : D8 w0 w' gk N' M' R' P cs s l := by
  have hg := h.box.lt
  have own : ∀ j, j < w.heap.size → ¬ N j → ¬ M j → ¬ N' j ∧ ¬ M' j := fun j hj hn hm => ⟨fun x => by
    rcases ht.own j (.inl x) with y | y
    · exact y.elim hn hm
    · omega, fun x => by
    rcases ht.own j (.inr x) with y | y
    · exact y.elim hn hm
    · omega⟩
  refine ⟨(ht.within.block gk hg (fun x => x.elim h.n h.m)).trans h.box, h.val.keep ht.within.size (fun j hj => ht.within.block j (h.lt j hj) (fun x => x.elim (h.ap j hj).1 (h.ap j hj).2.1)), fun j hj => Nat.lt_of_lt_of_le (h.lt j hj) ht.within.size, fun j hj => ?_, (own gk hg h.n h.m).1, (own gk hg h.n h.m).2, fun x => ?_, h.new⟩
  · have := own j (h.lt j hj) (h.ap j hj).1 (h.ap j hj).2.1
    exact ⟨this.1, this.2, (h.ap j hj).2.2⟩
  · rcases ht.held gk x with y | y
    · exact h.r y
    · omega
theorem D8.put (h : D8 w0 w gk N M R P cs s l) {w1 w2 w3 : World} (hlog : ∀ j, N j ∨ M j → j < w.heap.size) (hv : W8 (fun j => P j ∨ w.heap.size ≤ j) w1 (.agg cs') s' l') (h2 : Below w1.heap.size w1 w2) (ho : Off2 gk gk w2 w3) (hb : Blk w3 gk 43 cs') :
    D8 w0 w3 gk N M R (fun j => (P j ∨ w.heap.size ≤ j) ∧ j < w1.heap.size) cs' s' l' := by
  have hg := h.box.lt
  have hne : ∀ j, (P j ∨ w.heap.size ≤ j) → j ≠ gk := fun j hj => hj.elim (fun x => (h.ap j x).2.2) (fun x => by omega)
  refine ⟨hb, (hv.bound.keep (Nat.le_trans h2.size (Nat.le_of_eq ho.size.symm)) (fun j hj => (ho.block j (hne j hj.1) (hne j hj.1)).trans (h2.block j hj.2))), fun j hj => Nat.lt_of_lt_of_le hj.2 (Nat.le_trans h2.size (Nat.le_of_eq ho.size.symm)), fun j hj => ?_, h.n, h.m, h.r, h.new⟩
  rcases hj.1 with x | x
  · exact h.ap j x
  · exact ⟨fun y => by have := hlog j (.inl y); omega, fun y => by have := hlog j (.inr y); omega, hne j hj.1⟩
theorem D8.fresh (h : D8 w0 w gk N M R P cs s l) {w1 : World} (hlog : ∀ j, N j ∨ M j → j < w.heap.size) (hr : ∀ j, R j → j < w.heap.size) (h1 : Below w.heap.size w w1) (hv : W8 (fun j => P j ∨ w.heap.size ≤ j) w1 (.agg cs') s' l') (h0 : w0.heap.size ≤ w.heap.size) :
    D8 w0 (w1.alloc (.cells cs' 43)) w1.heap.size N M R (fun j => (P j ∨ w.heap.size ≤ j) ∧ j < w1.heap.size) cs' s' l' ∧ ∀ j, ((P j ∨ w.heap.size ≤ j) ∧ j < w1.heap.size) → j ≠ gk := by
  have hg := h.box.lt
  have hs := h1.size
  have hne : ∀ j, (P j ∨ w.heap.size ≤ j) → j ≠ gk := fun j hj => hj.elim (fun x => (h.ap j x).2.2) (fun x => by omega)
  refine ⟨⟨Blk.new w1 _ _, hv.bound.step ((Below.refl _ _).alloc (Nat.le_refl _) _), fun j hj => by have := hj.2; simp; omega, fun j hj => ?_, fun x => by have := hlog _ (.inl x); omega, fun x => by have := hlog _ (.inr x); omega, fun x => by have := hr _ x; omega, by omega⟩, fun j hj => hne j hj.1⟩
  rcases hj.1 with x | x
  · exact ⟨(h.ap j x).1, (h.ap j x).2.1, by have := hj.2; omega⟩
  · exact ⟨fun y => by have := hlog j (.inl y); omega, fun y => by have := hlog j (.inr y); omega, by have := hj.2; omega⟩
theorem D8.copy {g9 : Nat} (h : D8 w0 w g9 N M R P cs s l) (hn : ¬ N gk) (hm : ¬ M gk) (hr : ¬ R gk) (hg : w0.heap.size ≤ gk) (hP : ∀ j, P j → j ≠ gk) (ho : Off2 gk gk w w') (hb : Blk w' gk 43 cs) : D8 w0 w' gk N M R P cs s l :=
  ⟨hb, h.val.keep (Nat.le_of_eq ho.size.symm) (fun j hj => ho.block j (hP j hj) (hP j hj)), fun j hj => Nat.lt_of_lt_of_le (h.lt j hj) (Nat.le_of_eq ho.size.symm), fun j hj => ⟨(h.ap j hj).1, (h.ap j hj).2.1, hP j hj⟩, hn, hm, hr, hg⟩
theorem crash_d {w : World} {d : Nat} {M R : Nat → Prop} {s : Dk} {A : Option Addr} {n c B : Nat} {l : List (Int × Int)} (h : DA6 w d M R s) (hA : SvAt w B A l) (hn : n = l.length) (hB : B ≤ w.heap.size) (hl : n ≤ 70368744177664) :
    Calls Tryz.prog 17 #[.pointer (some ⟨d, 0, none⟩), .slice A n c] w fun e w' => e = .returned (.tuple #[]) ∧ ∃ M' R', DA6 w' d M' R' (s.crash l) ∧ Turns M R w M' R' w' := by
  obtain ⟨g, c', A', n', cap, ch, nc, fs, h⟩ := h
  exact crash_is h hA hn hB hl
theorem D6.lim {P : Nat → Prop} {w : World} {s : Dk} {a b : Int} {A1 A2 A3 : Option Addr} {n1 n2 n3 c1 c2 c3 : Nat} (h : D6 P w (.agg #[.int .i64 a, .int .i64 b, .slice A1 n1 c1, .slice A2 n2 c2, .slice A3 n3 c3]) s) (x : Int) : D6 P w (.agg #[.int .i64 a, .int .i64 x, .slice A1 n1 c1, .slice A2 n2 c2, .slice A3 n3 c3]) (s.lim x) := by
  obtain ⟨V, G, B1, B2, B3, d1, d2, d3, hv, r⟩ := h.ex
  refine ⟨⟨V, G, B1, B2, B3, d1, d2, d3, ?_, r⟩, h.pend, h.size⟩
  injection hv with hv
  simp at hv
  show _ = Value.agg #[.int .i64 (s.size : Int), .int .i64 x, _, _, .slice B3 s.pend.length d3]
  rw [hv.1, hv.2.2.1.1, hv.2.2.1.2.1, hv.2.2.1.2.2, hv.2.2.2.1.1, hv.2.2.2.1.2.1, hv.2.2.2.1.2.2, hv.2.2.2.2.1, hv.2.2.2.2.2.1, hv.2.2.2.2.2.2]
theorem D6.counts {P : Nat → Prop} {w : World} {s : Dk} {a b : Int} {A1 A2 A3 : Option Addr} {n1 n2 n3 c1 c2 c3 : Nat} (h : D6 P w (.agg #[.int .i64 a, .int .i64 b, .slice A1 n1 c1, .slice A2 n2 c2, .slice A3 n3 c3]) s) : n1 = s.used ∧ n3 = s.pend.length := by
  obtain ⟨V, G, B1, B2, B3, d1, d2, d3, hv, h1, _⟩ := h.ex
  injection hv with hv
  simp at hv
  exact ⟨hv.2.2.1.2.1.trans h1.len, hv.2.2.2.2.2.1⟩
theorem off12 {gk : Nat} {w : World} {u0 u1 u2 u3 u4 u5 u6 u7 u8 u9 u10 u11 : Value} : Off2 gk gk w ((((((((((((w.setCell ⟨gk, 0, none⟩ u0).setCell ⟨gk, 1, none⟩ u1).setCell ⟨gk, 2, none⟩ u2).setCell ⟨gk, 3, none⟩ u3).setCell ⟨gk, 4, none⟩ u4).setCell ⟨gk, 5, none⟩ u5).setCell ⟨gk, 6, none⟩ u6).setCell ⟨gk, 7, none⟩ u7).setCell ⟨gk, 8, none⟩ u8).setCell ⟨gk, 9, none⟩ u9).setCell ⟨gk, 10, none⟩ u10).setCell ⟨gk, 11, none⟩ u11) := (((((((((((((Off2.refl w).setg 0 _).setg 1 _).setg 2 _).setg 3 _).setg 4 _).setg 5 _).setg 6 _).setg 7 _).setg 8 _).setg 9 _).setg 10 _).setg 11 _)
theorem W8.redisk {P P' : Nat → Prop} {w w' : World} {s s' : Dk} {l : Wl} {a b a' b' : Int} {D1 D2 D3 D4 E1 E2 E3 : Option Addr} {o1 o2 o3 q1 q2 q3 q4 i1 i2 i3 r1 r2 r3 : Nat} (h : W8 P w (.agg #[.int .i64 a, .int .i64 b, .slice D1 o1 q1, .slice D2 o2 q2, .slice D3 o3 q3, .int .i64 (l.at_ : Int), .int .i64 (l.n : Int), .int .i64 (l.size : Int), .slice D4 l.live.length q4, .string (bst l.stream), .int .u64 (l.last : Int), .int .u64 (l.synced : Int)]) s l) (hk : ∀ k, P k → w'.heap[k]? = w.heap[k]?) (hs : w.heap.size ≤ w'.heap.size) (hp : ∀ k, P k → P' k)
    (hD : D6 P' w' (.agg #[.int .i64 a', .int .i64 b', .slice E1 i1 r1, .slice E2 i2 r2, .slice E3 i3 r3]) s') : W8 P' w' (.agg #[.int .i64 a', .int .i64 b', .slice E1 i1 r1, .slice E2 i2 r2, .slice E3 i3 r3, .int .i64 (l.at_ : Int), .int .i64 (l.n : Int), .int .i64 (l.size : Int), .slice D4 l.live.length q4, .string (bst l.stream), .int .u64 (l.last : Int), .int .u64 (l.synced : Int)]) s' l := by
  obtain ⟨x, y, F1, F2, F3, F4, j1, j2, j3, t1, t2, t3, t4, hv, h1, h2, h3, h4⟩ := h.shape
  injection hv with hv
  simp at hv
  obtain ⟨rfl, rfl⟩ : D4 = F4 ∧ q4 = t4 := ⟨hv.2.2.2.2.2.1, hv.2.2.2.2.2.2⟩
  exact ⟨⟨a', b', E1, E2, E3, D4, i1, i2, i3, r1, r2, r3, q4, rfl, hD, h2.kept h3 hs hk, h3.weak hp, h4⟩, h.at_, h.n, h.size, h.live, h.last, h.synced, h.stream⟩
theorem W8.five {P : Nat → Prop} {w : World} {s : Dk} {l : Wl} {a b : Int} {D1 D2 D3 D4 : Option Addr} {o1 o2 o3 q1 q2 q3 q4 : Nat} (h : W8 P w (.agg #[.int .i64 a, .int .i64 b, .slice D1 o1 q1, .slice D2 o2 q2, .slice D3 o3 q3, .int .i64 (l.at_ : Int), .int .i64 (l.n : Int), .int .i64 (l.size : Int), .slice D4 l.live.length q4, .string (bst l.stream), .int .u64 (l.last : Int), .int .u64 (l.synced : Int)]) s l) : D6 P w (.agg #[.int .i64 a, .int .i64 b, .slice D1 o1 q1, .slice D2 o2 q2, .slice D3 o3 q3]) s := by
  obtain ⟨x, y, F1, F2, F3, F4, j1, j2, j3, t1, t2, t3, t4, hv, h1, h2, h3, h4⟩ := h.shape
  injection hv with hv
  simp at hv
  obtain ⟨rfl, rfl, ⟨rfl, rfl, rfl⟩, ⟨rfl, rfl, rfl⟩, ⟨rfl, rfl, rfl⟩, _⟩ := hv
  exact h1
theorem D8.lim {a b : Int} {D1 D2 D3 D4 : Option Addr} {o1 o2 o3 q1 q2 q3 q4 : Nat} (h : D8 w0 w gk N M R P #[.int .i64 a, .int .i64 b, .slice D1 o1 q1, .slice D2 o2 q2, .slice D3 o3 q3, .int .i64 (l.at_ : Int), .int .i64 (l.n : Int), .int .i64 (l.size : Int), .slice D4 l.live.length q4, .string (bst l.stream), .int .u64 (l.last : Int), .int .u64 (l.synced : Int)] s l) (x : Int) : D8 w0 (w.setCell ⟨gk, 1, none⟩ (.int .i64 x)) gk N M R P #[.int .i64 a, .int .i64 x, .slice D1 o1 q1, .slice D2 o2 q2, .slice D3 o3 q3, .int .i64 (l.at_ : Int), .int .i64 (l.n : Int), .int .i64 (l.size : Int), .slice D4 l.live.length q4, .string (bst l.stream), .int .u64 (l.last : Int), .int .u64 (l.synced : Int)] (s.lim x) l := by
  have hk : ∀ k, P k → (w.setCell ⟨gk, 1, none⟩ (.int .i64 x)).heap[k]? = w.heap[k]? := fun k hk => Below.heap_setCell _ _ _ _ (h.ap k hk).2.2
  exact ⟨by simpa using h.box.set 1 (.int .i64 x), h.val.redisk hk (by simp) (fun _ y => y) ((h.val.five.lim x).keep (by simp) hk), fun j hj => by simpa using h.lt j hj, h.ap, h.n, h.m, h.r, h.new⟩
theorem D8.free (h : D8 w0 w gk N M R P cs s l) : D8 w0 w gk (fun _ => False) M R P cs s l := ⟨h.box, h.val, h.lt, fun j hj => ⟨id, (h.ap j hj).2.1, (h.ap j hj).2.2⟩, id, h.m, h.r, h.new⟩
theorem Kp.free (h : Kp w g gk t cs N M) : Kp w g gk t cs (fun _ => False) M := ⟨h.blk, id, h.m, h.ne⟩
theorem D8.disk {a b a' b' : Int} {D1 D2 D3 D4 E1 E2 E3 : Option Addr} {o1 o2 o3 q1 q2 q3 q4 i1 i2 i3 r1 r2 r3 : Nat} (h : D8 w0 w gk N M R P #[.int .i64 a, .int .i64 b, .slice D1 o1 q1, .slice D2 o2 q2, .slice D3 o3 q3, .int .i64 (l.at_ : Int), .int .i64 (l.n : Int), .int .i64 (l.size : Int), .slice D4 l.live.length q4, .string (bst l.stream), .int .u64 (l.last : Int), .int .u64 (l.synced : Int)] s l) (hlog : ∀ j, N j ∨ M j → j < w.heap.size) {w1 w2 : World} (h1 : Below w.heap.size w w1)
    (hD : D6 (fun j => P j ∨ w.heap.size ≤ j) w1 (.agg #[.int .i64 a', .int .i64 b', .slice E1 i1 r1, .slice E2 i2 r2, .slice E3 i3 r3]) s') (ho : Off2 gk gk w1 w2) (hb : Blk w2 gk 43 #[.int .i64 a', .int .i64 b', .slice E1 i1 r1, .slice E2 i2 r2, .slice E3 i3 r3, .int .i64 (l.at_ : Int), .int .i64 (l.n : Int), .int .i64 (l.size : Int), .slice D4 l.live.length q4, .string (bst l.stream), .int .u64 (l.last : Int), .int .u64 (l.synced : Int)]) :
    D8 w0 w2 gk N M R (fun j => (P j ∨ w.heap.size ≤ j) ∧ j < w1.heap.size) #[.int .i64 a', .int .i64 b', .slice E1 i1 r1, .slice E2 i2 r2, .slice E3 i3 r3, .int .i64 (l.at_ : Int), .int .i64 (l.n : Int), .int .i64 (l.size : Int), .slice D4 l.live.length q4, .string (bst l.stream), .int .u64 (l.last : Int), .int .u64 (l.synced : Int)] s' l :=
  h.put hlog (h.val.redisk (fun k hk => h1.block k (h.lt k hk)) h1.size (fun _ y => .inl y) hD) (Below.refl _ _) ho hb
theorem St8.off (h : St8 w0 w b d N M R s l) (ho : Off2 gk gk w w') (hn : ¬ N gk) (hm : ¬ M gk) (hr : ¬ R gk) (hg : w0.heap.size ≤ gk) : St8 w0 w' b d N M R s l := by
  refine ⟨h.wa.hold (Nat.le_of_eq ho.size.symm) (fun k _ hk => ?_), h.new, ho.below h.below hg hg⟩
  have hne : k ≠ gk := by
    rintro rfl
    exact hk.elim hn (fun x => x.elim hm hr)
  exact ho.block k hne hne
theorem St8.lt (h : St8 w0 w b d N M R s l) : ∀ j, N j ∨ M j → j < w.heap.size := fun j hj => h.wa.lt j (hj.elim .inl (fun x => .inr (.inl x)))
theorem LTurns.after (hb : Below w.heap.size w w') (ht : LTurns N M R w' N' M' R' w0) : LTurns N M R w N' M' R' w0 := LTurns.behind hb ht

structure Pl8 (l : Wl) (s : Dk) (at_ n size i : Nat) : Prop where
  li : LI l (4611686018428000000 + i)
  pend : s.pend.length ≤ 100 * i
  at_ : l.at_ = at_
  n : l.n = n
  size : l.size = size
theorem nextI_hit {f : Nat → Bool} {n : Nat} {k : Nat} (h : ¬ nextI f n k < 0) : f (nextI f n k).toNat = true := nextI_ok (by omega)
theorem Pl8.ap {at_ n size i : Nat} (h : Pl8 l s at_ n size i) (hp : LPl l) (hi : i ≤ 30) {body : List UInt8} (hb : body.length ≤ 1500) : Ap8 s l body := by
  have he := h.li.ends (by omega)
  refine ⟨by omega, hp.s1, fun x hx => ⟨(hp.lt x hx).1, he x hx⟩, hp.cur, hp.stream, hp.place, by have := h.pend; omega, fun hf => ?_⟩
  have h1 := nextI_hit hf
  have h2 := nextI_lt (fun i => !usedBy l.live i) l.n l.n (Nat.le_refl _)
  have hlt : l.fresh.toNat < l.n := by
    have : l.fresh < (l.n : Int) := h2
    omega
  have hu : usedBy l.live l.fresh.toNat = false := by
    show usedBy l.live (nextI (fun i => !usedBy l.live i) l.n l.n).toNat = false
    simpa using h1
  have hnd : (l.fresh.toNat :: l.live.map (·.i)).Nodup := List.nodup_cons.2 ⟨fun hm => by
    obtain ⟨y, hy, e⟩ := List.mem_map.1 hm
    exact usedBy_mem hu y hy e, hp.nodup⟩
  have := nodup_le hnd (n := l.n) (fun x hx => by
    rcases List.mem_cons.1 hx with rfl | hx
    · exact hlt
    · obtain ⟨y, hy, rfl⟩ := List.mem_map.1 hx
      exact (hp.lt y hy).1)
  have hn := hp.n
  simp at this
  omega
theorem Pl8.app {at_ n size i : Nat} (h : Pl8 l s at_ n size i) (hp : LPl l) (hi : i ≤ 30) (body : List UInt8) : Pl8 (l.app body s) (l.appD body s) at_ n size (i + 1) := by
  obtain ⟨k1, k2, k3⟩ := app_keeps l body s
  refine ⟨(h.li.app (by omega) hp.cur body s).mono (by omega), ?_, k1.trans h.at_, k2.trans h.n, k3.trans h.size⟩
  have := app_pend l body s
  have := h.pend
  have := hp.size
  omega
theorem Pl8.trunc {at_ n size i : Nat} (h : Pl8 l s at_ n size i) (hi : i ≤ 30) (seq : Nat) : Pl8 (l.trunc seq) (l.truncD seq s) at_ n size (i + 1) := by
  refine ⟨(h.li.trunc (by omega) seq).mono (by omega), ?_, ?_, ?_, ?_⟩
  · have := trunc_pend l seq s
    have := h.pend
    omega
  · rw [← h.at_]; unfold Wl.trunc; split <;> rfl
  · rw [← h.n]; unfold Wl.trunc; split <;> rfl
  · rw [← h.size]; unfold Wl.trunc; split <;> rfl
theorem Pl8.lk {at_ n size i : Nat} (h : Pl8 l s at_ n size i) (hi : i ≤ 30) : Lk l := h.li.lk (by omega)
theorem Pl8.sync {at_ n size i : Nat} (h : Pl8 l s at_ n size i) : Pl8 { l with synced := l.last } s.sync at_ n size (i + 1) := ⟨h.li.sync.mono (by omega), Nat.zero_le _, h.at_, h.n, h.size⟩
theorem Pl8.lim {at_ n size i : Nat} (h : Pl8 l s at_ n size i) (x : Int) : Pl8 l (s.lim x) at_ n size (i + 1) := ⟨h.li.mono (by omega), by have := h.pend; show s.pend.length ≤ _; omega, h.at_, h.n, h.size⟩
theorem Pl8.opened {at_ n size i fr : Nat} {s : Dk} (h : LI (openL s at_ n size fr) 4611686018428000000) : Pl8 (openL s at_ n size fr) (openD s at_ n size fr) at_ n size i := ⟨h.mono (by omega), Nat.zero_le _, rfl, rfl, rfl⟩
end

end Go.Proofs.YtobmdmbjmjdfjaaGreatDoor
