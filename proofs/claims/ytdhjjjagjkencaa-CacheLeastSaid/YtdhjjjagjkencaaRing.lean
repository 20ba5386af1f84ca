/-
  A ring of positions: plain, and in memory.
-/
import Derived.Test.YtdhjjjagjkencaaCaMem
import Derived.Test.YtdhjjjagjkencaaMapI
namespace Go.Proofs.Ytdhjjjagjkencaa
open Go Go.RowKit

def upd (f : Nat → Nat) (a b : Nat) : Nat → Nat := fun i => if i = a then b else f i
theorem upd_eq (f : Nat → Nat) (a b : Nat) : upd f a b a = b := if_pos rfl
theorem upd_ne {f : Nat → Nat} {a b i : Nat} (h : i ≠ a) : upd f a b i = f i := if_neg h
/-- both ways along a list -/
def Lnk (nx pv : Nat → Nat) : List Nat → Prop
  | a :: b :: l => nx a = b ∧ pv b = a ∧ Lnk nx pv (b :: l)
  | _ => True
theorem Lnk.split {nx pv : Nat → Nat} {x : Nat} {ys : List Nat} : ∀ {xs : List Nat}, Lnk nx pv (xs ++ x :: ys) ↔ Lnk nx pv (xs ++ [x]) ∧ Lnk nx pv (x :: ys)
  | [] => by simp [Lnk]
  | [a] => by simp [Lnk, and_assoc]
  | a :: b :: xs => by
    have := Lnk.split (nx := nx) (pv := pv) (x := x) (ys := ys) (xs := b :: xs)
    simp only [List.cons_append, Lnk] at this ⊢
    rw [this]
    simp only [and_assoc]
theorem Lnk.congr {nx pv nx' pv' : Nat → Nat} : ∀ {l : List Nat}, Lnk nx pv l → (∀ i ∈ l.dropLast, nx' i = nx i) → (∀ i ∈ l.tail, pv' i = pv i) → Lnk nx' pv' l
  | [], _, _, _ => trivial
  | [_], _, _, _ => trivial
  | a :: b :: l, h, h1, h2 => by
    refine ⟨(h1 a (by simp)).trans h.1, (h2 b (by simp)).trans h.2.1, Lnk.congr h.2.2 (fun i hi => h1 i ?_) (fun i hi => h2 i ?_)⟩
    · rw [List.dropLast_cons_cons]; exact List.mem_cons_of_mem _ hi
    · simp only [List.tail_cons] at hi ⊢; exact List.mem_cons_of_mem _ hi
/-- a ring through e, the others in their order -/
structure RingOk (e : Nat) (ps : List Nat) (nx pv : Nat → Nat) : Prop where
  nodup : (e :: ps).Nodup
  lnk : Lnk nx pv (e :: ps ++ [e])
theorem RingOk.empty (e : Nat) {nx pv : Nat → Nat} (h1 : nx e = e) (h2 : pv e = e) : RingOk e [] nx pv := ⟨by simp, by simp [Lnk, h1, h2]⟩
theorem RingOk.out {e p : Nat} {l1 l2 : List Nat} {nx pv : Nat → Nat} (h : RingOk e (l1 ++ p :: l2) nx pv) :
    RingOk e (l1 ++ l2) (upd nx (pv p) (nx p)) (upd pv (nx p) (pv p)) ∧ pv p ∈ e :: l1 ∧ nx p ∈ l2 ++ [e] := by
  obtain ⟨xs, a, hxs⟩ : ∃ xs a, e :: l1 = xs ++ [a] := ⟨(e :: l1).dropLast, (e :: l1).getLast (by simp), (List.dropLast_concat_getLast (by simp)).symm⟩
  obtain ⟨b, ys, hys⟩ : ∃ b ys, l2 ++ [e] = b :: ys := by
    cases l2 with
    | nil => exact ⟨e, [], rfl⟩
    | cons b l => exact ⟨b, l ++ [e], rfl⟩
  have hl := h.lnk
  have e1 : e :: (l1 ++ p :: l2) ++ [e] = xs ++ a :: p :: b :: ys := by
    calc e :: (l1 ++ p :: l2) ++ [e] = (e :: l1) ++ p :: (l2 ++ [e]) := by simp
      _ = xs ++ a :: p :: b :: ys := by rw [hxs, hys]; simp
  have e2 : e :: (l1 ++ l2) ++ [e] = xs ++ a :: b :: ys := by
    calc e :: (l1 ++ l2) ++ [e] = (e :: l1) ++ (l2 ++ [e]) := by simp
      _ = xs ++ a :: b :: ys := by rw [hxs, hys]; simp
  rw [e1, Lnk.split] at hl
  obtain ⟨hx, k1, k2, k3, k4, hy⟩ := hl
  have hn := h.nodup
  have hn1 : (e :: l1).Nodup := by
    rw [show e :: (l1 ++ p :: l2) = (e :: l1) ++ p :: l2 by simp] at hn
    exact (List.nodup_append.1 hn).1
  have hn2 : (l2 ++ [e]).Nodup := by
    rw [show e :: (l1 ++ p :: l2) = [e] ++ (l1 ++ p :: l2) by simp] at hn
    have := (List.nodup_append.1 hn)
    have h2 := (List.nodup_append.1 this.2.1).2.1
    refine List.nodup_append.2 ⟨(List.nodup_cons.1 h2).2, by simp, fun x hx y hy => ?_⟩
    simp only [List.mem_singleton] at hy
    subst hy
    exact fun e => this.2.2 y (by simp) x (by simp [hx]) e.symm
  have hn3 : ∀ x ∈ e :: l1, ∀ y ∈ l2, x ≠ y := by
    rw [show e :: (l1 ++ p :: l2) = (e :: l1) ++ p :: l2 by simp] at hn
    exact fun x hx y hy => (List.nodup_append.1 hn).2.2 x hx y (by simp [hy])
  have hn4 : ∀ x ∈ l1, ∀ y ∈ l2 ++ [e], x ≠ y := fun x hx y hy => by
    rcases List.mem_append.1 hy with hy | hy
    · exact hn3 x (by simp [hx]) y hy
    · simp only [List.mem_singleton] at hy
      subst hy
      exact fun e => (List.nodup_cons.1 hn1).1 (e ▸ hx)
  rw [k2, k3]
  have ha : a ∈ e :: l1 := by rw [hxs]; simp
  have hb : b ∈ l2 ++ [e] := by rw [hys]; simp
  refine ⟨⟨?_, ?_⟩, ha, hb⟩
  · refine h.nodup.sublist ?_
    exact List.Sublist.cons_cons _ ((List.Sublist.refl l1).append (List.sublist_cons_self _ _))
  · rw [e2, Lnk.split]
    refine ⟨hx.congr (fun i hi => upd_ne ?_) (fun i hi => upd_ne ?_), upd_eq _ _ _, upd_eq _ _ _, hy.congr (fun i hi => upd_ne ?_) (fun i hi => upd_ne ?_)⟩
    · rw [List.dropLast_concat] at hi
      rw [hxs] at hn1
      exact (List.nodup_append.1 hn1).2.2 i hi a (by simp)
    · rw [← hxs] at hi
      exact hn4 i hi b hb
    · rw [← hys, List.dropLast_concat] at hi
      exact fun e => hn3 a ha i hi e.symm
    · rw [hys] at hn2
      exact fun e => (List.nodup_cons.1 hn2).1 (e ▸ hi)
theorem RingOk.in_ {e p : Nat} {ps : List Nat} {nx pv : Nat → Nat} (h : RingOk e ps nx pv) (hp : p ∉ e :: ps) :
    RingOk e (p :: ps) (upd (upd nx p (nx e)) e p) (upd (upd pv p e) (nx e) p) ∧ nx e ∈ ps ++ [e] := by
  obtain ⟨b, ys, hys⟩ : ∃ b ys, ps ++ [e] = b :: ys := by
    cases ps with
    | nil => exact ⟨e, [], rfl⟩
    | cons b l => exact ⟨b, l ++ [e], rfl⟩
  have hl := h.lnk
  rw [List.cons_append, hys] at hl
  obtain ⟨k1, k2, hy⟩ := hl
  rw [k1]
  have hb : b ∈ ps ++ [e] := by rw [hys]; simp
  have hn := List.nodup_cons.1 h.nodup
  have hn2 : (ps ++ [e]).Nodup := List.nodup_append.2 ⟨hn.2, by simp, fun x hx y hy => by
    simp only [List.mem_singleton] at hy
    subst hy
    exact fun e => hn.1 (e ▸ hx)⟩
  have hpe : p ≠ e := fun q => hp (by simp [q])
  have hpm : ∀ x ∈ ps ++ [e], x ≠ p := fun x hx q => hp (by subst q; simp at hx ⊢; exact hx.symm)
  refine ⟨⟨?_, ?_⟩, hb⟩
  · rw [List.nodup_cons, List.nodup_cons]
    exact ⟨fun hm => (List.mem_cons.1 hm).elim (fun q => hpe q.symm) hn.1, fun q => hp (List.mem_cons_of_mem _ q), hn.2⟩
  · rw [show e :: p :: ps ++ [e] = e :: p :: (ps ++ [e]) by simp, hys]
    refine ⟨upd_eq _ _ _, ?_, ?_, upd_eq _ _ _, hy.congr (fun i hi => ?_) (fun i hi => ?_)⟩
    · rw [upd_ne (hpm b hb).symm, upd_eq]
    · rw [upd_ne hpe, upd_eq]
    · rw [← hys, List.dropLast_concat] at hi
      have q : i ≠ e := fun q => hn.1 (q ▸ hi)
      rw [upd_ne q, upd_ne (hpm i (by simp [hi]))]
    · simp only [List.tail_cons] at hi
      have q : i ≠ b := fun q => by rw [hys] at hn2; exact (List.nodup_cons.1 hn2).1 (q ▸ hi)
      rw [upd_ne q, upd_ne (hpm i (by rw [hys]; simp [hi]))]
theorem RingOk.last {e q : Nat} {xs : List Nat} {nx pv : Nat → Nat} (h : RingOk e (xs ++ [q]) nx pv) : pv e = q := by
  have hl := h.lnk
  rw [show e :: (xs ++ [q]) ++ [e] = (e :: xs) ++ q :: [e] by simp, Lnk.split] at hl
  exact hl.2.2.1
theorem RingOk.at_ {e a : Nat} {l1 l2 : List Nat} {nx pv : Nat → Nat} (h : RingOk e (l1 ++ a :: l2) nx pv) : nx a ∈ l2 ++ [e] ∧ (l2 ++ [e])[0]? = some (nx a) := by
  have hl := h.lnk
  rw [show e :: (l1 ++ a :: l2) ++ [e] = (e :: l1) ++ a :: (l2 ++ [e]) by simp, Lnk.split] at hl
  cases l2 with
  | nil => have := hl.2.1; simp [this]
  | cons b l => have := hl.2.1; simp [this]
theorem RingOk.first {e : Nat} {ps : List Nat} {nx pv : Nat → Nat} (h : RingOk e ps nx pv) : (ps ++ [e])[0]? = some (nx e) := by
  have hl := h.lnk
  cases ps with
  | nil => have := hl.1; simp [this]
  | cons b l => have := hl.1; simp [this]

/-! ### in memory -/
def pcell (x : En) (p n : Nat) : Array Value := #[.int .i64 x.i, .string (bst x.b), .bool x.d, .pointer (some ⟨p, 0, none⟩), .pointer (some ⟨n, 0, none⟩)]
abbrev PBlk (w : World) (c : Nat) (x : En) (p n : Nat) : Prop := Blk w c 57 (pcell x p n)
structure Nodes (w : World) (L : Nat → Prop) (vl : Nat → En) (pv nx : Nat → Nat) : Prop where
  at_ : ∀ c, L c → PBlk w c (vl c) (pv c) (nx c)
theorem Nodes.mono {w : World} {L L' : Nat → Prop} {vl : Nat → En} {pv nx : Nat → Nat} (h : Nodes w L vl pv nx) (hl : ∀ c, L' c → L c) : Nodes w L' vl pv nx := ⟨fun c hc => h.at_ c (hl c hc)⟩
theorem Nodes.keep {w w' : World} {L : Nat → Prop} {vl : Nat → En} {pv nx : Nat → Nat} (h : Nodes w L vl pv nx) (hk : ∀ c, L c → w'.heap[c]? = w.heap[c]?) : Nodes w' L vl pv nx := ⟨fun c hc => (hk c hc).trans (h.at_ c hc)⟩
theorem Nodes.step {w w' : World} {L : Nat → Prop} {vl : Nat → En} {pv nx : Nat → Nat} (h : Nodes w L vl pv nx) (hb : Below w.heap.size w w') : Nodes w' L vl pv nx := h.keep fun c hc => hb.block c (h.at_ c hc).lt
theorem Nodes.setNext {w : World} {L : Nat → Prop} {vl : Nat → En} {pv nx : Nat → Nat} (h : Nodes w L vl pv nx) (a b : Nat) : Nodes (w.setCell ⟨a, 4, none⟩ (.pointer (some ⟨b, 0, none⟩))) L vl pv (upd nx a b) := ⟨fun c hc => by
  by_cases e : c = a
  · subst e
    have := (h.at_ c hc).set 4 (.pointer (some ⟨b, 0, none⟩))
    simpa [pcell, upd_eq, PBlk] using this
  · rw [upd_ne e]; exact (h.at_ c hc).far e _⟩
theorem Nodes.setPrior {w : World} {L : Nat → Prop} {vl : Nat → En} {pv nx : Nat → Nat} (h : Nodes w L vl pv nx) (a b : Nat) : Nodes (w.setCell ⟨a, 3, none⟩ (.pointer (some ⟨b, 0, none⟩))) L vl (upd pv a b) nx := ⟨fun c hc => by
  by_cases e : c = a
  · subst e
    have := (h.at_ c hc).set 3 (.pointer (some ⟨b, 0, none⟩))
    simpa [pcell, upd_eq, PBlk] using this
  · rw [upd_ne e]; exact (h.at_ c hc).far e _⟩
def updE (f : Nat → En) (a : Nat) (x : En) : Nat → En := fun i => if i = a then x else f i
theorem updE_eq (f : Nat → En) (a : Nat) (x : En) : updE f a x a = x := if_pos rfl
theorem updE_ne {f : Nat → En} {a i : Nat} {x : En} (h : i ≠ a) : updE f a x i = f i := if_neg h
theorem Nodes.setDirty {w : World} {L : Nat → Prop} {vl : Nat → En} {pv nx : Nat → Nat} (h : Nodes w L vl pv nx) (a : Nat) (d : Bool) : Nodes (w.setCell ⟨a, 2, none⟩ (.bool d)) L (updE vl a { vl a with d := d }) pv nx := ⟨fun c hc => by
  by_cases e : c = a
  · subst e
    have := (h.at_ c hc).set 2 (.bool d)
    simpa [pcell, updE_eq, PBlk] using this
  · rw [updE_ne e]; exact (h.at_ c hc).far e _⟩
theorem Nodes.setBytes {w : World} {L : Nat → Prop} {vl : Nat → En} {pv nx : Nat → Nat} (h : Nodes w L vl pv nx) (a : Nat) (b : List UInt8) : Nodes (w.setCell ⟨a, 1, none⟩ (.string (bst b))) L (updE vl a { vl a with b := b }) pv nx := ⟨fun c hc => by
  by_cases e : c = a
  · subst e
    have := (h.at_ c hc).set 1 (.string (bst b))
    simpa [pcell, updE_eq, PBlk] using this
  · rw [updE_ne e]; exact (h.at_ c hc).far e _⟩
theorem five {w : World} {c p n : Nat} {x : En} (h : PBlk w c x p n) :
    w.cell? ⟨c, 0, none⟩ = some (.int .i64 x.i) ∧ w.cell? ⟨c, 1, none⟩ = some (.string (bst x.b)) ∧ w.cell? ⟨c, 2, none⟩ = some (.bool x.d) ∧ w.cell? ⟨c, 3, none⟩ = some (.pointer (some ⟨p, 0, none⟩)) ∧ w.cell? ⟨c, 4, none⟩ = some (.pointer (some ⟨n, 0, none⟩)) ∧
      w.frozen? ⟨c, 1, none⟩ = false ∧ w.frozen? ⟨c, 2, none⟩ = false ∧ w.frozen? ⟨c, 3, none⟩ = false ∧ w.frozen? ⟨c, 4, none⟩ = false :=
  ⟨h.cell 0, h.cell 1, h.cell 2, h.cell 3, h.cell 4, h.free 1, h.free 2, h.free 3, h.free 4⟩

/-- the world has turned in M and in new blocks alone -/
structure Within (M : Nat → Prop) (w w' : World) : Prop where
  os : w'.os = w.os
  tape : w'.tape = w.tape
  output : w'.output = w.output
  size : w.heap.size ≤ w'.heap.size
  block : ∀ k, k < w.heap.size → ¬ M k → w'.heap[k]? = w.heap[k]?
theorem Within.of_only {M : Nat → Prop} {w w' : World} {r : Nat} (h : Only r w w') (hr : M r ∨ w.heap.size ≤ r) : Within M w w' := ⟨h.os, h.tape, h.output, h.size, fun k hk hm => h.block k hk (fun e => by
  injection e with e; subst e; exact hr.elim hm (fun h => by omega))⟩
theorem Within.of_below {M : Nat → Prop} {w w' : World} (h : Below w.heap.size w w') : Within M w w' := ⟨h.os, h.tape, h.output, h.size, fun k hk _ => h.block k hk⟩
theorem Within.refl (M : Nat → Prop) (w : World) : Within M w w := ⟨rfl, rfl, rfl, Nat.le_refl _, fun _ _ _ => rfl⟩
theorem Within.trans {M : Nat → Prop} {a b c : World} (h : Within M a b) (k : Within M b c) : Within M a c :=
  ⟨k.os.trans h.os, k.tape.trans h.tape, k.output.trans h.output, Nat.le_trans h.size k.size, fun i hi hm => (k.block i (Nat.lt_of_lt_of_le hi h.size) hm).trans (h.block i hi hm)⟩
theorem Within.mono {M M' : Nat → Prop} {w w' : World} (h : Within M w w') (hm : ∀ k, M k → M' k) : Within M' w w' := ⟨h.os, h.tape, h.output, h.size, fun k hk hn => h.block k hk fun x => hn (hm k x)⟩
/-- in M, then in M or in what is new -/
theorem Within.then {M M' : Nat → Prop} {a b c : World} (h : Within M a b) (k : Within M' b c) (hm : ∀ i, M' i → M i ∨ a.heap.size ≤ i) : Within M a c :=
  ⟨k.os.trans h.os, k.tape.trans h.tape, k.output.trans h.output, Nat.le_trans h.size k.size, fun i hi hn => (k.block i (Nat.lt_of_lt_of_le hi h.size) (fun x => (hm i x).elim hn (by omega))).trans (h.block i hi hn)⟩
theorem Within.drew {M : Nat → Prop} {a w : World} (h : Within M a w) : Within M a w.drew := ⟨h.os, h.tape, h.output, h.size, h.block⟩
theorem Within.set {M : Nat → Prop} {a w : World} (h : Within M a w) {p : Addr} (hp : M p.block ∨ a.heap.size ≤ p.block) (u : Value) : Within M a (w.setCell p u) :=
  ⟨h.os, h.tape, h.output, by simpa [World.setCell] using h.size, fun k hk hn => (Below.heap_setCell w _ u k (fun e => by subst e; exact hp.elim hn (by omega))).trans (h.block k hk hn)⟩
theorem Within.alloc {M : Nat → Prop} {a w : World} (h : Within M a w) (o : Obj) : Within M a (w.alloc o) :=
  ⟨h.os, h.tape, h.output, Nat.le_trans h.size (by simp), fun k hk hn => (Below.heap_alloc w o k (Nat.lt_of_lt_of_le hk h.size)).trans (h.block k hk hn)⟩
theorem Within.below {M : Nat → Prop} {B : Nat} {a w : World} (h : Within M a w) (hm : ∀ k, M k → B ≤ k) (hB : B ≤ a.heap.size) : Below B a w :=
  ⟨h.os, h.tape, h.output, h.size, fun k hk => h.block k (by omega) (fun x => by have := hm k x; omega)⟩
theorem Blk.within {M : Nat → Prop} {w w' : World} {g : Nat} {t : TypeId} {cs : Array Value} (h : Blk w g t cs) (hw : Within M w w') (hn : ¬ M g) : Blk w' g t cs := (hw.block g h.lt hn).trans h
theorem Tab.within {M : Nat → Prop} {w w' : World} {b n : Nat} {m : TabF} (h : Tab w b m n) (hw : Within M w w') (hn : ¬ M b) : Tab w' b m n := h.of_block (hw.block b h.lt hn)

end Go.Proofs.Ytdhjjjagjkencaa
