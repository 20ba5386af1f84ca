/-
  The blocks of a reader and a writer, and frames that let one block turn.
-/
import Derived.Test.YtamieogikmnpcaaWords
namespace Go.Proofs.Ytamieogikmnpcaa
open Go Go.RowKit

/-- block g is just these cells -/
def Blk (w : World) (g : Nat) (t : TypeId) (cs : Array Value) : Prop := w.heap[g]? = some (.cells cs t (0, 0))
theorem Blk.lt {w : World} {g : Nat} {t : TypeId} {cs : Array Value} (h : Blk w g t cs) : g < w.heap.size := lt_of_block h
theorem Blk.cell {w : World} {g : Nat} {t : TypeId} {cs : Array Value} (h : Blk w g t cs) (i : Nat) : w.cell? ⟨g, i, none⟩ = cs[i]? := cell_of_row w g i cs t (0, 0) h
theorem Blk.free {w : World} {g : Nat} {t : TypeId} {cs : Array Value} (h : Blk w g t cs) (i : Nat) : w.frozen? ⟨g, i, none⟩ = false := by
  unfold Blk at h; simp [World.frozen?, h]
theorem Blk.alloc {w : World} {g : Nat} {t : TypeId} {cs : Array Value} (h : Blk w g t cs) (o : Obj) : Blk (w.alloc o) g t cs := (Below.heap_alloc w o g h.lt).trans h
theorem Blk.drew {w : World} {g : Nat} {t : TypeId} {cs : Array Value} (h : Blk w g t cs) : Blk w.drew g t cs := h
theorem Blk.drewN {w : World} {g : Nat} {t : TypeId} {cs : Array Value} (h : Blk w g t cs) (n : Nat) : Blk (w.drewN n) g t cs := h
theorem Blk.set {w : World} {g : Nat} {t : TypeId} {cs : Array Value} (h : Blk w g t cs) (i : Nat) (u : Value) : Blk (w.setCell ⟨g, i, none⟩ u) g t (cs.setIfInBounds i u) := by
  unfold Blk at h ⊢
  simp [World.setCell, Array.getElem?_modify, h]
theorem Blk.far {w : World} {g : Nat} {t : TypeId} {cs : Array Value} (h : Blk w g t cs) {p : Addr} (hp : g ≠ p.block) (u : Value) : Blk (w.setCell p u) g t cs := (Below.heap_setCell w p u g hp).trans h
theorem Blk.below {w w' : World} {B g : Nat} {t : TypeId} {cs : Array Value} (h : Blk w g t cs) (hb : Below B w w') (hg : g < B) : Blk w' g t cs := (hb.block g hg).trans h
theorem Blk.grown {w w' : World} {g : Nat} {row : Option Nat} {t : TypeId} {cs : Array Value} (h : Blk w g t cs) (hb : w.grownBy w' row) (hg : some g ≠ row) : Blk w' g t cs := (hb.block g h.lt hg).trans h
theorem Blk.ne {w : World} {g g' : Nat} {t t' : TypeId} {cs cs' : Array Value} (h : Blk w g t cs) (h' : Blk w g' t' cs') (hne : t ≠ t') : g ≠ g' := by
  rintro rfl
  unfold Blk at h h'
  rw [h] at h'
  injection h' with h'
  injection h' with _ ht
  exact hne ht
theorem Blk.new (w : World) (t : TypeId) (cs : Array Value) : Blk (w.alloc (.cells cs t)) w.heap.size t cs := heap_alloc_new w _

/-- only block r, and what is new, has turned -/
abbrev Only (r : Nat) (w w' : World) : Prop := w.grownBy w' (some r)
theorem Only.refl (r : Nat) (w : World) : Only r w w := World.grownBy.refl w _
theorem Only.trans {r : Nat} {a b c : World} (h : Only r a b) (k : Only r b c) : Only r a c :=
  ⟨k.os.trans h.os, k.tape.trans h.tape, k.output.trans h.output, Nat.le_trans h.size k.size, fun i hi hne => (k.block i (Nat.lt_of_lt_of_le hi h.size) hne).trans (h.block i hi hne)⟩
theorem Only.alloc {r : Nat} {a w : World} (h : Only r a w) (o : Obj) : Only r a (w.alloc o) :=
  ⟨h.os, h.tape, h.output, Nat.le_trans h.size (by simp), fun i hi hne => (Below.heap_alloc w o i (Nat.lt_of_lt_of_le hi h.size)).trans (h.block i hi hne)⟩
theorem Only.drewN {r : Nat} {a w : World} (h : Only r a w) (n : Nat) : Only r a (w.drewN n) := ⟨h.os, h.tape, h.output, h.size, h.block⟩
theorem Only.drew {r : Nat} {a w : World} (h : Only r a w) : Only r a w.drew := ⟨h.os, h.tape, h.output, h.size, h.block⟩
theorem Only.set {r : Nat} {a w : World} (h : Only r a w) {i : Nat} (u : Value) : Only r a (w.setCell ⟨r, i, none⟩ u) :=
  ⟨h.os, h.tape, h.output, by simpa [World.setCell] using h.size, fun k hk hne => (Below.heap_setCell w _ u k (fun e => hne (by rw [e]))).trans (h.block k hk hne)⟩
theorem Only.new {r : Nat} {a w : World} (h : Only r a w) {p : Addr} (hp : a.heap.size ≤ p.block) (u : Value) : Only r a (w.setCell p u) :=
  ⟨h.os, h.tape, h.output, by simpa [World.setCell] using h.size, fun k hk hne => (Below.heap_setCell w _ u k (by omega)).trans (h.block k hk hne)⟩
theorem Only.of_below {r : Nat} {a w : World} (h : Below a.heap.size a w) : Only r a w := ⟨h.os, h.tape, h.output, h.size, fun i hi _ => h.block i hi⟩
theorem Only.more {r : Nat} {a w w' : World} (h : Only r a w) (k : Below w.heap.size w w') : Only r a w' := h.trans (Only.of_below k)
theorem Only.below {r B : Nat} {a w : World} (h : Only r a w) (hB : B ≤ r) (hs : B ≤ a.heap.size) : Below B a w := ⟨h.os, h.tape, h.output, h.size, fun i hi => h.block i (by omega) (fun e => by injection e; omega)⟩
theorem At.only {r B : Nat} {a w : World} {A : Option Addr} {l : List UInt8} (h : At a B A l) (hb : Only r a w) (hB : B ≤ r) (hs : B ≤ a.heap.size) : At w B A l := h.below (hb.below hB hs)

/-- the first k of a row -/
theorem At.take {w : World} {B : Nat} {A : Option Addr} {l : List UInt8} (h : At w B A l) (k : Nat) : At w B A (l.take k) := fun hl => by
  obtain ⟨b, off, e, hb, hc⟩ := h (by rw [List.length_take] at hl; omega)
  exact ⟨b, off, e, hb, fun j x hj => hc j x (by
    rw [List.getElem?_take] at hj
    split at hj
    · exact hj
    · cases hj)⟩

/-- s[n:] -/
theorem slice_from {w : World} {B m c n : Nat} {A : Option Addr} {l : List UInt8} (hA : At w B A l) (hm : m = l.length) (hc : m ≤ c) (hn : n ≤ m) :
    ∃ A', (∀ (k : IntKind) (W : World), (Instr.slice 30 (.slice A m c) (some (.int k (n : Int))) none none).run Try.prog W = .ok (.slice A' (m - n) (c - n)) W) ∧ At w B A' (l.drop n) := by
  obtain ⟨i0, hi, hz0, hz1, hz2⟩ := info_parts info_byte
  refine ⟨if c = n then A else A.map (·.add n), fun k W => ?_, hA.cut (k := n) (by omega)⟩
  have e : Try.prog.elem 30 = 5 := by kernel_rfl
  rw [run_slice_l (P := Try.prog) W 30 A m c (by rw [e]; exact Try.underlying30) k n (by omega) (by omega), e]
  simp [sizeOf, typeInfo, hi, hz1, sliced]

/-- a reader: what is left of its bytes, which lie below it, and what went wrong first -/
def RB (w : World) (r : Nat) (A : Option Addr) (m c : Nat) (e : Int) : Prop := Blk w r 57 #[.slice A m c, .int .i64 e]
structure Rd (w : World) (r : Nat) (l : List UInt8) (e : Nat) : Prop where
  out : ∃ A m c, RB w r A m c (e : Int) ∧ m = l.length ∧ m ≤ c ∧ l.length ≤ 140737488351232 ∧ At w r A l
/-- the variable that leads to it -/
def QB (w : World) (q r : Nat) : Prop := Blk w q 37 #[.pointer (some ⟨r, 0, none⟩)]
theorem RB.ne {w : World} {r q r' : Nat} {A : Option Addr} {m c : Nat} {e : Int} (h : RB w r A m c e) (h' : QB w q r') : r ≠ q := Blk.ne h h' (by decide)
theorem RB.c0 {w : World} {r m c : Nat} {A : Option Addr} {e : Int} (h : RB w r A m c e) : w.cell? ⟨r, 0, none⟩ = some (.slice A m c) := Blk.cell h 0
theorem RB.c1 {w : World} {r m c : Nat} {A : Option Addr} {e : Int} (h : RB w r A m c e) : w.cell? ⟨r, 1, none⟩ = some (.int .i64 e) := Blk.cell h 1
theorem RB.f0 {w : World} {r m c : Nat} {A : Option Addr} {e : Int} (h : RB w r A m c e) : w.frozen? ⟨r, 0, none⟩ = false := Blk.free h 0
theorem RB.f1 {w : World} {r m c : Nat} {A : Option Addr} {e : Int} (h : RB w r A m c e) : w.frozen? ⟨r, 1, none⟩ = false := Blk.free h 1
theorem QB.c0 {w : World} {q r : Nat} (h : QB w q r) : w.cell? ⟨q, 0, none⟩ = some (.pointer (some ⟨r, 0, none⟩)) := Blk.cell h 0
theorem RB.set0 {w : World} {r m c m' c' : Nat} {A A' : Option Addr} {e : Int} (h : RB w r A m c e) : RB (w.setCell ⟨r, 0, none⟩ (.slice A' m' c')) r A' m' c' e := Blk.set h 0 _
theorem RB.set1 {w : World} {r m c : Nat} {A : Option Addr} {e e' : Int} (h : RB w r A m c e) : RB (w.setCell ⟨r, 1, none⟩ (.int .i64 e')) r A m c e' := Blk.set h 1 _
theorem At.setR {w : World} {r i : Nat} {A : Option Addr} {l : List UInt8} (h : At w r A l) (u : Value) : At (w.setCell ⟨r, i, none⟩ u) r A l :=
  h.keep fun p hp => World.cell?_setCell_other w _ p u (fun e => by subst e; simp at hp)
theorem Rd.lt {w : World} {r e : Nat} {l : List UInt8} (h : Rd w r l e) : r < w.heap.size := by
  obtain ⟨A, m, c, h1, _⟩ := h.out
  exact Blk.lt h1
theorem Rd.below {w w' : World} {r e B : Nat} {l : List UInt8} (h : Rd w r l e) (hb : Below B w w') (hB : r < B) : Rd w' r l e := by
  obtain ⟨A, m, c, h1, h2, h3, h4, h5⟩ := h.out
  exact ⟨A, m, c, Blk.below h1 hb hB, h2, h3, h4, h5.below (hb.mono (by omega))⟩
theorem Rd.step {w w' : World} {r e : Nat} {l : List UInt8} (h : Rd w r l e) (hb : Below w.heap.size w w') : Rd w' r l e := h.below hb h.lt

end Go.Proofs.Ytamieogikmnpcaa
