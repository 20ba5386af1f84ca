/-
  The blocks of a reader and a writer, and frames that let one block turn.
-/
import Derived.Test.YtikggbopoajcbaaDoorWords
import Derived.Test.YtikggbopoajcbaaDoorSlices
import Derived.Test.YtikggbopoajcbaaDoorBlock
namespace Go.Proofs.YtikggbopoajcbaaDoor
open Go Go.RowKit

/-- a reader: what is left of its bytes, which lie below it, and what went wrong first -/
def RB (w : World) (r : Nat) (A : Option Addr) (m c : Nat) (e : Int) : Prop := Blk w r 100 #[.slice A m c, .int .i64 e]
structure Rd (w : World) (r : Nat) (l : List UInt8) (e : Nat) : Prop where
  out : ∃ A m c, RB w r A m c (e : Int) ∧ m = l.length ∧ m ≤ c ∧ l.length ≤ 140737488351232 ∧ At w r A l
/-- the variable that leads to it -/
def QB (w : World) (q r : Nat) : Prop := Blk w q 69 #[.pointer (some ⟨r, 0, none⟩)]
theorem RB.ne {w : World} {r q r' : Nat} {A : Option Addr} {m c : Nat} {e : Int} (h : RB w r A m c e) (h' : QB w q r') : r ≠ q := Blk.ne h h' (by decide)
theorem RB.c0 {w : World} {r m c : Nat} {A : Option Addr} {e : Int} (h : RB w r A m c e) : w.cell? ⟨r, 0, none⟩ = some (.slice A m c) := Blk.cell h 0
theorem RB.c1 {w : World} {r m c : Nat} {A : Option Addr} {e : Int} (h : RB w r A m c e) : w.cell? ⟨r, 1, none⟩ = some (.int .i64 e) := Blk.cell h 1
theorem RB.f0 {w : World} {r m c : Nat} {A : Option Addr} {e : Int} (h : RB w r A m c e) : w.frozen? ⟨r, 0, none⟩ = false := Blk.free h 0
theorem RB.f1 {w : World} {r m c : Nat} {A : Option Addr} {e : Int} (h : RB w r A m c e) : w.frozen? ⟨r, 1, none⟩ = false := Blk.free h 1
theorem QB.c0 {w : World} {q r : Nat} (h : QB w q r) : w.cell? ⟨q, 0, none⟩ = some (.pointer (some ⟨r, 0, none⟩)) := Blk.cell h 0
theorem RB.set0 {w : World} {r m c m' c' : Nat} {A A' : Option Addr} {e : Int} (h : RB w r A m c e) : RB (w.setCell ⟨r, 0, none⟩ (.slice A' m' c')) r A' m' c' e := Blk.set h 0 _
theorem RB.set1 {w : World} {r m c : Nat} {A : Option Addr} {e e' : Int} (h : RB w r A m c e) : RB (w.setCell ⟨r, 1, none⟩ (.int .i64 e')) r A m c e' := Blk.set h 1 _
theorem At.setR {w : World} {r i : Nat} {A : Option Addr} {l : List UInt8} (h : At w r A l) (u : Value) : At (w.setCell ⟨r, i, none⟩ u) r A l :=
  h.keep fun p hp => World.cell?_setCell_other w _ p u (fun e => by subst e; simp at hp)
theorem Rd.lt {w : World} {r e : Nat} {l : List UInt8} (h : Rd w r l e) : r < w.heap.size := by
  obtain ⟨A, m, c, h1, _⟩ := h.out
  exact Blk.lt h1
theorem Rd.below {w w' : World} {r e B : Nat} {l : List UInt8} (h : Rd w r l e) (hb : Below B w w') (hB : r < B) : Rd w' r l e := by
  obtain ⟨A, m, c, h1, h2, h3, h4, h5⟩ := h.out
  exact ⟨A, m, c, Blk.below h1 hb hB, h2, h3, h4, h5.below (hb.mono (by omega))⟩
theorem Rd.step {w w' : World} {r e : Nat} {l : List UInt8} (h : Rd w r l e) (hb : Below w.heap.size w w') : Rd w' r l e := h.below hb h.lt

end Go.Proofs.YtikggbopoajcbaaDoor
