/-
  Cells and pages in memory.
-/
import Derived.Test.YtikggbopoajcbaaDoorPg
import Derived.Test.YtikggbopoajcbaaDoorGen
import Derived.Test.YtikggbopoajcbaaDoorWords
namespace Go.Proofs.YtikggbopoajcbaaDoor
open Go Go.RowKit

def eCl : Enc Cl := ⟨2, fun x => [.string (bst x.k), .string (bst x.v)], fun _ => rfl, fun x u hu => by simp at hu; rcases hu with rfl | rfl <;> rfl, by decide⟩
theorem gi_cell : GInfo eCl Tryd.prog 22 44 32 := ⟨Tryd.underlying22, by
  have h : (Tryd.prog.info? 44).map (fun i => (i.zero, i.size, i.bytes)) = some (some (.agg #[.string ByteArray.empty, .string ByteArray.empty]), 2, 32) := by kernel_rfl
  cases hi : Tryd.prog.info? 44 with
  | none => rw [hi] at h; cases h
  | some i =>
    rw [hi] at h
    injection h with h
    injection h with h1 h2
    injection h2 with h2 h3
    exact ⟨i, _, rfl, h1, h2, h3, rfl⟩⟩

abbrev CAt (w : World) (B : Nat) (A : Option Addr) (l : List Cl) : Prop := GAt eCl w B A l
def Cl.val (x : Cl) : Value := .agg #[.string (bst x.k), .string (bst x.v)]
theorem CAt.at {w : World} {B b off i : Nat} {l : List Cl} {x : Cl} (h : CAt w B (some ⟨b, off, none⟩) l) (hx : l[i]? = some x) : w.cell? ⟨b, off + i * 2, none⟩ = some (.string (bst x.k)) ∧ w.cell? ⟨b, off + i * 2 + 1, none⟩ = some (.string (bst x.v)) := by
  obtain ⟨b', off', e, _, hc⟩ := h (by have := (List.getElem?_eq_some_iff.1 hx).1; omega)
  injection e with e
  injection e with e1 e2
  subst e1 e2
  exact ⟨hc i x 0 _ hx rfl, hc i x 1 _ hx rfl⟩
theorem CAt.get {w : World} {B i : Nat} {A : Option Addr} {l : List Cl} (h : CAt w B A l) (hi : i < l.length) : ∃ b off x, A = some ⟨b, off, none⟩ ∧ b < B ∧ l[i]? = some x ∧ w.cell? ⟨b, off + i * 2, none⟩ = some (.string (bst x.k)) ∧ w.cell? ⟨b, off + i * 2 + 1, none⟩ = some (.string (bst x.v)) := by
  obtain ⟨b, off, x, rfl, hb, hx, _⟩ := GAt.get h hi
  have := CAt.at h hx
  exact ⟨b, off, x, rfl, hb, hx, this.1, this.2⟩
theorem CAt.step {w w' : World} {B : Nat} {A : Option Addr} {l : List Cl} (h : CAt w B A l) (hB : B ≤ w.heap.size) (hb : Below w.heap.size w w') : CAt w' B A l := GAt.below h (hb.mono hB)

/-- cells handed in: in memory below B, so many, with that capacity -/
structure CS (w : World) (B : Nat) (A : Option Addr) (n c : Nat) (l : List Cl) : Prop where
  at_ : CAt w B A l
  len : n = l.length
  cap : n ≤ c
  most : n ≤ 549755813888
  low : B ≤ w.heap.size
theorem CS.step {w w' : World} {B n c : Nat} {A : Option Addr} {l : List Cl} (h : CS w B A n c l) (hb : Below w.heap.size w w') : CS w' B A n c l := ⟨h.at_.step h.low hb, h.len, h.cap, h.most, Nat.le_trans h.low hb.size⟩
theorem CS.below {w w' : World} {B B' n c : Nat} {A : Option Addr} {l : List Cl} (h : CS w B A n c l) (hb : Below B' w w') (hB : B ≤ B') : CS w' B A n c l := ⟨GAt.below h.at_ (hb.mono hB), h.len, h.cap, h.most, Nat.le_trans h.low hb.size⟩
theorem CS.nil {w : World} {c : Nat} : CS w 0 none 0 c [] := ⟨GAt.nil, rfl, Nat.zero_le _, Nat.zero_le _, Nat.zero_le _⟩
theorem CS.more {w : World} {B B' n c : Nat} {A : Option Addr} {l : List Cl} (h : CS w B A n c l) (hB : B ≤ B') (hw : B' ≤ w.heap.size) : CS w B' A n c l := ⟨GAt.more h.at_ hB, h.len, h.cap, h.most, hw⟩
theorem CS.row {w : World} {base m c : Nat} {A : Option Addr} {l : List Cl} (h : GRow eCl 44 w base A m c l) (hl : l.length ≤ 549755813888) : CS w w.heap.size A m c l := ⟨h.at_, h.1, h.cap, by rw [h.1]; exact hl, Nat.le_refl _⟩

/-- a variable that holds a page -/
abbrev PBlk (w : World) (g : Nat) (leaf : Bool) (next : Int) (A : Option Addr) (n c : Nat) : Prop := Blk w g 24 #[.bool leaf, .int .i64 next, .slice A n c]
def pageV (leaf : Bool) (next : Int) (A : Option Addr) (n c : Nat) : Value := .agg #[.bool leaf, .int .i64 next, .slice A n c]
/-- a variable that holds a cell -/
abbrev CBlk (w : World) (g : Nat) (x : Cl) : Prop := Blk w g 44 #[.string (bst x.k), .string (bst x.v)]

end Go.Proofs.YtikggbopoajcbaaDoor
