/-
  Writes in memory: a slice of them.
-/
import Derived.Test.YtcdjbacljnofiaaWt
import Derived.Test.YtcdjbacljnofiaaJBytes
namespace Go.Proofs.Ytcdjbacljnofiaa
open Go Go.RowKit

def Wt.val (x : Wt) : Value := .agg #[.string (bst x.k), .string (bst x.v), .bool x.g]
/-- a batch by value -/
def Bt.val (b : Bt) (A : Option Addr) (cap : Nat) : Value := .agg #[.int .u64 (b.c : Int), .int .u64 (b.r : Int), .int .u64 (b.s : Int), .slice A b.ws.length cap]

/-- the three cells of a write -/
def WCells (w : World) (b o : Nat) (x : Wt) : Prop :=
  w.cell? ⟨b, o, none⟩ = some (.string (bst x.k)) ∧ w.cell? ⟨b, o + 1, none⟩ = some (.string (bst x.v)) ∧ w.cell? ⟨b, o + 2, none⟩ = some (.bool x.g)
theorem WCells.keep {w w' : World} {b o : Nat} {x : Wt} (h : WCells w b o x) (hk : w'.heap[b]? = w.heap[b]?) : WCells w' b o x := by
  have e : ∀ i, w'.cell? ⟨b, i, none⟩ = w.cell? ⟨b, i, none⟩ := fun i => World.cell?_of_block (a := ⟨b, i, none⟩) hk
  unfold WCells
  rw [e, e, e]
  exact h
/-- 'A' leads to writes, below block B -/
structure WAt (w : World) (B : Nat) (A : Option Addr) (ws : List Wt) : Prop where
  out : 0 < ws.length → ∃ b off, A = some ⟨b, off, none⟩ ∧ b < B ∧ ∀ i x, ws[i]? = some x → WCells w b (off + i * 3) x
theorem WAt.below {w w' : World} {B : Nat} {A : Option Addr} {ws : List Wt} (h : WAt w B A ws) (hb : Below B w w') : WAt w' B A ws := ⟨fun hl => by
  obtain ⟨b, off, e, hlt, hc⟩ := h.out hl
  exact ⟨b, off, e, hlt, fun i x hx => (hc i x hx).keep (hb.block b hlt)⟩⟩
theorem WAt.more {w : World} {B B' : Nat} {A : Option Addr} {ws : List Wt} (h : WAt w B A ws) (hB : B ≤ B') : WAt w B' A ws := ⟨fun hl => by
  obtain ⟨b, off, e, hlt, hc⟩ := h.out hl
  exact ⟨b, off, e, by omega, hc⟩⟩
theorem WAt.get {w : World} {B k : Nat} {A : Option Addr} {ws : List Wt} (h : WAt w B A ws) (hk : k < ws.length) :
    ∃ b off x, A = some ⟨b, off, none⟩ ∧ b < B ∧ ws[k]? = some x ∧ WCells w b (off + k * 3) x := by
  obtain ⟨b, off, e, hlt, hc⟩ := h.out (by omega)
  exact ⟨b, off, ws[k], e, hlt, List.getElem?_eq_getElem hk, hc k _ (List.getElem?_eq_getElem hk)⟩
theorem WAt.nil (w : World) (B : Nat) (A : Option Addr) : WAt w B A [] := ⟨fun h => absurd h (by simp)⟩
theorem WAt.step {w w' : World} {B : Nat} {A : Option Addr} {ws : List Wt} (h : WAt w B A ws) (hB : B ≤ w.heap.size) (hb : Below w.heap.size w w') : WAt w' B A ws := h.below (hb.mono hB)

/-- a boxed batch -/
theorem box_cells (w : World) (t : TypeId) (a b c d : Value) :
    (w.alloc (.cells #[a, b, c, d] t)).cell? ⟨w.heap.size, 0, none⟩ = some a ∧ (w.alloc (.cells #[a, b, c, d] t)).cell? ⟨w.heap.size, 1, none⟩ = some b ∧
      (w.alloc (.cells #[a, b, c, d] t)).cell? ⟨w.heap.size, 2, none⟩ = some c ∧ (w.alloc (.cells #[a, b, c, d] t)).cell? ⟨w.heap.size, 3, none⟩ = some d := by
  have hb := heap_alloc_new w (.cells #[a, b, c, d] t)
  refine ⟨?_, ?_, ?_, ?_⟩ <;> rw [cell_of_row _ _ _ _ _ _ hb] <;> rfl

end Go.Proofs.Ytcdjbacljnofiaa
