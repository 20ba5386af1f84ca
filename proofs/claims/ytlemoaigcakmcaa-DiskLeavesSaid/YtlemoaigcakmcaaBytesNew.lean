/-
  []byte(s) whose array is written into: the array is new, and nothing of it is frozen.
-/
import Derived.Test.YtlemoaigcakmcaaBase
namespace Go.Proofs.Ytlemoaigcakmcaa
open Go Go.RowKit

theorem wpList_bytes_new {P : Program} (w : World) {ops : Array Oper} {rest : List Oper} {o : Oper} {a : Act} {Q : Exit → Act → World → Prop} (hgd : o.guard = none) (x : Operand) (src dst e : TypeId)
    (ho : o.op = .convert src dst x) (hs : P.underlying src = some .string) (hd : P.underlying dst = some (.slice e)) (he : P.underlying e = some (.int .u8)) (l : List UInt8) (hx : a.eval x = .string (bst l))
    (h : ∀ g c w', g = w.heap.size → l.length ≤ c → At w' w'.heap.size (some ⟨g, 0, none⟩) l → (∀ j, j < l.length → w'.frozen? ⟨g, j, none⟩ = false) → Below w.heap.size w w' → wpList P ops Q rest (a.put o.dst (.slice (some ⟨g, 0, none⟩) l.length c)) w') : wpList P ops Q (o :: rest) a w := by
  refine wpList_plain hgd fun K hK => ?_
  have hrun := run_bytes_of_string (P := P) w src dst e (bst l) hs hd he
  have hcap := grownCap_ge w (bst l).size 0 e
  generalize grownCap w (bst l).size 0 e = cap at hrun hcap
  unfold Oper.wp
  simp only [execOp, ho, hx, Sem.run_bind, hrun, Result.andThen_ok, Sem.run_pure]
  rw [show (bst l).size = l.length from bst_size l] at hcap ⊢
  have hb : (w.drew.alloc (.cells (bytesRow (bst l) cap) e ((bytesRow (bst l) cap).size, (bytesRow (bst l) cap).size + 1))).heap[w.heap.size]? = some (.cells (bytesRow (bst l) cap) e ((bytesRow (bst l) cap).size, (bytesRow (bst l) cap).size + 1)) := heap_alloc_new w.drew _
  refine hK _ _ (h _ _ _ rfl hcap ?_ ?_ ?_)
  · intro hpos
    refine ⟨w.heap.size, 0, rfl, ?_, fun j y hj => ?_⟩
    · show w.heap.size < (w.heap.push _).size
      simp
    · rw [cell_of_row _ _ _ _ _ _ hb, Nat.zero_add]
      have hjl := (List.getElem?_eq_some_iff.1 hj).1
      have hv := (List.getElem?_eq_some_iff.1 hj).2
      simp [bytesRow, bst, Array.getElem?_append, hjl, hv]
  · intro j hj
    unfold World.frozen?
    simp only [hb]
    simp [bytesRow, bst]
    omega
  · exact ((Below.refl _ _).drew).alloc (by show w.heap.size ≤ w.heap.size; omega) _

/-- the same, one byte of it told -/
theorem wpList_bytes_one {P : Program} (w : World) {ops : Array Oper} {rest : List Oper} {o : Oper} {a : Act} {Q : Exit → Act → World → Prop} (hgd : o.guard = none) (x : Operand) (src dst e : TypeId)
    (ho : o.op = .convert src dst x) (hs : P.underlying src = some .string) (hd : P.underlying dst = some (.slice e)) (he : P.underlying e = some (.int .u8)) (l : List UInt8) (hx : a.eval x = .string (bst l)) (k : Nat) (y : UInt8) (hk : l[k]? = some y)
    (h : ∀ g c w', w.heap.size ≤ g → l.length ≤ c → Kept (At w' w'.heap.size (some ⟨g, 0, none⟩) l) → w'.cell? ⟨g, k, none⟩ = some (.int .u8 (y.toNat : Int)) → w'.frozen? ⟨g, k, none⟩ = false → Kept (Below w.heap.size w w') → wpList P ops Q rest (a.put o.dst (.slice (some ⟨g, 0, none⟩) l.length c)) w') : wpList P ops Q (o :: rest) a w := by
  refine wpList_bytes_new w hgd x src dst e ho hs hd he l hx fun g c w' hg hc hA hf hb => ?_
  have hkl := (List.getElem?_eq_some_iff.1 hk).1
  refine h g c w' (by rw [hg]; exact Nat.le_refl _) hc ⟨hA⟩ ?_ (hf k hkl) ⟨hb⟩
  obtain ⟨b, off, e, _, hcc⟩ := hA (by omega)
  injection e with e
  injection e with e1 e2 _
  subst e1 e2
  have := hcc k y hk
  rwa [Nat.zero_add] at this

/-- one byte of it is written -/
theorem At.setAt {w : World} {B g k : Nat} {l : List UInt8} (h : At w B (some ⟨g, 0, none⟩) l) (hk : k < l.length) (y : UInt8) : At (w.setCell ⟨g, k, none⟩ (.int .u8 (y.toNat : Int))) B (some ⟨g, 0, none⟩) (l.set k y) := fun hl => by
  obtain ⟨b, off, e, hb, hc⟩ := h (by omega)
  injection e with e
  injection e with e1 e2 _
  subst e1 e2
  refine ⟨g, 0, rfl, hb, fun j x hj => ?_⟩
  by_cases hjk : j = k
  · subst hjk
    rw [List.getElem?_set_self hk] at hj
    injection hj with hj
    subst hj
    have := hc j _ (List.getElem?_eq_getElem hk)
    rw [Nat.zero_add] at this ⊢
    exact World.cell?_setCell_same w _ _ this
  · rw [List.getElem?_set_ne (fun e => hjk e.symm)] at hj
    rw [World.cell?_setCell_other w _ _ _ (fun e => by injection e with _ e _; omega)]
    exact hc j x hj

end Go.Proofs.Ytlemoaigcakmcaa
