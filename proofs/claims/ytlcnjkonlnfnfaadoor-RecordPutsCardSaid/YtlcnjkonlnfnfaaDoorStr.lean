/-
  append of a string to a row of bytes.
-/
import Derived.Test.YtlcnjkonlnfnfaaDoorJBytes
import Derived.Lib.AppendStr
namespace Go.Proofs.YtlcnjkonlnfnfaaDoor
open Go Go.RowKit

/-- append(b, s...), s a string -/
theorem wpList_append_str {P : Program} (w : World) {ops : Array Oper} {rest : List Oper} {o : Oper} {a : Act} {Q : Exit → Act → World → Prop} (hgd : o.guard = none) (sl x : Operand) (t u : TypeId)
    (ho : o.op = .call { callee := .builtin .append, args := #[sl, x], argTypes := #[t, u] })
    (base : Nat) (e : TypeId) (i : TypeInfo) (ht : P.underlying t = some (.slice e)) (hu : P.underlying u = some .string) (hi : P.info? e = some i) (hz : i.zero = some (.int .u8 0)) (hsize : i.size = 1) (hby : i.bytes = 1)
    (A : Option Addr) (m c : Nat) (l s : List UInt8) (hs : a.eval sl = .slice A m c) (hrow : Row w base e A m c l) (hx : a.eval x = .string (bst s)) (hlen : l.length + s.length ≤ 140737488355328) (hbase : base ≤ w.heap.size)
    (h : ∀ A' m' c' w', Row w' base e A' m' c' (l ++ s) → m' ≤ c' → Below base w w' → wpList P ops Q rest (a.put o.dst (.slice A' m' c')) w') : wpList P ops Q (o :: rest) a w := by
  obtain ⟨hm, hown⟩ := hrow
  subst hm
  refine Lib.wpList_append_own_string w hgd sl x t u ho base e i ht hu hi hz hsize hby _ l.length (bs l) hs hown (bst s) hx (by rw [bst_size]; unfold maxLen; omega) (by rw [bst_size]; omega) hbase ?_
  intro v' w' h1 h2 _
  have e1 : bs l ++ Lib.strCells (bst s) = bs (l ++ s) := by rw [bs_append]; rfl
  rw [e1, bst_size, ← List.length_append] at h1
  obtain ⟨A', c', rfl⟩ := own_shape h1
  refine h A' _ c' w' ⟨rfl, h1⟩ ?_ ((Below.refl _ _).grown h2 hbase (fun k hk => (hown.lt k hk).1))
  rcases h1.2 with ⟨hv, h0⟩ | ⟨g, cap, cur, hv, _, _, hnc, _⟩
  · rw [h0]; exact Nat.zero_le _
  · injection hv with _ _ hc
    subst hc
    exact hnc

end Go.Proofs.YtlcnjkonlnfnfaaDoor
