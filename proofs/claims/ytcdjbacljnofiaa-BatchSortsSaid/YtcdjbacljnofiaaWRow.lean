/-
  A row of writes of the call's own, and append to it.
-/
import Derived.Test.YtcdjbacljnofiaaWEq
import Derived.Maps.AppendAt
import Derived.Lib.SmallJoins
namespace Go.Proofs.Ytcdjbacljnofiaa
open Go Go.RowKit

/-- the cells of writes -/
def wcs (ws : List Wt) : List Value := ws.flatMap fun x => [.string (bst x.k), .string (bst x.v), .bool x.g]
theorem wcs_cons (x : Wt) (ws : List Wt) : wcs (x :: ws) = .string (bst x.k) :: .string (bst x.v) :: .bool x.g :: wcs ws := by simp [wcs]
theorem wcs_append (a b : List Wt) : wcs (a ++ b) = wcs a ++ wcs b := by simp [wcs]
theorem wcs_length (ws : List Wt) : (wcs ws).length = ws.length * 3 := by
  induction ws with
  | nil => rfl
  | cons x ws ih => rw [wcs_cons]; simp only [List.length_cons, ih]; omega
theorem wcs_one (ws : List Wt) : ∀ u ∈ wcs ws, u.oneCell' = true := by
  intro u hu
  simp only [wcs, List.mem_flatMap] at hu
  obtain ⟨x, _, hx⟩ := hu
  simp at hx
  rcases hx with rfl | rfl | rfl <;> rfl
theorem wcs_get : ∀ (ws : List Wt) (i : Nat) (x : Wt), ws[i]? = some x → (wcs ws)[i * 3]? = some (.string (bst x.k)) ∧ (wcs ws)[i * 3 + 1]? = some (.string (bst x.v)) ∧ (wcs ws)[i * 3 + 2]? = some (.bool x.g)
  | [], i, x, h => by simp at h
  | y :: ws, 0, x, h => by
    obtain rfl : y = x := by simpa using h
    rw [wcs_cons]
    simp
  | y :: ws, i + 1, x, h => by
    have ih := wcs_get ws i x (by simpa using h)
    rw [wcs_cons, show (i + 1) * 3 = i * 3 + 1 + 1 + 1 by omega, show i * 3 + 1 + 1 + 1 + 1 = i * 3 + 1 + 1 + 1 + 1 from rfl]
    simpa using ih
theorem wcs_at {ws : List Wt} {j : Nat} {u : Value} (h : (wcs ws)[j]? = some u) : ∃ i x k, j = i * 3 + k ∧ k < 3 ∧ ws[i]? = some x ∧ (k = 0 ∧ u = .string (bst x.k) ∨ k = 1 ∧ u = .string (bst x.v) ∨ k = 2 ∧ u = .bool x.g) := by
  have hj := (List.getElem?_eq_some_iff.1 h).1
  rw [wcs_length] at hj
  have hi : j / 3 < ws.length := by omega
  have hx : ws[j / 3]? = some ws[j / 3] := List.getElem?_eq_getElem hi
  obtain ⟨g0, g1, g2⟩ := wcs_get ws (j / 3) _ hx
  have hm : j % 3 < 3 := Nat.mod_lt _ (by decide)
  have hd := Nat.div_add_mod j 3
  refine ⟨j / 3, _, j % 3, by omega, hm, hx, ?_⟩
  rcases (show j % 3 = 0 ∨ j % 3 = 1 ∨ j % 3 = 2 by omega) with e | e | e
  · rw [show j = j / 3 * 3 by omega, g0] at h
    injection h with h
    exact .inl ⟨e, h.symm⟩
  · rw [show j = j / 3 * 3 + 1 by omega, g1] at h
    injection h with h
    exact .inr (.inl ⟨e, h.symm⟩)
  · rw [show j = j / 3 * 3 + 2 by omega, g2] at h
    injection h with h
    exact .inr (.inr ⟨e, h.symm⟩)

def WRow (w : World) (base : Nat) (A : Option Addr) (m c : Nat) (ws : List Wt) : Prop :=
  m = ws.length ∧ w.ownsRow base 43 3 (.slice A m c) m (wcs ws)
theorem WRow.at_ {w : World} {base m c : Nat} {A : Option Addr} {ws : List Wt} (h : WRow w base A m c ws) : WAt w w.heap.size A ws := ⟨fun hl => by
  obtain ⟨hm, hown⟩ := h
  rcases hown.2 with ⟨_, h0⟩ | ⟨g, cap, cur, hv, _, hg, _⟩
  · omega
  · have hA : A = some ⟨g, 0, none⟩ := by injection hv
    subst hA
    have hlt : g < w.heap.size := (Array.getElem?_eq_some_iff.1 hg).1
    refine ⟨g, 0, rfl, hlt, fun i x hx => ?_⟩
    obtain ⟨g0, g1, g2⟩ := wcs_get ws i x hx
    have ea : ∀ j, (⟨g, 0, none⟩ : Addr).add j = ⟨g, 0 + j, none⟩ := by intro j; unfold Addr.add; split <;> simp_all
    have e0 := hown.cells (g := g) rfl _ _ g0
    have e1 := hown.cells (g := g) rfl _ _ g1
    have e2 := hown.cells (g := g) rfl _ _ g2
    rw [ea] at e0 e1 e2
    exact ⟨e0, by rw [Nat.add_assoc]; exact e1, by rw [Nat.add_assoc]; exact e2⟩⟩
theorem WRow.alloc {w : World} {base m c : Nat} {A : Option Addr} {ws : List Wt} (h : WRow w base A m c ws) (o : Obj) : WRow (w.alloc o) base A m c ws := ⟨h.1, h.2.alloc o⟩
theorem WRow.below {w w' : World} {base m c : Nat} {A : Option Addr} {ws : List Wt} (h : WRow w base A m c ws) (hb : Below w.heap.size w w') : WRow w' base A m c ws := by
  refine ⟨h.1, h.2.kept (row := none) ⟨hb.os, hb.tape, hb.output, hb.size, fun k hk _ => hb.block k hk⟩ ?_⟩
  cases hv : (Value.slice A m c).ownBlock <;> simp
theorem WRow.le {w : World} {base base' m c : Nat} {A : Option Addr} {ws : List Wt} (h : WRow w base A m c ws) (hb : base' ≤ base) : WRow w base' A m c ws := ⟨h.1, Joins.ownsRow_le h.2 hb⟩
theorem WRow.cap {w : World} {base m c : Nat} {A : Option Addr} {ws : List Wt} (h : WRow w base A m c ws) : m ≤ c := by
  rcases h.2.2 with ⟨_, h0⟩ | ⟨g, cap, cur, hv, _, _, hnc, _⟩
  · omega
  · injection hv with _ _ hc
    omega
theorem WRow.nil (w : World) (base : Nat) : WRow w base none 0 0 [] := ⟨rfl, World.ownsRow_nil _ _ _ _⟩
/-- a slice written out without elements -/
theorem WRow.empty (w : World) {base g : Nat} (hg : g = w.heap.size) (hb : base ≤ w.heap.size) : WRow (w.alloc (.cells #[] 43)) base (some ⟨g, 0, none⟩) 0 0 [] := by
  subst hg
  exact ⟨rfl, rfl, .inr ⟨w.heap.size, 0, #[], rfl, hb, heap_alloc_new w _, Nat.le_refl _, Nat.zero_le _, rfl, rfl⟩⟩
/-- one write that has just been written out -/
theorem WAt.one (w : World) (x : Wt) {g : Nat} (hg : g = w.heap.size) : WAt (w.alloc (.cells #[.string (bst x.k), .string (bst x.v), .bool x.g] 43)) (w.heap.size + 1) (some ⟨g, 0, none⟩) [x] := ⟨fun _ => by
  subst hg
  refine ⟨w.heap.size, 0, rfl, by omega, fun i y hy => ?_⟩
  have h0 : i = 0 := by
    have := (List.getElem?_eq_some_iff.1 hy).1
    simp at this; omega
  subst h0
  obtain rfl : x = y := by simpa using hy
  have hb := heap_alloc_new w (.cells #[.string (bst x.k), .string (bst x.v), .bool x.g] 43)
  refine ⟨?_, ?_, ?_⟩ <;> rw [cell_of_row _ _ _ _ _ _ hb] <;> rfl⟩

theorem info_write : (Try.prog.info? 43).map (fun i => (i.zero, i.size, i.bytes)) = some (some (.agg #[.string ⟨#[]⟩, .string ⟨#[]⟩, .bool false]), 3, 40) := by kernel_rfl

set_option maxRecDepth 100000 in
/-- append(l, m...): both slices of writes -/
theorem wp_append_ws (w : World) {o : Oper} {a : Act} {K : Act → World → Prop} {Q : Exit → Act → World → Prop} (s x : Operand)
    (ho : o.op = .call { callee := .builtin .append, args := #[s, x], argTypes := #[23, 23] })
    (base : Nat) {A A2 : Option Addr} {m c n c2 B : Nat} {ws ns : List Wt} (hs : a.eval s = .slice A m c) (hrow : WRow w base A m c ws) (hx : a.eval x = .slice A2 n c2) (hn : n = ns.length) (hA : WAt w B A2 ns)
    (hlen : ws.length + ns.length ≤ 1099511627776) (hbase : base ≤ w.heap.size)
    (h : ∀ A' m' c' w', WRow w' base A' m' c' (ws ++ ns) → m' ≤ c' → Below base w w' → w.grownBy w' (Value.slice A m c).ownBlock → K (a.put o.dst (.slice A' m' c')) w') : o.wp Try.prog a w K Q := by
  obtain ⟨i0, hi, hz0, hz1, hz2⟩ := info_parts info_write
  obtain ⟨hm, hown⟩ := hrow
  subst hm hn
  have hrun : ∃ v' w', (Builtin.append_ #[23, 23] o.type #[.slice A ws.length c, .slice A2 ns.length c2]).run Try.prog w = .ok v' w' ∧ w'.ownsRow base 43 3 v' (ws ++ ns).length (wcs (ws ++ ns)) ∧ w.grownBy w' (Value.slice A ws.length c).ownBlock := by
    rcases A2 with _ | ad
    · have hnn : ns = [] := by
        rcases ns with _ | ⟨y, r⟩
        · rfl
        · obtain ⟨_, _, h, _⟩ := hA.out (by simp)
          cases h
      subst hnn
      refine ⟨_, w, ?_, by simpa using hown, World.grownBy.refl w _⟩
      rcases hown.2 with ⟨hv, h0⟩ | ⟨g, cap, cur, hv, _, _, hnc, _⟩
      · rw [hv]
        simp [Builtin.append_, run_underlying Try.underlying23, sizeOf, typeInfo, hi, Builtin.lenOf, Builtin.firstCells]
      · rw [hv]
        simp [Builtin.append_, run_underlying Try.underlying23, sizeOf, typeInfo, hi, Builtin.lenOf, Builtin.firstCells, hnc, storeCells]
    · have hc : ∀ j u, (wcs ns)[j]? = some u → w.cell? (ad.add j) = some u := by
        intro j u hu
        obtain ⟨i, y, k, rfl, _, hy, hk⟩ := wcs_at hu
        have hi := (List.getElem?_eq_some_iff.1 hy).1
        obtain ⟨b, off, e1, _, hcell⟩ := hA.out (by omega)
        injection e1 with e1
        subst e1
        have e2 : ∀ j, (⟨b, off, none⟩ : Addr).add j = ⟨b, off + j, none⟩ := by intro j; unfold Addr.add; split <;> simp_all
        obtain ⟨g0, g1, g2⟩ := hcell i y hy
        rw [e2, ← Nat.add_assoc]
        rcases hk with ⟨rfl, rfl⟩ | ⟨rfl, rfl⟩ | ⟨rfl, rfl⟩
        · exact g0
        · exact g1
        · exact g2
      obtain ⟨v', w', hr, h2, h3, _, _⟩ := run_append_own_at (P := Try.prog) w base 23 o.type 43 i0 _ 3 40 Try.underlying23 hi hz0 hz1 hz2 rfl (by decide) (.slice A ws.length c) ws.length (wcs ws) hown ad ns.length c2 (wcs ns) (wcs_length ns) hc (wcs_one ns)
        (by unfold maxLen; omega) (by omega) hbase
      exact ⟨v', w', hr, by rw [wcs_append, List.length_append]; exact h2, h3⟩
  obtain ⟨v', w', hr, h2, h3⟩ := hrun
  unfold Oper.wp execOp
  simp only [ho, resolve, invoke, builtin, Sem.run_bind, Sem.run_pure, Result.andThen_ok, List.map_toArray, List.map_cons, List.map_nil, hs, hx, hr]
  obtain ⟨A', c', rfl⟩ := own_shape h2
  exact h A' _ c' w' ⟨rfl, h2⟩ (WRow.cap ⟨rfl, h2⟩) ((Below.refl _ _).grown h3 hbase (fun k hk => (hown.lt k hk).1)) h3
theorem wpList_append_ws (w : World) {ops : Array Oper} {rest : List Oper} {o : Oper} {a : Act} {Q : Exit → Act → World → Prop} (hgd : o.guard = none) (s x : Operand)
    (ho : o.op = .call { callee := .builtin .append, args := #[s, x], argTypes := #[23, 23] })
    (base : Nat) {A A2 : Option Addr} {m c n c2 B : Nat} {ws ns : List Wt} (hs : a.eval s = .slice A m c) (hrow : WRow w base A m c ws) (hx : a.eval x = .slice A2 n c2) (hn : n = ns.length) (hA : WAt w B A2 ns)
    (hlen : ws.length + ns.length ≤ 1099511627776) (hbase : base ≤ w.heap.size)
    (h : ∀ A' m' c' w', WRow w' base A' m' c' (ws ++ ns) → m' ≤ c' → Below base w w' → w.grownBy w' (Value.slice A m c).ownBlock → wpList Try.prog ops Q rest (a.put o.dst (.slice A' m' c')) w') : wpList Try.prog ops Q (o :: rest) a w :=
  wpList_plain hgd fun _ hK => wp_append_ws w s x ho base hs hrow hx hn hA hlen hbase fun A' m' c' w' h1 h2 h3 h4 => hK _ _ (h A' m' c' w' h1 h2 h3 h4)

/-- a row is no block of another type -/
theorem own_ne_cells {w : World} {base n b sz : Nat} {e tv : TypeId} {v : Value} {xs : List Value} {cs : Array Value} {fr : Nat × Nat} (h : w.ownsRow base e sz v n xs) (hb : w.heap[b]? = some (.cells cs tv fr)) (hne : e ≠ tv) : v.ownBlock ≠ some b := by
  rcases h.2 with ⟨rfl, _⟩ | ⟨g, cap, cur, rfl, _, hg, _⟩
  · simp [Value.ownBlock]
  · intro he
    have : g = b := by simpa [Value.ownBlock] using he
    subst this
    rw [hg] at hb
    injection hb with hb
    injection hb with _ ht
    exact hne ht

end Go.Proofs.Ytcdjbacljnofiaa
