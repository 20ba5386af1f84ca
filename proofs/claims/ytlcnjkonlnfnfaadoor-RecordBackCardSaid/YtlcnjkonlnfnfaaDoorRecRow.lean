/-
  Records in memory: a row of them of the call's own, and append to it.
-/
import Derived.Test.YtlcnjkonlnfnfaaDoorRec
import Derived.Test.YtlcnjkonlnfnfaaDoorJBytes
import Derived.Maps.AppendAt
import Derived.Lib.SmallJoins
namespace Go.Proofs.YtlcnjkonlnfnfaaDoor
open Go Go.RowKit

/-- records in memory -/
def RcAt (w : World) (B : Nat) (A : Option Addr) (l : List (Nat × List UInt8)) : Prop :=
  0 < l.length → ∃ b off, A = some ⟨b, off, none⟩ ∧ b < B ∧ ∀ i s, l[i]? = some s → w.cell? ⟨b, off + i * 2, none⟩ = some (.int .u64 (s.1 : Int)) ∧ w.cell? ⟨b, off + i * 2 + 1, none⟩ = some (.string (bst s.2))
theorem RcAt.more {w : World} {B B' : Nat} {A : Option Addr} {l : List (Nat × List UInt8)} (h : RcAt w B A l) (hB : B ≤ B') : RcAt w B' A l := fun hl => by
  obtain ⟨b, off, e, hb, hc⟩ := h hl
  exact ⟨b, off, e, by omega, hc⟩
theorem RcAt.below {w w' : World} {B : Nat} {A : Option Addr} {l : List (Nat × List UInt8)} (h : RcAt w B A l) (hb : Below B w w') : RcAt w' B A l := fun hl => by
  obtain ⟨b, off, e, hlt, hc⟩ := h hl
  refine ⟨b, off, e, hlt, fun i s hi => ?_⟩
  have hk : ∀ j, w'.cell? ⟨b, j, none⟩ = w.cell? ⟨b, j, none⟩ := fun j => World.cell?_of_block (a := ⟨b, j, none⟩) (hb.block b hlt)
  rw [hk, hk]
  exact hc i s hi
theorem RcAt.take {w : World} {B : Nat} {A : Option Addr} {l : List (Nat × List UInt8)} (h : RcAt w B A l) (n : Nat) : RcAt w B A (l.take n) := fun hl => by
  obtain ⟨b, off, e, hb, hc⟩ := h (by rw [List.length_take] at hl; omega)
  refine ⟨b, off, e, hb, fun i s hi => hc i s ?_⟩
  rw [List.getElem?_take] at hi
  split at hi
  · exact hi
  · cases hi

/-- the cells of records -/
def rcs (l : List (Nat × List UInt8)) : List Value := l.flatMap fun x => [.int .u64 (x.1 : Int), .string (bst x.2)]
theorem rcs_cons (x : Nat × List UInt8) (l : List (Nat × List UInt8)) : rcs (x :: l) = .int .u64 (x.1 : Int) :: .string (bst x.2) :: rcs l := by simp [rcs]
theorem rcs_append (a b : List (Nat × List UInt8)) : rcs (a ++ b) = rcs a ++ rcs b := by simp [rcs]
theorem rcs_length (l : List (Nat × List UInt8)) : (rcs l).length = l.length * 2 := by
  induction l with
  | nil => rfl
  | cons x l ih => rw [rcs_cons]; simp only [List.length_cons, ih]; omega
theorem rcs_one (l : List (Nat × List UInt8)) : ∀ u ∈ rcs l, u.oneCell' = true := by
  intro u hu
  simp only [rcs, List.mem_flatMap] at hu
  obtain ⟨x, _, hx⟩ := hu
  simp at hx
  rcases hx with rfl | rfl <;> rfl
theorem rcs_get : ∀ (l : List (Nat × List UInt8)) (i : Nat) (x : Nat × List UInt8), l[i]? = some x → (rcs l)[i * 2]? = some (.int .u64 (x.1 : Int)) ∧ (rcs l)[i * 2 + 1]? = some (.string (bst x.2))
  | [], i, x, h => by simp at h
  | y :: l, 0, x, h => by
    obtain rfl : y = x := by simpa using h
    rw [rcs_cons]
    simp
  | y :: l, i + 1, x, h => by
    have ih := rcs_get l i x (by simpa using h)
    rw [rcs_cons, show (i + 1) * 2 = i * 2 + 1 + 1 by omega]
    simpa using ih
theorem rcs_at {l : List (Nat × List UInt8)} {j : Nat} {u : Value} (h : (rcs l)[j]? = some u) : ∃ i x k, j = i * 2 + k ∧ k < 2 ∧ l[i]? = some x ∧ (k = 0 ∧ u = .int .u64 (x.1 : Int) ∨ k = 1 ∧ u = .string (bst x.2)) := by
  have hj := (List.getElem?_eq_some_iff.1 h).1
  rw [rcs_length] at hj
  have hi : j / 2 < l.length := by omega
  have hx : l[j / 2]? = some l[j / 2] := List.getElem?_eq_getElem hi
  obtain ⟨g0, g1⟩ := rcs_get l (j / 2) _ hx
  refine ⟨j / 2, _, j % 2, by omega, by omega, hx, ?_⟩
  rcases (show j % 2 = 0 ∨ j % 2 = 1 by omega) with e | e
  · rw [show j = j / 2 * 2 by omega, g0] at h
    injection h with h
    exact .inl ⟨e, h.symm⟩
  · rw [show j = j / 2 * 2 + 1 by omega, g1] at h
    injection h with h
    exact .inr ⟨e, h.symm⟩

def RcRow (w : World) (base : Nat) (A : Option Addr) (m c : Nat) (l : List (Nat × List UInt8)) : Prop :=
  m = l.length ∧ w.ownsRow base 24 2 (.slice A m c) m (rcs l)
theorem RcRow.at_ {w : World} {base m c : Nat} {A : Option Addr} {l : List (Nat × List UInt8)} (h : RcRow w base A m c l) : RcAt w w.heap.size A l := fun hl => by
  obtain ⟨hm, hown⟩ := h
  rcases hown.2 with ⟨_, h0⟩ | ⟨g, cap, cur, hv, _, hg, _⟩
  · omega
  · have hA : A = some ⟨g, 0, none⟩ := by injection hv
    subst hA
    have hlt : g < w.heap.size := (Array.getElem?_eq_some_iff.1 hg).1
    refine ⟨g, 0, rfl, hlt, fun i x hx => ?_⟩
    obtain ⟨g0, g1⟩ := rcs_get l i x hx
    have ea : ∀ j, (⟨g, 0, none⟩ : Addr).add j = ⟨g, 0 + j, none⟩ := by intro j; unfold Addr.add; split <;> simp_all
    have e0 := hown.cells (g := g) rfl _ _ g0
    have e1 := hown.cells (g := g) rfl _ _ g1
    rw [ea] at e0 e1
    exact ⟨e0, by rw [Nat.add_assoc]; exact e1⟩
theorem RcRow.alloc {w : World} {base m c : Nat} {A : Option Addr} {l : List (Nat × List UInt8)} (h : RcRow w base A m c l) (o : Obj) : RcRow (w.alloc o) base A m c l := ⟨h.1, h.2.alloc o⟩
theorem RcRow.below {w w' : World} {base m c : Nat} {A : Option Addr} {l : List (Nat × List UInt8)} (h : RcRow w base A m c l) (hb : Below w.heap.size w w') : RcRow w' base A m c l := by
  refine ⟨h.1, h.2.kept (row := none) ⟨hb.os, hb.tape, hb.output, hb.size, fun k hk _ => hb.block k hk⟩ ?_⟩
  cases hv : (Value.slice A m c).ownBlock <;> simp
theorem RcRow.cap {w : World} {base m c : Nat} {A : Option Addr} {l : List (Nat × List UInt8)} (h : RcRow w base A m c l) : m ≤ c := by
  rcases h.2.2 with ⟨_, h0⟩ | ⟨g, cap, cur, hv, _, _, hnc, _⟩
  · omega
  · injection hv with _ _ hc
    omega
theorem RcRow.nil (w : World) (base : Nat) : RcRow w base none 0 0 [] := ⟨rfl, World.ownsRow_nil _ _ _ _⟩
/-- a slice written out without elements -/
theorem RcRow.empty (w : World) {base g : Nat} (hg : g = w.heap.size) (hb : base ≤ w.heap.size) : RcRow (w.alloc (.cells #[] 24)) base (some ⟨g, 0, none⟩) 0 0 [] := by
  subst hg
  exact ⟨rfl, rfl, .inr ⟨w.heap.size, 0, #[], rfl, hb, heap_alloc_new w _, Nat.le_refl _, Nat.zero_le _, rfl, rfl⟩⟩

theorem info_rc : (Tryd.prog.info? 24).map (fun i => (i.zero, i.size, i.bytes)) = some (some (.agg #[.int .u64 0, .string ⟨#[]⟩]), 2, 24) := by kernel_rfl

set_option maxRecDepth 100000 in
/-- append(l, m...): both slices of records -/
theorem wp_append_rc (w : World) {o : Oper} {a : Act} {K : Act → World → Prop} {Q : Exit → Act → World → Prop} (s x : Operand)
    (ho : o.op = .call { callee := .builtin .append, args := #[s, x], argTypes := #[38, 38] })
    (base : Nat) {A A2 : Option Addr} {m c n c2 B : Nat} {ws ns : List (Nat × List UInt8)} (hs : a.eval s = .slice A m c) (hrow : RcRow w base A m c ws) (hx : a.eval x = .slice A2 n c2) (hn : n = ns.length) (hA : RcAt w B A2 ns)
    (hlen : ws.length + ns.length ≤ 1099511627776) (hbase : base ≤ w.heap.size)
    (h : ∀ A' m' c' w', RcRow w' base A' m' c' (ws ++ ns) → m' ≤ c' → Below base w w' → w.grownBy w' (Value.slice A m c).ownBlock → K (a.put o.dst (.slice A' m' c')) w') : o.wp Tryd.prog a w K Q := by
  obtain ⟨i0, hi, hz0, hz1, hz2⟩ := info_parts info_rc
  obtain ⟨hm, hown⟩ := hrow
  subst hm hn
  have hrun : ∃ v' w', (Builtin.append_ #[38, 38] o.type #[.slice A ws.length c, .slice A2 ns.length c2]).run Tryd.prog w = .ok v' w' ∧ w'.ownsRow base 24 2 v' (ws ++ ns).length (rcs (ws ++ ns)) ∧ w.grownBy w' (Value.slice A ws.length c).ownBlock := by
    rcases A2 with _ | ad
    · have hnn : ns = [] := by
        rcases ns with _ | ⟨y, r⟩
        · rfl
        · obtain ⟨_, _, h, _⟩ := hA (by simp)
          cases h
      subst hnn
      refine ⟨_, w, ?_, by simpa using hown, World.grownBy.refl w _⟩
      rcases hown.2 with ⟨hv, h0⟩ | ⟨g, cap, cur, hv, _, _, hnc, _⟩
      · rw [hv]
        simp [Builtin.append_, run_underlying Tryd.underlying38, sizeOf, typeInfo, hi, Builtin.lenOf, Builtin.firstCells]
      · rw [hv]
        simp [Builtin.append_, run_underlying Tryd.underlying38, sizeOf, typeInfo, hi, Builtin.lenOf, Builtin.firstCells, hnc, storeCells]
    · have hc : ∀ j u, (rcs ns)[j]? = some u → w.cell? (ad.add j) = some u := by
        intro j u hu
        obtain ⟨i, y, k, rfl, _, hy, hk⟩ := rcs_at hu
        have hi := (List.getElem?_eq_some_iff.1 hy).1
        obtain ⟨b, off, e1, _, hcell⟩ := hA (by omega)
        injection e1 with e1
        subst e1
        have e2 : ∀ j, (⟨b, off, none⟩ : Addr).add j = ⟨b, off + j, none⟩ := by intro j; unfold Addr.add; split <;> simp_all
        obtain ⟨g0, g1⟩ := hcell i y hy
        rw [e2, ← Nat.add_assoc]
        rcases hk with ⟨rfl, rfl⟩ | ⟨rfl, rfl⟩
        · exact g0
        · exact g1
      obtain ⟨v', w', hr, h2, h3, _, _⟩ := run_append_own_at (P := Tryd.prog) w base 38 o.type 24 i0 _ 2 24 Tryd.underlying38 hi hz0 hz1 hz2 rfl (by decide) (.slice A ws.length c) ws.length (rcs ws) hown ad ns.length c2 (rcs ns) (rcs_length ns) hc (rcs_one ns)
        (by unfold maxLen; omega) (by omega) hbase
      exact ⟨v', w', hr, by rw [rcs_append, List.length_append]; exact h2, h3⟩
  obtain ⟨v', w', hr, h2, h3⟩ := hrun
  unfold Oper.wp execOp
  simp only [ho, resolve, invoke, builtin, Sem.run_bind, Sem.run_pure, Result.andThen_ok, List.map_toArray, List.map_cons, List.map_nil, hs, hx, hr]
  obtain ⟨A', c', rfl⟩ := own_shape h2
  exact h A' _ c' w' ⟨rfl, h2⟩ (RcRow.cap ⟨rfl, h2⟩) ((Below.refl _ _).grown h3 hbase (fun k hk => (hown.lt k hk).1)) h3
theorem wpList_append_rc (w : World) {ops : Array Oper} {rest : List Oper} {o : Oper} {a : Act} {Q : Exit → Act → World → Prop} (hgd : o.guard = none) (s x : Operand)
    (ho : o.op = .call { callee := .builtin .append, args := #[s, x], argTypes := #[38, 38] })
    (base : Nat) {A A2 : Option Addr} {m c n c2 B : Nat} {ws ns : List (Nat × List UInt8)} (hs : a.eval s = .slice A m c) (hrow : RcRow w base A m c ws) (hx : a.eval x = .slice A2 n c2) (hn : n = ns.length) (hA : RcAt w B A2 ns)
    (hlen : ws.length + ns.length ≤ 1099511627776) (hbase : base ≤ w.heap.size)
    (h : ∀ A' m' c' w', RcRow w' base A' m' c' (ws ++ ns) → m' ≤ c' → Below base w w' → w.grownBy w' (Value.slice A m c).ownBlock → wpList Tryd.prog ops Q rest (a.put o.dst (.slice A' m' c')) w') : wpList Tryd.prog ops Q (o :: rest) a w :=
  wpList_plain hgd fun _ hK => wp_append_rc w s x ho base hs hrow hx hn hA hlen hbase fun A' m' c' w' h1 h2 h3 h4 => hK _ _ (h A' m' c' w' h1 h2 h3 h4)


end Go.Proofs.YtlcnjkonlnfnfaaDoor
