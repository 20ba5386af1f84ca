/-
  A row of survivors of the call's own, and append to it.
-/
import Derived.Test.YtlemoaigcakmcaaDAct
import Derived.Maps.AppendAt
import Derived.Lib.SmallJoins
namespace Go.Proofs.Ytlemoaigcakmcaa
open Go Go.RowKit

/-- the cells of survivors -/
def scs (l : List (Int × Int)) : List Value := l.flatMap fun x => [.int .i64 x.1, .int .i64 x.2]
theorem scs_cons (x : Int × Int) (l : List (Int × Int)) : scs (x :: l) = .int .i64 x.1 :: .int .i64 x.2 :: scs l := by simp [scs]
theorem scs_append (a b : List (Int × Int)) : scs (a ++ b) = scs a ++ scs b := by simp [scs]
theorem scs_length (l : List (Int × Int)) : (scs l).length = l.length * 2 := by
  induction l with
  | nil => rfl
  | cons x l ih => rw [scs_cons]; simp only [List.length_cons, ih]; omega
theorem scs_one (l : List (Int × Int)) : ∀ u ∈ scs l, u.oneCell' = true := by
  intro u hu
  simp only [scs, List.mem_flatMap] at hu
  obtain ⟨x, _, hx⟩ := hu
  simp at hx
  rcases hx with rfl | rfl <;> rfl
theorem scs_get : ∀ (l : List (Int × Int)) (i : Nat) (x : Int × Int), l[i]? = some x → (scs l)[i * 2]? = some (.int .i64 x.1) ∧ (scs l)[i * 2 + 1]? = some (.int .i64 x.2)
  | [], i, x, h => by simp at h
  | y :: l, 0, x, h => by
    obtain rfl : y = x := by simpa using h
    rw [scs_cons]
    simp
  | y :: l, i + 1, x, h => by
    have ih := scs_get l i x (by simpa using h)
    rw [scs_cons, show (i + 1) * 2 = i * 2 + 1 + 1 by omega]
    simpa using ih
theorem scs_at {l : List (Int × Int)} {j : Nat} {u : Value} (h : (scs l)[j]? = some u) : ∃ i x k, j = i * 2 + k ∧ k < 2 ∧ l[i]? = some x ∧ (k = 0 ∧ u = .int .i64 x.1 ∨ k = 1 ∧ u = .int .i64 x.2) := by
  have hj := (List.getElem?_eq_some_iff.1 h).1
  rw [scs_length] at hj
  have hi : j / 2 < l.length := by omega
  have hx : l[j / 2]? = some l[j / 2] := List.getElem?_eq_getElem hi
  obtain ⟨g0, g1⟩ := scs_get l (j / 2) _ hx
  refine ⟨j / 2, _, j % 2, by omega, by omega, hx, ?_⟩
  rcases (show j % 2 = 0 ∨ j % 2 = 1 by omega) with e | e
  · rw [show j = j / 2 * 2 by omega, g0] at h
    injection h with h
    exact .inl ⟨e, h.symm⟩
  · rw [show j = j / 2 * 2 + 1 by omega, g1] at h
    injection h with h
    exact .inr ⟨e, h.symm⟩

def SvRow (w : World) (base : Nat) (A : Option Addr) (m c : Nat) (l : List (Int × Int)) : Prop :=
  m = l.length ∧ w.ownsRow base 44 2 (.slice A m c) m (scs l)
theorem SvRow.at_ {w : World} {base m c : Nat} {A : Option Addr} {l : List (Int × Int)} (h : SvRow w base A m c l) : SvAt w w.heap.size A l := fun hl => by
  obtain ⟨hm, hown⟩ := h
  rcases hown.2 with ⟨_, h0⟩ | ⟨g, cap, cur, hv, _, hg, _⟩
  · omega
  · have hA : A = some ⟨g, 0, none⟩ := by injection hv
    subst hA
    have hlt : g < w.heap.size := (Array.getElem?_eq_some_iff.1 hg).1
    refine ⟨g, 0, rfl, hlt, fun i x hx => ?_⟩
    obtain ⟨g0, g1⟩ := scs_get l i x hx
    have ea : ∀ j, (⟨g, 0, none⟩ : Addr).add j = ⟨g, 0 + j, none⟩ := by intro j; unfold Addr.add; split <;> simp_all
    have e0 := hown.cells (g := g) rfl _ _ g0
    have e1 := hown.cells (g := g) rfl _ _ g1
    rw [ea] at e0 e1
    exact ⟨e0, by rw [Nat.add_assoc]; exact e1⟩
theorem SvRow.alloc {w : World} {base m c : Nat} {A : Option Addr} {l : List (Int × Int)} (h : SvRow w base A m c l) (o : Obj) : SvRow (w.alloc o) base A m c l := ⟨h.1, h.2.alloc o⟩
theorem SvRow.below {w w' : World} {base m c : Nat} {A : Option Addr} {l : List (Int × Int)} (h : SvRow w base A m c l) (hb : Below w.heap.size w w') : SvRow w' base A m c l := by
  refine ⟨h.1, h.2.kept (row := none) ⟨hb.os, hb.tape, hb.output, hb.size, fun k hk _ => hb.block k hk⟩ ?_⟩
  cases hv : (Value.slice A m c).ownBlock <;> simp
theorem SvRow.cap {w : World} {base m c : Nat} {A : Option Addr} {l : List (Int × Int)} (h : SvRow w base A m c l) : m ≤ c := by
  rcases h.2.2 with ⟨_, h0⟩ | ⟨g, cap, cur, hv, _, _, hnc, _⟩
  · omega
  · injection hv with _ _ hc
    omega
theorem SvRow.off {w : World} {base m c : Nat} {A : Option Addr} {l : List (Int × Int)} (h : SvRow w base A m c l) {M : Nat → Prop} (hM : ∀ k, M k → k < base) : Off M A := by
  intro b off e hm
  have hb := hM b hm
  rcases h.2.2 with ⟨hv, _⟩ | ⟨g, cap, cur, hv, hg, _⟩
  · injection hv with h1
    rw [h1] at e; cases e
  · injection hv with h1
    rw [h1] at e
    injection e with e
    injection e with e1
    omega
theorem SvRow.nil (w : World) (base : Nat) : SvRow w base none 0 0 [] := ⟨rfl, World.ownsRow_nil _ _ _ _⟩
/-- a slice written out without elements -/
theorem SvRow.empty (w : World) {base g : Nat} (hg : g = w.heap.size) (hb : base ≤ w.heap.size) : SvRow (w.alloc (.cells #[] 44)) base (some ⟨g, 0, none⟩) 0 0 [] := by
  subst hg
  exact ⟨rfl, rfl, .inr ⟨w.heap.size, 0, #[], rfl, hb, heap_alloc_new w _, Nat.le_refl _, Nat.zero_le _, rfl, rfl⟩⟩

theorem info_sv : (Try.prog.info? 44).map (fun i => (i.zero, i.size, i.bytes)) = some (some (.agg #[.int .i64 0, .int .i64 0]), 2, 16) := by kernel_rfl

set_option maxRecDepth 100000 in
/-- append(l, m...): both slices of survivors -/
theorem wp_append_sv (w : World) {o : Oper} {a : Act} {K : Act → World → Prop} {Q : Exit → Act → World → Prop} (s x : Operand)
    (ho : o.op = .call { callee := .builtin .append, args := #[s, x], argTypes := #[24, 24] })
    (base : Nat) {A A2 : Option Addr} {m c n c2 B : Nat} {ws ns : List (Int × Int)} (hs : a.eval s = .slice A m c) (hrow : SvRow w base A m c ws) (hx : a.eval x = .slice A2 n c2) (hn : n = ns.length) (hA : SvAt w B A2 ns)
    (hlen : ws.length + ns.length ≤ 1099511627776) (hbase : base ≤ w.heap.size)
    (h : ∀ A' m' c' w', SvRow w' base A' m' c' (ws ++ ns) → m' ≤ c' → Below base w w' → w.grownBy w' (Value.slice A m c).ownBlock → K (a.put o.dst (.slice A' m' c')) w') : o.wp Try.prog a w K Q := by
  obtain ⟨i0, hi, hz0, hz1, hz2⟩ := info_parts info_sv
  obtain ⟨hm, hown⟩ := hrow
  subst hm hn
  have hrun : ∃ v' w', (Builtin.append_ #[24, 24] o.type #[.slice A ws.length c, .slice A2 ns.length c2]).run Try.prog w = .ok v' w' ∧ w'.ownsRow base 44 2 v' (ws ++ ns).length (scs (ws ++ ns)) ∧ w.grownBy w' (Value.slice A ws.length c).ownBlock := by
    rcases A2 with _ | ad
    · have hnn : ns = [] := by
        rcases ns with _ | ⟨y, r⟩
        · rfl
        · obtain ⟨_, _, h, _⟩ := hA (by simp)
          cases h
      subst hnn
      refine ⟨_, w, ?_, by simpa using hown, World.grownBy.refl w _⟩
      rcases hown.2 with ⟨hv, h0⟩ | ⟨g, cap, cur, hv, _, _, hnc, _⟩
      · rw [hv]
        simp [Builtin.append_, run_underlying Try.underlying24, sizeOf, typeInfo, hi, Builtin.lenOf, Builtin.firstCells]
      · rw [hv]
        simp [Builtin.append_, run_underlying Try.underlying24, sizeOf, typeInfo, hi, Builtin.lenOf, Builtin.firstCells, hnc, storeCells]
    · have hc : ∀ j u, (scs ns)[j]? = some u → w.cell? (ad.add j) = some u := by
        intro j u hu
        obtain ⟨i, y, k, rfl, _, hy, hk⟩ := scs_at hu
        have hi := (List.getElem?_eq_some_iff.1 hy).1
        obtain ⟨b, off, e1, _, hcell⟩ := hA (by omega)
        injection e1 with e1
        subst e1
        have e2 : ∀ j, (⟨b, off, none⟩ : Addr).add j = ⟨b, off + j, none⟩ := by intro j; unfold Addr.add; split <;> simp_all
        obtain ⟨g0, g1⟩ := hcell i y hy
        rw [e2, ← Nat.add_assoc]
        rcases hk with ⟨rfl, rfl⟩ | ⟨rfl, rfl⟩
        · exact g0
        · exact g1
      obtain ⟨v', w', hr, h2, h3, _, _⟩ := run_append_own_at (P := Try.prog) w base 24 o.type 44 i0 _ 2 16 Try.underlying24 hi hz0 hz1 hz2 rfl (by decide) (.slice A ws.length c) ws.length (scs ws) hown ad ns.length c2 (scs ns) (scs_length ns) hc (scs_one ns)
        (by unfold maxLen; omega) (by omega) hbase
      exact ⟨v', w', hr, by rw [scs_append, List.length_append]; exact h2, h3⟩
  obtain ⟨v', w', hr, h2, h3⟩ := hrun
  unfold Oper.wp execOp
  simp only [ho, resolve, invoke, builtin, Sem.run_bind, Sem.run_pure, Result.andThen_ok, List.map_toArray, List.map_cons, List.map_nil, hs, hx, hr]
  obtain ⟨A', c', rfl⟩ := own_shape h2
  exact h A' _ c' w' ⟨rfl, h2⟩ (SvRow.cap ⟨rfl, h2⟩) ((Below.refl _ _).grown h3 hbase (fun k hk => (hown.lt k hk).1)) h3
theorem wpList_append_sv (w : World) {ops : Array Oper} {rest : List Oper} {o : Oper} {a : Act} {Q : Exit → Act → World → Prop} (hgd : o.guard = none) (s x : Operand)
    (ho : o.op = .call { callee := .builtin .append, args := #[s, x], argTypes := #[24, 24] })
    (base : Nat) {A A2 : Option Addr} {m c n c2 B : Nat} {ws ns : List (Int × Int)} (hs : a.eval s = .slice A m c) (hrow : SvRow w base A m c ws) (hx : a.eval x = .slice A2 n c2) (hn : n = ns.length) (hA : SvAt w B A2 ns)
    (hlen : ws.length + ns.length ≤ 1099511627776) (hbase : base ≤ w.heap.size)
    (h : ∀ A' m' c' w', SvRow w' base A' m' c' (ws ++ ns) → m' ≤ c' → Below base w w' → w.grownBy w' (Value.slice A m c).ownBlock → wpList Try.prog ops Q rest (a.put o.dst (.slice A' m' c')) w') : wpList Try.prog ops Q (o :: rest) a w :=
  wpList_plain hgd fun _ hK => wp_append_sv w s x ho base hs hrow hx hn hA hlen hbase fun A' m' c' w' h1 h2 h3 h4 => hK _ _ (h A' m' c' w' h1 h2 h3 h4)


end Go.Proofs.Ytlemoaigcakmcaa
