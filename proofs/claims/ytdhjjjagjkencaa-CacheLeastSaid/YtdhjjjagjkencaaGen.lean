/-
  Rows of structs in memory, for any kind of element that is laid in a fixed number of one-cell values: no function of the program is named here.
-/
import Derived.Test.YtdhjjjagjkencaaBase
import Derived.Test.YtdhjjjagjkencaaBlock
import Derived.Maps.AppendAt
import Derived.Lib.SmallJoins
namespace Go.Proofs.Ytdhjjjagjkencaa
open Go Go.RowKit

theorem Only.under {r : Nat} {a w w' : World} (h : Only r a w) (k : Below a.heap.size w w') : Only r a w' := ⟨k.os.trans h.os, k.tape.trans h.tape, k.output.trans h.output, Nat.le_trans h.size k.size, fun i hi hne => (k.block i hi).trans (h.block i hi hne)⟩
/-- how an element is laid: in k cells of one value each -/
structure Enc (α : Type) where
  k : Nat
  enc : α → List Value
  len : ∀ x, (enc x).length = k
  one : ∀ x, ∀ u ∈ enc x, u.oneCell' = true
  pos : 0 < k
section
variable {α : Type} (E : Enc α)
def gcells (l : List α) : List Value := l.flatMap E.enc
theorem gcells_cons (x : α) (l : List α) : gcells E (x :: l) = E.enc x ++ gcells E l := by simp [gcells]
theorem gcells_append (a b : List α) : gcells E (a ++ b) = gcells E a ++ gcells E b := by simp [gcells]
theorem gcells_length (l : List α) : (gcells E l).length = l.length * E.k := by
  induction l with
  | nil => simp [gcells]
  | cons x l ih => rw [gcells_cons, List.length_append, E.len, ih, List.length_cons, Nat.add_mul]; omega
theorem gcells_one (l : List α) : ∀ u ∈ gcells E l, u.oneCell' = true := by
  intro u hu
  simp only [gcells, List.mem_flatMap] at hu
  obtain ⟨x, _, hx⟩ := hu
  exact E.one x u hx
theorem gcells_get : ∀ (l : List α) (i : Nat) (x : α) (j : Nat) (u : Value), l[i]? = some x → (E.enc x)[j]? = some u → (gcells E l)[i * E.k + j]? = some u
  | [], i, x, j, u, h, _ => by simp at h
  | y :: l, 0, x, j, u, h, hu => by
    obtain rfl : y = x := by simpa using h
    have hj := (List.getElem?_eq_some_iff.1 hu).1
    rw [gcells_cons, Nat.zero_mul, Nat.zero_add, List.getElem?_append_left hj, hu]
  | y :: l, i + 1, x, j, u, h, hu => by
    have ih := gcells_get l i x j u (by simpa using h) hu
    have e : (i + 1) * E.k + j = (E.enc y).length + (i * E.k + j) := by rw [E.len, Nat.add_mul]; omega
    rw [gcells_cons, e, List.getElem?_append_right (by omega), Nat.add_sub_cancel_left]
    exact ih
theorem gcells_at {l : List α} {j : Nat} {u : Value} (h : (gcells E l)[j]? = some u) : ∃ i x r, j = i * E.k + r ∧ l[i]? = some x ∧ (E.enc x)[r]? = some u := by
  have hj := (List.getElem?_eq_some_iff.1 h).1
  rw [gcells_length] at hj
  have hi : j / E.k < l.length := Nat.div_lt_of_lt_mul (by rw [Nat.mul_comm]; exact hj)
  have hx : l[j / E.k]? = some l[j / E.k] := List.getElem?_eq_getElem hi
  have hr : j % E.k < (E.enc l[j / E.k]).length := by rw [E.len]; exact Nat.mod_lt _ E.pos
  have hu : (E.enc l[j / E.k])[j % E.k]? = some (E.enc l[j / E.k])[j % E.k] := List.getElem?_eq_getElem hr
  have he : j = j / E.k * E.k + j % E.k := by rw [Nat.mul_comm]; exact (Nat.div_add_mod _ _).symm
  have hg := gcells_get E l _ _ _ _ hx hu
  rw [← he, h] at hg
  injection hg with hg
  exact ⟨_, _, _, he, hx, by rw [hg]; exact hu⟩

/-- 'A' leads to these elements, below block B -/
def GAt (w : World) (B : Nat) (A : Option Addr) (l : List α) : Prop :=
  0 < l.length → ∃ b off, A = some ⟨b, off, none⟩ ∧ b < B ∧ ∀ i x j u, l[i]? = some x → (E.enc x)[j]? = some u → w.cell? ⟨b, off + i * E.k + j, none⟩ = some u
variable {E} {w w' : World} {B B' : Nat} {A : Option Addr} {l : List α}
theorem GAt.nil : GAt E w B A [] := fun h => absurd h (by simp)
theorem GAt.more (h : GAt E w B A l) (hB : B ≤ B') : GAt E w B' A l := fun hl => by
  obtain ⟨b, off, e, hb, hc⟩ := h hl
  exact ⟨b, off, e, by omega, hc⟩
theorem GAt.keep (h : GAt E w B A l) (hk : ∀ k, k < B → w'.heap[k]? = w.heap[k]?) : GAt E w' B A l := fun hl => by
  obtain ⟨b, off, e, hb, hc⟩ := h hl
  exact ⟨b, off, e, hb, fun i x j u hi hu => (World.cell?_of_block (a := ⟨b, _, none⟩) (hk b hb)).trans (hc i x j u hi hu)⟩
theorem GAt.below (h : GAt E w B A l) (hb : Below B w w') : GAt E w' B A l := h.keep fun k hk => hb.block k hk
theorem GAt.take (h : GAt E w B A l) (n : Nat) : GAt E w B A (l.take n) := fun hl => by
  obtain ⟨b, off, e, hb, hc⟩ := h (by rw [List.length_take] at hl; omega)
  refine ⟨b, off, e, hb, fun i x j u hi hu => hc i x j u ?_ hu⟩
  rw [List.getElem?_take] at hi
  split at hi
  · exact hi
  · cases hi
/-- the cells of one element -/
theorem GAt.get (h : GAt E w B A l) {i : Nat} (hi : i < l.length) : ∃ b off x, A = some ⟨b, off, none⟩ ∧ b < B ∧ l[i]? = some x ∧ ∀ j u, (E.enc x)[j]? = some u → w.cell? ⟨b, off + i * E.k + j, none⟩ = some u := by
  obtain ⟨b, off, e, hb, hc⟩ := h (by omega)
  exact ⟨b, off, _, e, hb, List.getElem?_eq_getElem hi, fun j u hu => hc i _ j u (List.getElem?_eq_getElem hi) hu⟩
theorem GAt.one (w : World) (x : α) (t : TypeId) {cs : Array Value} (hcs : cs.toList = E.enc x) : GAt E (w.alloc (.cells cs t)) (w.heap.size + 1) (some ⟨w.heap.size, 0, none⟩) [x] := fun _ => by
  refine ⟨w.heap.size, 0, rfl, by omega, fun i y j u hi hu => ?_⟩
  have : i = 0 := by have := (List.getElem?_eq_some_iff.1 hi).1; simp at this; omega
  subst this
  obtain rfl : x = y := by simpa using hi
  rw [Nat.zero_mul, Nat.zero_add]
  rw [(Blk.new w t cs).cell j, ← hu, ← hcs]
  simp

theorem GAt.one_at {w : World} {x : α} {t : TypeId} {cs : Array Value} {g : Nat} (hcs : cs.toList = E.enc x) (hg : g = w.heap.size) : GAt E (w.alloc (.cells cs t)) (g + 1) (some ⟨g, 0, none⟩) [x] := by
  subst hg
  exact GAt.one w x t hcs
theorem GAt.grown (h : GAt E w B A l) {row : Option Nat} (hg : w.grownBy w' row) (hB : B ≤ w.heap.size) (hne : ∀ b off, A = some ⟨b, off, none⟩ → some b ≠ row) : GAt E w' B A l := fun hl => by
  obtain ⟨b, off, e, hb, hc⟩ := h hl
  exact ⟨b, off, e, hb, fun i x j u hi hu => (World.cell?_of_block (a := ⟨b, _, none⟩) (hg.block b (by omega) (hne b off e))).trans (hc i x j u hi hu)⟩
/-- a row of elements of the call's own -/
def GRow (E : Enc α) (e : TypeId) (w : World) (base : Nat) (A : Option Addr) (m c : Nat) (l : List α) : Prop :=
  m = l.length ∧ w.ownsRow base e E.k (.slice A m c) m (gcells E l)
variable {e : TypeId} {base m c : Nat}
theorem GRow.at_ (h : GRow E e w base A m c l) : GAt E w w.heap.size A l := fun hl => by
  obtain ⟨hm, hown⟩ := h
  rcases hown.2 with ⟨_, h0⟩ | ⟨g, cap, cur, hv, _, hg, _⟩
  · omega
  · have hA : A = some ⟨g, 0, none⟩ := by injection hv
    subst hA
    have hlt : g < w.heap.size := (Array.getElem?_eq_some_iff.1 hg).1
    refine ⟨g, 0, rfl, hlt, fun i x j u hi hu => ?_⟩
    have e0 := hown.cells (g := g) rfl _ _ (gcells_get E l i x j u hi hu)
    have ea : ∀ j, (⟨g, 0, none⟩ : Addr).add j = ⟨g, 0 + j, none⟩ := by intro j; unfold Addr.add; split <;> simp_all
    rw [ea] at e0
    rw [Nat.add_assoc]
    exact e0
theorem GRow.alloc (h : GRow E e w base A m c l) (o : Obj) : GRow E e (w.alloc o) base A m c l := ⟨h.1, h.2.alloc o⟩
theorem GRow.kept (h : GRow E e w base A m c l) {row : Option Nat} (hb : w.grownBy w' row) (hne : (Value.slice A m c).ownBlock = none ∨ (Value.slice A m c).ownBlock ≠ row) : GRow E e w' base A m c l := ⟨h.1, h.2.kept hb hne⟩
theorem GRow.below (h : GRow E e w base A m c l) (hb : Below w.heap.size w w') : GRow E e w' base A m c l := by
  refine ⟨h.1, h.2.kept (row := none) ⟨hb.os, hb.tape, hb.output, hb.size, fun k hk _ => hb.block k hk⟩ ?_⟩
  cases hv : (Value.slice A m c).ownBlock <;> simp
theorem GRow.cap (h : GRow E e w base A m c l) : m ≤ c := by
  rcases h.2.2 with ⟨_, h0⟩ | ⟨g, cap, cur, hv, _, _, hnc, _⟩
  · omega
  · injection hv with _ _ hc
    omega
theorem GRow.set (h : GRow E e w base A m c l) {p : Addr} (hp : p.block < base) (u : Value) : GRow E e (w.setCell p u) base A m c l := ⟨h.1, ownsRow_setCell_other h.2 (fun e => by have := (h.2.lt _ e).1; omega) u⟩
theorem GRow.nil : GRow E e w base none 0 0 [] := ⟨rfl, World.ownsRow_nil _ _ _ _⟩
theorem GRow.empty (w : World) {base g : Nat} (hg : g = w.heap.size) (hb : base ≤ w.heap.size) : GRow E e (w.alloc (.cells #[] e)) base (some ⟨g, 0, none⟩) 0 0 [] := by
  subst hg
  exact ⟨rfl, by simp [gcells], .inr ⟨w.heap.size, 0, #[], rfl, hb, heap_alloc_new w _, Nat.le_refl _, Nat.zero_le _, by simp, by simp [gcells]⟩⟩
theorem GRow.le (h : GRow E e w base A m c l) {b : Nat} (hb : b ≤ base) : GRow E e w b A m c l := ⟨h.1, Joins.ownsRow_le h.2 hb⟩

/-- these elements lie in one of P's blocks -/
def In (P : Nat → Prop) (A : Option Addr) (l : List α) : Prop := ∀ b off, A = some ⟨b, off, none⟩ → 0 < l.length → P b
theorem In.weak {P P' : Nat → Prop} (h : In P A l) (hp : ∀ k, P k → P' k) : In P' A l := fun b off e hl => hp b (h b off e hl)
theorem In.nil {P : Nat → Prop} : In P A ([] : List α) := fun _ _ _ h => absurd h (by simp)
theorem GAt.in_ (h : GAt E w B A l) : In (fun k => k < B) A l := fun b off e hl => by
  obtain ⟨b', off', e', hb, _⟩ := h hl
  rw [e] at e'
  injection e' with e'
  injection e' with e1 _ _
  subst e1
  exact hb
theorem GAt.kept {P : Nat → Prop} (h : GAt E w B A l) (hi : In P A l) (hB : B ≤ B') (hk : ∀ k, P k → w'.heap[k]? = w.heap[k]?) : GAt E w' B' A l := fun hl => by
  obtain ⟨b, off, e, hb, hc⟩ := h hl
  exact ⟨b, off, e, by omega, fun i x j u hi' hu => (World.cell?_of_block (a := ⟨b, _, none⟩) (hk b (hi b off e hl))).trans (hc i x j u hi' hu)⟩
theorem GRow.in_ (h : GRow E e w base A m c l) : In (fun k => base ≤ k) A l := fun b off ea hl => by
  rcases h.2.2 with ⟨_, h0⟩ | ⟨g, cap, cur, hv, hg, _⟩
  · have := h.1; omega
  · injection hv with hA
    rw [ea] at hA
    injection hA with hA
    injection hA with e1 _ _
    subst e1
    exact hg
/-- what the program says of the element's type -/
structure GInfo (E : Enc α) (P : Program) (t e : TypeId) (nb : Nat) : Prop where
  sl : P.underlying t = some (.slice e)
  info : ∃ i z, P.info? e = some i ∧ i.zero = some z ∧ i.size = E.k ∧ i.bytes = nb ∧ z.cells.size = E.k

/-- append(l, m...), with where the row lies then -/
theorem wp_append_own {P : Program} (w : World) {o : Oper} {a : Act} {K : Act → World → Prop} {Q : Exit → Act → World → Prop} (s x : Operand) (E : Enc α) {t e : TypeId} {nb : Nat} (hI : GInfo E P t e nb) (hnb : nb ≤ 128)
    (ho : o.op = .call { callee := .builtin .append, args := #[s, x], argTypes := #[t, t] })
    (base : Nat) {A A2 : Option Addr} {m c n c2 B : Nat} {ws ns : List α} (hs : a.eval s = .slice A m c) (hrow : GRow E e w base A m c ws) (hx : a.eval x = .slice A2 n c2) (hn : n = ns.length) (hA : GAt E w B A2 ns)
    (hlen : ws.length + ns.length ≤ 1099511627776) (hbase : base ≤ w.heap.size)
    (h : ∀ A' m' c' w', GRow E e w' base A' m' c' (ws ++ ns) → m' ≤ c' → Below base w w' → w.grownBy w' (Value.slice A m c).ownBlock → ((Value.slice A' m' c').ownBlock = (Value.slice A m c).ownBlock ∨ (Value.slice A' m' c').ownBlock = some w.heap.size) → K (a.put o.dst (.slice A' m' c')) w') : o.wp P a w K Q := by
  obtain ⟨i0, z, hi, hz0, hz1, hz2, hz3⟩ := hI.info
  obtain ⟨hm, hown⟩ := hrow
  subst hm hn
  have hpos := E.pos
  have hrun : ∃ v' w', (Builtin.append_ #[t, t] o.type #[.slice A ws.length c, .slice A2 ns.length c2]).run P w = .ok v' w' ∧ w'.ownsRow base e E.k v' (ws ++ ns).length (gcells E (ws ++ ns)) ∧ w.grownBy w' (Value.slice A ws.length c).ownBlock ∧ (v'.ownBlock = (Value.slice A ws.length c).ownBlock ∨ v'.ownBlock = some w.heap.size) := by
    rcases A2 with _ | ad
    · have hnn : ns = [] := by
        rcases ns with _ | ⟨y, r⟩
        · rfl
        · obtain ⟨_, _, h, _⟩ := hA (by simp)
          cases h
      subst hnn
      refine ⟨_, w, ?_, by simpa using hown, World.grownBy.refl w _, .inl rfl⟩
      rcases hown.2 with ⟨hv, h0⟩ | ⟨g, cap, cur, hv, _, _, hnc, _⟩
      · rw [hv]
        simp [Builtin.append_, run_underlying hI.sl, sizeOf, typeInfo, hi, Builtin.lenOf, Builtin.firstCells]
      · rw [hv]
        simp [Builtin.append_, run_underlying hI.sl, sizeOf, typeInfo, hi, Builtin.lenOf, Builtin.firstCells, hnc, storeCells]
    · have hc : ∀ j u, (gcells E ns)[j]? = some u → w.cell? (ad.add j) = some u := by
        intro j u hu
        obtain ⟨i, y, r, rfl, hy, hr⟩ := gcells_at E hu
        have hil := (List.getElem?_eq_some_iff.1 hy).1
        obtain ⟨b, off, e1, _, hcell⟩ := hA (by omega)
        injection e1 with e1
        subst e1
        have e2 : ∀ j, (⟨b, off, none⟩ : Addr).add j = ⟨b, off + j, none⟩ := by intro j; unfold Addr.add; split <;> simp_all
        rw [e2, ← Nat.add_assoc]
        exact hcell i y r u hy hr
      have hb : (ws.length + ns.length) * nb ≤ 140737488355328 := Nat.le_trans (Nat.mul_le_mul hlen hnb) (by decide)
      obtain ⟨v', w', hr, h2, h3, _, h5⟩ := run_append_own_at (P := P) w base t o.type e i0 z E.k nb hI.sl hi hz0 hz1 hz2 hz3 hpos (.slice A ws.length c) ws.length (gcells E ws) hown ad ns.length c2 (gcells E ns) (gcells_length E ns) hc (gcells_one E ns)
        (by unfold maxLen; omega) hb hbase
      exact ⟨v', w', hr, by rw [gcells_append, List.length_append]; exact h2, h3, h5⟩
  obtain ⟨v', w', hr, h2, h3, h5⟩ := hrun
  unfold Oper.wp execOp
  simp only [ho, resolve, invoke, builtin, Sem.run_bind, Sem.run_pure, Result.andThen_ok, List.map_toArray, List.map_cons, List.map_nil, hs, hx, hr]
  obtain ⟨A', c', rfl⟩ := own_shape h2
  exact h A' _ c' w' ⟨rfl, h2⟩ (GRow.cap ⟨rfl, h2⟩) ((Below.refl _ _).grown h3 hbase (fun k hk => (hown.lt k hk).1)) h3 h5
/-- append(l, m...) -/
theorem wp_append_g {P : Program} (w : World) {o : Oper} {a : Act} {K : Act → World → Prop} {Q : Exit → Act → World → Prop} (s x : Operand) (E : Enc α) {t e : TypeId} {nb : Nat} (hI : GInfo E P t e nb) (hnb : nb ≤ 128)
    (ho : o.op = .call { callee := .builtin .append, args := #[s, x], argTypes := #[t, t] })
    (base : Nat) {A A2 : Option Addr} {m c n c2 B : Nat} {ws ns : List α} (hs : a.eval s = .slice A m c) (hrow : GRow E e w base A m c ws) (hx : a.eval x = .slice A2 n c2) (hn : n = ns.length) (hA : GAt E w B A2 ns)
    (hlen : ws.length + ns.length ≤ 1099511627776) (hbase : base ≤ w.heap.size)
    (h : ∀ A' m' c' w', GRow E e w' base A' m' c' (ws ++ ns) → m' ≤ c' → Below base w w' → w.grownBy w' (Value.slice A m c).ownBlock → K (a.put o.dst (.slice A' m' c')) w') : o.wp P a w K Q :=
  wp_append_own w s x E hI hnb ho base hs hrow hx hn hA hlen hbase fun A' m' c' w' h1 h2 h3 h4 _ => h A' m' c' w' h1 h2 h3 h4
theorem wpList_append_g {P : Program} (w : World) {ops : Array Oper} {rest : List Oper} {o : Oper} {a : Act} {Q : Exit → Act → World → Prop} (hgd : o.guard = none) (s x : Operand) (E : Enc α) {t e : TypeId} {nb : Nat} (hI : GInfo E P t e nb) (hnb : nb ≤ 128)
    (ho : o.op = .call { callee := .builtin .append, args := #[s, x], argTypes := #[t, t] })
    (base : Nat) {A A2 : Option Addr} {m c n c2 B : Nat} {ws ns : List α} (hs : a.eval s = .slice A m c) (hrow : GRow E e w base A m c ws) (hx : a.eval x = .slice A2 n c2) (hn : n = ns.length) (hA : GAt E w B A2 ns)
    (hlen : ws.length + ns.length ≤ 1099511627776) (hbase : base ≤ w.heap.size)
    (h : ∀ A' m' c' w', GRow E e w' base A' m' c' (ws ++ ns) → m' ≤ c' → Below base w w' → w.grownBy w' (Value.slice A m c).ownBlock → wpList P ops Q rest (a.put o.dst (.slice A' m' c')) w') : wpList P ops Q (o :: rest) a w :=
  wpList_plain hgd fun _ hK => wp_append_g w s x E hI hnb ho base hs hrow hx hn hA hlen hbase fun A' m' c' w' h1 h2 h3 h4 => hK _ _ (h A' m' c' w' h1 h2 h3 h4)
theorem wpList_append_own {P : Program} (w : World) {ops : Array Oper} {rest : List Oper} {o : Oper} {a : Act} {Q : Exit → Act → World → Prop} (hgd : o.guard = none) (s x : Operand) (E : Enc α) {t e : TypeId} {nb : Nat} (hI : GInfo E P t e nb) (hnb : nb ≤ 128)
    (ho : o.op = .call { callee := .builtin .append, args := #[s, x], argTypes := #[t, t] })
    (base : Nat) {A A2 : Option Addr} {m c n c2 B : Nat} {ws ns : List α} (hs : a.eval s = .slice A m c) (hrow : GRow E e w base A m c ws) (hx : a.eval x = .slice A2 n c2) (hn : n = ns.length) (hA : GAt E w B A2 ns)
    (hlen : ws.length + ns.length ≤ 1099511627776) (hbase : base ≤ w.heap.size)
    (h : ∀ A' m' c' w', GRow E e w' base A' m' c' (ws ++ ns) → m' ≤ c' → Below base w w' → w.grownBy w' (Value.slice A m c).ownBlock → ((Value.slice A' m' c').ownBlock = (Value.slice A m c).ownBlock ∨ (Value.slice A' m' c').ownBlock = some w.heap.size) → wpList P ops Q rest (a.put o.dst (.slice A' m' c')) w') : wpList P ops Q (o :: rest) a w :=
  wpList_plain hgd fun _ hK => wp_append_own w s x E hI hnb ho base hs hrow hx hn hA hlen hbase fun A' m' c' w' h1 h2 h3 h4 h5 => hK _ _ (h A' m' c' w' h1 h2 h3 h4 h5)
/-- rows of two types lie apart -/
theorem own_apart {w : World} {b b' k k' n n' : Nat} {e e' : TypeId} {v v' : Value} {xs xs' : List Value} (h : w.ownsRow b e k v n xs) (h' : w.ownsRow b' e' k' v' n' xs') (hne : e ≠ e') : v.ownBlock = none ∨ v.ownBlock ≠ v'.ownBlock := by
  rcases h.2 with ⟨rfl, _⟩ | ⟨g, cap, cur, rfl, _, hg, _⟩
  · exact .inl rfl
  · refine .inr fun he => ?_
    rcases h'.2 with ⟨rfl, _⟩ | ⟨g', cap', cur', rfl, _, hg', _⟩
    · cases he
    · have : g = g' := by simpa [Value.ownBlock] using he
      subst this
      rw [hg] at hg'
      injection hg' with hg'
      injection hg' with _ ht
      exact hne ht
end

end Go.Proofs.Ytdhjjjagjkencaa
