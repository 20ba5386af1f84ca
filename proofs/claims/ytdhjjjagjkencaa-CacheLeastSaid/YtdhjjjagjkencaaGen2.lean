/-
  Rows of structs, further: what is left behind a cut, and append to a slice that is full.
-/
import Derived.Test.YtdhjjjagjkencaaGen
import Derived.ArgAppend
import Derived.Deep.Upon
namespace Go.Proofs.Ytdhjjjagjkencaa
open Go Go.RowKit

section
variable {α : Type} {E : Enc α} {w w' : World} {B B' : Nat} {A : Option Addr} {l : List α}
theorem GAt.cut {c k : Nat} (h : GAt E w B A l) (hc : l.length ≤ c) : GAt E w B (if c = k then A else A.map (·.add (k * E.k))) (l.drop k) := fun hl => by
  rw [List.length_drop] at hl
  obtain ⟨b, off, rfl, hb, hcell⟩ := h (by omega)
  rw [if_neg (by omega)]
  have e2 : (⟨b, off, none⟩ : Addr).add (k * E.k) = ⟨b, off + k * E.k, none⟩ := by unfold Addr.add; split <;> simp_all
  refine ⟨b, off + k * E.k, by rw [Option.map_some, e2], hb, fun i x j u hi hu => ?_⟩
  have := hcell (k + i) x j u (by rw [← hi, List.getElem?_drop]) hu
  rwa [show off + (k + i) * E.k + j = off + k * E.k + i * E.k + j by rw [Nat.add_mul]; omega] at this
theorem GAt.cells (h : GAt E w B A l) {b : Addr} (hA : A = some b) : ∀ j u, (gcells E l)[j]? = some u → w.cell? (b.add j) = some u := by
  intro j u hu
  obtain ⟨i, y, r, rfl, hy, hr⟩ := gcells_at E hu
  have hil := (List.getElem?_eq_some_iff.1 hy).1
  obtain ⟨b', off, e1, _, hcell⟩ := h (by omega)
  rw [hA] at e1
  injection e1 with e1
  subst e1
  have e2 : ∀ j, (⟨b', off, none⟩ : Addr).add j = ⟨b', off + j, none⟩ := by intro j; unfold Addr.add; split <;> simp_all
  rw [e2, ← Nat.add_assoc]
  exact hcell i y r u hy hr
theorem GAt.empty (h : GAt E w B none l) : l = [] := by
  rcases l with _ | ⟨x, r⟩
  · rfl
  · obtain ⟨_, _, e, _⟩ := h (by simp)
    cases e

/-- append(s, m...), s being full: new memory, or nothing at all -/
theorem wp_append_full {P : Program} (w : World) {o : Oper} {a : Act} {K : Act → World → Prop} {Q : Exit → Act → World → Prop} (s x : Operand) (E : Enc α) {t e : TypeId} {nb : Nat} (hI : GInfo E P t e nb) (hnb : nb ≤ 128)
    (ho : o.op = .call { callee := .builtin .append, args := #[s, x], argTypes := #[t, t] })
    {A A2 : Option Addr} {m n c2 B2 : Nat} {ws ns : List α} (hs : a.eval s = .slice A m m) (hA : GAt E w B A ws) (hm : m = ws.length) (hx : a.eval x = .slice A2 n c2) (hn : n = ns.length) (hA2 : GAt E w B2 A2 ns)
    (hlen : ws.length + ns.length ≤ 1099511627776) (hB : B ≤ w.heap.size)
    (h : ∀ A' m' c' w', GAt E w' w'.heap.size A' (ws ++ ns) → m' = (ws ++ ns).length → m' ≤ c' → Below w.heap.size w w' → (0 < ns.length → GRow E e w' w.heap.size A' m' c' (ws ++ ns)) → K (a.put o.dst (.slice A' m' c')) w') : o.wp P a w K Q := by
  obtain ⟨i0, z, hi, hz0, hz1, hz2, hz3⟩ := hI.info
  subst hm hn
  have hpos := E.pos
  rcases Nat.eq_zero_or_pos ns.length with h0 | h0
  · obtain rfl : ns = [] := List.eq_nil_of_length_eq_zero h0
    have hsrc : Src P i0.size t (.slice A2 0 c2) 0 [] w := by
      cases A2 with
      | none => exact Src.ofNil w hI.sl c2
      | some ad => exact Src.ofSlice w hI.sl ad 0 c2 [] (by simp) (fun j u hu => by simp at hu) (fun u hu => by cases hu)
    have hrun := run_append_nothing (P := P) w t t o.type e i0 hI.sl hi A ws.length ws.length (Nat.le_refl _) _ hsrc
    unfold Oper.wp execOp
    simp only [List.length_nil] at hx
    simp only [ho, resolve, invoke, builtin, Sem.run_bind, Sem.run_pure, Result.andThen_ok, List.map_toArray, List.map_cons, List.map_nil, hs, hx, hrun]
    exact h A _ _ w (by rw [List.append_nil]; exact hA.more hB) (by rw [List.append_nil]) (Nat.le_refl _) (Below.refl _ _) (fun hp => absurd hp (by simp))
  · obtain ⟨ad, rfl⟩ : ∃ ad, A2 = some ad := by
      obtain ⟨b, off, e1, _⟩ := hA2 h0
      exact ⟨_, e1⟩
    have hb : (ws.length + ns.length) * nb ≤ 140737488355328 := Nat.le_trans (Nat.mul_le_mul hlen hnb) (by decide)
    have hmx : ws.length + ns.length ≤ maxLen := by unfold maxLen; omega
    have hrun : ∃ v' w', (Builtin.append_ #[t, t] o.type #[.slice A ws.length ws.length, .slice (some ad) ns.length c2]).run P w = .ok v' w' ∧ w'.ownsRow w.heap.size e E.k v' (ws.length + ns.length) (gcells E ws ++ gcells E ns) ∧ w.grownBy w' none := by
      cases A with
      | some b => exact run_append_arg_grows (P := P) w t o.type e i0 z E.k nb hI.sl hi hz0 hz1 hz2 hz3 hpos b ws.length ws.length (gcells E ws) (gcells_length E ws) (hA.cells rfl) ad ns.length c2 (gcells E ns) (gcells_length E ns) (hA2.cells rfl) (by omega) hmx hb
      | none =>
        obtain rfl := hA.empty
        obtain ⟨v', w', hrun, r1, r2, _⟩ := run_append_own (P := P) w w.heap.size t o.type e i0 z E.k nb hI.sl hi hz0 hz1 hz2 hz3 hpos (.slice none 0 0) 0 [] (World.ownsRow_nil w _ e _) ad ns.length c2 (gcells E ns) (gcells_length E ns) (hA2.cells rfl) (gcells_one E ns) hmx hb (Nat.le_refl _)
        exact ⟨v', w', hrun, r1, r2⟩
    obtain ⟨v', w', hr, h2, h3⟩ := hrun
    unfold Oper.wp execOp
    simp only [ho, resolve, invoke, builtin, Sem.run_bind, Sem.run_pure, Result.andThen_ok, List.map_toArray, List.map_cons, List.map_nil, hs, hx, hr]
    obtain ⟨A', c', rfl⟩ := own_shape h2
    have hrow : GRow E e w' w.heap.size A' (ws.length + ns.length) c' (ws ++ ns) := ⟨by rw [List.length_append], by rw [gcells_append]; exact h2⟩
    exact h A' _ c' w' hrow.at_ hrow.1 hrow.cap ((Below.refl _ _).grown h3 (Nat.le_refl _) (fun k hk => by cases hk)) (fun _ => hrow)
theorem wpList_append_full {P : Program} (w : World) {ops : Array Oper} {rest : List Oper} {o : Oper} {a : Act} {Q : Exit → Act → World → Prop} (hgd : o.guard = none) (s x : Operand) (E : Enc α) {t e : TypeId} {nb : Nat} (hI : GInfo E P t e nb) (hnb : nb ≤ 128)
    (ho : o.op = .call { callee := .builtin .append, args := #[s, x], argTypes := #[t, t] })
    {A A2 : Option Addr} {m n c2 B2 : Nat} {ws ns : List α} (hs : a.eval s = .slice A m m) (hA : GAt E w B A ws) (hm : m = ws.length) (hx : a.eval x = .slice A2 n c2) (hn : n = ns.length) (hA2 : GAt E w B2 A2 ns)
    (hlen : ws.length + ns.length ≤ 1099511627776) (hB : B ≤ w.heap.size)
    (h : ∀ A' m' c' w', GAt E w' w'.heap.size A' (ws ++ ns) → m' = (ws ++ ns).length → m' ≤ c' → Below w.heap.size w w' → (0 < ns.length → GRow E e w' w.heap.size A' m' c' (ws ++ ns)) → wpList P ops Q rest (a.put o.dst (.slice A' m' c')) w') : wpList P ops Q (o :: rest) a w :=
  wpList_plain hgd fun _ hK => wp_append_full w s x E hI hnb ho hs hA hm hx hn hA2 hlen hB fun A' m' c' w' h1 h2 h3 h4 h5 => hK _ _ (h A' m' c' w' h1 h2 h3 h4 h5)
end

/-- one element that has just been built -/
theorem GRow.single {α : Type} {E : Enc α} {e : TypeId} (w : World) {base : Nat} {x : α} {cs : Array Value} (hcs : cs.toList = E.enc x) (hb : base ≤ w.heap.size) : GRow E e (w.alloc (.cells cs e)) base (some ⟨w.heap.size, 0, none⟩) 1 1 [x] := by
  have hg : gcells E [x] = E.enc x := by simp [gcells]
  have hl : cs.size = E.k := by rw [← Array.length_toList, hcs]; exact E.len x
  refine ⟨rfl, ?_, .inr ⟨w.heap.size, 1, cs, rfl, hb, heap_alloc_new w _, ?_, ?_, ?_, ?_⟩⟩
  all_goals (first | (simp [hg, hcs, E.len]; done) | decide | (rw [Nat.one_mul]; exact hl) | (rw [hg, hcs, Nat.one_mul, List.take_of_length_le (Nat.le_of_eq (E.len x))]))

end Go.Proofs.Ytdhjjjagjkencaa
