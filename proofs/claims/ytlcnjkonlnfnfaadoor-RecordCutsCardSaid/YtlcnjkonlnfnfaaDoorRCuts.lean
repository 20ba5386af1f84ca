/-
  Records one behind the other, one more at the end; a row of ints; a slice of strings that is handed in; three rows of the call's own side by side.
-/
import Derived.Test.YtlcnjkonlnfnfaaDoorRAwake
import Derived.Test.YtlcnjkonlnfnfaaDoorSAt
namespace Go.Proofs.YtlcnjkonlnfnfaaDoor
open Go Go.RowKit

/-! plain -/
def nth64 (q k : Nat) : Nat := (q + k) % 18446744073709551616
theorem nth64_lt (q k : Nat) : nth64 q k < 18446744073709551616 := Nat.mod_lt _ (by decide)
theorem nth64_next (q k : Nat) : nth64 (next64 q) k = nth64 q (k + 1) := by unfold nth64 next64; omega
theorem nth64_zero {q : Nat} (hq : q < 18446744073709551616) : nth64 q 0 = q := by unfold nth64; omega
theorem rall_snoc : ∀ (l : List (List UInt8)) (b : List UInt8) (q : Nat), q < 18446744073709551616 → rall q (l ++ [b]) = rall q l ++ renc (nth64 q l.length) b
  | [], b, q, hq => by simp [rall, nth64_zero hq]
  | x :: l, b, q, hq => by
    show renc q x ++ rall (next64 q) (l ++ [b]) = (renc q x ++ rall (next64 q) l) ++ _
    rw [rall_snoc l b (next64 q) (next64_lt q), List.append_assoc, nth64_next]
    rfl
theorem rnum_snoc : ∀ (l : List (List UInt8)) (b : List UInt8) (q : Nat), q < 18446744073709551616 → rnumbered q (l ++ [b]) = rnumbered q l ++ [(nth64 q l.length, b)]
  | [], b, q, hq => by simp [rnumbered, nth64_zero hq]
  | x :: l, b, q, hq => by
    show (q, x) :: rnumbered (next64 q) (l ++ [b]) = ((q, x) :: rnumbered (next64 q) l) ++ _
    rw [rnum_snoc l b (next64 q) (next64_lt q), nth64_next]
    rfl
theorem rnumbered_length : ∀ (l : List (List UInt8)) (q : Nat), (rnumbered q l).length = l.length
  | [], _ => rfl
  | _ :: l, q => by show (rnumbered (next64 q) l).length + 1 = l.length + 1; rw [rnumbered_length l]
theorem rall_le {B : Nat} : ∀ (l : List (List UInt8)) (q : Nat), (∀ b ∈ l, b.length ≤ B) → (rall q l).length ≤ l.length * (B + 28)
  | [], _, _ => Nat.zero_le _
  | x :: l, q, h => by
    show (renc q x ++ rall (next64 q) l).length ≤ _
    have h1 := rall_le l (next64 q) (fun b hb => h b (by simp [hb]))
    have h2 := renc_le q x
    have h3 := h x (by simp)
    rw [List.length_append, List.length_cons, Nat.add_mul]
    omega
/-- where the first k records end -/
def endAt (q : Nat) (l : List (List UInt8)) (k : Nat) : Nat := (rall q (l.take k)).length
theorem endAt_zero (q : Nat) (l : List (List UInt8)) : endAt q l 0 = 0 := rfl
theorem endAt_cons (q : Nat) (b : List UInt8) (l : List (List UInt8)) (k : Nat) : endAt q (b :: l) (k + 1) = (renc q b).length + endAt (next64 q) l k := by
  show (renc q b ++ rall (next64 q) (l.take k)).length = _
  rw [List.length_append]
  rfl
theorem rwhole_le : ∀ (l : List (List UInt8)) (q n : Nat), rwhole q n l ≤ l.length
  | [], _, _ => Nat.zero_le _
  | b :: l, q, n => by
    unfold rwhole
    split
    · have := rwhole_le l (next64 q) (n - (renc q b).length)
      rw [List.length_cons]; omega
    · exact Nat.zero_le _
theorem end_whole : ∀ (l : List (List UInt8)) (q n j : Nat), j < l.length → (endAt q l (j + 1) ≤ n ↔ j < rwhole q n l)
  | [], _, _, _, h => absurd h (Nat.not_lt_zero _)
  | b :: l, q, n, 0, _ => by
    rw [endAt_cons, endAt_zero]
    unfold rwhole
    split <;> omega
  | b :: l, q, n, j + 1, h => by
    rw [endAt_cons]
    have ih := end_whole l (next64 q) (n - (renc q b).length) j (by rw [List.length_cons] at h; omega)
    unfold rwhole
    split
    · rw [Nat.add_lt_add_iff_right, ← ih]; omega
    · omega

/-! rows -/
theorem own_ne_own {w : World} {base base' n n' sz sz' : Nat} {e e' : TypeId} {v v' : Value} {xs xs' : List Value} (h : w.ownsRow base e sz v n xs) (h' : w.ownsRow base' e' sz' v' n' xs') (hne : e ≠ e') : v.ownBlock = none ∨ v.ownBlock ≠ v'.ownBlock := by
  rcases h.2 with ⟨rfl, _⟩ | ⟨g, cap, cur, rfl, _, hg, _⟩
  · exact .inl rfl
  · refine .inr ?_
    rcases h'.2 with ⟨rfl, _⟩ | ⟨g', cap', cur', rfl, _, hg', _⟩
    · simp [Value.ownBlock]
    · intro he
      have : g = g' := by simpa [Value.ownBlock] using he
      subst this
      rw [hg] at hg'
      injection hg' with hg'
      injection hg' with _ ht
      exact hne ht
def ints (xs : List Nat) : List Value := xs.map fun (x : Nat) => Value.int .i64 (x : Int)
def IRow (w : World) (base : Nat) (A : Option Addr) (m c : Nat) (xs : List Nat) : Prop := m = xs.length ∧ w.ownsRow base 3 1 (.slice A m c) m (ints xs)
theorem IRow.new (w : World) {base : Nat} (x : Nat) (hb : base ≤ w.heap.size) : IRow (w.alloc (.cells #[.int .i64 (x : Int)] 3)) base (some ⟨w.heap.size, 0, none⟩) 1 1 [x] :=
  ⟨rfl, rfl, .inr ⟨w.heap.size, 1, #[.int .i64 (x : Int)], rfl, hb, heap_alloc_new w _, Nat.le_refl _, by decide, rfl, rfl⟩⟩
theorem IRow.cell {w : World} {base m c k : Nat} {A : Option Addr} {xs : List Nat} (h : IRow w base A m c xs) (hk : k < xs.length) : ∃ g, A = some ⟨g, 0, none⟩ ∧ m ≤ c ∧ w.cell? ⟨g, k, none⟩ = some (.int .i64 ((xs[k] : Nat) : Int)) := by
  obtain ⟨rfl, hown⟩ := h
  rcases hown.2 with ⟨_, h0⟩ | ⟨g, cap, cur, hv, _, _, hnc, _⟩
  · omega
  · have hA : A = some ⟨g, 0, none⟩ := by injection hv
    have hc : c = cap := by injection hv
    subst hA hc
    refine ⟨g, rfl, by omega, ?_⟩
    have := hown.cells (g := g) rfl k (.int .i64 ((xs[k] : Nat) : Int)) (by simp [ints, hk])
    have ea : (⟨g, 0, none⟩ : Addr).add k = ⟨g, k, none⟩ := by unfold Addr.add; split <;> simp_all
    rwa [ea] at this

structure Cu (w0 w : World) (A7 A8 A9 : Option Addr) (m7 c7 m8 c8 m9 c9 : Nat) (l : List UInt8) (es : List Nat) (rs : List (Nat × List UInt8)) : Prop where
  all : Row w w0.heap.size 5 A7 m7 c7 l
  ends : IRow w w0.heap.size A8 m8 c8 es
  want : RcRow w w0.heap.size A9 m9 c9 rs
  below : Below w0.heap.size w0 w
theorem own_below {w w' : World} {base n sz : Nat} {e : TypeId} {v : Value} {xs : List Value} (h : w.ownsRow base e sz v n xs) (hb : Below w.heap.size w w') : w'.ownsRow base e sz v n xs := by
  refine h.kept (row := none) ⟨hb.os, hb.tape, hb.output, hb.size, fun k hk _ => hb.block k hk⟩ ?_
  cases hv : v.ownBlock <;> simp
section
variable {w0 w w' : World} {A7 A8 A9 : Option Addr} {m7 c7 m8 c8 m9 c9 : Nat} {l : List UInt8} {es : List Nat} {rs : List (Nat × List UInt8)}
theorem Cu.step (h : Cu w0 w A7 A8 A9 m7 c7 m8 c8 m9 c9 l es rs) (hb : Below w.heap.size w w') : Cu w0 w' A7 A8 A9 m7 c7 m8 c8 m9 c9 l es rs :=
  ⟨⟨h.all.1, own_below h.all.2 hb⟩, ⟨h.ends.1, own_below h.ends.2 hb⟩, ⟨h.want.1, own_below h.want.2 hb⟩, below_step h.below hb⟩
theorem Cu.alloc (h : Cu w0 w A7 A8 A9 m7 c7 m8 c8 m9 c9 l es rs) (o : Obj) : Cu w0 (w.alloc o) A7 A8 A9 m7 c7 m8 c8 m9 c9 l es rs := h.step ((Below.refl _ _).alloc (Nat.le_refl _) _)
theorem Cu.drew (h : Cu w0 w A7 A8 A9 m7 c7 m8 c8 m9 c9 l es rs) : Cu w0 w.drew A7 A8 A9 m7 c7 m8 c8 m9 c9 l es rs := h.step (Below.refl _ _).drew
theorem own_turn {e : TypeId} {sz n : Nat} {v v2 : Value} {xs : List Value} {e2 : TypeId} {sz2 n2 base base2 : Nat} {xs2 : List Value} (h : w.ownsRow base e sz v n xs) (h2 : w.ownsRow base2 e2 sz2 v2 n2 xs2) (hne : e ≠ e2) (hg : w.grownBy w' v2.ownBlock) : w'.ownsRow base e sz v n xs :=
  h.kept hg (own_ne_own h h2 hne)

/-- append of bytes -/
theorem wp_cu_all {o : Oper} {a : Act} {K : Act → World → Prop} {Q : Exit → Act → World → Prop} (s x : Operand) (ho : o.op = .call { callee := .builtin .append, args := #[s, x], argTypes := #[26, 26] })
    {A2 : Option Addr} {n c2 : Nat} {news : List UInt8} (h : Cu w0 w A7 A8 A9 m7 c7 m8 c8 m9 c9 l es rs) (hs : a.eval s = .slice A7 m7 c7) (hx : a.eval x = .slice A2 n c2) (hn : n = news.length) (hA : At w w.heap.size A2 news) (hlen : l.length + news.length ≤ 140737488355328)
    (k : ∀ A m c w', Cu w0 w' A A8 A9 m c m8 c8 m9 c9 (l ++ news) es rs → w.grownBy w' (Value.slice A7 m7 c7).ownBlock → K (a.put o.dst (.slice A m c)) w') : o.wp Tryd.prog a w K Q := by
  obtain ⟨i0, hi, hz0, hz1, hz2⟩ := info_parts info_byte
  obtain ⟨⟨hm, hown⟩, he, hw, hb⟩ := h
  subst hm hn
  obtain ⟨v', w', hr, h2, h3, _⟩ := run_append_bs (P := Tryd.prog) w w0.heap.size 26 o.type 5 i0 Tryd.underlying26 hi hz0 hz1 hz2 (.slice A7 l.length c7) l news hown A2 c2 hA hlen hb.size
  unfold Oper.wp execOp
  simp only [ho, resolve, invoke, builtin, Sem.run_bind, Sem.run_pure, Result.andThen_ok, List.map_toArray, List.map_cons, List.map_nil, hs, hx, hr]
  obtain ⟨A', c', rfl⟩ := own_shape h2
  exact k A' _ c' w' ⟨⟨rfl, h2⟩, ⟨he.1, own_turn he.2 hown (by decide) h3⟩, ⟨hw.1, own_turn hw.2 hown (by decide) h3⟩, hb.grown h3 hb.size (fun k hk => (hown.lt k hk).1)⟩ h3
/-- append of one record, that lies in a block of its own -/
theorem wp_cu_want {o : Oper} {a : Act} {K : Act → World → Prop} {Q : Exit → Act → World → Prop} (s x : Operand) (ho : o.op = .call { callee := .builtin .append, args := #[s, x], argTypes := #[38, 38] })
    {A2 : Option Addr} {n c2 B : Nat} {ns : List (Nat × List UInt8)} (h : Cu w0 w A7 A8 A9 m7 c7 m8 c8 m9 c9 l es rs) (hs : a.eval s = .slice A9 m9 c9) (hx : a.eval x = .slice A2 n c2) (hn : n = ns.length) (hA : RcAt w B A2 ns) (hlen : rs.length + ns.length ≤ 1099511627776)
    (k : ∀ A m c w', Cu w0 w' A7 A8 A m7 c7 m8 c8 m c l es (rs ++ ns) → w.grownBy w' (Value.slice A9 m9 c9).ownBlock → K (a.put o.dst (.slice A m c)) w') : o.wp Tryd.prog a w K Q := by
  obtain ⟨ha, he, hw, hb⟩ := h
  refine wp_append_rc w s x ho w0.heap.size hs hw hx hn hA hlen hb.size fun A m c w' h1 _ h3 h4 => ?_
  exact k A m c w' ⟨⟨ha.1, own_turn ha.2 hw.2 (by decide) h4⟩, ⟨he.1, own_turn he.2 hw.2 (by decide) h4⟩, h1, hb.trans h3⟩ h4

theorem info_int : (Tryd.prog.info? 3).map (fun i => (i.zero, i.size, i.bytes)) = some (some (.int .i64 0), 1, 8) := by kernel_rfl
/-- append of one int -/
theorem wpList_cu_ends {ops : Array Oper} {rest : List Oper} {o : Oper} {a : Act} {Q : Exit → Act → World → Prop} (hgd : o.guard = none) (s x : Operand) (ho : o.op = .call { callee := .builtin .append, args := #[s, x], argTypes := #[47, 47] })
    {g c2 y : Nat} (h : Cu w0 w A7 A8 A9 m7 c7 m8 c8 m9 c9 l es rs) (hs : a.eval s = .slice A8 m8 c8) (hx : a.eval x = .slice (some ⟨g, 0, none⟩) 1 c2) (hA : Blk w g 3 #[.int .i64 (y : Int)]) (hlen : es.length + 1 ≤ 1099511627776)
    (k : ∀ A m c w', Cu w0 w' A7 A A9 m7 c7 m c m9 c9 l (es ++ [y]) rs → wpList Tryd.prog ops Q rest (a.put o.dst (.slice A m c)) w') : wpList Tryd.prog ops Q (o :: rest) a w := by
  obtain ⟨i0, hi, hz0, hz1, hz2⟩ := info_parts info_int
  obtain ⟨ha, ⟨hm, hown⟩, hw, hb⟩ := h
  subst hm
  refine wpList_append_own_at w hgd s x 47 ho w0.heap.size 3 i0 (.int .i64 0) 1 8 Tryd.underlying47 hi hz0 hz1 hz2 rfl (by decide) _ es.length (ints es) hs hown ⟨g, 0, none⟩ 1 c2 [.int .i64 (y : Int)] hx rfl ?_ (by simp [Value.oneCell']) (by unfold maxLen; omega) (by omega) hb.size ?_
  · intro j u hj
    match j, hj with
    | 0, hj =>
      simp at hj
      subst hj
      have := hA.cell 0
      simpa [Addr.add] using this
  · intro v' w' h2 h3 _ _
    obtain ⟨A', c', rfl⟩ := own_shape h2
    exact k A' _ c' w' ⟨⟨ha.1, own_turn ha.2 hown (by decide) h3⟩, ⟨by simp, by simpa [ints] using h2⟩, ⟨hw.1, own_turn hw.2 hown (by decide) h3⟩, hb.grown h3 hb.size (fun k hk => (hown.lt k hk).1)⟩
end

theorem blk_ne_own {w : World} {base n b sz : Nat} {e tv : TypeId} {v : Value} {xs : List Value} {cs : Array Value} (hb : Blk w b tv cs) (h : w.ownsRow base e sz v n xs) (hne : e ≠ tv) : some b ≠ v.ownBlock := by
  rcases h.2 with ⟨rfl, _⟩ | ⟨g, cap, cur, rfl, _, hg, _⟩
  · simp [Value.ownBlock]
  · intro he
    have : b = g := by simpa [Value.ownBlock] using he
    subst this
    unfold Blk at hb
    rw [hb] at hg
    injection hg with hg
    injection hg with _ ht
    exact hne ht.symm
theorem RcAt.ofBlk {w : World} {g B : Nat} {x : Nat × List UInt8} (hb : Blk w g 24 #[.int .u64 (x.1 : Int), .string (bst x.2)]) (hg : g < B) : RcAt w B (some ⟨g, 0, none⟩) [x] := fun _ => by
  refine ⟨g, 0, rfl, hg, fun i s hi => ?_⟩
  have : i = 0 := by have := (List.getElem?_eq_some_iff.1 hi).1; simp at this; omega
  subst this
  obtain rfl : x = s := by simpa using hi
  exact ⟨hb.cell 0, hb.cell 1⟩
theorem cu_next {w0 w : World} {A7 A8 A9 : Option Addr} {m7 c7 m8 c8 m9 c9 q k : Nat} {l : List (List UInt8)} {b : List UInt8} (hq : q < 18446744073709551616) (hk : k < l.length) (hb : l[k] = b)
    (h : Cu w0 w A7 A8 A9 m7 c7 m8 c8 m9 c9 (rall q (l.take k) ++ renc (nth64 q k) b) ((List.range (k + 1)).map (endAt q l) ++ [m7]) (rnumbered q (l.take k) ++ [(nth64 q k, b)])) :
    Cu w0 w A7 A8 A9 m7 c7 m8 c8 m9 c9 (rall q (l.take (k + 1))) ((List.range (k + 1 + 1)).map (endAt q l)) (rnumbered q (l.take (k + 1))) := by
  have hl : (l.take k).length = k := by rw [List.length_take]; omega
  have ht : l.take (k + 1) = l.take k ++ [b] := by rw [← hb]; exact (List.take_append_getElem hk).symm
  have e1 : rall q (l.take (k + 1)) = rall q (l.take k) ++ renc (nth64 q k) b := by rw [ht, rall_snoc _ _ _ hq, hl]
  have e2 : rnumbered q (l.take (k + 1)) = rnumbered q (l.take k) ++ [(nth64 q k, b)] := by rw [ht, rnum_snoc _ _ _ hq, hl]
  have e3 : (List.range (k + 1 + 1)).map (endAt q l) = (List.range (k + 1)).map (endAt q l) ++ [m7] := by
    rw [List.range_succ, List.map_append]
    have : endAt q l (k + 1) = m7 := by unfold endAt; rw [e1]; exact h.all.1.symm
    simp [this]
  rw [e1, e2, e3]
  exact h

end Go.Proofs.YtlcnjkonlnfnfaaDoor
