/-
  The landed cache in memory.
-/
import Derived.Test.YtdhjjjagjkencaaLink
import Derived.Maps.OwnSet
namespace Go.Proofs.Ytdhjjjagjkencaa
open Go Go.RowKit

/-! ### maps at the operations -/
section
variable {P : Program} (w : World) {ops : Array Oper} {rest : List Oper} {o : Oper} {a : Act} {Q : Exit → Act → World → Prop}
theorem wpList_lookOk (hg : o.guard = none) (m x : Operand) (t : TypeId) (hop : o.op = Op.lookup t m x true) (k e : TypeId) (ht : P.underlying t = some (.map k e)) (hk : P.underlying k = some (.int .i64)) {z : Value} (hz : (zeroValue e).run P w = .ok z w)
    {b n : Nat} {T : TabF} (hm : a.eval m = .map (some b)) (h : Tab w b T n) (i : Int) (hx : a.eval x = .int .i64 i) {v : Value} {q : Bool} (hv : (T i).getD z = v) (hq : (T i).isSome = q)
    (hK : wpList P ops Q rest (a.put o.dst (.tuple #[v, .bool q])) w) : wpList P ops Q (o :: rest) a w := by
  refine wpList_plain hg fun K' hK' => ?_
  have hrun := h.look ht hk hz i true
  rw [hv, hq] at hrun
  unfold Oper.wp
  simp [execOp, hop, hm, hx, hrun, Result.andThen]
  exact hK' _ _ hK
theorem wpList_look (hg : o.guard = none) (m x : Operand) (t : TypeId) (hop : o.op = Op.lookup t m x false) (k e : TypeId) (ht : P.underlying t = some (.map k e)) (hk : P.underlying k = some (.int .i64)) {z : Value} (hz : (zeroValue e).run P w = .ok z w)
    {b n : Nat} {T : TabF} (hm : a.eval m = .map (some b)) (h : Tab w b T n) (i : Int) (hx : a.eval x = .int .i64 i) {v : Value} (hv : (T i).getD z = v)
    (hK : wpList P ops Q rest (a.put o.dst v) w) : wpList P ops Q (o :: rest) a w := by
  refine wpList_plain hg fun K' hK' => ?_
  have hrun := h.look ht hk hz i false
  rw [hv] at hrun
  unfold Oper.wp
  simp [execOp, hop, hm, hx, hrun, Result.andThen]
  exact hK' _ _ hK
theorem wpList_put (hg : o.guard = none) (m x y : Operand) (t : TypeId) (hop : o.op = Op.mapUpdate t m x y) (k e : TypeId) (ht : P.underlying t = some (.map k e)) (hk : P.underlying k = some (.int .i64))
    {b n : Nat} {T : TabF} (hm : a.eval m = .map (some b)) (h : Tab w b T n) (i : Int) (hx : a.eval x = .int .i64 i) (v : Value) (hy : a.eval y = v)
    (hK : ∀ w', Tab w' b (updT T i (some v)) (if (T i).isSome then n else n + 1) → Only b w w' → w'.heap.size = w.heap.size → wpList P ops Q rest (a.put o.dst undef) w') : wpList P ops Q (o :: rest) a w := by
  refine wpList_plain hg fun K' hK' => ?_
  obtain ⟨w', hrun, h1, h2, h3⟩ := h.store ht hk i v
  unfold Oper.wp
  simp [execOp, hop, hm, hx, hy, hrun, Result.andThen]
  exact hK' _ _ (hK w' h1 h2 h3)
theorem wpList_drop (hg : o.guard = none) (m x : Operand) (t k : TypeId) (hop : o.op = Op.call { callee := Callee.builtin Builtin.delete, args := #[m, x], argTypes := #[t, k] }) (e : TypeId) (ht : P.underlying t = some (.map k e)) (hk : P.underlying k = some (.int .i64))
    {b n : Nat} {T : TabF} (hm : a.eval m = .map (some b)) (h : Tab w b T n) (i : Int) (hx : a.eval x = .int .i64 i)
    (hK : ∀ w', Tab w' b (updT T i none) (if (T i).isSome then n - 1 else n) → Only b w w' → w'.heap.size = w.heap.size → wpList P ops Q rest (a.put o.dst (.tuple #[])) w') : wpList P ops Q (o :: rest) a w := by
  refine wpList_plain hg fun K' hK' => ?_
  obtain ⟨w', hrun, h1, h2, h3⟩ := h.drop ht hk i o.type
  unfold Oper.wp
  simp [execOp, hop, resolve, invoke, builtin, hm, hx, hrun, Result.andThen]
  exact hK' _ _ (hK w' h1 h2 h3)
theorem wpList_lenT (hg : o.guard = none) (m : Operand) (t : TypeId) (hop : o.op = Op.call { callee := Callee.builtin Builtin.len, args := #[m], argTypes := #[t] }) (k e : TypeId) (ht : P.underlying t = some (.map k e))
    {b n : Nat} {T : TabF} (hm : a.eval m = .map (some b)) (h : Tab w b T n)
    (hK : wpList P ops Q rest (a.put o.dst (.int .i64 (n : Int))) w) : wpList P ops Q (o :: rest) a w := by
  refine wpList_plain hg fun K' hK' => ?_
  unfold Oper.wp
  simp [execOp, hop, resolve, invoke, builtin, hm, h.len ht o.type, Result.andThen]
  exact hK' _ _ hK
theorem wpList_rangeT (hg : o.guard = none) (m : Operand) (t : TypeId) (hop : o.op = Op.range t m) (k e : TypeId) (ht : P.underlying t = some (.map k e)) {b n : Nat} {T : TabF} (hm : a.eval m = .map (some b)) (h : Tab w b T n)
    (hK : ∀ w', Ranging w' b w.heap.size T n (fun i => (T i).isSome) n → Below w.heap.size w w' → wpList P ops Q rest (a.put o.dst (.pointer (some ⟨w.heap.size, 0, none⟩))) w') : wpList P ops Q (o :: rest) a w := by
  refine wpList_plain hg fun K' hK' => ?_
  obtain ⟨w', hrun, r1, r2⟩ := h.range ht
  unfold Oper.wp
  simp [execOp, hop, hm, hrun, Result.andThen]
  exact hK' _ _ (hK w' r1 r2)
theorem wpList_nextT (hg : o.guard = none) (it : Operand) (hop : o.op = Op.next it false) {b r n cnt : Nat} {T : TabF} {left : Int → Bool} (hit : a.eval it = .pointer (some ⟨r, 0, none⟩)) (h : Ranging w b r T n left cnt)
    (hDone : (∀ i, left i = false) → wpList P ops Q rest (a.put o.dst (.tuple #[.bool false])) w)
    (hMore : ∀ (i : Int) (v : Value) (w' : World) (cnt' : Nat), T i = some v → left i = true → Ranging w' b r T n (fun j => left j && !decide (j = i)) cnt' → cnt' < cnt → Only r w w' →
      (Instr.entry (.pointer (some ⟨r, 0, none⟩))).run P w' = .ok (.tuple #[.int .i64 i, v]) w' → wpList P ops Q rest (a.put o.dst (.tuple #[.bool true, .int .i64 i, v])) w') : wpList P ops Q (o :: rest) a w := by
  refine wpList_plain hg fun K' hK' => ?_
  unfold Oper.wp
  rcases h.next (P := P) o.type with ⟨hl, hrun⟩ | ⟨i, v, w', cnt', hrun, hv, hl, hrg, hlt, ho, hen⟩
  · simp [execOp, hop, hit, hrun, Result.andThen]
    exact hK' _ _ (hDone hl)
  · simp [execOp, hop, hit, hrun, Result.andThen]
    exact hK' _ _ (hMore i v w' cnt' hv hl hrg hlt ho hen)
end
theorem zero_int (w : World) : (zeroValue 3).run Try.prog w = .ok (.int .i64 0) w := by kernel_rfl
theorem zero_pos (w : World) : (zeroValue 55).run Try.prog w = .ok (.pointer none) w := by kernel_rfl

def ptr (b : Nat) : Value := .pointer (some ⟨b, 0, none⟩)
/-- the map tells where each number stands -/
def TabIs (m : TabF) (ps : List Nat) (vl : Nat → En) : Prop := ∀ i v, m i = some v ↔ ∃ b ∈ ps, (vl b).i = i ∧ v = ptr b
/-- no number twice -/
def Ids (ps : List Nat) (vl : Nat → En) : Prop := ∀ a ∈ ps, ∀ b ∈ ps, (vl a).i = (vl b).i → a = b
structure CaIn (w : World) (cb room mb eb : Nat) (ps : List Nat) (vl : Nat → En) (pv nx : Nat → Nat) (m : TabF) : Prop where
  blk : Blk w cb 60 #[.int .i64 (room : Int), .map (some mb), .pointer (some ⟨eb, 0, none⟩)]
  tab : Tab w mb m ps.length
  nodes : Nodes w (fun k => k = eb ∨ k ∈ ps) vl pv nx
  ring : RingOk eb ps nx pv
  is : TabIs m ps vl
  ids : Ids ps vl
/-- a cache's blocks -/
def CaS (cb mb eb : Nat) (ps : List Nat) (k : Nat) : Prop := k = cb ∨ k = mb ∨ k = eb ∨ k ∈ ps

theorem TabIs.out {m : TabF} {l1 l2 : List Nat} {p : Nat} {vl : Nat → En} (h : TabIs m (l1 ++ p :: l2) vl) (hi : Ids (l1 ++ p :: l2) vl) (hn : (l1 ++ p :: l2).Nodup) : TabIs (updT m (vl p).i none) (l1 ++ l2) vl := fun i v => by
  unfold updT
  have hnp : p ∉ l1 ++ l2 := by
    have := List.nodup_append.1 hn
    intro hm
    rcases List.mem_append.1 hm with hm | hm
    · exact this.2.2 p hm p (by simp) rfl
    · exact (List.nodup_cons.1 this.2.1).1 hm
  have mem : ∀ b, b ∈ l1 ++ p :: l2 ↔ b = p ∨ b ∈ l1 ++ l2 := fun b => by simp; constructor <;> (rintro (h | h | h) <;> simp [h])
  by_cases e : i = (vl p).i
  · rw [if_pos e]
    refine ⟨fun q => (by cases q), fun ⟨b, hb, h1, _⟩ => ?_⟩
    have : b = p := hi b ((mem b).2 (.inr hb)) p (by simp) (h1.trans e)
    exact absurd (this ▸ hb) hnp
  · rw [if_neg e, h i v]
    constructor
    · rintro ⟨b, hb, h1, h2⟩
      rcases (mem b).1 hb with rfl | hb
      · exact absurd h1.symm e
      · exact ⟨b, hb, h1, h2⟩
    · rintro ⟨b, hb, h1, h2⟩
      exact ⟨b, (mem b).2 (.inr hb), h1, h2⟩
theorem TabIs.front {m : TabF} {l1 l2 : List Nat} {p : Nat} {vl : Nat → En} (h : TabIs m (l1 ++ p :: l2) vl) : TabIs m (p :: (l1 ++ l2)) vl := fun i v => by
  rw [h i v]
  constructor <;> (rintro ⟨b, hb, h1⟩; exact ⟨b, by simp at hb ⊢; rcases hb with h | h | h <;> simp [h], h1⟩)
theorem TabIs.add {m : TabF} {ps : List Nat} {p : Nat} {vl vl' : Nat → En} (h : TabIs m ps vl) (hn : m (vl' p).i = none) (hk : ∀ b ∈ ps, vl' b = vl b) : TabIs (updT m (vl' p).i (some (ptr p))) (p :: ps) vl' := fun i v => by
  unfold updT
  by_cases e : i = (vl' p).i
  · rw [if_pos e]
    constructor
    · intro q
      injection q with q
      exact ⟨p, by simp, e.symm, q.symm⟩
    · rintro ⟨b, hb, h1, h2⟩
      rcases List.mem_cons.1 hb with rfl | hb
      · rw [h2]
      · rw [hk b hb] at h1
        have := (h i (ptr b)).2 ⟨b, hb, h1, rfl⟩
        rw [e, hn] at this
        cases this
  · rw [if_neg e, h i v]
    constructor
    · rintro ⟨b, hb, h1, h2⟩
      exact ⟨b, by simp [hb], by rw [hk b hb]; exact h1, h2⟩
    · rintro ⟨b, hb, h1, h2⟩
      rcases List.mem_cons.1 hb with rfl | hb
      · exact absurd h1.symm e
      · exact ⟨b, hb, by rw [← hk b hb]; exact h1, h2⟩
theorem TabIs.vals {m : TabF} {ps : List Nat} {vl vl' : Nat → En} (h : TabIs m ps vl) (hk : ∀ b ∈ ps, (vl' b).i = (vl b).i) : TabIs m ps vl' := fun i v => by
  rw [h i v]
  constructor <;> (rintro ⟨b, hb, h1, h2⟩; exact ⟨b, hb, by first | (rw [hk b hb]; exact h1) | (rw [← hk b hb]; exact h1), h2⟩)
theorem Ids.sub {ps qs : List Nat} {vl : Nat → En} (h : Ids ps vl) (hs : ∀ b ∈ qs, b ∈ ps) : Ids qs vl := fun a ha b hb e => h a (hs a ha) b (hs b hb) e
theorem Ids.vals {ps : List Nat} {vl vl' : Nat → En} (h : Ids ps vl) (hk : ∀ b ∈ ps, (vl' b).i = (vl b).i) : Ids ps vl' := fun a ha b hb e => h a ha b hb (by rw [← hk a ha, ← hk b hb]; exact e)

/-- a number is there, at a place, or it is not -/
theorem CaIn.look {w : World} {cb room mb eb : Nat} {ps : List Nat} {vl : Nat → En} {pv nx : Nat → Nat} {m : TabF} (h : CaIn w cb room mb eb ps vl pv nx m) (k : Int) :
    (m k = none ∧ (ps.map vl).length ≤ posE k (ps.map vl) ∧ ∀ b ∈ ps, (vl b).i ≠ k) ∨
    ∃ l1 p l2, ps = l1 ++ p :: l2 ∧ (vl p).i = k ∧ posE k (ps.map vl) = l1.length ∧ (ps.map vl)[posE k (ps.map vl)]? = some (vl p) ∧ outE (posE k (ps.map vl)) (ps.map vl) = (l1 ++ l2).map vl ∧ m k = some (ptr p) := by
  by_cases hp : posE k (ps.map vl) < (ps.map vl).length
  · refine .inr ?_
    have hlt : posE k (ps.map vl) < ps.length := by simpa using hp
    obtain ⟨x, hx, hk⟩ := posE_at hp
    obtain ⟨p, hp1⟩ : ∃ p, ps[posE k (ps.map vl)]? = some p := ⟨_, List.getElem?_eq_getElem hlt⟩
    rw [List.getElem?_map, hp1] at hx
    injection hx with hx
    obtain ⟨hh, e⟩ := List.getElem?_eq_some_iff.1 hp1
    have hsp : ps = ps.take (posE k (ps.map vl)) ++ p :: ps.drop (posE k (ps.map vl) + 1) := by
      conv => lhs; rw [← List.take_append_drop (posE k (ps.map vl)) ps, List.drop_eq_getElem_cons hh, e]
    refine ⟨ps.take (posE k (ps.map vl)), p, ps.drop (posE k (ps.map vl) + 1), hsp, hx ▸ hk, by rw [List.length_take]; omega, by rw [List.getElem?_map, hp1]; rfl, ?_, (h.is k (ptr p)).2 ⟨p, List.mem_of_getElem? hp1, hx ▸ hk, rfl⟩⟩
    unfold outE
    rw [List.map_append, List.map_take, List.map_drop]
  · refine .inl ⟨?_, Nat.le_of_not_lt hp, fun b hb e => ?_⟩
    · cases hm : m k with
      | none => rfl
      | some v =>
        obtain ⟨b, hb, h1, _⟩ := (h.is k v).1 hm
        obtain ⟨j, hj⟩ := List.mem_iff_getElem?.1 hb
        exact absurd h1 (posE_front (l := ps.map vl) (j := j) (x := vl b) (by have := (List.getElem?_eq_some_iff.1 hj).1; simp at hp; omega) (by rw [List.getElem?_map, hj]; rfl))
    · obtain ⟨j, hj⟩ := List.mem_iff_getElem?.1 hb
      exact absurd e (posE_front (l := ps.map vl) (j := j) (x := vl b) (by have := (List.getElem?_eq_some_iff.1 hj).1; simp at hp; omega) (by rw [List.getElem?_map, hj]; rfl))
section
variable {w w' : World} {cb room mb eb : Nat} {ps : List Nat} {vl : Nat → En} {pv nx : Nat → Nat} {m : TabF}
theorem CaIn.keep (h : CaIn w cb room mb eb ps vl pv nx m) (hk : ∀ k, CaS cb mb eb ps k → w'.heap[k]? = w.heap[k]?) : CaIn w' cb room mb eb ps vl pv nx m :=
  ⟨(hk cb (.inl rfl)).trans h.blk, h.tab.of_block (hk mb (.inr (.inl rfl))), h.nodes.keep fun c hc => hk c (.inr (.inr hc)), h.ring, h.is, h.ids⟩
theorem CaIn.lt (h : CaIn w cb room mb eb ps vl pv nx m) {k : Nat} (hk : CaS cb mb eb ps k) : k < w.heap.size := by
  rcases hk with rfl | rfl | hk
  · exact h.blk.lt
  · exact h.tab.lt
  · exact (h.nodes.at_ k hk).lt
theorem CaIn.step (h : CaIn w cb room mb eb ps vl pv nx m) (hb : Below w.heap.size w w') : CaIn w' cb room mb eb ps vl pv nx m := h.keep fun k hk => hb.block k (h.lt hk)
theorem CaIn.apart (h : CaIn w cb room mb eb ps vl pv nx m) : mb ≠ cb ∧ (∀ k, k = eb ∨ k ∈ ps → k ≠ cb ∧ k ≠ mb) :=
  ⟨h.tab.ne_blk h.blk, fun k hk => ⟨(h.nodes.at_ k hk).ne h.blk (by decide), fun e => h.tab.ne_blk (h.nodes.at_ k hk) e.symm⟩⟩
end

end Go.Proofs.Ytdhjjjagjkencaa
