/-
  The landed disk in memory.
-/
import Derived.Test.YtlemoaigcakmcaaTab
import Derived.Test.YtlemoaigcakmcaaDFace
import Derived.Test.YtlemoaigcakmcaaRegion
import Derived.Maps.AppendAt
namespace Go.Proofs.Ytlemoaigcakmcaa
open Go Go.RowKit

/-! ### plain -/
theorem cnt_congr {n : Nat} {m m' : Secs} (h : ∀ i : Nat, i < n → (m (i : Int)).isSome = (m' (i : Int)).isSome) : cnt n m = cnt n m' := by
  unfold cnt
  refine List.countP_congr fun x hx => ?_
  rw [h x (List.mem_range.1 hx)]
theorem cnt_succ (n : Nat) (m : Secs) : cnt (n + 1) m = cnt n m + (if (m (n : Int)).isSome then 1 else 0) := by
  unfold cnt
  rw [List.range_succ, List.countP_append]
  simp [List.countP_cons]
theorem cnt_le (n : Nat) (m : Secs) : cnt n m ≤ n := by
  unfold cnt
  exact Nat.le_trans List.countP_le_length (by simp)
theorem cnt_upd : ∀ {n : Nat} {m : Secs} {i : Int} (v : Option (List UInt8)), 0 ≤ i → i < (n : Int) → cnt n (upd m i v) + (if (m i).isSome then 1 else 0) = cnt n m + (if v.isSome then 1 else 0)
  | 0, _, _, _, h0, h1 => by omega
  | n + 1, m, i, v, h0, h1 => by
    rw [cnt_succ, cnt_succ]
    by_cases hi : i = (n : Int)
    · subst hi
      have e : cnt n (upd m (n : Int) v) = cnt n m := cnt_congr fun j hj => by rw [upd_other _ _ (by omega)]
      rw [e, upd_same]
      omega
    · have ih := cnt_upd (n := n) (m := m) (i := i) v h0 (by omega)
      rw [upd_other _ _ (fun e => hi e.symm)]
      omega

abbrev Chg := Int → Option (Option (List UInt8))
def updC (c : Chg) (i : Int) (v : Option (List UInt8)) : Chg := fun j => if j = i then some v else c j
def over (c : Chg) (g : Secs) : Secs := fun i => match c i with
  | some s => s
  | none => g i
theorem over_upd (c : Chg) (g : Secs) (i : Int) (v : Option (List UInt8)) : over (updC c i v) g = upd (over c g) i v := by
  funext j
  unfold over updC upd
  by_cases h : j = i
  · rw [if_pos h, if_pos h]
  · rw [if_neg h, if_neg h]
theorem over_nil (g : Secs) : over (fun _ => none) g = g := rfl
/-- what holds of the plain disk -/
structure DPl (s : Dk) (ch : Chg) : Prop where
  view : s.view = over ch s.ground
  sz1 : 1 ≤ s.size
  sz2 : s.size ≤ 65536
  inG : ∀ i, s.ground i ≠ none → 0 ≤ i ∧ i < (s.size : Int)
  inC : ∀ i, ch i ≠ none → 0 ≤ i ∧ i < (s.size : Int)
  inP : ∀ o ∈ s.pend, 0 ≤ o.i ∧ o.i < (s.size : Int)
  lenG : ∀ i b, s.ground i = some b → b.length ≤ 512
  lenC : ∀ i b, ch i = some (some b) → b.length ≤ 512
  lenP : ∀ o ∈ s.pend, ∀ b, o.b = some b → b.length ≤ 512
theorem DPl.inV {s : Dk} {ch : Chg} (h : DPl s ch) (i : Int) (hi : s.view i ≠ none) : 0 ≤ i ∧ i < (s.size : Int) := by
  rw [h.view] at hi
  unfold over at hi
  cases hc : ch i with
  | none => rw [hc] at hi; exact h.inG i hi
  | some v => exact h.inC i (by rw [hc]; simp)
theorem DPl.lenV {s : Dk} {ch : Chg} (h : DPl s ch) (i : Int) (b : List UInt8) (hi : s.view i = some b) : b.length ≤ 512 := by
  rw [h.view] at hi
  unfold over at hi
  cases hc : ch i with
  | none => rw [hc] at hi; exact h.lenG i b hi
  | some v => rw [hc] at hi; exact h.lenC i b (by rw [hc]; rw [show v = some b from hi])
/-- an operation is laid -/
theorem DPl.lay {s : Dk} {ch : Chg} (h : DPl s ch) {i : Int} (h0 : 0 ≤ i) (h1 : i < (s.size : Int)) (v : Option (List UInt8)) (hv : ∀ b, v = some b → b.length ≤ 512) : DPl { s with view := upd s.view i v, pend := s.pend ++ [⟨i, v⟩] } (updC ch i v) :=
  ⟨by show upd s.view i v = over (updC ch i v) s.ground; rw [over_upd, h.view], h.sz1, h.sz2, h.inG, fun j hj => by
    unfold updC at hj
    by_cases e : j = i
    · subst e; exact ⟨h0, h1⟩
    · rw [if_neg e] at hj; exact h.inC j hj, fun o ho => (List.mem_append.1 ho).elim (h.inP o) (fun ho => by rw [List.mem_singleton.1 ho]; exact ⟨h0, h1⟩), h.lenG, fun j b hj => by
    unfold updC at hj
    by_cases e : j = i
    · rw [if_pos e] at hj; injection hj with hj; exact hv b hj
    · rw [if_neg e] at hj; exact h.lenC j b hj, fun o ho => (List.mem_append.1 ho).elim (h.lenP o) (fun ho => by rw [List.mem_singleton.1 ho]; exact hv)⟩
theorem DPl.settled {s : Dk} {ch : Chg} (h : DPl s ch) {g : Secs} (hg : ∀ i, g i ≠ none → 0 ≤ i ∧ i < (s.size : Int)) (hl : ∀ i b, g i = some b → b.length ≤ 512) : DPl { s with view := g, ground := g, pend := [] } (fun _ => none) :=
  ⟨rfl, h.sz1, h.sz2, hg, fun _ hi => absurd rfl hi, fun _ ho => by simp at ho, hl, fun _ _ hi => by simp at hi, fun _ ho => by simp at ho⟩
theorem DPl.lim {s : Dk} {ch : Chg} (h : DPl s ch) (n : Int) : DPl (s.lim n) ch := ⟨h.view, h.sz1, h.sz2, h.inG, h.inC, h.inP, h.lenG, h.lenC, h.lenP⟩
theorem new_pl {n : Nat} (h1 : 1 ≤ n) (h2 : n ≤ 65536) : DPl (Dk.new n) (fun _ => none) := ⟨rfl, h1, h2, fun _ h => absurd rfl h, fun _ h => absurd rfl h, fun _ ho => by simp [Dk.new] at ho, fun _ _ hi => by simp [Dk.new] at hi, fun _ _ hi => by simp at hi, fun _ ho => by simp [Dk.new] at ho⟩

/-! ### in memory -/
/-- a sector's state as a value -/
def stV (s : Option (List UInt8)) : Value := .agg #[.bool s.isSome, .string (bst (s.getD []))]
def gT (g : Secs) : TabF := fun i => (g i).map fun b => stV (some b)
def cT (c : Chg) : TabF := fun i => (c i).map stV
theorem gT_upd (g : Secs) (i : Int) (b : List UInt8) : updT (gT g) i (some (stV (some b))) = gT (upd g i (some b)) := by
  funext j; unfold updT gT upd; by_cases h : j = i
  · rw [if_pos h, if_pos h]; rfl
  · rw [if_neg h, if_neg h]
theorem gT_del (g : Secs) (i : Int) : updT (gT g) i none = gT (upd g i none) := by
  funext j; unfold updT gT upd; by_cases h : j = i
  · rw [if_pos h, if_pos h]; rfl
  · rw [if_neg h, if_neg h]
theorem cT_upd (c : Chg) (i : Int) (v : Option (List UInt8)) : updT (cT c) i (some (stV v)) = cT (updC c i v) := by
  funext j; unfold updT cT updC; by_cases h : j = i
  · rw [if_pos h, if_pos h]; rfl
  · rw [if_neg h, if_neg h]
theorem gT_some (g : Secs) (i : Int) : (gT g i).isSome = (g i).isSome := by unfold gT; cases g i <;> rfl
/-- how many entries the ground has behind a store, behind a delete -/
theorem ground_put {n : Nat} {g : Secs} {i : Int} (h0 : 0 ≤ i) (h1 : i < (n : Int)) (b : List UInt8) : (if (gT g i).isSome then cnt n g else cnt n g + 1) = cnt n (upd g i (some b)) := by
  have := cnt_upd (n := n) (m := g) (some b) h0 h1
  rw [gT_some]
  cases hg : (g i).isSome <;> rw [hg] at this <;> simp at this ⊢ <;> omega
theorem ground_del {n : Nat} {g : Secs} {i : Int} (h0 : 0 ≤ i) (h1 : i < (n : Int)) : (if (gT g i).isSome then cnt n g - 1 else cnt n g) = cnt n (upd g i none) := by
  have := cnt_upd (n := n) (m := g) none h0 h1
  rw [gT_some]
  cases hg : (g i).isSome <;> rw [hg] at this <;> simp at this ⊢ <;> omega

/-- a closure that is pending: its boxes are among R -/
def OpV (w : World) (R : Nat → Prop) (o : POp) (f : Value) : Prop :=
  ∃ bi, R bi ∧ Blk w bi 3 #[.int .i64 o.i] ∧ match o.b with
    | some b => ∃ bb, R bb ∧ Blk w bb 9 #[.string (bst b)] ∧ f = .func (.func 26) #[] #[.pointer (some ⟨bb, 0, none⟩), .pointer (some ⟨bi, 0, none⟩)]
    | none => f = .func (.func 28) #[] #[.pointer (some ⟨bi, 0, none⟩)]
theorem OpV.keep {w w' : World} {R : Nat → Prop} {o : POp} {f : Value} (h : OpV w R o f) (hk : ∀ k, R k → w'.heap[k]? = w.heap[k]?) : OpV w' R o f := by
  obtain ⟨bi, hr, hb, hm⟩ := h
  refine ⟨bi, hr, (hk bi hr).trans hb, ?_⟩
  cases hob : o.b with
  | none => rw [hob] at hm; exact hm
  | some b =>
    rw [hob] at hm
    obtain ⟨bb, hr2, hb2, e⟩ := hm
    exact ⟨bb, hr2, (hk bb hr2).trans hb2, e⟩
theorem OpV.more {w : World} {R R' : Nat → Prop} {o : POp} {f : Value} (h : OpV w R o f) (hr : ∀ k, R k → R' k) : OpV w R' o f := by
  obtain ⟨bi, h1, hb, hm⟩ := h
  refine ⟨bi, hr _ h1, hb, ?_⟩
  cases hob : o.b with
  | none => rw [hob] at hm; exact hm
  | some b =>
    rw [hob] at hm
    obtain ⟨bb, h2, hb2, e⟩ := hm
    exact ⟨bb, hr _ h2, hb2, e⟩
theorem OpV.one {w : World} {R : Nat → Prop} {o : POp} {f : Value} (h : OpV w R o f) : f.oneCell' = true := by
  obtain ⟨bi, _, _, hm⟩ := h
  cases hob : o.b with
  | none => rw [hob] at hm; rw [hm]; rfl
  | some b =>
    rw [hob] at hm
    obtain ⟨bb, _, _, e⟩ := hm
    rw [e]; rfl
/-- the closures of what is pending, in order -/
structure Ops (w : World) (R : Nat → Prop) (os : List POp) (fs : List Value) : Prop where
  len : fs.length = os.length
  at_ : ∀ (k : Nat) (o : POp) (f : Value), os[k]? = some o → fs[k]? = some f → OpV w R o f
theorem Ops.keep {w w' : World} {R : Nat → Prop} {os : List POp} {fs : List Value} (h : Ops w R os fs) (hk : ∀ k, R k → w'.heap[k]? = w.heap[k]?) : Ops w' R os fs := ⟨h.len, fun k o f h1 h2 => (h.at_ k o f h1 h2).keep hk⟩
theorem Ops.nil (w : World) (R : Nat → Prop) : Ops w R [] [] := ⟨rfl, fun k o f h => by simp at h⟩
theorem Ops.snoc {w w' : World} {R R' : Nat → Prop} {os : List POp} {fs : List Value} {o : POp} {f : Value} (h : Ops w R os fs) (hk : ∀ k, R k → w'.heap[k]? = w.heap[k]?) (hr : ∀ k, R k → R' k) (hf : OpV w' R' o f) : Ops w' R' (os ++ [o]) (fs ++ [f]) := by
  refine ⟨by simp [h.len], fun k p q h1 h2 => ?_⟩
  by_cases hkl : k < os.length
  · rw [List.getElem?_append_left hkl] at h1
    rw [List.getElem?_append_left (by rw [h.len]; exact hkl)] at h2
    exact ((h.at_ k p q h1 h2).keep hk).more hr
  · rw [List.getElem?_append_right (by omega)] at h1
    rw [List.getElem?_append_right (by rw [h.len]; omega), h.len] at h2
    obtain ⟨h3, h4⟩ := List.getElem?_eq_some_iff.1 h1
    have : k - os.length = 0 := by simp at h3; omega
    rw [this] at h1 h2
    simp at h1 h2
    subst h1 h2
    exact hf

/-- a row of closures: its block is among M -/
structure PRow (w : World) (M : Nat → Prop) (A : Option Addr) (n c : Nat) (fs : List Value) : Prop where
  len : n = fs.length
  own : w.ownsRow 0 60 1 (.slice A n c) n fs
  mine : ∀ g, (Value.slice A n c).ownBlock = some g → M g
theorem PRow.keep {w w' : World} {M : Nat → Prop} {A : Option Addr} {n c : Nat} {fs : List Value} (h : PRow w M A n c fs) (hk : ∀ k, M k → w'.heap[k]? = w.heap[k]?) : PRow w' M A n c fs := by
  refine ⟨h.len, ⟨h.own.1, ?_⟩, h.mine⟩
  rcases h.own.2 with h0 | ⟨g, cap, cur, hv, hg, hc, r⟩
  · exact .inl h0
  · exact .inr ⟨g, cap, cur, hv, hg, (hk g (h.mine g (by rw [hv]; rfl))).trans hc, r⟩
theorem PRow.more {w : World} {M M' : Nat → Prop} {A : Option Addr} {n c : Nat} {fs : List Value} (h : PRow w M A n c fs) (hm : ∀ k, M k → M' k) : PRow w M' A n c fs := ⟨h.len, h.own, fun g hg => hm g (h.mine g hg)⟩
theorem PRow.nil (w : World) (M : Nat → Prop) : PRow w M none 0 0 [] := ⟨rfl, World.ownsRow_nil _ _ _ _, fun g h => by cases h⟩
theorem PRow.get {w : World} {M : Nat → Prop} {A : Option Addr} {n c k : Nat} {fs : List Value} (h : PRow w M A n c fs) (hk : k < n) : ∃ g f, A = some ⟨g, 0, none⟩ ∧ M g ∧ fs[k]? = some f ∧ w.cell? ⟨g, k, none⟩ = some f := by
  rcases h.own.2 with ⟨_, h0⟩ | ⟨g, cap, cur, hv, _, hg, _⟩
  · omega
  · have hA : A = some ⟨g, 0, none⟩ := by injection hv
    have hf : fs[k]? = some (fs[k]'(by have := h.len; omega)) := List.getElem?_eq_getElem _
    refine ⟨g, _, hA, h.mine g (by rw [hv]; rfl), hf, ?_⟩
    have e1 := h.own.cells (g := g) (by rw [hA]; rfl) _ _ hf
    have ea : (⟨g, 0, none⟩ : Addr).add k = ⟨g, 0 + k, none⟩ := by unfold Addr.add; split <;> simp_all
    rw [ea, Nat.zero_add] at e1
    exact e1

/-- the disk at block d: its ground in block g, what has changed in block c, what is pending in a row -/
structure DIn (w : World) (d g c : Nat) (A : Option Addr) (n cap : Nat) (ch : Chg) (nc : Nat) (fs : List Value) (M R : Nat → Prop) (s : Dk) : Prop where
  blk : Blk w d 51 #[.int .i64 (s.size : Int), .int .i64 s.limit, .int .i64 (s.used : Int), .map (some g), .map (some c), .slice A n cap]
  gt : Tab w g (gT s.ground) (cnt s.size s.ground)
  ct : Tab w c (cT ch) nc
  row : PRow w M A n cap fs
  ops : Ops w R s.pend fs
  md : M d
  mg : M g
  mc : M c
  gc : g ≠ c
  lt : ∀ k, M k ∨ R k → k < w.heap.size
  mr : ∀ k, M k → ¬ R k
  pl : DPl s ch
def DA6 (w : World) (d : Nat) (M R : Nat → Prop) (s : Dk) : Prop := ∃ g c A n cap ch nc fs, DIn w d g c A n cap ch nc fs M R s
theorem DIn.keep {w w' : World} {d g c n cap nc : Nat} {A : Option Addr} {ch : Chg} {fs : List Value} {M R : Nat → Prop} {s : Dk} (h : DIn w d g c A n cap ch nc fs M R s) (hs : w.heap.size ≤ w'.heap.size) (hk : ∀ k, M k ∨ R k → w'.heap[k]? = w.heap[k]?) : DIn w' d g c A n cap ch nc fs M R s :=
  ⟨(hk d (.inl h.md)).trans h.blk, h.gt.of_block (hk g (.inl h.mg)), h.ct.of_block (hk c (.inl h.mc)), h.row.keep (fun k hm => hk k (.inl hm)), h.ops.keep (fun k hr => hk k (.inr hr)), h.md, h.mg, h.mc, h.gc, fun k hm => Nat.lt_of_lt_of_le (h.lt k hm) hs, h.mr, h.pl⟩
theorem DIn.below {w w' : World} {d g c n cap nc : Nat} {A : Option Addr} {ch : Chg} {fs : List Value} {M R : Nat → Prop} {s : Dk} (h : DIn w d g c A n cap ch nc fs M R s) (hb : Below w.heap.size w w') : DIn w' d g c A n cap ch nc fs M R s :=
  h.keep hb.size fun k hk => hb.block k (h.lt k hk)

/-- a disk's cells -/
theorem six {w : World} {b : Nat} {t : TypeId} {a0 a1 a2 a3 a4 a5 : Value} (h : Blk w b t #[a0, a1, a2, a3, a4, a5]) :
    w.cell? ⟨b, 0, none⟩ = some a0 ∧ w.cell? ⟨b, 1, none⟩ = some a1 ∧ w.cell? ⟨b, 2, none⟩ = some a2 ∧ w.cell? ⟨b, 3, none⟩ = some a3 ∧ w.cell? ⟨b, 4, none⟩ = some a4 ∧ w.cell? ⟨b, 5, none⟩ = some a5 ∧
      w.frozen? ⟨b, 1, none⟩ = false ∧ w.frozen? ⟨b, 2, none⟩ = false ∧ w.frozen? ⟨b, 4, none⟩ = false ∧ w.frozen? ⟨b, 5, none⟩ = false :=
  ⟨h.cell 0, h.cell 1, h.cell 2, h.cell 3, h.cell 4, h.cell 5, h.free 1, h.free 2, h.free 4, h.free 5⟩

/-- the world has turned in M and in new blocks alone -/
structure Within (M : Nat → Prop) (w w' : World) : Prop where
  os : w'.os = w.os
  tape : w'.tape = w.tape
  output : w'.output = w.output
  size : w.heap.size ≤ w'.heap.size
  block : ∀ k, k < w.heap.size → ¬ M k → w'.heap[k]? = w.heap[k]?
theorem Within.of_only {M : Nat → Prop} {w w' : World} {r : Nat} (h : Only r w w') (hr : M r ∨ w.heap.size ≤ r) : Within M w w' := ⟨h.os, h.tape, h.output, h.size, fun k hk hm => h.block k hk (fun e => by
  injection e with e; subst e; exact hr.elim hm (fun h => by omega))⟩
theorem Within.of_below {M : Nat → Prop} {w w' : World} (h : Below w.heap.size w w') : Within M w w' := ⟨h.os, h.tape, h.output, h.size, fun k hk _ => h.block k hk⟩
theorem Within.refl (M : Nat → Prop) (w : World) : Within M w w := ⟨rfl, rfl, rfl, Nat.le_refl _, fun _ _ _ => rfl⟩
theorem Within.trans {M : Nat → Prop} {a b c : World} (h : Within M a b) (k : Within M b c) : Within M a c :=
  ⟨k.os.trans h.os, k.tape.trans h.tape, k.output.trans h.output, Nat.le_trans h.size k.size, fun i hi hm => (k.block i (Nat.lt_of_lt_of_le hi h.size) hm).trans (h.block i hi hm)⟩
theorem Within.only {M : Nat → Prop} {a b c : World} {r : Nat} (h : Within M a b) (k : Only r b c) (hr : M r ∨ a.heap.size ≤ r) : Within M a c :=
  ⟨k.os.trans h.os, k.tape.trans h.tape, k.output.trans h.output, Nat.le_trans h.size k.size, fun i hi hm => (k.block i (Nat.lt_of_lt_of_le hi h.size) (fun e => by
    injection e with e; subst e; exact hr.elim hm (fun h => by omega))).trans (h.block i hi hm)⟩
theorem Within.turns {M R M' R' : Nat → Prop} {w w' : World} (h : Within M w w') (ho : ∀ k, M' k → M k ∨ w.heap.size ≤ k) (hr : ∀ k, R' k → R k ∨ w.heap.size ≤ k) : Turns M R w M' R' w' := ⟨h.os, h.tape, h.output, h.size, h.block, ho, hr⟩

/-! ### maps at the operations -/
section
variable {P : Program} (w : World) {ops : Array Oper} {rest : List Oper} {o : Oper} {a : Act} {Q : Exit → Act → World → Prop}
theorem wpList_lookOk (hg : o.guard = none) (m x : Operand) (t : TypeId) (hop : o.op = Op.lookup t m x true) (k e : TypeId) (ht : P.underlying t = some (.map k e)) (hk : P.underlying k = some (.int .i64)) {z : Value} (hz : (zeroValue e).run P w = .ok z w)
    {b n : Nat} {T : TabF} (hm : a.eval m = .map (some b)) (h : Tab w b T n) (i : Int) (hx : a.eval x = .int .i64 i) {v : Value} {q : Bool} (hv : (T i).getD z = v) (hq : (T i).isSome = q)
    (hK : wpList P ops Q rest (a.put o.dst (.tuple #[v, .bool q])) w) : wpList P ops Q (o :: rest) a w := by
  refine wpList_plain hg fun K' hK' => ?_
  have hrun := h.look ht hk hz i true
  rw [hv, hq] at hrun
  unfold Oper.wp
  simp [execOp, hop, hm, hx, hrun, Result.andThen]
  exact hK' _ _ hK
theorem wpList_look (hg : o.guard = none) (m x : Operand) (t : TypeId) (hop : o.op = Op.lookup t m x false) (k e : TypeId) (ht : P.underlying t = some (.map k e)) (hk : P.underlying k = some (.int .i64)) {z : Value} (hz : (zeroValue e).run P w = .ok z w)
    {b n : Nat} {T : TabF} (hm : a.eval m = .map (some b)) (h : Tab w b T n) (i : Int) (hx : a.eval x = .int .i64 i) {v : Value} (hv : (T i).getD z = v)
    (hK : wpList P ops Q rest (a.put o.dst v) w) : wpList P ops Q (o :: rest) a w := by
  refine wpList_plain hg fun K' hK' => ?_
  have hrun := h.look ht hk hz i false
  rw [hv] at hrun
  unfold Oper.wp
  simp [execOp, hop, hm, hx, hrun, Result.andThen]
  exact hK' _ _ hK
theorem wpList_put (hg : o.guard = none) (m x y : Operand) (t : TypeId) (hop : o.op = Op.mapUpdate t m x y) (k e : TypeId) (ht : P.underlying t = some (.map k e)) (hk : P.underlying k = some (.int .i64))
    {b n : Nat} {T : TabF} (hm : a.eval m = .map (some b)) (h : Tab w b T n) (i : Int) (hx : a.eval x = .int .i64 i) (v : Value) (hy : a.eval y = v)
    (hK : ∀ w', Tab w' b (updT T i (some v)) (if (T i).isSome then n else n + 1) → Only b w w' → w'.heap.size = w.heap.size → wpList P ops Q rest (a.put o.dst undef) w') : wpList P ops Q (o :: rest) a w := by
  refine wpList_plain hg fun K' hK' => ?_
  obtain ⟨w', hrun, h1, h2, h3⟩ := h.store ht hk i v
  unfold Oper.wp
  simp [execOp, hop, hm, hx, hy, hrun, Result.andThen]
  exact hK' _ _ (hK w' h1 h2 h3)
theorem wpList_drop (hg : o.guard = none) (m x : Operand) (t k : TypeId) (hop : o.op = Op.call { callee := Callee.builtin Builtin.delete, args := #[m, x], argTypes := #[t, k] }) (e : TypeId) (ht : P.underlying t = some (.map k e)) (hk : P.underlying k = some (.int .i64))
    {b n : Nat} {T : TabF} (hm : a.eval m = .map (some b)) (h : Tab w b T n) (i : Int) (hx : a.eval x = .int .i64 i)
    (hK : ∀ w', Tab w' b (updT T i none) (if (T i).isSome then n - 1 else n) → Only b w w' → w'.heap.size = w.heap.size → wpList P ops Q rest (a.put o.dst (.tuple #[])) w') : wpList P ops Q (o :: rest) a w := by
  refine wpList_plain hg fun K' hK' => ?_
  obtain ⟨w', hrun, h1, h2, h3⟩ := h.drop ht hk i o.type
  unfold Oper.wp
  simp [execOp, hop, resolve, invoke, builtin, hm, hx, hrun, Result.andThen]
  exact hK' _ _ (hK w' h1 h2 h3)
theorem wpList_lenT (hg : o.guard = none) (m : Operand) (t : TypeId) (hop : o.op = Op.call { callee := Callee.builtin Builtin.len, args := #[m], argTypes := #[t] }) (k e : TypeId) (ht : P.underlying t = some (.map k e))
    {b n : Nat} {T : TabF} (hm : a.eval m = .map (some b)) (h : Tab w b T n)
    (hK : wpList P ops Q rest (a.put o.dst (.int .i64 (n : Int))) w) : wpList P ops Q (o :: rest) a w := by
  refine wpList_plain hg fun K' hK' => ?_
  unfold Oper.wp
  simp [execOp, hop, resolve, invoke, builtin, hm, h.len ht o.type, Result.andThen]
  exact hK' _ _ hK
theorem wpList_rangeT (hg : o.guard = none) (m : Operand) (t : TypeId) (hop : o.op = Op.range t m) (k e : TypeId) (ht : P.underlying t = some (.map k e)) {b n : Nat} {T : TabF} (hm : a.eval m = .map (some b)) (h : Tab w b T n)
    (hK : ∀ w', Ranging w' b w.heap.size T n (fun i => (T i).isSome) n → Below w.heap.size w w' → wpList P ops Q rest (a.put o.dst (.pointer (some ⟨w.heap.size, 0, none⟩))) w') : wpList P ops Q (o :: rest) a w := by
  refine wpList_plain hg fun K' hK' => ?_
  obtain ⟨w', hrun, r1, r2⟩ := h.range ht
  unfold Oper.wp
  simp [execOp, hop, hm, hrun, Result.andThen]
  exact hK' _ _ (hK w' r1 r2)
theorem wpList_nextT (hg : o.guard = none) (it : Operand) (hop : o.op = Op.next it false) {b r n cnt : Nat} {T : TabF} {left : Int → Bool} (hit : a.eval it = .pointer (some ⟨r, 0, none⟩)) (h : Ranging w b r T n left cnt)
    (hDone : (∀ i, left i = false) → wpList P ops Q rest (a.put o.dst (.tuple #[.bool false])) w)
    (hMore : ∀ (i : Int) (v : Value) (w' : World) (cnt' : Nat), T i = some v → left i = true → Ranging w' b r T n (fun j => left j && !decide (j = i)) cnt' → cnt' < cnt → Only r w w' →
      (Instr.entry (.pointer (some ⟨r, 0, none⟩))).run P w' = .ok (.tuple #[.int .i64 i, v]) w' → wpList P ops Q rest (a.put o.dst (.tuple #[.bool true, .int .i64 i, v])) w') : wpList P ops Q (o :: rest) a w := by
  refine wpList_plain hg fun K' hK' => ?_
  unfold Oper.wp
  rcases h.next (P := P) o.type with ⟨hl, hrun⟩ | ⟨i, v, w', cnt', hrun, hv, hl, hrg, hlt, ho, hen⟩
  · simp [execOp, hop, hit, hrun, Result.andThen]
    exact hK' _ _ (hDone hl)
  · simp [execOp, hop, hit, hrun, Result.andThen]
    exact hK' _ _ (hMore i v w' cnt' hv hl hrg hlt ho hen)
end
theorem zero_state (w : World) : (zeroValue 55).run Try.prog w = .ok (stV none) w := by kernel_rfl
theorem zero_int (w : World) : (zeroValue 3).run Try.prog w = .ok (.int .i64 0) w := by kernel_rfl

end Go.Proofs.Ytlemoaigcakmcaa
