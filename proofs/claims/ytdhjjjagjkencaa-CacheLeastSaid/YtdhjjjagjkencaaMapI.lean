/-
  Maps keyed by integers, as plain functions: what a look-up, a store, a delete, a length, a copy and a range make of them.
-/
import Derived.Test.YtdhjjjagjkencaaBlock
import Derived.MapKept
import Derived.Maps.RangeWalk
import Derived.Shelf.SlMaps.Clone
namespace Go.Proofs.Ytdhjjjagjkencaa
open Go Go.RowKit Go.MapKept
open Go.ChangeMaps (setBlock)

abbrev TabF := Int → Option Value
def updT (m : TabF) (i : Int) (v : Option Value) : TabF := fun j => if j = i then v else m j
/-- entries that read as m -/
structure Reads (es : Array MapEntry) (clock : Nat) (m : TabF) : Prop where
  st : Stamped es clock
  keys : ∀ x ∈ es.toList, IsKey (.int .i64) x.key
  at_ : ∀ i v, m i = some v ↔ ∃ x ∈ es.toList, x.key = .int .i64 i ∧ x.val = v
/-- block b is a map of n entries that reads as m -/
structure Tab (w : World) (b : Nat) (m : TabF) (n : Nat) : Prop where
  out : ∃ es clock, w.heap[b]? = some (.map es clock) ∧ Reads es clock m ∧ es.size = n

theorem Reads.one {es : Array MapEntry} {clock : Nat} {m : TabF} (h : Reads es clock m) {x y : MapEntry} (hx : x ∈ es.toList) (hy : y ∈ es.toList) (e : x.key = y.key) : x = y :=
  entry_eq_of_key ((stamped_iff es clock).1 h.st).2.2 hx hy e
theorem Reads.at_key {es : Array MapEntry} {clock : Nat} {m : TabF} (h : Reads es clock m) {x : MapEntry} (hx : x ∈ es.toList) {i : Int} (e : x.key = .int .i64 i) : m i = some x.val := (h.at_ i _).2 ⟨x, hx, e, rfl⟩
theorem Reads.key_int {es : Array MapEntry} {clock : Nat} {m : TabF} (h : Reads es clock m) {x : MapEntry} (hx : x ∈ es.toList) : ∃ i, x.key = .int .i64 i := by
  have := h.keys x hx
  cases hk : x.key <;> rw [hk] at this <;> simp [IsKey] at this
  subst this
  exact ⟨_, rfl⟩
/-- what the search finds -/
theorem Reads.find {es : Array MapEntry} {clock : Nat} {m : TabF} (h : Reads es clock m) (i : Int) :
    (Instr.findNow (.int .i64) (.int .i64 i) es.toList 0 = some none ∧ m i = none ∧ ∀ x ∈ es.toList, x.key ≠ .int .i64 i) ∨
    ∃ j e, Instr.findNow (.int .i64) (.int .i64 i) es.toList 0 = some (some (j, e.val)) ∧ es[j]? = some e ∧ e ∈ es.toList ∧ e.key = .int .i64 i ∧ m i = some e.val := by
  rcases findNow_spec (d := .int .i64) (k := .int .i64 i) (by simp [IsKey]) es.toList 0 h.keys with ⟨h1, h2⟩ | ⟨j, e, h1, h2, h3⟩
  · refine .inl ⟨h1, ?_, h2⟩
    cases hm : m i with
    | none => rfl
    | some v =>
      obtain ⟨x, hx, hk, _⟩ := (h.at_ i v).1 hm
      exact absurd hk (h2 x hx)
  · rw [Nat.zero_add] at h1
    have hm : e ∈ es.toList := List.mem_of_getElem? h2
    exact .inr ⟨j, e, h1, by simpa using h2, hm, h3, h.at_key hm h3⟩

theorem Reads.empty (clock : Nat) : Reads #[] clock (fun _ => none) := ⟨stamped_empty clock, by simp, fun i v => by simp⟩
theorem Reads.push {es : Array MapEntry} {clock : Nat} {m : TabF} (h : Reads es clock m) {i : Int} (hn : ∀ x ∈ es.toList, x.key ≠ .int .i64 i) (v : Value) :
    Reads (es.push { key := .int .i64 i, val := v, born := clock }) (clock + 1) (updT m i (some v)) := by
  refine ⟨stamped_push h.st hn, ?_, fun j u => ?_⟩
  · intro x hx
    simp only [Array.toList_push, List.mem_append, List.mem_singleton] at hx
    rcases hx with hx | rfl
    · exact h.keys x hx
    · simp [IsKey]
  · simp only [Array.toList_push, List.mem_append, List.mem_singleton]
    unfold updT
    by_cases hj : j = i
    · subst hj
      rw [if_pos rfl]
      constructor
      · intro e
        injection e with e
        exact ⟨_, .inr rfl, rfl, e⟩
      · rintro ⟨x, hx | rfl, hk, hv⟩
        · exact absurd hk (hn x hx)
        · rw [← hv]
    · rw [if_neg hj, h.at_]
      constructor
      · rintro ⟨x, hx, hk, hv⟩
        exact ⟨x, .inl hx, hk, hv⟩
      · rintro ⟨x, hx | rfl, hk, hv⟩
        · exact ⟨x, hx, hk, hv⟩
        · injection hk with _ hk
          exact absurd hk.symm hj
theorem Reads.modify {es : Array MapEntry} {clock : Nat} {m : TabF} (h : Reads es clock m) {i : Int} {j : Nat} {e : MapEntry} (hj : es[j]? = some e) (he : e.key = .int .i64 i) (v : Value) :
    Reads (es.modify j fun e => { e with key := .int .i64 i, val := v }) clock (updT m i (some v)) := by
  have hkey : ∀ e', es[j]? = some e' → ({ e' with key := .int .i64 i, val := v } : MapEntry).key = e'.key := fun e' he' => by rw [hj] at he'; cases he'; exact he.symm
  have hme : e ∈ es.toList := Array.mem_toList_iff.2 (Array.mem_of_getElem? hj)
  have hlt : j < es.size := (Array.getElem?_eq_some_iff.1 hj).1
  refine ⟨stamped_modify h.st _ _ (fun _ _ => rfl) (fun e' _ he' => hkey e' he'), isKey_modify h.keys _ _ hkey, fun k u => ?_⟩
  have mem : ∀ x : MapEntry, x ∈ (es.modify j fun e => { e with key := .int .i64 i, val := v }).toList ↔ ∃ n, n < es.size ∧ ∃ y, es[n]? = some y ∧ x = if j = n then ({ y with key := .int .i64 i, val := v } : MapEntry) else y := by
    intro x
    rw [List.mem_iff_getElem?]
    constructor
    · rintro ⟨n, hn⟩
      rw [Array.getElem?_toList, Array.getElem?_modify] at hn
      by_cases hjn : j = n
      · rw [if_pos hjn] at hn
        subst hjn
        rw [hj] at hn
        exact ⟨j, hlt, e, hj, by rw [if_pos rfl]; simpa using hn.symm⟩
      · rw [if_neg hjn] at hn
        exact ⟨n, (Array.getElem?_eq_some_iff.1 hn).1, x, hn, by rw [if_neg hjn]⟩
    · rintro ⟨n, hn, y, hy, rfl⟩
      refine ⟨n, ?_⟩
      rw [Array.getElem?_toList, Array.getElem?_modify]
      by_cases hjn : j = n
      · rw [if_pos hjn, if_pos hjn, hy]; rfl
      · rw [if_neg hjn, if_neg hjn, hy]
  unfold updT
  by_cases hk : k = i
  · subst hk
    rw [if_pos rfl]
    constructor
    · intro q
      injection q with q
      exact ⟨_, (mem _).2 ⟨j, hlt, e, hj, rfl⟩, by rw [if_pos rfl], by rw [if_pos rfl]; exact q⟩
    · rintro ⟨x, hx, hxk, hxv⟩
      obtain ⟨n, _, y, hy, rfl⟩ := (mem x).1 hx
      by_cases hjn : j = n
      · rw [if_pos hjn] at hxv
        rw [← hxv]
      · rw [if_neg hjn] at hxk
        have hmy : y ∈ es.toList := Array.mem_toList_iff.2 (Array.mem_of_getElem? hy)
        obtain rfl := h.one hme hmy (he.trans hxk.symm)
        have hnd := h.st.2.1
        have h1 : (es.toList.map (·.born))[j]? = some e.born := by rw [List.getElem?_map, Array.getElem?_toList, hj]; rfl
        have h2 : (es.toList.map (·.born))[n]? = some e.born := by rw [List.getElem?_map, Array.getElem?_toList, hy]; rfl
        exact absurd ((List.getElem?_inj (by simpa using hlt) hnd).1 (h1.trans h2.symm)) hjn
  · rw [if_neg hk, h.at_]
    constructor
    · rintro ⟨x, hx, hxk, hxv⟩
      obtain ⟨n, hn⟩ := List.mem_iff_getElem?.1 hx
      rw [Array.getElem?_toList] at hn
      have hjn : j ≠ n := by
        rintro rfl
        rw [hj] at hn
        injection hn with hn
        subst hn
        rw [he] at hxk
        injection hxk with _ hxk
        exact hk hxk.symm
      exact ⟨x, (mem x).2 ⟨n, (Array.getElem?_eq_some_iff.1 hn).1, x, hn, by rw [if_neg hjn]⟩, hxk, hxv⟩
    · rintro ⟨x, hx, hxk, hxv⟩
      obtain ⟨n, _, y, hy, rfl⟩ := (mem x).1 hx
      by_cases hjn : j = n
      · rw [if_pos hjn] at hxk
        injection hxk with _ hxk
        exact absurd hxk.symm hk
      · rw [if_neg hjn] at hxk hxv
        exact ⟨y, Array.mem_toList_iff.2 (Array.mem_of_getElem? hy), hxk, hxv⟩
theorem Reads.erase {es : Array MapEntry} {clock : Nat} {m : TabF} (h : Reads es clock m) {i : Int} {j : Nat} {e : MapEntry} (hj : es[j]? = some e) (he : e.key = .int .i64 i) :
    Reads (es.eraseIdxIfInBounds j) clock (updT m i none) ∧ (es.eraseIdxIfInBounds j).size = es.size - 1 := by
  have hlt : j < es.size := (Array.getElem?_eq_some_iff.1 hj).1
  have hl : (es.eraseIdxIfInBounds j).toList = es.toList.eraseIdx j := by
    unfold Array.eraseIdxIfInBounds
    rw [dif_pos hlt]
    simp
  have hme : e ∈ es.toList := Array.mem_toList_iff.2 (Array.mem_of_getElem? hj)
  have hlj : es.toList[j]? = some e := by rw [Array.getElem?_toList]; exact hj
  have mem : ∀ x : MapEntry, x ∈ es.toList.eraseIdx j ↔ x ∈ es.toList ∧ x.key ≠ .int .i64 i := by
    intro x
    rw [List.mem_eraseIdx_iff_getElem?]
    constructor
    · rintro ⟨n, hn, hx⟩
      have hxm := List.mem_of_getElem? hx
      refine ⟨hxm, fun hk => ?_⟩
      obtain rfl := h.one hme hxm (he.trans hk.symm)
      have hnd := h.st.2.1
      have h1 : (es.toList.map (·.born))[j]? = some e.born := by rw [List.getElem?_map, hlj]; rfl
      have h2 : (es.toList.map (·.born))[n]? = some e.born := by rw [List.getElem?_map, hx]; rfl
      exact hn ((List.getElem?_inj (by simpa using hlt) hnd).1 (h1.trans h2.symm)).symm
    · rintro ⟨hxm, hk⟩
      obtain ⟨n, hn⟩ := List.mem_iff_getElem?.1 hxm
      refine ⟨n, ?_, hn⟩
      rintro rfl
      rw [hlj] at hn
      injection hn with hn
      subst hn
      exact hk he
  refine ⟨⟨stamped_erase h.st _, fun x hx => h.keys x ((mem x).1 (hl ▸ hx)).1, fun k u => ?_⟩, by rw [← Array.length_toList, hl, List.length_eraseIdx_of_lt (by simpa using hlt)]; simp⟩
  rw [hl]
  unfold updT
  by_cases hk : k = i
  · subst hk
    rw [if_pos rfl]
    constructor
    · intro q; cases q
    · rintro ⟨x, hx, hxk, _⟩
      exact absurd hxk ((mem x).1 hx).2
  · rw [if_neg hk, h.at_]
    constructor
    · rintro ⟨x, hx, hxk, hxv⟩
      exact ⟨x, (mem x).2 ⟨hx, fun q => by rw [hxk] at q; injection q with _ q; exact hk q⟩, hxk, hxv⟩
    · rintro ⟨x, hx, hxk, hxv⟩
      exact ⟨x, ((mem x).1 hx).1, hxk, hxv⟩
theorem Reads.same {es : Array MapEntry} {clock : Nat} {m : TabF} (h : Reads es clock m) {i : Int} (hm : m i = none) : Reads es clock (updT m i none) :=
  ⟨h.st, h.keys, fun k u => by
    unfold updT
    by_cases hk : k = i
    · subst hk; rw [if_pos rfl, ← h.at_, hm]
    · rw [if_neg hk, h.at_]⟩

theorem Tab.lt {w : World} {b n : Nat} {m : TabF} (h : Tab w b m n) : b < w.heap.size := by
  obtain ⟨es, clock, hb, _⟩ := h.out
  exact (Array.getElem?_eq_some_iff.1 hb).1
theorem Tab.of_block {w w' : World} {b n : Nat} {m : TabF} (h : Tab w b m n) (hk : w'.heap[b]? = w.heap[b]?) : Tab w' b m n := by
  obtain ⟨es, clock, hb, r⟩ := h.out
  exact ⟨es, clock, hk.trans hb, r⟩
theorem Tab.only {w w' : World} {b n r : Nat} {m : TabF} (h : Tab w b m n) (ho : Only r w w') (hne : b ≠ r) : Tab w' b m n := h.of_block (ho.block b h.lt (fun e => by injection e with e; exact hne e))
theorem Tab.below {w w' : World} {b n : Nat} {m : TabF} (h : Tab w b m n) (hb : Below w.heap.size w w') : Tab w' b m n := h.of_block (hb.block b h.lt)
theorem Tab.alloc {w : World} {b n : Nat} {m : TabF} (h : Tab w b m n) (o : Obj) : Tab (w.alloc o) b m n := h.of_block (Below.heap_alloc w o b h.lt)
theorem Tab.made (w : World) : Tab (w.alloc (.map #[] 0)) w.heap.size (fun _ => none) 0 := ⟨#[], 0, heap_alloc_new w _, Reads.empty 0, rfl⟩
theorem Tab.ne_blk {w : World} {b g n : Nat} {m : TabF} {t : TypeId} {cs : Array Value} (h : Tab w b m n) (h' : Blk w g t cs) : b ≠ g := by
  rintro rfl
  obtain ⟨es, clock, hb, _⟩ := h.out
  unfold Blk at h'
  rw [hb] at h'
  cases h'
theorem Tab.congr {w : World} {b n : Nat} {m m' : TabF} (h : Tab w b m n) (e : ∀ i, m i = m' i) : Tab w b m' n := by
  obtain rfl : m = m' := funext e
  exact h

theorem only_setBlock {w : World} {b : Nat} {o o' : Obj} (hb : w.heap[b]? = some o) : (setBlock w b o').heap[b]? = some o' ∧ Only b w (setBlock w b o') := by
  have hs := heap_set (o' := o') hb
  exact ⟨hs.1, ⟨rfl, rfl, rfl, by simp [setBlock], fun i _ hi => hs.2 i (fun e => hi (by rw [e]))⟩⟩

section
variable {P : Program} {w : World} {b n : Nat} {m : TabF} {t k e : TypeId}
theorem Tab.look (h : Tab w b m n) (ht : P.underlying t = some (.map k e)) (hk : P.underlying k = some (.int .i64)) {z : Value} (hz : (zeroValue e).run P w = .ok z w) (i : Int) (c : Bool) :
    (Instr.lookup t (.map (some b)) (.int .i64 i) c).run P w = .ok (if c then .tuple #[(m i).getD z, .bool (m i).isSome] else (m i).getD z) w := by
  obtain ⟨es, clock, hb, hr, _⟩ := h.out
  have hc : ∀ q, (Instr.checkKey q 10000 k (.int .i64 i)).run P w = .ok () w := fun q => run_checkKey (d := .int .i64) hk (by simp [IsKey]) q 9999
  rcases hr.find i with ⟨h1, h2, _⟩ | ⟨j, x, h1, h2, _, _, h5⟩
  · simp [Instr.lookup, run_underlying ht, MapKept.run_getObj_map hb, hc, run_findKey hk h1, hz, Result.andThen, h2]
  · simp [Instr.lookup, run_underlying ht, MapKept.run_getObj_map hb, hc, run_findKey hk h1, Result.andThen, h5]
theorem Tab.len (h : Tab w b m n) (ht : P.underlying t = some (.map k e)) (ty : TypeId) : (Builtin.len_ #[t] ty #[.map (some b)]).run P w = .ok (.int .i64 (n : Int)) w := by
  obtain ⟨es, clock, hb, _, hs⟩ := h.out
  simp [Builtin.len_, run_underlying ht, MapKept.run_getObj_map hb, goInt, Result.andThen, hs]
theorem Tab.store (h : Tab w b m n) (ht : P.underlying t = some (.map k e)) (hk : P.underlying k = some (.int .i64)) (i : Int) (v : Value) :
    ∃ w', (Instr.mapUpdate t (.map (some b)) (.int .i64 i) v).run P w = .ok () w' ∧ Tab w' b (updT m i (some v)) (if (m i).isSome then n else n + 1) ∧ Only b w w' ∧ w'.heap.size = w.heap.size := by
  obtain ⟨es, clock, hb, hr, hs⟩ := h.out
  have hc : (Instr.checkKey false 10000 k (.int .i64 i)).run P w = .ok () w := run_checkKey (d := .int .i64) hk (by simp [IsKey]) false 9999
  rcases hr.find i with ⟨h1, h2, h3⟩ | ⟨j, x, h1, h2, h3, h4, h5⟩
  · refine ⟨setBlock w b (.map (es.push { key := .int .i64 i, val := v, born := clock }) (clock + 1)), ?_, ⟨_, _, (only_setBlock hb).1, hr.push h3 v, by simp [h2, hs]⟩, (only_setBlock hb).2, by simp [setBlock]⟩
    simp [Instr.mapUpdate, run_underlying ht, MapKept.run_getObj_map hb, hc, run_findKey hk h1, MapKept.run_setObj_map _ hb, Result.andThen, setBlock]
  · refine ⟨setBlock w b (.map (es.modify j fun e => { e with key := .int .i64 i, val := v }) clock), ?_, ⟨_, _, (only_setBlock hb).1, hr.modify h2 h4 v, by simp [h5, hs]⟩, (only_setBlock hb).2, by simp [setBlock]⟩
    simp [Instr.mapUpdate, run_underlying ht, MapKept.run_getObj_map hb, hc, run_findKey hk h1, h2, h4, run_keyThatStays (d := .int .i64) (k := .int .i64 i) (by simp [IsKey]), MapKept.run_setObj_map _ hb, Result.andThen, setBlock]
theorem Tab.drop (h : Tab w b m n) (ht : P.underlying t = some (.map k e)) (hk : P.underlying k = some (.int .i64)) (i : Int) (ty : TypeId) :
    ∃ w', (Builtin.delete_ #[t, k] ty #[.map (some b), .int .i64 i]).run P w = .ok (.tuple #[]) w' ∧ Tab w' b (updT m i none) (if (m i).isSome then n - 1 else n) ∧ Only b w w' ∧ w'.heap.size = w.heap.size := by
  obtain ⟨es, clock, hb, hr, hs⟩ := h.out
  have hc : ∀ q, (Instr.checkKey q 10000 k (.int .i64 i)).run P w = .ok () w := fun q => run_checkKey (d := .int .i64) hk (by simp [IsKey]) q 9999
  rcases hr.find i with ⟨h1, h2, h3⟩ | ⟨j, x, h1, h2, h3, h4, h5⟩
  · refine ⟨setBlock w b (.map es clock), ?_, ⟨_, _, (only_setBlock hb).1, hr.same h2, by simp [h2, hs]⟩, (only_setBlock hb).2, by simp [setBlock]⟩
    simp [Builtin.delete_, run_underlying ht, MapKept.run_getObj_map hb, hc, run_findKey hk h1, MapKept.run_setObj_map _ hb, Result.andThen, setBlock]
  · obtain ⟨q1, q2⟩ := hr.erase h2 h4
    refine ⟨setBlock w b (.map (es.eraseIdxIfInBounds j) clock), ?_, ⟨_, _, (only_setBlock hb).1, q1, by simp [h5, q2, hs]⟩, (only_setBlock hb).2, by simp [setBlock]⟩
    simp [Builtin.delete_, run_underlying ht, MapKept.run_getObj_map hb, hc, run_findKey hk h1, MapKept.run_setObj_map _ hb, Result.andThen, setBlock]

/-! ### a range over it -/
/-- block r is an iterator over the map in block b: 'left' says which keys are still to come, cnt how many -/
structure Ranging (w : World) (b r : Nat) (m : TabF) (n : Nat) (left : Int → Bool) (cnt : Nat) : Prop where
  out : ∃ es clock since seen c0, w.heap[b]? = some (.map es clock) ∧ Reads es clock m ∧ es.size = n ∧ w.heap[r]? = some (.mapIter (some b) since seen c0) ∧ (∀ x ∈ es.toList, x.born < since) ∧ since ≤ c0 ∧ since ≤ clock ∧
    (leftOf es seen).size = cnt ∧ (∀ x ∈ es.toList, ∀ i, x.key = .int .i64 i → left i = !seen.contains x.born) ∧ (∀ i, left i = true → (m i).isSome = true)
theorem Ranging.tab {r cnt : Nat} {left : Int → Bool} (h : Ranging w b r m n left cnt) : Tab w b m n := by
  obtain ⟨es, clock, since, seen, c0, hb, hr, hs, _⟩ := h.out
  exact ⟨es, clock, hb, hr, hs⟩
theorem Ranging.left_eq {r cnt : Nat} {left : Int → Bool} (h : Ranging w b r m n left cnt) : w.rangeLeft b r = cnt := by
  obtain ⟨es, clock, since, seen, c0, hb, _, _, hr, _, _, _, hc, _⟩ := h.out
  simp only [World.rangeLeft, hb, hr]
  exact hc
theorem Ranging.lt {r cnt : Nat} {left : Int → Bool} (h : Ranging w b r m n left cnt) : r < w.heap.size := by
  obtain ⟨es, clock, since, seen, c0, _, _, _, hr, _⟩ := h.out
  exact (Array.getElem?_eq_some_iff.1 hr).1
theorem Ranging.of_block {w' : World} {r cnt : Nat} {left : Int → Bool} (h : Ranging w b r m n left cnt) (h1 : w'.heap[b]? = w.heap[b]?) (h2 : w'.heap[r]? = w.heap[r]?) : Ranging w' b r m n left cnt := by
  obtain ⟨es, clock, since, seen, c0, hb, hr, hs, hi, rest⟩ := h.out
  exact ⟨es, clock, since, seen, c0, h1.trans hb, hr, hs, h2.trans hi, rest⟩
theorem Tab.range (h : Tab w b m n) (ht : P.underlying t = some (.map k e)) :
    ∃ w', (Instr.range t (.map (some b))).run P w = .ok (.pointer (some ⟨w.heap.size, 0, none⟩)) w' ∧ Ranging w' b w.heap.size m n (fun i => (m i).isSome) n ∧ Below w.heap.size w w' := by
  have hlt := h.lt
  obtain ⟨es, clock, hb, hr, hs⟩ := h.out
  refine ⟨_, run_range_map w t k e b es clock ht hb, ⟨es, clock, clock, #[], clock, (heap_alloc_old w _ hlt).trans hb, hr, hs, heap_alloc_new w _, hr.st.1, Nat.le_refl _, Nat.le_refl _, ?_, ?_, fun i hi => hi⟩, (Below.refl _ _).alloc (Nat.le_refl _) _⟩
  · subst hs; simp [leftOf]
  · intro x hx i hk
    simp [hr.at_key hx hk]
theorem Ranging.next {r cnt : Nat} {left : Int → Bool} (h : Ranging w b r m n left cnt) (ty : TypeId) :
    ((∀ i, left i = false) ∧ (Instr.next (.pointer (some ⟨r, 0, none⟩)) false ty).run P w = .ok (.tuple #[.bool false]) w) ∨
    ∃ i v w' cnt', (Instr.next (.pointer (some ⟨r, 0, none⟩)) false ty).run P w = .ok (.tuple #[.bool true, .int .i64 i, v]) w' ∧ m i = some v ∧ left i = true ∧ Ranging w' b r m n (fun j => left j && !decide (j = i)) cnt' ∧ cnt' < cnt ∧
      Only r w w' ∧ (Instr.entry (.pointer (some ⟨r, 0, none⟩))).run P w' = .ok (.tuple #[.int .i64 i, v]) w' := by
  obtain ⟨es, clock, since, seen, c0, hb, hr, hs, hit, hold, hsc, hsk, hc, hl, hl2⟩ := h.out
  rcases run_next_at (P := P) w ty r b since c0 seen es clock hit hb hold hsc with ⟨h0, hrun⟩ | ⟨x, hx, w1, hw1, hrun⟩
  · refine .inl ⟨fun i => ?_, hrun⟩
    cases hli : left i with
    | false => rfl
    | true =>
      obtain ⟨v, hv⟩ := Option.isSome_iff_exists.1 (hl2 i hli)
      obtain ⟨y, hy, hk, _⟩ := (hr.at_ i v).1 hv
      have hns : seen.contains y.born = false := by have := hl y hy i hk; rw [hli] at this; simpa using this.symm
      have : y ∈ leftOf es seen := by
        unfold leftOf
        rw [Array.mem_filter]
        exact ⟨Array.mem_toList_iff.1 hy, by rw [hns]; rfl⟩
      have hz : leftOf es seen = #[] := Array.eq_empty_of_size_eq_zero h0
      rw [hz] at this
      simp at this
  · have hxm : x ∈ es.toList ∧ seen.contains x.born = false := by
      have : x ∈ leftOf es seen := Array.mem_toList_iff.1 hx
      unfold leftOf at this
      rw [Array.mem_filter] at this
      exact ⟨Array.mem_toList_iff.2 this.1, by simpa using this.2⟩
    obtain ⟨i, hk⟩ := hr.key_int hxm.1
    have hrb : r ≠ b := by rintro rfl; rw [hb] at hit; cases hit
    have hit1 : w1.heap[r]? = some (.mapIter (some b) since seen c0) := by rcases hw1 with rfl | rfl <;> exact hit
    have hb1 : w1.heap[b]? = some (.map es clock) := by rcases hw1 with rfl | rfl <;> exact hb
    have hon : Only r w w1 := by rcases hw1 with rfl | rfl; exact Only.refl _ _; exact (Only.refl _ _).drew
    obtain ⟨g1, g2⟩ := only_setBlock (o' := .mapIter (some b) since (seen.push x.born) clock) hit1
    have gb : (setBlock w1 r (.mapIter (some b) since (seen.push x.born) clock)).heap[b]? = some (.map es clock) := (g2.block b (Array.getElem?_eq_some_iff.1 hb1).1 (fun e => by injection e with e; exact hrb e.symm)).trans hb1
    refine .inr ⟨i, x.val, _, _, by rw [hrun, hk], hr.at_key hxm.1 hk, by rw [hl x hxm.1 i hk, hxm.2]; rfl, ⟨es, clock, since, seen.push x.born, clock, gb, hr, hs, g1, hold, hsk, hsk, rfl, ?_, fun j hj => ?_⟩, ?_, hon.trans g2, ?_⟩
    · intro y hy j hkj
      rw [hl y hy j hkj]
      have hst := (stamped_iff es clock).1 hr.st
      by_cases hj : j = i
      · subst hj
        obtain rfl := hr.one hy hxm.1 (hkj.trans hk.symm)
        simp
      · have hne : y.born ≠ x.born := fun e => by
          obtain rfl := born_inj hst.2.1 hy hxm.1 e
          rw [hkj] at hk
          injection hk with _ hk
          exact hj hk
        have e1 : (seen.push x.born).contains y.born = seen.contains y.born := by
          rw [Array.contains_push]
          have : (y.born == x.born) = false := by simpa using hne
          rw [this]; simp
        rw [e1]
        simp [hj]
    · exact hl2 j (by simp only [Bool.and_eq_true] at hj; exact hj.1)
    · rw [← hc]
      have hsub : leftOf es (seen.push x.born) = (leftOf es seen).filter (fun y => !(y.born == x.born)) := by
        unfold leftOf
        rw [Array.filter_filter]
        congr 1
        funext y
        rw [Array.contains_push]
        cases seen.contains y.born <;> cases (y.born == x.born) <;> rfl
      rw [hsub]
      rw [Array.size_filter_lt_size_iff_exists]
      exact ⟨x, Array.mem_toList_iff.1 hx, by simp⟩
    · rw [run_entry_at _ r b since seen es clock x g1 gb hxm.1 ((stamped_iff es clock).1 hr.st).2.1, hk]
end

end Go.Proofs.Ytdhjjjagjkencaa
