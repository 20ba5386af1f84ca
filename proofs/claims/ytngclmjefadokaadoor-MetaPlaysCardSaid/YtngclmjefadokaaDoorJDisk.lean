/-
  Maps keyed by integers, as plain functions: what a look-up, a store, a delete, a length, a copy and a range make of them. A disk: plain functions, no program. What is to be shown of each function of package disk, so that the laws' walks stand: no proof here, the walks take it as a premise. The landed disk in memory. view: a sector as reads see it. The small calls: New, Used, Limit, Pending, Read, settle. torn: what a write leaves of which so many bytes survive.
-/
import Derived.Test.YtngclmjefadokaaDoorJBytes
import Derived.MapKept
import Derived.Maps.RangeWalk
import Derived.Shelf.SlMaps.Clone
import Derived.Maps.AppendAt
import Derived.Lib.MinMax
import Derived.BigQuiet
import Derived.Deep.QuietTactic
namespace Go.Proofs.YtngclmjefadokaaDoor
open Go Go.RowKit Go.MapKept
open Go.ChangeMaps (setBlock)

abbrev TabF := Int → Option Value
def updT (m : TabF) (i : Int) (v : Option Value) : TabF := fun j => if j = i then v else m j
/-- entries that read as m -/
structure Reads (es : Array MapEntry) (clock : Nat) (m : TabF) : Prop where
  st : Stamped es clock
  keys : ∀ x ∈ es.toList, IsKey (.int .i64) x.key
  at_ : ∀ i v, m i = some v ↔ ∃ x ∈ es.toList, x.key = .int .i64 i ∧ x.val = v
/-- block b is a map of n entries that reads as m -/
structure Tab (w : World) (b : Nat) (m : TabF) (n : Nat) : Prop where
  out : ∃ es clock, w.heap[b]? = some (.map es clock) ∧ Reads es clock m ∧ es.size = n

theorem Reads.one {es : Array MapEntry} {clock : Nat} {m : TabF} (h : Reads es clock m) {x y : MapEntry} (hx : x ∈ es.toList) (hy : y ∈ es.toList) (e : x.key = y.key) : x = y :=
  entry_eq_of_key ((stamped_iff es clock).1 h.st).2.2 hx hy e
theorem Reads.at_key {es : Array MapEntry} {clock : Nat} {m : TabF} (h : Reads es clock m) {x : MapEntry} (hx : x ∈ es.toList) {i : Int} (e : x.key = .int .i64 i) : m i = some x.val := (h.at_ i _).2 ⟨x, hx, e, rfl⟩
theorem Reads.key_int {es : Array MapEntry} {clock : Nat} {m : TabF} (h : Reads es clock m) {x : MapEntry} (hx : x ∈ es.toList) : ∃ i, x.key = .int .i64 i := by
  have := h.keys x hx
  cases hk : x.key <;> rw [hk] at this <;> simp [IsKey] at this
  subst this
  exact ⟨_, rfl⟩
/-- what the search finds -/
theorem Reads.find {es : Array MapEntry} {clock : Nat} {m : TabF} (h : Reads es clock m) (i : Int) :
    (Instr.findNow (.int .i64) (.int .i64 i) es.toList 0 = some none ∧ m i = none ∧ ∀ x ∈ es.toList, x.key ≠ .int .i64 i) ∨
    ∃ j e, Instr.findNow (.int .i64) (.int .i64 i) es.toList 0 = some (some (j, e.val)) ∧ es[j]? = some e ∧ e ∈ es.toList ∧ e.key = .int .i64 i ∧ m i = some e.val := by
  rcases findNow_spec (d := .int .i64) (k := .int .i64 i) (by simp [IsKey]) es.toList 0 h.keys with ⟨h1, h2⟩ | ⟨j, e, h1, h2, h3⟩
  · refine .inl ⟨h1, ?_, h2⟩
    cases hm : m i with
    | none => rfl
    | some v =>
      obtain ⟨x, hx, hk, _⟩ := (h.at_ i v).1 hm
      exact absurd hk (h2 x hx)
  · rw [Nat.zero_add] at h1
    have hm : e ∈ es.toList := List.mem_of_getElem? h2
    exact .inr ⟨j, e, h1, by simpa using h2, hm, h3, h.at_key hm h3⟩

theorem Reads.empty (clock : Nat) : Reads #[] clock (fun _ => none) := ⟨stamped_empty clock, by simp, fun i v => by simp⟩
theorem Reads.push {es : Array MapEntry} {clock : Nat} {m : TabF} (h : Reads es clock m) {i : Int} (hn : ∀ x ∈ es.toList, x.key ≠ .int .i64 i) (v : Value) :
    Reads (es.push { key := .int .i64 i, val := v, born := clock }) (clock + 1) (updT m i (some v)) := by
  refine ⟨stamped_push h.st hn, ?_, fun j u => ?_⟩
  · intro x hx
    simp only [Array.toList_push, List.mem_append, List.mem_singleton] at hx
    rcases hx with hx | rfl
    · exact h.keys x hx
    · simp [IsKey]
  · simp only [Array.toList_push, List.mem_append, List.mem_singleton]
    unfold updT
    by_cases hj : j = i
    · subst hj
      rw [if_pos rfl]
      constructor
      · intro e
        injection e with e
        exact ⟨_, .inr rfl, rfl, e⟩
      · rintro ⟨x, hx | rfl, hk, hv⟩
        · exact absurd hk (hn x hx)
        · rw [← hv]
    · rw [if_neg hj, h.at_]
      constructor
      · rintro ⟨x, hx, hk, hv⟩
        exact ⟨x, .inl hx, hk, hv⟩
      · rintro ⟨x, hx | rfl, hk, hv⟩
        · exact ⟨x, hx, hk, hv⟩
        · injection hk with _ hk
          exact absurd hk.symm hj
theorem Reads.modify {es : Array MapEntry} {clock : Nat} {m : TabF} (h : Reads es clock m) {i : Int} {j : Nat} {e : MapEntry} (hj : es[j]? = some e) (he : e.key = .int .i64 i) (v : Value) :
    Reads (es.modify j fun e => { e with key := .int .i64 i, val := v }) clock (updT m i (some v)) := by
  have hkey : ∀ e', es[j]? = some e' → ({ e' with key := .int .i64 i, val := v } : MapEntry).key = e'.key := fun e' he' => by rw [hj] at he'; cases he'; exact he.symm
  have hme : e ∈ es.toList := Array.mem_toList_iff.2 (Array.mem_of_getElem? hj)
  have hlt : j < es.size := (Array.getElem?_eq_some_iff.1 hj).1
  refine ⟨stamped_modify h.st _ _ (fun _ _ => rfl) (fun e' _ he' => hkey e' he'), isKey_modify h.keys _ _ hkey, fun k u => ?_⟩
  have mem : ∀ x : MapEntry, x ∈ (es.modify j fun e => { e with key := .int .i64 i, val := v }).toList ↔ ∃ n, n < es.size ∧ ∃ y, es[n]? = some y ∧ x = if j = n then ({ y with key := .int .i64 i, val := v } : MapEntry) else y := by
    intro x
    rw [List.mem_iff_getElem?]
    constructor
    · rintro ⟨n, hn⟩
      rw [Array.getElem?_toList, Array.getElem?_modify] at hn
      by_cases hjn : j = n
      · rw [if_pos hjn] at hn
        subst hjn
        rw [hj] at hn
        exact ⟨j, hlt, e, hj, by rw [if_pos rfl]; simpa using hn.symm⟩
      · rw [if_neg hjn] at hn
        exact ⟨n, (Array.getElem?_eq_some_iff.1 hn).1, x, hn, by rw [if_neg hjn]⟩
    · rintro ⟨n, hn, y, hy, rfl⟩
      refine ⟨n, ?_⟩
      rw [Array.getElem?_toList, Array.getElem?_modify]
      by_cases hjn : j = n
      · rw [if_pos hjn, if_pos hjn, hy]; rfl
      · rw [if_neg hjn, if_neg hjn, hy]
  unfold updT
  by_cases hk : k = i
  · subst hk
    rw [if_pos rfl]
    constructor
    · intro q
      injection q with q
      exact ⟨_, (mem _).2 ⟨j, hlt, e, hj, rfl⟩, by rw [if_pos rfl], by rw [if_pos rfl]; exact q⟩
    · rintro ⟨x, hx, hxk, hxv⟩
      obtain ⟨n, _, y, hy, rfl⟩ := (mem x).1 hx
      by_cases hjn : j = n
      · rw [if_pos hjn] at hxv
        rw [← hxv]
      · rw [if_neg hjn] at hxk
        have hmy : y ∈ es.toList := Array.mem_toList_iff.2 (Array.mem_of_getElem? hy)
        obtain rfl := h.one hme hmy (he.trans hxk.symm)
        have hnd := h.st.2.1
        have h1 : (es.toList.map (·.born))[j]? = some e.born := by rw [List.getElem?_map, Array.getElem?_toList, hj]; rfl
        have h2 : (es.toList.map (·.born))[n]? = some e.born := by rw [List.getElem?_map, Array.getElem?_toList, hy]; rfl
        exact absurd ((List.getElem?_inj (by simpa using hlt) hnd).1 (h1.trans h2.symm)) hjn
  · rw [if_neg hk, h.at_]
    constructor
    · rintro ⟨x, hx, hxk, hxv⟩
      obtain ⟨n, hn⟩ := List.mem_iff_getElem?.1 hx
      rw [Array.getElem?_toList] at hn
      have hjn : j ≠ n := by
        rintro rfl
        rw [hj] at hn
        injection hn with hn
        subst hn
        rw [he] at hxk
        injection hxk with _ hxk
        exact hk hxk.symm
      exact ⟨x, (mem x).2 ⟨n, (Array.getElem?_eq_some_iff.1 hn).1, x, hn, by rw [if_neg hjn]⟩, hxk, hxv⟩
    · rintro ⟨x, hx, hxk, hxv⟩
      obtain ⟨n, _, y, hy, rfl⟩ := (mem x).1 hx
      by_cases hjn : j = n
      · rw [if_pos hjn] at hxk
        injection hxk with _ hxk
        exact absurd hxk.symm hk
      · rw [if_neg hjn] at hxk hxv
        exact ⟨y, Array.mem_toList_iff.2 (Array.mem_of_getElem? hy), hxk, hxv⟩
theorem Reads.erase {es : Array MapEntry} {clock : Nat} {m : TabF} (h : Reads es clock m) {i : Int} {j : Nat} {e : MapEntry} (hj : es[j]? = some e) (he : e.key = .int .i64 i) :
    Reads (es.eraseIdxIfInBounds j) clock (updT m i none) ∧ (es.eraseIdxIfInBounds j).size = es.size - 1 := by
  have hlt : j < es.size := (Array.getElem?_eq_some_iff.1 hj).1
  have hl : (es.eraseIdxIfInBounds j).toList = es.toList.eraseIdx j := by
    unfold Array.eraseIdxIfInBounds
    rw [dif_pos hlt]
    simp
  have hme : e ∈ es.toList := Array.mem_toList_iff.2 (Array.mem_of_getElem? hj)
  have hlj : es.toList[j]? = some e := by rw [Array.getElem?_toList]; exact hj
  have mem : ∀ x : MapEntry, x ∈ es.toList.eraseIdx j ↔ x ∈ es.toList ∧ x.key ≠ .int .i64 i := by
    intro x
    rw [List.mem_eraseIdx_iff_getElem?]
    constructor
    · rintro ⟨n, hn, hx⟩
      have hxm := List.mem_of_getElem? hx
      refine ⟨hxm, fun hk => ?_⟩
      obtain rfl := h.one hme hxm (he.trans hk.symm)
      have hnd := h.st.2.1
      have h1 : (es.toList.map (·.born))[j]? = some e.born := by rw [List.getElem?_map, hlj]; rfl
      have h2 : (es.toList.map (·.born))[n]? = some e.born := by rw [List.getElem?_map, hx]; rfl
      exact hn ((List.getElem?_inj (by simpa using hlt) hnd).1 (h1.trans h2.symm)).symm
    · rintro ⟨hxm, hk⟩
      obtain ⟨n, hn⟩ := List.mem_iff_getElem?.1 hxm
      refine ⟨n, ?_, hn⟩
      rintro rfl
      rw [hlj] at hn
      injection hn with hn
      subst hn
      exact hk he
  refine ⟨⟨stamped_erase h.st _, fun x hx => h.keys x ((mem x).1 (hl ▸ hx)).1, fun k u => ?_⟩, by rw [← Array.length_toList, hl, List.length_eraseIdx_of_lt (by simpa using hlt)]; simp⟩
  rw [hl]
  unfold updT
  by_cases hk : k = i
  · subst hk
    rw [if_pos rfl]
    constructor
    · intro q; cases q
    · rintro ⟨x, hx, hxk, _⟩
      exact absurd hxk ((mem x).1 hx).2
  · rw [if_neg hk, h.at_]
    constructor
    · rintro ⟨x, hx, hxk, hxv⟩
      exact ⟨x, (mem x).2 ⟨hx, fun q => by rw [hxk] at q; injection q with _ q; exact hk q⟩, hxk, hxv⟩
    · rintro ⟨x, hx, hxk, hxv⟩
      exact ⟨x, ((mem x).1 hx).1, hxk, hxv⟩
theorem Reads.same {es : Array MapEntry} {clock : Nat} {m : TabF} (h : Reads es clock m) {i : Int} (hm : m i = none) : Reads es clock (updT m i none) :=
  ⟨h.st, h.keys, fun k u => by
    unfold updT
    by_cases hk : k = i
    · subst hk; rw [if_pos rfl, ← h.at_, hm]
    · rw [if_neg hk, h.at_]⟩

theorem Tab.lt {w : World} {b n : Nat} {m : TabF} (h : Tab w b m n) : b < w.heap.size := by
  obtain ⟨es, clock, hb, _⟩ := h.out
  exact (Array.getElem?_eq_some_iff.1 hb).1
theorem Tab.of_block {w w' : World} {b n : Nat} {m : TabF} (h : Tab w b m n) (hk : w'.heap[b]? = w.heap[b]?) : Tab w' b m n := by
  obtain ⟨es, clock, hb, r⟩ := h.out
  exact ⟨es, clock, hk.trans hb, r⟩
theorem Tab.only {w w' : World} {b n r : Nat} {m : TabF} (h : Tab w b m n) (ho : Only r w w') (hne : b ≠ r) : Tab w' b m n := h.of_block (ho.block b h.lt (fun e => by injection e with e; exact hne e))
theorem Tab.below {w w' : World} {b n : Nat} {m : TabF} (h : Tab w b m n) (hb : Below w.heap.size w w') : Tab w' b m n := h.of_block (hb.block b h.lt)
theorem Tab.alloc {w : World} {b n : Nat} {m : TabF} (h : Tab w b m n) (o : Obj) : Tab (w.alloc o) b m n := h.of_block (Below.heap_alloc w o b h.lt)
theorem Tab.made (w : World) : Tab (w.alloc (.map #[] 0)) w.heap.size (fun _ => none) 0 := ⟨#[], 0, heap_alloc_new w _, Reads.empty 0, rfl⟩
theorem Tab.ne_blk {w : World} {b g n : Nat} {m : TabF} {t : TypeId} {cs : Array Value} (h : Tab w b m n) (h' : Blk w g t cs) : b ≠ g := by
  rintro rfl
  obtain ⟨es, clock, hb, _⟩ := h.out
  unfold Blk at h'
  rw [hb] at h'
  cases h'
theorem Tab.congr {w : World} {b n : Nat} {m m' : TabF} (h : Tab w b m n) (e : ∀ i, m i = m' i) : Tab w b m' n := by
  obtain rfl : m = m' := funext e
  exact h

theorem only_setBlock {w : World} {b : Nat} {o o' : Obj} (hb : w.heap[b]? = some o) : (setBlock w b o').heap[b]? = some o' ∧ Only b w (setBlock w b o') := by
  have hs := heap_set (o' := o') hb
  exact ⟨hs.1, ⟨rfl, rfl, rfl, by simp [setBlock], fun i _ hi => hs.2 i (fun e => hi (by rw [e]))⟩⟩

section
variable {P : Program} {w : World} {b n : Nat} {m : TabF} {t k e : TypeId}
theorem Tab.look (h : Tab w b m n) (ht : P.underlying t = some (.map k e)) (hk : P.underlying k = some (.int .i64)) {z : Value} (hz : (zeroValue e).run P w = .ok z w) (i : Int) (c : Bool) :
    (Instr.lookup t (.map (some b)) (.int .i64 i) c).run P w = .ok (if c then .tuple #[(m i).getD z, .bool (m i).isSome] else (m i).getD z) w := by
  obtain ⟨es, clock, hb, hr, _⟩ := h.out
  have hc : ∀ q, (Instr.checkKey q 10000 k (.int .i64 i)).run P w = .ok () w := fun q => run_checkKey (d := .int .i64) hk (by simp [IsKey]) q 9999
  rcases hr.find i with ⟨h1, h2, _⟩ | ⟨j, x, h1, h2, _, _, h5⟩
  · simp [Instr.lookup, run_underlying ht, MapKept.run_getObj_map hb, hc, run_findKey hk h1, hz, Result.andThen, h2]
  · simp [Instr.lookup, run_underlying ht, MapKept.run_getObj_map hb, hc, run_findKey hk h1, Result.andThen, h5]
theorem Tab.len (h : Tab w b m n) (ht : P.underlying t = some (.map k e)) (ty : TypeId) : (Builtin.len_ #[t] ty #[.map (some b)]).run P w = .ok (.int .i64 (n : Int)) w := by
  obtain ⟨es, clock, hb, _, hs⟩ := h.out
  simp [Builtin.len_, run_underlying ht, MapKept.run_getObj_map hb, goInt, Result.andThen, hs]
theorem Tab.store (h : Tab w b m n) (ht : P.underlying t = some (.map k e)) (hk : P.underlying k = some (.int .i64)) (i : Int) (v : Value) :
    ∃ w', (Instr.mapUpdate t (.map (some b)) (.int .i64 i) v).run P w = .ok () w' ∧ Tab w' b (updT m i (some v)) (if (m i).isSome then n else n + 1) ∧ Only b w w' ∧ w'.heap.size = w.heap.size := by
  obtain ⟨es, clock, hb, hr, hs⟩ := h.out
  have hc : (Instr.checkKey false 10000 k (.int .i64 i)).run P w = .ok () w := run_checkKey (d := .int .i64) hk (by simp [IsKey]) false 9999
  rcases hr.find i with ⟨h1, h2, h3⟩ | ⟨j, x, h1, h2, h3, h4, h5⟩
  · refine ⟨setBlock w b (.map (es.push { key := .int .i64 i, val := v, born := clock }) (clock + 1)), ?_, ⟨_, _, (only_setBlock hb).1, hr.push h3 v, by simp [h2, hs]⟩, (only_setBlock hb).2, by simp [setBlock]⟩
    simp [Instr.mapUpdate, run_underlying ht, MapKept.run_getObj_map hb, hc, run_findKey hk h1, MapKept.run_setObj_map _ hb, Result.andThen, setBlock]
  · refine ⟨setBlock w b (.map (es.modify j fun e => { e with key := .int .i64 i, val := v }) clock), ?_, ⟨_, _, (only_setBlock hb).1, hr.modify h2 h4 v, by simp [h5, hs]⟩, (only_setBlock hb).2, by simp [setBlock]⟩
    simp [Instr.mapUpdate, run_underlying ht, MapKept.run_getObj_map hb, hc, run_findKey hk h1, h2, h4, run_keyThatStays (d := .int .i64) (k := .int .i64 i) (by simp [IsKey]), MapKept.run_setObj_map _ hb, Result.andThen, setBlock]
theorem Tab.drop (h : Tab w b m n) (ht : P.underlying t = some (.map k e)) (hk : P.underlying k = some (.int .i64)) (i : Int) (ty : TypeId) :
    ∃ w', (Builtin.delete_ #[t, k] ty #[.map (some b), .int .i64 i]).run P w = .ok (.tuple #[]) w' ∧ Tab w' b (updT m i none) (if (m i).isSome then n - 1 else n) ∧ Only b w w' ∧ w'.heap.size = w.heap.size := by
  obtain ⟨es, clock, hb, hr, hs⟩ := h.out
  have hc : ∀ q, (Instr.checkKey q 10000 k (.int .i64 i)).run P w = .ok () w := fun q => run_checkKey (d := .int .i64) hk (by simp [IsKey]) q 9999
  rcases hr.find i with ⟨h1, h2, h3⟩ | ⟨j, x, h1, h2, h3, h4, h5⟩
  · refine ⟨setBlock w b (.map es clock), ?_, ⟨_, _, (only_setBlock hb).1, hr.same h2, by simp [h2, hs]⟩, (only_setBlock hb).2, by simp [setBlock]⟩
    simp [Builtin.delete_, run_underlying ht, MapKept.run_getObj_map hb, hc, run_findKey hk h1, MapKept.run_setObj_map _ hb, Result.andThen, setBlock]
  · obtain ⟨q1, q2⟩ := hr.erase h2 h4
    refine ⟨setBlock w b (.map (es.eraseIdxIfInBounds j) clock), ?_, ⟨_, _, (only_setBlock hb).1, q1, by simp [h5, q2, hs]⟩, (only_setBlock hb).2, by simp [setBlock]⟩
    simp [Builtin.delete_, run_underlying ht, MapKept.run_getObj_map hb, hc, run_findKey hk h1, MapKept.run_setObj_map _ hb, Result.andThen, setBlock]

/-! ### a range over it -/
/-- block r is an iterator over the map in block b: 'left' says which keys are still to come, cnt how many -/
structure Ranging (w : World) (b r : Nat) (m : TabF) (n : Nat) (left : Int → Bool) (cnt : Nat) : Prop where
  out : ∃ es clock since seen c0, w.heap[b]? = some (.map es clock) ∧ Reads es clock m ∧ es.size = n ∧ w.heap[r]? = some (.mapIter (some b) since seen c0) ∧ (∀ x ∈ es.toList, x.born < since) ∧ since ≤ c0 ∧ since ≤ clock ∧
    (leftOf es seen).size = cnt ∧ (∀ x ∈ es.toList, ∀ i, x.key = .int .i64 i → left i = !seen.contains x.born) ∧ (∀ i, left i = true → (m i).isSome = true)
theorem Ranging.tab {r cnt : Nat} {left : Int → Bool} (h : Ranging w b r m n left cnt) : Tab w b m n := by
  obtain ⟨es, clock, since, seen, c0, hb, hr, hs, _⟩ := h.out
  exact ⟨es, clock, hb, hr, hs⟩
theorem Ranging.left_eq {r cnt : Nat} {left : Int → Bool} (h : Ranging w b r m n left cnt) : w.rangeLeft b r = cnt := by
  obtain ⟨es, clock, since, seen, c0, hb, _, _, hr, _, _, _, hc, _⟩ := h.out
  simp only [World.rangeLeft, hb, hr]
  exact hc
theorem Ranging.lt {r cnt : Nat} {left : Int → Bool} (h : Ranging w b r m n left cnt) : r < w.heap.size := by
  obtain ⟨es, clock, since, seen, c0, _, _, _, hr, _⟩ := h.out
  exact (Array.getElem?_eq_some_iff.1 hr).1
theorem Ranging.of_block {w' : World} {r cnt : Nat} {left : Int → Bool} (h : Ranging w b r m n left cnt) (h1 : w'.heap[b]? = w.heap[b]?) (h2 : w'.heap[r]? = w.heap[r]?) : Ranging w' b r m n left cnt := by
  obtain ⟨es, clock, since, seen, c0, hb, hr, hs, hi, rest⟩ := h.out
  exact ⟨es, clock, since, seen, c0, h1.trans hb, hr, hs, h2.trans hi, rest⟩
theorem Tab.range (h : Tab w b m n) (ht : P.underlying t = some (.map k e)) :
    ∃ w', (Instr.range t (.map (some b))).run P w = .ok (.pointer (some ⟨w.heap.size, 0, none⟩)) w' ∧ Ranging w' b w.heap.size m n (fun i => (m i).isSome) n ∧ Below w.heap.size w w' := by
  have hlt := h.lt
  obtain ⟨es, clock, hb, hr, hs⟩ := h.out
  refine ⟨_, run_range_map w t k e b es clock ht hb, ⟨es, clock, clock, #[], clock, (heap_alloc_old w _ hlt).trans hb, hr, hs, heap_alloc_new w _, hr.st.1, Nat.le_refl _, Nat.le_refl _, ?_, ?_, fun i hi => hi⟩, (Below.refl _ _).alloc (Nat.le_refl _) _⟩
  · subst hs; simp [leftOf]
  · intro x hx i hk
    simp [hr.at_key hx hk]
theorem Ranging.next {r cnt : Nat} {left : Int → Bool} (h : Ranging w b r m n left cnt) (ty : TypeId) :
    ((∀ i, left i = false) ∧ (Instr.next (.pointer (some ⟨r, 0, none⟩)) false ty).run P w = .ok (.tuple #[.bool false]) w) ∨
    ∃ i v w' cnt', (Instr.next (.pointer (some ⟨r, 0, none⟩)) false ty).run P w = .ok (.tuple #[.bool true, .int .i64 i, v]) w' ∧ m i = some v ∧ left i = true ∧ Ranging w' b r m n (fun j => left j && !decide (j = i)) cnt' ∧ cnt' < cnt ∧
      Only r w w' ∧ (Instr.entry (.pointer (some ⟨r, 0, none⟩))).run P w' = .ok (.tuple #[.int .i64 i, v]) w' := by
  obtain ⟨es, clock, since, seen, c0, hb, hr, hs, hit, hold, hsc, hsk, hc, hl, hl2⟩ := h.out
  rcases run_next_at (P := P) w ty r b since c0 seen es clock hit hb hold hsc with ⟨h0, hrun⟩ | ⟨x, hx, w1, hw1, hrun⟩
  · refine .inl ⟨fun i => ?_, hrun⟩
    cases hli : left i with
    | false => rfl
    | true =>
      obtain ⟨v, hv⟩ := Option.isSome_iff_exists.1 (hl2 i hli)
      obtain ⟨y, hy, hk, _⟩ := (hr.at_ i v).1 hv
      have hns : seen.contains y.born = false := by have := hl y hy i hk; rw [hli] at this; simpa using this.symm
      have : y ∈ leftOf es seen := by
        unfold leftOf
        rw [Array.mem_filter]
        exact ⟨Array.mem_toList_iff.1 hy, by rw [hns]; rfl⟩
      have hz : leftOf es seen = #[] := Array.eq_empty_of_size_eq_zero h0
      rw [hz] at this
      simp at this
  · have hxm : x ∈ es.toList ∧ seen.contains x.born = false := by
      have : x ∈ leftOf es seen := Array.mem_toList_iff.1 hx
      unfold leftOf at this
      rw [Array.mem_filter] at this
      exact ⟨Array.mem_toList_iff.2 this.1, by simpa using this.2⟩
    obtain ⟨i, hk⟩ := hr.key_int hxm.1
    have hrb : r ≠ b := by rintro rfl; rw [hb] at hit; cases hit
    have hit1 : w1.heap[r]? = some (.mapIter (some b) since seen c0) := by rcases hw1 with rfl | rfl <;> exact hit
    have hb1 : w1.heap[b]? = some (.map es clock) := by rcases hw1 with rfl | rfl <;> exact hb
    have hon : Only r w w1 := by rcases hw1 with rfl | rfl; exact Only.refl _ _; exact (Only.refl _ _).drew
    obtain ⟨g1, g2⟩ := only_setBlock (o' := .mapIter (some b) since (seen.push x.born) clock) hit1
    have gb : (setBlock w1 r (.mapIter (some b) since (seen.push x.born) clock)).heap[b]? = some (.map es clock) := (g2.block b (Array.getElem?_eq_some_iff.1 hb1).1 (fun e => by injection e with e; exact hrb e.symm)).trans hb1
    refine .inr ⟨i, x.val, _, _, by rw [hrun, hk], hr.at_key hxm.1 hk, by rw [hl x hxm.1 i hk, hxm.2]; rfl, ⟨es, clock, since, seen.push x.born, clock, gb, hr, hs, g1, hold, hsk, hsk, rfl, ?_, fun j hj => ?_⟩, ?_, hon.trans g2, ?_⟩
    · intro y hy j hkj
      rw [hl y hy j hkj]
      have hst := (stamped_iff es clock).1 hr.st
      by_cases hj : j = i
      · subst hj
        obtain rfl := hr.one hy hxm.1 (hkj.trans hk.symm)
        simp
      · have hne : y.born ≠ x.born := fun e => by
          obtain rfl := born_inj hst.2.1 hy hxm.1 e
          rw [hkj] at hk
          injection hk with _ hk
          exact hj hk
        have e1 : (seen.push x.born).contains y.born = seen.contains y.born := by
          rw [Array.contains_push]
          have : (y.born == x.born) = false := by simpa using hne
          rw [this]; simp
        rw [e1]
        simp [hj]
    · exact hl2 j (by simp only [Bool.and_eq_true] at hj; exact hj.1)
    · rw [← hc]
      have hsub : leftOf es (seen.push x.born) = (leftOf es seen).filter (fun y => !(y.born == x.born)) := by
        unfold leftOf
        rw [Array.filter_filter]
        congr 1
        funext y
        rw [Array.contains_push]
        cases seen.contains y.born <;> cases (y.born == x.born) <;> rfl
      rw [hsub]
      rw [Array.size_filter_lt_size_iff_exists]
      exact ⟨x, Array.mem_toList_iff.1 hx, by simp⟩
    · rw [run_entry_at _ r b since seen es clock x g1 gb hxm.1 ((stamped_iff es clock).1 hr.st).2.1, hk]
end

end Go.Proofs.YtngclmjefadokaaDoor

namespace Go.Proofs.YtngclmjefadokaaDoor
open Go Go.RowKit

/-- sectors: what each one that is in use holds -/
abbrev Secs := Int → Option (List UInt8)
def upd (m : Secs) (i : Int) (v : Option (List UInt8)) : Secs := fun j => if j = i then v else m j
theorem upd_same (m : Secs) (i : Int) (v : Option (List UInt8)) : upd m i v i = v := if_pos rfl
theorem upd_other (m : Secs) {i j : Int} (v : Option (List UInt8)) (h : j ≠ i) : upd m i v j = m j := if_neg h
/-- how many of n are in use -/
def cnt (n : Nat) (m : Secs) : Nat := (List.range n).countP fun (i : Nat) => (m (i : Int)).isSome
/-- an operation that is pending: a write, or a free -/
structure POp where
  i : Int
  b : Option (List UInt8)
/-- a write of which n bytes survive, over what the ground held -/
def torn (b : List UInt8) (old : Option (List UInt8)) (n : Int) : List UInt8 := if (b.length : Int) ≤ n then b else b.take n.toNat ++ (old.getD []).drop n.toNat
def applyOp (g : Secs) (o : POp) (n : Int) : Secs := upd g o.i (o.b.map fun b => torn b (g o.i) n)
/-- how much of the i-th operation survives -/
def survive (l : List (Int × Int)) (i : Nat) : Option Int := (l.find? fun s => s.1 == (i : Int)).map (·.2)
def crashG (l : List (Int × Int)) : Nat → Secs → List POp → Secs
  | _, g, [] => g
  | i, g, o :: os => crashG l (i + 1) (match survive l i with | some n => applyOp g o n | none => g) os

structure Dk where
  size : Nat
  limit : Int
  view : Secs
  ground : Secs
  pend : List POp
namespace Dk
def used (s : Dk) : Nat := cnt s.size s.view
def new (n : Nat) : Dk := ⟨n, n, fun _ => none, fun _ => none, []⟩
def why (s : Dk) (i : Int) (b : List UInt8) : Nat := if i < 0 ∨ (s.size : Int) ≤ i then 61 else if 512 < b.length then 62 else if s.view i = none ∧ s.limit ≤ (s.used : Int) then 63 else 0
def write (s : Dk) (i : Int) (b : List UInt8) : Dk := if s.why i b = 0 then { s with view := upd s.view i (some b), pend := s.pend ++ [⟨i, some b⟩] } else s
def fwhy (s : Dk) (i : Int) : Nat := if s.view i = none then 61 else 0
def free (s : Dk) (i : Int) : Dk := if s.view i = none then s else { s with view := upd s.view i none, pend := s.pend ++ [⟨i, none⟩] }
def sync (s : Dk) : Dk := { s with ground := s.view, pend := [] }
def crash (s : Dk) (l : List (Int × Int)) : Dk := { s with view := crashG l 0 s.ground s.pend, ground := crashG l 0 s.ground s.pend, pend := [] }
def lim (s : Dk) (n : Int) : Dk := { s with limit := n }
end Dk

theorem cnt_none (n : Nat) : cnt n (fun _ => none) = 0 := by unfold cnt; rw [List.countP_eq_zero]; simp
theorem Dk.new_used (n : Nat) : (Dk.new n).used = 0 := cnt_none n
theorem Dk.write_ok {s : Dk} {i : Int} {b : List UInt8} (h : s.why i b = 0) : s.write i b = { s with view := upd s.view i (some b), pend := s.pend ++ [⟨i, some b⟩] } := if_pos h
theorem Dk.why_ok {s : Dk} {i : Int} {b : List UInt8} (h0 : 0 ≤ i) (h1 : i < (s.size : Int)) (h2 : b.length ≤ 512) (h3 : s.view i ≠ none ∨ (s.used : Int) < s.limit) : s.why i b = 0 := by
  unfold Dk.why
  rw [if_neg (by omega), if_neg (by omega), if_neg]
  rintro ⟨a, b⟩
  rcases h3 with h3 | h3
  · exact h3 a
  · omega

/-- DiskTorn's disk -/
def tornDk (old now : List UInt8) (n : Int) : Dk := (((((Dk.new 4).write 2 old).sync).write 2 now).crash [(0, n)])
theorem torn_why1 (old : List UInt8) (h : old.length ≤ 512) : (Dk.new 4).why 2 old = 0 := Dk.why_ok (by decide) (by decide) h (.inr (by rw [Dk.new_used]; decide))
theorem torn_why2 (old now : List UInt8) (h : old.length ≤ 512) (h' : now.length ≤ 512) : (((Dk.new 4).write 2 old).sync).why 2 now = 0 := by
  rw [Dk.write_ok (torn_why1 old h)]
  refine Dk.why_ok (by decide) (show (2 : Int) < ((4 : Nat) : Int) by decide) h' (.inl ?_)
  show (if (2 : Int) = 2 then some old else none) ≠ none
  simp
theorem torn_view (old now : List UInt8) (n : Int) (h : old.length ≤ 512) (h' : now.length ≤ 512) : (tornDk old now n).view 2 = some (torn now (some old) n) := by
  unfold tornDk
  rw [Dk.write_ok (torn_why2 old now h h'), Dk.write_ok (torn_why1 old h)]
  rfl

end Go.Proofs.YtngclmjefadokaaDoor

namespace Go.Proofs.YtngclmjefadokaaDoor
open Go Go.RowKit

/-- survivors in memory -/
def SvAt (w : World) (B : Nat) (A : Option Addr) (l : List (Int × Int)) : Prop :=
  0 < l.length → ∃ b off, A = some ⟨b, off, none⟩ ∧ b < B ∧ ∀ i s, l[i]? = some s → w.cell? ⟨b, off + i * 2, none⟩ = some (.int .i64 s.1) ∧ w.cell? ⟨b, off + i * 2 + 1, none⟩ = some (.int .i64 s.2)
/-- in world w the disk that lies at block d is s: M are the blocks that its calls may turn, R those that they only read -/
abbrev DiskAt := World → Nat → (Nat → Prop) → (Nat → Prop) → Dk → Prop
/-- a block that is none of M -/
def Off (M : Nat → Prop) (A : Option Addr) : Prop := ∀ b off, A = some ⟨b, off, none⟩ → ¬ M b
/-- what a call on a disk leaves as it was: all but the disk's own blocks and new ones -/
structure Turns (M R : Nat → Prop) (w : World) (M' R' : Nat → Prop) (w' : World) : Prop where
  os : w'.os = w.os
  tape : w'.tape = w.tape
  output : w'.output = w.output
  size : w.heap.size ≤ w'.heap.size
  block : ∀ k, k < w.heap.size → ¬ M k → w'.heap[k]? = w.heap[k]?
  own : ∀ k, M' k → M k ∨ w.heap.size ≤ k
  held : ∀ k, R' k → R k ∨ w.heap.size ≤ k
theorem Turns.below {M R M' R' : Nat → Prop} {w w' : World} {B : Nat} (h : Turns M R w M' R' w') (hB : B ≤ w.heap.size) (hM : ∀ k, M k → B ≤ k) : Below B w w' :=
  ⟨h.os, h.tape, h.output, h.size, fun k hk => h.block k (by omega) (fun hm => by have := hM k hm; omega)⟩

structure Face (DA : DiskAt) : Prop where
  lt : ∀ {w d M R s}, DA w d M R s → ∀ k, M k ∨ R k → k < w.heap.size
  keep : ∀ {w w' : World} {d M R s}, DA w d M R s → w.heap.size ≤ w'.heap.size → (∀ k, M k ∨ R k → w'.heap[k]? = w.heap[k]?) → DA w' d M R s
  newYes : ∀ {n : Nat} {w : World}, 1 ≤ n → n ≤ 65536 → Calls Tryd.prog 6 #[.int .i64 (n : Int)] w fun e w' =>
    ∃ d M R, e = .returned (.tuple #[.pointer (some ⟨d, 0, none⟩), .int .i64 0]) ∧ DA w' d M R (Dk.new n) ∧ (∀ k, M k ∨ R k → w.heap.size ≤ k) ∧ Below w.heap.size w w'
  newNo : ∀ {n : Int} {w : World}, n < 1 ∨ 65536 < n → Calls Tryd.prog 6 #[.int .i64 n] w fun e w' => e = .returned (.tuple #[.pointer none, .int .i64 60]) ∧ Below w.heap.size w w'
  write : ∀ {w d M R s} {i : Int} {A : Option Addr} {n c B : Nat} {b : List UInt8}, DA w d M R s → At w B A b → n = b.length → B ≤ w.heap.size → Off M A → b.length ≤ 70368744177664 → s.pend.length ≤ 1000000 →
    Calls Tryd.prog 52 #[.pointer (some ⟨d, 0, none⟩), .int .i64 i, .slice A n c] w fun e w' =>
      e = .returned (.int .i64 (s.why i b : Int)) ∧ ∃ M' R', DA w' d M' R' (s.write i b) ∧ Turns M R w M' R' w'
  read : ∀ {w d M R s} {i : Int}, DA w d M R s → Calls Tryd.prog 35 #[.pointer (some ⟨d, 0, none⟩), .int .i64 i] w fun e w' =>
      (match s.view i with
        | some b => ∃ A n c, e = .returned (.tuple #[.slice A n c, .int .i64 0]) ∧ At w' w'.heap.size A b ∧ n = b.length ∧ n ≤ c
        | none => e = .returned (.tuple #[.slice none 0 0, .int .i64 61])) ∧ Below w.heap.size w w'
  free : ∀ {w d M R s} {i : Int}, DA w d M R s → s.pend.length ≤ 1000000 → Calls Tryd.prog 47 #[.pointer (some ⟨d, 0, none⟩), .int .i64 i] w fun e w' =>
      e = .returned (.int .i64 (s.fwhy i : Int)) ∧ ∃ M' R', DA w' d M' R' (s.free i) ∧ Turns M R w M' R' w'
  sync : ∀ {w d M R s}, DA w d M R s → Calls Tryd.prog 49 #[.pointer (some ⟨d, 0, none⟩)] w fun e w' =>
      e = .returned (.tuple #[]) ∧ ∃ M' R', DA w' d M' R' s.sync ∧ Turns M R w M' R' w'
  crash : ∀ {w d M R s} {A : Option Addr} {n c B : Nat} {l : List (Int × Int)}, DA w d M R s → SvAt w B A l → n = l.length → B ≤ w.heap.size → Off M A → n ≤ 70368744177664 →
    Calls Tryd.prog 15 #[.pointer (some ⟨d, 0, none⟩), .slice A n c] w fun e w' =>
      e = .returned (.tuple #[]) ∧ ∃ M' R', DA w' d M' R' (s.crash l) ∧ Turns M R w M' R' w'
  used : ∀ {w d M R s}, DA w d M R s → Calls Tryd.prog 18 #[.pointer (some ⟨d, 0, none⟩)] w fun e w' => e = .returned (.int .i64 (s.used : Int)) ∧ Below w.heap.size w w'
  limit : ∀ {w d M R s} {n : Int}, DA w d M R s → Calls Tryd.prog 12 #[.pointer (some ⟨d, 0, none⟩), .int .i64 n] w fun e w' =>
      e = .returned (.tuple #[]) ∧ ∃ M' R', DA w' d M' R' (s.lim n) ∧ Turns M R w M' R' w'
  pending : ∀ {w d M R s}, DA w d M R s → Calls Tryd.prog 19 #[.pointer (some ⟨d, 0, none⟩)] w fun e w' => e = .returned (.int .i64 (s.pend.length : Int)) ∧ Below w.heap.size w w'
  copy : ∀ {w d M R s}, DA w d M R s → s.pend.length ≤ 1000000 → Calls Tryd.prog 21 #[.pointer (some ⟨d, 0, none⟩)] w fun e w' =>
      ∃ d2 M2 R2, e = .returned (.pointer (some ⟨d2, 0, none⟩)) ∧ DA w' d2 M2 R2 s ∧ (∀ k, M2 k → w.heap.size ≤ k) ∧ (∀ k, R2 k → ¬ M k) ∧ Below w.heap.size w w'

theorem Face.step {DA : DiskAt} (hF : Face DA) {w w' : World} {d M R s} (h : DA w d M R s) (hb : Below w.heap.size w w') : DA w' d M R s :=
  hF.keep h hb.size fun k hk => hb.block k (hF.lt h k hk)
/-- a disk beside another one whose call has turned its own blocks -/
theorem Face.beside {DA : DiskAt} (hF : Face DA) {w w' : World} {d M R s} {M1 R1 M1' R1' : Nat → Prop} (h : DA w d M R s) (ht : Turns M1 R1 w M1' R1' w') (h1 : ∀ k, M k → ¬ M1 k) (h2 : ∀ k, R k → ¬ M1 k) : DA w' d M R s :=
  hF.keep h ht.size fun k hk => ht.block k (hF.lt h k hk) (hk.elim (h1 k) (h2 k))

end Go.Proofs.YtngclmjefadokaaDoor

namespace Go.Proofs.YtngclmjefadokaaDoor
open Go Go.RowKit

/-! ### plain -/
theorem cnt_congr {n : Nat} {m m' : Secs} (h : ∀ i : Nat, i < n → (m (i : Int)).isSome = (m' (i : Int)).isSome) : cnt n m = cnt n m' := by
  unfold cnt
  refine List.countP_congr fun x hx => ?_
  rw [h x (List.mem_range.1 hx)]
theorem cnt_succ (n : Nat) (m : Secs) : cnt (n + 1) m = cnt n m + (if (m (n : Int)).isSome then 1 else 0) := by
  unfold cnt
  rw [List.range_succ, List.countP_append]
  simp [List.countP_cons]
theorem cnt_le (n : Nat) (m : Secs) : cnt n m ≤ n := by
  unfold cnt
  exact Nat.le_trans List.countP_le_length (by simp)
theorem cnt_upd : ∀ {n : Nat} {m : Secs} {i : Int} (v : Option (List UInt8)), 0 ≤ i → i < (n : Int) → cnt n (upd m i v) + (if (m i).isSome then 1 else 0) = cnt n m + (if v.isSome then 1 else 0)
  | 0, _, _, _, h0, h1 => by omega
  | n + 1, m, i, v, h0, h1 => by
    rw [cnt_succ, cnt_succ]
    by_cases hi : i = (n : Int)
    · subst hi
      have e : cnt n (upd m (n : Int) v) = cnt n m := cnt_congr fun j hj => by rw [upd_other _ _ (by omega)]
      rw [e, upd_same]
      omega
    · have ih := cnt_upd (n := n) (m := m) (i := i) v h0 (by omega)
      rw [upd_other _ _ (fun e => hi e.symm)]
      omega

abbrev Chg := Int → Option (Option (List UInt8))
def updC (c : Chg) (i : Int) (v : Option (List UInt8)) : Chg := fun j => if j = i then some v else c j
def over (c : Chg) (g : Secs) : Secs := fun i => match c i with
  | some s => s
  | none => g i
theorem over_upd (c : Chg) (g : Secs) (i : Int) (v : Option (List UInt8)) : over (updC c i v) g = upd (over c g) i v := by
  funext j
  unfold over updC upd
  by_cases h : j = i
  · rw [if_pos h, if_pos h]
  · rw [if_neg h, if_neg h]
theorem over_nil (g : Secs) : over (fun _ => none) g = g := rfl
/-- what holds of the plain disk -/
structure DPl (s : Dk) (ch : Chg) : Prop where
  view : s.view = over ch s.ground
  sz1 : 1 ≤ s.size
  sz2 : s.size ≤ 65536
  inG : ∀ i, s.ground i ≠ none → 0 ≤ i ∧ i < (s.size : Int)
  inC : ∀ i, ch i ≠ none → 0 ≤ i ∧ i < (s.size : Int)
  inP : ∀ o ∈ s.pend, 0 ≤ o.i ∧ o.i < (s.size : Int)
  lenG : ∀ i b, s.ground i = some b → b.length ≤ 512
  lenC : ∀ i b, ch i = some (some b) → b.length ≤ 512
  lenP : ∀ o ∈ s.pend, ∀ b, o.b = some b → b.length ≤ 512
theorem DPl.inV {s : Dk} {ch : Chg} (h : DPl s ch) (i : Int) (hi : s.view i ≠ none) : 0 ≤ i ∧ i < (s.size : Int) := by
  rw [h.view] at hi
  unfold over at hi
  cases hc : ch i with
  | none => rw [hc] at hi; exact h.inG i hi
  | some v => exact h.inC i (by rw [hc]; simp)
theorem DPl.lenV {s : Dk} {ch : Chg} (h : DPl s ch) (i : Int) (b : List UInt8) (hi : s.view i = some b) : b.length ≤ 512 := by
  rw [h.view] at hi
  unfold over at hi
  cases hc : ch i with
  | none => rw [hc] at hi; exact h.lenG i b hi
  | some v => rw [hc] at hi; exact h.lenC i b (by rw [hc]; rw [show v = some b from hi])
/-- an operation is laid -/
theorem DPl.lay {s : Dk} {ch : Chg} (h : DPl s ch) {i : Int} (h0 : 0 ≤ i) (h1 : i < (s.size : Int)) (v : Option (List UInt8)) (hv : ∀ b, v = some b → b.length ≤ 512) : DPl { s with view := upd s.view i v, pend := s.pend ++ [⟨i, v⟩] } (updC ch i v) :=
  ⟨by show upd s.view i v = over (updC ch i v) s.ground; rw [over_upd, h.view], h.sz1, h.sz2, h.inG, fun j hj => by
    unfold updC at hj
    by_cases e : j = i
    · subst e; exact ⟨h0, h1⟩
    · rw [if_neg e] at hj; exact h.inC j hj, fun o ho => (List.mem_append.1 ho).elim (h.inP o) (fun ho => by rw [List.mem_singleton.1 ho]; exact ⟨h0, h1⟩), h.lenG, fun j b hj => by
    unfold updC at hj
    by_cases e : j = i
    · rw [if_pos e] at hj; injection hj with hj; exact hv b hj
    · rw [if_neg e] at hj; exact h.lenC j b hj, fun o ho => (List.mem_append.1 ho).elim (h.lenP o) (fun ho => by rw [List.mem_singleton.1 ho]; exact hv)⟩
theorem DPl.settled {s : Dk} {ch : Chg} (h : DPl s ch) {g : Secs} (hg : ∀ i, g i ≠ none → 0 ≤ i ∧ i < (s.size : Int)) (hl : ∀ i b, g i = some b → b.length ≤ 512) : DPl { s with view := g, ground := g, pend := [] } (fun _ => none) :=
  ⟨rfl, h.sz1, h.sz2, hg, fun _ hi => absurd rfl hi, fun _ ho => by simp at ho, hl, fun _ _ hi => by simp at hi, fun _ ho => by simp at ho⟩
theorem DPl.lim {s : Dk} {ch : Chg} (h : DPl s ch) (n : Int) : DPl (s.lim n) ch := ⟨h.view, h.sz1, h.sz2, h.inG, h.inC, h.inP, h.lenG, h.lenC, h.lenP⟩
theorem new_pl {n : Nat} (h1 : 1 ≤ n) (h2 : n ≤ 65536) : DPl (Dk.new n) (fun _ => none) := ⟨rfl, h1, h2, fun _ h => absurd rfl h, fun _ h => absurd rfl h, fun _ ho => by simp [Dk.new] at ho, fun _ _ hi => by simp [Dk.new] at hi, fun _ _ hi => by simp at hi, fun _ ho => by simp [Dk.new] at ho⟩

/-! ### in memory -/
/-- a sector's state as a value -/
def stV (s : Option (List UInt8)) : Value := .agg #[.bool s.isSome, .string (bst (s.getD []))]
def gT (g : Secs) : TabF := fun i => (g i).map fun b => stV (some b)
def cT (c : Chg) : TabF := fun i => (c i).map stV
theorem gT_upd (g : Secs) (i : Int) (b : List UInt8) : updT (gT g) i (some (stV (some b))) = gT (upd g i (some b)) := by
  funext j; unfold updT gT upd; by_cases h : j = i
  · rw [if_pos h, if_pos h]; rfl
  · rw [if_neg h, if_neg h]
theorem gT_del (g : Secs) (i : Int) : updT (gT g) i none = gT (upd g i none) := by
  funext j; unfold updT gT upd; by_cases h : j = i
  · rw [if_pos h, if_pos h]; rfl
  · rw [if_neg h, if_neg h]
theorem cT_upd (c : Chg) (i : Int) (v : Option (List UInt8)) : updT (cT c) i (some (stV v)) = cT (updC c i v) := by
  funext j; unfold updT cT updC; by_cases h : j = i
  · rw [if_pos h, if_pos h]; rfl
  · rw [if_neg h, if_neg h]
theorem gT_some (g : Secs) (i : Int) : (gT g i).isSome = (g i).isSome := by unfold gT; cases g i <;> rfl
/-- how many entries the ground has behind a store, behind a delete -/
theorem ground_put {n : Nat} {g : Secs} {i : Int} (h0 : 0 ≤ i) (h1 : i < (n : Int)) (b : List UInt8) : (if (gT g i).isSome then cnt n g else cnt n g + 1) = cnt n (upd g i (some b)) := by
  have := cnt_upd (n := n) (m := g) (some b) h0 h1
  rw [gT_some]
  cases hg : (g i).isSome <;> rw [hg] at this <;> simp at this ⊢ <;> omega
theorem ground_del {n : Nat} {g : Secs} {i : Int} (h0 : 0 ≤ i) (h1 : i < (n : Int)) : (if (gT g i).isSome then cnt n g - 1 else cnt n g) = cnt n (upd g i none) := by
  have := cnt_upd (n := n) (m := g) none h0 h1
  rw [gT_some]
  cases hg : (g i).isSome <;> rw [hg] at this <;> simp at this ⊢ <;> omega

/-- a closure that is pending: its boxes are among R -/
def OpV (w : World) (R : Nat → Prop) (o : POp) (f : Value) : Prop :=
  ∃ bi, R bi ∧ Blk w bi 3 #[.int .i64 o.i] ∧ match o.b with
    | some b => ∃ bb, R bb ∧ Blk w bb 9 #[.string (bst b)] ∧ f = .func (.func 85) #[] #[.pointer (some ⟨bb, 0, none⟩), .pointer (some ⟨bi, 0, none⟩)]
    | none => f = .func (.func 79) #[] #[.pointer (some ⟨bi, 0, none⟩)]
theorem OpV.keep {w w' : World} {R : Nat → Prop} {o : POp} {f : Value} (h : OpV w R o f) (hk : ∀ k, R k → w'.heap[k]? = w.heap[k]?) : OpV w' R o f := by
  obtain ⟨bi, hr, hb, hm⟩ := h
  refine ⟨bi, hr, (hk bi hr).trans hb, ?_⟩
  cases hob : o.b with
  | none => rw [hob] at hm; exact hm
  | some b =>
    rw [hob] at hm
    obtain ⟨bb, hr2, hb2, e⟩ := hm
    exact ⟨bb, hr2, (hk bb hr2).trans hb2, e⟩
theorem OpV.more {w : World} {R R' : Nat → Prop} {o : POp} {f : Value} (h : OpV w R o f) (hr : ∀ k, R k → R' k) : OpV w R' o f := by
  obtain ⟨bi, h1, hb, hm⟩ := h
  refine ⟨bi, hr _ h1, hb, ?_⟩
  cases hob : o.b with
  | none => rw [hob] at hm; exact hm
  | some b =>
    rw [hob] at hm
    obtain ⟨bb, h2, hb2, e⟩ := hm
    exact ⟨bb, hr _ h2, hb2, e⟩
theorem OpV.one {w : World} {R : Nat → Prop} {o : POp} {f : Value} (h : OpV w R o f) : f.oneCell' = true := by
  obtain ⟨bi, _, _, hm⟩ := h
  cases hob : o.b with
  | none => rw [hob] at hm; rw [hm]; rfl
  | some b =>
    rw [hob] at hm
    obtain ⟨bb, _, _, e⟩ := hm
    rw [e]; rfl
/-- the closures of what is pending, in order -/
structure Ops (w : World) (R : Nat → Prop) (os : List POp) (fs : List Value) : Prop where
  len : fs.length = os.length
  at_ : ∀ (k : Nat) (o : POp) (f : Value), os[k]? = some o → fs[k]? = some f → OpV w R o f
theorem Ops.keep {w w' : World} {R : Nat → Prop} {os : List POp} {fs : List Value} (h : Ops w R os fs) (hk : ∀ k, R k → w'.heap[k]? = w.heap[k]?) : Ops w' R os fs := ⟨h.len, fun k o f h1 h2 => (h.at_ k o f h1 h2).keep hk⟩
theorem Ops.nil (w : World) (R : Nat → Prop) : Ops w R [] [] := ⟨rfl, fun k o f h => by simp at h⟩
theorem Ops.snoc {w w' : World} {R R' : Nat → Prop} {os : List POp} {fs : List Value} {o : POp} {f : Value} (h : Ops w R os fs) (hk : ∀ k, R k → w'.heap[k]? = w.heap[k]?) (hr : ∀ k, R k → R' k) (hf : OpV w' R' o f) : Ops w' R' (os ++ [o]) (fs ++ [f]) := by
  refine ⟨by simp [h.len], fun k p q h1 h2 => ?_⟩
  by_cases hkl : k < os.length
  · rw [List.getElem?_append_left hkl] at h1
    rw [List.getElem?_append_left (by rw [h.len]; exact hkl)] at h2
    exact ((h.at_ k p q h1 h2).keep hk).more hr
  · rw [List.getElem?_append_right (by omega)] at h1
    rw [List.getElem?_append_right (by rw [h.len]; omega), h.len] at h2
    obtain ⟨h3, h4⟩ := List.getElem?_eq_some_iff.1 h1
    have : k - os.length = 0 := by simp at h3; omega
    rw [this] at h1 h2
    simp at h1 h2
    subst h1 h2
    exact hf

/-- a row of closures: its block is among M -/
structure PRow (w : World) (M : Nat → Prop) (A : Option Addr) (n c : Nat) (fs : List Value) : Prop where
  len : n = fs.length
  own : w.ownsRow 0 90 1 (.slice A n c) n fs
  mine : ∀ g, (Value.slice A n c).ownBlock = some g → M g
theorem PRow.keep {w w' : World} {M : Nat → Prop} {A : Option Addr} {n c : Nat} {fs : List Value} (h : PRow w M A n c fs) (hk : ∀ k, M k → w'.heap[k]? = w.heap[k]?) : PRow w' M A n c fs := by
  refine ⟨h.len, ⟨h.own.1, ?_⟩, h.mine⟩
  rcases h.own.2 with h0 | ⟨g, cap, cur, hv, hg, hc, r⟩
  · exact .inl h0
  · exact .inr ⟨g, cap, cur, hv, hg, (hk g (h.mine g (by rw [hv]; rfl))).trans hc, r⟩
theorem PRow.more {w : World} {M M' : Nat → Prop} {A : Option Addr} {n c : Nat} {fs : List Value} (h : PRow w M A n c fs) (hm : ∀ k, M k → M' k) : PRow w M' A n c fs := ⟨h.len, h.own, fun g hg => hm g (h.mine g hg)⟩
theorem PRow.nil (w : World) (M : Nat → Prop) : PRow w M none 0 0 [] := ⟨rfl, World.ownsRow_nil _ _ _ _, fun g h => by cases h⟩
theorem PRow.get {w : World} {M : Nat → Prop} {A : Option Addr} {n c k : Nat} {fs : List Value} (h : PRow w M A n c fs) (hk : k < n) : ∃ g f, A = some ⟨g, 0, none⟩ ∧ M g ∧ fs[k]? = some f ∧ w.cell? ⟨g, k, none⟩ = some f := by
  rcases h.own.2 with ⟨_, h0⟩ | ⟨g, cap, cur, hv, _, hg, _⟩
  · omega
  · have hA : A = some ⟨g, 0, none⟩ := by injection hv
    have hf : fs[k]? = some (fs[k]'(by have := h.len; omega)) := List.getElem?_eq_getElem _
    refine ⟨g, _, hA, h.mine g (by rw [hv]; rfl), hf, ?_⟩
    have e1 := h.own.cells (g := g) (by rw [hA]; rfl) _ _ hf
    have ea : (⟨g, 0, none⟩ : Addr).add k = ⟨g, 0 + k, none⟩ := by unfold Addr.add; split <;> simp_all
    rw [ea, Nat.zero_add] at e1
    exact e1

/-- the disk at block d: its ground in block g, what has changed in block c, what is pending in a row -/
structure DIn (w : World) (d g c : Nat) (A : Option Addr) (n cap : Nat) (ch : Chg) (nc : Nat) (fs : List Value) (M R : Nat → Prop) (s : Dk) : Prop where
  blk : Blk w d 64 #[.int .i64 (s.size : Int), .int .i64 s.limit, .int .i64 (s.used : Int), .map (some g), .map (some c), .slice A n cap]
  gt : Tab w g (gT s.ground) (cnt s.size s.ground)
  ct : Tab w c (cT ch) nc
  row : PRow w M A n cap fs
  ops : Ops w R s.pend fs
  md : M d
  mg : M g
  mc : M c
  gc : g ≠ c
  lt : ∀ k, M k ∨ R k → k < w.heap.size
  mr : ∀ k, M k → ¬ R k
  pl : DPl s ch
def DA6 (w : World) (d : Nat) (M R : Nat → Prop) (s : Dk) : Prop := ∃ g c A n cap ch nc fs, DIn w d g c A n cap ch nc fs M R s
theorem DIn.keep {w w' : World} {d g c n cap nc : Nat} {A : Option Addr} {ch : Chg} {fs : List Value} {M R : Nat → Prop} {s : Dk} (h : DIn w d g c A n cap ch nc fs M R s) (hs : w.heap.size ≤ w'.heap.size) (hk : ∀ k, M k ∨ R k → w'.heap[k]? = w.heap[k]?) : DIn w' d g c A n cap ch nc fs M R s :=
  ⟨(hk d (.inl h.md)).trans h.blk, h.gt.of_block (hk g (.inl h.mg)), h.ct.of_block (hk c (.inl h.mc)), h.row.keep (fun k hm => hk k (.inl hm)), h.ops.keep (fun k hr => hk k (.inr hr)), h.md, h.mg, h.mc, h.gc, fun k hm => Nat.lt_of_lt_of_le (h.lt k hm) hs, h.mr, h.pl⟩
theorem DIn.below {w w' : World} {d g c n cap nc : Nat} {A : Option Addr} {ch : Chg} {fs : List Value} {M R : Nat → Prop} {s : Dk} (h : DIn w d g c A n cap ch nc fs M R s) (hb : Below w.heap.size w w') : DIn w' d g c A n cap ch nc fs M R s :=
  h.keep hb.size fun k hk => hb.block k (h.lt k hk)

/-- a disk's cells -/
theorem six {w : World} {b : Nat} {t : TypeId} {a0 a1 a2 a3 a4 a5 : Value} (h : Blk w b t #[a0, a1, a2, a3, a4, a5]) :
    w.cell? ⟨b, 0, none⟩ = some a0 ∧ w.cell? ⟨b, 1, none⟩ = some a1 ∧ w.cell? ⟨b, 2, none⟩ = some a2 ∧ w.cell? ⟨b, 3, none⟩ = some a3 ∧ w.cell? ⟨b, 4, none⟩ = some a4 ∧ w.cell? ⟨b, 5, none⟩ = some a5 ∧
      w.frozen? ⟨b, 1, none⟩ = false ∧ w.frozen? ⟨b, 2, none⟩ = false ∧ w.frozen? ⟨b, 4, none⟩ = false ∧ w.frozen? ⟨b, 5, none⟩ = false :=
  ⟨h.cell 0, h.cell 1, h.cell 2, h.cell 3, h.cell 4, h.cell 5, h.free 1, h.free 2, h.free 4, h.free 5⟩

/-- the world has turned in M and in new blocks alone -/
structure Within (M : Nat → Prop) (w w' : World) : Prop where
  os : w'.os = w.os
  tape : w'.tape = w.tape
  output : w'.output = w.output
  size : w.heap.size ≤ w'.heap.size
  block : ∀ k, k < w.heap.size → ¬ M k → w'.heap[k]? = w.heap[k]?
theorem Within.of_only {M : Nat → Prop} {w w' : World} {r : Nat} (h : Only r w w') (hr : M r ∨ w.heap.size ≤ r) : Within M w w' := ⟨h.os, h.tape, h.output, h.size, fun k hk hm => h.block k hk (fun e => by
  injection e with e; subst e; exact hr.elim hm (fun h => by omega))⟩
theorem Within.of_below {M : Nat → Prop} {w w' : World} (h : Below w.heap.size w w') : Within M w w' := ⟨h.os, h.tape, h.output, h.size, fun k hk _ => h.block k hk⟩
theorem Within.refl (M : Nat → Prop) (w : World) : Within M w w := ⟨rfl, rfl, rfl, Nat.le_refl _, fun _ _ _ => rfl⟩
theorem Within.trans {M : Nat → Prop} {a b c : World} (h : Within M a b) (k : Within M b c) : Within M a c :=
  ⟨k.os.trans h.os, k.tape.trans h.tape, k.output.trans h.output, Nat.le_trans h.size k.size, fun i hi hm => (k.block i (Nat.lt_of_lt_of_le hi h.size) hm).trans (h.block i hi hm)⟩
theorem Within.only {M : Nat → Prop} {a b c : World} {r : Nat} (h : Within M a b) (k : Only r b c) (hr : M r ∨ a.heap.size ≤ r) : Within M a c :=
  ⟨k.os.trans h.os, k.tape.trans h.tape, k.output.trans h.output, Nat.le_trans h.size k.size, fun i hi hm => (k.block i (Nat.lt_of_lt_of_le hi h.size) (fun e => by
    injection e with e; subst e; exact hr.elim hm (fun h => by omega))).trans (h.block i hi hm)⟩
theorem Within.turns {M R M' R' : Nat → Prop} {w w' : World} (h : Within M w w') (ho : ∀ k, M' k → M k ∨ w.heap.size ≤ k) (hr : ∀ k, R' k → R k ∨ w.heap.size ≤ k) : Turns M R w M' R' w' := ⟨h.os, h.tape, h.output, h.size, h.block, ho, hr⟩

/-! ### maps at the operations -/
section
variable {P : Program} (w : World) {ops : Array Oper} {rest : List Oper} {o : Oper} {a : Act} {Q : Exit → Act → World → Prop}
theorem wpList_lookOk (hg : o.guard = none) (m x : Operand) (t : TypeId) (hop : o.op = Op.lookup t m x true) (k e : TypeId) (ht : P.underlying t = some (.map k e)) (hk : P.underlying k = some (.int .i64)) {z : Value} (hz : (zeroValue e).run P w = .ok z w)
    {b n : Nat} {T : TabF} (hm : a.eval m = .map (some b)) (h : Tab w b T n) (i : Int) (hx : a.eval x = .int .i64 i) {v : Value} {q : Bool} (hv : (T i).getD z = v) (hq : (T i).isSome = q)
    (hK : wpList P ops Q rest (a.put o.dst (.tuple #[v, .bool q])) w) : wpList P ops Q (o :: rest) a w := by
  refine wpList_plain hg fun K' hK' => ?_
  have hrun := h.look ht hk hz i true
  rw [hv, hq] at hrun
  unfold Oper.wp
  simp [execOp, hop, hm, hx, hrun, Result.andThen]
  exact hK' _ _ hK
theorem wpList_look (hg : o.guard = none) (m x : Operand) (t : TypeId) (hop : o.op = Op.lookup t m x false) (k e : TypeId) (ht : P.underlying t = some (.map k e)) (hk : P.underlying k = some (.int .i64)) {z : Value} (hz : (zeroValue e).run P w = .ok z w)
    {b n : Nat} {T : TabF} (hm : a.eval m = .map (some b)) (h : Tab w b T n) (i : Int) (hx : a.eval x = .int .i64 i) {v : Value} (hv : (T i).getD z = v)
    (hK : wpList P ops Q rest (a.put o.dst v) w) : wpList P ops Q (o :: rest) a w := by
  refine wpList_plain hg fun K' hK' => ?_
  have hrun := h.look ht hk hz i false
  rw [hv] at hrun
  unfold Oper.wp
  simp [execOp, hop, hm, hx, hrun, Result.andThen]
  exact hK' _ _ hK
theorem wpList_put (hg : o.guard = none) (m x y : Operand) (t : TypeId) (hop : o.op = Op.mapUpdate t m x y) (k e : TypeId) (ht : P.underlying t = some (.map k e)) (hk : P.underlying k = some (.int .i64))
    {b n : Nat} {T : TabF} (hm : a.eval m = .map (some b)) (h : Tab w b T n) (i : Int) (hx : a.eval x = .int .i64 i) (v : Value) (hy : a.eval y = v)
    (hK : ∀ w', Tab w' b (updT T i (some v)) (if (T i).isSome then n else n + 1) → Only b w w' → w'.heap.size = w.heap.size → wpList P ops Q rest (a.put o.dst undef) w') : wpList P ops Q (o :: rest) a w := by
  refine wpList_plain hg fun K' hK' => ?_
  obtain ⟨w', hrun, h1, h2, h3⟩ := h.store ht hk i v
  unfold Oper.wp
  simp [execOp, hop, hm, hx, hy, hrun, Result.andThen]
  exact hK' _ _ (hK w' h1 h2 h3)
theorem wpList_drop (hg : o.guard = none) (m x : Operand) (t k : TypeId) (hop : o.op = Op.call { callee := Callee.builtin Builtin.delete, args := #[m, x], argTypes := #[t, k] }) (e : TypeId) (ht : P.underlying t = some (.map k e)) (hk : P.underlying k = some (.int .i64))
    {b n : Nat} {T : TabF} (hm : a.eval m = .map (some b)) (h : Tab w b T n) (i : Int) (hx : a.eval x = .int .i64 i)
    (hK : ∀ w', Tab w' b (updT T i none) (if (T i).isSome then n - 1 else n) → Only b w w' → w'.heap.size = w.heap.size → wpList P ops Q rest (a.put o.dst (.tuple #[])) w') : wpList P ops Q (o :: rest) a w := by
  refine wpList_plain hg fun K' hK' => ?_
  obtain ⟨w', hrun, h1, h2, h3⟩ := h.drop ht hk i o.type
  unfold Oper.wp
  simp [execOp, hop, resolve, invoke, builtin, hm, hx, hrun, Result.andThen]
  exact hK' _ _ (hK w' h1 h2 h3)
theorem wpList_lenT (hg : o.guard = none) (m : Operand) (t : TypeId) (hop : o.op = Op.call { callee := Callee.builtin Builtin.len, args := #[m], argTypes := #[t] }) (k e : TypeId) (ht : P.underlying t = some (.map k e))
    {b n : Nat} {T : TabF} (hm : a.eval m = .map (some b)) (h : Tab w b T n)
    (hK : wpList P ops Q rest (a.put o.dst (.int .i64 (n : Int))) w) : wpList P ops Q (o :: rest) a w := by
  refine wpList_plain hg fun K' hK' => ?_
  unfold Oper.wp
  simp [execOp, hop, resolve, invoke, builtin, hm, h.len ht o.type, Result.andThen]
  exact hK' _ _ hK
theorem wpList_rangeT (hg : o.guard = none) (m : Operand) (t : TypeId) (hop : o.op = Op.range t m) (k e : TypeId) (ht : P.underlying t = some (.map k e)) {b n : Nat} {T : TabF} (hm : a.eval m = .map (some b)) (h : Tab w b T n)
    (hK : ∀ w', Ranging w' b w.heap.size T n (fun i => (T i).isSome) n → Below w.heap.size w w' → wpList P ops Q rest (a.put o.dst (.pointer (some ⟨w.heap.size, 0, none⟩))) w') : wpList P ops Q (o :: rest) a w := by
  refine wpList_plain hg fun K' hK' => ?_
  obtain ⟨w', hrun, r1, r2⟩ := h.range ht
  unfold Oper.wp
  simp [execOp, hop, hm, hrun, Result.andThen]
  exact hK' _ _ (hK w' r1 r2)
theorem wpList_nextT (hg : o.guard = none) (it : Operand) (hop : o.op = Op.next it false) {b r n cnt : Nat} {T : TabF} {left : Int → Bool} (hit : a.eval it = .pointer (some ⟨r, 0, none⟩)) (h : Ranging w b r T n left cnt)
    (hDone : (∀ i, left i = false) → wpList P ops Q rest (a.put o.dst (.tuple #[.bool false])) w)
    (hMore : ∀ (i : Int) (v : Value) (w' : World) (cnt' : Nat), T i = some v → left i = true → Ranging w' b r T n (fun j => left j && !decide (j = i)) cnt' → cnt' < cnt → Only r w w' →
      (Instr.entry (.pointer (some ⟨r, 0, none⟩))).run P w' = .ok (.tuple #[.int .i64 i, v]) w' → wpList P ops Q rest (a.put o.dst (.tuple #[.bool true, .int .i64 i, v])) w') : wpList P ops Q (o :: rest) a w := by
  refine wpList_plain hg fun K' hK' => ?_
  unfold Oper.wp
  rcases h.next (P := P) o.type with ⟨hl, hrun⟩ | ⟨i, v, w', cnt', hrun, hv, hl, hrg, hlt, ho, hen⟩
  · simp [execOp, hop, hit, hrun, Result.andThen]
    exact hK' _ _ (hDone hl)
  · simp [execOp, hop, hit, hrun, Result.andThen]
    exact hK' _ _ (hMore i v w' cnt' hv hl hrg hlt ho hen)
end
theorem zero_state (w : World) : (zeroValue 96).run Tryd.prog w = .ok (stV none) w := by kernel_rfl
theorem zero_int (w : World) : (zeroValue 3).run Tryd.prog w = .ok (.int .i64 0) w := by kernel_rfl

end Go.Proofs.YtngclmjefadokaaDoor

namespace Go.Proofs.YtngclmjefadokaaDoor
open Go Go.RowKit

set_option maxHeartbeats 1000000 in
set_option maxRecDepth 100000 in
theorem view_is {w : World} {d g c n cap nc : Nat} {A : Option Addr} {ch : Chg} {fs : List Value} {M R : Nat → Prop} {s : Dk} (h : DIn w d g c A n cap ch nc fs M R s) (i : Int) :
    Calls Tryd.prog 54 #[.pointer (some ⟨d, 0, none⟩), .int .i64 i] w fun e w' => e = .returned (stV (s.view i)) ∧ Below w.heap.size w w' := by
  have HC := hid h.ct
  have HG := hid h.gt
  have hd := h.lt d (.inl h.md)
  obtain ⟨d0, d1, d2, d3, d4, d5, _, _, _, _⟩ := six h.blk
  have hv := congrFun h.pl.view i
  unfold over at hv
  clear h
  cases hc : ch i with
  | some st =>
    rw [hc] at hv
    rw [hv]
    clear hv
    have hst : stV st = .agg #[.bool st.isSome, .string (bst (st.getD []))] := rfl
    rw [hst]
    have HL := hid (show (cT ch i).getD (stV none) = .agg #[.bool st.isSome, .string (bst (st.getD []))] ∧ (cT ch i).isSome = true by unfold cT; rw [hc]; exact ⟨rfl, rfl⟩)
    clear hc hst
    generalize st.isSome = u at HL ⊢
    generalize bst (st.getD []) = x at HL ⊢
    go_enter Tryd.func54, Tryd.ntmps54
    go_wp2_with (at_lookup; refine wpList_lookOk _ rfl _ _ 61 rfl 3 96 Tryd.underlying61 Tryd.underlying3 (zero_state _) rfl (HC.out.alloc _) i rfl HL.out.1 HL.out.2 ?_)
    have hb : Below w.heap.size w ((w.alloc (.cells #[.bool u, .string x] 96)).alloc (.cells #[.bool u, .string x] 96)) := ((Below.refl _ _).alloc (Nat.le_refl _) _).alloc (by simp) _
    exact bodyPost_ret (v := .agg #[.bool u, .string x]) (by simp [results, Tryd.results54, go_sem]) rfl ⟨rfl, hb⟩
  | none =>
    rw [hc] at hv
    rw [hv]
    clear hv
    have HN := hid (show (cT ch i).getD (stV none) = .agg #[.bool false, .string ⟨#[]⟩] ∧ (cT ch i).isSome = false by unfold cT; rw [hc]; exact ⟨rfl, rfl⟩)
    have hst : stV (s.ground i) = .agg #[.bool (s.ground i).isSome, .string (bst ((s.ground i).getD []))] := rfl
    rw [hst]
    have HL := hid (show (gT s.ground i).getD (stV none) = .agg #[.bool (s.ground i).isSome, .string (bst ((s.ground i).getD []))] by unfold gT; cases s.ground i <;> rfl)
    clear hc hst
    generalize (s.ground i).isSome = u at HL ⊢
    generalize bst ((s.ground i).getD []) = x at HL ⊢
    go_enter Tryd.func54, Tryd.ntmps54
    go_wp2_with (first
      | (at_lookup; refine wpList_lookOk _ rfl _ _ 61 rfl 3 96 Tryd.underlying61 Tryd.underlying3 (zero_state _) rfl (HC.out.alloc _) i rfl HN.out.1 HN.out.2 ?_)
      | (at_lookup; refine wpList_look _ rfl _ _ 61 rfl 3 96 Tryd.underlying61 Tryd.underlying3 (zero_state _) rfl ((HG.out.alloc _).alloc _) i rfl HL.out ?_))
    have hb : Below w.heap.size w ((w.alloc (.cells #[.bool u, .string x] 96)).alloc (.cells #[.bool false, .string ⟨#[]⟩] 96)) := ((Below.refl _ _).alloc (Nat.le_refl _) _).alloc (by simp) _
    exact bodyPost_ret (v := .agg #[.bool u, .string x]) (by simp [results, Tryd.results54, go_sem]) rfl ⟨rfl, hb⟩

end Go.Proofs.YtngclmjefadokaaDoor

namespace Go.Proofs.YtngclmjefadokaaDoor
open Go Go.RowKit

theorem PRow.of_block {w w' : World} {M : Nat → Prop} {A : Option Addr} {n c : Nat} {fs : List Value} (h : PRow w M A n c fs) (hk : ∀ g, (Value.slice A n c).ownBlock = some g → w'.heap[g]? = w.heap[g]?) : PRow w' M A n c fs := by
  refine ⟨h.len, ⟨h.own.1, ?_⟩, h.mine⟩
  rcases h.own.2 with h0 | ⟨g, cap, cur, hv, hg, hc, r⟩
  · exact .inl h0
  · exact .inr ⟨g, cap, cur, hv, hg, (hk g (by rw [hv]; rfl)).trans hc, r⟩
theorem PRow.ne {w : World} {M : Nat → Prop} {A : Option Addr} {n c d : Nat} {fs : List Value} {t : TypeId} {cs : Array Value} (h : PRow w M A n c fs) (hb : Blk w d t cs) (hne : 90 ≠ t) : ∀ g, (Value.slice A n c).ownBlock = some g → g ≠ d := by
  intro g hg
  rcases h.own.2 with ⟨hv, _⟩ | ⟨g', cap, cur, hv, _, hc, _⟩
  · rw [hv] at hg; cases hg
  · rw [hv] at hg
    injection hg with hg
    have e : g' = g := hg
    subst e
    rintro rfl
    unfold Blk at hb
    rw [hc] at hb
    injection hb with hb
    injection hb with _ ht
    exact hne ht
theorem PRow.ne_tab {w : World} {M : Nat → Prop} {A : Option Addr} {n c b k : Nat} {T : TabF} {fs : List Value} (h : PRow w M A n c fs) (hb : Tab w b T k) : ∀ g, (Value.slice A n c).ownBlock = some g → g ≠ b := by
  intro g hg
  rcases h.own.2 with ⟨hv, _⟩ | ⟨g', cap, cur, hv, _, hc, _⟩
  · rw [hv] at hg; cases hg
  · rw [hv] at hg
    injection hg with hg
    have e : g' = g := hg
    subst e
    rintro rfl
    obtain ⟨es, clock, he, _⟩ := hb.out
    rw [hc] at he
    cases he
theorem PRow.lt {w : World} {M : Nat → Prop} {A : Option Addr} {n c : Nat} {fs : List Value} (h : PRow w M A n c fs) : ∀ g, (Value.slice A n c).ownBlock = some g → g < w.heap.size := by
  intro g hg
  rcases h.own.2 with ⟨hv, _⟩ | ⟨g', cap, cur, hv, _, hc, _⟩
  · rw [hv] at hg; cases hg
  · rw [hv] at hg
    injection hg with hg
    have e : g' = g := hg
    subst e
    exact (Array.getElem?_eq_some_iff.1 hc).1
theorem PRow.only {w w' : World} {M : Nat → Prop} {A : Option Addr} {n c r : Nat} {fs : List Value} (h : PRow w M A n c fs) (ho : Only r w w') (hr : ∀ g, (Value.slice A n c).ownBlock = some g → g ≠ r) : PRow w' M A n c fs :=
  h.of_block fun g hg => ho.block g (h.lt g hg) (fun e => by injection e with e; exact hr g hg e)
theorem PRow.below {w w' : World} {M : Nat → Prop} {A : Option Addr} {n c : Nat} {fs : List Value} (h : PRow w M A n c fs) (hb : Below w.heap.size w w') : PRow w' M A n c fs := h.of_block fun g hg => hb.block g (h.lt g hg)

set_option maxHeartbeats 1000000 in
set_option maxRecDepth 100000 in
theorem used_is {w : World} {d g c n cap nc : Nat} {A : Option Addr} {ch : Chg} {fs : List Value} {M R : Nat → Prop} {s : Dk} (h : DIn w d g c A n cap ch nc fs M R s) :
    Calls Tryd.prog 18 #[.pointer (some ⟨d, 0, none⟩)] w fun e w' => e = .returned (.int .i64 (s.used : Int)) ∧ Below w.heap.size w w' := by
  obtain ⟨d0, d1, d2, d3, d4, d5, _, _, _, _⟩ := six h.blk
  clear h
  go_enter Tryd.func18, Tryd.ntmps18
  go_wp2_with fail
  go_ret
  exact ⟨rfl, Below.refl _ _⟩

set_option maxHeartbeats 1000000 in
set_option maxRecDepth 100000 in
theorem pending_is {w : World} {d g c n cap nc : Nat} {A : Option Addr} {ch : Chg} {fs : List Value} {M R : Nat → Prop} {s : Dk} (h : DIn w d g c A n cap ch nc fs M R s) :
    Calls Tryd.prog 19 #[.pointer (some ⟨d, 0, none⟩)] w fun e w' => e = .returned (.int .i64 (s.pend.length : Int)) ∧ Below w.heap.size w w' := by
  obtain ⟨d0, d1, d2, d3, d4, d5, _, _, _, _⟩ := six h.blk
  have hn : n = s.pend.length := h.row.len.trans h.ops.len
  clear h
  go_enter Tryd.func19, Tryd.ntmps19
  go_wp2_with fail
  go_ret
  exact ⟨rfl, Below.refl _ _⟩

set_option maxHeartbeats 1000000 in
set_option maxRecDepth 100000 in
theorem limit_is {w : World} {d g c n cap nc : Nat} {A : Option Addr} {ch : Chg} {fs : List Value} {M R : Nat → Prop} {s : Dk} (h : DIn w d g c A n cap ch nc fs M R s) (k : Int) :
    Calls Tryd.prog 12 #[.pointer (some ⟨d, 0, none⟩), .int .i64 k] w fun e w' => e = .returned (.tuple #[]) ∧ DIn w' d g c A n cap ch nc fs M R (s.lim k) ∧ Only d w w' := by
  obtain ⟨d0, d1, d2, d3, d4, d5, f1, _, _, _⟩ := six h.blk
  have HH := hid h
  clear h
  go_enter Tryd.func12, Tryd.ntmps12
  go_wp2_with fail
  go_end0
  have h := HH.out
  have ho : Only d w (w.setCell ⟨d, 1, none⟩ (.int .i64 k)) := (Only.refl _ _).set _
  exact ⟨rfl, ⟨(show Blk _ d _ #[.int .i64 (s.size : Int), .int .i64 k, .int .i64 (s.used : Int), .map (some g), .map (some c), .slice A n cap] from by simpa using h.blk.set 1 (.int .i64 k)), h.gt.only ho (h.gt.ne_blk h.blk), h.ct.only ho (h.ct.ne_blk h.blk), h.row.only ho (h.row.ne h.blk (by decide)), h.ops.keep (fun k hk => ho.block k (h.lt k (.inr hk)) (fun e => by injection e with e; subst e; exact h.mr _ h.md hk)),
    h.md, h.mg, h.mc, h.gc, fun k hk => by simpa using h.lt k hk, h.mr, h.pl.lim k⟩, ho⟩

set_option maxHeartbeats 1000000 in
set_option maxRecDepth 100000 in
theorem read_is {w : World} {d g c n cap nc : Nat} {A : Option Addr} {ch : Chg} {fs : List Value} {M R : Nat → Prop} {s : Dk} (h : DIn w d g c A n cap ch nc fs M R s) (i : Int) :
    Calls Tryd.prog 35 #[.pointer (some ⟨d, 0, none⟩), .int .i64 i] w fun e w' =>
      (match s.view i with
        | some b => ∃ A n c, e = .returned (.tuple #[.slice A n c, .int .i64 0]) ∧ At w' w'.heap.size A b ∧ n = b.length ∧ n ≤ c
        | none => e = .returned (.tuple #[.slice none 0 0, .int .i64 61])) ∧ Below w.heap.size w w' := by
  have HV := hid (view_is h i)
  clear h
  cases hv : s.view i with
  | none =>
    rw [hv] at HV
    rw [show stV none = .agg #[.bool false, .string ⟨#[]⟩] from rfl] at HV
    clear hv
    go_enter Tryd.func35, Tryd.ntmps35
    go_wp2_with fail
    go_fit HV.out
    rintro e w1 ⟨rfl, hb⟩
    have HB := hid hb
    clear hb
    go_wp2_with fail
    go_ret2
    exact ⟨rfl, HB.out.alloc HB.out.size _⟩
  | some b =>
    rw [hv] at HV
    rw [show stV (some b) = .agg #[.bool true, .string (bst b)] from rfl] at HV
    clear hv
    go_enter Tryd.func35, Tryd.ntmps35
    go_wp2_with fail
    go_fit HV.out
    rintro e w1 ⟨rfl, hb⟩
    have HB := hid hb
    clear hb
    go_wp2_with (with_reducible refine wpList_bytes_of _ rfl (.tmp 14) 9 98 5 rfl Tryd.underlying9 Tryd.underlying98 Tryd.underlying5 b rfl ?_)
    intro A2 c2 w2 hc hA hb2
    have HX := hid (And.intro hc (And.intro hA ((HB.out.alloc HB.out.size (.cells #[.bool true, .string (bst b)] 96)).trans (hb2.mono (by have := HB.out.size; omega)))))
    clear hc hA hb2
    go_wp2_with fail
    go_ret2
    exact ⟨⟨_, _, _, rfl, HX.out.2.1, rfl, HX.out.1⟩, HX.out.2.2⟩

set_option maxHeartbeats 1000000 in
set_option maxRecDepth 100000 in
theorem settle_is {w : World} {d g c n cap ng : Nat} {A : Option Addr} {a0 a1 a2 : Value} {T : TabF} (hb : Blk w d 64 #[a0, a1, a2, .map (some g), .map (some c), .slice A n cap]) (hg : Tab w g T ng) :
    Calls Tryd.prog 31 #[.pointer (some ⟨d, 0, none⟩)] w fun e w' => e = .returned (.tuple #[]) ∧
      Blk w' d 64 #[a0, a1, .int .i64 (ng : Int), .map (some g), .map (some w.heap.size), .slice none 0 0] ∧ Tab w' w.heap.size (fun _ => none) 0 ∧ Only d w w' := by
  have hd := hb.lt
  have HB := hid hb
  have HG := hid hg
  obtain ⟨d0, d1, d2, d3, d4, d5, f1, f2, f4, f5⟩ := six hb
  have hmm := @run_makeMap Tryd.prog
  clear hb hg
  go_enter Tryd.func31, Tryd.ntmps31
  go_wp2_with (at_len; refine wpList_lenT _ rfl _ 61 rfl 3 96 Tryd.underlying61 rfl HG.out ?_)
  go_end0
  have es : (((w.setCell ⟨d, 2, none⟩ (.int .i64 (ng : Int))).setCell ⟨d, 4, none⟩ (.map (some w.heap.size))).setCell ⟨d, 5, none⟩ (.slice none 0 0)).heap.size = w.heap.size := by simp
  have b3 := ((HB.out.set 2 (.int .i64 (ng : Int))).set 4 (.map (some w.heap.size))).set 5 (.slice none 0 0)
  have o3 : Only d w (((w.setCell ⟨d, 2, none⟩ (.int .i64 (ng : Int))).setCell ⟨d, 4, none⟩ (.map (some w.heap.size))).setCell ⟨d, 5, none⟩ (.slice none 0 0)) := (((Only.refl _ _).set _).set _).set _
  have t0 := Tab.made (((w.setCell ⟨d, 2, none⟩ (.int .i64 (ng : Int))).setCell ⟨d, 4, none⟩ (.map (some w.heap.size))).setCell ⟨d, 5, none⟩ (.slice none 0 0))
  rw [es] at t0
  exact ⟨rfl, by simpa using b3.alloc (.map #[] 0), t0, o3.alloc _⟩

set_option maxHeartbeats 1000000 in
set_option maxRecDepth 100000 in
theorem new_no {n : Int} {w : World} (h : n < 1 ∨ 65536 < n) : Calls Tryd.prog 6 #[.int .i64 n] w fun e w' => e = .returned (.tuple #[.pointer none, .int .i64 60]) ∧ Below w.heap.size w w' := by
  by_cases h1 : n < 1
  · go_enter Tryd.func6, Tryd.ntmps6
    go_wp2_with fail
    go_ret2
    exact ⟨rfl, Below.refl _ _⟩
  · have h2 : 65536 < n := by omega
    clear h
    go_enter Tryd.func6, Tryd.ntmps6
    go_wp2_with fail
    go_ret2
    exact ⟨rfl, Below.refl _ _⟩
set_option maxHeartbeats 1000000 in
set_option maxRecDepth 100000 in
theorem new_yes {n : Nat} {w : World} (h1 : 1 ≤ n) (h2 : n ≤ 65536) : Calls Tryd.prog 6 #[.int .i64 (n : Int)] w fun e w' =>
    ∃ d M R, e = .returned (.tuple #[.pointer (some ⟨d, 0, none⟩), .int .i64 0]) ∧ DA6 w' d M R (Dk.new n) ∧ (∀ k, M k ∨ R k → w.heap.size ≤ k) ∧ Below w.heap.size w w' := by
  have hmm := @run_makeMap Tryd.prog
  go_enter Tryd.func6, Tryd.ntmps6
  go_wp2_with fail
  go_ret2
  have s1 : (w.alloc (.map #[] 0)).heap.size = w.heap.size + 1 := by simp
  have s2 : ((w.alloc (.map #[] 0)).alloc (.map #[] 0)).heap.size = w.heap.size + 1 + 1 := by simp
  have hb := Blk.new ((w.alloc (.map #[] 0)).alloc (.map #[] 0)) 64 #[.int .i64 (n : Int), .int .i64 (n : Int), .int .i64 0, .map (some w.heap.size), .map (some (w.heap.size + 1)), .slice none 0 0]
  rw [s2] at hb
  have t2 := (Tab.made (w.alloc (.map #[] 0))).alloc (.cells #[.int .i64 (n : Int), .int .i64 (n : Int), .int .i64 0, .map (some w.heap.size), .map (some (w.heap.size + 1)), .slice none 0 0] 64)
  rw [s1] at t2
  have hu := Dk.new_used n
  have hz := cnt_none n
  refine ⟨w.heap.size + 1 + 1, fun k => w.heap.size ≤ k ∧ k < w.heap.size + 3, fun _ => False, rfl, ⟨w.heap.size, w.heap.size + 1, none, 0, 0, fun _ => none, 0, [], ?_⟩, fun k hk => hk.elim (fun h => h.1) (fun h => h.elim), ((Below.refl _ _).alloc (Nat.le_refl _) _).alloc (by simp) _ |>.alloc (by simp; omega) _⟩
  refine ⟨?_, ?_, t2, PRow.nil _ _, Ops.nil _ _, ⟨by omega, by omega⟩, ⟨by omega, by omega⟩, ⟨by omega, by omega⟩, by omega, fun k hk => hk.elim (fun h => by have := h.2; simp; omega) (fun h => h.elim), fun k _ h => h, new_pl h1 h2⟩
  · rw [hu]; exact hb
  · show Tab _ _ (fun _ => none) (cnt n fun _ => none)
    rw [hz]
    exact ((Tab.made w).alloc _).alloc _

end Go.Proofs.YtngclmjefadokaaDoor

namespace Go.Proofs.YtngclmjefadokaaDoor
open Go Go.RowKit

set_option maxHeartbeats 1000000 in
set_option maxRecDepth 100000 in
theorem torn_is (b old : List UInt8) (n : Int) (w : World) (hb : b.length ≤ 512) (ho : old.length ≤ 512) :
    Calls Tryd.prog 86 #[.string (bst b), .string (bst old), .int .i64 n] w fun e w' => e = .returned (.string (bst (torn b (some old) n))) ∧ Below w.heap.size w w' := by
  have zb := bst_size b
  have zo := bst_size old
  unfold torn
  by_cases h : (b.length : Int) ≤ n
  · rw [if_pos h]
    go_enter Tryd.func86, Tryd.ntmps86
    go_wp2_with fail
    go_ret
    exact ⟨rfl, Below.refl _ _⟩
  · rw [if_neg h]
    obtain ⟨k, hk, hkb⟩ : ∃ k : Nat, max n 0 = (k : Int) ∧ k < b.length + 1 := ⟨n.toNat, by omega, by omega⟩
    have hkn : n.toNat = k := by omega
    rw [hkn]
    obtain ⟨j, hj, hjo⟩ : ∃ j : Nat, min (k : Int) (old.length : Int) = (j : Int) ∧ j ≤ old.length := ⟨min k old.length, by omega, by omega⟩
    have hdr : old.drop j = old.drop k := by
      by_cases hc : k ≤ old.length
      · rw [show j = k by omega]
      · rw [List.drop_of_length_le (by omega), List.drop_of_length_le (by omega)]
    rw [show ((some old).getD [] : List UInt8) = old from rfl, ← hdr]
    have e1 := bstTake b k
    have e2 := bstDrop old j
    have e3 := bst_append (b.take k) (old.drop j)
    clear hkn hdr
    go_enter Tryd.func86, Tryd.ntmps86
    go_wp2_with fail
    clear hk h
    have hkb2 : k ≤ b.length := by omega
    clear hkb
    have hsum : ¬ 9223372036854775807 < (bst (b.take k)).size + (bst (old.drop j)).size := by
      rw [bst_size, bst_size, List.length_take, List.length_drop]; omega
    go_quiet (fail)
    go_wp2_with fail
    go_ret
    exact ⟨rfl, below_drewN (Below.refl _ _) _⟩

end Go.Proofs.YtngclmjefadokaaDoor
