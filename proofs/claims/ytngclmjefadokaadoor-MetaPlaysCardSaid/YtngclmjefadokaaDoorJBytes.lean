/-
  Words for bytes in memory, and what the walks of this seat share: no function of the program is named here. What the program's own types of bytes and strings are. Lists: plain. Parts of a slice of bytes whose bounds are letters. s[:n] and s[k:n] of bytes, the bounds letters. Blocks, and frames that let one block turn. The blocks of a reader and a writer, and frames that let one block turn. Steps through a region whose order is open. Parts of strings. []byte(s) whose array is written into: the array is new, and nothing of it is frozen. Rows of structs in memory, for any kind of element that is laid in a fixed number of one-cell values: no function of the program is named here. append(b, l...): both slices of bytes.
-/
import Derived.WalkKit
import Derived.ProofKit
import Derived.OpenShut
import Derived.WalkSpells
import Derived.WalkLawsBesides
import Derived.Laws.CopyOwn
import Derived.Lib.Hide
import Derived.Maps.AppendAt
import Derived.Laws.BytesArg
import Derived.Lib.SlBytesConst
import Derived.Lib.SmallJoins
import Derived.Laws.IdiomStrings
import Derived.Test.YtngclmjefadokaaDoorRows
import Derived.Deep.RegionHeld3
namespace Go.Proofs.YtngclmjefadokaaDoor
open Go Go.RowKit

/-- the cells of bytes -/
def bs (l : List UInt8) : List Value := l.map fun b => Value.int .u8 (b.toNat : Int)
theorem bs_length (l : List UInt8) : (bs l).length = l.length := by simp [bs]
theorem bs_append (a b : List UInt8) : bs (a ++ b) = bs a ++ bs b := by simp [bs]
theorem bs_one (l : List UInt8) : ∀ u ∈ bs l, u.oneCell' = true := by
  intro u hu
  obtain ⟨b, _, rfl⟩ := List.mem_map.1 hu
  rfl
theorem bs_get (l : List UInt8) (j : Nat) (x : UInt8) (h : l[j]? = some x) : (bs l)[j]? = some (.int .u8 (x.toNat : Int)) := by
  simp [bs, h]
theorem bs_at {l : List UInt8} {j : Nat} {u : Value} (h : (bs l)[j]? = some u) : ∃ x, l[j]? = some x ∧ u = .int .u8 (x.toNat : Int) := by
  simp only [bs, List.getElem?_map, Option.map_eq_some_iff] at h
  obtain ⟨x, h1, h2⟩ := h
  exact ⟨x, h1, h2.symm⟩

/-- 'A' leads to the bytes 'l', below block B (nothing is said of an empty row). -/
def At (w : World) (B : Nat) (A : Option Addr) (l : List UInt8) : Prop :=
  0 < l.length → ∃ b off, A = some ⟨b, off, none⟩ ∧ b < B ∧ ∀ j x, l[j]? = some x → w.cell? ⟨b, off + j, none⟩ = some (.int .u8 (x.toNat : Int))

theorem At.nil (w : World) (B : Nat) (A : Option Addr) : At w B A [] := fun h => absurd h (by simp)
theorem At.keep {w w' : World} {B : Nat} {A : Option Addr} {l : List UInt8} (h : At w B A l) (hk : ∀ p : Addr, p.block < B → w'.cell? p = w.cell? p) : At w' B A l := fun hl => by
  obtain ⟨b, off, e, hb, hc⟩ := h hl
  exact ⟨b, off, e, hb, fun j x hj => (hk _ hb).trans (hc j x hj)⟩
theorem At.below {w w' : World} {B : Nat} {A : Option Addr} {l : List UInt8} (h : At w B A l) (hb : Below B w w') : At w' B A l := h.keep fun _ hp => hb.cell hp
theorem At.more {w : World} {B B' : Nat} {A : Option Addr} {l : List UInt8} (h : At w B A l) (hB : B ≤ B') : At w B' A l := fun hl => by
  obtain ⟨b, off, e, hb, hc⟩ := h hl
  exact ⟨b, off, e, by omega, hc⟩
theorem At.own {w : World} {base e n c : Nat} {A : Option Addr} {l : List UInt8} (h : w.ownsRow base e 1 (.slice A n c) n (bs l)) : At w w.heap.size A l := fun hl => by
  have hn : l.length = n := by have := h.1; simpa [bs_length] using this
  rcases h.2 with ⟨h1, h2⟩ | ⟨g, cap, cur, hv, _, hg, _⟩
  · omega
  · have hA : A = some ⟨g, 0, none⟩ := by injection hv
    subst hA
    have hlt : g < w.heap.size := (Array.getElem?_eq_some_iff.1 hg).1
    refine ⟨g, 0, rfl, hlt, fun j x hj => ?_⟩
    have := h.cells (g := g) rfl j _ (bs_get l j x hj)
    have e1 : (⟨g, 0, none⟩ : Addr).add j = ⟨g, 0 + j, none⟩ := by unfold Addr.add; split <;> simp_all
    rw [e1] at this
    exact this

/-- what is left behind a cut 's[k:]' -/
theorem At.cut {w : World} {B c k : Nat} {A : Option Addr} {l : List UInt8} (h : At w B A l) (hc : l.length ≤ c) :
    At w B (if c = k then A else A.map (·.add k)) (l.drop k) := fun hl => by
  rw [List.length_drop] at hl
  obtain ⟨b, off, rfl, hb, hcell⟩ := h (by omega)
  rw [if_neg (by omega)]
  have e2 : (⟨b, off, none⟩ : Addr).add k = ⟨b, off + k, none⟩ := by unfold Addr.add; split <;> simp_all
  refine ⟨b, off + k, by rw [Option.map_some, e2], hb, fun j x hj => ?_⟩
  rw [Nat.add_assoc]
  exact hcell (k + j) x (by rw [← hj, List.getElem?_drop])

/-- A slice value that reads as the bytes 'l'. -/
def Holds (w : World) (B : Nat) (v : Value) (l : List UInt8) : Prop :=
  ∃ A c, v = .slice A l.length c ∧ l.length ≤ c ∧ c ≤ maxLen ∧ At w B A l

/-- make([]T, n, c) -/
theorem wpList_make_two {P : Program} (w : World) {ops : Array Oper} {rest : List Oper} {o : Oper} {a : Act} {Q : Exit → Act → World → Prop}
    (hg : o.guard = none) (l c : Operand) (t : TypeId) (hop : o.op = Op.makeSlice t l c)
    (e : TypeId) (i : TypeInfo) (z : Value) (h1 : P.underlying t = some (.slice e)) (h2 : P.info? e = some i) (h3 : i.zero = some z) (h4 : i.size = 1)
    (kl kc : IntKind) (L C : Int) (n m : Nat) (hl : a.eval l = .int kl L) (hc : a.eval c = .int kc C) (hL : L = (n : Int)) (hC : C = (m : Int)) (hz1 : z.cells = #[z]) (hnm : n ≤ m) (b2 : (i.bytes : Int) * m ≤ 281474976710656) (b3 : m ≤ 281474976710656)
    (hK : wpList P ops Q rest (a.put o.dst (.slice (some ⟨w.heap.size, 0, none⟩) n m)) (w.alloc (.cells (List.replicate m z).toArray e))) :
    wpList P ops Q (o :: rest) a w := by
  refine wpList_plain hg fun K hK' => ?_
  have hrun := run_make (P := P) w t e i z h1 h2 h3 kl kc L C (by omega) (by omega) (by rw [hC]; exact b2) (by omega)
  have e1 : L.toNat = n := by omega
  have e2 : C.toNat * i.size = m := by rw [h4]; omega
  have e3 : C.toNat = m := by omega
  have e4 : madeCells z.cells m = (List.replicate m z).toArray := by
    apply Array.toList_inj.1
    rw [hz1, toList_madeCells_one]
  rw [e1, e2, e3, e4] at hrun
  unfold Oper.wp
  simp [execOp, hop, hl, hc, hrun, Result.andThen]
  exact hK' _ _ hK

theorem bs_inj : ∀ {a b : List UInt8}, bs a = bs b → a = b
  | [], [], _ => rfl
  | [], _ :: _, h => by simp [bs] at h
  | _ :: _, [], h => by simp [bs] at h
  | x :: a, y :: b, h => by
    simp only [bs, List.map_cons, List.cons.injEq] at h
    have h1 : (x.toNat : Int) = y.toNat := by have := h.1; injection this
    have h2 : a = b := bs_inj h.2
    rw [h2, UInt8.toNat_inj.1 (show x.toNat = y.toNat by omega)]

theorem own_shape {w : World} {base e size n : Nat} {v : Value} {xs : List Value} (h : w.ownsRow base e size v n xs) : ∃ A c, v = .slice A n c := by
  rcases h.2 with ⟨rfl, rfl⟩ | ⟨g, cap, cur, rfl, _⟩
  · exact ⟨_, _, rfl⟩
  · exact ⟨_, _, rfl⟩

/-- append of bytes to a row of the call's own: the source nil, empty or not -/
theorem run_append_bs {P : Program} (w : World) (base : Nat) (t ty e : TypeId) (i : TypeInfo) (ht : P.underlying t = some (.slice e)) (hi : P.info? e = some i) (hz : i.zero = some (.int .u8 0)) (hsize : i.size = 1) (hby : i.bytes = 1)
    (v : Value) (xs news : List UInt8) (hown : w.ownsRow base e 1 v xs.length (bs xs)) (A : Option Addr) (c : Nat) (hA : At w w.heap.size A news)
    (hlen : xs.length + news.length ≤ 140737488355328) (hbase : base ≤ w.heap.size) :
    ∃ v' w', (Builtin.append_ #[t, t] ty #[v, .slice A news.length c]).run P w = .ok v' w' ∧ w'.ownsRow base e 1 v' (xs ++ news).length (bs (xs ++ news)) ∧ w.grownBy w' v.ownBlock ∧
      (v'.ownBlock = v.ownBlock ∨ v'.ownBlock = some w.heap.size) := by
  rcases A with _ | ad
  · have hn : news = [] := by
      rcases news with _ | ⟨x, r⟩
      · rfl
      · obtain ⟨_, _, h, _⟩ := hA (by simp)
        cases h
    subst hn
    refine ⟨v, w, ?_, by simpa using hown, World.grownBy.refl w _, .inl rfl⟩
    rcases hown.2 with ⟨rfl, h0⟩ | ⟨g, cap, cur, rfl, _, _, hnc, _⟩
    · simp [Builtin.append_, run_underlying ht, sizeOf, typeInfo, hi, Builtin.lenOf, Builtin.firstCells]
    · simp [Builtin.append_, run_underlying ht, sizeOf, typeInfo, hi, Builtin.lenOf, Builtin.firstCells, hnc, storeCells]
  · have hc : ∀ j u, (bs news)[j]? = some u → w.cell? (ad.add j) = some u := by
      intro j u hu
      obtain ⟨x, hx, rfl⟩ := bs_at hu
      have hj : j < news.length := (List.getElem?_eq_some_iff.1 hx).1
      obtain ⟨b, off, e1, _, hcell⟩ := hA (by omega)
      injection e1 with e1
      subst e1
      have e2 : (⟨b, off, none⟩ : Addr).add j = ⟨b, off + j, none⟩ := by unfold Addr.add; split <;> simp_all
      rw [e2]
      exact hcell j x hx
    obtain ⟨v', w', hr, h2, h3, _, h5⟩ := run_append_own_at (P := P) w base t ty e i (.int .u8 0) 1 1 ht hi hz hsize hby rfl (by omega) v xs.length (bs xs) hown ad news.length c (bs news) (by simp [bs_length]) hc (bs_one _)
      (by unfold maxLen; omega) (by omega) hbase
    exact ⟨v', w', hr, by rw [bs_append, List.length_append]; exact h2, h3, h5⟩

theorem wpList_append_bs {P : Program} (w : World) {ops : Array Oper} {rest : List Oper} {o : Oper} {a : Act} {Q : Exit → Act → World → Prop} (hgd : o.guard = none) (s x : Operand) (t : TypeId)
    (ho : o.op = .call { callee := .builtin .append, args := #[s, x], argTypes := #[t, t] })
    (base : Nat) (e : TypeId) (i : TypeInfo) (ht : P.underlying t = some (.slice e)) (hi : P.info? e = some i) (hz : i.zero = some (.int .u8 0)) (hsize : i.size = 1) (hby : i.bytes = 1)
    (v : Value) (xs news : List UInt8) (hs : a.eval s = v) (hown : w.ownsRow base e 1 v xs.length (bs xs)) (A : Option Addr) (n c : Nat) (hx : a.eval x = .slice A n c) (hn : n = news.length) (hA : At w w.heap.size A news)
    (hlen : xs.length + news.length ≤ 140737488355328) (hbase : base ≤ w.heap.size)
    (h : ∀ A' c' w', w'.ownsRow base e 1 (.slice A' (xs ++ news).length c') (xs ++ news).length (bs (xs ++ news)) → w.grownBy w' v.ownBlock →
      ((Value.slice A' (xs ++ news).length c').ownBlock = v.ownBlock ∨ (Value.slice A' (xs ++ news).length c').ownBlock = some w.heap.size) → wpList P ops Q rest (a.put o.dst (.slice A' (xs ++ news).length c')) w') :
    wpList P ops Q (o :: rest) a w := by
  refine wpList_plain hgd fun K hK => ?_
  subst hn
  obtain ⟨v', w', hr, h2, h3, h4⟩ := run_append_bs (P := P) w base t o.type e i ht hi hz hsize hby v xs news hown A c hA hlen hbase
  unfold Oper.wp execOp
  simp only [ho, resolve, invoke, builtin, Sem.run_bind, Sem.run_pure, Result.andThen_ok, List.map_toArray, List.map_cons, List.map_nil, hs, hx, hr]
  obtain ⟨A', c', rfl⟩ := own_shape h2
  exact hK _ _ (h A' c' w' h2 h3 h4)

/-- one byte in a block that has just been made -/
theorem At.one (w : World) (x : UInt8) (e : TypeId) : At (w.alloc (.cells #[.int .u8 (x.toNat : Int)] e)) (w.heap.size + 1) (some ⟨w.heap.size, 0, none⟩) [x] := fun _ => by
  refine ⟨w.heap.size, 0, rfl, by omega, fun j y hj => ?_⟩
  have : j = 0 := by
    have := (List.getElem?_eq_some_iff.1 hj).1
    simp at this; omega
  subst this
  obtain rfl : x = y := by simpa using hj
  exact cell_of_one (heap_alloc_new w _)

/-- A variable's block (type tv) that holds a row of bytes of the call's own. -/
def OutAt (w : World) (base : Nat) (e tv : TypeId) (b : Nat) (l : List UInt8) : Prop :=
  ∃ A c, w.heap[b]? = some (.cells #[.slice A l.length c] tv (0, 0)) ∧ w.ownsRow base e 1 (.slice A l.length c) l.length (bs l)

/-- A slice value of the call's own that reads as the bytes 'l'. -/
def Row (w : World) (base : Nat) (e : TypeId) (A : Option Addr) (m c : Nat) (l : List UInt8) : Prop :=
  m = l.length ∧ w.ownsRow base e 1 (.slice A m c) m (bs l)
/-- A fact that the walk does not look into. -/
structure Kept (p : Prop) : Prop where
  out : p
theorem hid {p : Prop} (h : p) : Kept p := ⟨h⟩

/-- two rows of different element types are different -/
theorem own_ne {w : World} {base n b : Nat} {e tv : TypeId} {v u : Value} {xs : List Value} (h : w.ownsRow base e 1 v n xs) (hb : w.heap[b]? = some (.cells #[u] tv (0, 0))) (hne : e ≠ tv) : v.ownBlock ≠ some b := by
  rcases h.2 with ⟨rfl, _⟩ | ⟨g, cap, cur, rfl, _, hg, _⟩
  · simp [Value.ownBlock]
  · intro he
    have : g = b := by simpa [Value.ownBlock] using he
    subst this
    rw [hg] at hb
    injection hb with hb
    injection hb with _ ht
    exact hne ht

/-- a string of bytes -/
def bst (l : List UInt8) : ByteArray := ⟨l.toArray⟩
theorem bst_size (l : List UInt8) : (bst l).size = l.length := by simp [bst, ByteArray.size]
theorem bst_append (a b : List UInt8) : bst a ++ bst b = bst (a ++ b) := by
  apply ByteArray.ext
  simp [bst]
theorem bst_toList (l : List UInt8) : (bst l).toList = l := ByteArray.toList_mk l
theorem bst_of (s : ByteArray) : s = bst s.data.toList := by
  apply ByteArray.ext
  simp [bst]

theorem bst_get {s : ByteArray} {l : List UInt8} {k : Nat} {x : UInt8} (hs : s = bst l) (hx : l[k]? = some x) (h : k < s.size) : s[k] = x := by
  subst hs
  obtain ⟨h1, h2⟩ := List.getElem?_eq_some_iff.1 hx
  exact h2

/-- string(b) -/
theorem conv_bytes {P : Program} {w : World} {B m c : Nat} {A : Option Addr} {l : List UInt8} (src dst e : TypeId) (hs : P.underlying src = some (.slice e)) (he : P.underlying e = some (.int .u8)) (hd : P.underlying dst = some .string)
    (hA : At w B A l) (hm : m = l.length) : (convert src dst (.slice A m c)).run P w = .ok (.string (bst l)) w := by
  subst hm
  rcases A with _ | ad
  · have hn : l = [] := by
      rcases l with _ | ⟨x, r⟩
      · rfl
      · obtain ⟨_, _, h, _⟩ := hA (by simp)
        cases h
    subst hn
    exact run_convert_bytes_nil w src e hs he _ _ dst hd
  · refine run_convert_bytes_back w src dst e ad c l hs he hd ?_
    intro j hj
    obtain ⟨b, off, e1, _, hcell⟩ := hA (by omega)
    injection e1 with e1
    subst e1
    have e2 : (⟨b, off, none⟩ : Addr).add j = ⟨b, off + j, none⟩ := by unfold Addr.add; split <;> simp_all
    rw [e2]
    exact hcell j _ (List.getElem?_eq_getElem hj)

/-- []byte(s) -/
theorem wp_bytes_of {P : Program} (w : World) {o : Oper} {a : Act} {K : Act → World → Prop} {Q : Exit → Act → World → Prop} (x : Operand) (src dst e : TypeId)
    (ho : o.op = .convert src dst x) (hs : P.underlying src = some .string) (hd : P.underlying dst = some (.slice e)) (he : P.underlying e = some (.int .u8)) (l : List UInt8) (hx : a.eval x = .string (bst l))
    (h : ∀ A c w', l.length ≤ c → At w' w'.heap.size A l → Below w.heap.size w w' → K (a.put o.dst (.slice A l.length c)) w') : o.wp P a w K Q := by
  have hrun := run_bytes_of_string (P := P) w src dst e (bst l) hs hd he
  have hcap := grownCap_ge w (bst l).size 0 e
  generalize grownCap w (bst l).size 0 e = cap at hrun hcap
  unfold Oper.wp
  simp only [execOp, ho, hx, Sem.run_bind, hrun, Result.andThen_ok, Sem.run_pure]
  rw [show (bst l).size = l.length from bst_size l] at hcap ⊢
  refine h _ _ _ hcap ?_ ?_
  · intro hpos
    refine ⟨w.heap.size, 0, rfl, ?_, fun j y hj => ?_⟩
    · show w.heap.size < (w.heap.push _).size
      simp
    · have hb : (w.drew.alloc (.cells (bytesRow (bst l) cap) e ((bytesRow (bst l) cap).size, (bytesRow (bst l) cap).size + 1))).heap[w.heap.size]? = some (.cells (bytesRow (bst l) cap) e ((bytesRow (bst l) cap).size, (bytesRow (bst l) cap).size + 1)) := heap_alloc_new w.drew _
      rw [cell_of_row _ _ _ _ _ _ hb, Nat.zero_add]
      have hjl := (List.getElem?_eq_some_iff.1 hj).1
      have hv := (List.getElem?_eq_some_iff.1 hj).2
      simp [bytesRow, bst, Array.getElem?_append, hjl, hv]
  · exact ((Below.refl _ _).drew).alloc (by show w.heap.size ≤ w.heap.size; omega) _

theorem wpList_bytes_of {P : Program} (w : World) {ops : Array Oper} {rest : List Oper} {o : Oper} {a : Act} {Q : Exit → Act → World → Prop} (hgd : o.guard = none) (x : Operand) (src dst e : TypeId)
    (ho : o.op = .convert src dst x) (hs : P.underlying src = some .string) (hd : P.underlying dst = some (.slice e)) (he : P.underlying e = some (.int .u8)) (l : List UInt8) (hx : a.eval x = .string (bst l))
    (h : ∀ A c w', l.length ≤ c → At w' w'.heap.size A l → Below w.heap.size w w' → wpList P ops Q rest (a.put o.dst (.slice A l.length c)) w') : wpList P ops Q (o :: rest) a w :=
  wpList_plain hgd fun _ hK => wp_bytes_of w x src dst e ho hs hd he l hx fun A c w' h1 h2 h3 => hK _ _ (h A c w' h1 h2 h3)

/-- an operation that is guarded, its guard being met -/
theorem wpList_wanted {P : Program} {ops : Array Oper} {Q : Exit → Act → World → Prop} {a : Act} {w : World} {rest : List Oper} {o : Oper} (hw : Region.wanted o (yielded ops a.tmps) = true)
    (h : ∀ K : Act → World → Prop, (∀ a w, wpList P ops Q rest a w → K a w) → o.wp P a w K Q) : wpList P ops Q (o :: rest) a w :=
  wpList_step fun K hK => by rw [if_pos hw]; exact h K hK
theorem wpList_bytes_wanted {P : Program} (w : World) {ops : Array Oper} {rest : List Oper} {o : Oper} {a : Act} {Q : Exit → Act → World → Prop} (hgd : Region.wanted o (yielded ops a.tmps) = true) (x : Operand) (src dst e : TypeId)
    (ho : o.op = .convert src dst x) (hs : P.underlying src = some .string) (hd : P.underlying dst = some (.slice e)) (he : P.underlying e = some (.int .u8)) (l : List UInt8) (hx : a.eval x = .string (bst l))
    (h : ∀ A c w', l.length ≤ c → At w' w'.heap.size A l → Below w.heap.size w w' → wpList P ops Q rest (a.put o.dst (.slice A l.length c)) w') : wpList P ops Q (o :: rest) a w :=
  wpList_wanted hgd fun _ hK => wp_bytes_of w x src dst e ho hs hd he l hx fun A c w' h1 h2 h3 => hK _ _ (h A c w' h1 h2 h3)

/-- the same under a guard that holds -/
theorem wpList_bytes_when {P : Program} (w : World) {ops : Array Oper} {rest : List Oper} {o : Oper} {a : Act} {Q : Exit → Act → World → Prop} (x : Operand) (src dst e : TypeId)
    (ho : o.op = .convert src dst x) (hs : P.underlying src = some .string) (hd : P.underlying dst = some (.slice e)) (he : P.underlying e = some (.int .u8)) (l : List UInt8) (hx : a.eval x = .string (bst l))
    (hw : Region.wanted o (yielded ops a.tmps) = true)
    (h : ∀ A c w', l.length ≤ c → At w' w'.heap.size A l → Below w.heap.size w w' → wpList P ops Q rest (a.put o.dst (.slice A l.length c)) w') : wpList P ops Q (o :: rest) a w :=
  BigFrame.wpList_want hw fun _ hK => wp_bytes_of w x src dst e ho hs hd he l hx fun A c w' h1 h2 h3 => hK _ _ (h A c w' h1 h2 h3)

/-- a row that has just been written out -/
theorem At.lits (w : World) (l : List UInt8) (e : TypeId) {g : Nat} (hg : g = w.heap.size) (fr : Nat × Nat := (0, 0)) : At (w.alloc (.cells (bs l).toArray e fr)) (w.heap.size + 1) (some ⟨g, 0, none⟩) l := fun _ => by
  subst hg
  refine ⟨w.heap.size, 0, rfl, by omega, fun j y hj => ?_⟩
  rw [cell_of_row _ _ _ _ _ _ (heap_alloc_new w _), Nat.zero_add]
  simpa using bs_get l j y hj

/-- a slice written out without elements -/
theorem own_empty (w : World) (e : TypeId) : (w.alloc (.cells #[] e)).ownsRow w.heap.size e 1 (.slice (some ⟨w.heap.size, 0, none⟩) 0 0) 0 (bs []) :=
  ⟨rfl, .inr ⟨w.heap.size, 0, #[], rfl, Nat.le_refl _, heap_alloc_new w _, Nat.le_refl _, Nat.zero_le _, rfl, rfl⟩⟩

/-- a row of the call's own, from then on -/
theorem Row.at_ {w : World} {base e m c : Nat} {A : Option Addr} {l : List UInt8} (h : Row w base e A m c l) : At w w.heap.size A l := At.own h.2
theorem Row.alloc {w : World} {base e m c : Nat} {A : Option Addr} {l : List UInt8} (h : Row w base e A m c l) (o : Obj) : Row (w.alloc o) base e A m c l := ⟨h.1, h.2.alloc o⟩
theorem Row.below {w w' : World} {base e m c : Nat} {A : Option Addr} {l : List UInt8} (h : Row w base e A m c l) (hb : Below w.heap.size w w') : Row w' base e A m c l := by
  refine ⟨h.1, h.2.kept (row := none) ⟨hb.os, hb.tape, hb.output, hb.size, fun k hk _ => hb.block k hk⟩ ?_⟩
  cases hv : (Value.slice A m c).ownBlock <;> simp
theorem row_cap {w : World} {base e m c : Nat} {A : Option Addr} {l : List UInt8} (h : Row w base e A m c l) : m ≤ c := by
  rcases h.2.2 with ⟨_, h0⟩ | ⟨g, cap, cur, hv, _, _, hnc, _⟩
  · omega
  · injection hv with _ _ hc
    omega
theorem pos_of_below {w w' : World} (h0 : 0 < w.heap.size) (h : Below w.heap.size w w') : 0 < w'.heap.size := Nat.lt_of_lt_of_le h0 h.size
theorem below_step {w a b : World} (h : Below w.heap.size w a) (k : Below a.heap.size a b) : Below w.heap.size w b := h.trans (k.mono h.size)
theorem after_alloc {w w' : World} {o : Obj} (h : Below (w.alloc o).heap.size (w.alloc o) w') : Below w.heap.size w w' :=
  ((Below.refl _ _).alloc (Nat.le_refl _) o).trans (h.mono (by simp))
theorem below_drewN {B : Nat} {a w : World} (h : Below B a w) (n : Nat) : Below B a (w.drewN n) := ⟨h.os, h.tape, h.output, h.size, h.block⟩

/-- the world has gone on from 'w' by blocks of its own alone -/
def Beyond (w w' : World) : Prop := Below w.heap.size w w'
theorem Beyond.drew (w : World) : Beyond w w.drew := (Below.refl _ _).drew
theorem Beyond.step {w a b : World} (h : Beyond w a) (k : Below a.heap.size a b) : Beyond w b := below_step h k
theorem Beyond.refl (w : World) : Beyond w w := Below.refl _ _
theorem Beyond.trans {w a b : World} (h : Beyond w a) (k : Beyond a b) : Beyond w b := below_step h k

end Go.Proofs.YtngclmjefadokaaDoor

namespace Go.Proofs.YtngclmjefadokaaDoor
open Go Go.RowKit

theorem info_byte : (Tryd.prog.info? 5).map (fun i => (i.zero, i.size, i.bytes)) = some (some (.int .u8 0), 1, 1) := by kernel_rfl
theorem size_byte : (Tryd.prog.info? 5).map (·.size) = some 1 := by kernel_rfl

theorem str_of {w : World} {B m c : Nat} {A : Option Addr} {l : List UInt8} (hA : At w B A l) (hm : m = l.length) :
    (convert 98 9 (.slice A m c)).run Tryd.prog w = .ok (.string (bst l)) w :=
  conv_bytes _ _ _ Tryd.underlying98 Tryd.underlying5 Tryd.underlying9 hA hm

theorem wf_u64 {n : Int} (h : (Lit.int .u64 n).wf = true) : 0 ≤ n ∧ n < 18446744073709551616 := by
  simp [Lit.wf, IntKind.min, IntKind.max, IntKind.signed, IntKind.bits] at h
  omega
theorem wf_u32 {n : Int} (h : (Lit.int .u32 n).wf = true) : 0 ≤ n ∧ n < 4294967296 := by
  simp [Lit.wf, IntKind.min, IntKind.max, IntKind.signed, IntKind.bits] at h
  omega
theorem wf_u16 {n : Int} (h : (Lit.int .u16 n).wf = true) : 0 ≤ n ∧ n < 65536 := by
  simp [Lit.wf, IntKind.min, IntKind.max, IntKind.signed, IntKind.bits] at h
  omega
theorem wf_u8 {n : Int} (h : (Lit.int .u8 n).wf = true) : 0 ≤ n ∧ n < 256 := by
  simp [Lit.wf, IntKind.min, IntKind.max, IntKind.signed, IntKind.bits] at h
  omega
theorem wf_i64 {n : Int} (h : (Lit.int .i64 n).wf = true) : -9223372036854775808 ≤ n ∧ n ≤ 9223372036854775807 := by
  simp [Lit.wf, IntKind.min, IntKind.max, IntKind.signed, IntKind.bits] at h
  omega

end Go.Proofs.YtngclmjefadokaaDoor

namespace Go.Proofs.YtngclmjefadokaaDoor

theorem drop_cons {l : List UInt8} {k : Nat} {x : UInt8} (h : l[k]? = some x) : l.drop k = x :: l.drop (k + 1) := by
  obtain ⟨hk, hx⟩ := List.getElem?_eq_some_iff.1 h
  rw [← hx]; exact List.drop_eq_getElem_cons hk

end Go.Proofs.YtngclmjefadokaaDoor

namespace Go.Proofs.YtngclmjefadokaaDoor
open Go Go.RowKit

/-- the first k of a row -/
theorem At.take {w : World} {B : Nat} {A : Option Addr} {l : List UInt8} (h : At w B A l) (k : Nat) : At w B A (l.take k) := fun hl => by
  obtain ⟨b, off, e, hb, hc⟩ := h (by rw [List.length_take] at hl; omega)
  exact ⟨b, off, e, hb, fun j x hj => hc j x (by
    rw [List.getElem?_take] at hj
    split at hj
    · exact hj
    · cases hj)⟩

/-- s[n:] -/
theorem slice_from {w : World} {B m c n : Nat} {A : Option Addr} {l : List UInt8} (hA : At w B A l) (hm : m = l.length) (hc : m ≤ c) (hn : n ≤ m) :
    ∃ A', (∀ (k : IntKind) (W : World), (Instr.slice 98 (.slice A m c) (some (.int k (n : Int))) none none).run Tryd.prog W = .ok (.slice A' (m - n) (c - n)) W) ∧ At w B A' (l.drop n) := by
  obtain ⟨i0, hi, hz0, hz1, hz2⟩ := info_parts info_byte
  refine ⟨if c = n then A else A.map (·.add n), fun k W => ?_, hA.cut (k := n) (by omega)⟩
  have e : Tryd.prog.elem 98 = 5 := by kernel_rfl
  rw [run_slice_l (P := Tryd.prog) W 98 A m c (by rw [e]; exact Tryd.underlying98) k n (by omega) (by omega), e]
  simp [sizeOf, typeInfo, hi, hz1, sliced]

/-- s[:n:n] -/
theorem slice_full {w : World} {B m c n : Nat} {A : Option Addr} {l : List UInt8} (hA : At w B A l) (hm : m = l.length) (hc : m ≤ c) (hn : n ≤ m) :
    ∃ A', (∀ (k k' : IntKind) (W : World), (Instr.slice 98 (.slice A m c) none (some (.int k (n : Int))) (some (.int k' (n : Int)))).run Tryd.prog W = .ok (.slice A' n n) W) ∧ At w B A' (l.take n) := by
  obtain ⟨i0, hi, hz0, hz1, hz2⟩ := info_parts info_byte
  refine ⟨if n = 0 then A else A.map (·.add 0), fun k k' W => ?_, ?_⟩
  · have e : Tryd.prog.elem 98 = 5 := by kernel_rfl
    rw [run_slice_hm (P := Tryd.prog) W 98 A m c (by rw [e]; exact Tryd.underlying98) k k' n n (by omega) (by omega) (by omega), e]
    simp [sizeOf, typeInfo, hi, hz1, sliced]
  · by_cases h0 : n = 0
    · subst h0
      rw [List.take_zero]
      exact At.nil _ _ _
    · have h := hA.cut (c := l.length + 1) (k := 0) (by omega)
      rw [if_neg (by omega), List.drop_zero] at h
      rw [if_neg h0]
      exact h.take n

end Go.Proofs.YtngclmjefadokaaDoor

namespace Go.Proofs.YtngclmjefadokaaDoor
open Go Go.RowKit

/-- s[:n] -/
theorem slice_to {w : World} {B m c n : Nat} {A : Option Addr} {l : List UInt8} (hA : At w B A l) (hm : m = l.length) (hc : m ≤ c) (hn : n ≤ m) :
    ∃ A', (∀ (k : IntKind) (W : World), (Instr.slice 98 (.slice A m c) none (some (.int k (n : Int))) none).run Tryd.prog W = .ok (.slice A' n c) W) ∧ At w B A' (l.take n) := by
  obtain ⟨i0, hi, hz0, hz1, hz2⟩ := info_parts info_byte
  refine ⟨if c = 0 then A else A.map (·.add 0), fun k W => ?_, ?_⟩
  · have e : Tryd.prog.elem 98 = 5 := by kernel_rfl
    rw [run_slice_h (P := Tryd.prog) W 98 A m c (by rw [e]; exact Tryd.underlying98) k n (by omega) (by omega), e]
    simp [sizeOf, typeInfo, hi, hz1, sliced]
  · by_cases h0 : c = 0
    · rw [if_pos h0]
      exact hA.take n
    · have h := hA.cut (c := c) (k := 0) (by omega)
      rw [if_neg h0, List.drop_zero] at h
      rw [if_neg h0]
      exact h.take n
/-- s[k:n] -/
theorem slice_mid {w : World} {B m c k n : Nat} {A : Option Addr} {l : List UInt8} (hA : At w B A l) (hm : m = l.length) (hc : m ≤ c) (hk : k ≤ n) (hn : n ≤ m) :
    ∃ A', (∀ (i j : IntKind) (W : World), (Instr.slice 98 (.slice A m c) (some (.int i (k : Int))) (some (.int j (n : Int))) none).run Tryd.prog W = .ok (.slice A' (n - k) (c - k)) W) ∧ At w B A' ((l.drop k).take (n - k)) := by
  obtain ⟨i0, hi, hz0, hz1, hz2⟩ := info_parts info_byte
  refine ⟨if c = k then A else A.map (·.add k), fun i j W => ?_, (hA.cut (k := k) (by omega)).take (n - k)⟩
  have e : Tryd.prog.elem 98 = 5 := by kernel_rfl
  rw [run_slice_lh (P := Tryd.prog) W 98 A m c (by rw [e]; exact Tryd.underlying98) i j k n (by omega) (by omega) (by omega), e]
  simp [sizeOf, typeInfo, hi, hz1, sliced]

end Go.Proofs.YtngclmjefadokaaDoor

namespace Go.Proofs.YtngclmjefadokaaDoor
open Go Go.RowKit

/-- block g is just these cells -/
def Blk (w : World) (g : Nat) (t : TypeId) (cs : Array Value) : Prop := w.heap[g]? = some (.cells cs t (0, 0))
theorem Blk.lt {w : World} {g : Nat} {t : TypeId} {cs : Array Value} (h : Blk w g t cs) : g < w.heap.size := lt_of_block h
theorem Blk.cell {w : World} {g : Nat} {t : TypeId} {cs : Array Value} (h : Blk w g t cs) (i : Nat) : w.cell? ⟨g, i, none⟩ = cs[i]? := cell_of_row w g i cs t (0, 0) h
theorem Blk.free {w : World} {g : Nat} {t : TypeId} {cs : Array Value} (h : Blk w g t cs) (i : Nat) : w.frozen? ⟨g, i, none⟩ = false := by
  unfold Blk at h; simp [World.frozen?, h]
theorem Blk.alloc {w : World} {g : Nat} {t : TypeId} {cs : Array Value} (h : Blk w g t cs) (o : Obj) : Blk (w.alloc o) g t cs := (Below.heap_alloc w o g h.lt).trans h
theorem Blk.drew {w : World} {g : Nat} {t : TypeId} {cs : Array Value} (h : Blk w g t cs) : Blk w.drew g t cs := h
theorem Blk.drewN {w : World} {g : Nat} {t : TypeId} {cs : Array Value} (h : Blk w g t cs) (n : Nat) : Blk (w.drewN n) g t cs := h
theorem Blk.set {w : World} {g : Nat} {t : TypeId} {cs : Array Value} (h : Blk w g t cs) (i : Nat) (u : Value) : Blk (w.setCell ⟨g, i, none⟩ u) g t (cs.setIfInBounds i u) := by
  unfold Blk at h ⊢
  simp [World.setCell, Array.getElem?_modify, h]
theorem Blk.far {w : World} {g : Nat} {t : TypeId} {cs : Array Value} (h : Blk w g t cs) {p : Addr} (hp : g ≠ p.block) (u : Value) : Blk (w.setCell p u) g t cs := (Below.heap_setCell w p u g hp).trans h
theorem Blk.below {w w' : World} {B g : Nat} {t : TypeId} {cs : Array Value} (h : Blk w g t cs) (hb : Below B w w') (hg : g < B) : Blk w' g t cs := (hb.block g hg).trans h
theorem Blk.grown {w w' : World} {g : Nat} {row : Option Nat} {t : TypeId} {cs : Array Value} (h : Blk w g t cs) (hb : w.grownBy w' row) (hg : some g ≠ row) : Blk w' g t cs := (hb.block g h.lt hg).trans h
theorem Blk.ne {w : World} {g g' : Nat} {t t' : TypeId} {cs cs' : Array Value} (h : Blk w g t cs) (h' : Blk w g' t' cs') (hne : t ≠ t') : g ≠ g' := by
  rintro rfl
  unfold Blk at h h'
  rw [h] at h'
  injection h' with h'
  injection h' with _ ht
  exact hne ht
theorem Blk.new (w : World) (t : TypeId) (cs : Array Value) : Blk (w.alloc (.cells cs t)) w.heap.size t cs := heap_alloc_new w _

/-- only block r, and what is new, has turned -/
abbrev Only (r : Nat) (w w' : World) : Prop := w.grownBy w' (some r)
theorem Only.refl (r : Nat) (w : World) : Only r w w := World.grownBy.refl w _
theorem Only.trans {r : Nat} {a b c : World} (h : Only r a b) (k : Only r b c) : Only r a c :=
  ⟨k.os.trans h.os, k.tape.trans h.tape, k.output.trans h.output, Nat.le_trans h.size k.size, fun i hi hne => (k.block i (Nat.lt_of_lt_of_le hi h.size) hne).trans (h.block i hi hne)⟩
theorem Only.alloc {r : Nat} {a w : World} (h : Only r a w) (o : Obj) : Only r a (w.alloc o) :=
  ⟨h.os, h.tape, h.output, Nat.le_trans h.size (by simp), fun i hi hne => (Below.heap_alloc w o i (Nat.lt_of_lt_of_le hi h.size)).trans (h.block i hi hne)⟩
theorem Only.drewN {r : Nat} {a w : World} (h : Only r a w) (n : Nat) : Only r a (w.drewN n) := ⟨h.os, h.tape, h.output, h.size, h.block⟩
theorem Only.drew {r : Nat} {a w : World} (h : Only r a w) : Only r a w.drew := ⟨h.os, h.tape, h.output, h.size, h.block⟩
theorem Only.set {r : Nat} {a w : World} (h : Only r a w) {i : Nat} (u : Value) : Only r a (w.setCell ⟨r, i, none⟩ u) :=
  ⟨h.os, h.tape, h.output, by simpa [World.setCell] using h.size, fun k hk hne => (Below.heap_setCell w _ u k (fun e => hne (by rw [e]))).trans (h.block k hk hne)⟩
theorem Only.new {r : Nat} {a w : World} (h : Only r a w) {p : Addr} (hp : a.heap.size ≤ p.block) (u : Value) : Only r a (w.setCell p u) :=
  ⟨h.os, h.tape, h.output, by simpa [World.setCell] using h.size, fun k hk hne => (Below.heap_setCell w _ u k (by omega)).trans (h.block k hk hne)⟩
theorem Only.of_below {r : Nat} {a w : World} (h : Below a.heap.size a w) : Only r a w := ⟨h.os, h.tape, h.output, h.size, fun i hi _ => h.block i hi⟩
theorem Only.more {r : Nat} {a w w' : World} (h : Only r a w) (k : Below w.heap.size w w') : Only r a w' := h.trans (Only.of_below k)
theorem Only.below {r B : Nat} {a w : World} (h : Only r a w) (hB : B ≤ r) (hs : B ≤ a.heap.size) : Below B a w := ⟨h.os, h.tape, h.output, h.size, fun i hi => h.block i (by omega) (fun e => by injection e; omega)⟩
theorem At.only {r B : Nat} {a w : World} {A : Option Addr} {l : List UInt8} (h : At a B A l) (hb : Only r a w) (hB : B ≤ r) (hs : B ≤ a.heap.size) : At w B A l := h.below (hb.below hB hs)

theorem four {w : World} {b : Nat} {t : TypeId} {a0 a1 a2 a3 : Value} (h : Blk w b t #[a0, a1, a2, a3]) :
    w.cell? ⟨b, 0, none⟩ = some a0 ∧ w.cell? ⟨b, 1, none⟩ = some a1 ∧ w.cell? ⟨b, 2, none⟩ = some a2 ∧ w.cell? ⟨b, 3, none⟩ = some a3 ∧
      w.frozen? ⟨b, 0, none⟩ = false ∧ w.frozen? ⟨b, 1, none⟩ = false ∧ w.frozen? ⟨b, 2, none⟩ = false ∧ w.frozen? ⟨b, 3, none⟩ = false :=
  ⟨h.cell 0, h.cell 1, h.cell 2, h.cell 3, h.free 0, h.free 1, h.free 2, h.free 3⟩

theorem three {w : World} {b : Nat} {t : TypeId} {a0 a1 a2 : Value} (h : Blk w b t #[a0, a1, a2]) :
    w.cell? ⟨b, 0, none⟩ = some a0 ∧ w.cell? ⟨b, 1, none⟩ = some a1 ∧ w.cell? ⟨b, 2, none⟩ = some a2 ∧ w.frozen? ⟨b, 0, none⟩ = false ∧ w.frozen? ⟨b, 1, none⟩ = false ∧ w.frozen? ⟨b, 2, none⟩ = false :=
  ⟨h.cell 0, h.cell 1, h.cell 2, h.free 0, h.free 1, h.free 2⟩

end Go.Proofs.YtngclmjefadokaaDoor

namespace Go.Proofs.YtngclmjefadokaaDoor
open Go Go.RowKit

/-- a reader: what is left of its bytes, which lie below it, and what went wrong first -/
def RB (w : World) (r : Nat) (A : Option Addr) (m c : Nat) (e : Int) : Prop := Blk w r 143 #[.slice A m c, .int .i64 e]
structure Rd (w : World) (r : Nat) (l : List UInt8) (e : Nat) : Prop where
  out : ∃ A m c, RB w r A m c (e : Int) ∧ m = l.length ∧ m ≤ c ∧ l.length ≤ 140737488351232 ∧ At w r A l
/-- the variable that leads to it -/
def QB (w : World) (q r : Nat) : Prop := Blk w q 123 #[.pointer (some ⟨r, 0, none⟩)]
theorem RB.ne {w : World} {r q r' : Nat} {A : Option Addr} {m c : Nat} {e : Int} (h : RB w r A m c e) (h' : QB w q r') : r ≠ q := Blk.ne h h' (by decide)
theorem RB.c0 {w : World} {r m c : Nat} {A : Option Addr} {e : Int} (h : RB w r A m c e) : w.cell? ⟨r, 0, none⟩ = some (.slice A m c) := Blk.cell h 0
theorem RB.c1 {w : World} {r m c : Nat} {A : Option Addr} {e : Int} (h : RB w r A m c e) : w.cell? ⟨r, 1, none⟩ = some (.int .i64 e) := Blk.cell h 1
theorem RB.f0 {w : World} {r m c : Nat} {A : Option Addr} {e : Int} (h : RB w r A m c e) : w.frozen? ⟨r, 0, none⟩ = false := Blk.free h 0
theorem RB.f1 {w : World} {r m c : Nat} {A : Option Addr} {e : Int} (h : RB w r A m c e) : w.frozen? ⟨r, 1, none⟩ = false := Blk.free h 1
theorem QB.c0 {w : World} {q r : Nat} (h : QB w q r) : w.cell? ⟨q, 0, none⟩ = some (.pointer (some ⟨r, 0, none⟩)) := Blk.cell h 0
theorem RB.set0 {w : World} {r m c m' c' : Nat} {A A' : Option Addr} {e : Int} (h : RB w r A m c e) : RB (w.setCell ⟨r, 0, none⟩ (.slice A' m' c')) r A' m' c' e := Blk.set h 0 _
theorem RB.set1 {w : World} {r m c : Nat} {A : Option Addr} {e e' : Int} (h : RB w r A m c e) : RB (w.setCell ⟨r, 1, none⟩ (.int .i64 e')) r A m c e' := Blk.set h 1 _
theorem At.setR {w : World} {r i : Nat} {A : Option Addr} {l : List UInt8} (h : At w r A l) (u : Value) : At (w.setCell ⟨r, i, none⟩ u) r A l :=
  h.keep fun p hp => World.cell?_setCell_other w _ p u (fun e => by subst e; simp at hp)
theorem Rd.lt {w : World} {r e : Nat} {l : List UInt8} (h : Rd w r l e) : r < w.heap.size := by
  obtain ⟨A, m, c, h1, _⟩ := h.out
  exact Blk.lt h1
theorem Rd.below {w w' : World} {r e B : Nat} {l : List UInt8} (h : Rd w r l e) (hb : Below B w w') (hB : r < B) : Rd w' r l e := by
  obtain ⟨A, m, c, h1, h2, h3, h4, h5⟩ := h.out
  exact ⟨A, m, c, Blk.below h1 hb hB, h2, h3, h4, h5.below (hb.mono (by omega))⟩
theorem Rd.step {w w' : World} {r e : Nat} {l : List UInt8} (h : Rd w r l e) (hb : Below w.heap.size w w') : Rd w' r l e := h.below hb h.lt

end Go.Proofs.YtngclmjefadokaaDoor

namespace Go.Proofs.YtngclmjefadokaaDoor
open Go Go.RowKit

section
variable {P : Program} {ops : Array Oper} {Q : Exit → Act → World → Prop} {md : Region.Mode} {S S' : World → Prop}

theorem wpAnyH_more (h : ∀ w, S' w → S w) : ∀ {fuel : Nat} {listed : Array Bool} {a : Act} {w : World}, wpAnyH P md ops Q S' fuel listed a w → wpAnyH P md ops Q S fuel listed a w
  | 0, _, _, _, hw => hw
  | _ + 1, _, _, _, hw => ⟨hw.1, fun i hi => wpOp_mono (fun _ _ hk => ⟨h _ hk.1, wpAnyH_more h hk.2⟩) (hw.2 i hi)⟩

theorem take_step {i : Nat} {oi : Oper} {v : Value} {fuel : Nat} {listed : Array Bool} {a : Act} {w : World} (hi : ops[i]? = some oi)
    (hs : Region.noSelect ops = true) (hf : Region.free md ops listed i = true) (hr : (Region.ready md ops listed).contains i = true)
    (hQ : ∀ c a w, Q (.panic c) (a.put oi.dst v) w → Q (.panic c) a w) (hw : Region.wanted oi (yielded ops a.tmps) = true) (hy : ∀ w, S w → (execOp a.eval oi).run P w = .ok (.value v) w) (hS : S w)
    (h : wpAnyH P md ops Q S fuel (listed.setIfInBounds i true) (a.put oi.dst v) w) : wpAnyH P md ops Q S (fuel + 1) listed a w :=
  wpAnyH_take hi hs hf hr hQ (.inl ⟨hw, hy⟩) hS h
theorem skip_step {i : Nat} {oi : Oper} {fuel : Nat} {listed : Array Bool} {a : Act} {w : World} (hi : ops[i]? = some oi)
    (hs : Region.noSelect ops = true) (hf : Region.free md ops listed i = true) (hr : (Region.ready md ops listed).contains i = true)
    (hQ : ∀ c a w, Q (.panic c) (a.put oi.dst undef) w → Q (.panic c) a w) (hw : Region.wanted oi (yielded ops a.tmps) = false) (hS : S w)
    (h : wpAnyH P md ops Q S fuel (listed.setIfInBounds i true) (a.put oi.dst undef) w) : wpAnyH P md ops Q S (fuel + 1) listed a w :=
  wpAnyH_take hi hs hf hr hQ (.inr ⟨hw, rfl⟩) hS h
end

/-! The same steps, their side goals closed by themselves (short words: a claim takes 1.5 MB). -/
section
variable {P : Program} {ops : Array Oper} {Q : Exit → Act → World → Prop} {md : Region.Mode} {S : World → Prop} {fuel : Nat} {listed : Array Bool} {a : Act} {w : World}

theorem stT (i : Nat) {oi : Oper} {v : Value} (hS : S w) (h : wpAnyH P md ops Q S fuel (listed.setIfInBounds i true) (a.put oi.dst v) w)
    (hi : ops[i]? = some oi := by simp only [List.getElem?_toArray, List.getElem?_cons_succ, List.getElem?_cons_zero]; rfl)
    (hs : Region.noSelect ops = true := by kernel_rfl) (hf : Region.free md ops listed i = true := by kernel_rfl) (hr : (Region.ready md ops listed).contains i = true := by kernel_rfl)
    (hQ : ∀ c a w, Q (.panic c) (a.put oi.dst v) w → Q (.panic c) a w := by intro _ _ _ h; exact h) (hw : Region.wanted oi (yielded ops a.tmps) = true := by rfl)
    (hy : ∀ w, S w → (execOp a.eval oi).run P w = .ok (.value v) w := by intro W hW; go_simp; first | done | with_reducible rfl) : wpAnyH P md ops Q S (fuel + 1) listed a w :=
  take_step hi hs hf hr hQ hw hy hS h
theorem stK (i : Nat) {oi : Oper} (hS : S w) (h : wpAnyH P md ops Q S fuel (listed.setIfInBounds i true) (a.put oi.dst undef) w)
    (hi : ops[i]? = some oi := by simp only [List.getElem?_toArray, List.getElem?_cons_succ, List.getElem?_cons_zero]; rfl)
    (hs : Region.noSelect ops = true := by kernel_rfl) (hf : Region.free md ops listed i = true := by kernel_rfl) (hr : (Region.ready md ops listed).contains i = true := by kernel_rfl)
    (hQ : ∀ c a w, Q (.panic c) (a.put oi.dst undef) w → Q (.panic c) a w := by intro _ _ _ h; exact h) (hw : Region.wanted oi (yielded ops a.tmps) = false := by rfl) : wpAnyH P md ops Q S (fuel + 1) listed a w :=
  skip_step hi hs hf hr hQ hw hS h
theorem stA (i : Nat) {oi : Oper} {v : Value} (h : wpAny P md ops Q fuel (listed.setIfInBounds i true) (a.put oi.dst v) w)
    (hi : ops[i]? = some oi := by simp only [List.getElem?_toArray, List.getElem?_cons_succ, List.getElem?_cons_zero]; rfl)
    (hs : Region.noSelect ops = true := by kernel_rfl) (hf : Region.free md ops listed i = true := by kernel_rfl) (hr : (Region.ready md ops listed).contains i = true := by kernel_rfl)
    (hQ : ∀ c a w, Q (.panic c) (a.put oi.dst v) w → Q (.panic c) a w := by intro _ _ _ h; exact h) (hw : Region.wanted oi (yielded ops a.tmps) = true := by rfl)
    (hy : ∀ w, (execOp a.eval oi).run P w = .ok (.value v) w := by intro W; go_simp; first | done | with_reducible rfl) : wpAny P md ops Q (fuel + 1) listed a w :=
  wpAny_take hi hs hf hr hQ (.inl ⟨hw, hy⟩) h
theorem rdH (rs : List Nat) (h : AllReadyH P md ops Q S fuel listed a w rs) (hr : Region.ready md ops listed = rs := by kernel_rfl) (hne : rs ≠ [] := by simp) : wpAnyH P md ops Q S (fuel + 1) listed a w := wpAnyH_ready hr hne h
theorem rdA (rs : List Nat) (h : AllReady P md ops Q fuel listed a w rs) (hr : Region.ready md ops listed = rs := by kernel_rfl) (hne : rs ≠ [] := by simp) : wpAny P md ops Q (fuel + 1) listed a w := wpAny_ready hr hne h
theorem rcH {i : Nat} {o : Oper} {rs : List Nat} (h : ∀ K' : Act → World → Prop, Shut (∀ a w, S w → (S w → wpAnyH P md ops Q S fuel (listed.setIfInBounds i true) a w) → K' a w) → if Region.wanted o (yielded ops a.tmps) = true then Oper.wp P o a w K' Q else K' (a.put o.dst undef) w)
    (hs : AllReadyH P md ops Q S fuel listed a w rs) (ho : ops[i]? = some o := by simp only [List.getElem?_toArray, List.getElem?_cons_succ, List.getElem?_cons_zero]; rfl) : AllReadyH P md ops Q S fuel listed a w (i :: rs) := AllReadyH.cons ho h hs
theorem rcA {i : Nat} {o : Oper} {rs : List Nat} (h : ∀ K' : Act → World → Prop, (∀ a w, wpAny P md ops Q fuel (listed.setIfInBounds i true) a w → K' a w) → if Region.wanted o (yielded ops a.tmps) = true then Oper.wp P o a w K' Q else K' (a.put o.dst undef) w)
    (hs : AllReady P md ops Q fuel listed a w rs) (ho : ops[i]? = some o := by simp only [List.getElem?_toArray, List.getElem?_cons_succ, List.getElem?_cons_zero]; rfl) : AllReady P md ops Q fuel listed a w (i :: rs) := AllReady.cons ho h hs
end
/-- what a step puts, as rules -/
theorem putr : (∀ (a : Act) (v : Value), a.put none v = a) ∧ (∀ (t : Array Value) (ds : List Deferred) (d : Nat) (v : Value), Act.put ⟨t, ds⟩ (some d) v = ⟨t.setIfInBounds d v, ds⟩) ∧ (∀ (l : List Value) (i : Nat) (v : Value), l.toArray.setIfInBounds i v = (l.set i v).toArray) ∧ (∀ (x : Value) (l : List Value) (v : Value), (x :: l).set 0 v = v :: l) ∧ (∀ (x : Value) (l : List Value) (n : Nat) (v : Value), (x :: l).set (n + 1) v = x :: l.set n v) :=
  ⟨fun _ _ => rfl, fun _ _ _ _ => rfl, fun _ _ _ => by simp, fun _ _ _ => rfl, fun _ _ _ _ => rfl⟩

end Go.Proofs.YtngclmjefadokaaDoor

namespace Go.Proofs.YtngclmjefadokaaDoor
open Go Go.RowKit

theorem bstDrop (s : List UInt8) (n : Nat) : (bst s).extract n s.length = bst (s.drop n) := by
  apply ByteArray.ext
  apply Array.toList_inj.1
  simp [bst, List.take_of_length_le]
theorem bstTake (s : List UInt8) (n : Nat) : (bst s).extract 0 n = bst (s.take n) := by
  apply ByteArray.ext
  apply Array.toList_inj.1
  simp [bst]

end Go.Proofs.YtngclmjefadokaaDoor

namespace Go.Proofs.YtngclmjefadokaaDoor
open Go Go.RowKit

theorem wpList_bytes_new {P : Program} (w : World) {ops : Array Oper} {rest : List Oper} {o : Oper} {a : Act} {Q : Exit → Act → World → Prop} (hgd : o.guard = none) (x : Operand) (src dst e : TypeId)
    (ho : o.op = .convert src dst x) (hs : P.underlying src = some .string) (hd : P.underlying dst = some (.slice e)) (he : P.underlying e = some (.int .u8)) (l : List UInt8) (hx : a.eval x = .string (bst l))
    (h : ∀ g c w', g = w.heap.size → l.length ≤ c → At w' w'.heap.size (some ⟨g, 0, none⟩) l → (∀ j, j < l.length → w'.frozen? ⟨g, j, none⟩ = false) → Below w.heap.size w w' → wpList P ops Q rest (a.put o.dst (.slice (some ⟨g, 0, none⟩) l.length c)) w') : wpList P ops Q (o :: rest) a w := by
  refine wpList_plain hgd fun K hK => ?_
  have hrun := run_bytes_of_string (P := P) w src dst e (bst l) hs hd he
  have hcap := grownCap_ge w (bst l).size 0 e
  generalize grownCap w (bst l).size 0 e = cap at hrun hcap
  unfold Oper.wp
  simp only [execOp, ho, hx, Sem.run_bind, hrun, Result.andThen_ok, Sem.run_pure]
  rw [show (bst l).size = l.length from bst_size l] at hcap ⊢
  have hb : (w.drew.alloc (.cells (bytesRow (bst l) cap) e ((bytesRow (bst l) cap).size, (bytesRow (bst l) cap).size + 1))).heap[w.heap.size]? = some (.cells (bytesRow (bst l) cap) e ((bytesRow (bst l) cap).size, (bytesRow (bst l) cap).size + 1)) := heap_alloc_new w.drew _
  refine hK _ _ (h _ _ _ rfl hcap ?_ ?_ ?_)
  · intro hpos
    refine ⟨w.heap.size, 0, rfl, ?_, fun j y hj => ?_⟩
    · show w.heap.size < (w.heap.push _).size
      simp
    · rw [cell_of_row _ _ _ _ _ _ hb, Nat.zero_add]
      have hjl := (List.getElem?_eq_some_iff.1 hj).1
      have hv := (List.getElem?_eq_some_iff.1 hj).2
      simp [bytesRow, bst, Array.getElem?_append, hjl, hv]
  · intro j hj
    unfold World.frozen?
    simp only [hb]
    simp [bytesRow, bst]
    omega
  · exact ((Below.refl _ _).drew).alloc (by show w.heap.size ≤ w.heap.size; omega) _

/-- the same, one byte of it told -/
theorem wpList_bytes_one {P : Program} (w : World) {ops : Array Oper} {rest : List Oper} {o : Oper} {a : Act} {Q : Exit → Act → World → Prop} (hgd : o.guard = none) (x : Operand) (src dst e : TypeId)
    (ho : o.op = .convert src dst x) (hs : P.underlying src = some .string) (hd : P.underlying dst = some (.slice e)) (he : P.underlying e = some (.int .u8)) (l : List UInt8) (hx : a.eval x = .string (bst l)) (k : Nat) (y : UInt8) (hk : l[k]? = some y)
    (h : ∀ g c w', w.heap.size ≤ g → l.length ≤ c → Kept (At w' w'.heap.size (some ⟨g, 0, none⟩) l) → w'.cell? ⟨g, k, none⟩ = some (.int .u8 (y.toNat : Int)) → w'.frozen? ⟨g, k, none⟩ = false → Kept (Below w.heap.size w w') → wpList P ops Q rest (a.put o.dst (.slice (some ⟨g, 0, none⟩) l.length c)) w') : wpList P ops Q (o :: rest) a w := by
  refine wpList_bytes_new w hgd x src dst e ho hs hd he l hx fun g c w' hg hc hA hf hb => ?_
  have hkl := (List.getElem?_eq_some_iff.1 hk).1
  refine h g c w' (by rw [hg]; exact Nat.le_refl _) hc ⟨hA⟩ ?_ (hf k hkl) ⟨hb⟩
  obtain ⟨b, off, e, _, hcc⟩ := hA (by omega)
  injection e with e
  injection e with e1 e2 _
  subst e1 e2
  have := hcc k y hk
  rwa [Nat.zero_add] at this

/-- one byte of it is written -/
theorem At.setAt {w : World} {B g k : Nat} {l : List UInt8} (h : At w B (some ⟨g, 0, none⟩) l) (hk : k < l.length) (y : UInt8) : At (w.setCell ⟨g, k, none⟩ (.int .u8 (y.toNat : Int))) B (some ⟨g, 0, none⟩) (l.set k y) := fun hl => by
  obtain ⟨b, off, e, hb, hc⟩ := h (by omega)
  injection e with e
  injection e with e1 e2 _
  subst e1 e2
  refine ⟨g, 0, rfl, hb, fun j x hj => ?_⟩
  by_cases hjk : j = k
  · subst hjk
    rw [List.getElem?_set_self hk] at hj
    injection hj with hj
    subst hj
    have := hc j _ (List.getElem?_eq_getElem hk)
    rw [Nat.zero_add] at this ⊢
    exact World.cell?_setCell_same w _ _ this
  · rw [List.getElem?_set_ne (fun e => hjk e.symm)] at hj
    rw [World.cell?_setCell_other w _ _ _ (fun e => by injection e with _ e _; omega)]
    exact hc j x hj

end Go.Proofs.YtngclmjefadokaaDoor

namespace Go.Proofs.YtngclmjefadokaaDoor
open Go Go.RowKit

theorem Only.under {r : Nat} {a w w' : World} (h : Only r a w) (k : Below a.heap.size w w') : Only r a w' := ⟨k.os.trans h.os, k.tape.trans h.tape, k.output.trans h.output, Nat.le_trans h.size k.size, fun i hi hne => (k.block i hi).trans (h.block i hi hne)⟩
/-- how an element is laid: in k cells of one value each -/
structure Enc (α : Type) where
  k : Nat
  enc : α → List Value
  len : ∀ x, (enc x).length = k
  one : ∀ x, ∀ u ∈ enc x, u.oneCell' = true
  pos : 0 < k
section
variable {α : Type} (E : Enc α)
def gcells (l : List α) : List Value := l.flatMap E.enc
theorem gcells_cons (x : α) (l : List α) : gcells E (x :: l) = E.enc x ++ gcells E l := by simp [gcells]
theorem gcells_append (a b : List α) : gcells E (a ++ b) = gcells E a ++ gcells E b := by simp [gcells]
theorem gcells_length (l : List α) : (gcells E l).length = l.length * E.k := by
  induction l with
  | nil => simp [gcells]
  | cons x l ih => rw [gcells_cons, List.length_append, E.len, ih, List.length_cons, Nat.add_mul]; omega
theorem gcells_one (l : List α) : ∀ u ∈ gcells E l, u.oneCell' = true := by
  intro u hu
  simp only [gcells, List.mem_flatMap] at hu
  obtain ⟨x, _, hx⟩ := hu
  exact E.one x u hx
theorem gcells_get : ∀ (l : List α) (i : Nat) (x : α) (j : Nat) (u : Value), l[i]? = some x → (E.enc x)[j]? = some u → (gcells E l)[i * E.k + j]? = some u
  | [], i, x, j, u, h, _ => by simp at h
  | y :: l, 0, x, j, u, h, hu => by
    obtain rfl : y = x := by simpa using h
    have hj := (List.getElem?_eq_some_iff.1 hu).1
    rw [gcells_cons, Nat.zero_mul, Nat.zero_add, List.getElem?_append_left hj, hu]
  | y :: l, i + 1, x, j, u, h, hu => by
    have ih := gcells_get l i x j u (by simpa using h) hu
    have e : (i + 1) * E.k + j = (E.enc y).length + (i * E.k + j) := by rw [E.len, Nat.add_mul]; omega
    rw [gcells_cons, e, List.getElem?_append_right (by omega), Nat.add_sub_cancel_left]
    exact ih
theorem gcells_at {l : List α} {j : Nat} {u : Value} (h : (gcells E l)[j]? = some u) : ∃ i x r, j = i * E.k + r ∧ l[i]? = some x ∧ (E.enc x)[r]? = some u := by
  have hj := (List.getElem?_eq_some_iff.1 h).1
  rw [gcells_length] at hj
  have hi : j / E.k < l.length := Nat.div_lt_of_lt_mul (by rw [Nat.mul_comm]; exact hj)
  have hx : l[j / E.k]? = some l[j / E.k] := List.getElem?_eq_getElem hi
  have hr : j % E.k < (E.enc l[j / E.k]).length := by rw [E.len]; exact Nat.mod_lt _ E.pos
  have hu : (E.enc l[j / E.k])[j % E.k]? = some (E.enc l[j / E.k])[j % E.k] := List.getElem?_eq_getElem hr
  have he : j = j / E.k * E.k + j % E.k := by rw [Nat.mul_comm]; exact (Nat.div_add_mod _ _).symm
  have hg := gcells_get E l _ _ _ _ hx hu
  rw [← he, h] at hg
  injection hg with hg
  exact ⟨_, _, _, he, hx, by rw [hg]; exact hu⟩

/-- 'A' leads to these elements, below block B -/
def GAt (w : World) (B : Nat) (A : Option Addr) (l : List α) : Prop :=
  0 < l.length → ∃ b off, A = some ⟨b, off, none⟩ ∧ b < B ∧ ∀ i x j u, l[i]? = some x → (E.enc x)[j]? = some u → w.cell? ⟨b, off + i * E.k + j, none⟩ = some u
variable {E} {w w' : World} {B B' : Nat} {A : Option Addr} {l : List α}
theorem GAt.nil : GAt E w B A [] := fun h => absurd h (by simp)
theorem GAt.more (h : GAt E w B A l) (hB : B ≤ B') : GAt E w B' A l := fun hl => by
  obtain ⟨b, off, e, hb, hc⟩ := h hl
  exact ⟨b, off, e, by omega, hc⟩
theorem GAt.keep (h : GAt E w B A l) (hk : ∀ k, k < B → w'.heap[k]? = w.heap[k]?) : GAt E w' B A l := fun hl => by
  obtain ⟨b, off, e, hb, hc⟩ := h hl
  exact ⟨b, off, e, hb, fun i x j u hi hu => (World.cell?_of_block (a := ⟨b, _, none⟩) (hk b hb)).trans (hc i x j u hi hu)⟩
theorem GAt.below (h : GAt E w B A l) (hb : Below B w w') : GAt E w' B A l := h.keep fun k hk => hb.block k hk
theorem GAt.take (h : GAt E w B A l) (n : Nat) : GAt E w B A (l.take n) := fun hl => by
  obtain ⟨b, off, e, hb, hc⟩ := h (by rw [List.length_take] at hl; omega)
  refine ⟨b, off, e, hb, fun i x j u hi hu => hc i x j u ?_ hu⟩
  rw [List.getElem?_take] at hi
  split at hi
  · exact hi
  · cases hi
/-- the cells of one element -/
theorem GAt.get (h : GAt E w B A l) {i : Nat} (hi : i < l.length) : ∃ b off x, A = some ⟨b, off, none⟩ ∧ b < B ∧ l[i]? = some x ∧ ∀ j u, (E.enc x)[j]? = some u → w.cell? ⟨b, off + i * E.k + j, none⟩ = some u := by
  obtain ⟨b, off, e, hb, hc⟩ := h (by omega)
  exact ⟨b, off, _, e, hb, List.getElem?_eq_getElem hi, fun j u hu => hc i _ j u (List.getElem?_eq_getElem hi) hu⟩
theorem GAt.one (w : World) (x : α) (t : TypeId) {cs : Array Value} (hcs : cs.toList = E.enc x) : GAt E (w.alloc (.cells cs t)) (w.heap.size + 1) (some ⟨w.heap.size, 0, none⟩) [x] := fun _ => by
  refine ⟨w.heap.size, 0, rfl, by omega, fun i y j u hi hu => ?_⟩
  have : i = 0 := by have := (List.getElem?_eq_some_iff.1 hi).1; simp at this; omega
  subst this
  obtain rfl : x = y := by simpa using hi
  rw [Nat.zero_mul, Nat.zero_add]
  rw [(Blk.new w t cs).cell j, ← hu, ← hcs]
  simp

theorem GAt.one_at {w : World} {x : α} {t : TypeId} {cs : Array Value} {g : Nat} (hcs : cs.toList = E.enc x) (hg : g = w.heap.size) : GAt E (w.alloc (.cells cs t)) (g + 1) (some ⟨g, 0, none⟩) [x] := by
  subst hg
  exact GAt.one w x t hcs
theorem GAt.grown (h : GAt E w B A l) {row : Option Nat} (hg : w.grownBy w' row) (hB : B ≤ w.heap.size) (hne : ∀ b off, A = some ⟨b, off, none⟩ → some b ≠ row) : GAt E w' B A l := fun hl => by
  obtain ⟨b, off, e, hb, hc⟩ := h hl
  exact ⟨b, off, e, hb, fun i x j u hi hu => (World.cell?_of_block (a := ⟨b, _, none⟩) (hg.block b (by omega) (hne b off e))).trans (hc i x j u hi hu)⟩
/-- a row of elements of the call's own -/
def GRow (E : Enc α) (e : TypeId) (w : World) (base : Nat) (A : Option Addr) (m c : Nat) (l : List α) : Prop :=
  m = l.length ∧ w.ownsRow base e E.k (.slice A m c) m (gcells E l)
variable {e : TypeId} {base m c : Nat}
theorem GRow.at_ (h : GRow E e w base A m c l) : GAt E w w.heap.size A l := fun hl => by
  obtain ⟨hm, hown⟩ := h
  rcases hown.2 with ⟨_, h0⟩ | ⟨g, cap, cur, hv, _, hg, _⟩
  · omega
  · have hA : A = some ⟨g, 0, none⟩ := by injection hv
    subst hA
    have hlt : g < w.heap.size := (Array.getElem?_eq_some_iff.1 hg).1
    refine ⟨g, 0, rfl, hlt, fun i x j u hi hu => ?_⟩
    have e0 := hown.cells (g := g) rfl _ _ (gcells_get E l i x j u hi hu)
    have ea : ∀ j, (⟨g, 0, none⟩ : Addr).add j = ⟨g, 0 + j, none⟩ := by intro j; unfold Addr.add; split <;> simp_all
    rw [ea] at e0
    rw [Nat.add_assoc]
    exact e0
theorem GRow.alloc (h : GRow E e w base A m c l) (o : Obj) : GRow E e (w.alloc o) base A m c l := ⟨h.1, h.2.alloc o⟩
theorem GRow.kept (h : GRow E e w base A m c l) {row : Option Nat} (hb : w.grownBy w' row) (hne : (Value.slice A m c).ownBlock = none ∨ (Value.slice A m c).ownBlock ≠ row) : GRow E e w' base A m c l := ⟨h.1, h.2.kept hb hne⟩
theorem GRow.below (h : GRow E e w base A m c l) (hb : Below w.heap.size w w') : GRow E e w' base A m c l := by
  refine ⟨h.1, h.2.kept (row := none) ⟨hb.os, hb.tape, hb.output, hb.size, fun k hk _ => hb.block k hk⟩ ?_⟩
  cases hv : (Value.slice A m c).ownBlock <;> simp
theorem GRow.cap (h : GRow E e w base A m c l) : m ≤ c := by
  rcases h.2.2 with ⟨_, h0⟩ | ⟨g, cap, cur, hv, _, _, hnc, _⟩
  · omega
  · injection hv with _ _ hc
    omega
theorem GRow.set (h : GRow E e w base A m c l) {p : Addr} (hp : p.block < base) (u : Value) : GRow E e (w.setCell p u) base A m c l := ⟨h.1, ownsRow_setCell_other h.2 (fun e => by have := (h.2.lt _ e).1; omega) u⟩
theorem GRow.nil : GRow E e w base none 0 0 [] := ⟨rfl, World.ownsRow_nil _ _ _ _⟩
theorem GRow.empty (w : World) {base g : Nat} (hg : g = w.heap.size) (hb : base ≤ w.heap.size) : GRow E e (w.alloc (.cells #[] e)) base (some ⟨g, 0, none⟩) 0 0 [] := by
  subst hg
  exact ⟨rfl, by simp [gcells], .inr ⟨w.heap.size, 0, #[], rfl, hb, heap_alloc_new w _, Nat.le_refl _, Nat.zero_le _, by simp, by simp [gcells]⟩⟩
theorem GRow.le (h : GRow E e w base A m c l) {b : Nat} (hb : b ≤ base) : GRow E e w b A m c l := ⟨h.1, Joins.ownsRow_le h.2 hb⟩

/-- these elements lie in one of P's blocks -/
def In (P : Nat → Prop) (A : Option Addr) (l : List α) : Prop := ∀ b off, A = some ⟨b, off, none⟩ → 0 < l.length → P b
theorem In.weak {P P' : Nat → Prop} (h : In P A l) (hp : ∀ k, P k → P' k) : In P' A l := fun b off e hl => hp b (h b off e hl)
theorem In.nil {P : Nat → Prop} : In P A ([] : List α) := fun _ _ _ h => absurd h (by simp)
theorem GAt.in_ (h : GAt E w B A l) : In (fun k => k < B) A l := fun b off e hl => by
  obtain ⟨b', off', e', hb, _⟩ := h hl
  rw [e] at e'
  injection e' with e'
  injection e' with e1 _ _
  subst e1
  exact hb
theorem GAt.kept {P : Nat → Prop} (h : GAt E w B A l) (hi : In P A l) (hB : B ≤ B') (hk : ∀ k, P k → w'.heap[k]? = w.heap[k]?) : GAt E w' B' A l := fun hl => by
  obtain ⟨b, off, e, hb, hc⟩ := h hl
  exact ⟨b, off, e, by omega, fun i x j u hi' hu => (World.cell?_of_block (a := ⟨b, _, none⟩) (hk b (hi b off e hl))).trans (hc i x j u hi' hu)⟩
theorem GRow.in_ (h : GRow E e w base A m c l) : In (fun k => base ≤ k) A l := fun b off ea hl => by
  rcases h.2.2 with ⟨_, h0⟩ | ⟨g, cap, cur, hv, hg, _⟩
  · have := h.1; omega
  · injection hv with hA
    rw [ea] at hA
    injection hA with hA
    injection hA with e1 _ _
    subst e1
    exact hg
/-- what the program says of the element's type -/
structure GInfo (E : Enc α) (P : Program) (t e : TypeId) (nb : Nat) : Prop where
  sl : P.underlying t = some (.slice e)
  info : ∃ i z, P.info? e = some i ∧ i.zero = some z ∧ i.size = E.k ∧ i.bytes = nb ∧ z.cells.size = E.k

/-- append(l, m...), with where the row lies then -/
theorem wp_append_own {P : Program} (w : World) {o : Oper} {a : Act} {K : Act → World → Prop} {Q : Exit → Act → World → Prop} (s x : Operand) (E : Enc α) {t e : TypeId} {nb : Nat} (hI : GInfo E P t e nb) (hnb : nb ≤ 128)
    (ho : o.op = .call { callee := .builtin .append, args := #[s, x], argTypes := #[t, t] })
    (base : Nat) {A A2 : Option Addr} {m c n c2 B : Nat} {ws ns : List α} (hs : a.eval s = .slice A m c) (hrow : GRow E e w base A m c ws) (hx : a.eval x = .slice A2 n c2) (hn : n = ns.length) (hA : GAt E w B A2 ns)
    (hlen : ws.length + ns.length ≤ 1099511627776) (hbase : base ≤ w.heap.size)
    (h : ∀ A' m' c' w', GRow E e w' base A' m' c' (ws ++ ns) → m' ≤ c' → Below base w w' → w.grownBy w' (Value.slice A m c).ownBlock → ((Value.slice A' m' c').ownBlock = (Value.slice A m c).ownBlock ∨ (Value.slice A' m' c').ownBlock = some w.heap.size) → K (a.put o.dst (.slice A' m' c')) w') : o.wp P a w K Q := by
  obtain ⟨i0, z, hi, hz0, hz1, hz2, hz3⟩ := hI.info
  obtain ⟨hm, hown⟩ := hrow
  subst hm hn
  have hpos := E.pos
  have hrun : ∃ v' w', (Builtin.append_ #[t, t] o.type #[.slice A ws.length c, .slice A2 ns.length c2]).run P w = .ok v' w' ∧ w'.ownsRow base e E.k v' (ws ++ ns).length (gcells E (ws ++ ns)) ∧ w.grownBy w' (Value.slice A ws.length c).ownBlock ∧ (v'.ownBlock = (Value.slice A ws.length c).ownBlock ∨ v'.ownBlock = some w.heap.size) := by
    rcases A2 with _ | ad
    · have hnn : ns = [] := by
        rcases ns with _ | ⟨y, r⟩
        · rfl
        · obtain ⟨_, _, h, _⟩ := hA (by simp)
          cases h
      subst hnn
      refine ⟨_, w, ?_, by simpa using hown, World.grownBy.refl w _, .inl rfl⟩
      rcases hown.2 with ⟨hv, h0⟩ | ⟨g, cap, cur, hv, _, _, hnc, _⟩
      · rw [hv]
        simp [Builtin.append_, run_underlying hI.sl, sizeOf, typeInfo, hi, Builtin.lenOf, Builtin.firstCells]
      · rw [hv]
        simp [Builtin.append_, run_underlying hI.sl, sizeOf, typeInfo, hi, Builtin.lenOf, Builtin.firstCells, hnc, storeCells]
    · have hc : ∀ j u, (gcells E ns)[j]? = some u → w.cell? (ad.add j) = some u := by
        intro j u hu
        obtain ⟨i, y, r, rfl, hy, hr⟩ := gcells_at E hu
        have hil := (List.getElem?_eq_some_iff.1 hy).1
        obtain ⟨b, off, e1, _, hcell⟩ := hA (by omega)
        injection e1 with e1
        subst e1
        have e2 : ∀ j, (⟨b, off, none⟩ : Addr).add j = ⟨b, off + j, none⟩ := by intro j; unfold Addr.add; split <;> simp_all
        rw [e2, ← Nat.add_assoc]
        exact hcell i y r u hy hr
      have hb : (ws.length + ns.length) * nb ≤ 140737488355328 := Nat.le_trans (Nat.mul_le_mul hlen hnb) (by decide)
      obtain ⟨v', w', hr, h2, h3, _, h5⟩ := run_append_own_at (P := P) w base t o.type e i0 z E.k nb hI.sl hi hz0 hz1 hz2 hz3 hpos (.slice A ws.length c) ws.length (gcells E ws) hown ad ns.length c2 (gcells E ns) (gcells_length E ns) hc (gcells_one E ns)
        (by unfold maxLen; omega) hb hbase
      exact ⟨v', w', hr, by rw [gcells_append, List.length_append]; exact h2, h3, h5⟩
  obtain ⟨v', w', hr, h2, h3, h5⟩ := hrun
  unfold Oper.wp execOp
  simp only [ho, resolve, invoke, builtin, Sem.run_bind, Sem.run_pure, Result.andThen_ok, List.map_toArray, List.map_cons, List.map_nil, hs, hx, hr]
  obtain ⟨A', c', rfl⟩ := own_shape h2
  exact h A' _ c' w' ⟨rfl, h2⟩ (GRow.cap ⟨rfl, h2⟩) ((Below.refl _ _).grown h3 hbase (fun k hk => (hown.lt k hk).1)) h3 h5
/-- append(l, m...) -/
theorem wp_append_g {P : Program} (w : World) {o : Oper} {a : Act} {K : Act → World → Prop} {Q : Exit → Act → World → Prop} (s x : Operand) (E : Enc α) {t e : TypeId} {nb : Nat} (hI : GInfo E P t e nb) (hnb : nb ≤ 128)
    (ho : o.op = .call { callee := .builtin .append, args := #[s, x], argTypes := #[t, t] })
    (base : Nat) {A A2 : Option Addr} {m c n c2 B : Nat} {ws ns : List α} (hs : a.eval s = .slice A m c) (hrow : GRow E e w base A m c ws) (hx : a.eval x = .slice A2 n c2) (hn : n = ns.length) (hA : GAt E w B A2 ns)
    (hlen : ws.length + ns.length ≤ 1099511627776) (hbase : base ≤ w.heap.size)
    (h : ∀ A' m' c' w', GRow E e w' base A' m' c' (ws ++ ns) → m' ≤ c' → Below base w w' → w.grownBy w' (Value.slice A m c).ownBlock → K (a.put o.dst (.slice A' m' c')) w') : o.wp P a w K Q :=
  wp_append_own w s x E hI hnb ho base hs hrow hx hn hA hlen hbase fun A' m' c' w' h1 h2 h3 h4 _ => h A' m' c' w' h1 h2 h3 h4
theorem wpList_append_g {P : Program} (w : World) {ops : Array Oper} {rest : List Oper} {o : Oper} {a : Act} {Q : Exit → Act → World → Prop} (hgd : o.guard = none) (s x : Operand) (E : Enc α) {t e : TypeId} {nb : Nat} (hI : GInfo E P t e nb) (hnb : nb ≤ 128)
    (ho : o.op = .call { callee := .builtin .append, args := #[s, x], argTypes := #[t, t] })
    (base : Nat) {A A2 : Option Addr} {m c n c2 B : Nat} {ws ns : List α} (hs : a.eval s = .slice A m c) (hrow : GRow E e w base A m c ws) (hx : a.eval x = .slice A2 n c2) (hn : n = ns.length) (hA : GAt E w B A2 ns)
    (hlen : ws.length + ns.length ≤ 1099511627776) (hbase : base ≤ w.heap.size)
    (h : ∀ A' m' c' w', GRow E e w' base A' m' c' (ws ++ ns) → m' ≤ c' → Below base w w' → w.grownBy w' (Value.slice A m c).ownBlock → wpList P ops Q rest (a.put o.dst (.slice A' m' c')) w') : wpList P ops Q (o :: rest) a w :=
  wpList_plain hgd fun _ hK => wp_append_g w s x E hI hnb ho base hs hrow hx hn hA hlen hbase fun A' m' c' w' h1 h2 h3 h4 => hK _ _ (h A' m' c' w' h1 h2 h3 h4)
theorem wpList_append_own {P : Program} (w : World) {ops : Array Oper} {rest : List Oper} {o : Oper} {a : Act} {Q : Exit → Act → World → Prop} (hgd : o.guard = none) (s x : Operand) (E : Enc α) {t e : TypeId} {nb : Nat} (hI : GInfo E P t e nb) (hnb : nb ≤ 128)
    (ho : o.op = .call { callee := .builtin .append, args := #[s, x], argTypes := #[t, t] })
    (base : Nat) {A A2 : Option Addr} {m c n c2 B : Nat} {ws ns : List α} (hs : a.eval s = .slice A m c) (hrow : GRow E e w base A m c ws) (hx : a.eval x = .slice A2 n c2) (hn : n = ns.length) (hA : GAt E w B A2 ns)
    (hlen : ws.length + ns.length ≤ 1099511627776) (hbase : base ≤ w.heap.size)
    (h : ∀ A' m' c' w', GRow E e w' base A' m' c' (ws ++ ns) → m' ≤ c' → Below base w w' → w.grownBy w' (Value.slice A m c).ownBlock → ((Value.slice A' m' c').ownBlock = (Value.slice A m c).ownBlock ∨ (Value.slice A' m' c').ownBlock = some w.heap.size) → wpList P ops Q rest (a.put o.dst (.slice A' m' c')) w') : wpList P ops Q (o :: rest) a w :=
  wpList_plain hgd fun _ hK => wp_append_own w s x E hI hnb ho base hs hrow hx hn hA hlen hbase fun A' m' c' w' h1 h2 h3 h4 h5 => hK _ _ (h A' m' c' w' h1 h2 h3 h4 h5)
/-- rows of two types lie apart -/
theorem own_apart {w : World} {b b' k k' n n' : Nat} {e e' : TypeId} {v v' : Value} {xs xs' : List Value} (h : w.ownsRow b e k v n xs) (h' : w.ownsRow b' e' k' v' n' xs') (hne : e ≠ e') : v.ownBlock = none ∨ v.ownBlock ≠ v'.ownBlock := by
  rcases h.2 with ⟨rfl, _⟩ | ⟨g, cap, cur, rfl, _, hg, _⟩
  · exact .inl rfl
  · refine .inr fun he => ?_
    rcases h'.2 with ⟨rfl, _⟩ | ⟨g', cap', cur', rfl, _, hg', _⟩
    · cases he
    · have : g = g' := by simpa [Value.ownBlock] using he
      subst this
      rw [hg] at hg'
      injection hg' with hg'
      injection hg' with _ ht
      exact hne ht
end

end Go.Proofs.YtngclmjefadokaaDoor

namespace Go.Proofs.YtngclmjefadokaaDoor
open Go Go.RowKit

/-- append(b, l...) of bytes, at the operation alone -/
theorem wp_append_row (w : World) {o : Oper} {a : Act} {K : Act → World → Prop} {Q : Exit → Act → World → Prop} (s x : Operand) (ho : o.op = .call { callee := .builtin .append, args := #[s, x], argTypes := #[98, 98] })
    (base : Nat) {A A2 : Option Addr} {m c n c2 : Nat} {xs news : List UInt8} (hs : a.eval s = .slice A m c) (hrow : Row w base 5 A m c xs) (hx : a.eval x = .slice A2 n c2) (hn : n = news.length) (hA : At w w.heap.size A2 news) (hlen : xs.length + news.length ≤ 140737488355328) (hbase : base ≤ w.heap.size)
    (h : ∀ A' m' c' w', Row w' base 5 A' m' c' (xs ++ news) → m' ≤ c' → Below base w w' → K (a.put o.dst (.slice A' m' c')) w') : o.wp Tryd.prog a w K Q := by
  obtain ⟨i0, hi, hz0, hz1, hz2⟩ := info_parts info_byte
  obtain ⟨hm, hown⟩ := hrow
  subst hm hn
  obtain ⟨v', w', hr, h2, h3, _⟩ := run_append_bs (P := Tryd.prog) w base 98 o.type 5 i0 Tryd.underlying98 hi hz0 hz1 hz2 (.slice A xs.length c) xs news hown A2 c2 hA hlen hbase
  unfold Oper.wp execOp
  simp only [ho, resolve, invoke, builtin, Sem.run_bind, Sem.run_pure, Result.andThen_ok, List.map_toArray, List.map_cons, List.map_nil, hs, hx, hr]
  obtain ⟨A', c', rfl⟩ := own_shape h2
  exact h A' _ c' w' ⟨rfl, h2⟩ (row_cap ⟨rfl, h2⟩) ((Below.refl _ _).grown h3 hbase (fun k hk => (hown.lt k hk).1))
theorem wpList_append_row (w : World) {ops : Array Oper} {rest : List Oper} {o : Oper} {a : Act} {Q : Exit → Act → World → Prop} (hgd : o.guard = none) (s x : Operand) (ho : o.op = .call { callee := .builtin .append, args := #[s, x], argTypes := #[98, 98] })
    (base : Nat) {A A2 : Option Addr} {m c n c2 : Nat} {xs news : List UInt8} (hs : a.eval s = .slice A m c) (hrow : Row w base 5 A m c xs) (hx : a.eval x = .slice A2 n c2) (hn : n = news.length) (hA : At w w.heap.size A2 news) (hlen : xs.length + news.length ≤ 140737488355328) (hbase : base ≤ w.heap.size)
    (h : ∀ A' m' c' w', Row w' base 5 A' m' c' (xs ++ news) → m' ≤ c' → Below base w w' → wpList Tryd.prog ops Q rest (a.put o.dst (.slice A' m' c')) w') : wpList Tryd.prog ops Q (o :: rest) a w :=
  wpList_plain hgd fun _ hK => wp_append_row w s x ho base hs hrow hx hn hA hlen hbase fun A' m' c' w' h1 h2 h3 => hK _ _ (h A' m' c' w' h1 h2 h3)

end Go.Proofs.YtngclmjefadokaaDoor
