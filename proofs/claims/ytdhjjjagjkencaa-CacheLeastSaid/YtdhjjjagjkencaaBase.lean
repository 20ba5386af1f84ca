/-
  Words for bytes in memory, and what the walks of this seat share: no function of the program is named here.
-/
import Derived.WalkKit
import Derived.ProofKit
import Derived.OpenShut
import Derived.WalkSpells
import Derived.WalkLawsBesides
import Derived.Laws.CopyOwn
import Derived.Lib.Hide
import Derived.Maps.AppendAt
import Derived.Laws.BytesArg
import Derived.Lib.SlBytesConst
import Derived.Lib.SmallJoins
import Derived.Laws.IdiomStrings
namespace Go.Proofs.Ytdhjjjagjkencaa
open Go Go.RowKit

/-- the cells of bytes -/
def bs (l : List UInt8) : List Value := l.map fun b => Value.int .u8 (b.toNat : Int)
theorem bs_length (l : List UInt8) : (bs l).length = l.length := by simp [bs]
theorem bs_append (a b : List UInt8) : bs (a ++ b) = bs a ++ bs b := by simp [bs]
theorem bs_one (l : List UInt8) : ∀ u ∈ bs l, u.oneCell' = true := by
  intro u hu
  obtain ⟨b, _, rfl⟩ := List.mem_map.1 hu
  rfl
theorem bs_get (l : List UInt8) (j : Nat) (x : UInt8) (h : l[j]? = some x) : (bs l)[j]? = some (.int .u8 (x.toNat : Int)) := by
  simp [bs, h]
theorem bs_at {l : List UInt8} {j : Nat} {u : Value} (h : (bs l)[j]? = some u) : ∃ x, l[j]? = some x ∧ u = .int .u8 (x.toNat : Int) := by
  simp only [bs, List.getElem?_map, Option.map_eq_some_iff] at h
  obtain ⟨x, h1, h2⟩ := h
  exact ⟨x, h1, h2.symm⟩

/-- 'A' leads to the bytes 'l', below block B (nothing is said of an empty row). -/
def At (w : World) (B : Nat) (A : Option Addr) (l : List UInt8) : Prop :=
  0 < l.length → ∃ b off, A = some ⟨b, off, none⟩ ∧ b < B ∧ ∀ j x, l[j]? = some x → w.cell? ⟨b, off + j, none⟩ = some (.int .u8 (x.toNat : Int))

theorem At.nil (w : World) (B : Nat) (A : Option Addr) : At w B A [] := fun h => absurd h (by simp)
theorem At.keep {w w' : World} {B : Nat} {A : Option Addr} {l : List UInt8} (h : At w B A l) (hk : ∀ p : Addr, p.block < B → w'.cell? p = w.cell? p) : At w' B A l := fun hl => by
  obtain ⟨b, off, e, hb, hc⟩ := h hl
  exact ⟨b, off, e, hb, fun j x hj => (hk _ hb).trans (hc j x hj)⟩
theorem At.below {w w' : World} {B : Nat} {A : Option Addr} {l : List UInt8} (h : At w B A l) (hb : Below B w w') : At w' B A l := h.keep fun _ hp => hb.cell hp
theorem At.more {w : World} {B B' : Nat} {A : Option Addr} {l : List UInt8} (h : At w B A l) (hB : B ≤ B') : At w B' A l := fun hl => by
  obtain ⟨b, off, e, hb, hc⟩ := h hl
  exact ⟨b, off, e, by omega, hc⟩
theorem At.own {w : World} {base e n c : Nat} {A : Option Addr} {l : List UInt8} (h : w.ownsRow base e 1 (.slice A n c) n (bs l)) : At w w.heap.size A l := fun hl => by
  have hn : l.length = n := by have := h.1; simpa [bs_length] using this
  rcases h.2 with ⟨h1, h2⟩ | ⟨g, cap, cur, hv, _, hg, _⟩
  · omega
  · have hA : A = some ⟨g, 0, none⟩ := by injection hv
    subst hA
    have hlt : g < w.heap.size := (Array.getElem?_eq_some_iff.1 hg).1
    refine ⟨g, 0, rfl, hlt, fun j x hj => ?_⟩
    have := h.cells (g := g) rfl j _ (bs_get l j x hj)
    have e1 : (⟨g, 0, none⟩ : Addr).add j = ⟨g, 0 + j, none⟩ := by unfold Addr.add; split <;> simp_all
    rw [e1] at this
    exact this

/-- what is left behind a cut 's[k:]' -/
theorem At.cut {w : World} {B c k : Nat} {A : Option Addr} {l : List UInt8} (h : At w B A l) (hc : l.length ≤ c) :
    At w B (if c = k then A else A.map (·.add k)) (l.drop k) := fun hl => by
  rw [List.length_drop] at hl
  obtain ⟨b, off, rfl, hb, hcell⟩ := h (by omega)
  rw [if_neg (by omega)]
  have e2 : (⟨b, off, none⟩ : Addr).add k = ⟨b, off + k, none⟩ := by unfold Addr.add; split <;> simp_all
  refine ⟨b, off + k, by rw [Option.map_some, e2], hb, fun j x hj => ?_⟩
  rw [Nat.add_assoc]
  exact hcell (k + j) x (by rw [← hj, List.getElem?_drop])

/-- A slice value that reads as the bytes 'l'. -/
def Holds (w : World) (B : Nat) (v : Value) (l : List UInt8) : Prop :=
  ∃ A c, v = .slice A l.length c ∧ l.length ≤ c ∧ c ≤ maxLen ∧ At w B A l

/-- make([]T, n, c) -/
theorem wpList_make_two {P : Program} (w : World) {ops : Array Oper} {rest : List Oper} {o : Oper} {a : Act} {Q : Exit → Act → World → Prop}
    (hg : o.guard = none) (l c : Operand) (t : TypeId) (hop : o.op = Op.makeSlice t l c)
    (e : TypeId) (i : TypeInfo) (z : Value) (h1 : P.underlying t = some (.slice e)) (h2 : P.info? e = some i) (h3 : i.zero = some z) (h4 : i.size = 1)
    (kl kc : IntKind) (L C : Int) (n m : Nat) (hl : a.eval l = .int kl L) (hc : a.eval c = .int kc C) (hL : L = (n : Int)) (hC : C = (m : Int)) (hz1 : z.cells = #[z]) (hnm : n ≤ m) (b2 : (i.bytes : Int) * m ≤ 281474976710656) (b3 : m ≤ 281474976710656)
    (hK : wpList P ops Q rest (a.put o.dst (.slice (some ⟨w.heap.size, 0, none⟩) n m)) (w.alloc (.cells (List.replicate m z).toArray e))) :
    wpList P ops Q (o :: rest) a w := by
  refine wpList_plain hg fun K hK' => ?_
  have hrun := run_make (P := P) w t e i z h1 h2 h3 kl kc L C (by omega) (by omega) (by rw [hC]; exact b2) (by omega)
  have e1 : L.toNat = n := by omega
  have e2 : C.toNat * i.size = m := by rw [h4]; omega
  have e3 : C.toNat = m := by omega
  have e4 : madeCells z.cells m = (List.replicate m z).toArray := by
    apply Array.toList_inj.1
    rw [hz1, toList_madeCells_one]
  rw [e1, e2, e3, e4] at hrun
  unfold Oper.wp
  simp [execOp, hop, hl, hc, hrun, Result.andThen]
  exact hK' _ _ hK

theorem bs_inj : ∀ {a b : List UInt8}, bs a = bs b → a = b
  | [], [], _ => rfl
  | [], _ :: _, h => by simp [bs] at h
  | _ :: _, [], h => by simp [bs] at h
  | x :: a, y :: b, h => by
    simp only [bs, List.map_cons, List.cons.injEq] at h
    have h1 : (x.toNat : Int) = y.toNat := by have := h.1; injection this
    have h2 : a = b := bs_inj h.2
    rw [h2, UInt8.toNat_inj.1 (show x.toNat = y.toNat by omega)]

theorem own_shape {w : World} {base e size n : Nat} {v : Value} {xs : List Value} (h : w.ownsRow base e size v n xs) : ∃ A c, v = .slice A n c := by
  rcases h.2 with ⟨rfl, rfl⟩ | ⟨g, cap, cur, rfl, _⟩
  · exact ⟨_, _, rfl⟩
  · exact ⟨_, _, rfl⟩

/-- append of bytes to a row of the call's own: the source nil, empty or not -/
theorem run_append_bs {P : Program} (w : World) (base : Nat) (t ty e : TypeId) (i : TypeInfo) (ht : P.underlying t = some (.slice e)) (hi : P.info? e = some i) (hz : i.zero = some (.int .u8 0)) (hsize : i.size = 1) (hby : i.bytes = 1)
    (v : Value) (xs news : List UInt8) (hown : w.ownsRow base e 1 v xs.length (bs xs)) (A : Option Addr) (c : Nat) (hA : At w w.heap.size A news)
    (hlen : xs.length + news.length ≤ 140737488355328) (hbase : base ≤ w.heap.size) :
    ∃ v' w', (Builtin.append_ #[t, t] ty #[v, .slice A news.length c]).run P w = .ok v' w' ∧ w'.ownsRow base e 1 v' (xs ++ news).length (bs (xs ++ news)) ∧ w.grownBy w' v.ownBlock ∧
      (v'.ownBlock = v.ownBlock ∨ v'.ownBlock = some w.heap.size) := by
  rcases A with _ | ad
  · have hn : news = [] := by
      rcases news with _ | ⟨x, r⟩
      · rfl
      · obtain ⟨_, _, h, _⟩ := hA (by simp)
        cases h
    subst hn
    refine ⟨v, w, ?_, by simpa using hown, World.grownBy.refl w _, .inl rfl⟩
    rcases hown.2 with ⟨rfl, h0⟩ | ⟨g, cap, cur, rfl, _, _, hnc, _⟩
    · simp [Builtin.append_, run_underlying ht, sizeOf, typeInfo, hi, Builtin.lenOf, Builtin.firstCells]
    · simp [Builtin.append_, run_underlying ht, sizeOf, typeInfo, hi, Builtin.lenOf, Builtin.firstCells, hnc, storeCells]
  · have hc : ∀ j u, (bs news)[j]? = some u → w.cell? (ad.add j) = some u := by
      intro j u hu
      obtain ⟨x, hx, rfl⟩ := bs_at hu
      have hj : j < news.length := (List.getElem?_eq_some_iff.1 hx).1
      obtain ⟨b, off, e1, _, hcell⟩ := hA (by omega)
      injection e1 with e1
      subst e1
      have e2 : (⟨b, off, none⟩ : Addr).add j = ⟨b, off + j, none⟩ := by unfold Addr.add; split <;> simp_all
      rw [e2]
      exact hcell j x hx
    obtain ⟨v', w', hr, h2, h3, _, h5⟩ := run_append_own_at (P := P) w base t ty e i (.int .u8 0) 1 1 ht hi hz hsize hby rfl (by omega) v xs.length (bs xs) hown ad news.length c (bs news) (by simp [bs_length]) hc (bs_one _)
      (by unfold maxLen; omega) (by omega) hbase
    exact ⟨v', w', hr, by rw [bs_append, List.length_append]; exact h2, h3, h5⟩

theorem wpList_append_bs {P : Program} (w : World) {ops : Array Oper} {rest : List Oper} {o : Oper} {a : Act} {Q : Exit → Act → World → Prop} (hgd : o.guard = none) (s x : Operand) (t : TypeId)
    (ho : o.op = .call { callee := .builtin .append, args := #[s, x], argTypes := #[t, t] })
    (base : Nat) (e : TypeId) (i : TypeInfo) (ht : P.underlying t = some (.slice e)) (hi : P.info? e = some i) (hz : i.zero = some (.int .u8 0)) (hsize : i.size = 1) (hby : i.bytes = 1)
    (v : Value) (xs news : List UInt8) (hs : a.eval s = v) (hown : w.ownsRow base e 1 v xs.length (bs xs)) (A : Option Addr) (n c : Nat) (hx : a.eval x = .slice A n c) (hn : n = news.length) (hA : At w w.heap.size A news)
    (hlen : xs.length + news.length ≤ 140737488355328) (hbase : base ≤ w.heap.size)
    (h : ∀ A' c' w', w'.ownsRow base e 1 (.slice A' (xs ++ news).length c') (xs ++ news).length (bs (xs ++ news)) → w.grownBy w' v.ownBlock →
      ((Value.slice A' (xs ++ news).length c').ownBlock = v.ownBlock ∨ (Value.slice A' (xs ++ news).length c').ownBlock = some w.heap.size) → wpList P ops Q rest (a.put o.dst (.slice A' (xs ++ news).length c')) w') :
    wpList P ops Q (o :: rest) a w := by
  refine wpList_plain hgd fun K hK => ?_
  subst hn
  obtain ⟨v', w', hr, h2, h3, h4⟩ := run_append_bs (P := P) w base t o.type e i ht hi hz hsize hby v xs news hown A c hA hlen hbase
  unfold Oper.wp execOp
  simp only [ho, resolve, invoke, builtin, Sem.run_bind, Sem.run_pure, Result.andThen_ok, List.map_toArray, List.map_cons, List.map_nil, hs, hx, hr]
  obtain ⟨A', c', rfl⟩ := own_shape h2
  exact hK _ _ (h A' c' w' h2 h3 h4)

/-- one byte in a block that has just been made -/
theorem At.one (w : World) (x : UInt8) (e : TypeId) : At (w.alloc (.cells #[.int .u8 (x.toNat : Int)] e)) (w.heap.size + 1) (some ⟨w.heap.size, 0, none⟩) [x] := fun _ => by
  refine ⟨w.heap.size, 0, rfl, by omega, fun j y hj => ?_⟩
  have : j = 0 := by
    have := (List.getElem?_eq_some_iff.1 hj).1
    simp at this; omega
  subst this
  obtain rfl : x = y := by simpa using hj
  exact cell_of_one (heap_alloc_new w _)

/-- A variable's block (type tv) that holds a row of bytes of the call's own. -/
def OutAt (w : World) (base : Nat) (e tv : TypeId) (b : Nat) (l : List UInt8) : Prop :=
  ∃ A c, w.heap[b]? = some (.cells #[.slice A l.length c] tv (0, 0)) ∧ w.ownsRow base e 1 (.slice A l.length c) l.length (bs l)

/-- A slice value of the call's own that reads as the bytes 'l'. -/
def Row (w : World) (base : Nat) (e : TypeId) (A : Option Addr) (m c : Nat) (l : List UInt8) : Prop :=
  m = l.length ∧ w.ownsRow base e 1 (.slice A m c) m (bs l)
/-- A fact that the walk does not look into. -/
structure Kept (p : Prop) : Prop where
  out : p
theorem hid {p : Prop} (h : p) : Kept p := ⟨h⟩

/-- two rows of different element types are different -/
theorem own_ne {w : World} {base n b : Nat} {e tv : TypeId} {v u : Value} {xs : List Value} (h : w.ownsRow base e 1 v n xs) (hb : w.heap[b]? = some (.cells #[u] tv (0, 0))) (hne : e ≠ tv) : v.ownBlock ≠ some b := by
  rcases h.2 with ⟨rfl, _⟩ | ⟨g, cap, cur, rfl, _, hg, _⟩
  · simp [Value.ownBlock]
  · intro he
    have : g = b := by simpa [Value.ownBlock] using he
    subst this
    rw [hg] at hb
    injection hb with hb
    injection hb with _ ht
    exact hne ht

/-- a string of bytes -/
def bst (l : List UInt8) : ByteArray := ⟨l.toArray⟩
theorem bst_size (l : List UInt8) : (bst l).size = l.length := by simp [bst, ByteArray.size]
theorem bst_append (a b : List UInt8) : bst a ++ bst b = bst (a ++ b) := by
  apply ByteArray.ext
  simp [bst]
theorem bst_toList (l : List UInt8) : (bst l).toList = l := ByteArray.toList_mk l
theorem bst_of (s : ByteArray) : s = bst s.data.toList := by
  apply ByteArray.ext
  simp [bst]

theorem bst_get {s : ByteArray} {l : List UInt8} {k : Nat} {x : UInt8} (hs : s = bst l) (hx : l[k]? = some x) (h : k < s.size) : s[k] = x := by
  subst hs
  obtain ⟨h1, h2⟩ := List.getElem?_eq_some_iff.1 hx
  exact h2

/-- string(b) -/
theorem conv_bytes {P : Program} {w : World} {B m c : Nat} {A : Option Addr} {l : List UInt8} (src dst e : TypeId) (hs : P.underlying src = some (.slice e)) (he : P.underlying e = some (.int .u8)) (hd : P.underlying dst = some .string)
    (hA : At w B A l) (hm : m = l.length) : (convert src dst (.slice A m c)).run P w = .ok (.string (bst l)) w := by
  subst hm
  rcases A with _ | ad
  · have hn : l = [] := by
      rcases l with _ | ⟨x, r⟩
      · rfl
      · obtain ⟨_, _, h, _⟩ := hA (by simp)
        cases h
    subst hn
    exact run_convert_bytes_nil w src e hs he _ _ dst hd
  · refine run_convert_bytes_back w src dst e ad c l hs he hd ?_
    intro j hj
    obtain ⟨b, off, e1, _, hcell⟩ := hA (by omega)
    injection e1 with e1
    subst e1
    have e2 : (⟨b, off, none⟩ : Addr).add j = ⟨b, off + j, none⟩ := by unfold Addr.add; split <;> simp_all
    rw [e2]
    exact hcell j _ (List.getElem?_eq_getElem hj)

/-- []byte(s) -/
theorem wp_bytes_of {P : Program} (w : World) {o : Oper} {a : Act} {K : Act → World → Prop} {Q : Exit → Act → World → Prop} (x : Operand) (src dst e : TypeId)
    (ho : o.op = .convert src dst x) (hs : P.underlying src = some .string) (hd : P.underlying dst = some (.slice e)) (he : P.underlying e = some (.int .u8)) (l : List UInt8) (hx : a.eval x = .string (bst l))
    (h : ∀ A c w', l.length ≤ c → At w' w'.heap.size A l → Below w.heap.size w w' → K (a.put o.dst (.slice A l.length c)) w') : o.wp P a w K Q := by
  have hrun := run_bytes_of_string (P := P) w src dst e (bst l) hs hd he
  have hcap := grownCap_ge w (bst l).size 0 e
  generalize grownCap w (bst l).size 0 e = cap at hrun hcap
  unfold Oper.wp
  simp only [execOp, ho, hx, Sem.run_bind, hrun, Result.andThen_ok, Sem.run_pure]
  rw [show (bst l).size = l.length from bst_size l] at hcap ⊢
  refine h _ _ _ hcap ?_ ?_
  · intro hpos
    refine ⟨w.heap.size, 0, rfl, ?_, fun j y hj => ?_⟩
    · show w.heap.size < (w.heap.push _).size
      simp
    · have hb : (w.drew.alloc (.cells (bytesRow (bst l) cap) e ((bytesRow (bst l) cap).size, (bytesRow (bst l) cap).size + 1))).heap[w.heap.size]? = some (.cells (bytesRow (bst l) cap) e ((bytesRow (bst l) cap).size, (bytesRow (bst l) cap).size + 1)) := heap_alloc_new w.drew _
      rw [cell_of_row _ _ _ _ _ _ hb, Nat.zero_add]
      have hjl := (List.getElem?_eq_some_iff.1 hj).1
      have hv := (List.getElem?_eq_some_iff.1 hj).2
      simp [bytesRow, bst, Array.getElem?_append, hjl, hv]
  · exact ((Below.refl _ _).drew).alloc (by show w.heap.size ≤ w.heap.size; omega) _

theorem wpList_bytes_of {P : Program} (w : World) {ops : Array Oper} {rest : List Oper} {o : Oper} {a : Act} {Q : Exit → Act → World → Prop} (hgd : o.guard = none) (x : Operand) (src dst e : TypeId)
    (ho : o.op = .convert src dst x) (hs : P.underlying src = some .string) (hd : P.underlying dst = some (.slice e)) (he : P.underlying e = some (.int .u8)) (l : List UInt8) (hx : a.eval x = .string (bst l))
    (h : ∀ A c w', l.length ≤ c → At w' w'.heap.size A l → Below w.heap.size w w' → wpList P ops Q rest (a.put o.dst (.slice A l.length c)) w') : wpList P ops Q (o :: rest) a w :=
  wpList_plain hgd fun _ hK => wp_bytes_of w x src dst e ho hs hd he l hx fun A c w' h1 h2 h3 => hK _ _ (h A c w' h1 h2 h3)

/-- an operation that is guarded, its guard being met -/
theorem wpList_wanted {P : Program} {ops : Array Oper} {Q : Exit → Act → World → Prop} {a : Act} {w : World} {rest : List Oper} {o : Oper} (hw : Region.wanted o (yielded ops a.tmps) = true)
    (h : ∀ K : Act → World → Prop, (∀ a w, wpList P ops Q rest a w → K a w) → o.wp P a w K Q) : wpList P ops Q (o :: rest) a w :=
  wpList_step fun K hK => by rw [if_pos hw]; exact h K hK
theorem wpList_bytes_wanted {P : Program} (w : World) {ops : Array Oper} {rest : List Oper} {o : Oper} {a : Act} {Q : Exit → Act → World → Prop} (hgd : Region.wanted o (yielded ops a.tmps) = true) (x : Operand) (src dst e : TypeId)
    (ho : o.op = .convert src dst x) (hs : P.underlying src = some .string) (hd : P.underlying dst = some (.slice e)) (he : P.underlying e = some (.int .u8)) (l : List UInt8) (hx : a.eval x = .string (bst l))
    (h : ∀ A c w', l.length ≤ c → At w' w'.heap.size A l → Below w.heap.size w w' → wpList P ops Q rest (a.put o.dst (.slice A l.length c)) w') : wpList P ops Q (o :: rest) a w :=
  wpList_wanted hgd fun _ hK => wp_bytes_of w x src dst e ho hs hd he l hx fun A c w' h1 h2 h3 => hK _ _ (h A c w' h1 h2 h3)

/-- the same under a guard that holds -/
theorem wpList_bytes_when {P : Program} (w : World) {ops : Array Oper} {rest : List Oper} {o : Oper} {a : Act} {Q : Exit → Act → World → Prop} (x : Operand) (src dst e : TypeId)
    (ho : o.op = .convert src dst x) (hs : P.underlying src = some .string) (hd : P.underlying dst = some (.slice e)) (he : P.underlying e = some (.int .u8)) (l : List UInt8) (hx : a.eval x = .string (bst l))
    (hw : Region.wanted o (yielded ops a.tmps) = true)
    (h : ∀ A c w', l.length ≤ c → At w' w'.heap.size A l → Below w.heap.size w w' → wpList P ops Q rest (a.put o.dst (.slice A l.length c)) w') : wpList P ops Q (o :: rest) a w :=
  BigFrame.wpList_want hw fun _ hK => wp_bytes_of w x src dst e ho hs hd he l hx fun A c w' h1 h2 h3 => hK _ _ (h A c w' h1 h2 h3)

/-- a row that has just been written out -/
theorem At.lits (w : World) (l : List UInt8) (e : TypeId) {g : Nat} (hg : g = w.heap.size) (fr : Nat × Nat := (0, 0)) : At (w.alloc (.cells (bs l).toArray e fr)) (w.heap.size + 1) (some ⟨g, 0, none⟩) l := fun _ => by
  subst hg
  refine ⟨w.heap.size, 0, rfl, by omega, fun j y hj => ?_⟩
  rw [cell_of_row _ _ _ _ _ _ (heap_alloc_new w _), Nat.zero_add]
  simpa using bs_get l j y hj

/-- a slice written out without elements -/
theorem own_empty (w : World) (e : TypeId) : (w.alloc (.cells #[] e)).ownsRow w.heap.size e 1 (.slice (some ⟨w.heap.size, 0, none⟩) 0 0) 0 (bs []) :=
  ⟨rfl, .inr ⟨w.heap.size, 0, #[], rfl, Nat.le_refl _, heap_alloc_new w _, Nat.le_refl _, Nat.zero_le _, rfl, rfl⟩⟩

/-- a row of the call's own, from then on -/
theorem Row.at_ {w : World} {base e m c : Nat} {A : Option Addr} {l : List UInt8} (h : Row w base e A m c l) : At w w.heap.size A l := At.own h.2
theorem Row.alloc {w : World} {base e m c : Nat} {A : Option Addr} {l : List UInt8} (h : Row w base e A m c l) (o : Obj) : Row (w.alloc o) base e A m c l := ⟨h.1, h.2.alloc o⟩
theorem Row.below {w w' : World} {base e m c : Nat} {A : Option Addr} {l : List UInt8} (h : Row w base e A m c l) (hb : Below w.heap.size w w') : Row w' base e A m c l := by
  refine ⟨h.1, h.2.kept (row := none) ⟨hb.os, hb.tape, hb.output, hb.size, fun k hk _ => hb.block k hk⟩ ?_⟩
  cases hv : (Value.slice A m c).ownBlock <;> simp
theorem row_cap {w : World} {base e m c : Nat} {A : Option Addr} {l : List UInt8} (h : Row w base e A m c l) : m ≤ c := by
  rcases h.2.2 with ⟨_, h0⟩ | ⟨g, cap, cur, hv, _, _, hnc, _⟩
  · omega
  · injection hv with _ _ hc
    omega
theorem pos_of_below {w w' : World} (h0 : 0 < w.heap.size) (h : Below w.heap.size w w') : 0 < w'.heap.size := Nat.lt_of_lt_of_le h0 h.size
theorem below_step {w a b : World} (h : Below w.heap.size w a) (k : Below a.heap.size a b) : Below w.heap.size w b := h.trans (k.mono h.size)
theorem after_alloc {w w' : World} {o : Obj} (h : Below (w.alloc o).heap.size (w.alloc o) w') : Below w.heap.size w w' :=
  ((Below.refl _ _).alloc (Nat.le_refl _) o).trans (h.mono (by simp))
theorem below_drewN {B : Nat} {a w : World} (h : Below B a w) (n : Nat) : Below B a (w.drewN n) := ⟨h.os, h.tape, h.output, h.size, h.block⟩

/-- the world has gone on from 'w' by blocks of its own alone -/
def Beyond (w w' : World) : Prop := Below w.heap.size w w'
theorem Beyond.drew (w : World) : Beyond w w.drew := (Below.refl _ _).drew
theorem Beyond.step {w a b : World} (h : Beyond w a) (k : Below a.heap.size a b) : Beyond w b := below_step h k
theorem Beyond.refl (w : World) : Beyond w w := Below.refl _ _
theorem Beyond.trans {w a b : World} (h : Beyond w a) (k : Beyond a b) : Beyond w b := below_step h k

end Go.Proofs.Ytdhjjjagjkencaa
