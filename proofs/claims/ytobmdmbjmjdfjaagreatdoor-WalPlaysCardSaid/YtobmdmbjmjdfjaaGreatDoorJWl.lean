/-
  The document's disk as lists of sectors: plain functions, no program. A log as the document has it: plain functions, no program; and as a value. Opening a log, as plain functions, no program. Appending to a log, and giving back, as plain functions, no program.
-/
import Derived.Test.YtobmdmbjmjdfjaaGreatDoorJDisk
import Derived.Test.YtobmdmbjmjdfjaaGreatDoorJBytes
import Derived.Test.YtobmdmbjmjdfjaaGreatDoorJRec
namespace Go.Proofs.YtobmdmbjmjdfjaaGreatDoor
open Go Go.RowKit

abbrev Sct := Int × List UInt8
def findS (l : List Sct) (i : Int) : Option (List UInt8) := (l.find? fun x => x.1 == i).map (·.2)
def dropS (l : List Sct) (i : Int) : List Sct := l.filter fun x => x.1 != i
def doneS (l : List Sct) (o : POp) (n : Int) : List Sct := dropS l o.i ++ (match o.b with | none => [] | some b => [(o.i, torn b (findS l o.i) n)])
theorem findS_nil (i : Int) : findS [] i = none := rfl
theorem findS_cons (x : Sct) (l : List Sct) (i : Int) : findS (x :: l) i = if x.1 = i then some x.2 else findS l i := by
  unfold findS
  rw [List.find?_cons]
  by_cases h : x.1 = i
  · simp [h]
  · have : (x.1 == i) = false := by simpa using h
    rw [this, if_neg h]
theorem findS_append (a b : List Sct) (i : Int) : findS (a ++ b) i = (findS a i).or (findS b i) := by
  induction a with
  | nil => simp [findS_nil]
  | cons x a ih =>
    rw [List.cons_append, findS_cons, findS_cons, ih]
    split <;> simp
theorem dropS_cons (x : Sct) (l : List Sct) (i : Int) : dropS (x :: l) i = if x.1 = i then dropS l i else x :: dropS l i := by
  unfold dropS
  rw [List.filter_cons]
  by_cases h : x.1 = i
  · rw [if_neg (by simp [h]), if_pos h]
  · rw [if_pos (by simpa using h), if_neg h]
theorem dropS_append (a b : List Sct) (i : Int) : dropS (a ++ b) i = dropS a i ++ dropS b i := List.filter_append ..
theorem findS_drop (l : List Sct) (i j : Int) : findS (dropS l i) j = if j = i then none else findS l j := by
  induction l with
  | nil => simp [dropS, findS_nil]
  | cons x l ih =>
    rw [dropS_cons, findS_cons]
    by_cases hx : x.1 = i
    · rw [if_pos hx, ih]
      by_cases hj : j = i
      · rw [if_pos hj, if_pos hj]
      · rw [if_neg hj, if_neg hj, if_neg (by omega)]
    · rw [if_neg hx, findS_cons, ih]
      by_cases hj : j = i
      · rw [if_pos hj, if_pos hj, if_neg (by omega)]
      · rw [if_neg hj, if_neg hj]
theorem findS_none {l : List Sct} {i : Int} (h : ∀ x ∈ l, x.1 ≠ i) : findS l i = none := by
  induction l with
  | nil => rfl
  | cons x l ih => rw [findS_cons, if_neg (h x (by simp)), ih fun y hy => h y (by simp [hy])]
theorem findS_mem {l : List Sct} {i : Int} {b : List UInt8} (h : findS l i = some b) : ∃ x ∈ l, x.1 = i ∧ x.2 = b := by
  induction l with
  | nil => cases h
  | cons x l ih =>
    rw [findS_cons] at h
    by_cases hx : x.1 = i
    · rw [if_pos hx] at h
      injection h with h
      exact ⟨x, by simp, hx, h⟩
    · rw [if_neg hx] at h
      obtain ⟨y, hy, h1, h2⟩ := ih h
      exact ⟨y, by simp [hy], h1, h2⟩
theorem mem_dropS {l : List Sct} {i : Int} {x : Sct} (h : x ∈ dropS l i) : x ∈ l ∧ x.1 ≠ i := by
  unfold dropS at h
  rw [List.mem_filter] at h
  exact ⟨h.1, by simpa using h.2⟩
theorem dropS_le (l : List Sct) (i : Int) : (dropS l i).length ≤ l.length := List.length_filter_le ..

structure SL (size : Nat) (l : List Sct) (m : Secs) : Prop where
  is : ∀ i, findS l i = m i
  nodup : (l.map (·.1)).Nodup
  rng : ∀ x ∈ l, 0 ≤ x.1 ∧ x.1 < (size : Int)
  small : ∀ x ∈ l, x.2.length ≤ 512
theorem SL.nil (size : Nat) : SL size [] (fun _ => none) := ⟨fun _ => rfl, List.nodup_nil, fun _ h => (by cases h), fun _ h => (by cases h)⟩
theorem torn_le {b : List UInt8} {o : Option (List UInt8)} {n : Int} (hb : b.length ≤ 512) (ho : ∀ x, o = some x → x.length ≤ 512) : (torn b o n).length ≤ 512 := by
  unfold torn
  split
  · exact hb
  · rw [List.length_append, List.length_take, List.length_drop]
    cases o with
    | none => simp; omega
    | some x => have := ho x rfl; simp; omega
theorem SL.some_le {size : Nat} {l : List Sct} {m : Secs} (h : SL size l m) {i : Int} {b : List UInt8} (hb : m i = some b) : b.length ≤ 512 ∧ 0 ≤ i ∧ i < (size : Int) := by
  obtain ⟨x, hx, h1, h2⟩ := findS_mem ((h.is i).trans hb)
  have := h.rng x hx
  exact ⟨h2 ▸ h.small x hx, by omega, by omega⟩
theorem SL.done {size : Nat} {l : List Sct} {m : Secs} (h : SL size l m) {o : POp} (h0 : 0 ≤ o.i) (h1 : o.i < (size : Int)) (hb : ∀ b, o.b = some b → b.length ≤ 512) (n : Int) : SL size (doneS l o n) (applyOp m o n) := by
  have hd := findS_drop l o.i
  have ht : ∀ b, o.b = some b → (torn b (findS l o.i) n).length ≤ 512 := fun b e => torn_le (hb b e) fun x hx => (h.some_le ((h.is _).symm.trans hx)).1
  refine ⟨fun j => ?_, ?_, fun x hx => ?_, fun x hx => ?_⟩
  · unfold doneS applyOp
    rw [findS_append, hd, ← h.is]
    cases hob : o.b with
    | none =>
      simp only [findS_nil, Option.or_none, Option.map_none]
      by_cases hj : j = o.i
      · rw [if_pos hj, hj, upd_same]
      · rw [if_neg hj, upd_other _ _ hj, h.is]
    | some b =>
      simp only [findS_cons, findS_nil, Option.map_some]
      by_cases hj : j = o.i
      · rw [if_pos hj, hj, upd_same, if_pos rfl]; rfl
      · rw [if_neg hj, upd_other _ _ hj, if_neg (by omega), h.is]; simp
  · unfold doneS
    rw [List.map_append, List.nodup_append]
    refine ⟨List.Sublist.nodup (List.Sublist.map _ List.filter_sublist) h.nodup, ?_, ?_⟩
    · cases o.b <;> simp
    · intro a ha b hbm
      obtain ⟨x, hx, rfl⟩ := List.mem_map.1 ha
      have hne := (mem_dropS hx).2
      cases hob : o.b with
      | none => rw [hob] at hbm; simp at hbm
      | some c =>
        rw [hob] at hbm
        simp at hbm
        omega
  · unfold doneS at hx
    rw [List.mem_append] at hx
    rcases hx with hx | hx
    · exact h.rng x (mem_dropS hx).1
    · cases hob : o.b with
      | none => rw [hob] at hx; simp at hx
      | some c => rw [hob] at hx; simp at hx; subst hx; exact ⟨h0, h1⟩
  · unfold doneS at hx
    rw [List.mem_append] at hx
    rcases hx with hx | hx
    · exact h.small x (mem_dropS hx).1
    · cases hob : o.b with
      | none => rw [hob] at hx; simp at hx
      | some c => rw [hob] at hx; simp at hx; subst hx; exact ht c hob
theorem cnt_find {size : Nat} : ∀ {l : List Sct}, (l.map (·.1)).Nodup → (∀ x ∈ l, 0 ≤ x.1 ∧ x.1 < (size : Int)) → l.length = cnt size (findS l)
  | [], _, _ => (cnt_none size).symm
  | x :: l, hn, hr => by
    rw [List.map_cons, List.nodup_cons] at hn
    have ih := cnt_find (size := size) hn.2 fun y hy => hr y (by simp [hy])
    have hx := hr x (by simp)
    have hnone : findS l x.1 = none := findS_none fun y hy e => hn.1 (by rw [← e]; exact List.mem_map_of_mem hy)
    have e : findS (x :: l) = upd (findS l) x.1 (some x.2) := by
      funext j
      rw [findS_cons]
      unfold upd
      by_cases hj : j = x.1
      · rw [if_pos hj, if_pos hj.symm]
      · rw [if_neg hj, if_neg (by omega)]
    have hc := cnt_upd (n := size) (m := findS l) (some x.2) hx.1 hx.2
    rw [hnone] at hc
    simp at hc
    rw [e, List.length_cons, ih]
    omega
theorem SL.len {size : Nat} {l : List Sct} {m : Secs} (h : SL size l m) : l.length = cnt size m := by
  rw [cnt_find h.nodup h.rng, show findS l = m from funext h.is]
theorem SL.le {size : Nat} {l : List Sct} {m : Secs} (h : SL size l m) : l.length ≤ size := by rw [h.len]; exact cnt_le _ _

def eSct : Enc Sct := ⟨2, fun x => [.int .i64 x.1, .string (bst x.2)], fun _ => rfl, fun _ u h => by simp at h; rcases h with rfl | rfl <;> rfl, by decide⟩
def pdV (o : POp) : List Value := [.int .i64 o.i, .bool o.b.isNone, .string (bst (o.b.getD []))]
def ePd : Enc POp := ⟨3, pdV, fun _ => rfl, fun _ u h => by simp [pdV] at h; rcases h with rfl | rfl | rfl <;> rfl, by decide⟩
theorem GAt.sct {w : World} {B i : Nat} {A : Option Addr} {l : List Sct} (h : GAt eSct w B A l) (hi : i < l.length) : ∃ b off x, A = some ⟨b, off, none⟩ ∧ b < B ∧ l[i]? = some x ∧ w.cell? ⟨b, off + i * 2, none⟩ = some (.int .i64 x.1) ∧ w.cell? ⟨b, off + i * 2 + 1, none⟩ = some (.string (bst x.2)) := by
  obtain ⟨b, off, x, e, hb, hx, hc⟩ := h.get hi
  exact ⟨b, off, x, e, hb, hx, hc 0 _ rfl, hc 1 _ rfl⟩
theorem GAt.pd {w : World} {B i : Nat} {A : Option Addr} {l : List POp} (h : GAt ePd w B A l) (hi : i < l.length) : ∃ b off o, A = some ⟨b, off, none⟩ ∧ b < B ∧ l[i]? = some o ∧ w.cell? ⟨b, off + i * 3, none⟩ = some (.int .i64 o.i) ∧ w.cell? ⟨b, off + i * 3 + 1, none⟩ = some (.bool o.b.isNone) ∧ w.cell? ⟨b, off + i * 3 + 2, none⟩ = some (.string (bst (o.b.getD []))) := by
  obtain ⟨b, off, x, e, hb, hx, hc⟩ := h.get hi
  exact ⟨b, off, x, e, hb, hx, hc 0 _ rfl, hc 1 _ rfl, hc 2 _ rfl⟩

structure D6 (P : Nat → Prop) (w : World) (v : Value) (s : Dk) : Prop where
  ex : ∃ (V G : List Sct) (A1 A2 A3 : Option Addr) (c1 c2 c3 : Nat), v = .agg #[.int .i64 (s.size : Int), .int .i64 s.limit, .slice A1 V.length c1, .slice A2 G.length c2, .slice A3 s.pend.length c3] ∧
    SL s.size V s.view ∧ SL s.size G s.ground ∧ GAt eSct w w.heap.size A1 V ∧ GAt eSct w w.heap.size A2 G ∧ GAt ePd w w.heap.size A3 s.pend ∧ V.length ≤ c1 ∧ G.length ≤ c2 ∧ s.pend.length ≤ c3 ∧ In P A1 V ∧ In P A2 G ∧ In P A3 s.pend
  pend : ∀ o ∈ s.pend, 0 ≤ o.i ∧ o.i < (s.size : Int) ∧ ∀ b, o.b = some b → b.length ≤ 512
  size : s.size ≤ 65536
section
variable {P P' : Nat → Prop} {w w' : World} {v : Value} {s : Dk}
theorem D6.keep (h : D6 P w v s) (hs : w.heap.size ≤ w'.heap.size) (hk : ∀ k, P k → w'.heap[k]? = w.heap[k]?) : D6 P w' v s := by
  obtain ⟨V, G, A1, A2, A3, c1, c2, c3, hv, h1, h2, h3, h4, h5, h6, h7, h8, i1, i2, i3⟩ := h.ex
  exact ⟨⟨V, G, A1, A2, A3, c1, c2, c3, hv, h1, h2, h3.kept i1 hs hk, h4.kept i2 hs hk, h5.kept i3 hs hk, h6, h7, h8, i1, i2, i3⟩, h.pend, h.size⟩
theorem D6.weak (h : D6 P w v s) (hp : ∀ k, P k → P' k) : D6 P' w v s := by
  obtain ⟨V, G, A1, A2, A3, c1, c2, c3, hv, h1, h2, h3, h4, h5, h6, h7, h8, i1, i2, i3⟩ := h.ex
  exact ⟨⟨V, G, A1, A2, A3, c1, c2, c3, hv, h1, h2, h3, h4, h5, h6, h7, h8, i1.weak hp, i2.weak hp, i3.weak hp⟩, h.pend, h.size⟩
theorem D6.bound (h : D6 P w v s) : D6 (fun k => P k ∧ k < w.heap.size) w v s := by
  obtain ⟨V, G, A1, A2, A3, c1, c2, c3, hv, h1, h2, h3, h4, h5, h6, h7, h8, i1, i2, i3⟩ := h.ex
  exact ⟨⟨V, G, A1, A2, A3, c1, c2, c3, hv, h1, h2, h3, h4, h5, h6, h7, h8, fun b off e hl => ⟨i1 b off e hl, h3.in_ b off e hl⟩, fun b off e hl => ⟨i2 b off e hl, h4.in_ b off e hl⟩, fun b off e hl => ⟨i3 b off e hl, h5.in_ b off e hl⟩⟩, h.pend, h.size⟩
theorem D6.step (h : D6 P w v s) (hb : Below w.heap.size w w') : D6 P w' v s := (h.bound.keep hb.size fun k hk => hb.block k hk.2).weak fun _ hk => hk.1
theorem D6.shape (h : D6 P w v s) : ∃ (a b : Int) (A1 A2 A3 : Option Addr) (n1 n2 n3 c1 c2 c3 : Nat), v = .agg #[.int .i64 a, .int .i64 b, .slice A1 n1 c1, .slice A2 n2 c2, .slice A3 n3 c3] := by
  obtain ⟨V, G, A1, A2, A3, c1, c2, c3, hv, _⟩ := h.ex
  exact ⟨_, _, _, _, _, _, _, _, _, _, _, hv⟩
theorem D6.view_le (h : D6 P w v s) {i : Int} {b : List UInt8} (hb : s.view i = some b) : b.length ≤ 512 ∧ 0 ≤ i ∧ i < (s.size : Int) := by
  obtain ⟨V, G, A1, A2, A3, c1, c2, c3, hv, h1, _⟩ := h.ex
  exact h1.some_le hb
end

structure Sg where
  i : Nat
  base : Nat
  count : Nat
structure Wl where
  at_ : Nat
  n : Nat
  size : Nat
  live : List Sg
  stream : List UInt8
  last : Nat
  synced : Nat
def m64 (x : Nat) : Nat := x % 18446744073709551616
theorem m64_lt (x : Nat) : m64 x < 18446744073709551616 := Nat.mod_lt _ (by decide)
def segB (m : Secs) : Nat → Int → List UInt8
  | 0, _ => []
  | k + 1, p => match m p with
    | none => []
    | some b => if b.length < 512 then b else b ++ segB m k (p + 1)
def hdr : List UInt8 := [115, 101, 103, 109, 101, 110, 116]
def lookB (b : List UInt8) : Option (Nat × List (Nat × List UInt8)) :=
  match rget b with
  | some (q, h, n) => if h = hdr then some (q, (rscan (b.drop n) q).1) else none
  | none => none
namespace Wl
def place (l : Wl) (i : Nat) : Int := ((l.at_ + i * l.size : Nat) : Int)
def look (l : Wl) (m : Secs) (i : Nat) : Option (Nat × List (Nat × List UInt8)) := lookB (segB m l.size (l.place i))
def used (l : Wl) (i : Nat) : Bool := l.live.any fun x => x.i == i
end Wl
def freeN (s : Dk) (p : Int) : Nat → Dk
  | 0 => s
  | k + 1 => (freeN s p k).free (p + (k : Int))
theorem segB_le {m : Secs} (h : ∀ p b, m p = some b → b.length ≤ 512) : ∀ (k : Nat) (p : Int), (segB m k p).length ≤ 512 * k
  | 0, _ => by simp [segB]
  | k + 1, p => by
    unfold segB
    cases hm : m p with
    | none => simp
    | some b =>
      have hb := h p b hm
      dsimp only
      split
      · omega
      · rw [List.length_append]
        have := segB_le h k (p + 1)
        omega

def eSg : Enc Sg := ⟨3, fun x => [.int .i64 (x.i : Int), .int .u64 (x.base : Int), .int .u64 (x.count : Int)], fun _ => rfl, fun _ u h => by simp at h; rcases h with rfl | rfl | rfl <;> rfl, by decide⟩
theorem GAt.sg {w : World} {B i : Nat} {A : Option Addr} {l : List Sg} (h : GAt eSg w B A l) (hi : i < l.length) : ∃ b off x, A = some ⟨b, off, none⟩ ∧ b < B ∧ l[i]? = some x ∧ w.cell? ⟨b, off + i * 3, none⟩ = some (.int .i64 (x.i : Int)) ∧ w.cell? ⟨b, off + i * 3 + 1, none⟩ = some (.int .u64 (x.base : Int)) ∧ w.cell? ⟨b, off + i * 3 + 2, none⟩ = some (.int .u64 (x.count : Int)) := by
  obtain ⟨b, off, x, e, hb, hx, hc⟩ := h.get hi
  exact ⟨b, off, x, e, hb, hx, hc 0 _ rfl, hc 1 _ rfl, hc 2 _ rfl⟩
structure W8 (P : Nat → Prop) (w : World) (v : Value) (s : Dk) (l : Wl) : Prop where
  shape : ∃ (a b : Int) (A1 A2 A3 A : Option Addr) (n1 n2 n3 c1 c2 c3 c : Nat), v = .agg #[.int .i64 a, .int .i64 b, .slice A1 n1 c1, .slice A2 n2 c2, .slice A3 n3 c3, .int .i64 (l.at_ : Int), .int .i64 (l.n : Int), .int .i64 (l.size : Int), .slice A l.live.length c, .string (bst l.stream), .int .u64 (l.last : Int), .int .u64 (l.synced : Int)] ∧
    D6 P w (.agg #[.int .i64 a, .int .i64 b, .slice A1 n1 c1, .slice A2 n2 c2, .slice A3 n3 c3]) s ∧ GAt eSg w w.heap.size A l.live ∧ In P A l.live ∧ l.live.length ≤ c
  at_ : l.at_ ≤ 65536
  n : l.n ≤ 64
  size : l.size ≤ 64
  live : l.live.length ≤ 64
  last : l.last < 18446744073709551616
  synced : l.synced < 18446744073709551616
  stream : l.stream.length ≤ 40000
section
variable {P P' : Nat → Prop} {w w' : World} {v : Value} {s : Dk} {l : Wl}
theorem W8.keep (h : W8 P w v s l) (hs : w.heap.size ≤ w'.heap.size) (hk : ∀ k, P k → w'.heap[k]? = w.heap[k]?) : W8 P w' v s l := by
  obtain ⟨a, b, A1, A2, A3, A, n1, n2, n3, c1, c2, c3, c, hv, h1, h2, h3, h4⟩ := h.shape
  exact ⟨⟨a, b, A1, A2, A3, A, n1, n2, n3, c1, c2, c3, c, hv, h1.keep hs hk, h2.kept h3 hs hk, h3, h4⟩, h.at_, h.n, h.size, h.live, h.last, h.synced, h.stream⟩
theorem W8.weak (h : W8 P w v s l) (hp : ∀ k, P k → P' k) : W8 P' w v s l := by
  obtain ⟨a, b, A1, A2, A3, A, n1, n2, n3, c1, c2, c3, c, hv, h1, h2, h3, h4⟩ := h.shape
  exact ⟨⟨a, b, A1, A2, A3, A, n1, n2, n3, c1, c2, c3, c, hv, h1.weak hp, h2, h3.weak hp, h4⟩, h.at_, h.n, h.size, h.live, h.last, h.synced, h.stream⟩
theorem W8.bound (h : W8 P w v s l) : W8 (fun k => P k ∧ k < w.heap.size) w v s l := by
  obtain ⟨a, b, A1, A2, A3, A, n1, n2, n3, c1, c2, c3, c, hv, h1, h2, h3, h4⟩ := h.shape
  exact ⟨⟨a, b, A1, A2, A3, A, n1, n2, n3, c1, c2, c3, c, hv, h1.bound, h2, fun b off e hl => ⟨h3 b off e hl, h2.in_ b off e hl⟩, h4⟩, h.at_, h.n, h.size, h.live, h.last, h.synced, h.stream⟩
theorem W8.step (h : W8 P w v s l) (hb : Below w.heap.size w w') : W8 P w' v s l := (h.bound.keep hb.size fun k hk => hb.block k hk.2).weak fun _ hk => hk.1
end

def pick1 (o : Option (Nat × List Rc)) (from_ i : Nat) (a : Int × Nat) : Int × Nat :=
  match o with
  | some (base, rs) => if base ≤ m64 (from_ + 1) ∧ m64 (from_ + 1) ≤ m64 (base + rs.length) ∧ (a.1 < 0 ∨ a.2 < base) then ((i : Int), base) else a
  | none => a
def Wl.pick (l : Wl) (m : Secs) (from_ : Nat) : Nat → Int × Nat
  | 0 => (-1, 0)
  | i + 1 => pick1 (l.look m i) from_ i (l.pick m from_ i)
def nextI (f : Nat → Bool) (n : Nat) : Nat → Int
  | 0 => -1
  | k + 1 => if f (n - 1 - k) then ((n - 1 - k : Nat) : Int) else nextI f n k
structure Ch where
  live : List Sg
  last : Nat
  out : List Rc
  next : Int
def usedBy (live : List Sg) (i : Nat) : Bool := live.any fun x => x.i == i
def fits (o : Option (Nat × List Rc)) (want : Nat) (used : Bool) : Bool :=
  match o with
  | some (b, _) => decide (b = want) && !used
  | none => false
def Wl.chStep (l : Wl) (m : Secs) (from_ : Nat) (c : Ch) : Ch :=
  let base := ((l.look m c.next.toNat).map (·.1)).getD 0
  let rs := ((l.look m c.next.toNat).map (·.2)).getD []
  let live := c.live ++ [⟨c.next.toNat, base, rs.length⟩]
  let last := m64 (base + rs.length + 18446744073709551615)
  ⟨live, last, c.out ++ rs.filter (fun r => decide (from_ < r.1)), nextI (fun i => fits (l.look m i) (m64 (last + 1)) (usedBy live i)) l.n l.n⟩
def Wl.chain (l : Wl) (m : Secs) (from_ : Nat) : Nat → Ch → Ch
  | 0, c => c
  | k + 1, c => if c.next < 0 then c else l.chain m from_ k (l.chStep m from_ c)
def Wl.freeAll (l : Wl) (live : List Sg) (s : Dk) : Nat → Dk
  | 0 => s
  | i + 1 => if usedBy live i then l.freeAll live s i else freeN (l.freeAll live s i) (l.place i) l.size
def wl0 (at_ n size from_ : Nat) : Wl := ⟨at_, n, size, [], [], from_, 0⟩
def Wl.begin (l : Wl) (m : Secs) (from_ : Nat) : Ch := ⟨[], from_, [], (l.pick m from_ l.n).1⟩
def Wl.found (l : Wl) (m : Secs) (from_ : Nat) : Ch := l.chain m from_ (l.n + 1) (l.begin m from_)
def openD (s : Dk) (at_ n size from_ : Nat) : Dk := ((wl0 at_ n size from_).freeAll ((wl0 at_ n size from_).found s.view from_).live s n).sync
def openL (s : Dk) (at_ n size from_ : Nat) : Wl :=
  let c := (wl0 at_ n size from_).found s.view from_
  let last := if c.last < from_ then from_ else c.last
  ⟨at_, n, size, c.live, [], last, last⟩
def openR (s : Dk) (at_ n size from_ : Nat) : List Rc := ((wl0 at_ n size from_).found s.view from_).out

theorem nextI_lt (f : Nat → Bool) (n : Nat) : ∀ k, k ≤ n → nextI f n k < (n : Int)
  | 0, _ => by show (-1 : Int) < (n : Int); omega
  | k + 1, h => by
    unfold nextI
    split
    · omega
    · exact nextI_lt f n k (by omega)
theorem nextI_ok {f : Nat → Bool} {n : Nat} : ∀ {k}, 0 ≤ nextI f n k → f (nextI f n k).toNat = true
  | 0, h => by exact absurd h (by show ¬ (0 : Int) ≤ -1; omega)
  | k + 1, h => by
    unfold nextI at h ⊢
    by_cases hf : f (n - 1 - k) = true
    · rw [if_pos hf]; simpa using hf
    · rw [if_neg hf] at h ⊢
      exact nextI_ok h
theorem pick1_lt {o : Option (Nat × List Rc)} {from_ i n : Nat} {a : Int × Nat} (h : a.1 < (n : Int)) (hi : i < n) : (pick1 o from_ i a).1 < (n : Int) := by
  unfold pick1
  split
  · split
    · show (i : Int) < (n : Int); omega
    · exact h
  · exact h
theorem Wl.pick_lt (l : Wl) (m : Secs) (from_ n : Nat) : ∀ k, k ≤ n → (l.pick m from_ k).1 < (n : Int)
  | 0, _ => by show (-1 : Int) < (n : Int); omega
  | k + 1, h => pick1_lt (l.pick_lt m from_ n k (by omega)) (by omega)
theorem pick1_u64 {o : Option (Nat × List Rc)} {from_ i : Nat} {a : Int × Nat} (h : a.2 < 18446744073709551616) (ho : ∀ b rs, o = some (b, rs) → b < 18446744073709551616) : (pick1 o from_ i a).2 < 18446744073709551616 := by
  unfold pick1
  split
  · split
    · exact ho _ _ rfl
    · exact h
  · exact h
theorem lookB_lt {b : List UInt8} {q : Nat} {rs : List Rc} (h : lookB b = some (q, rs)) : q < 18446744073709551616 := by
  unfold lookB at h
  split at h
  · rename_i hg
    split at h
    · injection h with h
      injection h with h1 _
      subst h1
      exact (rget_some hg).1
    · cases h
  · cases h
theorem Wl.pick_u64 (l : Wl) (m : Secs) (from_ : Nat) : ∀ k, (l.pick m from_ k).2 < 18446744073709551616
  | 0 => by show 0 < 18446744073709551616; omega
  | k + 1 => pick1_u64 (l.pick_u64 m from_ k) fun _ _ h => lookB_lt h

theorem rscan_len : ∀ {n : Nat} {l : List UInt8} {q : Nat}, l.length ≤ n → (rscan l q).1.length * 10 ≤ l.length
  | n, l, q, hn => by
    rw [rscan_eq]
    cases hg : rget l with
    | none => exact Nat.zero_le _
    | some x =>
      obtain ⟨p, b, k⟩ := x
      have hk := rget_len hg
      dsimp only
      split
      · match n with
        | 0 => omega
        | n + 1 =>
          have := rscan_len (n := n) (l := l.drop k) (q := next64 q) (by rw [List.length_drop]; omega)
          rw [List.length_drop] at this
          simp only [List.length_cons]
          omega
      · exact Nat.zero_le _
theorem lookB_len {b : List UInt8} {q : Nat} {rs : List Rc} (h : lookB b = some (q, rs)) : rs.length * 10 ≤ b.length := by
  unfold lookB at h
  split at h
  · rename_i q' h' n' hg
    split at h
    · injection h with h
      injection h with _ h1
      subst h1
      have := rscan_len (n := (b.drop n').length) (l := b.drop n') (q := q') (Nat.le_refl _)
      rw [List.length_drop] at this
      omega
    · cases h
  · cases h
structure Ch.Ok (c : Ch) (n : Nat) : Prop where
  nodup : (c.live.map (·.i)).Nodup
  lt : ∀ x ∈ c.live, x.i < n
  next : c.next < (n : Int)
  fresh : 0 ≤ c.next → usedBy c.live c.next.toNat = false
  last : c.last < 18446744073709551616
theorem nodup_le : ∀ {n : Nat} {l : List Nat}, l.Nodup → (∀ x ∈ l, x < n) → l.length ≤ n
  | 0, [], _, _ => Nat.le_refl _
  | 0, x :: l, _, hl => by have := hl x (by simp); omega
  | n + 1, l, h, hl => by
    have h1 := nodup_le (n := n) (l := l.erase n) (h.erase n) (fun x hx => by
      have h2 := h.mem_erase_iff.1 hx
      have := hl x h2.2
      have := h2.1
      omega)
    by_cases hm : n ∈ l
    · rw [List.length_erase_of_mem hm] at h1; omega
    · rw [List.erase_of_not_mem hm] at h1; omega
theorem Ch.Ok.len {c : Ch} {n : Nat} (h : c.Ok n) : c.live.length ≤ n := by
  have := nodup_le h.nodup (n := n) (fun x hx => by obtain ⟨y, hy, rfl⟩ := List.mem_map.1 hx; exact h.lt y hy)
  simpa using this
theorem usedBy_snoc (live : List Sg) (x : Sg) (i : Nat) : usedBy (live ++ [x]) i = (usedBy live i || x.i == i) := by
  unfold usedBy
  rw [List.any_append]
  simp
theorem usedBy_mem {live : List Sg} {i : Nat} (h : usedBy live i = false) : ∀ x ∈ live, x.i ≠ i := by
  intro x hx e
  have : usedBy live i = true := by
    unfold usedBy
    rw [List.any_eq_true]
    exact ⟨x, hx, by simpa using e⟩
  rw [h] at this
  cases this
theorem Wl.chStep_ok {l : Wl} {m : Secs} {from_ : Nat} {c : Ch} (h : c.Ok l.n) (h0 : 0 ≤ c.next) : (l.chStep m from_ c).Ok l.n := by
  have hf := usedBy_mem (h.fresh h0)
  have hn := h.next
  refine ⟨?_, ?_, nextI_lt _ _ _ (Nat.le_refl _), ?_, m64_lt _⟩
  · show ((c.live ++ [_]).map _).Nodup
    rw [List.map_append, List.nodup_append]
    refine ⟨h.nodup, by simp, ?_⟩
    intro a ha b hb
    obtain ⟨x, hx, rfl⟩ := List.mem_map.1 ha
    simp at hb
    subst hb
    exact hf x hx
  · intro x hx
    have hx' : x ∈ c.live ++ [_] := hx
    rw [List.mem_append] at hx'
    rcases hx' with hx' | hx'
    · exact h.lt x hx'
    · simp at hx'
      subst hx'
      show c.next.toNat < l.n
      omega
  · intro hk
    have := nextI_ok hk
    unfold fits at this
    split at this
    · simp at this
      exact this.2
    · cases this
theorem Wl.chain_stop (l : Wl) (m : Secs) (from_ : Nat) {c : Ch} (h : c.next < 0) : ∀ k, l.chain m from_ k c = c
  | 0 => rfl
  | k + 1 => by unfold chain; rw [if_pos h]
theorem Wl.chain_go (l : Wl) (m : Secs) (from_ k : Nat) {c : Ch} (h : ¬ c.next < 0) : l.chain m from_ (k + 1) c = l.chain m from_ k (l.chStep m from_ c) := by
  rw [chain, if_neg h]
theorem Wl.begin_ok (l : Wl) (m : Secs) {from_ : Nat} (h : from_ < 18446744073709551616) : (l.begin m from_).Ok l.n :=
  ⟨List.nodup_nil, fun _ h => (by cases h), l.pick_lt m from_ l.n l.n (Nat.le_refl _), fun _ => rfl, h⟩
theorem freeN_more (s : Dk) (p : Int) : ∀ k, (freeN s p k).pend.length ≤ s.pend.length + k
  | 0 => Nat.le_refl _
  | k + 1 => by
    have ih := freeN_more s p k
    unfold freeN Dk.free
    split
    · omega
    · simp; omega
theorem freeAll_pend (l : Wl) (live : List Sg) (s : Dk) (hs : l.size ≤ 64) : ∀ i, (l.freeAll live s i).pend.length ≤ s.pend.length + 64 * i
  | 0 => Nat.le_refl _
  | i + 1 => by
    have ih := freeAll_pend l live s hs i
    unfold Wl.freeAll
    split
    · omega
    · have := freeN_more (l.freeAll live s i) (l.place i) l.size
      omega

def Sg.stays (x : Sg) (seq : Nat) : Bool := decide (0 < x.count) && decide (seq < m64 (x.base + x.count + 18446744073709551615))
def Wl.truncS (l : Wl) (seq : Nat) (s : Dk) : Nat → Dk
  | 0 => s
  | k + 1 => match l.live[k]? with
    | some x => if x.stays seq then l.truncS seq s k else freeN (l.truncS seq s k) (l.place x.i) l.size
    | none => l.truncS seq s k
def Wl.truncStream (l : Wl) (seq : Nat) : List UInt8 :=
  match l.live.getLast? with
  | some x => if x.stays seq then l.stream else []
  | none => l.stream
def Wl.truncWhy (l : Wl) (seq : Nat) : Nat := if l.last < seq then 83 else 0
def Wl.truncD (l : Wl) (seq : Nat) (s : Dk) : Dk := if l.last < seq then s else (l.truncS seq s l.live.length).sync
def Wl.trunc (l : Wl) (seq : Nat) : Wl := if l.last < seq then l else { l with live := l.live.filter (·.stays seq), stream := l.truncStream seq, synced := l.last }

def wrSt (s : Dk) (p : Int) (st : List UInt8) : Nat → Nat → Dk × Nat
  | 0, _ => (s, 0)
  | f + 1, k => if 512 * k < st.length then
      let b := (st.drop (512 * k)).take 512
      let e := s.why (p + (k : Int)) b
      if e = 0 then wrSt (s.write (p + (k : Int)) b) p st f (k + 1) else (s, e)
    else (s, 0)
namespace Wl
def seq (l : Wl) : Nat := m64 (l.last + 1)
def rec_ (l : Wl) (body : List UInt8) : List UInt8 := renc l.seq body
def head (l : Wl) : List UInt8 := renc l.seq hdr
def long (l : Wl) (body : List UInt8) : Bool := decide (32768 < body.length) || decide (512 * l.size < l.head.length + (l.rec_ body).length)
def wants (l : Wl) (body : List UInt8) : Bool := l.stream.isEmpty || decide (512 * l.size < l.stream.length + (l.rec_ body).length)
def fresh (l : Wl) : Int := nextI (fun i => !usedBy l.live i) l.n l.n
def grown (l : Wl) (body : List UInt8) : Wl :=
  if l.wants body then { l with live := l.live ++ [⟨l.fresh.toNat, l.seq, 0⟩], stream := l.head ++ l.rec_ body } else { l with stream := l.stream ++ l.rec_ body }
def first (l : Wl) (body : List UInt8) : Nat := if l.wants body then 0 else l.stream.length / 512
def written (l : Wl) (body : List UInt8) (s : Dk) : Dk × Nat :=
  wrSt s ((l.grown body).place (((l.grown body).live.getLast?.map (·.i)).getD 0)) (l.grown body).stream l.size (l.first body)
def appWhy (l : Wl) (body : List UInt8) (s : Dk) : Nat := if l.long body then 81 else if l.wants body ∧ l.fresh < 0 then 82 else (l.written body s).2
def appD (l : Wl) (body : List UInt8) (s : Dk) : Dk :=
  if l.long body ∨ (l.wants body ∧ l.fresh < 0) then s
  else if (l.written body s).2 = 0 then (l.written body s).1
  else if l.wants body then (freeN (l.written body s).1 (l.place l.fresh.toNat) l.size).sync else (l.written body s).1
def bump : List Sg → List Sg
  | [] => []
  | [x] => [{ x with count := m64 (x.count + 1) }]
  | x :: y :: l => x :: bump (y :: l)
def app (l : Wl) (body : List UInt8) (s : Dk) : Wl :=
  if l.long body ∨ (l.wants body ∧ l.fresh < 0) then l
  else if (l.written body s).2 = 0 then { l.grown body with live := bump (l.grown body).live, last := l.seq }
  else if l.wants body then { l with stream := [], synced := l.last } else { l with stream := [] }
def appN (l : Wl) (body : List UInt8) (s : Dk) : Nat := if l.appWhy body s = 0 then l.seq else 0
end Wl

end Go.Proofs.YtobmdmbjmjdfjaaGreatDoor
