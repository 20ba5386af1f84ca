/-
  The document's disk as lists of sectors: plain functions, no program. The document's New. The document's Find: a sector's bytes.
-/
import Derived.Test.YtngclmjefadokaaDoorJDisk
import Derived.Test.YtngclmjefadokaaDoorJBytes
import Derived.BigQuiet
namespace Go.Proofs.YtngclmjefadokaaDoor
open Go Go.RowKit

/-- a sector: its number, its bytes -/
abbrev Sct := Int × List UInt8
def findS (l : List Sct) (i : Int) : Option (List UInt8) := (l.find? fun x => x.1 == i).map (·.2)
def dropS (l : List Sct) (i : Int) : List Sct := l.filter fun x => x.1 != i
def doneS (l : List Sct) (o : POp) (n : Int) : List Sct := dropS l o.i ++ (match o.b with | none => [] | some b => [(o.i, torn b (findS l o.i) n)])
theorem findS_nil (i : Int) : findS [] i = none := rfl
theorem findS_cons (x : Sct) (l : List Sct) (i : Int) : findS (x :: l) i = if x.1 = i then some x.2 else findS l i := by
  unfold findS
  rw [List.find?_cons]
  by_cases h : x.1 = i
  · simp [h]
  · have : (x.1 == i) = false := by simpa using h
    rw [this, if_neg h]
theorem findS_append (a b : List Sct) (i : Int) : findS (a ++ b) i = (findS a i).or (findS b i) := by
  induction a with
  | nil => simp [findS_nil]
  | cons x a ih =>
    rw [List.cons_append, findS_cons, findS_cons, ih]
    split <;> simp
theorem dropS_cons (x : Sct) (l : List Sct) (i : Int) : dropS (x :: l) i = if x.1 = i then dropS l i else x :: dropS l i := by
  unfold dropS
  rw [List.filter_cons]
  by_cases h : x.1 = i
  · rw [if_neg (by simp [h]), if_pos h]
  · rw [if_pos (by simpa using h), if_neg h]
theorem dropS_append (a b : List Sct) (i : Int) : dropS (a ++ b) i = dropS a i ++ dropS b i := List.filter_append ..
theorem findS_drop (l : List Sct) (i j : Int) : findS (dropS l i) j = if j = i then none else findS l j := by
  induction l with
  | nil => simp [dropS, findS_nil]
  | cons x l ih =>
    rw [dropS_cons, findS_cons]
    by_cases hx : x.1 = i
    · rw [if_pos hx, ih]
      by_cases hj : j = i
      · rw [if_pos hj, if_pos hj]
      · rw [if_neg hj, if_neg hj, if_neg (by omega)]
    · rw [if_neg hx, findS_cons, ih]
      by_cases hj : j = i
      · rw [if_pos hj, if_pos hj, if_neg (by omega)]
      · rw [if_neg hj, if_neg hj]
theorem findS_none {l : List Sct} {i : Int} (h : ∀ x ∈ l, x.1 ≠ i) : findS l i = none := by
  induction l with
  | nil => rfl
  | cons x l ih => rw [findS_cons, if_neg (h x (by simp)), ih fun y hy => h y (by simp [hy])]
theorem findS_mem {l : List Sct} {i : Int} {b : List UInt8} (h : findS l i = some b) : ∃ x ∈ l, x.1 = i ∧ x.2 = b := by
  induction l with
  | nil => cases h
  | cons x l ih =>
    rw [findS_cons] at h
    by_cases hx : x.1 = i
    · rw [if_pos hx] at h
      injection h with h
      exact ⟨x, by simp, hx, h⟩
    · rw [if_neg hx] at h
      obtain ⟨y, hy, h1, h2⟩ := ih h
      exact ⟨y, by simp [hy], h1, h2⟩
theorem mem_dropS {l : List Sct} {i : Int} {x : Sct} (h : x ∈ dropS l i) : x ∈ l ∧ x.1 ≠ i := by
  unfold dropS at h
  rw [List.mem_filter] at h
  exact ⟨h.1, by simpa using h.2⟩
theorem dropS_le (l : List Sct) (i : Int) : (dropS l i).length ≤ l.length := List.length_filter_le ..

/-- these sectors are m, each once, all of a disk of so many -/
structure SL (size : Nat) (l : List Sct) (m : Secs) : Prop where
  is : ∀ i, findS l i = m i
  nodup : (l.map (·.1)).Nodup
  rng : ∀ x ∈ l, 0 ≤ x.1 ∧ x.1 < (size : Int)
  small : ∀ x ∈ l, x.2.length ≤ 512
theorem SL.nil (size : Nat) : SL size [] (fun _ => none) := ⟨fun _ => rfl, List.nodup_nil, fun _ h => (by cases h), fun _ h => (by cases h)⟩
theorem torn_le {b : List UInt8} {o : Option (List UInt8)} {n : Int} (hb : b.length ≤ 512) (ho : ∀ x, o = some x → x.length ≤ 512) : (torn b o n).length ≤ 512 := by
  unfold torn
  split
  · exact hb
  · rw [List.length_append, List.length_take, List.length_drop]
    cases o with
    | none => simp; omega
    | some x => have := ho x rfl; simp; omega
theorem SL.some_le {size : Nat} {l : List Sct} {m : Secs} (h : SL size l m) {i : Int} {b : List UInt8} (hb : m i = some b) : b.length ≤ 512 ∧ 0 ≤ i ∧ i < (size : Int) := by
  obtain ⟨x, hx, h1, h2⟩ := findS_mem ((h.is i).trans hb)
  have := h.rng x hx
  exact ⟨h2 ▸ h.small x hx, by omega, by omega⟩
theorem SL.done {size : Nat} {l : List Sct} {m : Secs} (h : SL size l m) {o : POp} (h0 : 0 ≤ o.i) (h1 : o.i < (size : Int)) (hb : ∀ b, o.b = some b → b.length ≤ 512) (n : Int) : SL size (doneS l o n) (applyOp m o n) := by
  have hd := findS_drop l o.i
  have ht : ∀ b, o.b = some b → (torn b (findS l o.i) n).length ≤ 512 := fun b e => torn_le (hb b e) fun x hx => (h.some_le ((h.is _).symm.trans hx)).1
  refine ⟨fun j => ?_, ?_, fun x hx => ?_, fun x hx => ?_⟩
  · unfold doneS applyOp
    rw [findS_append, hd, ← h.is]
    cases hob : o.b with
    | none =>
      simp only [findS_nil, Option.or_none, Option.map_none]
      by_cases hj : j = o.i
      · rw [if_pos hj, hj, upd_same]
      · rw [if_neg hj, upd_other _ _ hj, h.is]
    | some b =>
      simp only [findS_cons, findS_nil, Option.map_some]
      by_cases hj : j = o.i
      · rw [if_pos hj, hj, upd_same, if_pos rfl]; rfl
      · rw [if_neg hj, upd_other _ _ hj, if_neg (by omega), h.is]; simp
  · unfold doneS
    rw [List.map_append, List.nodup_append]
    refine ⟨List.Sublist.nodup (List.Sublist.map _ List.filter_sublist) h.nodup, ?_, ?_⟩
    · cases o.b <;> simp
    · intro a ha b hbm
      obtain ⟨x, hx, rfl⟩ := List.mem_map.1 ha
      have hne := (mem_dropS hx).2
      cases hob : o.b with
      | none => rw [hob] at hbm; simp at hbm
      | some c =>
        rw [hob] at hbm
        simp at hbm
        omega
  · unfold doneS at hx
    rw [List.mem_append] at hx
    rcases hx with hx | hx
    · exact h.rng x (mem_dropS hx).1
    · cases hob : o.b with
      | none => rw [hob] at hx; simp at hx
      | some c => rw [hob] at hx; simp at hx; subst hx; exact ⟨h0, h1⟩
  · unfold doneS at hx
    rw [List.mem_append] at hx
    rcases hx with hx | hx
    · exact h.small x (mem_dropS hx).1
    · cases hob : o.b with
      | none => rw [hob] at hx; simp at hx
      | some c => rw [hob] at hx; simp at hx; subst hx; exact ht c hob
theorem cnt_find {size : Nat} : ∀ {l : List Sct}, (l.map (·.1)).Nodup → (∀ x ∈ l, 0 ≤ x.1 ∧ x.1 < (size : Int)) → l.length = cnt size (findS l)
  | [], _, _ => (cnt_none size).symm
  | x :: l, hn, hr => by
    rw [List.map_cons, List.nodup_cons] at hn
    have ih := cnt_find (size := size) hn.2 fun y hy => hr y (by simp [hy])
    have hx := hr x (by simp)
    have hnone : findS l x.1 = none := findS_none fun y hy e => hn.1 (by rw [← e]; exact List.mem_map_of_mem hy)
    have e : findS (x :: l) = upd (findS l) x.1 (some x.2) := by
      funext j
      rw [findS_cons]
      unfold upd
      by_cases hj : j = x.1
      · rw [if_pos hj, if_pos hj.symm]
      · rw [if_neg hj, if_neg (by omega)]
    have hc := cnt_upd (n := size) (m := findS l) (some x.2) hx.1 hx.2
    rw [hnone] at hc
    simp at hc
    rw [e, List.length_cons, ih]
    omega
theorem SL.len {size : Nat} {l : List Sct} {m : Secs} (h : SL size l m) : l.length = cnt size m := by
  rw [cnt_find h.nodup h.rng, show findS l = m from funext h.is]
theorem SL.le {size : Nat} {l : List Sct} {m : Secs} (h : SL size l m) : l.length ≤ size := by rw [h.len]; exact cnt_le _ _

/-- how a sector and an operation are laid -/
def eSct : Enc Sct := ⟨2, fun x => [.int .i64 x.1, .string (bst x.2)], fun _ => rfl, fun _ u h => by simp at h; rcases h with rfl | rfl <;> rfl, by decide⟩
def pdV (o : POp) : List Value := [.int .i64 o.i, .bool o.b.isNone, .string (bst (o.b.getD []))]
def ePd : Enc POp := ⟨3, pdV, fun _ => rfl, fun _ u h => by simp [pdV] at h; rcases h with rfl | rfl | rfl <;> rfl, by decide⟩
theorem GAt.sct {w : World} {B i : Nat} {A : Option Addr} {l : List Sct} (h : GAt eSct w B A l) (hi : i < l.length) : ∃ b off x, A = some ⟨b, off, none⟩ ∧ b < B ∧ l[i]? = some x ∧ w.cell? ⟨b, off + i * 2, none⟩ = some (.int .i64 x.1) ∧ w.cell? ⟨b, off + i * 2 + 1, none⟩ = some (.string (bst x.2)) := by
  obtain ⟨b, off, x, e, hb, hx, hc⟩ := h.get hi
  exact ⟨b, off, x, e, hb, hx, hc 0 _ rfl, hc 1 _ rfl⟩
theorem GAt.pd {w : World} {B i : Nat} {A : Option Addr} {l : List POp} (h : GAt ePd w B A l) (hi : i < l.length) : ∃ b off o, A = some ⟨b, off, none⟩ ∧ b < B ∧ l[i]? = some o ∧ w.cell? ⟨b, off + i * 3, none⟩ = some (.int .i64 o.i) ∧ w.cell? ⟨b, off + i * 3 + 1, none⟩ = some (.bool o.b.isNone) ∧ w.cell? ⟨b, off + i * 3 + 2, none⟩ = some (.string (bst (o.b.getD []))) := by
  obtain ⟨b, off, x, e, hb, hx, hc⟩ := h.get hi
  exact ⟨b, off, x, e, hb, hx, hc 0 _ rfl, hc 1 _ rfl, hc 2 _ rfl⟩

/-- the document's disk as a value, its rows in P's blocks: what is pending may be long -/
structure D6 (P : Nat → Prop) (w : World) (v : Value) (s : Dk) : Prop where
  ex : ∃ (V G : List Sct) (A1 A2 A3 : Option Addr) (c1 c2 c3 : Nat), v = .agg #[.int .i64 (s.size : Int), .int .i64 s.limit, .slice A1 V.length c1, .slice A2 G.length c2, .slice A3 s.pend.length c3] ∧
    SL s.size V s.view ∧ SL s.size G s.ground ∧ GAt eSct w w.heap.size A1 V ∧ GAt eSct w w.heap.size A2 G ∧ GAt ePd w w.heap.size A3 s.pend ∧ V.length ≤ c1 ∧ G.length ≤ c2 ∧ s.pend.length ≤ c3 ∧ In P A1 V ∧ In P A2 G ∧ In P A3 s.pend
  pend : ∀ o ∈ s.pend, 0 ≤ o.i ∧ o.i < (s.size : Int) ∧ ∀ b, o.b = some b → b.length ≤ 512
  size : s.size ≤ 65536
section
variable {P P' : Nat → Prop} {w w' : World} {v : Value} {s : Dk}
theorem D6.keep (h : D6 P w v s) (hs : w.heap.size ≤ w'.heap.size) (hk : ∀ k, P k → w'.heap[k]? = w.heap[k]?) : D6 P w' v s := by
  obtain ⟨V, G, A1, A2, A3, c1, c2, c3, hv, h1, h2, h3, h4, h5, h6, h7, h8, i1, i2, i3⟩ := h.ex
  exact ⟨⟨V, G, A1, A2, A3, c1, c2, c3, hv, h1, h2, h3.kept i1 hs hk, h4.kept i2 hs hk, h5.kept i3 hs hk, h6, h7, h8, i1, i2, i3⟩, h.pend, h.size⟩
theorem D6.weak (h : D6 P w v s) (hp : ∀ k, P k → P' k) : D6 P' w v s := by
  obtain ⟨V, G, A1, A2, A3, c1, c2, c3, hv, h1, h2, h3, h4, h5, h6, h7, h8, i1, i2, i3⟩ := h.ex
  exact ⟨⟨V, G, A1, A2, A3, c1, c2, c3, hv, h1, h2, h3, h4, h5, h6, h7, h8, i1.weak hp, i2.weak hp, i3.weak hp⟩, h.pend, h.size⟩
theorem D6.bound (h : D6 P w v s) : D6 (fun k => P k ∧ k < w.heap.size) w v s := by
  obtain ⟨V, G, A1, A2, A3, c1, c2, c3, hv, h1, h2, h3, h4, h5, h6, h7, h8, i1, i2, i3⟩ := h.ex
  exact ⟨⟨V, G, A1, A2, A3, c1, c2, c3, hv, h1, h2, h3, h4, h5, h6, h7, h8, fun b off e hl => ⟨i1 b off e hl, h3.in_ b off e hl⟩, fun b off e hl => ⟨i2 b off e hl, h4.in_ b off e hl⟩, fun b off e hl => ⟨i3 b off e hl, h5.in_ b off e hl⟩⟩, h.pend, h.size⟩
theorem D6.step (h : D6 P w v s) (hb : Below w.heap.size w w') : D6 P w' v s := (h.bound.keep hb.size fun k hk => hb.block k hk.2).weak fun _ hk => hk.1
theorem D6.shape (h : D6 P w v s) : ∃ (a b : Int) (A1 A2 A3 : Option Addr) (n1 n2 n3 c1 c2 c3 : Nat), v = .agg #[.int .i64 a, .int .i64 b, .slice A1 n1 c1, .slice A2 n2 c2, .slice A3 n3 c3] := by
  obtain ⟨V, G, A1, A2, A3, c1, c2, c3, hv, _⟩ := h.ex
  exact ⟨_, _, _, _, _, _, _, _, _, _, _, hv⟩
theorem D6.view_le (h : D6 P w v s) {i : Int} {b : List UInt8} (hb : s.view i = some b) : b.length ≤ 512 ∧ 0 ≤ i ∧ i < (s.size : Int) := by
  obtain ⟨V, G, A1, A2, A3, c1, c2, c3, hv, h1, _⟩ := h.ex
  exact h1.some_le hb
end

end Go.Proofs.YtngclmjefadokaaDoor

namespace Go.Proofs.YtngclmjefadokaaDoor
open Go Go.RowKit

set_option maxHeartbeats 2000000 in
theorem new6_no {n : Int} {w : World} (h : n < 1 ∨ 65536 < n) :
    Calls Tryd.prog 7 #[.int .i64 n] w fun e w' => e = .returned (.tuple #[.agg #[.int .i64 0, .int .i64 0, .slice none 0 0, .slice none 0 0, .slice none 0 0], .int .i64 60]) ∧ Below w.heap.size w w' := by
  by_cases h1 : n < 1
  · go_enter Tryd.func7, Tryd.ntmps7
    go_wp2_with fail
    refine bodyPost_ret (v := .tuple #[.agg #[.int .i64 0, .int .i64 0, .slice none 0 0, .slice none 0 0, .slice none 0 0], .int .i64 60]) (by simp [results, Tryd.results7, go_sem, *]) rfl ⟨rfl, ?_⟩
    exact (Below.refl _ _).alloc (Nat.le_refl _) _
  · have h2 : 65536 < n := by omega
    go_enter Tryd.func7, Tryd.ntmps7
    go_wp2_with fail
    refine bodyPost_ret (v := .tuple #[.agg #[.int .i64 0, .int .i64 0, .slice none 0 0, .slice none 0 0, .slice none 0 0], .int .i64 60]) (by simp [results, Tryd.results7, go_sem, *]) rfl ⟨rfl, ?_⟩
    exact (Below.refl _ _).alloc (Nat.le_refl _) _
set_option maxHeartbeats 2000000 in
theorem new6_yes {P : Nat → Prop} {n : Nat} {w : World} (h1 : 1 ≤ n) (h2 : n ≤ 65536) :
    Calls Tryd.prog 7 #[.int .i64 (n : Int)] w fun e w' => ∃ v, e = .returned (.tuple #[v, .int .i64 0]) ∧ D6 P w' v (Dk.new n) ∧ Below w.heap.size w w' := by
  have hd : ∀ W, D6 P W (.agg #[.int .i64 (n : Int), .int .i64 (n : Int), .slice none 0 0, .slice none 0 0, .slice none 0 0]) (Dk.new n) := fun W =>
    ⟨⟨[], [], none, none, none, 0, 0, 0, rfl, SL.nil _, SL.nil _, GAt.nil, GAt.nil, GAt.nil, Nat.le_refl _, Nat.le_refl _, Nat.le_refl _, In.nil, In.nil, In.nil⟩, fun o ho => (by cases ho), h2⟩
  go_enter Tryd.func7, Tryd.ntmps7
  go_wp2_with fail
  refine bodyPost_ret (v := .tuple #[.agg #[.int .i64 (n : Int), .int .i64 (n : Int), .slice none 0 0, .slice none 0 0, .slice none 0 0], .int .i64 0]) (by simp [results, Tryd.results7, go_sem, *]) rfl ⟨_, rfl, hd _, ?_⟩
  exact (Below.refl _ _).alloc (Nat.le_refl _) _

end Go.Proofs.YtngclmjefadokaaDoor

namespace Go.Proofs.YtngclmjefadokaaDoor
open Go Go.RowKit

theorem info_sct : (Tryd.prog.info? 103).map (fun i => (i.zero, i.size, i.bytes)) = some (some (.agg #[.int .i64 0, .string ⟨#[]⟩]), 2, 24) := by kernel_rfl
theorem gi_sct : GInfo eSct Tryd.prog 27 103 24 := by
  obtain ⟨i0, hi, hz0, hz1, hz2⟩ := info_parts info_sct
  exact ⟨Tryd.underlying27, i0, _, hi, hz0, hz1, hz2, rfl⟩
theorem info_pd : (Tryd.prog.info? 93).map (fun i => (i.zero, i.size, i.bytes)) = some (some (.agg #[.int .i64 0, .bool false, .string ⟨#[]⟩]), 3, 32) := by kernel_rfl
theorem gi_pd : GInfo ePd Tryd.prog 28 93 32 := by
  obtain ⟨i0, hi, hz0, hz1, hz2⟩ := info_parts info_pd
  exact ⟨Tryd.underlying28, i0, _, hi, hz0, hz1, hz2, rfl⟩
theorem findS_drop_cons {l : List Sct} {k : Nat} {x : Sct} (h : l[k]? = some x) (i : Int) : findS (l.drop k) i = if x.1 = i then some x.2 else findS (l.drop (k + 1)) i := by
  obtain ⟨hk, hx⟩ := List.getElem?_eq_some_iff.1 h
  rw [List.drop_eq_getElem_cons hk, hx, findS_cons]

set_option maxHeartbeats 2000000 in
theorem find6_any {A : Option Addr} {m c B : Nat} {l : List Sct} {w : World} (i : Int) (hA : GAt eSct w B A l) (hm : m = l.length) (hl : l.length ≤ 65536) :
    Calls Tryd.prog 24 #[.slice A m c, .int .i64 i] w fun e w' => e = .returned (.tuple #[.string (bst ((findS l i).getD [])), .bool (findS l i).isSome]) ∧ w = w' := by
  subst hm
  have HA := hid hA
  obtain ⟨F, hF⟩ : ∃ F, F = findS l i := ⟨_, rfl⟩
  rw [← hF]
  have HF := hid hF
  have HF0 := hid (show F = findS (l.drop 0) i by rw [List.drop_zero]; exact hF)
  clear hA hF
  go_enter Tryd.func24, Tryd.ntmps24
  go_wp2_with fail
  go_loopw [6] (fun j wr => ∃ k : Nat, k ≤ l.length ∧ j = .int .i64 (k : Int) ∧ Kept (F = findS (l.drop k) i) ∧ wr = w) (fun j _ => l.length - (intOf j).toNat)
  case atStart => exact ⟨0, Nat.zero_le _, rfl, HF0, rfl⟩
  case round =>
    obtain ⟨k, hk, rfl, hd, rfl⟩ := hrel
    by_cases hlt : k < l.length
    · obtain ⟨b, off, x, rfl, hb, hx, d0, d1⟩ := HA.out.sct (i := k) hlt
      have hf := findS_drop_cons hx i
      clear hx
      by_cases hxi : x.1 = i
      · rw [if_pos hxi] at hf
        have hF := hd.out
        rw [hf] at hF
        subst hF
        clear hf hd HF HF0
        obtain ⟨x1, x2⟩ := x
        dsimp only at hxi d0 d1
        subst hxi
        go_wp2_with fail
        go_ret2
        exact ⟨rfl, rfl⟩
      · rw [if_neg hxi] at hf
        have HD := hid (hd.out.trans hf)
        have hne : (x.1 == i) = false := by simpa using hxi
        clear hf hd hxi
        go_wp2_with fail
        go_roundw
        case rel => exact ⟨k + 1, by omega, by go_num, HD, trivial⟩
        case measure => simp [intOf]; omega
    · have hkl : k = l.length := by omega
      subst hkl
      have hF : F = none := by rw [hd.out, List.drop_length]; rfl
      subst hF
      clear hd
      go_wp2_with fail
      go_ret2
      exact ⟨rfl, rfl⟩

end Go.Proofs.YtngclmjefadokaaDoor
