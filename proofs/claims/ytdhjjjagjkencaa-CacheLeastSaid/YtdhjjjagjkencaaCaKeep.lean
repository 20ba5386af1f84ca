/-
  What a list keeps of one number, and of all: plain.
-/
import Derived.Test.YtdhjjjagjkencaaCaPS
namespace Go.Proofs.Ytdhjjjagjkencaa
open Go Go.RowKit

theorem drop1_any {S : Nat → Prop} {w : World} {cb R : Nat} {l : List En} (a : Int) (h : CA S w cb R l) (hl : l.length ≤ 1000000) :
    Calls Try.prog 14 #[(.pointer (some ⟨cb, 0, none⟩)), .slice (some ⟨w.heap.size, 0, none⟩) 1 1] (w.alloc (.cells #[.int .i64 a] 3)) fun e w' => e = .returned (.int .i64 (dropN [a] l : Int)) ∧ CA S w' cb R (dropE [a] l) ∧ Within S (w.alloc (.cells #[.int .i64 a] 3)) w' := by
  have hb := (Below.refl w.heap.size w).alloc (Nat.le_refl _) (.cells #[.int .i64 a] 3)
  have hk : GAt eI64 (w.alloc (.cells #[.int .i64 a] 3)) (w.alloc (.cells #[.int .i64 a] 3)).heap.size (some ⟨w.heap.size, 0, none⟩) [a] := by
    have := GAt.one w a 3 (E := eI64) (cs := #[.int .i64 a]) rfl
    exact this.more (by simp)
  refine drop_any (h.step hb) hl hk rfl (Nat.le_of_ble_eq_true rfl) (fun b off e _ hs => ?_)
  have h3 := h.low b hs
  have h4 := congrArg Addr.block (Option.some.inj e)
  dsimp only at h4
  omega

def Nd (l : List En) : Prop := (l.map (·.i)).Nodup
theorem CA.nd {S : Nat → Prop} {w : World} {cb R : Nat} {l : List En} (h : CA S w cb R l) : Nd l := by
  obtain ⟨mb, eb, ps, vl, pv, nx, m, hc, rfl, _⟩ := h.out
  unfold Nd
  rw [List.map_map]
  refine List.pairwise_map.2 ?_
  exact (List.nodup_cons.1 hc.ring.nodup).2.imp_of_mem fun ha hb hne e => hne (hc.ids _ ha _ hb e)
theorem CO.nd {base : Nat} {w : World} {cb R : Nat} {l : List En} (h : CO base w cb R l) : Nd l := by
  obtain ⟨S, h1, _⟩ := h
  exact h1.nd
theorem Nd.one {l : List En} (h : Nd l) {x y : En} (hx : x ∈ l) (hy : y ∈ l) (e : x.i = y.i) : x = y := by
  unfold Nd at h
  induction l with
  | nil => simp at hx
  | cons z l ih =>
    rw [List.map_cons, List.nodup_cons] at h
    rcases List.mem_cons.1 hx with e1 | hx'
    · rcases List.mem_cons.1 hy with e2 | hy'
      · rw [e1, e2]
      · exact (h.1 (List.mem_map.2 ⟨y, hy', by rw [← e1]; exact e.symm⟩)).elim
    · rcases List.mem_cons.1 hy with e2 | hy'
      · exact (h.1 (List.mem_map.2 ⟨x, hx', by rw [← e2]; exact e⟩)).elim
      · exact ih h.2 hx' hy'
theorem mem_outE {k : Int} : ∀ {l : List En}, Nd l → ∀ y, y ∈ outE (posE k l) l ↔ y ∈ l ∧ y.i ≠ k
  | [], _, y => by simp [outE]
  | x :: l, h, y => by
    unfold Nd at h
    rw [List.map_cons, List.nodup_cons] at h
    unfold posE
    by_cases e : x.i = k
    · rw [if_pos e]
      have : outE 0 (x :: l) = l := by simp [outE]
      rw [this]
      constructor
      · intro hy
        exact ⟨List.mem_cons_of_mem _ hy, fun e2 => h.1 (List.mem_map.2 ⟨y, hy, e2.trans e.symm⟩)⟩
      · rintro ⟨hy, hne⟩
        rcases List.mem_cons.1 hy with rfl | hy
        · exact absurd e hne
        · exact hy
    · rw [if_neg e]
      have : outE (posE k l + 1) (x :: l) = x :: outE (posE k l) l := by simp [outE]
      rw [this]
      have ih := mem_outE (k := k) (l := l) h.2 y
      simp only [List.mem_cons]
      constructor
      · rintro (rfl | hy)
        · exact ⟨.inl rfl, e⟩
        · exact ⟨.inr (ih.1 hy).1, (ih.1 hy).2⟩
      · rintro ⟨rfl | hy, hne⟩
        · exact .inl rfl
        · exact .inr (ih.2 ⟨hy, hne⟩)
theorem pos_of_mem {k : Int} {l : List En} {x : En} (hx : x ∈ l) (e : x.i = k) : ∃ y, l[posE k l]? = some y ∧ y.i = k ∧ y ∈ l := by
  have hlt : posE k l < l.length := by
    refine Classical.byContradiction fun h => ?_
    obtain ⟨j, hj⟩ := List.mem_iff_getElem?.1 hx
    exact posE_front (l := l) (j := j) (k := k) (by have := (List.getElem?_eq_some_iff.1 hj).1; omega) hj e
  obtain ⟨y, hy, hk⟩ := posE_at hlt
  exact ⟨y, hy, hk, List.mem_of_getElem? hy⟩
theorem pos_mem {k : Int} {l : List En} {y : En} (h : l[posE k l]? = some y) : y ∈ l ∧ y.i = k := by
  have hlt := (List.getElem?_eq_some_iff.1 h).1
  obtain ⟨z, hz, hk⟩ := posE_at hlt
  rw [h] at hz
  injection hz with hz
  subst hz
  exact ⟨List.mem_of_getElem? h, hk⟩
theorem dE_of {k : Int} {l : List En} (h : Nd l) {x : En} (hx : x ∈ l) (e : x.i = k) : dE k l = x.d := by
  obtain ⟨y, hy, hk, hm⟩ := pos_of_mem hx e
  unfold dE
  rw [hy, h.one hx hm (e.trans hk.symm)]; rfl
theorem dE_no {k : Int} {l : List En} (h : ∀ x ∈ l, x.i ≠ k) : dE k l = false := by
  unfold dE
  cases hy : l[posE k l]? with
  | none => rfl
  | some y => exact absurd (pos_mem hy).2 (h y (pos_mem hy).1)
theorem mem_getE {k : Int} {l : List En} (h : Nd l) (y : En) : y ∈ getE k l ↔ y ∈ l := by
  unfold getE
  cases hx : l[posE k l]? with
  | none => exact Iff.rfl
  | some x =>
    have hm := pos_mem hx
    show y ∈ x :: outE (posE k l) l ↔ y ∈ l
    rw [List.mem_cons, mem_outE h]
    constructor
    · rintro (rfl | hy)
      · exact hm.1
      · exact hy.1
    · intro hy
      by_cases e : y.i = k
      · exact .inl (h.one hy hm.1 (e.trans hm.2.symm))
      · exact .inr ⟨hy, e⟩
theorem nd_inE {k : Int} {b : List UInt8} {d : Bool} {l : List En} (h : Nd l) : Nd (inE k b d l) := by
  unfold inE Nd
  rw [List.map_cons, List.nodup_cons]
  refine ⟨fun hm => ?_, ?_⟩
  · obtain ⟨y, hy, e⟩ := List.mem_map.1 hm
    exact ((mem_outE h y).1 hy).2 e
  · refine List.Nodup.sublist ?_ h
    refine List.Sublist.map _ ?_
    unfold outE
    conv => rhs; rw [← List.take_append_drop (posE k l) l]
    exact (List.Sublist.refl _).append (List.drop_sublist_drop_left l (Nat.le_succ _))
theorem mem_inE {k : Int} {b : List UInt8} {d : Bool} {l : List En} (h : Nd l) (y : En) : y ∈ inE k b d l ↔ y = ⟨k, b, d || dE k l⟩ ∨ (y ∈ l ∧ y.i ≠ k) := by
  unfold inE
  rw [List.mem_cons, mem_outE h]
/-- what goes by a Put -/
theorem put_mem {R : Nat} {k : Int} {b : List UInt8} {d : Bool} {l : List En} (h : Nd l) (hl : l.length ≤ R) (y : En) :
    y ∈ putE R k b d l ↔ y ∈ inE k b d l ∧ ¬ (((inE k b d l)[R]?).isSome = true ∧ y.i = (goV R (inE k b d l)).i) := by
  have hn := nd_inE (k := k) (b := b) (d := d) h
  have hlen := inE_len k b d l
  unfold putE goV
  generalize inE k b d l = O at *
  cases ho : O[R]? with
  | none =>
    rw [List.take_of_length_le (List.getElem?_eq_none_iff.1 ho)]
    simp
  | some g =>
    obtain ⟨hlt, e⟩ := List.getElem?_eq_some_iff.1 ho
    have hO : O = O.take R ++ [g] := by
      conv => lhs; rw [← List.take_append_drop R O, List.drop_eq_getElem_cons hlt, e, List.drop_of_length_le (by omega)]
    have hg : g ∈ O := List.mem_of_getElem? ho
    simp only [Option.isSome_some, Option.getD_some, true_and]
    constructor
    · intro hy
      refine ⟨List.mem_of_mem_take hy, fun q => ?_⟩
      have : y = g := hn.one (List.mem_of_mem_take hy) hg q
      subst this
      unfold Nd at hn
      rw [hO, List.map_append, List.nodup_append] at hn
      exact hn.2.2 y.i (List.mem_map.2 ⟨y, hy, rfl⟩) y.i (by simp) rfl
    · rintro ⟨hy, hne⟩
      rw [hO] at hy
      rcases List.mem_append.1 hy with hy | hy
      · exact hy
      · exact absurd (by have : y = g := by simpa using hy
                         rw [this]) hne
theorem gone_mem {R : Nat} {k : Int} {b : List UInt8} {d : Bool} {l : List En} (hq : ((inE k b d l)[R]?).isSome = true) : goV R (inE k b d l) ∈ inE k b d l := by
  unfold goV
  cases ho : (inE k b d l)[R]? with
  | none => rw [ho] at hq; cases hq
  | some g => exact List.mem_of_getElem? ho

/-- of one number: is it there, its bytes, are they not written yet -/
structure KR (k : Int) (l : List En) (th : Bool) (b : List UInt8) (d : Bool) : Prop where
  yes : ∀ x ∈ l, x.i = k → th = true ∧ x.b = b ∧ x.d = d
  no : th = true → ∃ x ∈ l, x.i = k
theorem KR.empty (k : Int) (b : List UInt8) (d : Bool) : KR k [] false b d := ⟨fun x hx => by simp at hx, fun h => by cases h⟩
theorem KR.mem {k : Int} {l l' : List En} {th : Bool} {b : List UInt8} {d : Bool} (h : KR k l th b d) (hm : ∀ y, y ∈ l' ↔ y ∈ l) : KR k l' th b d :=
  ⟨fun x hx => h.yes x ((hm x).1 hx), fun q => by obtain ⟨x, hx, e⟩ := h.no q; exact ⟨x, (hm x).2 hx, e⟩⟩
theorem KR.ins {k i : Int} {l : List En} {th : Bool} {b b' : List UInt8} {d d' : Bool} (h : KR k l th b d) (hn : Nd l) :
    KR k (inE i b' d' l) (th || decide (i = k)) (if i = k then b' else b) (if i = k then (d' || (th && d)) else d) := by
  have hm := mem_inE (k := i) (b := b') (d := d') hn
  refine ⟨fun x hx e => ?_, fun q => ?_⟩
  · rcases (hm x).1 hx with rfl | ⟨hx, hne⟩
    · dsimp only at e
      subst e
      refine ⟨by simp, by rw [if_pos rfl], ?_⟩
      rw [if_pos rfl]
      show (d' || dE i l) = _
      congr 1
      cases th with
      | true =>
        obtain ⟨x, hx, e⟩ := h.no rfl
        rw [dE_of hn hx e, (h.yes x hx e).2.2]; rfl
      | false => exact dE_no fun x hx e => by have := (h.yes x hx e).1; cases this
    · have hki : ¬ i = k := fun q => hne (e.trans q.symm)
      obtain ⟨h1, h2, h3⟩ := h.yes x hx e
      rw [if_neg hki, if_neg hki]
      exact ⟨by rw [h1]; rfl, h2, h3⟩
  · by_cases hki : i = k
    · exact ⟨_, (hm _).2 (.inl rfl), hki⟩
    · rw [decide_eq_false hki, Bool.or_false] at q
      obtain ⟨x, hx, e⟩ := h.no q
      exact ⟨x, (hm x).2 (.inr ⟨hx, fun q2 => hki (q2.symm.trans e)⟩), e⟩
theorem KR.gone {k i : Int} {R : Nat} {l : List En} {th : Bool} {b b' : List UInt8} {d d' : Bool} (hn : Nd l) (hl : l.length ≤ R) (h : KR k (inE i b' d' l) th b d) (hq : ((inE i b' d' l)[R]?).isSome = true) (hg : (goV R (inE i b' d' l)).i = k) :
    (th = true ∧ (goV R (inE i b' d' l)).b = b ∧ (goV R (inE i b' d' l)).d = d) ∧ KR k (putE R i b' d' l) false b d := by
  refine ⟨h.yes _ (gone_mem hq) hg, ⟨fun x hx e => ?_, fun q => by cases q⟩⟩
  exact absurd ⟨hq, e.trans hg.symm⟩ ((put_mem hn hl x).1 hx).2
theorem KR.stays {k i : Int} {R : Nat} {l : List En} {th : Bool} {b b' : List UInt8} {d d' : Bool} (hn : Nd l) (hl : l.length ≤ R) (h : KR k (inE i b' d' l) th b d) (hq : ¬ (((inE i b' d' l)[R]?).isSome = true ∧ (goV R (inE i b' d' l)).i = k)) : KR k (putE R i b' d' l) th b d := by
  refine ⟨fun x hx e => h.yes x ((put_mem hn hl x).1 hx).1 e, fun q => ?_⟩
  obtain ⟨x, hx, e⟩ := h.no q
  exact ⟨x, (put_mem hn hl x).2 ⟨hx, fun ⟨q1, q2⟩ => hq ⟨q1, q2.symm.trans e⟩⟩, e⟩
theorem KR.got {k : Int} {l : List En} {th : Bool} {b : List UInt8} {d : Bool} (h : KR k l th b d) : (th = true → geI k l = 0 ∧ geB k l = b) ∧ (th = false → geI k l = 111) := by
  unfold geI geB
  refine ⟨fun q => ?_, fun q => ?_⟩
  · obtain ⟨x, hx, e⟩ := h.no q
    obtain ⟨y, hy, hk, hm⟩ := pos_of_mem hx e
    rw [hy]
    exact ⟨rfl, (h.yes y hm hk).2.1⟩
  · cases hy : l[posE k l]? with
    | none => rfl
    | some y =>
      have hm := pos_mem hy
      have := (h.yes y hm.1 hm.2).1
      rw [q] at this
      cases this
theorem KR.drop {k i : Int} {l : List En} {th : Bool} {b : List UInt8} {d : Bool} (h : KR k l th b d) (hn : Nd l) : KR k (dropE [i] l) (if i = k then false else th) b d := by
  have hm := mem_outE (k := i) hn
  show KR k (outE (posE i l) l) _ b d
  by_cases hki : i = k
  · rw [if_pos hki]
    exact ⟨fun x hx e => absurd (e.trans hki.symm) ((hm x).1 hx).2, fun q => by cases q⟩
  · rw [if_neg hki]
    refine ⟨fun x hx e => h.yes x ((hm x).1 hx).1 e, fun q => ?_⟩
    obtain ⟨x, hx, e⟩ := h.no q
    exact ⟨x, (hm x).2 ⟨hx, fun q => hki (q.symm.trans e)⟩, e⟩
theorem KR.clean {k : Int} {l : List En} {th : Bool} {b : List UInt8} {d : Bool} (h : KR k l th b d) : KR k (cleanE l) th b false := by
  unfold cleanE
  refine ⟨fun x hx e => ?_, fun q => ?_⟩
  · obtain ⟨y, hy, rfl⟩ := List.mem_map.1 hx
    obtain ⟨h1, h2, _⟩ := h.yes y hy e
    exact ⟨h1, h2, rfl⟩
  · obtain ⟨x, hx, e⟩ := h.no q
    exact ⟨_, List.mem_map.2 ⟨x, hx, rfl⟩, e⟩

end Go.Proofs.Ytdhjjjagjkencaa
