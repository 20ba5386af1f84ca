/-
  What is not written yet, by numbers: plain, and beside the cache.
-/
import Derived.Test.YtdhjjjagjkencaaCaKeep
import Derived.Test.YtdhjjjagjkencaaCaDirt
namespace Go.Proofs.Ytdhjjjagjkencaa
open Go Go.RowKit

/-- told by f: just the numbers whose entry is dirty -/
def DK (f : Int → Nat) (l : List En) : Prop := ∀ k, 0 < f k ↔ ∃ x ∈ l, x.i = k ∧ x.d = true
def updF (f : Int → Nat) (k : Int) (v : Nat) : Int → Nat := fun i => if i = k then v else f i
theorem updF_eq (f : Int → Nat) (k : Int) (v : Nat) : updF f k v k = v := if_pos rfl
theorem updF_ne {f : Int → Nat} {k i : Int} {v : Nat} (h : i ≠ k) : updF f k v i = f i := if_neg h
theorem DK.empty : DK (fun _ => 0) [] := fun k => by simp
theorem DK.mem {f : Int → Nat} {l l' : List En} (h : DK f l) (hm : ∀ y, y ∈ l' ↔ y ∈ l) : DK f l' := fun k => by
  rw [h k]
  constructor <;> (rintro ⟨x, hx, e⟩; exact ⟨x, by first | exact (hm x).1 hx | exact (hm x).2 hx, e⟩)
theorem DK.of {f : Int → Nat} {l : List En} (h : DK f l) (hn : Nd l) {x : En} (hx : x ∈ l) : decide (0 < f x.i) = x.d := by
  cases hd : x.d with
  | true => exact decide_eq_true ((h x.i).2 ⟨x, hx, rfl, hd⟩)
  | false =>
    refine decide_eq_false fun q => ?_
    obtain ⟨y, hy, e, hyd⟩ := (h x.i).1 q
    rw [hn.one hy hx e, hd] at hyd
    cases hyd
theorem DK.ins {f : Int → Nat} {l : List En} (h : DK f l) (hn : Nd l) (i : Int) (b : List UInt8) (d : Bool) (v : Nat) (hv : 0 < v) : DK (if d = true then updF f i v else f) (inE i b d l) := fun k => by
  have hm := mem_inE (k := i) (b := b) (d := d) hn
  by_cases hk : k = i
  · subst hk
    have e : (∃ x ∈ inE k b d l, x.i = k ∧ x.d = true) ↔ (d || dE k l) = true := by
      constructor
      · rintro ⟨x, hx, e1, e2⟩
        rcases (hm x).1 hx with rfl | ⟨_, hne⟩
        · exact e2
        · exact absurd e1 hne
      · exact fun q => ⟨_, (hm _).2 (.inl rfl), rfl, q⟩
    rw [e]
    cases d with
    | true => simp [updF_eq, hv]
    | false =>
      simp only [Bool.false_or]
      rw [if_neg (by simp), h k]
      constructor
      · rintro ⟨x, hx, e1, e2⟩; rw [dE_of hn hx e1]; exact e2
      · intro q
        unfold dE at q
        cases hp : l[posE k l]? with
        | none => rw [hp] at q; cases q
        | some y => rw [hp] at q; exact ⟨y, (pos_mem hp).1, (pos_mem hp).2, q⟩
  · have e0 : (if d = true then updF f i v else f) k = f k := by
      split
      · exact updF_ne hk
      · rfl
    rw [e0, h k]
    constructor
    · rintro ⟨x, hx, e1, e2⟩; exact ⟨x, (hm x).2 (.inr ⟨hx, fun q => hk (e1.symm.trans q)⟩), e1, e2⟩
    · rintro ⟨x, hx, e1, e2⟩
      rcases (hm x).1 hx with rfl | ⟨hx, _⟩
      · exact absurd e1.symm hk
      · exact ⟨x, hx, e1, e2⟩
theorem DK.put {f : Int → Nat} {R : Nat} {l : List En} {i : Int} {b : List UInt8} {d : Bool} (hn : Nd l) (hl : l.length ≤ R) (h : DK f (inE i b d l)) : DK (if ((inE i b d l)[R]?).isSome = true then updF f (goV R (inE i b d l)).i 0 else f) (putE R i b d l) := fun k => by
  have hm := put_mem (R := R) (k := i) (b := b) (d := d) hn hl
  by_cases hq : ((inE i b d l)[R]?).isSome = true
  · rw [if_pos hq]
    by_cases hk : k = (goV R (inE i b d l)).i
    · subst hk
      rw [updF_eq]
      constructor
      · intro q; omega
      · rintro ⟨x, hx, e1, _⟩; exact absurd ⟨hq, e1⟩ ((hm x).1 hx).2
    · rw [updF_ne hk, h k]
      constructor
      · rintro ⟨x, hx, e1, e2⟩; exact ⟨x, (hm x).2 ⟨hx, fun q => hk (e1.symm.trans q.2)⟩, e1, e2⟩
      · rintro ⟨x, hx, e1, e2⟩; exact ⟨x, ((hm x).1 hx).1, e1, e2⟩
  · rw [if_neg hq, h k]
    constructor
    · rintro ⟨x, hx, e⟩; exact ⟨x, (hm x).2 ⟨hx, fun q => hq q.1⟩, e⟩
    · rintro ⟨x, hx, e⟩; exact ⟨x, ((hm x).1 hx).1, e⟩
theorem DK.drop {f : Int → Nat} {l : List En} (h : DK f l) (hn : Nd l) (i : Int) : DK (updF f i 0) (dropE [i] l) := fun k => by
  have hm := mem_outE (k := i) hn
  show 0 < updF f i 0 k ↔ ∃ x ∈ outE (posE i l) l, x.i = k ∧ x.d = true
  by_cases hk : k = i
  · subst hk
    rw [updF_eq]
    constructor
    · intro q; omega
    · rintro ⟨x, hx, e1, _⟩; exact absurd e1 ((hm x).1 hx).2
  · rw [updF_ne hk, h k]
    constructor
    · rintro ⟨x, hx, e1, e2⟩; exact ⟨x, (hm x).2 ⟨hx, fun q => hk (e1.symm.trans q)⟩, e1, e2⟩
    · rintro ⟨x, hx, e1, e2⟩; exact ⟨x, ((hm x).1 hx).1, e1, e2⟩
/-- f, nought at the numbers of some entries -/
def zeroF (f : Int → Nat) : List En → Int → Nat
  | [] => f
  | x :: l => zeroF (updF f x.i 0) l
theorem zeroF_at (f : Int → Nat) (l : List En) (k : Int) : zeroF f l k = if ∃ x ∈ l, x.i = k then 0 else f k := by
  induction l generalizing f with
  | nil => simp [zeroF]
  | cons x l ih =>
    unfold zeroF
    rw [ih]
    by_cases h1 : ∃ y ∈ l, y.i = k
    · obtain ⟨y, hy, e⟩ := h1
      rw [if_pos ⟨y, hy, e⟩, if_pos ⟨y, List.mem_cons_of_mem _ hy, e⟩]
    · rw [if_neg h1]
      by_cases h2 : x.i = k
      · rw [if_pos ⟨x, List.mem_cons_self, h2⟩, ← h2, updF_eq]
      · rw [updF_ne (fun e => h2 e.symm), if_neg]
        rintro ⟨y, hy, e⟩
        rcases List.mem_cons.1 hy with rfl | hy
        · exact h2 e
        · exact h1 ⟨y, hy, e⟩
theorem zeroF_take {f : Int → Nat} {l : List En} {j : Nat} {x : En} (h : l[j]? = some x) : zeroF f (l.take (j + 1)) = updF (zeroF f (l.take j)) x.i 0 := by
  funext k
  rw [zeroF_at, take_nextE h]
  unfold updF
  rw [zeroF_at]
  by_cases hk : k = x.i
  · rw [if_pos ⟨x, by simp, hk.symm⟩, if_pos hk]
  · rw [if_neg hk]
    congr 1
    simp only [eq_iff_iff]
    constructor
    · rintro ⟨y, hy, e⟩
      rcases List.mem_append.1 hy with hy | hy
      · exact ⟨y, hy, e⟩
      · have : y = x := by simpa using hy
        subst this
        exact absurd e.symm hk
    · rintro ⟨y, hy, e⟩; exact ⟨y, by simp [hy], e⟩
theorem dirt_mem {l : List En} {x : En} : x ∈ dirtyE [] l ↔ x ∈ l ∧ x.d = true := by
  have h : (dirtyE [] l).Perm (l.filter (·.d)) := by simpa using dirtyE_perm l []
  rw [h.mem_iff, List.mem_filter]
theorem dirt_lt {l : List En} (hn : Nd l) {i j : Nat} {x y : En} (hij : i < j) (hx : (dirtyE [] l)[i]? = some x) (hy : (dirtyE [] l)[j]? = some y) : x.i < y.i := by
  have hs := dirtyE_srt l [] List.Pairwise.nil
  obtain ⟨hi, ex⟩ := List.getElem?_eq_some_iff.1 hx
  obtain ⟨hj, ey⟩ := List.getElem?_eq_some_iff.1 hy
  have h1 := List.pairwise_iff_getElem.1 hs i j hi hj hij
  rw [ex, ey] at h1
  refine Int.lt_iff_le_and_ne.2 ⟨h1, fun e => ?_⟩
  have hp : (dirtyE [] l).Perm (l.filter (·.d)) := by simpa using dirtyE_perm l []
  have hnd : ((dirtyE [] l).map (·.i)).Nodup := by
    refine (hp.map _).nodup_iff.2 ?_
    exact List.Nodup.sublist (List.Sublist.map _ List.filter_sublist) hn
  have := List.pairwise_iff_getElem.1 hnd i j (by simpa using hi) (by simpa using hj) hij
  simp only [List.getElem_map] at this
  rw [ex, ey] at this
  exact this e
theorem DK.clean {f : Int → Nat} {l : List En} (h : DK f l) : DK (zeroF f (dirtyE [] l)) (cleanE l) := fun k => by
  rw [zeroF_at]
  constructor
  · intro q
    split at q
    · omega
    · rename_i hne
      obtain ⟨x, hx, e, hd⟩ := (h k).1 q
      exact absurd ⟨x, dirt_mem.2 ⟨hx, hd⟩, e⟩ hne
  · rintro ⟨x, hx, _, hd⟩
    unfold cleanE at hx
    obtain ⟨y, _, rfl⟩ := List.mem_map.1 hx
    cases hd
theorem dirt_clean (l : List En) : dirtyE [] (cleanE l) = [] := by
  refine List.eq_nil_iff_forall_not_mem.2 fun x hx => ?_
  obtain ⟨h1, h2⟩ := dirt_mem.1 hx
  unfold cleanE at h1
  obtain ⟨y, _, rfl⟩ := List.mem_map.1 h1
  cases h2
theorem zeroF_pos {f : Int → Nat} {l : List En} (h : DK f l) (hn : Nd l) {j : Nat} {x : En} (hx : (dirtyE [] l)[j]? = some x) : 0 < zeroF f ((dirtyE [] l).take j) x.i := by
  rw [zeroF_at, if_neg]
  · have hm := dirt_mem.1 (List.mem_of_getElem? hx)
    exact (h x.i).2 ⟨x, hm.1, rfl, hm.2⟩
  · rintro ⟨y, hy, e⟩
    obtain ⟨i, hi⟩ := List.mem_iff_getElem?.1 hy
    have hij : i < j := by have := (List.getElem?_eq_some_iff.1 hi).1; rw [List.length_take] at this; omega
    rw [List.getElem?_take_of_lt hij] at hi
    have := dirt_lt hn hij hi hx
    omega

/-- a map of numbers -/
def NT (w : World) (mb : Nat) (f : Int → Nat) : Prop := ∃ T n, Tab w mb T n ∧ ∀ i, (T i).getD (.int .i64 0) = .int .i64 (f i : Int)
theorem NT.of_block {w w' : World} {mb : Nat} {f : Int → Nat} (h : NT w mb f) (hk : w'.heap[mb]? = w.heap[mb]?) : NT w' mb f := by
  obtain ⟨T, n, h1, h2⟩ := h
  exact ⟨T, n, h1.of_block hk, h2⟩
theorem NT.lt {w : World} {mb : Nat} {f : Int → Nat} (h : NT w mb f) : mb < w.heap.size := by
  obtain ⟨T, n, h1, _⟩ := h
  exact h1.lt
theorem NT.made (w : World) : NT (w.alloc (.map #[] 0)) w.heap.size (fun _ => 0) := ⟨_, _, Tab.made w, fun _ => rfl⟩
theorem nt_upd {f : Int → Nat} {T : TabF} (h : ∀ i, (T i).getD (.int .i64 0) = .int .i64 (f i : Int)) (k : Int) (v : Nat) : ∀ i, (updT T k (some (.int .i64 (v : Int))) i).getD (.int .i64 0) = .int .i64 (updF f k v i : Int) := fun i => by
  unfold updT updF
  by_cases e : i = k
  · rw [if_pos e, if_pos e]; rfl
  · rw [if_neg e, if_neg e]; exact h i
/-- a cache, and a map that tells what is dirty -/
structure DS (w0 w : World) (S : Nat → Prop) (cb R mb : Nat) (l : List En) (f : Int → Nat) : Prop where
  ca : CA S w cb R l
  own : ∀ k, S k → w0.heap.size ≤ k
  nt : NT w mb f
  mS : ¬ S mb
  mlow : w0.heap.size ≤ mb
  below : Below w0.heap.size w0 w
  few : l.length ≤ R
theorem DS.step {w0 w w' : World} {S : Nat → Prop} {cb R mb : Nat} {l : List En} {f : Int → Nat} (h : DS w0 w S cb R mb l f) (hb : Below w.heap.size w w') : DS w0 w' S cb R mb l f :=
  ⟨h.ca.step hb, h.own, h.nt.of_block (hb.block mb h.nt.lt), h.mS, h.mlow, below_step h.below hb, h.few⟩
/-- a call on the cache -/
theorem DS.call {w0 w w' : World} {S S' : Nat → Prop} {cb R mb : Nat} {l l' : List En} {f : Int → Nat} (h : DS w0 w S cb R mb l f) (hc : CA S' w' cb R l') (hw : Within S w w') (hs : ∀ k, S' k → S k ∨ w.heap.size ≤ k) (hl : l'.length ≤ R) : DS w0 w' S' cb R mb l' f :=
  ⟨hc, fun k hk => (hs k hk).elim (h.own k) (fun q => Nat.le_trans h.below.size q), h.nt.of_block (hw.block mb h.nt.lt h.mS), fun q => (hs mb q).elim h.mS (fun q => by have := h.nt.lt; omega), h.mlow, h.below.trans (hw.below h.own h.below.size), hl⟩
/-- a store into the map -/
theorem DS.map {w0 w w' : World} {S : Nat → Prop} {cb R mb : Nat} {l : List En} {f f' : Int → Nat} (h : DS w0 w S cb R mb l f) (ht : NT w' mb f') (ho : Only mb w w') : DS w0 w' S cb R mb l f' :=
  ⟨h.ca.keep (fun k hk => ho.block k (h.ca.low k hk) (fun e => by injection e with e; subst e; exact h.mS hk)) ho.size, h.own, ht, h.mS, h.mlow, h.below.trans (ho.below h.mlow h.below.size), h.few⟩

end Go.Proofs.Ytdhjjjagjkencaa
