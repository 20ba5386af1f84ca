/-
  What was appended is found again (plain functions): the segments' bytes on the disk.
-/
import Derived.Test.YtobmdmbjmjdfjaaGreatDoorWTh
import Derived.Test.YtobmdmbjmjdfjaaGreatDoorWAppend
namespace Go.Proofs.YtobmdmbjmjdfjaaGreatDoor
open Go Go.RowKit

def secOf (C : List UInt8) (j : Nat) : Option (List UInt8) := if 512 * j < C.length then some ((C.drop (512 * j)).take 512) else none
theorem segB_sec {m : Secs} : ∀ (k : Nat) (p : Int) (C : List UInt8), (∀ j : Nat, j < k → m (p + (j : Int)) = secOf C j) → C.length ≤ 512 * k → segB m k p = C
  | 0, p, C, _, h => by
    have : C = [] := List.length_eq_zero_iff.1 (by omega)
    rw [this]; rfl
  | k + 1, p, C, hm, h => by
    have h0 := hm 0 (by omega)
    rw [show p + ((0 : Nat) : Int) = p by omega] at h0
    unfold segB
    rw [h0]
    unfold secOf
    by_cases hC : C.length = 0
    · rw [if_neg (by omega)]
      exact (List.length_eq_zero_iff.1 hC).symm
    · rw [if_pos (by omega), Nat.mul_zero, List.drop_zero]
      dsimp only
      by_cases hs : C.length < 512
      · rw [if_pos (by rw [List.length_take]; omega), List.take_of_length_le (by omega)]
      · rw [if_neg (by rw [List.length_take]; omega), segB_sec k (p + 1) (C.drop 512) (fun j hj => ?_) (by rw [List.length_drop]; omega), List.take_append_drop]
        have := hm (j + 1) (by omega)
        rw [show p + ((j + 1 : Nat) : Int) = p + 1 + (j : Int) by omega] at this
        rw [this]
        unfold secOf
        rw [List.length_drop, List.drop_drop, show 512 + 512 * j = 512 * (j + 1) by omega]
        by_cases hj2 : 512 * (j + 1) < C.length
        · rw [if_pos hj2, if_pos (by omega)]
        · rw [if_neg hj2, if_neg (by omega)]
theorem secOf_append {C D : List UInt8} {j : Nat} (h : 512 * (j + 1) ≤ C.length) : secOf (C ++ D) j = secOf C j := by
  unfold secOf
  rw [if_pos (by rw [List.length_append]; omega), if_pos (by omega), List.drop_append_of_le_length (by omega), List.take_append_of_le_length (by rw [List.length_drop]; omega)]
theorem cnt_room {n : Nat} {m : Secs} {i : Int} (h0 : 0 ≤ i) (h1 : i < (n : Int)) (hm : m i = none) : cnt n m < n := by
  have h2 := cnt_upd (n := n) (m := m) (some []) h0 h1
  rw [hm] at h2
  simp at h2
  have := cnt_le n (upd m i (some []))
  omega
theorem wrSt_all {p : Int} {st : List UInt8} : ∀ (f : Nat) (s : Dk) (k : Nat), st.length ≤ 512 * (k + f) → s.limit = (s.size : Int) → (∀ j : Nat, 512 * j < st.length → 0 ≤ p + (j : Int) ∧ p + (j : Int) < (s.size : Int)) →
    (wrSt s p st f k).2 = 0 ∧ (wrSt s p st f k).1.size = s.size ∧ (wrSt s p st f k).1.limit = s.limit ∧ (∀ q, (∀ j : Nat, k ≤ j → 512 * j < st.length → q ≠ p + (j : Int)) → (wrSt s p st f k).1.view q = s.view q) ∧
      ∀ j : Nat, k ≤ j → 512 * j < st.length → (wrSt s p st f k).1.view (p + (j : Int)) = some ((st.drop (512 * j)).take 512)
  | f, s, k, hf, hl, hr => by
    by_cases hk : 512 * k < st.length
    · obtain ⟨g, rfl, hg, he⟩ := wrSt_go (s := s) (p := p) hk hf
      obtain ⟨r0, r1⟩ := hr k hk
      have hw : s.why (p + (k : Int)) ((st.drop (512 * k)).take 512) = 0 := Dk.why_ok r0 r1 (by rw [List.length_take]; omega) (by
        cases hv : s.view (p + (k : Int)) with
        | none =>
          have := cnt_room r0 r1 hv
          exact .inr (by rw [hl]; unfold Dk.used; omega)
        | some b => exact .inl (by simp))
      rw [he, if_pos hw]
      have hs1 := Dk.write_ok hw
      obtain ⟨a1, a2, a3, a4, a5⟩ := wrSt_all g (s.write (p + (k : Int)) ((st.drop (512 * k)).take 512)) (k + 1) hg (by rw [hs1]; exact hl) (by rw [hs1]; exact hr)
      refine ⟨a1, by rw [a2, hs1], by rw [a3, hs1], fun q hq => ?_, fun j hj hj2 => ?_⟩
      · rw [a4 q (fun j hj hj2 => hq j (by omega) hj2), hs1]
        exact upd_other _ _ (hq k (Nat.le_refl _) hk)
      · by_cases e : j = k
        · subst e
          rw [a4 _ (fun i hi _ => by omega), hs1]
          exact upd_same _ _ _
        · exact a5 j (by omega) hj2
    · rw [wrSt_end hk]
      exact ⟨rfl, rfl, rfl, fun _ _ => rfl, fun j hj hj2 => by omega⟩

def nth64 (q k : Nat) : Nat := (q + k) % 18446744073709551616
theorem nth64_next (q k : Nat) : nth64 (next64 q) k = nth64 q (k + 1) := by unfold nth64 next64; omega
theorem nth64_zero {q : Nat} (hq : q < 18446744073709551616) : nth64 q 0 = q := by unfold nth64; omega
theorem rall_snoc : ∀ (l : List (List UInt8)) (b : List UInt8) (q : Nat), q < 18446744073709551616 → rall q (l ++ [b]) = rall q l ++ renc (nth64 q l.length) b
  | [], b, q, hq => by simp [rall, nth64_zero hq]
  | x :: l, b, q, hq => by
    show renc q x ++ rall (next64 q) (l ++ [b]) = (renc q x ++ rall (next64 q) l) ++ _
    rw [rall_snoc l b (next64 q) (next64_lt q), List.append_assoc, nth64_next]
    rfl
theorem rnumbered_length : ∀ (l : List (List UInt8)) (q : Nat), (rnumbered q l).length = l.length
  | [], _ => rfl
  | _ :: l, q => by show (rnumbered (next64 q) l).length + 1 = l.length + 1; rw [rnumbered_length l]
theorem rnumbered_mem : ∀ (l : List (List UInt8)) (q : Nat), q + l.length < 18446744073709551616 → ∀ r ∈ rnumbered q l, q ≤ r.1 ∧ r.1 < q + l.length
  | [], _, _, r, hr => by cases hr
  | x :: l, q, hq, r, hr => by
    have hr : r ∈ (q, x) :: rnumbered (next64 q) l := hr
    simp at hq
    have hn : next64 q = q + 1 := by unfold next64; omega
    rcases List.mem_cons.1 hr with e | hr
    · subst e; simp
    · rw [hn] at hr
      have := rnumbered_mem l (q + 1) (by omega) r hr
      simp
      omega
theorem rnumbered_append : ∀ (l k : List (List UInt8)) (q : Nat), q + l.length + k.length < 18446744073709551616 → rnumbered q (l ++ k) = rnumbered q l ++ rnumbered (q + l.length) k
  | [], k, q, _ => rfl
  | x :: l, k, q, hq => by
    simp at hq
    have hn : next64 q = q + 1 := by unfold next64; omega
    show (q, x) :: rnumbered (next64 q) (l ++ k) = (q, x) :: rnumbered (next64 q) l ++ _
    rw [hn, rnumbered_append l k (q + 1) (by omega), List.length_cons, show q + 1 + l.length = q + (l.length + 1) by omega]
    rfl
theorem rscan_all : ∀ (l : List (List UInt8)) (q : Nat), q < 18446744073709551616 → (∀ b ∈ l, b.length ≤ 32768) → (rscan (rall q l) q).1 = rnumbered q l
  | [], q, _, _ => by
    rw [rscan_eq]
    rfl
  | b :: l, q, hq, hb => by
    rw [rscan_eq, show rall q (b :: l) = renc q b ++ rall (next64 q) l from rfl, rget_renc hq (hb b (by simp))]
    dsimp only
    rw [if_pos rfl, List.drop_left]
    show (q, b) :: (rscan (rall (next64 q) l) (next64 q)).1 = (q, b) :: rnumbered (next64 q) l
    rw [rscan_all l (next64 q) (next64_lt q) (fun x hx => hb x (by simp [hx]))]
structure It where
  i : Nat
  base : Nat
  bs : List (List UInt8)
def It.C (t : It) : List UInt8 := renc t.base hdr ++ rall t.base t.bs
def It.vs (t : It) : Vs := ⟨t.i, t.base, rnumbered t.base t.bs⟩
theorem It.look {t : It} (hq : t.base < 18446744073709551616) (hb : ∀ b ∈ t.bs, b.length ≤ 32768) : lookB t.C = some (t.base, rnumbered t.base t.bs) := by
  unfold It.C
  rw [lookB_yes (q := t.base) (n := (renc t.base hdr).length) (rget_renc hq (by decide) _), List.drop_left, rscan_all _ _ hq hb]
def linkI : Nat → List It → Nat → Prop
  | q, [], e => q = e
  | q, t :: S, e => t.base = q ∧ 1 ≤ t.bs.length ∧ linkI (q + t.bs.length) S e
theorem linkI.le : ∀ {q : Nat} {S : List It} {e : Nat}, linkI q S e → q ≤ e
  | q, [], e, h => Nat.le_of_eq h
  | q, x :: S, e, h => by
    have := linkI.le h.2.2
    omega
theorem linkI.vs : ∀ {q : Nat} {S : List It} {e : Nat}, linkI q S e → e < 18446744073709551616 → Linked q (S.map (·.vs)) e
  | q, [], e, h, _ => h
  | q, t :: S, e, h, he => by
    obtain ⟨h1, h2, h3⟩ := h
    have hl := rnumbered_length t.bs t.base
    have := h3.le
    refine ⟨h1, by show 1 ≤ (rnumbered t.base t.bs).length; rw [hl]; exact h2, ?_, ?_⟩
    · show ∀ r ∈ rnumbered t.base t.bs, q ≤ r.1 ∧ r.1 < q + (rnumbered t.base t.bs).length
      rw [hl, ← h1]
      exact rnumbered_mem _ _ (by omega)
    · show Linked (q + (rnumbered t.base t.bs).length) _ e
      rw [hl]
      exact h3.vs he
theorem linkI.all : ∀ {q : Nat} {S : List It} {e : Nat}, linkI q S e → e < 18446744073709551616 → (S.map (·.vs)).flatMap (·.rs) = rnumbered q (S.flatMap (·.bs)) ∧ q + (S.flatMap (·.bs)).length = e
  | q, [], e, h, _ => ⟨rfl, h⟩
  | q, t :: S, e, h, he => by
    obtain ⟨h1, h2, h3⟩ := h
    obtain ⟨a, b⟩ := h3.all he
    rw [List.map_cons, List.flatMap_cons, List.flatMap_cons, a, List.length_append]
    refine ⟨?_, by omega⟩
    rw [rnumbered_append _ _ _ (by omega)]
    show rnumbered t.base t.bs ++ _ = _
    rw [h1]
theorem linkI.split : ∀ {q : Nat} {A B : List It} {e : Nat}, linkI q (A ++ B) e → ∃ m, linkI q A m ∧ linkI m B e
  | q, [], B, e, h => ⟨q, rfl, h⟩
  | q, x :: A, B, e, h => by
    obtain ⟨m, h1, h2⟩ := linkI.split (A := A) (B := B) h.2.2
    exact ⟨m, ⟨h.1, h.2.1, h1⟩, h2⟩
theorem linkI.join : ∀ {q : Nat} {A B : List It} {m e : Nat}, linkI q A m → linkI m B e → linkI q (A ++ B) e
  | q, [], B, m, e, h, k => by rw [show q = m from h]; exact k
  | q, x :: A, B, m, e, h, k => ⟨h.1, h.2.1, h.2.2.join k⟩
theorem numbered_filter : ∀ (l : List (List UInt8)) (q k : Nat), q + l.length < 18446744073709551616 → 1 ≤ q → (rnumbered q l).filter (fun r => decide (q - 1 + k < r.1)) = (rnumbered q l).drop k
  | [], _, _, _, _ => by simp [rnumbered]
  | x :: l, q, 0, hq, h1 => by
    rw [List.drop_zero, List.filter_eq_self]
    intro r hr
    have := rnumbered_mem _ _ hq r hr
    simp
    omega
  | x :: l, q, k + 1, hq, h1 => by
    simp at hq
    have hn : next64 q = q + 1 := by unfold next64; omega
    show ((q, x) :: rnumbered (next64 q) l).filter _ = ((q, x) :: rnumbered (next64 q) l).drop (k + 1)
    rw [List.drop_succ_cons, hn, List.filter_cons, if_neg (by simp; omega)]
    have := numbered_filter l (q + 1) k (by omega) (by omega)
    rw [show q + 1 - 1 + k = q - 1 + (k + 1) by omega] at this
    exact this

structure Full (s : Dk) (l : Wl) (its : List It) : Prop where
  pl : LPl l
  en : l.live.map (·.en) = its.map fun t => (t.i, t.base)
  link : linkI 1 its (l.last + 1)
  few : l.last ≤ 1000000
  small : ∀ t ∈ its, ∀ b ∈ t.bs, b.length ≤ 32768
  fits : ∀ t ∈ its, t.C.length ≤ 512 * l.size
  cells : ∀ t ∈ its, ∀ j : Nat, j < l.size → s.view (l.place t.i + (j : Int)) = secOf t.C j
  free : ∀ i, i < l.n → (∀ t ∈ its, t.i ≠ i) → ∀ j : Nat, j < l.size → s.view (l.place i + (j : Int)) = none
  stream : l.stream = (its.getLast?.map (·.C)).getD []
  disk : l.at_ + l.n * l.size ≤ s.size
  limit : s.limit = (s.size : Int)
theorem Full.congr {s s' : Dk} {l : Wl} {its : List It} (h : Full s l its) (hv : s'.view = s.view) (hs : s'.size = s.size) (hl : s'.limit = s.limit) : Full s' l its :=
  ⟨h.pl, h.en, h.link, h.few, h.small, h.fits, by rw [hv]; exact h.cells, by rw [hv]; exact h.free, h.stream, by rw [hs]; exact h.disk, by rw [hl, hs]; exact h.limit⟩
theorem Full.ii {s : Dk} {l : Wl} {its : List It} (h : Full s l its) : its.map (·.i) = l.live.map (·.i) := by
  have := congrArg (List.map Prod.fst) h.en
  rw [List.map_map, List.map_map] at this
  exact this.symm
theorem Full.lt {s : Dk} {l : Wl} {its : List It} (h : Full s l its) {t : It} (ht : t ∈ its) : t.i < l.n := by
  have : t.i ∈ its.map (·.i) := List.mem_map_of_mem ht
  rw [h.ii] at this
  obtain ⟨x, hx, e⟩ := List.mem_map.1 this
  have := (h.pl.lt x hx).1
  omega
theorem Full.nodup {s : Dk} {l : Wl} {its : List It} (h : Full s l its) : (its.map (·.i)).Nodup := by rw [h.ii]; exact h.pl.nodup
theorem Full.base {s : Dk} {l : Wl} {its : List It} (h : Full s l its) {t : It} (ht : t ∈ its) : t.base < 18446744073709551616 := by
  have : ((t.i, t.base) : En) ∈ its.map (fun t => (t.i, t.base)) := List.mem_map.2 ⟨t, ht, rfl⟩
  rw [← h.en] at this
  obtain ⟨x, hx, e⟩ := List.mem_map.1 this
  have := (h.pl.lt x hx).2
  injection e with e1 e2
  omega
theorem Full.bytes {s : Dk} {l : Wl} {its : List It} (h : Full s l its) {t : It} (ht : t ∈ its) : segB s.view l.size (l.place t.i) = t.C := segB_sec _ _ _ (h.cells t ht) (h.fits t ht)
theorem Full.none_ {s : Dk} {l : Wl} {its : List It} (h : Full s l its) {i : Nat} (hi : i < l.n) (hn : ∀ t ∈ its, t.i ≠ i) : segB s.view l.size (l.place i) = [] := segB_sec _ _ _ (fun j hj => by rw [h.free i hi hn j hj]; rfl) (by simp)
theorem Full.holds {s : Dk} {l : Wl} {its : List It} (h : Full s l its) (k : Nat) : Holds8 (wl0 l.at_ l.n l.size k) s.view (its.map (·.vs)) (l.last + 1) := by
  have hf := h.few
  refine ⟨h.link.vs (by omega), fun x hx => ?_, ?_, fun x hx => ?_, fun i hi hn => ?_, by omega⟩
  · obtain ⟨t, ht, rfl⟩ := List.mem_map.1 hx
    exact h.lt ht
  · rw [List.map_map]
    exact h.nodup
  · obtain ⟨t, ht, rfl⟩ := List.mem_map.1 hx
    show lookB (segB s.view l.size (l.place t.i)) = _
    rw [h.bytes ht]
    exact It.look (h.base ht) (h.small t ht)
  · show lookB (segB s.view l.size (l.place i)) = none
    rw [h.none_ hi (fun t ht => hn t.vs (List.mem_map_of_mem ht))]
    rfl
theorem Full.segs {s : Dk} {l : Wl} {its : List It} (h : Full s l its) {i : Nat} (hi : i < l.n) : (segB s.view l.size (l.place i)).length ≤ 512 * l.size := by
  by_cases hx : ∃ t ∈ its, t.i = i
  · obtain ⟨t, ht, rfl⟩ := hx
    rw [h.bytes ht]
    exact h.fits t ht
  · rw [h.none_ hi (fun t ht e => hx ⟨t, ht, e⟩)]
    simp
theorem Full.opened {s : Dk} {l : Wl} {its : List It} (h : Full s l its) {k : Nat} (hk : k ≤ l.last) :
    (openW s l.at_ l.n l.size k).last = l.last ∧ openR s l.at_ l.n l.size k = (rnumbered 1 (its.flatMap (·.bs))).drop k ∧ (openW s l.at_ l.n l.size k).live.length ≤ its.length ∧ (its ≠ [] → 1 ≤ (openW s l.at_ l.n l.size k).live.length) := by
  have hf := h.few
  obtain ⟨a, b, c, d⟩ := found_is (h.holds k) (show k + 1 ≤ l.last + 1 by omega)
  obtain ⟨e1, e2⟩ := h.link.all (by omega)
  refine ⟨by show ((wl0 l.at_ l.n l.size k).found s.view k).last = l.last; omega, ?_, (by rw [List.length_map] at c; exact c), fun hn => d (by simpa using hn)⟩
  show ((wl0 l.at_ l.n l.size k).found s.view k).out = _
  rw [b, e1]
  have := numbered_filter (its.flatMap (·.bs)) 1 k (by omega) (Nat.le_refl _)
  simpa using this

theorem place_ne {l : Wl} {i i' j j' : Nat} (h : i ≠ i') (hj : j < l.size) (hj' : j' < l.size) : l.place i + (j : Int) ≠ l.place i' + (j' : Int) := by
  unfold Wl.place
  intro e
  have e : l.at_ + i * l.size + j = l.at_ + i' * l.size + j' := by omega
  rcases Nat.lt_or_gt_of_ne h with h | h
  · have : (i + 1) * l.size ≤ i' * l.size := Nat.mul_le_mul_right _ h
    rw [Nat.add_mul] at this
    omega
  · have : (i' + 1) * l.size ≤ i * l.size := Nat.mul_le_mul_right _ h
    rw [Nat.add_mul] at this
    omega
theorem LPl.push {l : Wl} (hp : LPl l) {f q c : Nat} {bb : List UInt8} (hf : f < l.n) (hu : usedBy l.live f = false) (hq : q < 18446744073709551616) (hbb : bb.length ≤ 512 * l.size) : LPl { l with live := l.live ++ [⟨f, q, c⟩], stream := bb, last := q } := by
  refine ⟨hp.n2, hp.n, hp.s1, hp.size, hp.place, ?_, fun x hx => ?_, hq, hp.synced, hbb, fun _ => by simp⟩
  · rw [List.map_append, List.nodup_append]
    refine ⟨hp.nodup, by simp, ?_⟩
    intro x hx y hy
    obtain ⟨z, hz, rfl⟩ := List.mem_map.1 hx
    simp at hy
    subst hy
    exact usedBy_mem hu z hz
  · have hx : x ∈ l.live ++ [⟨f, q, c⟩] := hx
    rw [List.mem_append] at hx
    rcases hx with hx | hx
    · exact hp.lt x hx
    · simp at hx
      subst hx
      exact ⟨hf, hq⟩
def Grew (s : Dk) (l : Wl) (its its' : List It) (body : List UInt8) : Prop :=
  l.appWhy body s = 0 ∧ l.appN body s = l.last + 1 ∧ (l.app body s).last = l.last + 1 ∧ Full (l.appD body s) (l.app body s) its' ∧ its'.flatMap (·.bs) = its.flatMap (·.bs) ++ [body] ∧ (l.appD body s).pend.length ≤ s.pend.length + 64
theorem Full.grow {s : Dk} {l : Wl} {its : List It} (h : Full s l its) {body : List UInt8} (hb : body.length ≤ 32768) (hfew : l.last < 1000000) :
    ((l.long body = true ∨ l.wants body = true ∧ l.fresh < 0) ∧ l.appWhy body s ≠ 0 ∧ l.appD body s = s ∧ l.app body s = l) ∨ (l.wants body = true ∧ ∃ i, Grew s l its (its ++ [⟨i, l.last + 1, [body]⟩]) body) ∨ (l.wants body = false ∧ ∃ A t, its = A ++ [t] ∧ Grew s l its (A ++ [{ t with bs := t.bs ++ [body] }]) body) := by
  have hseq : l.seq = l.last + 1 := m64_small (by omega)
  by_cases h1 : l.long body = true
  · obtain ⟨e1, e2, e3, _⟩ := app_long (s := s) h1
    exact .inl ⟨.inl h1, by rw [e1]; decide, e2, e3⟩
  have hlong : 512 * l.size ≥ l.head.length + (l.rec_ body).length := by
    unfold Wl.long at h1
    simp at h1
    omega
  by_cases h2 : l.wants body = true
  · by_cases h3 : l.fresh < 0
    · obtain ⟨e1, e2, e3, _⟩ := app_full (s := s) h1 h2 h3
      exact .inl ⟨.inr ⟨h2, h3⟩, by rw [e1]; decide, e2, e3⟩
    · right; left
      refine ⟨h2, l.fresh.toNat, ?_⟩
      have hfn : l.fresh.toNat < l.n := by have : l.fresh < (l.n : Int) := nextI_lt _ _ _ (Nat.le_refl _); omega
      have hfu : usedBy l.live l.fresh.toNat = false := by
        have := nextI_ok (f := fun i => !usedBy l.live i) (n := l.n) (k := l.n) (by exact Int.not_lt.1 h3)
        have h5 : (!usedBy l.live l.fresh.toNat) = true := this
        simpa using h5
      have hfi : ∀ t ∈ its, t.i ≠ l.fresh.toNat := fun t ht e => by
        have : t.i ∈ its.map (·.i) := List.mem_map_of_mem ht
        rw [h.ii] at this
        obtain ⟨x, hx, e2⟩ := List.mem_map.1 this
        exact usedBy_mem hfu x hx (by omega)
      have hpn := h.pl.push (q := l.seq) (bb := l.head ++ l.rec_ body) (c := m64 1) hfn hfu (m64_lt _) (by rw [List.length_append]; omega)
      obtain ⟨s1, hs1⟩ : ∃ r, r = wrSt s (l.place l.fresh.toNat) (l.head ++ l.rec_ body) l.size 0 := ⟨_, rfl⟩
      have hrange : ∀ j : Nat, j < l.size → 0 ≤ l.place l.fresh.toNat + (j : Int) ∧ l.place l.fresh.toNat + (j : Int) < (s.size : Int) := fun j hj => by
        have h5 : (l.fresh.toNat + 1) * l.size ≤ l.n * l.size := Nat.mul_le_mul_right _ hfn
        rw [Nat.add_mul] at h5
        have := h.disk
        unfold Wl.place
        omega
      have hlen : (l.head ++ l.rec_ body).length ≤ 512 * l.size := by rw [List.length_append]; omega
      obtain ⟨a1, a2, a3, a4, a5⟩ := wrSt_all (p := l.place l.fresh.toNat) (st := l.head ++ l.rec_ body) l.size s 0 (by omega) h.limit (fun j hj => hrange j (by omega))
      have hpd := wrSt_pend (p := l.place l.fresh.toNat) (st := l.head ++ l.rec_ body) l.size (s := s) (k := 0)
      rw [← hs1] at a1 a2 a3 a4 a5 hpd
      obtain ⟨d1, e1⟩ := s1
      dsimp only at a1 a2 a3 a4 a5 hpd
      subst a1
      obtain ⟨ew, eok, _⟩ := app_new (s := s) h1 h2 h3 hs1.symm
      obtain ⟨e2, e3, e4⟩ := eok rfl
      have hC : (⟨l.fresh.toNat, l.last + 1, [body]⟩ : It).C = l.head ++ l.rec_ body := by
        show renc (l.last + 1) hdr ++ (renc (l.last + 1) body ++ rall _ []) = renc l.seq hdr ++ renc l.seq body
        rw [hseq]
        simp [rall]
      have hfar : ∀ i j : Nat, i ≠ l.fresh.toNat → j < l.size → d1.view (l.place i + (j : Int)) = s.view (l.place i + (j : Int)) := fun i j hi hj => a4 _ (fun j' _ hj' => place_ne hi hj (by omega))
      refine ⟨ew, by rw [e4, hseq], by rw [e3]; exact hseq, ?_, by simp, by rw [e2]; have := h.pl.size; omega⟩
      rw [e2, e3]
      refine ⟨hpn, ?_, ?_, ?_, ?_, ?_, ?_, ?_, ?_, ?_, ?_⟩
      · show (l.live ++ [_]).map _ = _
        rw [List.map_append, List.map_append, h.en, hseq]
        rfl
      · show linkI 1 _ (l.seq + 1)
        rw [hseq]
        exact h.link.join ⟨rfl, Nat.le_refl _, rfl⟩
      · show l.seq ≤ 1000000
        omega
      · intro t ht b hb'
        rcases List.mem_append.1 ht with ht | ht
        · exact h.small t ht b hb'
        · simp at ht
          subst ht
          simp at hb'
          subst hb'
          exact hb
      · intro t ht
        rcases List.mem_append.1 ht with ht | ht
        · exact h.fits t ht
        · simp at ht
          subst ht
          rw [hC]
          exact hlen
      · intro t ht j hj
        rcases List.mem_append.1 ht with ht | ht
        · exact (hfar t.i j (hfi t ht) hj).trans (h.cells t ht j hj)
        · simp at ht
          subst ht
          rw [hC]
          show d1.view (l.place l.fresh.toNat + (j : Int)) = _
          unfold secOf
          by_cases hjl : 512 * j < (l.head ++ l.rec_ body).length
          · rw [if_pos hjl]
            exact a5 j (Nat.zero_le _) hjl
          · rw [if_neg hjl, a4 _ (fun j' _ hj' e => by omega)]
            exact h.free _ hfn hfi j hj
      · intro i hi hn j hj
        have hif : i ≠ l.fresh.toNat := fun e => hn ⟨l.fresh.toNat, l.last + 1, [body]⟩ (by simp) e.symm
        exact (hfar i j hif hj).trans (h.free i hi (fun t ht => hn t (by simp [ht])) j hj)
      · show l.head ++ l.rec_ body = _
        rw [List.getLast?_concat]
        exact hC.symm
      · show l.at_ + l.n * l.size ≤ d1.size
        rw [a2]
        exact h.disk
      · rw [a3, a2]
        exact h.limit
  · right; right
    have hwf : l.wants body = false := by simpa using h2
    refine ⟨hwf, ?_⟩
    have hw := hwf
    unfold Wl.wants at hw
    rw [Bool.or_eq_false_iff] at hw
    have hst0 : l.stream ≠ [] := fun e => by rw [e] at hw; cases hw.1
    have hst1 : l.stream.length + (l.rec_ body).length ≤ 512 * l.size := by have := of_decide_eq_false hw.2; omega
    have hits : its ≠ [] := fun e => by
      have := h.stream
      rw [e] at this
      exact hst0 this
    obtain ⟨A, t, hAt⟩ : ∃ A t, its = A ++ [t] := ⟨its.dropLast, its.getLast hits, (List.dropLast_concat_getLast hits).symm⟩
    subst hAt
    refine ⟨A, t, rfl, ?_⟩
    have hstr : l.stream = t.C := by have := h.stream; rw [List.getLast?_concat] at this; exact this
    have hlv : l.live ≠ [] := h.pl.cur hst0
    obtain ⟨x, hx⟩ : ∃ x, l.live.getLast? = some x := by
      cases hg : l.live.getLast? with
      | none => exact absurd (List.getLast?_eq_none_iff.1 hg) hlv
      | some x => exact ⟨x, rfl⟩
    have hxt : x.i = t.i ∧ x.base = t.base := by
      have := congrArg List.getLast? h.en
      rw [List.getLast?_map, hx, List.map_append, List.map_singleton, List.getLast?_concat] at this
      injection this with this
      injection this with a b
      exact ⟨a, b⟩
    obtain ⟨m, hA, hT⟩ := h.link.split
    obtain ⟨t1, t2, t3⟩ := hT
    have t3 : m + t.bs.length = l.last + 1 := t3
    have hC : ({ t with bs := t.bs ++ [body] } : It).C = l.stream ++ l.rec_ body := by
      show renc t.base hdr ++ rall t.base (t.bs ++ [body]) = l.stream ++ renc l.seq body
      have : nth64 t.base t.bs.length = l.last + 1 := by unfold nth64; omega
      rw [rall_snoc _ _ _ (by omega), this, hseq, hstr]
      unfold It.C
      rw [List.append_assoc]
    have hrange : ∀ j : Nat, j < l.size → 0 ≤ l.place x.i + (j : Int) ∧ l.place x.i + (j : Int) < (s.size : Int) := fun j hj => by
      have hxn := (h.pl.lt x (List.mem_of_getLast? hx)).1
      have h5 : (x.i + 1) * l.size ≤ l.n * l.size := Nat.mul_le_mul_right _ hxn
      rw [Nat.add_mul] at h5
      have := h.disk
      unfold Wl.place
      omega
    have hlen : (l.stream ++ l.rec_ body).length ≤ 512 * l.size := by rw [List.length_append]; omega
    obtain ⟨s1, hs1⟩ : ∃ r, r = wrSt s (l.place x.i) (l.stream ++ l.rec_ body) l.size (l.stream.length / 512) := ⟨_, rfl⟩
    obtain ⟨a1, a2, a3, a4, a5⟩ := wrSt_all (p := l.place x.i) (st := l.stream ++ l.rec_ body) l.size s (l.stream.length / 512) (by omega) h.limit (fun j hj => hrange j (by omega))
    have hpd := wrSt_pend (p := l.place x.i) (st := l.stream ++ l.rec_ body) l.size (s := s) (k := l.stream.length / 512)
    rw [← hs1] at a1 a2 a3 a4 a5 hpd
    obtain ⟨d1, e1⟩ := s1
    dsimp only at a1 a2 a3 a4 a5 hpd
    subst a1
    obtain ⟨ew, ed, eok, _⟩ := app_old (s := s) h1 h2 hx hs1.symm
    obtain ⟨e3, e4⟩ := eok rfl
    have hnod := h.nodup
    rw [List.map_append, List.nodup_append] at hnod
    have hAx : ∀ y ∈ A, y.i ≠ x.i := fun y hy e => hnod.2.2 y.i (List.mem_map_of_mem hy) t.i (by simp) (by omega)
    have hfar : ∀ i j : Nat, i ≠ x.i → j < l.size → d1.view (l.place i + (j : Int)) = s.view (l.place i + (j : Int)) := fun i j hi hj => a4 _ (fun j' _ hj' => place_ne hi hj (by omega))
    refine ⟨ew, by rw [e4, hseq], by rw [e3]; exact hseq, ?_, by simp, by rw [ed]; have := h.pl.size; omega⟩
    rw [ed, e3]
    refine ⟨?_, ?_, ?_, ?_, ?_, ?_, ?_, ?_, ?_, ?_, ?_⟩
    · have hp := h.pl.recount (live' := Wl.bump l.live) (bump_en _)
      exact ⟨hp.n2, hp.n, hp.s1, hp.size, hp.place, hp.nodup, hp.lt, m64_lt _, hp.synced, hlen, fun _ => hp.cur hst0⟩
    · show (Wl.bump l.live).map _ = _
      rw [bump_en, h.en]
      simp
    · show linkI 1 _ (l.seq + 1)
      rw [hseq]
      exact hA.join ⟨t1, by simp, by show m + (t.bs ++ [body]).length = _; rw [List.length_append]; simp; omega⟩
    · show l.seq ≤ 1000000
      omega
    · intro y hy b hb'
      rcases List.mem_append.1 hy with hy | hy
      · exact h.small y (by simp [hy]) b hb'
      · simp at hy
        subst hy
        have hb' : b ∈ t.bs ++ [body] := hb'
        rcases List.mem_append.1 hb' with hb' | hb'
        · exact h.small t (by simp) b hb'
        · simp at hb'
          subst hb'
          exact hb
    · intro y hy
      rcases List.mem_append.1 hy with hy | hy
      · exact h.fits y (by simp [hy])
      · simp at hy
        subst hy
        rw [hC]
        exact hlen
    · intro y hy j hj
      rcases List.mem_append.1 hy with hy | hy
      · exact (hfar y.i j (hAx y hy) hj).trans (h.cells y (by simp [hy]) j hj)
      · simp at hy
        subst hy
        rw [hC]
        show d1.view (l.place t.i + (j : Int)) = _
        rw [← hxt.1]
        have hold := h.cells t (by simp) j hj
        rw [← hxt.1, ← hstr] at hold
        by_cases hjk : l.stream.length / 512 ≤ j
        · by_cases hjl : 512 * j < (l.stream ++ l.rec_ body).length
          · rw [a5 j hjk hjl]
            unfold secOf
            rw [if_pos hjl]
          · rw [a4 _ (fun j' _ hj' e => by omega), hold]
            unfold secOf
            rw [if_neg hjl, if_neg (by rw [List.length_append] at hjl; omega)]
        · rw [a4 _ (fun j' hj' _ e => by omega), hold]
          exact (secOf_append (by omega)).symm
    · intro i hi hn j hj
      have hix : i ≠ x.i := fun e => hn { t with bs := t.bs ++ [body] } (by simp) (by show t.i = i; omega)
      refine (hfar i j hix hj).trans (h.free i hi (fun y hy => ?_) j hj)
      rcases List.mem_append.1 hy with hy | hy
      · exact hn y (by simp [hy])
      · simp at hy
        subst hy
        omega
    · show l.stream ++ l.rec_ body = _
      rw [List.getLast?_concat]
      exact hC.symm
    · show l.at_ + l.n * l.size ≤ d1.size
      rw [a2]
      exact h.disk
    · rw [a3, a2]
      exact h.limit

theorem app_keeps (l : Wl) (body : List UInt8) (s : Dk) : (l.app body s).at_ = l.at_ ∧ (l.app body s).n = l.n ∧ (l.app body s).size = l.size := by
  have hg : (l.grown body).at_ = l.at_ ∧ (l.grown body).n = l.n ∧ (l.grown body).size = l.size := by
    unfold Wl.grown
    split <;> exact ⟨rfl, rfl, rfl⟩
  unfold Wl.app
  split
  · exact ⟨rfl, rfl, rfl⟩
  · split
    · exact hg
    · split <;> exact ⟨rfl, rfl, rfl⟩
theorem look_empty {l : Wl} {m : Secs} (h : ∀ i, m i = none) (i : Nat) : l.look m i = none := by
  unfold Wl.look
  have : segB m l.size (l.place i) = [] := by
    cases l.size with
    | zero => rfl
    | succ k => exact segB_none1 (h _)
  rw [this]
  rfl
theorem pick_empty {l : Wl} {m : Secs} (h : ∀ i, m i = none) (fr : Nat) : ∀ k, l.pick m fr k = (-1, 0)
  | 0 => rfl
  | k + 1 => by
    show pick1 (l.look m k) fr k (l.pick m fr k) = _
    rw [look_empty h, pick_empty h fr k]
    rfl
theorem found_empty {l : Wl} {m : Secs} (h : ∀ i, m i = none) (fr : Nat) : l.found m fr = ⟨[], fr, [], -1⟩ := by
  have hb : l.begin m fr = ⟨[], fr, [], -1⟩ := by unfold Wl.begin; rw [pick_empty h]
  unfold Wl.found
  rw [hb]
  exact Wl.chain_stop _ _ _ (by show (-1 : Int) < 0; omega) _
theorem freeN_empty {s : Dk} (h : ∀ i, s.view i = none) (p : Int) : ∀ k, freeN s p k = s
  | 0 => rfl
  | k + 1 => by
    unfold freeN
    rw [freeN_empty h p k]
    unfold Dk.free
    rw [if_pos (h _)]
theorem freeAll_empty {l : Wl} {s : Dk} (h : ∀ i, s.view i = none) (live : List Sg) : ∀ k, l.freeAll live s k = s
  | 0 => rfl
  | k + 1 => by
    unfold Wl.freeAll
    rw [freeAll_empty h live k]
    split
    · rfl
    · exact freeN_empty h _ _
theorem open_empty {s : Dk} (h : ∀ i, s.view i = none) (at_ n size fr : Nat) : openD s at_ n size fr = s.sync ∧ openW s at_ n size fr = ⟨at_, n, size, [], [], fr, fr⟩ ∧ openR s at_ n size fr = [] := by
  refine ⟨?_, ?_, ?_⟩
  · unfold openD; rw [freeAll_empty h]
  · unfold openW; rw [found_empty h]
  · unfold openR; rw [found_empty h]
theorem seg_empty {m : Secs} (h : ∀ i, m i = none) (k : Nat) (p : Int) : (segB m k p).length ≤ 5000 := by
  cases k with
  | zero => simp [segB]
  | succ k => rw [segB_none1 (h _)]; simp
theorem Full.empty {s : Dk} (h : ∀ i, s.view i = none) {at_ n size : Nat} (h1 : 2 ≤ n) (h2 : n ≤ 64) (h3 : 1 ≤ size) (h4 : size ≤ 64) (h5 : at_ + n * size ≤ 65536) (h6 : at_ + n * size ≤ s.size) (h7 : s.limit = (s.size : Int)) : Full s ⟨at_, n, size, [], [], 0, 0⟩ [] :=
  ⟨⟨h1, h2, h3, h4, h5, List.nodup_nil, (fun _ h => by cases h), (by show 0 < 18446744073709551616; decide), (by show 0 < 18446744073709551616; decide), Nat.zero_le _, fun x => absurd rfl x⟩, rfl, rfl, Nat.zero_le _, (fun _ h => by cases h), (fun _ h => by cases h), (fun _ h => by cases h), fun i _ _ j _ => h _, rfl, h6, h7⟩

end Go.Proofs.YtobmdmbjmjdfjaaGreatDoor
