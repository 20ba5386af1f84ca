/-
  A meta page: plain functions, no program.
-/
import Derived.Test.YtngclmjefadokaaDoorJDisk
import Derived.Test.YtngclmjefadokaaDoorJRec
namespace Go.Proofs.YtngclmjefadokaaDoor
open Go Go.RowKit

/-- a record that fills its sector -/
def msec (v : Option (List UInt8)) : Option (Nat × List UInt8) := match v with
  | none => none
  | some b => match rget b with
    | some (q, x, k) => if k = b.length ∧ 1 ≤ q then some (q, x) else none
    | none => none
/-- a meta page: the sector that is written next, the number and the body that were written last, and why there is none -/
structure Mo where
  nx : Nat
  q : Nat
  b : List UInt8
  e : Nat
def mo0 : Mo := ⟨0, 0, [], 121⟩
def mpick (i : Nat) (v : Option (Nat × List UInt8)) (o : Mo) : Mo := match v with
  | some (q, x) => if o.q < q then ⟨1 - i, q, x, 0⟩ else o
  | none => o
def mopen (v : Secs) (a : Int) : Mo := mpick 1 (msec (v (a + 1))) (mpick 0 (msec (v a)) mo0)
/-- the disk behind the first k steps of writing r to sector i -/
def mdisk (s : Dk) (i : Int) (r : List UInt8) (k : Int) : Dk :=
  if k < 1 then s else if k < 2 then s.free i else if k < 3 then (s.free i).sync else if k < 4 then (s.free i).sync.write i r
  else if (s.free i).sync.why i r = 0 then ((s.free i).sync.write i r).sync else (s.free i).sync.write i r
def mwhy (s : Dk) (i : Int) (r : List UInt8) (k : Int) : Nat := if k < 3 then 0 else (s.free i).sync.why i r
def mdone (s : Dk) (i : Int) (r : List UInt8) (k : Int) : Bool := decide (4 ≤ k) && decide ((s.free i).sync.why i r = 0)

theorem msec_some {v : Option (List UInt8)} {q : Nat} {x : List UInt8} (h : msec v = some (q, x)) : ∃ b, v = some b ∧ rget b = some (q, x, b.length) ∧ 1 ≤ q ∧ q < 18446744073709551616 := by
  unfold msec at h
  cases v with
  | none => cases h
  | some b =>
    dsimp only at h
    cases hg : rget b with
    | none => rw [hg] at h; cases h
    | some y =>
      obtain ⟨q', x', k⟩ := y
      rw [hg] at h
      dsimp only at h
      by_cases hc : k = b.length ∧ 1 ≤ q'
      · rw [if_pos hc] at h
        injection h with h
        injection h with h1 h2
        subst h1 h2
        exact ⟨b, rfl, by rw [hc.1] at hg; exact hg, hc.2, (rget_some hg).1⟩
      · rw [if_neg hc] at h; cases h
theorem msec_renc {q : Nat} {b : List UInt8} (h1 : 1 ≤ q) (hq : q < 18446744073709551616) (hb : b.length ≤ 32768) : msec (some (renc q b)) = some (q, b) := by
  have := rget_renc hq hb []
  rw [List.append_nil] at this
  unfold msec
  dsimp only
  rw [this]
  dsimp only
  rw [if_pos ⟨rfl, h1⟩]
/-- what a crash leaves of a record over nothing -/
theorem msec_torn {q : Nat} {b : List UInt8} (h1 : 1 ≤ q) (hq : q < 18446744073709551616) (hb : b.length ≤ 32768) (n : Int) : msec (some (torn (renc q b) none n)) = some (q, b) ∨ msec (some (torn (renc q b) none n)) = none := by
  unfold torn
  split
  case isTrue => exact .inl (msec_renc h1 hq hb)
  case isFalse h =>
    right
    have hz : ((none : Option (List UInt8)).getD []).drop n.toNat = [] := by simp
    rw [hz, List.append_nil]
    have := rget_short (l := (renc q b).take n.toNat) (t := (renc q b).drop n.toNat) (List.take_append_drop ..) hb (by rw [List.length_drop]; have := renc_pos q b; omega)
    unfold msec
    dsimp only
    rw [this]

/-- what is kept: the disk's sectors are m, with nothing else -/
structure MOk (v : Secs) (a : Int) (m : Mo) : Prop where
  nx : m.nx ≤ 1
  q : m.q < 18446744073709551616
  other : ∀ q x, msec (v (a + (m.nx : Int))) = some (q, x) → q < m.q
  is : m.q = 0 ∧ m = mo0 ∧ msec (v (a + 1)) = none ∨ 1 ≤ m.q ∧ m.e = 0 ∧ msec (v (a + ((1 - m.nx : Nat) : Int))) = some (m.q, m.b)
theorem MOk.opened {v : Secs} {a : Int} {m : Mo} (h : MOk v a m) : mopen v a = m := by
  obtain ⟨nx, q, b, e⟩ := m
  obtain ⟨hn, hq, ho, hi⟩ := h
  dsimp only at *
  unfold mopen
  rcases hi with ⟨h0, hm, h1⟩ | ⟨h0, he, h1⟩
  · subst h0
    rw [h1, hm]
    have h2 : msec (v a) = none := by
      unfold mo0 at hm
      injection hm with hm _ _ _
      subst hm
      cases hs : msec (v (a + ((0 : Nat) : Int))) with
      | none => simpa using hs
      | some x => have := ho x.1 x.2 hs; omega
    rw [h2]
    rfl
  · subst he
    have hc : nx = 0 ∨ nx = 1 := by omega
    rcases hc with rfl | rfl
    · have h2 : msec (v (a + 1)) = some (q, b) := by simpa using h1
      rw [h2]
      cases hs : msec (v a) with
      | none =>
        show (if 0 < q then _ else _) = _
        rw [if_pos (by omega)]
      | some x =>
        obtain ⟨q', x⟩ := x
        have h3 := ho q' x (by simpa using hs)
        obtain ⟨_, _, _, h4, _⟩ := msec_some hs
        have e1 : mpick 0 (some (q', x)) mo0 = ⟨1, q', x, 0⟩ := if_pos (show 0 < q' by omega)
        rw [e1]
        show (if q' < q then _ else _) = _
        rw [if_pos h3]
    · have h2 : msec (v a) = some (q, b) := by simpa using h1
      rw [h2]
      have e1 : mpick 0 (some (q, b)) mo0 = ⟨1, q, b, 0⟩ := if_pos (show 0 < q by omega)
      rw [e1]
      cases hs : msec (v (a + 1)) with
      | none => rfl
      | some x =>
        obtain ⟨q', x⟩ := x
        have h3 := ho q' x (by simpa using hs)
        show (if q < q' then _ else _) = _
        rw [if_neg (by omega)]
/-- the page behind a write -/
def Mo.next (m : Mo) (b : List UInt8) : Mo := ⟨1 - m.nx, m.q + 1, b, 0⟩
theorem MOk.less {v v' : Secs} {a : Int} {m : Mo} (h : MOk v a m) (hs : msec (v' (a + (m.nx : Int))) = none) (hk : ∀ i, i ≠ a + (m.nx : Int) → v' i = v i) : MOk v' a m := by
  obtain ⟨nx, q, b, e⟩ := m
  obtain ⟨hn, hq, ho, hi⟩ := h
  dsimp only at *
  refine ⟨hn, hq, fun q' x hx => (by rw [hs] at hx; cases hx), ?_⟩
  dsimp only
  rcases hi with ⟨h0, hm, h1⟩ | ⟨h0, he, h1⟩
  · refine .inl ⟨h0, hm, ?_⟩
    unfold mo0 at hm
    injection hm with hm _ _ _
    subst hm
    rw [hk (a + 1) (by omega), h1]
  · exact .inr ⟨h0, he, by rw [hk _ (by omega), h1]⟩
theorem MOk.more {v v' : Secs} {a : Int} {m : Mo} {b : List UInt8} (h : MOk v a m) (hq : m.q + 1 < 18446744073709551616) (hs : msec (v' (a + (m.nx : Int))) = some (m.q + 1, b)) (hk : ∀ i, i ≠ a + (m.nx : Int) → v' i = v i) : MOk v' a (m.next b) := by
  obtain ⟨nx, q, b', e⟩ := m
  obtain ⟨hn, _, ho, hi⟩ := h
  unfold Mo.next
  dsimp only at *
  refine ⟨by show 1 - nx ≤ 1; omega, hq, fun q' x hx => ?_, .inr ⟨by show 1 ≤ q + 1; omega, rfl, ?_⟩⟩
  · show q' < q + 1
    dsimp only at hx
    rw [hk _ (by omega)] at hx
    rcases hi with ⟨h0, hm, h1⟩ | ⟨h0, he, h1⟩
    · unfold mo0 at hm
      injection hm with hm _ _ _
      subst hm
      rw [show ((1 - 0 : Nat) : Int) = 1 from rfl, h1] at hx
      cases hx
    · rw [h1] at hx
      injection hx with hx
      injection hx with hx _
      omega
  · show msec (v' (a + ((1 - (1 - nx) : Nat) : Int))) = some (q + 1, b)
    rw [show 1 - (1 - nx) = nx by omega]
    exact hs

/-- a disk that has nothing but a meta page at a: nothing is pending -/
structure MDk (n : Nat) (s : Dk) (a : Int) : Prop where
  size : s.size = n
  limit : s.limit = (n : Int)
  pend : s.pend = []
  ground : s.ground = s.view
  rest : ∀ i, i ≠ a → i ≠ a + 1 → s.view i = none
  len : ∀ i b, s.view i = some b → b.length ≤ 512
theorem cnt_two {n : Nat} {v : Secs} {a : Int} (h : ∀ i, i ≠ a → i ≠ a + 1 → v i = none) : cnt n v ≤ 2 := by
  unfold cnt
  rw [List.countP_eq_length_filter]
  have hsub : ((List.range n).filter fun (i : Nat) => (v (i : Int)).isSome).Sublist (List.range n) := List.filter_sublist
  have hnd := List.Sublist.nodup hsub List.nodup_range
  have hm : ∀ i ∈ (List.range n).filter fun (i : Nat) => (v (i : Int)).isSome, i = a.toNat ∨ i = (a + 1).toNat := by
    intro i hi
    rw [List.mem_filter] at hi
    by_cases h1 : (i : Int) = a
    · left; omega
    · by_cases h2 : (i : Int) = a + 1
      · right; omega
      · have := h i h1 h2
        rw [this] at hi
        simp at hi
  generalize (List.range n).filter (fun (i : Nat) => (v (i : Int)).isSome) = l at *
  match l, hnd, hm with
  | [], _, _ => exact Nat.zero_le _
  | [_], _, _ => exact Nat.le_succ _
  | [_, _], _, _ => exact Nat.le_refl _
  | x :: y :: z :: l, hnd, hm =>
    exfalso
    have hx := hm x (by simp)
    have hy := hm y (by simp)
    have hz := hm z (by simp)
    simp only [List.nodup_cons, List.mem_cons, not_or] at hnd
    omega
theorem MDk.used {n : Nat} {s : Dk} {a : Int} (h : MDk n s a) : s.used ≤ 2 := cnt_two h.rest

section
variable {n : Nat} {s : Dk} {a i : Int} {m : Mo} {b r : List UInt8}
theorem MDk.free_view (h : MDk n s a) (_hi : i = a ∨ i = a + 1) : (s.free i).view = upd s.view i none ∧ (s.free i).ground = s.view ∧ (s.free i).size = n ∧ (s.free i).limit = (n : Int) := by
  unfold Dk.free
  by_cases hv : s.view i = none
  · rw [if_pos hv]
    refine ⟨?_, h.ground, h.size, h.limit⟩
    funext j
    unfold upd
    by_cases hj : j = i
    · rw [if_pos hj, hj, hv]
    · rw [if_neg hj]
  · rw [if_neg hv]
    exact ⟨rfl, h.ground, h.size, h.limit⟩
theorem MDk.turned (h : MDk n s a) (hi : i = a ∨ i = a + 1) {x : Option (List UInt8)} (hx : ∀ b, x = some b → b.length ≤ 512) {s' : Dk} (h1 : s'.size = n) (h2 : s'.limit = (n : Int)) (h3 : s'.pend = []) (hv : s'.view = upd s.view i x) (h4 : s'.ground = s'.view) : MDk n s' a := by
  refine ⟨h1, h2, h3, h4, fun j hj1 hj2 => ?_, fun j b hb => ?_⟩
  · rw [hv, upd_other _ _ (by omega), h.rest j hj1 hj2]
  · rw [hv] at hb
    unfold upd at hb
    split at hb
    · exact hx b hb
    · exact h.len j b hb
theorem MDk.freed (h : MDk n s a) (hi : i = a ∨ i = a + 1) : MDk n (s.free i).sync a ∧ (s.free i).sync.view = upd s.view i none := by
  obtain ⟨h1, h2, h3, h4⟩ := h.free_view hi
  exact ⟨h.turned (x := none) hi (fun _ e => by cases e) h3 h4 rfl h1 rfl, h1⟩
theorem MDk.why (h : MDk n s a) (hn : 3 ≤ n) (h0 : 0 ≤ i) (h1 : i < (n : Int)) (hr : r.length ≤ 512) : s.why i r = 0 := by
  have hu := h.used
  exact Dk.why_ok h0 (by rw [h.size]; exact h1) hr (.inr (by rw [h.limit]; omega))
theorem crash_zero (h : s.pend = []) (l : List (Int × Int)) : (s.crash l).view = s.ground := by
  unfold Dk.crash
  rw [h]
  rfl
theorem crash_one {o : POp} (h : s.pend = [o]) (l : List (Int × Int)) : (s.crash l).view = s.ground ∨ ∃ x, (s.crash l).view = applyOp s.ground o x := by
  unfold Dk.crash
  rw [h]
  show (match survive l 0 with | some n => applyOp s.ground o n | none => s.ground) = _ ∨ ∃ x, (match survive l 0 with | some n => applyOp s.ground o n | none => s.ground) = _
  cases survive l 0 with
  | none => exact .inl rfl
  | some x => exact .inr ⟨x, rfl⟩
theorem MDk.same (h : MDk n s a) {s' : Dk} (h1 : s'.size = n) (h2 : s'.limit = (n : Int)) (h3 : s'.pend = []) (hv : s'.view = s.view) (h4 : s'.ground = s'.view) : MDk n s' a := ⟨h1, h2, h3, h4, hv ▸ h.rest, hv ▸ h.len⟩
theorem MDk.steps (h : MDk n s a) (hm : MOk s.view a m) (hn : 3 ≤ n) (h0 : 0 ≤ a) (h1 : a + 1 < (n : Int)) (hq : m.q + 1 < 18446744073709551616) (hb : b.length ≤ 480) (hi : i = a + (m.nx : Int)) :
    (s.free i).sync.why i (renc (m.q + 1) b) = 0 ∧ MDk n ((s.free i).sync.write i (renc (m.q + 1) b)).sync a ∧ MOk ((s.free i).sync.write i (renc (m.q + 1) b)).sync.view a (m.next b) := by
  have hx := hm.nx
  have hi2 : i = a ∨ i = a + 1 := by omega
  have hl := renc_le (m.q + 1) b
  obtain ⟨hf, hv⟩ := h.freed hi2
  have hw := hf.why (i := i) (r := renc (m.q + 1) b) hn (by omega) (by omega) (by omega)
  have hs := Dk.write_ok hw
  have hv2 : ((s.free i).sync.write i (renc (m.q + 1) b)).sync.view = upd s.view i (some (renc (m.q + 1) b)) := by
    rw [hs]
    show upd (s.free i).sync.view i _ = _
    rw [hv]
    funext j
    unfold upd
    by_cases hj : j = i
    · rw [if_pos hj, if_pos hj]
    · rw [if_neg hj, if_neg hj, if_neg hj]
  refine ⟨hw, ?_, ?_⟩
  · refine h.turned (x := some (renc (m.q + 1) b)) hi2 (fun b' e => ?_) ?_ ?_ rfl hv2 rfl
    · injection e with e
      subst e
      omega
    · rw [hs]; exact hf.size
    · rw [hs]; exact hf.limit
  · refine hm.more hq ?_ fun j hj => ?_
    · rw [hv2, ← hi, upd_same]
      exact msec_renc (by omega) hq (by omega)
    · rw [hv2, upd_other _ _ (by omega)]
/-- THE OLD OR THE NEW -/
theorem MDk.act (h : MDk n s a) (hm : MOk s.view a m) (hn : 3 ≤ n) (h0 : 0 ≤ a) (h1 : a + 1 < (n : Int)) (hq : m.q + 1 < 18446744073709551616) (hb : b.length ≤ 480) (k : Int) (l : List (Int × Int)) :
    MDk n ((mdisk s (a + (m.nx : Int)) (renc (m.q + 1) b) k).crash l) a ∧
      (k < 4 ∧ MOk ((mdisk s (a + (m.nx : Int)) (renc (m.q + 1) b) k).crash l).view a m ∨ 3 ≤ k ∧ MOk ((mdisk s (a + (m.nx : Int)) (renc (m.q + 1) b) k).crash l).view a (m.next b)) := by
  obtain ⟨i, hi⟩ : ∃ i, i = a + (m.nx : Int) := ⟨_, rfl⟩
  rw [← hi]
  have hx := hm.nx
  have hi2 : i = a ∨ i = a + 1 := by omega
  have hl := renc_le (m.q + 1) b
  obtain ⟨hf, hv⟩ := h.freed hi2
  obtain ⟨hw, hd4, hm4⟩ := h.steps hm hn h0 h1 hq hb hi
  have hok0 : MOk (upd s.view i none) a m := hm.less (by rw [← hi, upd_same]; rfl) fun j hj => upd_other _ _ (by omega)
  unfold mdisk
  by_cases k1 : k < 1
  · rw [if_pos k1]
    have hc := crash_zero h.pend l
    rw [h.ground] at hc
    exact ⟨h.same h.size h.limit rfl hc rfl, .inl ⟨by omega, by rw [hc]; exact hm⟩⟩
  rw [if_neg k1]
  by_cases k2 : k < 2
  · rw [if_pos k2]
    by_cases hvi : s.view i = none
    · have e : s.free i = s := if_pos hvi
      rw [e]
      have hc := crash_zero h.pend l
      rw [h.ground] at hc
      exact ⟨h.same h.size h.limit rfl hc rfl, .inl ⟨by omega, by rw [hc]; exact hm⟩⟩
    · have e : s.free i = { s with view := upd s.view i none, pend := s.pend ++ [⟨i, none⟩] } := if_neg hvi
      have hp : (s.free i).pend = [⟨i, none⟩] := by rw [e]; show s.pend ++ _ = _; rw [h.pend]; rfl
      have hg : (s.free i).ground = s.view := by rw [e]; exact h.ground
      have hsz : (s.free i).size = n := by rw [e]; exact h.size
      have hlm : (s.free i).limit = (n : Int) := by rw [e]; exact h.limit
      rcases crash_one hp l with hc | ⟨x, hc⟩
      · rw [hg] at hc
        exact ⟨h.same hsz hlm rfl hc rfl, .inl ⟨by omega, by rw [hc]; exact hm⟩⟩
      · rw [hg] at hc
        have hc' : ((s.free i).crash l).view = upd s.view i none := hc
        exact ⟨h.turned (x := none) hi2 (fun _ e => by cases e) hsz hlm rfl hc' rfl, .inl ⟨by omega, by rw [hc']; exact hok0⟩⟩
  rw [if_neg k2]
  by_cases k3 : k < 3
  · rw [if_pos k3]
    have hc := crash_zero hf.pend l
    rw [hf.ground, hv] at hc
    exact ⟨h.turned (x := none) hi2 (fun _ e => by cases e) hf.size hf.limit rfl hc rfl, .inl ⟨by omega, by rw [hc]; exact hok0⟩⟩
  rw [if_neg k3]
  by_cases k4 : k < 4
  · rw [if_pos k4]
    have hs := Dk.write_ok hw
    have hp : ((s.free i).sync.write i (renc (m.q + 1) b)).pend = [⟨i, some (renc (m.q + 1) b)⟩] := by rw [hs]; rfl
    have hg : ((s.free i).sync.write i (renc (m.q + 1) b)).ground = upd s.view i none := by rw [hs]; exact hf.ground.trans hv
    have hsz : ((s.free i).sync.write i (renc (m.q + 1) b)).size = n := by rw [hs]; exact hf.size
    have hlm : ((s.free i).sync.write i (renc (m.q + 1) b)).limit = (n : Int) := by rw [hs]; exact hf.limit
    rcases crash_one hp l with hc | ⟨x, hc⟩
    · rw [hg] at hc
      exact ⟨h.turned (x := none) hi2 (fun _ e => by cases e) hsz hlm rfl hc rfl, .inl ⟨by omega, by rw [hc]; exact hok0⟩⟩
    · rw [hg] at hc
      have hc' : (((s.free i).sync.write i (renc (m.q + 1) b)).crash l).view = upd s.view i (some (torn (renc (m.q + 1) b) none x)) := by
        rw [hc]
        unfold applyOp
        dsimp only
        rw [upd_same]
        funext j
        unfold upd
        by_cases hj : j = i
        · rw [if_pos hj, if_pos hj]; rfl
        · rw [if_neg hj, if_neg hj, if_neg hj]
      have hlen : (torn (renc (m.q + 1) b) none x).length ≤ 512 := by
        unfold torn
        split
        · omega
        · rw [List.length_append, List.length_take, List.length_drop]
          show _ + (0 - _) ≤ 512
          omega
      refine ⟨h.turned (x := some (torn (renc (m.q + 1) b) none x)) hi2 (fun b' e => by injection e with e; subst e; exact hlen) hsz hlm rfl hc' rfl, ?_⟩
      rcases msec_torn (q := m.q + 1) (b := b) (by omega) hq (by omega) x with ht | ht
      · exact .inr ⟨by omega, by rw [hc']; exact hm.more hq (by rw [← hi, upd_same]; exact ht) fun j hj => upd_other _ _ (by omega)⟩
      · exact .inl ⟨k4, by rw [hc']; exact hm.less (by rw [← hi, upd_same]; exact ht) fun j hj => upd_other _ _ (by omega)⟩
  rw [if_neg k4, if_pos hw]
  have hc := crash_zero hd4.pend l
  rw [hd4.ground] at hc
  exact ⟨hd4.same hd4.size hd4.limit rfl hc rfl, .inr ⟨by omega, by rw [hc]; exact hm4⟩⟩
end
theorem MDk.new {n : Nat} (a : Int) : MDk n (Dk.new n) a := ⟨rfl, rfl, rfl, rfl, fun _ _ _ => rfl, fun _ _ h => by cases h⟩
theorem MOk.new {n : Nat} (a : Int) : MOk (Dk.new n).view a mo0 := ⟨by decide, by decide, fun _ _ h => (by cases h), .inl ⟨rfl, rfl, rfl⟩⟩
theorem MDk.crash {n : Nat} {s : Dk} {a : Int} (h : MDk n s a) (l : List (Int × Int)) : MDk n (s.crash l) a ∧ (s.crash l).view = s.view := by
  have hc := crash_zero h.pend l
  rw [h.ground] at hc
  exact ⟨h.same h.size h.limit rfl hc rfl, hc⟩

end Go.Proofs.YtngclmjefadokaaDoor
