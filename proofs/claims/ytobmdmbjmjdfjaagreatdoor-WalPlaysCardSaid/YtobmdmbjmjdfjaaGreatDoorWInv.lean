/-
  What holds of a log on both sides, whatever acts: plain. Its segments follow each other, up to its last number.
-/
import Derived.Test.YtobmdmbjmjdfjaaGreatDoorWTh
import Derived.Test.YtobmdmbjmjdfjaaGreatDoorWApp2
import Derived.Test.YtobmdmbjmjdfjaaGreatDoorWTrunc
namespace Go.Proofs.YtobmdmbjmjdfjaaGreatDoor
open Go Go.RowKit

def Con : Nat → List Sg → Nat → Prop
  | q, [], e => q = e
  | q, x :: t, e => x.base = q ∧ 1 ≤ q + x.count ∧ Con (q + x.count) t e
theorem Con.le : ∀ {L : List Sg} {q e : Nat}, Con q L e → q ≤ e
  | [], _, _, h => Nat.le_of_eq h
  | _ :: _, _, _, h => Nat.le_trans (Nat.le_add_right _ _) h.2.2.le
theorem Con.snoc : ∀ {L : List Sg} {q e : Nat} {x : Sg}, Con q L e → x.base = e → 1 ≤ e + x.count → Con q (L ++ [x]) (e + x.count)
  | [], q, e, _, h, hb, h1 => by
    have h' : q = e := h
    subst h'
    exact ⟨hb, h1, rfl⟩
  | _ :: _, _, _, _, h, hb, h1 => ⟨h.1, h.2.1, h.2.2.snoc hb h1⟩
theorem Con.unsnoc : ∀ {L : List Sg} {q e : Nat} {x : Sg}, Con q (L ++ [x]) e → Con q L x.base ∧ e = x.base + x.count ∧ 1 ≤ e
  | [], q, e, x, h => by
    obtain ⟨h1, h2, h3⟩ := h
    have h4 : q + x.count = e := h3
    exact ⟨h1.symm, by omega, by omega⟩
  | _ :: _, _, _, _, h => by
    obtain ⟨h1, h2, h3⟩ := h
    obtain ⟨a, b, c⟩ := Con.unsnoc h3
    exact ⟨⟨h1, h2, a⟩, b, c⟩
theorem Con.mem : ∀ {L : List Sg} {q e : Nat}, Con q L e → ∀ x ∈ L, q ≤ x.base ∧ 1 ≤ x.base + x.count ∧ x.base + x.count ≤ e
  | [], _, _, _, _, hx => by cases hx
  | _ :: _, _, _, h, x, hx => by
    obtain ⟨h1, h2, h3⟩ := h
    rcases List.mem_cons.1 hx with rfl | hx
    · exact ⟨by omega, by omega, by have := h3.le; omega⟩
    · obtain ⟨a, b, c⟩ := h3.mem x hx
      exact ⟨by omega, b, c⟩
theorem Con.nexts : ∀ {L : List Sg} {q e : Nat}, Con q L e → ∀ i x y, L[i]? = some x → L[i + 1]? = some y → y.base = x.base + x.count
  | [], _, _, _, i, x, y, hx, _ => by simp at hx
  | z :: t, _, _, h, 0, x, y, hx, hy => by
    obtain ⟨h1, h2, h3⟩ := h
    obtain rfl : z = x := by simpa using hx
    rcases t with _ | ⟨u, t⟩
    · simp at hy
    · obtain rfl : u = y := by simpa using hy
      rw [h3.1, h1]
  | _ :: _, _, _, h, i + 1, x, y, hx, hy => h.2.2.nexts i x y (by simpa using hx) (by simpa using hy)
theorem Con.lasts {L : List Sg} {q e : Nat} (h : Con q L e) {x : Sg} (hx : L.getLast? = some x) : e = x.base + x.count := by
  obtain ⟨t, rfl⟩ : ∃ t, L = t ++ [x] := List.getLast?_eq_some_iff.1 hx
  exact h.unsnoc.2.1
theorem Con.pos : ∀ {L : List Sg} {q e : Nat}, Con q L e → Con q (L.filter fun x => decide (0 < x.count)) e
  | [], _, _, h => h
  | x :: _, q, _, h => by
    obtain ⟨h1, h2, h3⟩ := h
    rw [List.filter_cons]
    by_cases hx : 0 < x.count
    · rw [if_pos (by simpa using hx)]
      exact ⟨h1, h2, h3.pos⟩
    · rw [if_neg (by simpa using hx)]
      have := h3.pos
      rwa [show q + x.count = q by omega] at this
def st8 (seq : Nat) (x : Sg) : Bool := decide (seq < x.base + x.count - 1) && decide (0 < x.count)
theorem Con.all : ∀ {L : List Sg} {q e seq : Nat}, Con q L e → seq < q → L.filter (st8 seq) = L.filter fun x => decide (0 < x.count)
  | [], _, _, _, _, _ => rfl
  | x :: _, _, _, seq, h, c => by
    obtain ⟨h1, h2, h3⟩ := h
    have ih := h3.all (seq := seq) (by omega)
    rw [List.filter_cons, List.filter_cons, ih]
    unfold st8
    by_cases hx : 0 < x.count
    · rw [if_pos (by simp; omega), if_pos (by simpa using hx)]
    · rw [if_neg (by simp; omega), if_neg (by simpa using hx)]
theorem Con.filt : ∀ {L : List Sg} {q e : Nat} (seq : Nat), Con q L e → ∃ q', Con q' (L.filter (st8 seq)) e
  | [], q, _, _, h => ⟨q, h⟩
  | x :: _, q, _, seq, h => by
    obtain ⟨h1, h2, h3⟩ := h
    rw [List.filter_cons]
    by_cases hx : st8 seq x = true
    · rw [if_pos hx]
      unfold st8 at hx
      simp at hx
      have ha := h3.all (seq := seq) (by omega)
      have hp := h3.pos
      rw [← ha] at hp
      exact ⟨q, h1, h2, hp⟩
    · rw [if_neg hx]
      exact h3.filt seq

structure LI (l : Wl) (B : Nat) : Prop where
  con : ∃ q, Con q l.live (l.last + 1)
  last : l.last ≤ B
theorem LI.lk {l : Wl} {B : Nat} (h : LI l B) (hB : B < 9223372036854775806) : Lk l := by
  obtain ⟨q, hq⟩ := h.con
  have hl := h.last
  exact ⟨hq.nexts, fun x hx => hq.lasts hx, fun x hx => by obtain ⟨_, b, c⟩ := hq.mem x hx; exact ⟨b, by omega⟩⟩
theorem LI.mono {l : Wl} {B B' : Nat} (h : LI l B) (hB : B ≤ B') : LI l B' := ⟨h.con, Nat.le_trans h.last hB⟩
theorem LI.ends {l : Wl} {B : Nat} (h : LI l B) (hB : B < 9223372036854775806) : ∀ x ∈ l.live, x.base < 18446744073709551616 ∧ x.count < 18446744073709551616 := by
  obtain ⟨q, hq⟩ := h.con
  have hl := h.last
  intro x hx
  obtain ⟨_, b, c⟩ := hq.mem x hx
  omega
theorem LI.sync {l : Wl} {B : Nat} (h : LI l B) : LI { l with synced := l.last } B := ⟨h.con, h.last⟩
theorem LI.trunc {l : Wl} {B : Nat} (h : LI l B) (hB : B < 9223372036854775806) (seq : Nat) : LI (l.trunc seq) B := by
  obtain ⟨q, hq⟩ := h.con
  unfold Wl.trunc
  split
  · exact h
  · have e : l.live.filter (·.stays seq) = l.live.filter (st8 seq) := List.filter_congr fun x hx => by
      rw [(h.lk hB).stays hx]
      obtain ⟨_, b, c⟩ := hq.mem x hx
      unfold st8
      congr 1
      exact decide_eq_decide.2 (by omega)
    obtain ⟨q', hq'⟩ := hq.filt seq
    exact ⟨⟨q', by show Con q' (l.live.filter (·.stays seq)) (l.last + 1); rw [e]; exact hq'⟩, h.last⟩
theorem LI.app {l : Wl} {B : Nat} (h : LI l B) (hB : B < 9223372036854775806) (hc : l.stream ≠ [] → l.live ≠ []) (body : List UInt8) (s : Dk) : LI (l.app body s) (B + 1) := by
  obtain ⟨q, hq⟩ := h.con
  have hl := h.last
  have hseq : l.seq = l.last + 1 := by unfold Wl.seq m64; omega
  by_cases hg : l.long body = true
  · rw [(app_long (s := s) hg).2.2.1]; exact h.mono (Nat.le_succ _)
  by_cases hw : l.wants body = true
  · by_cases hf : l.fresh < 0
    · rw [(app_full (s := s) hg hw hf).2.2.1]; exact h.mono (Nat.le_succ _)
    · obtain ⟨_, h1, h2⟩ := app_new (s := s) hg hw hf (s1 := _) (e1 := _) rfl
      by_cases he : (wrSt s (l.place l.fresh.toNat) (l.head ++ l.rec_ body) l.size 0).2 = 0
      · rw [(h1 he).2.1]
        exact ⟨⟨q, by
          show Con q (l.live ++ [(⟨l.fresh.toNat, l.seq, m64 1⟩ : Sg)]) (l.seq + 1)
          have := hq.snoc (x := ⟨l.fresh.toNat, l.seq, m64 1⟩) hseq (by show 1 ≤ l.last + 1 + m64 1; omega)
          rw [hseq]
          rw [hseq] at this
          exact this⟩, by show l.seq ≤ B + 1; omega⟩
      · rw [(h2 he).2.1]
        exact ⟨⟨q, hq⟩, Nat.le_succ_of_le hl⟩
  · have hne : l.live ≠ [] := hc (fun e => hw (by unfold Wl.wants; rw [e]; rfl))
    obtain ⟨t, x, ht⟩ : ∃ t x, l.live = t ++ [x] := ⟨_, _, (List.dropLast_concat_getLast hne).symm⟩
    have hx : l.live.getLast? = some x := by rw [ht]; simp
    obtain ⟨_, _, h1, h2⟩ := app_old (s := s) hg hw hx (s1 := _) (e1 := _) rfl
    by_cases he : (wrSt s (l.place x.i) (l.stream ++ l.rec_ body) l.size (l.stream.length / 512)).2 = 0
    · rw [(h1 he).1]
      rw [ht] at hq
      obtain ⟨a, b, c⟩ := hq.unsnoc
      have hm : m64 (x.count + 1) = x.count + 1 := by unfold m64; omega
      exact ⟨⟨q, by
        show Con q (Wl.bump l.live) (l.seq + 1)
        rw [ht, bump_snoc, hm, hseq, b, Nat.add_assoc]
        exact a.snoc (x := { x with count := x.count + 1 }) rfl (by show 1 ≤ x.base + (x.count + 1); omega)⟩, by show l.seq ≤ B + 1; omega⟩
    · rw [(h2 he).1]
      exact ⟨⟨q, hq⟩, Nat.le_succ_of_le hl⟩

structure CI (l : Wl) (m : Secs) (fr : Nat) (c : Ch) (k : Nat) : Prop where
  con : ∃ q, Con q c.live (c.last + 1)
  lo : fr ≤ c.last
  hi : c.last ≤ fr + 5000 * k
  nil : c.live = [] → c.last = fr
  few : c.out.length ≤ 5000 * k
  next : 0 ≤ c.next → ∃ q rs, l.look m c.next.toNat = some (q, rs) ∧ (c.live = [] ∧ Match fr q rs ∨ c.live ≠ [] ∧ q = m64 (c.last + 1))
theorem look_few {l : Wl} {m : Secs} {i q : Nat} {rs : List Rc} (hs : (segB m l.size (l.place i)).length ≤ 5000) (h : l.look m i = some (q, rs)) : rs.length ≤ 5000 := by
  unfold Wl.look lookB at h
  cases hg : rget (segB m l.size (l.place i)) with
  | none => rw [hg] at h; cases h
  | some y =>
    obtain ⟨q', b, n⟩ := y
    rw [hg] at h
    by_cases hh : b = hdr
    · simp only [if_pos hh] at h
      injection h with h
      injection h with h1 h2
      have := rscan_len (n := 5000) (l := (segB m l.size (l.place i)).drop n) (q := q') (by rw [List.length_drop]; omega)
      rw [h2] at this
      rw [List.length_drop] at this
      omega
    · simp only [if_neg hh] at h
      cases h
theorem CI.begin {l : Wl} {m : Secs} {fr : Nat} : CI l m fr (l.begin m fr) 0 := by
  refine ⟨⟨fr + 1, rfl⟩, Nat.le_refl _, Nat.le_refl _, fun _ => rfl, Nat.le_refl _, fun h => ?_⟩
  rcases pick_spec l m fr l.n with ⟨h1, _⟩ | ⟨i, q, rs, _, h2, h3, h4, _⟩
  · have h' : 0 ≤ (l.pick m fr l.n).1 := h
    omega
  · have e : (l.begin m fr).next = (i : Int) := by show (l.pick m fr l.n).1 = _; rw [h2]
    rw [e]
    exact ⟨q, rs, h3, .inl ⟨rfl, h4⟩⟩
theorem CI.step {l : Wl} {m : Secs} {fr : Nat} {c : Ch} {k : Nat} (h : CI l m fr c k) (h0 : 0 ≤ c.next) (hfr : fr ≤ 4611686018427387904) (hk : k ≤ 100) (hs : ∀ i, (segB m l.size (l.place i)).length ≤ 5000) : CI l m fr (l.chStep m fr c) (k + 1) := by
  obtain ⟨q, rs, ho, hq⟩ := h.next h0
  have hrs := look_few (hs _) ho
  have hlo := h.lo
  have hhi := h.hi
  obtain ⟨q0, hq0⟩ := h.con
  have hb : (((l.look m c.next.toNat).map (·.1)).getD 0) = q := by rw [ho]; rfl
  have hr : (((l.look m c.next.toNat).map (·.2)).getD []) = rs := by rw [ho]; rfl
  have hst : l.chStep m fr c = ⟨c.live ++ [⟨c.next.toNat, q, rs.length⟩], m64 (q + rs.length + 18446744073709551615), c.out ++ rs.filter (fun r => decide (fr < r.1)), nextI (fun i => fits (l.look m i) (m64 (m64 (q + rs.length + 18446744073709551615) + 1)) (usedBy (c.live ++ [⟨c.next.toNat, q, rs.length⟩]) i)) l.n l.n⟩ := by
    unfold Wl.chStep
    rw [hb, hr]
  obtain ⟨h1, h2, h3, h4⟩ : 1 ≤ q + rs.length ∧ m64 (q + rs.length + 18446744073709551615) = q + rs.length - 1 ∧ fr ≤ q + rs.length - 1 ∧ q + rs.length - 1 ≤ fr + 5000 * (k + 1) := by
    rcases hq with ⟨_, hm⟩ | ⟨_, hm⟩
    · obtain ⟨a, b⟩ := hm
      have e1 : m64 (fr + 1) = fr + 1 := by unfold m64; omega
      rw [e1] at a b
      have e2 : m64 (q + rs.length) = q + rs.length := by unfold m64; omega
      rw [e2] at b
      exact ⟨by omega, by unfold m64; omega, by omega, by omega⟩
    · have e1 : m64 (c.last + 1) = c.last + 1 := by unfold m64; omega
      rw [e1] at hm
      exact ⟨by omega, by unfold m64; omega, by omega, by omega⟩
  rw [hst]
  refine ⟨?_, by show fr ≤ m64 _; rw [h2]; exact h3, by show m64 _ ≤ _; rw [h2]; exact h4, fun e => absurd e (by simp), ?_, fun hn => ?_⟩
  · show ∃ q', Con q' (c.live ++ [⟨c.next.toNat, q, rs.length⟩]) (m64 (q + rs.length + 18446744073709551615) + 1)
    rw [h2, Nat.sub_add_cancel h1]
    rcases hq with ⟨hl, _⟩ | ⟨_, hm⟩
    · rw [hl]
      exact ⟨q, rfl, h1, rfl⟩
    · have e1 : m64 (c.last + 1) = c.last + 1 := by unfold m64; omega
      rw [e1] at hm
      subst hm
      exact ⟨q0, hq0.snoc (x := ⟨c.next.toNat, c.last + 1, rs.length⟩) rfl h1⟩
  · show (c.out ++ rs.filter (fun r => decide (fr < r.1))).length ≤ 5000 * (k + 1)
    rw [List.length_append]
    exact Nat.le_trans (Nat.add_le_add h.few (Nat.le_trans (List.length_filter_le _ _) hrs)) (by omega)
  · have hf := nextI_ok hn
    unfold fits at hf
    split at hf
    · next b rs' hb' =>
      simp at hf
      exact ⟨b, rs', hb', .inr ⟨by simp, hf.1⟩⟩
    · cases hf
theorem CI.chain {l : Wl} {m : Secs} {fr : Nat} (hfr : fr ≤ 4611686018427387904) (hs : ∀ i, (segB m l.size (l.place i)).length ≤ 5000) : ∀ (f : Nat) (c : Ch) (k : Nat), CI l m fr c k → k + f ≤ 100 → ∃ k', k' ≤ k + f ∧ CI l m fr (l.chain m fr f c) k'
  | 0, c, k, h, _ => ⟨k, Nat.le_refl _, h⟩
  | f + 1, c, k, h, hk => by
    by_cases hn : c.next < 0
    · rw [l.chain_stop m fr hn]
      exact ⟨k, by omega, h⟩
    · rw [l.chain_go m fr f hn]
      obtain ⟨k', a, b⟩ := CI.chain hfr hs f _ (k + 1) (h.step (by omega) hfr (by omega) hs) (by omega)
      exact ⟨k', by omega, b⟩
theorem found_ci {at_ n size fr : Nat} {m : Secs} (hn : n ≤ 64) (hfr : fr ≤ 4611686018427387904) (hs : ∀ i, (segB m size ((wl0 at_ n size fr).place i)).length ≤ 5000) : ∃ k, k ≤ 65 ∧ CI (wl0 at_ n size fr) m fr ((wl0 at_ n size fr).found m fr) k := by
  obtain ⟨k, a, b⟩ := CI.chain (l := wl0 at_ n size fr) (m := m) hfr hs (n + 1) _ 0 CI.begin (by omega)
  exact ⟨k, by omega, b⟩
theorem open_same {s : Dk} {at_ n size fr : Nat} (hn : n ≤ 64) (hfr : fr ≤ 4611686018427387904) (hs : ∀ i, (segB s.view size ((wl0 at_ n size fr).place i)).length ≤ 5000) : openW s at_ n size fr = openL s at_ n size fr ∧ LI (openL s at_ n size fr) 4611686018428000000 ∧ (openR s at_ n size fr).length ≤ 325000 := by
  obtain ⟨k, hk, h⟩ := found_ci (at_ := at_) (m := s.view) hn hfr hs
  have e : openL s at_ n size fr = openW s at_ n size fr := by
    unfold openL openW
    dsimp only
    rw [if_neg (by have := h.lo; omega)]
  refine ⟨e.symm, ?_⟩
  rw [e]
  exact ⟨⟨h.con, by show ((wl0 at_ n size fr).found s.view fr).last ≤ _; have := h.hi; omega⟩, by show ((wl0 at_ n size fr).found s.view fr).out.length ≤ _; have := h.few; omega⟩

theorem app_pend (l : Wl) (body : List UInt8) (s : Dk) : (l.appD body s).pend.length ≤ s.pend.length + l.size := by
  have hw : (l.written body s).1.pend.length ≤ s.pend.length + l.size := wrSt_pend _
  unfold Wl.appD
  split
  · exact Nat.le_add_right _ _
  · split
    · exact hw
    · split
      · exact Nat.zero_le _
      · exact hw
theorem trunc_pend (l : Wl) (seq : Nat) (s : Dk) : (l.truncD seq s).pend.length ≤ s.pend.length := by
  unfold Wl.truncD
  split
  · exact Nat.le_refl _
  · exact Nat.zero_le _

end Go.Proofs.YtobmdmbjmjdfjaaGreatDoor
