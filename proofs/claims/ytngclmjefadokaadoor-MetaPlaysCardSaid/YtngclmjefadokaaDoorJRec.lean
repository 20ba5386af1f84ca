/-
  Records as bytes: plain functions, no program. Records in memory: a row of them of the call's own, and append to it. == and != of records; the document's Same. The document's Get of a record. The document's Scan of records. The document's Put of a record. What is to be shown of each function of package record, so that the laws' walks stand: no proof here, the walks take it as a premise.
-/
import Derived.Test.YtngclmjefadokaaDoorJVars
import Derived.Test.YtngclmjefadokaaDoorJSum
import Derived.Test.YtngclmjefadokaaDoorJBytes
import Derived.Maps.AppendAt
import Derived.Lib.SmallJoins
import Derived.Deep.QuietTactic
import Derived.BigQuiet
import Derived.Deep.Draws
import Derived.Test.YtngclmjefadokaaDoorJRef
import Derived.Test.YtngclmjefadokaaDoorJTab
namespace Go.Proofs.YtngclmjefadokaaDoor
open Go Go.RowKit

/-- a record's fields, sealed, behind their length -/
def rfld (q : Nat) (b : List UInt8) : List UInt8 := vbytes q ++ (vbytes b.length ++ b)
def rsealed (q : Nat) (b : List UInt8) : List UInt8 := rfld q b ++ sum4 (rfld q b)
def renc (q : Nat) (b : List UInt8) : List UInt8 := be (rsealed q b).length 4 ++ rsealed q b
theorem rfld_length (q : Nat) (b : List UInt8) : (rfld q b).length = vlen q + (vlen b.length + b.length) := by unfold rfld; simp [vbytes_length]
theorem rsealed_length (q : Nat) (b : List UInt8) : (rsealed q b).length = vlen q + (vlen b.length + b.length) + 4 := by unfold rsealed; rw [List.length_append, rfld_length, sum4_length]
theorem renc_length (q : Nat) (b : List UInt8) : (renc q b).length = vlen q + (vlen b.length + b.length) + 8 := by unfold renc; rw [List.length_append, be_length, rsealed_length]; omega
theorem renc_pos (q : Nat) (b : List UInt8) : 10 ≤ (renc q b).length := by
  rw [renc_length]
  have := vlen_pos q
  have := vlen_pos b.length
  omega
theorem renc_le (q : Nat) (b : List UInt8) : (renc q b).length ≤ b.length + 28 := by
  rw [renc_length]
  have := vlen_le q
  have := vlen_le b.length
  omega

/-- the fields behind the seal -/
def rfields (t : List UInt8) : Option (Nat × List UInt8) :=
  if (rnum t).2.2 = 0 ∧ (rtext (rnum t).2.1).2.2 = 0 ∧ (rtext (rnum t).2.1).2.1 = [] ∧ (rtext (rnum t).2.1).1.length ≤ 32768 then some ((rnum t).1, (rtext (rnum t).2.1).1) else none
/-- the seal taken off -/
def runseal (s : List UInt8) : Option (List UInt8) := if 4 ≤ s.length ∧ s.drop (s.length - 4) = sum4 (s.take (s.length - 4)) then some (s.take (s.length - 4)) else none
def rget (l : List UInt8) : Option (Nat × List UInt8 × Nat) :=
  if l.length < 4 ∨ l.length - 4 < ofBe (l.take 4) then none
  else (runseal ((l.drop 4).take (ofBe (l.take 4)))).bind fun t => (rfields t).map fun x => (x.1, x.2, 4 + ofBe (l.take 4))

theorem rfields_rfld {q : Nat} {b : List UInt8} (hq : q < 18446744073709551616) (hb : b.length ≤ 32768) : rfields (rfld q b) = some (q, b) := by
  have h1 : rnum (rfld q b) = (q, vbytes b.length ++ b, 0) := rnum_vb hq _
  have h2 : rtext (vbytes b.length ++ b) = (b, [], 0) := by have := rtext_vb (s := b) (by omega) []; rwa [List.append_nil] at this
  unfold rfields
  rw [h1]
  dsimp only
  rw [h2]
  dsimp only
  rw [if_pos ⟨rfl, rfl, rfl, hb⟩]
theorem rfields_some {t : List UInt8} {q : Nat} {b : List UInt8} (h : rfields t = some (q, b)) : q < 18446744073709551616 ∧ b.length ≤ 32768 ∧ t = rfld q b := by
  unfold rfields at h
  split at h
  case isFalse => cases h
  case isTrue hc =>
    obtain ⟨h1, h2, h3, h4⟩ := hc
    injection h with h
    injection h with e1 e2
    have hn := rnum_all t
    have hlt := rnum_lt t
    generalize rnum t = o at *
    cases hn with
    | short h => cases h1
    | form h => cases h1
    | good v n hr hv hl hv2 hsplit =>
      dsimp only at *
      subst e1
      have hn2 := rnum_all (t.drop n)
      unfold rtext at h2 h3 h4 e2
      generalize rnum (t.drop n) = o2 at *
      cases hn2 with
      | short h => simp at h2
      | form h => simp at h2
      | good v2 n2 hr2 hv2' hl2 hv22 hs2 =>
        dsimp only at *
        rw [if_neg (by simp)] at h2 h3 h4 e2
        by_cases g1 : 65536 < v2
        · rw [if_pos g1] at h2; cases h2
        · rw [if_neg g1] at h2 h3 h4 e2
          by_cases g2 : ((t.drop n).drop n2).length < v2
          · rw [if_pos g2] at h2; cases h2
          · rw [if_neg g2] at h2 h3 h4 e2
            dsimp only at h2 h3 h4 e2
            have h5 : ((t.drop n).drop n2).take v2 = (t.drop n).drop n2 := by
              have := List.take_append_drop v2 ((t.drop n).drop n2)
              rw [h3, List.append_nil] at this
              exact this
            rw [h5] at e2 h4
            have hbl : b.length = v2 := by
              have h6 := congrArg List.length h5
              rw [List.length_take, e2] at h6
              rw [e2] at g2
              omega
            refine ⟨hlt, by rw [← e2]; exact h4, ?_⟩
            unfold rfld
            rw [hbl, ← e2, ← hs2]
            exact hsplit
theorem runseal_sealed (t : List UInt8) : runseal (t ++ sum4 t) = some t := by
  unfold runseal
  have h4 := sum4_length t
  have e1 : (t ++ sum4 t).length - 4 = t.length := by rw [List.length_append, h4]; omega
  rw [e1, List.drop_left, List.take_left, if_pos ⟨by rw [List.length_append, h4]; omega, rfl⟩]
theorem runseal_some {s t : List UInt8} (h : runseal s = some t) : s = t ++ sum4 t := by
  unfold runseal at h
  split at h
  case isFalse => cases h
  case isTrue hc =>
    injection h with h
    have := List.take_append_drop (s.length - 4) s
    rw [hc.2, h] at this
    exact this.symm
theorem rsealed_lt {q : Nat} {b : List UInt8} (hb : b.length ≤ 40000) : (rsealed q b).length < 256 ^ 4 := by
  rw [rsealed_length]
  have := vlen_le q
  have := vlen_le b.length
  omega
theorem rget_renc {q : Nat} {b : List UInt8} (hq : q < 18446744073709551616) (hb : b.length ≤ 32768) (t : List UInt8) : rget (renc q b ++ t) = some (q, b, (renc q b).length) := by
  have hbe := be_length (rsealed q b).length 4
  have e1 : (renc q b ++ t).take 4 = be (rsealed q b).length 4 := by
    unfold renc
    rw [List.append_assoc, List.take_append_of_le_length (by omega), List.take_of_length_le (by omega)]
  have e2 : (renc q b ++ t).drop 4 = rsealed q b ++ t := by
    unfold renc
    rw [List.append_assoc, List.drop_append_of_le_length (by omega), List.drop_of_length_le (by omega), List.nil_append]
  have e3 : ofBe (be (rsealed q b).length 4) = (rsealed q b).length := ofBe_be 4 _ (rsealed_lt (by omega))
  have hl : (renc q b).length = 4 + (rsealed q b).length := by unfold renc; rw [List.length_append, hbe]
  unfold rget
  rw [e1, e2, e3, if_neg (by rw [List.length_append]; omega), List.take_left]
  unfold rsealed
  rw [runseal_sealed]
  show Option.map _ (rfields (rfld q b)) = _
  rw [rfields_rfld hq hb, hl]
  rfl
theorem rget_some {l : List UInt8} {q k : Nat} {b : List UInt8} (h : rget l = some (q, b, k)) : q < 18446744073709551616 ∧ b.length ≤ 32768 ∧ k = (renc q b).length ∧ k ≤ l.length ∧ l = renc q b ++ l.drop k := by
  unfold rget at h
  split at h
  case isTrue => cases h
  case isFalse hc =>
    cases hs : runseal ((l.drop 4).take (ofBe (l.take 4))) with
    | none => rw [hs] at h; cases h
    | some t =>
      rw [hs] at h
      have h' : (rfields t).map (fun x => (x.1, x.2, 4 + ofBe (l.take 4))) = some (q, b, k) := h
      cases hf : rfields t with
      | none => rw [hf] at h'; cases h'
      | some x =>
        rw [hf] at h'
        obtain ⟨x1, x2⟩ := x
        injection h' with h'
        injection h' with e1 h'
        injection h' with e2 e3
        dsimp only at e1 e2
        subst e1 e2
        obtain ⟨g1, g2, g3⟩ := rfields_some hf
        have g4 := runseal_some hs
        rw [g3] at g4
        have hlen : (rsealed x1 x2).length = ofBe (l.take 4) := by
          have := congrArg List.length g4
          rw [List.length_take, List.length_drop] at this
          unfold rsealed
          omega
        have ht4 : (l.take 4).length = 4 := by rw [List.length_take]; omega
        have hr : renc x1 x2 = l.take k := by
          unfold renc
          rw [hlen, be_ofBe _ _ ht4, show rsealed x1 x2 = _ from g4.symm, ← e3]
          exact (List.take_add (l := l) (i := 4) (j := ofBe (l.take 4))).symm
        have hk : k = (renc x1 x2).length := by
          rw [hr, List.length_take]
          omega
        refine ⟨g1, g2, hk, by omega, ?_⟩
        rw [hr, List.take_append_drop]
theorem rget_len {l : List UInt8} {q k : Nat} {b : List UInt8} (h : rget l = some (q, b, k)) : 10 ≤ k ∧ k ≤ l.length := by
  obtain ⟨_, _, h3, h4, _⟩ := rget_some h
  have := renc_pos q b
  omega
theorem rget_short {l : List UInt8} {q : Nat} {b t : List UInt8} (h : l ++ t = renc q b) (hb : b.length ≤ 32768) (ht : 0 < t.length) : rget l = none := by
  unfold rget
  by_cases hl : l.length < 4
  · rw [if_pos (.inl hl)]
  · refine if_pos (.inr ?_)
    have hbe := be_length (rsealed q b).length 4
    have e1 : l.take 4 = be (rsealed q b).length 4 := by
      have h1 : (l ++ t).take 4 = l.take 4 := List.take_append_of_le_length (by omega)
      rw [← h1, h]
      unfold renc
      rw [List.take_append_of_le_length (by omega), List.take_of_length_le (by omega)]
    have hl2 := congrArg List.length h
    unfold renc at hl2
    rw [List.length_append, List.length_append, hbe] at hl2
    rw [e1, ofBe_be 4 _ (rsealed_lt (by omega))]
    omega

/-! ### one behind the other -/
def next64 (q : Nat) : Nat := (q + 1) % 18446744073709551616
def rscanF : Nat → List UInt8 → Nat → List (Nat × List UInt8) × Nat
  | 0, _, _ => ([], 0)
  | f + 1, l, q => match rget l with
    | some (p, b, k) => if p = q then ((p, b) :: (rscanF f (l.drop k) (next64 q)).1, k + (rscanF f (l.drop k) (next64 q)).2) else ([], 0)
    | none => ([], 0)
def rscan (l : List UInt8) (q : Nat) : List (Nat × List UInt8) × Nat := rscanF (l.length + 1) l q
theorem rscanF_more : ∀ {f f' : Nat} {l : List UInt8} {q : Nat}, l.length < f → l.length < f' → rscanF f l q = rscanF f' l q
  | 0, _, _, _, h, _ => by omega
  | _, 0, _, _, _, h => by omega
  | f + 1, f' + 1, l, q, h, h' => by
    unfold rscanF
    cases hg : rget l with
    | none => rfl
    | some x =>
      obtain ⟨p, b, k⟩ := x
      have hk := rget_len hg
      dsimp only
      rw [rscanF_more (f := f) (f' := f') (by rw [List.length_drop]; omega) (by rw [List.length_drop]; omega)]
theorem rscan_eq (l : List UInt8) (q : Nat) : rscan l q = match rget l with
    | some (p, b, k) => if p = q then ((p, b) :: (rscan (l.drop k) (next64 q)).1, k + (rscan (l.drop k) (next64 q)).2) else ([], 0)
    | none => ([], 0) := by
  unfold rscan
  rw [rscanF]
  cases hg : rget l with
  | none => rfl
  | some x =>
    obtain ⟨p, b, k⟩ := x
    have hk := rget_len hg
    dsimp only
    rw [rscanF_more (f := l.length) (f' := (l.drop k).length + 1) (by rw [List.length_drop]; omega) (by omega)]
theorem rscan_le : ∀ {n : Nat} {l : List UInt8} {q : Nat}, l.length ≤ n → (rscan l q).2 ≤ l.length
  | n, l, q, hn => by
    rw [rscan_eq]
    cases hg : rget l with
    | none => exact Nat.zero_le _
    | some x =>
      obtain ⟨p, b, k⟩ := x
      have hk := rget_len hg
      dsimp only
      split
      · match n with
        | 0 => omega
        | n + 1 =>
          have := rscan_le (n := n) (l := l.drop k) (q := next64 q) (by rw [List.length_drop]; omega)
          rw [List.length_drop] at this
          dsimp only
          omega
      · exact Nat.zero_le _

/-- records one behind the other, numbered from q on -/
def rall : Nat → List (List UInt8) → List UInt8
  | _, [] => []
  | q, b :: bs => renc q b ++ rall (next64 q) bs
def rnumbered : Nat → List (List UInt8) → List (Nat × List UInt8)
  | _, [] => []
  | q, b :: bs => (q, b) :: rnumbered (next64 q) bs
/-- where each one ends -/
def rends : Nat → Nat → List (List UInt8) → List Nat
  | _, _, [] => []
  | at_, q, b :: bs => (at_ + (renc q b).length) :: rends (at_ + (renc q b).length) (next64 q) bs
/-- how many are whole in the first n bytes -/
def rwhole : Nat → Nat → List (List UInt8) → Nat
  | _, _, [] => 0
  | q, n, b :: bs => if (renc q b).length ≤ n then rwhole (next64 q) (n - (renc q b).length) bs + 1 else 0
theorem next64_lt (q : Nat) : next64 q < 18446744073709551616 := Nat.mod_lt _ (by decide)
/-- CUT OFF ANYWHERE -/
theorem rscan_cut : ∀ (bs : List (List UInt8)) (q n : Nat), q < 18446744073709551616 → (∀ b ∈ bs, b.length ≤ 32768) → n ≤ (rall q bs).length →
    rscan ((rall q bs).take n) q = ((rnumbered q bs).take (rwhole q n bs), (rall q (bs.take (rwhole q n bs))).length)
  | [], q, n, hq, hb, hn => by
    have : rget ((rall q []).take n) = none := by
      have e : (rall q []).take n = [] := by simp [rall]
      rw [e]; rfl
    rw [rscan_eq, this]
    rfl
  | b :: bs, q, n, hq, hb, hn => by
    have hb0 := hb b (by simp)
    unfold rwhole
    by_cases h : (renc q b).length ≤ n
    · rw [if_pos h]
      have e1 : (rall q (b :: bs)).take n = renc q b ++ (rall (next64 q) bs).take (n - (renc q b).length) := by
        show (renc q b ++ rall (next64 q) bs).take n = _
        rw [List.take_append, List.take_of_length_le h]
      have hn2 : n - (renc q b).length ≤ (rall (next64 q) bs).length := by
        have : (rall q (b :: bs)).length = (renc q b).length + (rall (next64 q) bs).length := by show (renc q b ++ _).length = _; rw [List.length_append]
        omega
      have ih := rscan_cut bs (next64 q) (n - (renc q b).length) (next64_lt q) (fun x hx => hb x (by simp [hx])) hn2
      rw [e1, rscan_eq, rget_renc hq hb0]
      dsimp only
      rw [if_pos rfl, List.drop_left, ih]
      refine Prod.ext ?_ ?_
      · rfl
      · show _ = (renc q b ++ rall (next64 q) (bs.take _)).length
        rw [List.length_append]
    · rw [if_neg h]
      have e1 : (rall q (b :: bs)).take n = (renc q b).take n := by
        show (renc q b ++ rall (next64 q) bs).take n = _
        rw [List.take_append_of_le_length (by omega)]
      have : rget ((rall q (b :: bs)).take n) = none := by
        rw [e1]
        exact rget_short (q := q) (b := b) (t := (renc q b).drop n) (List.take_append_drop n _) hb0 (by rw [List.length_drop]; omega)
      rw [rscan_eq, this]
      rfl

end Go.Proofs.YtngclmjefadokaaDoor

namespace Go.Proofs.YtngclmjefadokaaDoor
open Go Go.RowKit

/-- records in memory -/
def RcAt (w : World) (B : Nat) (A : Option Addr) (l : List (Nat × List UInt8)) : Prop :=
  0 < l.length → ∃ b off, A = some ⟨b, off, none⟩ ∧ b < B ∧ ∀ i s, l[i]? = some s → w.cell? ⟨b, off + i * 2, none⟩ = some (.int .u64 (s.1 : Int)) ∧ w.cell? ⟨b, off + i * 2 + 1, none⟩ = some (.string (bst s.2))
theorem RcAt.more {w : World} {B B' : Nat} {A : Option Addr} {l : List (Nat × List UInt8)} (h : RcAt w B A l) (hB : B ≤ B') : RcAt w B' A l := fun hl => by
  obtain ⟨b, off, e, hb, hc⟩ := h hl
  exact ⟨b, off, e, by omega, hc⟩
theorem RcAt.below {w w' : World} {B : Nat} {A : Option Addr} {l : List (Nat × List UInt8)} (h : RcAt w B A l) (hb : Below B w w') : RcAt w' B A l := fun hl => by
  obtain ⟨b, off, e, hlt, hc⟩ := h hl
  refine ⟨b, off, e, hlt, fun i s hi => ?_⟩
  have hk : ∀ j, w'.cell? ⟨b, j, none⟩ = w.cell? ⟨b, j, none⟩ := fun j => World.cell?_of_block (a := ⟨b, j, none⟩) (hb.block b hlt)
  rw [hk, hk]
  exact hc i s hi
theorem RcAt.take {w : World} {B : Nat} {A : Option Addr} {l : List (Nat × List UInt8)} (h : RcAt w B A l) (n : Nat) : RcAt w B A (l.take n) := fun hl => by
  obtain ⟨b, off, e, hb, hc⟩ := h (by rw [List.length_take] at hl; omega)
  refine ⟨b, off, e, hb, fun i s hi => hc i s ?_⟩
  rw [List.getElem?_take] at hi
  split at hi
  · exact hi
  · cases hi

/-- the cells of records -/
def rcs (l : List (Nat × List UInt8)) : List Value := l.flatMap fun x => [.int .u64 (x.1 : Int), .string (bst x.2)]
theorem rcs_cons (x : Nat × List UInt8) (l : List (Nat × List UInt8)) : rcs (x :: l) = .int .u64 (x.1 : Int) :: .string (bst x.2) :: rcs l := by simp [rcs]
theorem rcs_append (a b : List (Nat × List UInt8)) : rcs (a ++ b) = rcs a ++ rcs b := by simp [rcs]
theorem rcs_length (l : List (Nat × List UInt8)) : (rcs l).length = l.length * 2 := by
  induction l with
  | nil => rfl
  | cons x l ih => rw [rcs_cons]; simp only [List.length_cons, ih]; omega
theorem rcs_one (l : List (Nat × List UInt8)) : ∀ u ∈ rcs l, u.oneCell' = true := by
  intro u hu
  simp only [rcs, List.mem_flatMap] at hu
  obtain ⟨x, _, hx⟩ := hu
  simp at hx
  rcases hx with rfl | rfl <;> rfl
theorem rcs_get : ∀ (l : List (Nat × List UInt8)) (i : Nat) (x : Nat × List UInt8), l[i]? = some x → (rcs l)[i * 2]? = some (.int .u64 (x.1 : Int)) ∧ (rcs l)[i * 2 + 1]? = some (.string (bst x.2))
  | [], i, x, h => by simp at h
  | y :: l, 0, x, h => by
    obtain rfl : y = x := by simpa using h
    rw [rcs_cons]
    simp
  | y :: l, i + 1, x, h => by
    have ih := rcs_get l i x (by simpa using h)
    rw [rcs_cons, show (i + 1) * 2 = i * 2 + 1 + 1 by omega]
    simpa using ih
theorem rcs_at {l : List (Nat × List UInt8)} {j : Nat} {u : Value} (h : (rcs l)[j]? = some u) : ∃ i x k, j = i * 2 + k ∧ k < 2 ∧ l[i]? = some x ∧ (k = 0 ∧ u = .int .u64 (x.1 : Int) ∨ k = 1 ∧ u = .string (bst x.2)) := by
  have hj := (List.getElem?_eq_some_iff.1 h).1
  rw [rcs_length] at hj
  have hi : j / 2 < l.length := by omega
  have hx : l[j / 2]? = some l[j / 2] := List.getElem?_eq_getElem hi
  obtain ⟨g0, g1⟩ := rcs_get l (j / 2) _ hx
  refine ⟨j / 2, _, j % 2, by omega, by omega, hx, ?_⟩
  rcases (show j % 2 = 0 ∨ j % 2 = 1 by omega) with e | e
  · rw [show j = j / 2 * 2 by omega, g0] at h
    injection h with h
    exact .inl ⟨e, h.symm⟩
  · rw [show j = j / 2 * 2 + 1 by omega, g1] at h
    injection h with h
    exact .inr ⟨e, h.symm⟩

def RcRow (w : World) (base : Nat) (A : Option Addr) (m c : Nat) (l : List (Nat × List UInt8)) : Prop :=
  m = l.length ∧ w.ownsRow base 71 2 (.slice A m c) m (rcs l)
theorem RcRow.at_ {w : World} {base m c : Nat} {A : Option Addr} {l : List (Nat × List UInt8)} (h : RcRow w base A m c l) : RcAt w w.heap.size A l := fun hl => by
  obtain ⟨hm, hown⟩ := h
  rcases hown.2 with ⟨_, h0⟩ | ⟨g, cap, cur, hv, _, hg, _⟩
  · omega
  · have hA : A = some ⟨g, 0, none⟩ := by injection hv
    subst hA
    have hlt : g < w.heap.size := (Array.getElem?_eq_some_iff.1 hg).1
    refine ⟨g, 0, rfl, hlt, fun i x hx => ?_⟩
    obtain ⟨g0, g1⟩ := rcs_get l i x hx
    have ea : ∀ j, (⟨g, 0, none⟩ : Addr).add j = ⟨g, 0 + j, none⟩ := by intro j; unfold Addr.add; split <;> simp_all
    have e0 := hown.cells (g := g) rfl _ _ g0
    have e1 := hown.cells (g := g) rfl _ _ g1
    rw [ea] at e0 e1
    exact ⟨e0, by rw [Nat.add_assoc]; exact e1⟩
theorem RcRow.alloc {w : World} {base m c : Nat} {A : Option Addr} {l : List (Nat × List UInt8)} (h : RcRow w base A m c l) (o : Obj) : RcRow (w.alloc o) base A m c l := ⟨h.1, h.2.alloc o⟩
theorem RcRow.below {w w' : World} {base m c : Nat} {A : Option Addr} {l : List (Nat × List UInt8)} (h : RcRow w base A m c l) (hb : Below w.heap.size w w') : RcRow w' base A m c l := by
  refine ⟨h.1, h.2.kept (row := none) ⟨hb.os, hb.tape, hb.output, hb.size, fun k hk _ => hb.block k hk⟩ ?_⟩
  cases hv : (Value.slice A m c).ownBlock <;> simp
theorem RcRow.cap {w : World} {base m c : Nat} {A : Option Addr} {l : List (Nat × List UInt8)} (h : RcRow w base A m c l) : m ≤ c := by
  rcases h.2.2 with ⟨_, h0⟩ | ⟨g, cap, cur, hv, _, _, hnc, _⟩
  · omega
  · injection hv with _ _ hc
    omega
theorem RcRow.nil (w : World) (base : Nat) : RcRow w base none 0 0 [] := ⟨rfl, World.ownsRow_nil _ _ _ _⟩
/-- a slice written out without elements -/
theorem RcRow.empty (w : World) {base g : Nat} (hg : g = w.heap.size) (hb : base ≤ w.heap.size) : RcRow (w.alloc (.cells #[] 71)) base (some ⟨g, 0, none⟩) 0 0 [] := by
  subst hg
  exact ⟨rfl, rfl, .inr ⟨w.heap.size, 0, #[], rfl, hb, heap_alloc_new w _, Nat.le_refl _, Nat.zero_le _, rfl, rfl⟩⟩

theorem info_rc : (Tryd.prog.info? 71).map (fun i => (i.zero, i.size, i.bytes)) = some (some (.agg #[.int .u64 0, .string ⟨#[]⟩]), 2, 24) := by kernel_rfl

end Go.Proofs.YtngclmjefadokaaDoor

namespace Go.Proofs.YtngclmjefadokaaDoor
open Go Go.RowKit

abbrev Rc := Nat × List UInt8
def rcb (x y : Rc) : Bool := ((x.1 : Int) == (y.1 : Int)) && (x.2 == y.2)
theorem rcb_is (x y : Rc) : rcb x y = decide (x = y) := by
  rw [Bool.eq_iff_iff]
  obtain ⟨q, b⟩ := x
  obtain ⟨q', b'⟩ := y
  simp [rcb]
  intro _
  omega
theorem neq_rc (x y : Rc) (W : World) : (binOp .neq 71 (.agg #[.int .u64 (x.1 : Int), .string (bst x.2)]) (.agg #[.int .u64 (y.1 : Int), .string (bst y.2)])).run Tryd.prog W = .ok (.bool (!decide (x = y))) W := by
  rw [← rcb_is]
  have h1 := bst_toList x.2
  have h2 := bst_toList y.2
  unfold rcb
  cases e1 : (x.1 : Int) == (y.1 : Int) <;> cases e2 : x.2 == y.2 <;> go_simp
theorem eql_rc (x y : Rc) (W : World) : (binOp .eql 71 (.agg #[.int .u64 (x.1 : Int), .string (bst x.2)]) (.agg #[.int .u64 (y.1 : Int), .string (bst y.2)])).run Tryd.prog W = .ok (.bool (decide (x = y))) W := by
  rw [← rcb_is]
  have h1 := bst_toList x.2
  have h2 := bst_toList y.2
  unfold rcb
  cases e1 : (x.1 : Int) == (y.1 : Int) <;> cases e2 : x.2 == y.2 <;> go_simp

theorem RcAt.get {w : World} {B k : Nat} {A : Option Addr} {rs : List Rc} (h : RcAt w B A rs) (hk : k < rs.length) : ∃ b off x, A = some ⟨b, off, none⟩ ∧ b < B ∧ rs[k]? = some x ∧ w.cell? ⟨b, off + k * 2, none⟩ = some (.int .u64 (x.1 : Int)) ∧ w.cell? ⟨b, off + k * 2 + 1, none⟩ = some (.string (bst x.2)) := by
  obtain ⟨b, off, e, hb, hc⟩ := h (by omega)
  obtain ⟨h1, h2⟩ := hc k _ (List.getElem?_eq_getElem hk)
  exact ⟨b, off, _, e, hb, List.getElem?_eq_getElem hk, h1, h2⟩
theorem rdrop_eq {ws ws' : List Rc} {k : Nat} {x y : Rc} (h : ws[k]? = some x) (h' : ws'[k]? = some y) : decide (ws.drop k = ws'.drop k) = (decide (x = y) && decide (ws.drop (k + 1) = ws'.drop (k + 1))) := by
  obtain ⟨hk, hx⟩ := List.getElem?_eq_some_iff.1 h
  obtain ⟨hk', hy⟩ := List.getElem?_eq_some_iff.1 h'
  rw [List.drop_eq_getElem_cons hk, List.drop_eq_getElem_cons hk', hx, hy, Bool.eq_iff_iff]
  simp

end Go.Proofs.YtngclmjefadokaaDoor

namespace Go.Proofs.YtngclmjefadokaaDoor
open Go Go.RowKit

/-- what Get answers -/
def recV (o : Option (Nat × List UInt8 × Nat)) : Value := match o with
  | some (q, b, k) => .tuple #[.agg #[.int .u64 (q : Int), .string (bst b)], .int .i64 (k : Int), .bool true]
  | none => .tuple #[.agg #[.int .u64 0, .string ⟨#[]⟩], .int .i64 0, .bool false]
theorem bstMid (s : List UInt8) (i n : Nat) : (bst s).extract i (i + n) = bst ((s.drop i).take n) := by
  apply ByteArray.ext
  apply Array.toList_inj.1
  simp [bst, List.take_drop]

theorem twoc {w : World} {b : Nat} {t : TypeId} {a0 a1 : Value} (h : Blk w b t #[a0, a1]) : w.cell? ⟨b, 0, none⟩ = some a0 ∧ w.cell? ⟨b, 1, none⟩ = some a1 ∧ w.frozen? ⟨b, 0, none⟩ = false ∧ w.frozen? ⟨b, 1, none⟩ = false :=
  ⟨h.cell 0, h.cell 1, h.free 0, h.free 1⟩

set_option maxHeartbeats 4000000 in
set_option maxRecDepth 100000 in
theorem refRGet_any (l : List UInt8) (w : World) (hl : l.length ≤ 70000) :
    Calls Tryd.prog 25 #[.string (bst l)] w fun e w' => e = .returned (recV (rget l)) ∧ Below w.heap.size w w' := by
  have z := bst_size l
  have hb2 : Below w.heap.size w ((w.alloc (.cells #[.int .u64 0, .string ⟨#[]⟩] 71)).alloc (.cells #[.int .u64 0, .string ⟨#[]⟩] 71)) := ((Below.refl _ _).alloc (Nat.le_refl _) _).alloc (by simp) _
  have HB2 := hid hb2
  clear hb2
  unfold rget
  by_cases h4 : l.length < 4
  · rw [if_pos (.inl h4)]
    unfold recV
    dsimp only
    go_enter Tryd.func25, Tryd.ntmps25
    go_wp2_with fail
    refine bodyPost_ret (v := .tuple #[.agg #[.int .u64 0, .string ⟨#[]⟩], .int .i64 0, .bool false]) (by simp [results, Tryd.results25, go_sem]) rfl ⟨rfl, HB2.out⟩
  have e4 := bstTake l 4
  have HG4 := hid (fun (W : World) => refGet_any (l.take 4) W (by rw [List.length_take]; omega))
  obtain ⟨N, hN⟩ : ∃ N, N = ofBe (l.take 4) := ⟨_, rfl⟩
  rw [← hN] at HG4 ⊢
  have hN32 : N < 4294967296 := by rw [hN]; have h := ofBe_lt (l.take 4); rw [show (l.take 4).length = 4 by rw [List.length_take]; omega] at h; exact h
  clear hN
  by_cases hlen : l.length - 4 < N
  · rw [if_pos (.inr hlen)]
    unfold recV
    dsimp only
    go_enter Tryd.func25, Tryd.ntmps25
    go_wp2_with fail
    go_fit (HG4.out _)
    rintro e w3 ⟨rfl, rfl⟩
    go_wp2_with fail
    refine bodyPost_ret (v := .tuple #[.agg #[.int .u64 0, .string ⟨#[]⟩], .int .i64 0, .bool false]) (by simp [results, Tryd.results25, go_sem]) rfl ⟨rfl, HB2.out⟩
  rw [if_neg (by omega)]
  have emid := bstMid l 4 N
  have hsl : ((l.drop 4).take N).length = N := by rw [List.length_take, List.length_drop]; omega
  obtain ⟨s, hs⟩ : ∃ s, s = (l.drop 4).take N := ⟨_, rfl⟩
  rw [← hs] at emid hsl ⊢
  clear hs
  have HBA := hid (show Blk ((w.alloc (.cells #[.int .u64 0, .string ⟨#[]⟩] 71)).alloc (.cells #[.int .u64 0, .string ⟨#[]⟩] 71)) w.heap.size 71 #[.int .u64 0, .string ⟨#[]⟩] from (Blk.new w _ _).alloc _)
  have hbb := Blk.new (w.alloc (.cells #[.int .u64 0, .string ⟨#[]⟩] 71)) 71 #[.int .u64 0, .string ⟨#[]⟩]
  rw [show (w.alloc (.cells #[.int .u64 0, .string ⟨#[]⟩] 71)).heap.size = w.heap.size + 1 by simp] at hbb
  have HBB := hid hbb
  clear hbb
  by_cases h5 : N < 4
  · have : runseal s = none := if_neg (by omega)
    rw [this]
    show Calls _ _ _ _ fun e w' => e = .returned (recV none) ∧ _
    unfold recV
    dsimp only
    have HOP := hid (fun (W : World) => refOpen_short s W (by omega))
    clear this
    go_enter Tryd.func25, Tryd.ntmps25
    go_wp2_with fail
    go_fit (HG4.out _)
    rintro e w3 ⟨rfl, rfl⟩
    generalize (w.alloc (.cells #[.int .u64 0, .string ⟨#[]⟩] 71)).alloc (.cells #[.int .u64 0, .string ⟨#[]⟩] 71) = w2 at *
    obtain ⟨a0, a1, fa0, fa1⟩ := twoc HBA.out
    obtain ⟨b0, b1, _, _⟩ := twoc HBB.out
    go_wp2_with fail
    go_fit (HOP.out _)
    rintro e w3 ⟨rfl, rfl⟩
    go_wp2_with fail
    refine bodyPost_ret (v := .tuple #[.agg #[.int .u64 0, .string ⟨#[]⟩], .int .i64 0, .bool false]) (by simp [results, Tryd.results25, go_sem, *]) rfl ⟨rfl, ?_⟩
    exact ((HB2.out).setCell (p := ⟨w.heap.size, 0, none⟩) (Nat.le_refl _) _).setCell (p := ⟨w.heap.size, 1, none⟩) (Nat.le_refl _) _
  by_cases hok : s.drop (N - 4) = sum4 (s.take (N - 4))
  case neg =>
    have : runseal s = none := if_neg (by rw [hsl]; exact fun h => hok h.2)
    rw [this]
    show Calls _ _ _ _ fun e w' => e = .returned (recV none) ∧ _
    unfold recV
    dsimp only
    have HOP := hid (fun (W : World) => refOpen_wrong s (N - 4) W (by omega) (by omega) hok)
    clear this hok
    go_enter Tryd.func25, Tryd.ntmps25
    go_wp2_with fail
    go_fit (HG4.out _)
    rintro e w3 ⟨rfl, rfl⟩
    generalize (w.alloc (.cells #[.int .u64 0, .string ⟨#[]⟩] 71)).alloc (.cells #[.int .u64 0, .string ⟨#[]⟩] 71) = w2 at *
    obtain ⟨a0, a1, fa0, fa1⟩ := twoc HBA.out
    obtain ⟨b0, b1, _, _⟩ := twoc HBB.out
    go_wp2_with fail
    go_fit (HOP.out _)
    rintro e w3 ⟨rfl, hb3⟩
    have HB3 := hid (HB2.out.trans (hb3.mono HB2.out.size))
    have HA3 := hid (HBA.out.below hb3 HBA.out.lt)
    have HC3 := hid (HBB.out.below hb3 HBB.out.lt)
    clear a0 a1 fa0 fa1 b0 b1 hb3
    obtain ⟨a0, a1, fa0, fa1⟩ := twoc HA3.out
    obtain ⟨b0, b1, _, _⟩ := twoc HC3.out
    go_wp2_with fail
    refine bodyPost_ret (v := .tuple #[.agg #[.int .u64 0, .string ⟨#[]⟩], .int .i64 0, .bool false]) (by simp [results, Tryd.results25, go_sem, *]) rfl ⟨rfl, ?_⟩
    exact ((HB3.out).setCell (p := ⟨w.heap.size, 0, none⟩) (Nat.le_refl _) _).setCell (p := ⟨w.heap.size, 1, none⟩) (Nat.le_refl _) _
  have hus : runseal s = some (s.take (N - 4)) := by unfold runseal; rw [hsl, if_pos ⟨by omega, hok⟩]
  rw [hus]
  have HOP := hid (fun (W : World) => refOpen_good s (N - 4) W (by omega) (by omega) hok)
  clear hus hok
  have htl : (s.take (N - 4)).length ≤ 70000 := by rw [List.length_take]; omega
  obtain ⟨t, ht⟩ : ∃ t, t = s.take (N - 4) := ⟨_, rfl⟩
  rw [← ht] at HOP htl ⊢
  clear ht
  show Calls _ _ _ _ fun e w' => e = .returned (recV ((rfields t).map fun x => (x.1, x.2, 4 + N))) ∧ _
  unfold rfields
  have HNM := hid (fun (W : World) => refNum_any t W htl)
  have hnl := rnum_len t
  have hv64 := rnum_lt t
  generalize rnum t = o1 at *
  obtain ⟨v, r, f⟩ := o1
  dsimp only at hnl hv64 HNM ⊢
  have HTK := hid (fun (W : World) => refTake_text 0 r W (by omega))
  unfold TookRef at HTK
  rw [show tk 1 0 r = (⟨1, 0, (rtext r).1, false, 0⟩, (rtext r).2) from rfl] at HTK
  generalize rtext r = o2 at *
  obtain ⟨x, m, g⟩ := o2
  dsimp only at HTK ⊢
  unfold Fd.val at HTK
  dsimp only at HTK
  have zx := bst_size x
  clear hnl htl
  by_cases hf : f = 0
  case neg =>
    rw [if_neg (fun h => hf h.1)]
    have hf1 : ((f : Int) != 0) = true := by simpa using hf
    show Calls _ _ _ _ fun e w' => e = .returned (recV none) ∧ _
    unfold recV
    dsimp only
    go_enter Tryd.func25, Tryd.ntmps25
    go_wp2_with fail
    go_fit (HG4.out _)
    rintro e w3 ⟨rfl, rfl⟩
    generalize (w.alloc (.cells #[.int .u64 0, .string ⟨#[]⟩] 71)).alloc (.cells #[.int .u64 0, .string ⟨#[]⟩] 71) = w2 at *
    obtain ⟨a0, a1, fa0, fa1⟩ := twoc HBA.out
    obtain ⟨b0, b1, _, _⟩ := twoc HBB.out
    go_wp2_with fail
    go_fit (HOP.out _)
    rintro e w3 ⟨rfl, hb3⟩
    have HB3 := hid (HB2.out.trans (hb3.mono HB2.out.size))
    have HA3 := hid (HBA.out.below hb3 HBA.out.lt)
    have HC3 := hid (HBB.out.below hb3 HBB.out.lt)
    clear a0 a1 fa0 fa1 b0 b1 hb3
    go_wp2_with fail
    go_fit (HNM.out _)
    rintro e w4 ⟨rfl, hb4⟩
    have HB4 := hid (HB3.out.trans (hb4.mono HB3.out.size))
    have HA4 := hid (HA3.out.below hb4 HA3.out.lt)
    have HC4 := hid (HC3.out.below hb4 HC3.out.lt)
    clear hb4
    go_wp2_with fail
    go_fit (HTK.out _)
    rintro e w5 ⟨rfl, hb5⟩
    have HB5 := hid (HB4.out.trans (hb5.mono HB4.out.size))
    have HA5 := hid (HA4.out.below hb5 HA4.out.lt)
    have HC5 := hid (HC4.out.below hb5 HC4.out.lt)
    clear hb5
    obtain ⟨a0, a1, fa0, fa1⟩ := twoc HA5.out
    obtain ⟨b0, b1, _, _⟩ := twoc HC5.out
    have HL5 := hid (show w.heap.size + 1 < w5.heap.size from HC5.out.lt)
    have hl5 := HL5.out
    have hl6 : w.heap.size < w5.heap.size := by omega
    go_wp2_with fail
    refine bodyPost_ret (v := .tuple #[.agg #[.int .u64 0, .string ⟨#[]⟩], .int .i64 0, .bool false]) (by simp [results, Tryd.results25, go_sem, *]) rfl ⟨rfl, ?_⟩
    exact ((HB5.out.setCell (p := ⟨w.heap.size, 0, none⟩) (Nat.le_refl _) _).setCell (p := ⟨w.heap.size, 1, none⟩) (Nat.le_refl _) _).alloc (by have := HB5.out.size; simp; omega) _
  subst hf
  by_cases hg : g = 0
  case neg =>
    rw [if_neg (fun h => hg h.2.1)]
    have hg1 : ((g : Int) != 0) = true := by simpa using hg
    show Calls _ _ _ _ fun e w' => e = .returned (recV none) ∧ _
    unfold recV
    dsimp only
    go_enter Tryd.func25, Tryd.ntmps25
    go_wp2_with fail
    go_fit (HG4.out _)
    rintro e w3 ⟨rfl, rfl⟩
    generalize (w.alloc (.cells #[.int .u64 0, .string ⟨#[]⟩] 71)).alloc (.cells #[.int .u64 0, .string ⟨#[]⟩] 71) = w2 at *
    obtain ⟨a0, a1, fa0, fa1⟩ := twoc HBA.out
    obtain ⟨b0, b1, _, _⟩ := twoc HBB.out
    go_wp2_with fail
    go_fit (HOP.out _)
    rintro e w3 ⟨rfl, hb3⟩
    have HB3 := hid (HB2.out.trans (hb3.mono HB2.out.size))
    have HA3 := hid (HBA.out.below hb3 HBA.out.lt)
    have HC3 := hid (HBB.out.below hb3 HBB.out.lt)
    clear a0 a1 fa0 fa1 b0 b1 hb3
    go_wp2_with fail
    go_fit (HNM.out _)
    rintro e w4 ⟨rfl, hb4⟩
    have HB4 := hid (HB3.out.trans (hb4.mono HB3.out.size))
    have HA4 := hid (HA3.out.below hb4 HA3.out.lt)
    have HC4 := hid (HC3.out.below hb4 HC3.out.lt)
    clear hb4
    go_wp2_with fail
    go_fit (HTK.out _)
    rintro e w5 ⟨rfl, hb5⟩
    have HB5 := hid (HB4.out.trans (hb5.mono HB4.out.size))
    have HA5 := hid (HA4.out.below hb5 HA4.out.lt)
    have HC5 := hid (HC4.out.below hb5 HC4.out.lt)
    clear hb5
    obtain ⟨a0, a1, fa0, fa1⟩ := twoc HA5.out
    obtain ⟨b0, b1, _, _⟩ := twoc HC5.out
    have HL5 := hid (show w.heap.size + 1 < w5.heap.size from HC5.out.lt)
    have hl5 := HL5.out
    have hl6 : w.heap.size < w5.heap.size := by omega
    go_wp2_with fail
    refine bodyPost_ret (v := .tuple #[.agg #[.int .u64 0, .string ⟨#[]⟩], .int .i64 0, .bool false]) (by simp [results, Tryd.results25, go_sem, *]) rfl ⟨rfl, ?_⟩
    exact ((HB5.out.setCell (p := ⟨w.heap.size, 0, none⟩) (Nat.le_refl _) _).setCell (p := ⟨w.heap.size, 1, none⟩) (Nat.le_refl _) _).alloc (by have := HB5.out.size; simp; omega) _
  subst hg
  by_cases hm : m = []
  case neg =>
    rw [if_neg (fun h => hm h.2.2.1)]
    obtain ⟨y, ys, rfl⟩ : ∃ y ys, m = y :: ys := by
      cases m with
      | nil => exact absurd rfl hm
      | cons y ys => exact ⟨y, ys, rfl⟩
    have hm1 := bst_toList (y :: ys)
    have hm2 := bst_ne y ys
    show Calls _ _ _ _ fun e w' => e = .returned (recV none) ∧ _
    unfold recV
    dsimp only
    go_enter Tryd.func25, Tryd.ntmps25
    go_wp2_with fail
    go_fit (HG4.out _)
    rintro e w3 ⟨rfl, rfl⟩
    generalize (w.alloc (.cells #[.int .u64 0, .string ⟨#[]⟩] 71)).alloc (.cells #[.int .u64 0, .string ⟨#[]⟩] 71) = w2 at *
    obtain ⟨a0, a1, fa0, fa1⟩ := twoc HBA.out
    obtain ⟨b0, b1, _, _⟩ := twoc HBB.out
    go_wp2_with fail
    go_fit (HOP.out _)
    rintro e w3 ⟨rfl, hb3⟩
    have HB3 := hid (HB2.out.trans (hb3.mono HB2.out.size))
    have HA3 := hid (HBA.out.below hb3 HBA.out.lt)
    have HC3 := hid (HBB.out.below hb3 HBB.out.lt)
    clear a0 a1 fa0 fa1 b0 b1 hb3
    go_wp2_with fail
    go_fit (HNM.out _)
    rintro e w4 ⟨rfl, hb4⟩
    have HB4 := hid (HB3.out.trans (hb4.mono HB3.out.size))
    have HA4 := hid (HA3.out.below hb4 HA3.out.lt)
    have HC4 := hid (HC3.out.below hb4 HC3.out.lt)
    clear hb4
    go_wp2_with fail
    go_fit (HTK.out _)
    rintro e w5 ⟨rfl, hb5⟩
    have HB5 := hid (HB4.out.trans (hb5.mono HB4.out.size))
    have HA5 := hid (HA4.out.below hb5 HA4.out.lt)
    have HC5 := hid (HC4.out.below hb5 HC4.out.lt)
    clear hb5
    obtain ⟨a0, a1, fa0, fa1⟩ := twoc HA5.out
    obtain ⟨b0, b1, _, _⟩ := twoc HC5.out
    have HL5 := hid (show w.heap.size + 1 < w5.heap.size from HC5.out.lt)
    have hl5 := HL5.out
    have hl6 : w.heap.size < w5.heap.size := by omega
    go_wp2_with fail
    refine bodyPost_ret (v := .tuple #[.agg #[.int .u64 0, .string ⟨#[]⟩], .int .i64 0, .bool false]) (by simp [results, Tryd.results25, go_sem, *]) rfl ⟨rfl, ?_⟩
    exact ((HB5.out.setCell (p := ⟨w.heap.size, 0, none⟩) (Nat.le_refl _) _).setCell (p := ⟨w.heap.size, 1, none⟩) (Nat.le_refl _) _).alloc (by have := HB5.out.size; simp; omega) _
  subst hm
  rw [show bst [] = (⟨#[]⟩ : ByteArray) from rfl] at HTK
  by_cases hx : x.length ≤ 32768
  case neg =>
    rw [if_neg (fun h => hx h.2.2.2)]
    have hx1 : 32768 < x.length := by omega
    show Calls _ _ _ _ fun e w' => e = .returned (recV none) ∧ _
    unfold recV
    dsimp only
    clear hx
    go_enter Tryd.func25, Tryd.ntmps25
    go_wp2_with fail
    go_fit (HG4.out _)
    rintro e w3 ⟨rfl, rfl⟩
    generalize (w.alloc (.cells #[.int .u64 0, .string ⟨#[]⟩] 71)).alloc (.cells #[.int .u64 0, .string ⟨#[]⟩] 71) = w2 at *
    obtain ⟨a0, a1, fa0, fa1⟩ := twoc HBA.out
    obtain ⟨b0, b1, _, _⟩ := twoc HBB.out
    go_wp2_with fail
    go_fit (HOP.out _)
    rintro e w3 ⟨rfl, hb3⟩
    have HB3 := hid (HB2.out.trans (hb3.mono HB2.out.size))
    have HA3 := hid (HBA.out.below hb3 HBA.out.lt)
    have HC3 := hid (HBB.out.below hb3 HBB.out.lt)
    clear a0 a1 fa0 fa1 b0 b1 hb3
    go_wp2_with fail
    go_fit (HNM.out _)
    rintro e w4 ⟨rfl, hb4⟩
    have HB4 := hid (HB3.out.trans (hb4.mono HB3.out.size))
    have HA4 := hid (HA3.out.below hb4 HA3.out.lt)
    have HC4 := hid (HC3.out.below hb4 HC3.out.lt)
    clear hb4
    go_wp2_with fail
    go_fit (HTK.out _)
    rintro e w5 ⟨rfl, hb5⟩
    have HB5 := hid (HB4.out.trans (hb5.mono HB4.out.size))
    have HA5 := hid (HA4.out.below hb5 HA4.out.lt)
    have HC5 := hid (HC4.out.below hb5 HC4.out.lt)
    clear hb5
    obtain ⟨a0, a1, fa0, fa1⟩ := twoc HA5.out
    obtain ⟨b0, b1, _, _⟩ := twoc HC5.out
    have HL5 := hid (show w.heap.size + 1 < w5.heap.size from HC5.out.lt)
    have hl5 := HL5.out
    have hl6 : w.heap.size < w5.heap.size := by omega
    go_wp2_with fail
    refine bodyPost_ret (v := .tuple #[.agg #[.int .u64 0, .string ⟨#[]⟩], .int .i64 0, .bool false]) (by simp [results, Tryd.results25, go_sem, *]) rfl ⟨rfl, ?_⟩
    exact ((HB5.out.setCell (p := ⟨w.heap.size, 0, none⟩) (Nat.le_refl _) _).setCell (p := ⟨w.heap.size, 1, none⟩) (Nat.le_refl _) _).alloc (by have := HB5.out.size; simp; omega) _
  rw [if_pos ⟨rfl, rfl, rfl, hx⟩]
  show Calls _ _ _ _ fun e w' => e = .returned (.tuple #[.agg #[.int .u64 (v : Int), .string (bst x)], .int .i64 ((4 + N : Nat) : Int), .bool true]) ∧ _
  go_enter Tryd.func25, Tryd.ntmps25
  go_wp2_with fail
  go_fit (HG4.out _)
  rintro e w3 ⟨rfl, rfl⟩
  generalize (w.alloc (.cells #[.int .u64 0, .string ⟨#[]⟩] 71)).alloc (.cells #[.int .u64 0, .string ⟨#[]⟩] 71) = w2 at *
  obtain ⟨a0, a1, fa0, fa1⟩ := twoc HBA.out
  obtain ⟨b0, b1, _, _⟩ := twoc HBB.out
  go_wp2_with fail
  go_fit (HOP.out _)
  rintro e w3 ⟨rfl, hb3⟩
  have HB3 := hid (HB2.out.trans (hb3.mono HB2.out.size))
  have HA3 := hid (HBA.out.below hb3 HBA.out.lt)
  have HC3 := hid (HBB.out.below hb3 HBB.out.lt)
  clear a0 a1 fa0 fa1 b0 b1 hb3
  go_wp2_with fail
  go_fit (HNM.out _)
  rintro e w4 ⟨rfl, hb4⟩
  have HB4 := hid (HB3.out.trans (hb4.mono HB3.out.size))
  have HA4 := hid (HA3.out.below hb4 HA3.out.lt)
  have HC4 := hid (HC3.out.below hb4 HC3.out.lt)
  clear hb4
  go_wp2_with fail
  go_fit (HTK.out _)
  rintro e w5 ⟨rfl, hb5⟩
  have HB5 := hid (HB4.out.trans (hb5.mono HB4.out.size))
  have HA5 := hid (HA4.out.below hb5 HA4.out.lt)
  have HC5 := hid (HC4.out.below hb5 HC4.out.lt)
  clear hb5
  obtain ⟨a0, a1, fa0, fa1⟩ := twoc HA5.out
  obtain ⟨b0, b1, _, _⟩ := twoc HC5.out
  have HL5 := hid (show w.heap.size + 1 < w5.heap.size from HC5.out.lt)
  have hl5 := HL5.out
  have hl6 : w.heap.size < w5.heap.size := by omega
  go_wp2_with fail
  refine bodyPost_ret (v := .tuple #[.agg #[.int .u64 (v : Int), .string (bst x)], .int .i64 ((4 + N : Nat) : Int), .bool true]) (by simp [results, Tryd.results25, go_sem, *]) rfl ⟨rfl, ?_⟩
  exact ((HB5.out.setCell (p := ⟨w.heap.size, 0, none⟩) (Nat.le_refl _) _).setCell (p := ⟨w.heap.size, 1, none⟩) (Nat.le_refl _) _).alloc (by have := HB5.out.size; simp; omega) _

end Go.Proofs.YtngclmjefadokaaDoor

namespace Go.Proofs.YtngclmjefadokaaDoor
open Go Go.RowKit

theorem RcAt.one (w : World) (x : Rc) : RcAt (w.alloc (.cells #[.int .u64 (x.1 : Int), .string (bst x.2)] 71)) (w.heap.size + 1) (some ⟨w.heap.size, 0, none⟩) [x] := fun _ => by
  refine ⟨w.heap.size, 0, rfl, by omega, fun i s hi => ?_⟩
  have : i = 0 := by have := (List.getElem?_eq_some_iff.1 hi).1; simp at this; omega
  subst this
  obtain rfl : x = s := by simpa using hi
  have hb := Blk.new w 71 #[.int .u64 (x.1 : Int), .string (bst x.2)]
  exact ⟨hb.cell 0, hb.cell 1⟩

/-- Scan under way -/
structure ScL (w wr : World) (l : List UInt8) (q0 : Nat) (A : Option Addr) (m c : Nat) (done : List Rc) (k q : Nat) : Prop where
  row : RcRow wr w.heap.size A m c done
  below : Below w.heap.size w wr
  len : done.length ≤ k
  all : rscan l q0 = (done ++ (rscan (l.drop k) q).1, k + (rscan (l.drop k) q).2)
theorem scan_stop {l : List UInt8} {q : Nat} (h : ∀ p b k, rget l = some (p, b, k) → p ≠ q) : rscan l q = ([], 0) := by
  rw [rscan_eq]
  cases hg : rget l with
  | none => rfl
  | some x =>
    obtain ⟨p, b, k⟩ := x
    dsimp only
    rw [if_neg (h p b k hg)]
theorem scan_go {l : List UInt8} {q k : Nat} {b : List UInt8} (h : rget l = some (q, b, k)) : rscan l q = ((q, b) :: (rscan (l.drop k) (next64 q)).1, k + (rscan (l.drop k) (next64 q)).2) := by
  rw [rscan_eq, h]
  dsimp only
  rw [if_pos rfl]

end Go.Proofs.YtngclmjefadokaaDoor

namespace Go.Proofs.YtngclmjefadokaaDoor
open Go Go.RowKit

set_option maxHeartbeats 2000000 in
theorem refRPut_no (q : Int) (b : List UInt8) (w : World) (hb : 32768 < b.length) :
    Calls Tryd.prog 28 #[.agg #[.int .u64 q, .string (bst b)]] w fun e w' => e = .returned (.tuple #[.string (bst []), .int .i64 70]) ∧ Below w.heap.size w w' := by
  have z := bst_size b
  go_enter Tryd.func28, Tryd.ntmps28
  go_wp2_with fail
  go_ret2
  exact ⟨rfl, (Below.refl _ _).alloc (Nat.le_refl _) _⟩

set_option maxHeartbeats 8000000 in
theorem refRPut_yes (q : Nat) (b : List UInt8) (w : World) (hq : q < 18446744073709551616) (hb : b.length ≤ 32768) :
    Calls Tryd.prog 28 #[.agg #[.int .u64 (q : Int), .string (bst b)]] w fun e w' => e = .returned (.tuple #[.string (bst (renc q b)), .int .i64 0]) ∧ Below w.heap.size w w' := by
  have z := bst_size b
  have HVAR := hid (fun (W : World) => refVar_any q W hq)
  have HTXT := hid (fun (W : World) => refText_any b W (by omega))
  have hfl := rfld_length q b
  have hsl := rsealed_length q b
  have hv1 := vlen_le q
  have hv2 := vlen_le b.length
  have HSL := hid (fun (W : World) => refSeal_any (rfld q b) W (by omega))
  have HPT := hid (fun (W : World) => refPut_yes (rsealed q b).length 4 W (by decide) (by decide) (by omega))
  have e1 : bst (vbytes q) ++ bst (vbytes b.length ++ b) = bst (rfld q b) := bst_append _ _
  have e2 : bst (be (rsealed q b).length 4) ++ bst (rsealed q b) = bst (renc q b) := bst_append _ _
  have z1 : (bst (vbytes q)).size = vlen q := by rw [bst_size, vbytes_length]
  have z2 : (bst (vbytes b.length ++ b)).size = vlen b.length + b.length := by rw [bst_size, List.length_append, vbytes_length]
  have z3 : (bst (be (rsealed q b).length 4)).size = 4 := by rw [bst_size, be_length]
  have z4 := bst_size (rsealed q b)
  have hs1 : ¬ 9223372036854775807 < (bst (vbytes q)).size + (bst (vbytes b.length ++ b)).size := by omega
  have hs2 : ¬ 9223372036854775807 < (bst (be (rsealed q b).length 4)).size + (bst (rsealed q b)).size := by omega
  rw [show rfld q b ++ sum4 (rfld q b) = rsealed q b from rfl] at HSL
  obtain ⟨L, hL⟩ : ∃ L, L = (rsealed q b).length := ⟨_, rfl⟩
  rw [← hL] at HPT e2 z3 z4 hs2 hsl
  have hL2 : L ≤ 40000 := by omega
  have hd : (L / 256 ^ 4 == 0) = true := by rw [Nat.div_eq_of_lt (by omega)]; rfl
  rw [hd] at HPT
  have HB1 := hid (show Below w.heap.size w (w.alloc (.cells #[.int .u64 (q : Int), .string (bst b)] 71)) from (Below.refl _ _).alloc (Nat.le_refl _) _)
  have hbk := Blk.new w 71 #[.int .u64 (q : Int), .string (bst b)]
  have hc0 : ∀ W, Beyond (w.alloc (.cells #[.int .u64 (q : Int), .string (bst b)] 71)) W → W.cell? ⟨w.heap.size, 0, none⟩ = some (.int .u64 (q : Int)) := fun W hW => (hbk.below hW hbk.lt).cell 0
  have hc1 : ∀ W, Beyond (w.alloc (.cells #[.int .u64 (q : Int), .string (bst b)] 71)) W → W.cell? ⟨w.heap.size, 1, none⟩ = some (.string (bst b)) := fun W hW => (hbk.below hW hbk.lt).cell 1
  clear hq hfl hsl hv1 hv2 hL hd hbk z1 z2 z3
  go_enter Tryd.func28, Tryd.ntmps28
  go_wp2_with fail
  generalize w.alloc (.cells #[.int .u64 (q : Int), .string (bst b)] 71) = w1 at *
  refine wp_region_held_drew (S := Beyond w1) (by kernel_rfl) (Beyond.drew _) (fun hS => ?_)
  refine stT 0 hS ?_
  try simp only [putr]
  refine stT 1 hS ?_
  try simp only [putr]
  refine stT 3 hS ?_
  try simp only [putr]
  refine stT 4 hS ?_
  try simp only [putr]
  refine rdH [2] ?_
  refine rcH (fun K hK => ?_) AllReadyH.nil
  go_simp
  go_fit (HVAR.out _)
  rintro e w3 ⟨rfl, hb3⟩
  have hS2 := Beyond.step hS hb3
  clear hb3
  refine hK.out _ _ (by assumption) (fun _ => ?_)
  clear hK K hS
  have hS := hS2
  try simp only [putr]
  refine rdH [5] ?_
  refine rcH (fun K hK => ?_) AllReadyH.nil
  go_simp
  go_fit (HTXT.out _)
  rintro e w4 ⟨rfl, hb4⟩
  have hS5 := Beyond.step hS hb4
  clear hb4
  refine hK.out _ _ (by assumption) (fun _ => ?_)
  clear hK K hS
  have hS := hS5
  try simp only [putr]
  refine stT 6 hS ?_
  try simp only [putr]
  refine rdH [7] ?_
  refine rcH (fun K hK => ?_) AllReadyH.nil
  go_simp
  go_fit (HSL.out _)
  rintro e w5 ⟨rfl, hb5⟩
  have hS7 := Beyond.step hS hb5
  clear hb5
  refine hK.out _ _ (by assumption) (fun _ => ?_)
  clear hK K hS
  have hS := hS7
  try simp only [putr]
  refine stT 8 hS ?_
  try simp only [putr]
  refine wpAnyH_done (by kernel_rfl) ?_ _
  have HB5 := hid (below_step HB1.out hS)
  clear hS hc0 hc1
  go_wp2_with fail
  go_fit (HPT.out _)
  rintro e w6 ⟨rfl, hb6⟩
  have HB6 := hid (below_step HB5.out hb6)
  clear hb6
  go_wp2_with fail
  go_ret2
  exact ⟨rfl, HB6.out⟩

end Go.Proofs.YtngclmjefadokaaDoor

namespace Go.Proofs.YtngclmjefadokaaDoor
open Go Go.RowKit

structure RFace : Prop where
  putNo : ∀ {q : Int} {b : List UInt8} {w : World}, 32768 < b.length → b.length ≤ 40000 → Calls Tryd.prog 51 #[.agg #[.int .u64 q, .string (bst b)]] w fun e w' => ∃ A c, e = .returned (.tuple #[.slice A 0 c, .int .i64 70]) ∧ Below w.heap.size w w'
  putYes : ∀ {q : Nat} {b : List UInt8} {w : World}, q < 18446744073709551616 → b.length ≤ 32768 → Table w → Calls Tryd.prog 51 #[.agg #[.int .u64 (q : Int), .string (bst b)]] w fun e w' =>
    ∃ A m c, e = .returned (.tuple #[.slice A m c, .int .i64 0]) ∧ Row w' w.heap.size 5 A m c (renc q b) ∧ Below w.heap.size w w'
  get : ∀ {A : Option Addr} {m c B : Nat} {l : List UInt8} {w : World}, At w B A l → m = l.length → m ≤ c → B ≤ w.heap.size → l.length ≤ 5000 → Table w → Calls Tryd.prog 36 #[.slice A m c] w fun e w' => e = .returned (recV (rget l)) ∧ Below w.heap.size w w'

end Go.Proofs.YtngclmjefadokaaDoor
