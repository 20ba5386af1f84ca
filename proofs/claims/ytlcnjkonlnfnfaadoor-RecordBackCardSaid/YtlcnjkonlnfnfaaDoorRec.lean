/-
  Records as bytes: plain functions, no program.
-/
import Derived.Test.YtlcnjkonlnfnfaaDoorTkVb
import Derived.Test.YtlcnjkonlnfnfaaDoorJSum
namespace Go.Proofs.YtlcnjkonlnfnfaaDoor
open Go Go.RowKit

/-- a record's fields, sealed, behind their length -/
def rfld (q : Nat) (b : List UInt8) : List UInt8 := vbytes q ++ (vbytes b.length ++ b)
def rsealed (q : Nat) (b : List UInt8) : List UInt8 := rfld q b ++ sum4 (rfld q b)
def renc (q : Nat) (b : List UInt8) : List UInt8 := be (rsealed q b).length 4 ++ rsealed q b
theorem rfld_length (q : Nat) (b : List UInt8) : (rfld q b).length = vlen q + (vlen b.length + b.length) := by unfold rfld; simp [vbytes_length]
theorem rsealed_length (q : Nat) (b : List UInt8) : (rsealed q b).length = vlen q + (vlen b.length + b.length) + 4 := by unfold rsealed; rw [List.length_append, rfld_length, sum4_length]
theorem renc_length (q : Nat) (b : List UInt8) : (renc q b).length = vlen q + (vlen b.length + b.length) + 8 := by unfold renc; rw [List.length_append, be_length, rsealed_length]; omega
theorem renc_pos (q : Nat) (b : List UInt8) : 10 ≤ (renc q b).length := by
  rw [renc_length]
  have := vlen_pos q
  have := vlen_pos b.length
  omega
theorem renc_le (q : Nat) (b : List UInt8) : (renc q b).length ≤ b.length + 28 := by
  rw [renc_length]
  have := vlen_le q
  have := vlen_le b.length
  omega

/-- the fields behind the seal -/
def rfields (t : List UInt8) : Option (Nat × List UInt8) :=
  if (rnum t).2.2 = 0 ∧ (rtext (rnum t).2.1).2.2 = 0 ∧ (rtext (rnum t).2.1).2.1 = [] ∧ (rtext (rnum t).2.1).1.length ≤ 32768 then some ((rnum t).1, (rtext (rnum t).2.1).1) else none
/-- the seal taken off -/
def runseal (s : List UInt8) : Option (List UInt8) := if 4 ≤ s.length ∧ s.drop (s.length - 4) = sum4 (s.take (s.length - 4)) then some (s.take (s.length - 4)) else none
def rget (l : List UInt8) : Option (Nat × List UInt8 × Nat) :=
  if l.length < 4 ∨ l.length - 4 < ofBe (l.take 4) then none
  else (runseal ((l.drop 4).take (ofBe (l.take 4)))).bind fun t => (rfields t).map fun x => (x.1, x.2, 4 + ofBe (l.take 4))

theorem rfields_rfld {q : Nat} {b : List UInt8} (hq : q < 18446744073709551616) (hb : b.length ≤ 32768) : rfields (rfld q b) = some (q, b) := by
  have h1 : rnum (rfld q b) = (q, vbytes b.length ++ b, 0) := rnum_vb hq _
  have h2 : rtext (vbytes b.length ++ b) = (b, [], 0) := by have := rtext_vb (s := b) (by omega) []; rwa [List.append_nil] at this
  unfold rfields
  rw [h1]
  dsimp only
  rw [h2]
  dsimp only
  rw [if_pos ⟨rfl, rfl, rfl, hb⟩]
theorem rfields_some {t : List UInt8} {q : Nat} {b : List UInt8} (h : rfields t = some (q, b)) : q < 18446744073709551616 ∧ b.length ≤ 32768 ∧ t = rfld q b := by
  unfold rfields at h
  split at h
  case isFalse => cases h
  case isTrue hc =>
    obtain ⟨h1, h2, h3, h4⟩ := hc
    injection h with h
    injection h with e1 e2
    have hn := rnum_all t
    have hlt := rnum_lt t
    generalize rnum t = o at *
    cases hn with
    | short h => cases h1
    | form h => cases h1
    | good v n hr hv hl hv2 hsplit =>
      dsimp only at *
      subst e1
      have hn2 := rnum_all (t.drop n)
      unfold rtext at h2 h3 h4 e2
      generalize rnum (t.drop n) = o2 at *
      cases hn2 with
      | short h => simp at h2
      | form h => simp at h2
      | good v2 n2 hr2 hv2' hl2 hv22 hs2 =>
        dsimp only at *
        rw [if_neg (by simp)] at h2 h3 h4 e2
        by_cases g1 : 65536 < v2
        · rw [if_pos g1] at h2; cases h2
        · rw [if_neg g1] at h2 h3 h4 e2
          by_cases g2 : ((t.drop n).drop n2).length < v2
          · rw [if_pos g2] at h2; cases h2
          · rw [if_neg g2] at h2 h3 h4 e2
            dsimp only at h2 h3 h4 e2
            have h5 : ((t.drop n).drop n2).take v2 = (t.drop n).drop n2 := by
              have := List.take_append_drop v2 ((t.drop n).drop n2)
              rw [h3, List.append_nil] at this
              exact this
            rw [h5] at e2 h4
            have hbl : b.length = v2 := by
              have h6 := congrArg List.length h5
              rw [List.length_take, e2] at h6
              rw [e2] at g2
              omega
            refine ⟨hlt, by rw [← e2]; exact h4, ?_⟩
            unfold rfld
            rw [hbl, ← e2, ← hs2]
            exact hsplit
theorem runseal_sealed (t : List UInt8) : runseal (t ++ sum4 t) = some t := by
  unfold runseal
  have h4 := sum4_length t
  have e1 : (t ++ sum4 t).length - 4 = t.length := by rw [List.length_append, h4]; omega
  rw [e1, List.drop_left, List.take_left, if_pos ⟨by rw [List.length_append, h4]; omega, rfl⟩]
theorem runseal_some {s t : List UInt8} (h : runseal s = some t) : s = t ++ sum4 t := by
  unfold runseal at h
  split at h
  case isFalse => cases h
  case isTrue hc =>
    injection h with h
    have := List.take_append_drop (s.length - 4) s
    rw [hc.2, h] at this
    exact this.symm
theorem rsealed_lt {q : Nat} {b : List UInt8} (hb : b.length ≤ 40000) : (rsealed q b).length < 256 ^ 4 := by
  rw [rsealed_length]
  have := vlen_le q
  have := vlen_le b.length
  omega
theorem rget_renc {q : Nat} {b : List UInt8} (hq : q < 18446744073709551616) (hb : b.length ≤ 32768) (t : List UInt8) : rget (renc q b ++ t) = some (q, b, (renc q b).length) := by
  have hbe := be_length (rsealed q b).length 4
  have e1 : (renc q b ++ t).take 4 = be (rsealed q b).length 4 := by
    unfold renc
    rw [List.append_assoc, List.take_append_of_le_length (by omega), List.take_of_length_le (by omega)]
  have e2 : (renc q b ++ t).drop 4 = rsealed q b ++ t := by
    unfold renc
    rw [List.append_assoc, List.drop_append_of_le_length (by omega), List.drop_of_length_le (by omega), List.nil_append]
  have e3 : ofBe (be (rsealed q b).length 4) = (rsealed q b).length := ofBe_be 4 _ (rsealed_lt (by omega))
  have hl : (renc q b).length = 4 + (rsealed q b).length := by unfold renc; rw [List.length_append, hbe]
  unfold rget
  rw [e1, e2, e3, if_neg (by rw [List.length_append]; omega), List.take_left]
  unfold rsealed
  rw [runseal_sealed]
  show Option.map _ (rfields (rfld q b)) = _
  rw [rfields_rfld hq hb, hl]
  rfl
theorem rget_some {l : List UInt8} {q k : Nat} {b : List UInt8} (h : rget l = some (q, b, k)) : q < 18446744073709551616 ∧ b.length ≤ 32768 ∧ k = (renc q b).length ∧ k ≤ l.length ∧ l = renc q b ++ l.drop k := by
  unfold rget at h
  split at h
  case isTrue => cases h
  case isFalse hc =>
    cases hs : runseal ((l.drop 4).take (ofBe (l.take 4))) with
    | none => rw [hs] at h; cases h
    | some t =>
      rw [hs] at h
      have h' : (rfields t).map (fun x => (x.1, x.2, 4 + ofBe (l.take 4))) = some (q, b, k) := h
      cases hf : rfields t with
      | none => rw [hf] at h'; cases h'
      | some x =>
        rw [hf] at h'
        obtain ⟨x1, x2⟩ := x
        injection h' with h'
        injection h' with e1 h'
        injection h' with e2 e3
        dsimp only at e1 e2
        subst e1 e2
        obtain ⟨g1, g2, g3⟩ := rfields_some hf
        have g4 := runseal_some hs
        rw [g3] at g4
        have hlen : (rsealed x1 x2).length = ofBe (l.take 4) := by
          have := congrArg List.length g4
          rw [List.length_take, List.length_drop] at this
          unfold rsealed
          omega
        have ht4 : (l.take 4).length = 4 := by rw [List.length_take]; omega
        have hr : renc x1 x2 = l.take k := by
          unfold renc
          rw [hlen, be_ofBe _ _ ht4, show rsealed x1 x2 = _ from g4.symm, ← e3]
          exact (List.take_add (l := l) (i := 4) (j := ofBe (l.take 4))).symm
        have hk : k = (renc x1 x2).length := by
          rw [hr, List.length_take]
          omega
        refine ⟨g1, g2, hk, by omega, ?_⟩
        rw [hr, List.take_append_drop]
theorem rget_len {l : List UInt8} {q k : Nat} {b : List UInt8} (h : rget l = some (q, b, k)) : 10 ≤ k ∧ k ≤ l.length := by
  obtain ⟨_, _, h3, h4, _⟩ := rget_some h
  have := renc_pos q b
  omega
theorem rget_short {l : List UInt8} {q : Nat} {b t : List UInt8} (h : l ++ t = renc q b) (hb : b.length ≤ 32768) (ht : 0 < t.length) : rget l = none := by
  unfold rget
  by_cases hl : l.length < 4
  · rw [if_pos (.inl hl)]
  · refine if_pos (.inr ?_)
    have hbe := be_length (rsealed q b).length 4
    have e1 : l.take 4 = be (rsealed q b).length 4 := by
      have h1 : (l ++ t).take 4 = l.take 4 := List.take_append_of_le_length (by omega)
      rw [← h1, h]
      unfold renc
      rw [List.take_append_of_le_length (by omega), List.take_of_length_le (by omega)]
    have hl2 := congrArg List.length h
    unfold renc at hl2
    rw [List.length_append, List.length_append, hbe] at hl2
    rw [e1, ofBe_be 4 _ (rsealed_lt (by omega))]
    omega

/-! ### one behind the other -/
def next64 (q : Nat) : Nat := (q + 1) % 18446744073709551616
def rscanF : Nat → List UInt8 → Nat → List (Nat × List UInt8) × Nat
  | 0, _, _ => ([], 0)
  | f + 1, l, q => match rget l with
    | some (p, b, k) => if p = q then ((p, b) :: (rscanF f (l.drop k) (next64 q)).1, k + (rscanF f (l.drop k) (next64 q)).2) else ([], 0)
    | none => ([], 0)
def rscan (l : List UInt8) (q : Nat) : List (Nat × List UInt8) × Nat := rscanF (l.length + 1) l q
theorem rscanF_more : ∀ {f f' : Nat} {l : List UInt8} {q : Nat}, l.length < f → l.length < f' → rscanF f l q = rscanF f' l q
  | 0, _, _, _, h, _ => by omega
  | _, 0, _, _, _, h => by omega
  | f + 1, f' + 1, l, q, h, h' => by
    unfold rscanF
    cases hg : rget l with
    | none => rfl
    | some x =>
      obtain ⟨p, b, k⟩ := x
      have hk := rget_len hg
      dsimp only
      rw [rscanF_more (f := f) (f' := f') (by rw [List.length_drop]; omega) (by rw [List.length_drop]; omega)]
theorem rscan_eq (l : List UInt8) (q : Nat) : rscan l q = match rget l with
    | some (p, b, k) => if p = q then ((p, b) :: (rscan (l.drop k) (next64 q)).1, k + (rscan (l.drop k) (next64 q)).2) else ([], 0)
    | none => ([], 0) := by
  unfold rscan
  rw [rscanF]
  cases hg : rget l with
  | none => rfl
  | some x =>
    obtain ⟨p, b, k⟩ := x
    have hk := rget_len hg
    dsimp only
    rw [rscanF_more (f := l.length) (f' := (l.drop k).length + 1) (by rw [List.length_drop]; omega) (by omega)]
theorem rscan_le : ∀ {n : Nat} {l : List UInt8} {q : Nat}, l.length ≤ n → (rscan l q).2 ≤ l.length
  | n, l, q, hn => by
    rw [rscan_eq]
    cases hg : rget l with
    | none => exact Nat.zero_le _
    | some x =>
      obtain ⟨p, b, k⟩ := x
      have hk := rget_len hg
      dsimp only
      split
      · match n with
        | 0 => omega
        | n + 1 =>
          have := rscan_le (n := n) (l := l.drop k) (q := next64 q) (by rw [List.length_drop]; omega)
          rw [List.length_drop] at this
          dsimp only
          omega
      · exact Nat.zero_le _

/-- records one behind the other, numbered from q on -/
def rall : Nat → List (List UInt8) → List UInt8
  | _, [] => []
  | q, b :: bs => renc q b ++ rall (next64 q) bs
def rnumbered : Nat → List (List UInt8) → List (Nat × List UInt8)
  | _, [] => []
  | q, b :: bs => (q, b) :: rnumbered (next64 q) bs
/-- where each one ends -/
def rends : Nat → Nat → List (List UInt8) → List Nat
  | _, _, [] => []
  | at_, q, b :: bs => (at_ + (renc q b).length) :: rends (at_ + (renc q b).length) (next64 q) bs
/-- how many are whole in the first n bytes -/
def rwhole : Nat → Nat → List (List UInt8) → Nat
  | _, _, [] => 0
  | q, n, b :: bs => if (renc q b).length ≤ n then rwhole (next64 q) (n - (renc q b).length) bs + 1 else 0
theorem next64_lt (q : Nat) : next64 q < 18446744073709551616 := Nat.mod_lt _ (by decide)
/-- CUT OFF ANYWHERE -/
theorem rscan_cut : ∀ (bs : List (List UInt8)) (q n : Nat), q < 18446744073709551616 → (∀ b ∈ bs, b.length ≤ 32768) → n ≤ (rall q bs).length →
    rscan ((rall q bs).take n) q = ((rnumbered q bs).take (rwhole q n bs), (rall q (bs.take (rwhole q n bs))).length)
  | [], q, n, hq, hb, hn => by
    have : rget ((rall q []).take n) = none := by
      have e : (rall q []).take n = [] := by simp [rall]
      rw [e]; rfl
    rw [rscan_eq, this]
    rfl
  | b :: bs, q, n, hq, hb, hn => by
    have hb0 := hb b (by simp)
    unfold rwhole
    by_cases h : (renc q b).length ≤ n
    · rw [if_pos h]
      have e1 : (rall q (b :: bs)).take n = renc q b ++ (rall (next64 q) bs).take (n - (renc q b).length) := by
        show (renc q b ++ rall (next64 q) bs).take n = _
        rw [List.take_append, List.take_of_length_le h]
      have hn2 : n - (renc q b).length ≤ (rall (next64 q) bs).length := by
        have : (rall q (b :: bs)).length = (renc q b).length + (rall (next64 q) bs).length := by show (renc q b ++ _).length = _; rw [List.length_append]
        omega
      have ih := rscan_cut bs (next64 q) (n - (renc q b).length) (next64_lt q) (fun x hx => hb x (by simp [hx])) hn2
      rw [e1, rscan_eq, rget_renc hq hb0]
      dsimp only
      rw [if_pos rfl, List.drop_left, ih]
      refine Prod.ext ?_ ?_
      · rfl
      · show _ = (renc q b ++ rall (next64 q) (bs.take _)).length
        rw [List.length_append]
    · rw [if_neg h]
      have e1 : (rall q (b :: bs)).take n = (renc q b).take n := by
        show (renc q b ++ rall (next64 q) bs).take n = _
        rw [List.take_append_of_le_length (by omega)]
      have : rget ((rall q (b :: bs)).take n) = none := by
        rw [e1]
        exact rget_short (q := q) (b := b) (t := (renc q b).drop n) (List.take_append_drop n _) hb0 (by rw [List.length_drop]; omega)
      rw [rscan_eq, this]
      rfl

end Go.Proofs.YtlcnjkonlnfnfaaDoor
