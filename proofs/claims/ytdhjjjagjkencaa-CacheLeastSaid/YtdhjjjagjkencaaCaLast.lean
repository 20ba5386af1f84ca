/-
  What was put last is there: plain.
-/
import Derived.Test.YtdhjjjagjkencaaCaKeep
namespace Go.Proofs.Ytdhjjjagjkencaa
open Go Go.RowKit

/-- the different ones, each where it is met first -/
def ded : List Int → List Int
  | [] => []
  | x :: l => x :: (ded l).filter (fun y => y ≠ x)
/-- as the law collects them, some being there already -/
def dd (acc : List Int) : List Int → List Int
  | [] => acc
  | x :: l => dd (if x ∈ acc then acc else acc ++ [x]) l
theorem dd_eq : ∀ (l acc : List Int), dd acc l = acc ++ (ded l).filter (fun y => y ∉ acc)
  | [], acc => by simp [dd, ded]
  | x :: l, acc => by
    unfold dd ded
    rw [dd_eq l]
    by_cases h : x ∈ acc
    · rw [if_pos h, List.filter_cons_of_neg (by simpa using h), List.filter_filter]
      congr 1
      refine List.filter_congr fun y _ => ?_
      by_cases hy : y ∈ acc
      · simp [hy]
      · have : y ≠ x := fun e => hy (e ▸ h)
        simp [hy, this]
    · rw [if_neg h, List.filter_cons_of_pos (by simpa using h), List.append_assoc, List.filter_filter]
      congr 1
      rw [List.singleton_append]
      congr 1
      refine List.filter_congr fun y _ => ?_
      simp [Bool.and_comm]
theorem ded_nodup : ∀ l : List Int, (ded l).Nodup
  | [] => List.Pairwise.nil
  | x :: l => by
    unfold ded
    rw [List.nodup_cons]
    refine ⟨fun h => ?_, (ded_nodup l).sublist List.filter_sublist⟩
    have := (List.mem_filter.1 h).2
    simp at this
theorem dd_nil (l : List Int) : dd [] l = ded l := by
  rw [dd_eq]
  simp
/-- taken from the front, then one in front of them, is one in front of all, taken -/
theorem take_front {D : List Int} (hn : D.Nodup) (k : Int) (n : Nat) : (k :: (D.take n).filter (fun y => y ≠ k)).take n = (k :: D.filter (fun y => y ≠ k)).take n := by
  match n with
  | 0 => simp
  | n + 1 =>
    rw [List.take_succ_cons, List.take_succ_cons]
    congr 1
    conv => rhs; rw [← List.take_append_drop (n + 1) D, List.filter_append]
    by_cases hl : D.length ≤ n + 1
    · rw [List.drop_of_length_le hl]; simp
    · have h1 : n ≤ ((D.take (n + 1)).filter (fun y => y ≠ k)).length := by
        have hnt : (D.take (n + 1)).Nodup := hn.sublist (List.take_sublist _ _)
        have e : (D.take (n + 1)).filter (fun y => y ≠ k) = (D.take (n + 1)).erase k := by
          rw [hnt.erase_eq_filter]
          refine List.filter_congr fun y _ => ?_
          by_cases q : y = k <;> simp [q]
        rw [e, List.length_erase, List.length_take]
        split <;> omega
      rw [List.take_append_of_le_length h1]
def idl (l : List En) : List Int := l.map (·.i)
theorem idl_outE {k : Int} : ∀ {l : List En}, Nd l → idl (outE (posE k l) l) = (idl l).filter (fun y => y ≠ k)
  | [], _ => by simp [idl, outE]
  | x :: l, h => by
    unfold Nd at h
    rw [List.map_cons, List.nodup_cons] at h
    unfold posE
    by_cases e : x.i = k
    · rw [if_pos e]
      have h0 : outE 0 (x :: l) = l := by simp [outE]
      rw [h0]
      show idl l = (x.i :: idl l).filter _
      rw [List.filter_cons_of_neg (by simp [e])]
      refine (List.filter_eq_self.2 fun y hy => ?_).symm
      have : y ≠ x.i := fun q => h.1 (q ▸ hy)
      simp [← e, this]
    · rw [if_neg e]
      have h0 : outE (posE k l + 1) (x :: l) = x :: outE (posE k l) l := by simp [outE]
      rw [h0]
      show x.i :: idl (outE (posE k l) l) = (x.i :: idl l).filter _
      rw [List.filter_cons_of_pos (by simp [e]), idl_outE h.2]
/-- the numbers that are there, ids having been put one by one, are the last n different ones -/
def LR (R : Nat) (ids : List Int) (l : List En) : Prop := idl l = (ded ids.reverse).take R
theorem LR.put {R : Nat} {ids : List Int} {l : List En} (h : LR R ids l) (hn : Nd l) (k : Int) (b : List UInt8) (d : Bool) : LR R (ids ++ [k]) (putE R k b d l) := by
  unfold LR at h ⊢
  rw [List.reverse_append, List.reverse_singleton, List.singleton_append]
  unfold ded putE inE
  unfold idl
  rw [List.map_take, List.map_cons]
  show (k :: idl (outE (posE k l) l)).take R = _
  rw [idl_outE hn, h, take_front (ded_nodup _)]
theorem LR.nil (R : Nat) : LR R [] [] := by simp [LR, idl, ded]

theorem dd_app : ∀ (a b acc : List Int), dd acc (a ++ b) = dd (dd acc a) b
  | [], _, _ => rfl
  | x :: a, b, acc => dd_app a b (if x ∈ acc then acc else acc ++ [x])
/-- what the law has collected, q numbers being left -/
def WantIs (xs : List Int) (q : Nat) (W : List Int) : Prop := W = dd [] (xs.reverse.take (xs.length - q))
theorem WantIs.start (xs : List Int) : WantIs xs xs.length [] := by unfold WantIs; rw [Nat.sub_self]; rfl
theorem WantIs.next {xs : List Int} {q : Nat} {W : List Int} {x : Int} (h : WantIs xs (q + 1) W) (hx : xs[q]? = some x) : WantIs xs q (if x ∈ W then W else W ++ [x]) := by
  unfold WantIs at h ⊢
  obtain ⟨hq, e⟩ := List.getElem?_eq_some_iff.1 hx
  have h1 : xs.reverse[xs.length - (q + 1)]? = some x := by
    rw [List.getElem?_reverse (by omega), show xs.length - 1 - (xs.length - (q + 1)) = q by omega]
    exact hx
  have h2 : xs.length - q = (xs.length - (q + 1)) + 1 := by omega
  rw [h2, take_nextE h1, dd_app, ← h]
  rfl
theorem WantIs.all {xs : List Int} {q R : Nat} {W : List Int} (h : WantIs xs q W) (hl : W.length ≤ R) (hs : q = 0 ∨ R ≤ W.length) : W = (ded xs.reverse).take R := by
  unfold WantIs at h
  rw [← dd_nil]
  have e : dd [] xs.reverse = dd W (xs.reverse.drop (xs.length - q)) := by
    conv => lhs; rw [← List.take_append_drop (xs.length - q) xs.reverse, dd_app, ← h]
  rcases hs with rfl | hs
  · rw [Nat.sub_zero, List.drop_of_length_le (by simp)] at e
    have e2 : dd [] xs.reverse = W := e
    rw [e2, List.take_of_length_le hl]
  · rw [e, dd_eq, List.take_append_of_le_length (by omega), List.take_of_length_le hl]

end Go.Proofs.Ytdhjjjagjkencaa
