/-
  Batches: plain functions, no program.
-/
import Derived.Test.YtcdjbacljnofiaaCmpL
import Derived.Test.YtcdjbacljnofiaaJVars
namespace Go.Proofs.Ytcdjbacljnofiaa
open Go Go.RowKit

/-- a write: its key, its value, whether the key is gone -/
structure Wt where
  k : List UInt8
  v : List UInt8
  g : Bool
deriving DecidableEq
/-- a batch -/
structure Bt where
  c : Nat
  r : Nat
  s : Nat
  ws : List Wt
deriving DecidableEq

/-- f <= k -/
def leK (f k : List UInt8) : Bool := Op.bytesLess f k || f == k

/-- why a write may not be, behind a key -/
def chk1 (p : Option (List UInt8)) (x : Wt) : Nat :=
  if x.k.length < 1 ∨ 64 < x.k.length then 52 else if 256 < x.v.length ∨ (x.g = true ∧ 0 < x.v.length) then 53 else match p with
    | some q => if leK x.k q then 54 else 0
    | none => 0
def chks : Option (List UInt8) → List Wt → Nat
  | _, [] => 0
  | p, x :: l => if chk1 p x = 0 then chks (some x.k) l else chk1 p x
/-- why a batch may not be -/
def chk (ws : List Wt) : Nat := if ws.length = 0 then 50 else if 8 < ws.length then 51 else chks none ws

/-- a write's bytes -/
def wenc (x : Wt) : List UInt8 := vbytes x.k.length ++ x.k ++ (if x.g then [1] else 0 :: (vbytes x.v.length ++ x.v))
/-- a batch's bytes -/
def benc (b : Bt) : List UInt8 := vbytes b.c ++ vbytes b.r ++ vbytes b.s ++ vbytes b.ws.length ++ b.ws.flatMap wenc

def meets (a b : List Wt) : Bool := a.any fun x => b.any fun y => x.k == y.k

/-- the key ahead of the k-th write -/
def prevK (ws : List Wt) : Nat → Option (List UInt8)
  | 0 => none
  | k + 1 => (ws[k]?).map (·.k)
theorem prevK_succ {ws : List Wt} {k : Nat} {x : Wt} (h : ws[k]? = some x) : prevK ws (k + 1) = some x.k := by
  show (ws[k]?).map (·.k) = _
  rw [h]; rfl
theorem chks_drop {ws : List Wt} {p : Option (List UInt8)} {k : Nat} {x : Wt} (h : ws[k]? = some x) : chks p (ws.drop k) = if chk1 p x = 0 then chks (some x.k) (ws.drop (k + 1)) else chk1 p x := by
  obtain ⟨hk, hx⟩ := List.getElem?_eq_some_iff.1 h
  rw [List.drop_eq_getElem_cons hk, hx]
  rfl
theorem chk1_key {p : Option (List UInt8)} {x : Wt} (h : x.k.length < 1 ∨ 64 < x.k.length) : chk1 p x = 52 := by unfold chk1; rw [if_pos h]
theorem chk1_val {p : Option (List UInt8)} {x : Wt} (h0 : ¬ x.k.length < 1) (h1 : ¬ 64 < x.k.length) (h : 256 < x.v.length ∨ (x.g = true ∧ 0 < x.v.length)) : chk1 p x = 53 := by
  unfold chk1; rw [if_neg (by omega), if_pos h]
theorem chk1_first {x : Wt} (h0 : ¬ x.k.length < 1) (h1 : ¬ 64 < x.k.length) (h2 : ¬ 256 < x.v.length) (h3 : ¬ (x.g = true ∧ 0 < x.v.length)) : chk1 none x = 0 := by
  unfold chk1; rw [if_neg (by omega), if_neg (by intro h; rcases h with h | h; exact h2 h; exact h3 h)]
theorem chk1_more {x : Wt} {q : List UInt8} (h0 : ¬ x.k.length < 1) (h1 : ¬ 64 < x.k.length) (h2 : ¬ 256 < x.v.length) (h3 : ¬ (x.g = true ∧ 0 < x.v.length)) : chk1 (some q) x = if leK x.k q then 54 else 0 := by
  unfold chk1; rw [if_neg (by omega), if_neg (by intro h; rcases h with h | h; exact h2 h; exact h3 h)]

theorem chks_ok : ∀ (ws : List Wt) (p : Option (List UInt8)), chks p ws = 0 → ∀ x ∈ ws, 1 ≤ x.k.length ∧ x.k.length ≤ 64 ∧ x.v.length ≤ 256 ∧ (x.g = true → x.v = [])
  | [], _, _, x, hx => by simp at hx
  | y :: ws, p, h, x, hx => by
    unfold chks at h
    by_cases h0 : chk1 p y = 0
    · rw [if_pos h0] at h
      rcases List.mem_cons.1 hx with rfl | hx
      · by_cases h1 : x.k.length < 1 ∨ 64 < x.k.length
        · rw [chk1_key h1] at h0; cases h0
        · by_cases h2 : 256 < x.v.length ∨ (x.g = true ∧ 0 < x.v.length)
          · rw [chk1_val (fun h => h1 (.inl h)) (fun h => h1 (.inr h)) h2] at h0; cases h0
          · refine ⟨by omega, by omega, by omega, fun hg => ?_⟩
            have : ¬ 0 < x.v.length := fun h => h2 (.inr ⟨hg, h⟩)
            exact List.eq_nil_of_length_eq_zero (by omega)
      · exact chks_ok ws _ h x hx
    · rw [if_neg h0] at h; exact absurd h h0
theorem chk_ok {ws : List Wt} (h : chk ws = 0) : 1 ≤ ws.length ∧ ws.length ≤ 8 ∧ ∀ x ∈ ws, 1 ≤ x.k.length ∧ x.k.length ≤ 64 ∧ x.v.length ≤ 256 ∧ (x.g = true → x.v = []) := by
  unfold chk at h
  by_cases h0 : ws.length = 0
  · rw [if_pos h0] at h; cases h
  · rw [if_neg h0] at h
    by_cases h8 : 8 < ws.length
    · rw [if_pos h8] at h; cases h
    · rw [if_neg h8] at h
      exact ⟨by omega, by omega, chks_ok ws none h⟩
theorem wenc_len {x : Wt} (h1 : x.k.length ≤ 64) (h2 : x.v.length ≤ 256) : (wenc x).length ≤ 350 := by
  unfold wenc
  have a := vlen_le x.k.length
  have b := vlen_le x.v.length
  rw [List.length_append, List.length_append, vbytes_length]
  split
  · simp; omega
  · rw [List.length_cons, List.length_append, vbytes_length]; omega
theorem wencs_len : ∀ (ws : List Wt), (∀ x ∈ ws, x.k.length ≤ 64 ∧ x.v.length ≤ 256) → (ws.flatMap wenc).length ≤ 350 * ws.length
  | [], _ => by simp
  | x :: ws, h => by
    have h1 := h x (by simp)
    have h2 := wencs_len ws fun y hy => h y (by simp [hy])
    have h3 := wenc_len h1.1 h1.2
    simp only [List.flatMap_cons, List.length_append, List.length_cons]
    omega
/-- the numbers ahead of the writes -/
def bhead (c r s n : Nat) : List UInt8 := vbytes c ++ vbytes r ++ vbytes s ++ vbytes n
theorem bhead_len (c r s n : Nat) : (bhead c r s n).length ≤ 40 := by
  unfold bhead
  have a1 := vlen_le c
  have a2 := vlen_le r
  have a3 := vlen_le s
  have a4 := vlen_le n
  simp only [List.length_append, vbytes_length]
  omega
theorem take_snoc {ws : List Wt} {k : Nat} {x : Wt} (h : ws[k]? = some x) : ws.take (k + 1) = ws.take k ++ [x] := by
  obtain ⟨hk, hx⟩ := List.getElem?_eq_some_iff.1 h
  rw [List.take_succ_eq_append_getElem hk, hx]

end Go.Proofs.Ytcdjbacljnofiaa
