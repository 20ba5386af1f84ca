/-
  Pages as plain functions.
-/
import Derived.Test.YtikggbopoajcbaaDoorCmpL
import Derived.Test.YtikggbopoajcbaaDoorJVars
namespace Go.Proofs.YtikggbopoajcbaaDoor
open Go Go.RowKit

/-- a cell: its key, its value -/
structure Cl where
  k : List UInt8
  v : List UInt8
deriving DecidableEq

def tenc (s : List UInt8) : List UInt8 := vbytes s.length ++ s
/-- a cell's bytes, and how many there are -/
def cenc (x : Cl) : List UInt8 := tenc x.k ++ tenc x.v
def clen (x : Cl) : Nat := vlen x.k.length + x.k.length + (vlen x.v.length + x.v.length)
theorem tenc_len (s : List UInt8) : (tenc s).length = vlen s.length + s.length := by simp [tenc, vbytes_length]
theorem cenc_len (x : Cl) : (cenc x).length = clen x := by simp [cenc, clen, tenc_len]
def csum : List Cl → Nat
  | [] => 0
  | x :: l => clen x + csum l
theorem csum_append (a b : List Cl) : csum (a ++ b) = csum a + csum b := by
  induction a with
  | nil => simp [csum]
  | cons x a ih => simp [csum, ih]; omega
theorem csum_take {l : List Cl} {k : Nat} {x : Cl} (h : l[k]? = some x) : csum (l.take (k + 1)) = csum (l.take k) + clen x := by
  obtain ⟨hk, hx⟩ := List.getElem?_eq_some_iff.1 h
  rw [List.take_succ_eq_append_getElem hk, csum_append, hx]
  simp [csum]
theorem csum_drop {l : List Cl} {k : Nat} {x : Cl} (h : l[k]? = some x) : csum (l.drop k) = clen x + csum (l.drop (k + 1)) := by
  obtain ⟨hk, hx⟩ := List.getElem?_eq_some_iff.1 h
  rw [List.drop_eq_getElem_cons hk, hx]
  rfl
theorem csum_split (l : List Cl) (k : Nat) : csum (l.take k) + csum (l.drop k) = csum l := by
  rw [← csum_append, List.take_append_drop]
def cencs (l : List Cl) : List UInt8 := l.flatMap cenc
theorem cencs_len (l : List Cl) : (cencs l).length = csum l := by
  induction l with
  | nil => rfl
  | cons x l ih => simp only [cencs, List.flatMap_cons, List.length_append, cenc_len] at *; simp [csum, ih]
theorem cencs_take {l : List Cl} {k : Nat} {x : Cl} (h : l[k]? = some x) : cencs (l.take (k + 1)) = cencs (l.take k) ++ cenc x := by
  obtain ⟨hk, hx⟩ := List.getElem?_eq_some_iff.1 h
  rw [List.take_succ_eq_append_getElem hk, hx]
  simp [cencs]
theorem clen_pos (x : Cl) : 2 ≤ clen x := by
  have := vlen_pos x.k.length
  have := vlen_pos x.v.length
  unfold clen; omega
theorem clen_few {x : Cl} {n m : Nat} (h1 : x.k.length ≤ n) (h2 : x.v.length ≤ m) : clen x ≤ n + m + 20 := by
  have := vlen_le x.k.length
  have := vlen_le x.v.length
  unfold clen; omega
theorem csum_few {l : List Cl} {n m : Nat} (h : ∀ x ∈ l, x.k.length ≤ n ∧ x.v.length ≤ m) : csum l ≤ l.length * (n + m + 20) := by
  induction l with
  | nil => simp [csum]
  | cons x l ih =>
    have h1 := h x (by simp)
    have h2 := ih (fun y hy => h y (by simp [hy]))
    have h3 := clen_few h1.1 h1.2
    simp only [csum, List.length_cons, Nat.add_mul]
    omega
theorem csum_two (l : List Cl) : 2 * l.length ≤ csum l := by
  induction l with
  | nil => simp [csum]
  | cons x l ih => have := clen_pos x; simp only [csum, List.length_cons]; omega

/-- a page's fields -/
def pfields (leaf : Bool) (next : Nat) (cs : List Cl) : List UInt8 := ([if leaf then 1 else 0] ++ vbytes next ++ vbytes cs.length) ++ cencs cs
/-- how long its encoding is -/
def psize (next : Nat) (cs : List Cl) : Nat := 1 + vlen next + vlen cs.length + csum cs + 4
theorem pfields_len (leaf : Bool) (next : Nat) (cs : List Cl) : (pfields leaf next cs).length + 4 = psize next cs := by
  simp only [pfields, psize, List.length_append, vbytes_length, cencs_len, List.length_cons, List.length_nil]

/-- f >= k -/
def geK (f k : List UInt8) : Bool := !Op.bytesLess f k
/-- why the cells may not be, behind a key -/
def chkC : Option (List UInt8) → List Cl → Nat
  | _, [] => 0
  | p, x :: l => if 480 < x.k.length + x.v.length then 100 else match p with
    | some q => if geK q x.k then 101 else chkC (some x.k) l
    | none => chkC (some x.k) l
/-- why a page may not be -/
def pchk (next : Int) (cs : List Cl) : Nat := if next < 0 ∨ 256 < next then 101 else if chkC none cs ≠ 0 then chkC none cs else if 2048 < psize next.toNat cs then 100 else 0
/-- the key ahead of the k-th cell -/
def prevC (cs : List Cl) : Nat → Option (List UInt8)
  | 0 => none
  | k + 1 => (cs[k]?).map (·.k)
theorem prevC_succ {cs : List Cl} {k : Nat} {x : Cl} (h : cs[k]? = some x) : prevC cs (k + 1) = some x.k := by
  show (cs[k]?).map (·.k) = _
  rw [h]; rfl
/-- does it rise behind that key? -/
def riseO (p : Option (List UInt8)) (k : List UInt8) : Bool := match p with
  | some q => Op.bytesLess q k
  | none => true
theorem chkC_cons (p : Option (List UInt8)) (x : Cl) (l : List Cl) : chkC p (x :: l) = if 480 < x.k.length + x.v.length then 100 else if riseO p x.k then chkC (some x.k) l else 101 := by
  conv => lhs; unfold chkC
  unfold riseO geK
  by_cases h1 : 480 < x.k.length + x.v.length
  · rw [if_pos h1, if_pos h1]
  · rw [if_neg h1, if_neg h1]
    cases p with
    | none => simp
    | some q => cases h : Op.bytesLess q x.k <;> simp [h]
theorem chkC_drop {cs : List Cl} {p : Option (List UInt8)} {k : Nat} {x : Cl} (h : cs[k]? = some x) : chkC p (cs.drop k) = if 480 < x.k.length + x.v.length then 100 else if riseO p x.k then chkC (some x.k) (cs.drop (k + 1)) else 101 := by
  obtain ⟨hk, hx⟩ := List.getElem?_eq_some_iff.1 h
  rw [List.drop_eq_getElem_cons hk, hx, chkC_cons]

/-- do the keys rise? -/
def risesO : Option (List UInt8) → List Cl → Bool
  | _, [] => true
  | p, x :: l => riseO p x.k && risesO (some x.k) l
def risesC (cs : List Cl) : Bool := risesO none cs
theorem risesO_drop {cs : List Cl} {p : Option (List UInt8)} {k : Nat} {x : Cl} (h : cs[k]? = some x) : risesO p (cs.drop k) = (riseO p x.k && risesO (some x.k) (cs.drop (k + 1))) := by
  obtain ⟨hk, hx⟩ := List.getElem?_eq_some_iff.1 h
  rw [List.drop_eq_getElem_cons hk, hx]
  rfl

/-- a page that isn't too great -/
def fewC (cs : List Cl) : Bool := decide (cs.length ≤ 100) && cs.all fun x => decide (x.k.length ≤ 600) && decide (x.v.length ≤ 600)
theorem fewC_drop {cs : List Cl} {k : Nat} {x : Cl} (h : cs[k]? = some x) : (cs.drop k).all (fun x => decide (x.k.length ≤ 600) && decide (x.v.length ≤ 600)) = ((decide (x.k.length ≤ 600) && decide (x.v.length ≤ 600)) && (cs.drop (k + 1)).all (fun x => decide (x.k.length ≤ 600) && decide (x.v.length ≤ 600))) := by
  obtain ⟨hk, hx⟩ := List.getElem?_eq_some_iff.1 h
  rw [List.drop_eq_getElem_cons hk, List.all_cons, hx]
structure Few (cs : List Cl) : Prop where
  len : cs.length ≤ 100
  each : ∀ x ∈ cs, x.k.length ≤ 600 ∧ x.v.length ≤ 600
theorem few_of {cs : List Cl} (h : fewC cs = true) : Few cs := by
  simp only [fewC, Bool.and_eq_true, decide_eq_true_eq, List.all_eq_true] at h
  exact ⟨h.1, h.2⟩
theorem Few.sum {cs : List Cl} (h : Few cs) : csum cs ≤ 122000 := by
  have h1 := csum_few h.each
  have h2 := h.len
  have : cs.length * (600 + 600 + 20) ≤ 100 * (600 + 600 + 20) := Nat.mul_le_mul_right _ h2
  omega

end Go.Proofs.YtikggbopoajcbaaDoor
