/-
  A disk: plain functions, no program.
-/
import Derived.Test.YtlemoaigcakmcaaBase
namespace Go.Proofs.Ytlemoaigcakmcaa
open Go Go.RowKit

/-- sectors: what each one that is in use holds -/
abbrev Secs := Int → Option (List UInt8)
def upd (m : Secs) (i : Int) (v : Option (List UInt8)) : Secs := fun j => if j = i then v else m j
theorem upd_same (m : Secs) (i : Int) (v : Option (List UInt8)) : upd m i v i = v := if_pos rfl
theorem upd_other (m : Secs) {i j : Int} (v : Option (List UInt8)) (h : j ≠ i) : upd m i v j = m j := if_neg h
/-- how many of n are in use -/
def cnt (n : Nat) (m : Secs) : Nat := (List.range n).countP fun (i : Nat) => (m (i : Int)).isSome
/-- an operation that is pending: a write, or a free -/
structure POp where
  i : Int
  b : Option (List UInt8)
/-- a write of which n bytes survive, over what the ground held -/
def torn (b : List UInt8) (old : Option (List UInt8)) (n : Int) : List UInt8 := if (b.length : Int) ≤ n then b else b.take n.toNat ++ (old.getD []).drop n.toNat
def applyOp (g : Secs) (o : POp) (n : Int) : Secs := upd g o.i (o.b.map fun b => torn b (g o.i) n)
/-- how much of the i-th operation survives -/
def survive (l : List (Int × Int)) (i : Nat) : Option Int := (l.find? fun s => s.1 == (i : Int)).map (·.2)
def crashG (l : List (Int × Int)) : Nat → Secs → List POp → Secs
  | _, g, [] => g
  | i, g, o :: os => crashG l (i + 1) (match survive l i with | some n => applyOp g o n | none => g) os

structure Dk where
  size : Nat
  limit : Int
  view : Secs
  ground : Secs
  pend : List POp
namespace Dk
def used (s : Dk) : Nat := cnt s.size s.view
def new (n : Nat) : Dk := ⟨n, n, fun _ => none, fun _ => none, []⟩
def why (s : Dk) (i : Int) (b : List UInt8) : Nat := if i < 0 ∨ (s.size : Int) ≤ i then 61 else if 512 < b.length then 62 else if s.view i = none ∧ s.limit ≤ (s.used : Int) then 63 else 0
def write (s : Dk) (i : Int) (b : List UInt8) : Dk := if s.why i b = 0 then { s with view := upd s.view i (some b), pend := s.pend ++ [⟨i, some b⟩] } else s
def fwhy (s : Dk) (i : Int) : Nat := if s.view i = none then 61 else 0
def free (s : Dk) (i : Int) : Dk := if s.view i = none then s else { s with view := upd s.view i none, pend := s.pend ++ [⟨i, none⟩] }
def sync (s : Dk) : Dk := { s with ground := s.view, pend := [] }
def crash (s : Dk) (l : List (Int × Int)) : Dk := { s with view := crashG l 0 s.ground s.pend, ground := crashG l 0 s.ground s.pend, pend := [] }
def lim (s : Dk) (n : Int) : Dk := { s with limit := n }
end Dk

theorem cnt_none (n : Nat) : cnt n (fun _ => none) = 0 := by unfold cnt; rw [List.countP_eq_zero]; simp
theorem Dk.new_used (n : Nat) : (Dk.new n).used = 0 := cnt_none n
theorem Dk.write_ok {s : Dk} {i : Int} {b : List UInt8} (h : s.why i b = 0) : s.write i b = { s with view := upd s.view i (some b), pend := s.pend ++ [⟨i, some b⟩] } := if_pos h
theorem Dk.why_ok {s : Dk} {i : Int} {b : List UInt8} (h0 : 0 ≤ i) (h1 : i < (s.size : Int)) (h2 : b.length ≤ 512) (h3 : s.view i ≠ none ∨ (s.used : Int) < s.limit) : s.why i b = 0 := by
  unfold Dk.why
  rw [if_neg (by omega), if_neg (by omega), if_neg]
  rintro ⟨a, b⟩
  rcases h3 with h3 | h3
  · exact h3 a
  · omega

/-- DiskTorn's disk -/
def tornDk (old now : List UInt8) (n : Int) : Dk := (((((Dk.new 4).write 2 old).sync).write 2 now).crash [(0, n)])
theorem torn_why1 (old : List UInt8) (h : old.length ≤ 512) : (Dk.new 4).why 2 old = 0 := Dk.why_ok (by decide) (by decide) h (.inr (by rw [Dk.new_used]; decide))
theorem torn_why2 (old now : List UInt8) (h : old.length ≤ 512) (h' : now.length ≤ 512) : (((Dk.new 4).write 2 old).sync).why 2 now = 0 := by
  rw [Dk.write_ok (torn_why1 old h)]
  refine Dk.why_ok (by decide) (show (2 : Int) < ((4 : Nat) : Int) by decide) h' (.inl ?_)
  show (if (2 : Int) = 2 then some old else none) ≠ none
  simp
theorem torn_view (old now : List UInt8) (n : Int) (h : old.length ≤ 512) (h' : now.length ≤ 512) : (tornDk old now n).view 2 = some (torn now (some old) n) := by
  unfold tornDk
  rw [Dk.write_ok (torn_why2 old now h h'), Dk.write_ok (torn_why1 old h)]
  rfl

end Go.Proofs.Ytlemoaigcakmcaa
