/-
  A field, and what stands first as one: plain functions.
-/
import Derived.Test.YtcodljegicoeeaaTakeText
namespace Go.Proofs.Ytcodljegicoeeaa
open Go Go.RowKit

/-- a field: its kind, its number, its text, its flag, the most -/
structure Fd where
  k : Int
  v : Nat
  s : List UInt8
  y : Bool
  m : Int
def Fd.val (f : Fd) : Value := .agg #[.int .i64 f.k, .int .u64 (f.v : Int), .string (bst f.s), .bool f.y, .int .i64 f.m]

/-- a field of a kind that stands first: it, what is left, what is wrong -/
def tk (k : Nat) (most : Int) (l : List UInt8) : Fd × List UInt8 × Nat :=
  if k = 0 then (⟨0, (rnum l).1, [], false, 0⟩, (rnum l).2)
  else if k = 1 then (⟨1, 0, (rtext l).1, false, 0⟩, (rtext l).2)
  else if k = 2 then (⟨2, 0, [], (rflag l).1, 0⟩, (rflag l).2)
  else (⟨3, (rcount most l).1, [], false, 0⟩, (rcount most l).2)
def zeroFd (k : Nat) : Fd := ⟨k, 0, [], false, 0⟩

theorem five {w : World} {b : Nat} {t : TypeId} {a0 a1 a2 a3 a4 : Value} (h : Blk w b t #[a0, a1, a2, a3, a4]) :
    w.cell? ⟨b, 0, none⟩ = some a0 ∧ w.cell? ⟨b, 1, none⟩ = some a1 ∧ w.cell? ⟨b, 2, none⟩ = some a2 ∧ w.cell? ⟨b, 3, none⟩ = some a3 ∧ w.cell? ⟨b, 4, none⟩ = some a4 ∧
      w.frozen? ⟨b, 0, none⟩ = false ∧ w.frozen? ⟨b, 1, none⟩ = false ∧ w.frozen? ⟨b, 2, none⟩ = false ∧ w.frozen? ⟨b, 3, none⟩ = false ∧ w.frozen? ⟨b, 4, none⟩ = false :=
  ⟨h.cell 0, h.cell 1, h.cell 2, h.cell 3, h.cell 4, h.free 0, h.free 1, h.free 2, h.free 3, h.free 4⟩

/-- a field's bytes -/
def enc (f : Fd) : List UInt8 := if f.k = 1 then vbytes f.s.length ++ f.s else if f.k = 2 then [if f.y then 1 else 0] else vbytes f.v
theorem enc_num {f : Fd} (h1 : f.k ≠ 1) (h2 : f.k ≠ 2) : enc f = vbytes f.v := by unfold enc; rw [if_neg h1, if_neg h2]
theorem enc_text {f : Fd} (h1 : f.k = 1) : enc f = vbytes f.s.length ++ f.s := by unfold enc; rw [if_pos h1]
theorem enc_flag {f : Fd} (h2 : f.k = 2) : enc f = [if f.y then 1 else 0] := by unfold enc; rw [if_neg (by omega), if_pos h2]
theorem enc_len (f : Fd) : (enc f).length ≤ 20 + f.s.length := by
  unfold enc
  split
  · rw [List.length_append, vbytes_length]; have := vlen_le f.s.length; omega
  · split
    · simp; omega
    · rw [vbytes_length]; have := vlen_le f.v; omega

end Go.Proofs.Ytcodljegicoeeaa
