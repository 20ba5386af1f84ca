/-
  A writer's Num, Text, Flag, Bytes: by their contracts.
-/
import Derived.Test.YtcodljegicoeeaaWriter
import Derived.BigQuiet
import Derived.Deep.QuietTactic
namespace Go.Proofs.Ytcodljegicoeeaa
open Go Go.RowKit

theorem putVar_nat (v : Nat) (w : World) (hv : v < 18446744073709551616) :
    Calls Try.prog 43 #[.slice none 0 0, .int .u64 (v : Int)] w fun e w' =>
      ∃ A' m' c', e = .returned (.slice A' m' c') ∧ Row w' w.heap.size 5 A' m' c' (vbytes v) ∧ Below w.heap.size w w' :=
  putVar_is (A := none) (c := 0) (l := []) (v := v) rfl (At.nil w 0 _) (Nat.zero_le _) (by simp) hv

structure Wrote (w : World) (base p : Nat) (l : List UInt8) (e0 : Nat) (e : Ending) (w' : World) : Prop where
  ret : e = .returned (.tuple #[])
  wr : Wr w' base p l e0
  below : Keeps base w w'

/-- the numbers that are handed in: one -/
def One (w : World) (b : Nat) (u : Value) : Prop := w.cell? ⟨b, 0, none⟩ = some u ∧ b < w.heap.size

set_option maxHeartbeats 1000000 in
theorem wnum_any {base p b v : Nat} {l : List UInt8} {w : World} (h : Wr w base p l 0) (hv : v < 18446744073709551616) (hone : One w b (.int .u64 (v : Int))) (hl : l.length ≤ 1099511627776) :
    Calls Try.prog 31 #[.pointer (some ⟨p, 0, none⟩), .slice (some ⟨b, 0, none⟩) 1 1] w (Wrote w base p (l ++ vbytes v) 0) := by
  obtain ⟨hc, hlt⟩ := hone
  have HB := hid h.base
  have HV := hid hv
  have HL := hid hl
  have H := hid h
  clear h hv hl
  go_enter Try.func31, Try.ntmps31
  go_wp2_with fail
  go_loopw [8] (fun i wr => (i = .int .i64 0 ∧ wr = w) ∨ (i = .int .i64 1 ∧ Wr wr base p (l ++ vbytes v) 0 ∧ Keeps base w wr)) (fun i _ => 1 - (intOf i).toNat)
  case atStart => exact .inl ⟨rfl, rfl⟩
  case round =>
    rcases hrel with ⟨rfl, rfl⟩ | ⟨rfl, h1, h2⟩
    · go_wp2_with fail
      go_fit (putVar_nat v _ HV.out)
      rintro e w1 ⟨A', m', c', rfl, hr1, hb1⟩
      have HR := hid hr1
      have HB1 := hid hb1
      clear hr1 hb1
      go_wp2_with fail
      go_fit (push_any (H.out.step HB1.out) HR.out.at_ HR.out.1 (Nat.le_refl _) (by have := HL.out; rw [vbytes_length]; have := vlen_le v; omega))
      rintro e w2 ⟨rfl, h3, h4⟩
      have H3 := hid h3
      have H4 := hid ((Keeps.of HB1.out HB.out).trans h4)
      clear h3 h4
      go_wp2_with fail
      go_roundw
      case rel => exact .inr ⟨rfl, H3.out, H4.out⟩
      case measure => simp [intOf]
    · have H1 := hid h1
      have H2 := hid h2
      clear h1 h2
      go_wp2_with fail
      go_end0
      exact ⟨rfl, H1.out, H2.out⟩

set_option maxHeartbeats 1000000 in
theorem wnum_not {base p b e0 v : Nat} {l : List UInt8} {w : World} (h : Wr w base p l e0) (he : e0 ≠ 0) (hv : v < 18446744073709551616) (hone : One w b (.int .u64 (v : Int))) :
    Calls Try.prog 31 #[.pointer (some ⟨p, 0, none⟩), .slice (some ⟨b, 0, none⟩) 1 1] w (Wrote w base p l e0) := by
  obtain ⟨hc, hlt⟩ := hone
  have HB := hid h.base
  have HV := hid hv
  have H := hid h
  have HE := hid he
  clear h hv he
  go_enter Try.func31, Try.ntmps31
  go_wp2_with fail
  go_loopw [8] (fun i wr => (i = .int .i64 0 ∧ wr = w) ∨ (i = .int .i64 1 ∧ Wr wr base p l e0 ∧ Keeps base w wr)) (fun i _ => 1 - (intOf i).toNat)
  case atStart => exact .inl ⟨rfl, rfl⟩
  case round =>
    rcases hrel with ⟨rfl, rfl⟩ | ⟨rfl, h1, h2⟩
    · go_wp2_with fail
      go_fit (putVar_nat v _ HV.out)
      rintro e w1 ⟨A', m', c', rfl, hr1, hb1⟩
      have HB1 := hid hb1
      clear hr1 hb1
      go_wp2_with fail
      go_fit (push_not (H.out.step HB1.out) HE.out)
      rintro e w2 ⟨rfl, rfl⟩
      go_wp2_with fail
      go_roundw
      case rel => exact .inr ⟨rfl, H.out.step HB1.out, Keeps.of HB1.out HB.out⟩
      case measure => simp [intOf]
    · have H1 := hid h1
      have H2 := hid h2
      clear h1 h2
      go_wp2_with fail
      go_end0
      exact ⟨rfl, H1.out, H2.out⟩

theorem one_new (w : World) (t : TypeId) (u : Value) : One (w.alloc (.cells #[u] t)) w.heap.size u := ⟨cell_of_one (heap_alloc_new w _), by simp⟩

set_option maxHeartbeats 1000000 in
theorem bytes_any {base p : Nat} {l : List UInt8} {w : World} (h : Wr w base p l 0) (hl : l.length ≤ 140737488351232) :
    Calls Try.prog 33 #[.pointer (some ⟨p, 0, none⟩)] w fun e w' =>
      ∃ A' m' c', e = .returned (.tuple #[.slice A' m' c', .int .i64 0]) ∧ Row w' w.heap.size 5 A' m' c' l ∧ Below w.heap.size w w' := by
  obtain ⟨A, m, c, hb, hrow, hbp⟩ := h.out
  have c0 := WB.c0 hb
  have c1 := WB.c1 hb
  have H := hid (clone_any (c := c) hrow.at_ hrow.1 (Nat.le_refl _) hl)
  clear h hb hrow hl
  go_enter Try.func33, Try.ntmps33
  go_wp2_with fail
  go_fit H.out
  rintro e w2 ⟨A', m', c', rfl, h1, h2⟩
  go_wp2_with fail
  go_ret2
  exact ⟨_, _, _, rfl, h1, h2⟩
set_option maxHeartbeats 1000000 in
theorem bytes_not {base p e0 : Nat} {l : List UInt8} {w : World} (h : Wr w base p l e0) (he : e0 ≠ 0) :
    Calls Try.prog 33 #[.pointer (some ⟨p, 0, none⟩)] w fun e w' =>
      e = .returned (.tuple #[.slice none 0 0, .int .i64 (e0 : Int)]) ∧ Below w.heap.size w w' := by
  obtain ⟨A, m, c, hb, hrow, hbp⟩ := h.out
  have c0 := WB.c0 hb
  have c1 := WB.c1 hb
  have hE : ((e0 : Int) != 0) = true := by simpa using he
  clear h hb hrow he
  go_enter Try.func33, Try.ntmps33
  go_wp2_with fail
  go_quiet (fail)
  go_wp2_with fail
  go_ret2
  exact ⟨rfl, below_drewN (Below.refl _ _) _⟩

end Go.Proofs.Ytcodljegicoeeaa
