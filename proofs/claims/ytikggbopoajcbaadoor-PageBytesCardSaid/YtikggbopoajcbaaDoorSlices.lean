/-
  Parts of a slice of bytes whose bounds are letters.
-/
import Derived.Test.YtikggbopoajcbaaDoorWords
namespace Go.Proofs.YtikggbopoajcbaaDoor
open Go Go.RowKit

/-- the first k of a row -/
theorem At.take {w : World} {B : Nat} {A : Option Addr} {l : List UInt8} (h : At w B A l) (k : Nat) : At w B A (l.take k) := fun hl => by
  obtain ⟨b, off, e, hb, hc⟩ := h (by rw [List.length_take] at hl; omega)
  exact ⟨b, off, e, hb, fun j x hj => hc j x (by
    rw [List.getElem?_take] at hj
    split at hj
    · exact hj
    · cases hj)⟩

/-- s[n:] -/
theorem slice_from {w : World} {B m c n : Nat} {A : Option Addr} {l : List UInt8} (hA : At w B A l) (hm : m = l.length) (hc : m ≤ c) (hn : n ≤ m) :
    ∃ A', (∀ (k : IntKind) (W : World), (Instr.slice 27 (.slice A m c) (some (.int k (n : Int))) none none).run Tryd.prog W = .ok (.slice A' (m - n) (c - n)) W) ∧ At w B A' (l.drop n) := by
  obtain ⟨i0, hi, hz0, hz1, hz2⟩ := info_parts info_byte
  refine ⟨if c = n then A else A.map (·.add n), fun k W => ?_, hA.cut (k := n) (by omega)⟩
  have e : Tryd.prog.elem 27 = 5 := by kernel_rfl
  rw [run_slice_l (P := Tryd.prog) W 27 A m c (by rw [e]; exact Tryd.underlying27) k n (by omega) (by omega), e]
  simp [sizeOf, typeInfo, hi, hz1, sliced]

/-- s[:n:n] -/
theorem slice_full {w : World} {B m c n : Nat} {A : Option Addr} {l : List UInt8} (hA : At w B A l) (hm : m = l.length) (hc : m ≤ c) (hn : n ≤ m) :
    ∃ A', (∀ (k k' : IntKind) (W : World), (Instr.slice 27 (.slice A m c) none (some (.int k (n : Int))) (some (.int k' (n : Int)))).run Tryd.prog W = .ok (.slice A' n n) W) ∧ At w B A' (l.take n) := by
  obtain ⟨i0, hi, hz0, hz1, hz2⟩ := info_parts info_byte
  refine ⟨if n = 0 then A else A.map (·.add 0), fun k k' W => ?_, ?_⟩
  · have e : Tryd.prog.elem 27 = 5 := by kernel_rfl
    rw [run_slice_hm (P := Tryd.prog) W 27 A m c (by rw [e]; exact Tryd.underlying27) k k' n n (by omega) (by omega) (by omega), e]
    simp [sizeOf, typeInfo, hi, hz1, sliced]
  · by_cases h0 : n = 0
    · subst h0
      rw [List.take_zero]
      exact At.nil _ _ _
    · have h := hA.cut (c := l.length + 1) (k := 0) (by omega)
      rw [if_neg (by omega), List.drop_zero] at h
      rw [if_neg h0]
      exact h.take n

end Go.Proofs.YtikggbopoajcbaaDoor
