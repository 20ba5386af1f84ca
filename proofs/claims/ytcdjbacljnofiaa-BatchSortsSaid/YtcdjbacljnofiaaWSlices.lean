/-
  Parts of a slice of writes whose bounds are letters.
-/
import Derived.Test.YtcdjbacljnofiaaWRow
namespace Go.Proofs.Ytcdjbacljnofiaa
open Go Go.RowKit

theorem WAt.take {w : World} {B : Nat} {A : Option Addr} {l : List Wt} (h : WAt w B A l) (k : Nat) : WAt w B A (l.take k) := ⟨fun hl => by
  obtain ⟨b, off, e, hb, hc⟩ := h.out (by rw [List.length_take] at hl; omega)
  exact ⟨b, off, e, hb, fun j x hj => hc j x (by
    rw [List.getElem?_take] at hj
    split at hj
    · exact hj
    · cases hj)⟩⟩
theorem WAt.cut {w : World} {B c k : Nat} {A : Option Addr} {l : List Wt} (h : WAt w B A l) (hc : l.length ≤ c) :
    WAt w B (if c = k then A else A.map (·.add (k * 3))) (l.drop k) := ⟨fun hl => by
  rw [List.length_drop] at hl
  obtain ⟨b, off, rfl, hb, hcell⟩ := h.out (by omega)
  rw [if_neg (by omega)]
  have e2 : (⟨b, off, none⟩ : Addr).add (k * 3) = ⟨b, off + k * 3, none⟩ := by unfold Addr.add; split <;> simp_all
  refine ⟨b, off + k * 3, by rw [Option.map_some, e2], hb, fun j x hj => ?_⟩
  have := hcell (k + j) x (by rw [← hj, List.getElem?_drop])
  rwa [show off + (k + j) * 3 = off + k * 3 + j * 3 by omega] at this⟩

/-- s[n:] -/
theorem wslice_from {w : World} {B m c n : Nat} {A : Option Addr} {l : List Wt} (hA : WAt w B A l) (hm : m = l.length) (hc : m ≤ c) (hn : n ≤ m) :
    ∃ A', (∀ (k : IntKind) (W : World), (Instr.slice 23 (.slice A m c) (some (.int k (n : Int))) none none).run Try.prog W = .ok (.slice A' (m - n) (c - n)) W) ∧ WAt w B A' (l.drop n) := by
  obtain ⟨i0, hi, hz0, hz1, hz2⟩ := info_parts info_write
  refine ⟨if c = n then A else A.map (·.add (n * 3)), fun k W => ?_, hA.cut (k := n) (by omega)⟩
  have e : Try.prog.elem 23 = 43 := by kernel_rfl
  rw [run_slice_l (P := Try.prog) W 23 A m c (by rw [e]; exact Try.underlying23) k n (by omega) (by omega), e]
  simp [sizeOf, typeInfo, hi, hz1, sliced]
/-- s[:n] -/
theorem wslice_to {w : World} {B m c n : Nat} {A : Option Addr} {l : List Wt} (hA : WAt w B A l) (hm : m = l.length) (hc : m ≤ c) (hn : n ≤ m) :
    ∃ A', (∀ (k : IntKind) (W : World), (Instr.slice 23 (.slice A m c) none (some (.int k (n : Int))) none).run Try.prog W = .ok (.slice A' n c) W) ∧ WAt w B A' (l.take n) := by
  obtain ⟨i0, hi, hz0, hz1, hz2⟩ := info_parts info_write
  refine ⟨if c = 0 then A else A.map (·.add 0), fun k W => ?_, ?_⟩
  · have e : Try.prog.elem 23 = 43 := by kernel_rfl
    rw [run_slice_h (P := Try.prog) W 23 A m c (by rw [e]; exact Try.underlying23) k n (by omega) (by omega), e]
    simp [sizeOf, typeInfo, hi, hz1, sliced]
  · by_cases h0 : c = 0
    · rw [if_pos h0]
      exact hA.take n
    · have h := hA.cut (c := c) (k := 0) (by omega)
      rw [if_neg h0, List.drop_zero] at h
      rw [if_neg h0]
      exact h.take n
theorem WAt.grown {w w' : World} {B : Nat} {A : Option Addr} {row : Option Nat} {ws : List Wt} (h : WAt w B A ws) (hg : w.grownBy w' row) (hB : B ≤ w.heap.size) (hne : ∀ b off, A = some ⟨b, off, none⟩ → some b ≠ row) : WAt w' B A ws := ⟨fun hl => by
  obtain ⟨b, off, e, hb, hc⟩ := h.out hl
  exact ⟨b, off, e, hb, fun i x hx => (hc i x hx).keep (hg.block b (by omega) (hne b off e))⟩⟩

end Go.Proofs.Ytcdjbacljnofiaa
