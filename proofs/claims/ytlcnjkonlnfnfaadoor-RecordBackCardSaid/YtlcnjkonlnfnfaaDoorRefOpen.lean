/-
  The document's opening, by its contract.
-/
import Derived.Test.YtlcnjkonlnfnfaaDoorRefSeal
namespace Go.Proofs.YtlcnjkonlnfnfaaDoor
open Go Go.RowKit

theorem bst_inj {a b : List UInt8} (h : bst a = bst b) : a = b := by
  have := congrArg (fun s => s.data.toList) h
  simpa [bst] using this
theorem bst_take2 (l : List UInt8) (n : Nat) : (bst l).extract 0 n = bst (l.take n) := by
  apply ByteArray.ext
  simp [bst]

set_option maxHeartbeats 400000 in
theorem refOpen_short (l : List UInt8) (w : World) (hl : l.length < 4) :
    Calls Tryd.prog 35 #[.string (bst l)] w fun e w' => e = .returned (.tuple #[.string (bst []), .int .i64 20]) ∧ w = w' := by
  have hz := bst_size l
  go_enter Tryd.func35, Tryd.ntmps35
  go_wp2_with fail
  go_ret2
  exact ⟨rfl, rfl⟩

set_option maxHeartbeats 400000 in
theorem refOpen_good (l : List UInt8) (n : Nat) (w : World) (hn : n + 4 = l.length) (hl : l.length ≤ 70368744177664) (hok : l.drop n = sum4 (l.take n)) :
    Calls Tryd.prog 35 #[.string (bst l)] w fun e w' => e = .returned (.tuple #[.string (bst (l.take n)), .int .i64 0]) ∧ Below w.heap.size w w' := by
  have hz := bst_size l
  rw [← hn] at hz
  have hb : n ≤ 70368744177664 := by omega
  have heq : ((bst (l.take n ++ sum4 (l.take n))).toList == (bst l).toList) = true := by
    rw [bst_toList, bst_toList]
    rw [← hok, List.take_append_drop]
    simp
  obtain ⟨s, hs⟩ : ∃ s, s = bst l := ⟨_, rfl⟩
  have ht := bst_take2 l n
  rw [← hs] at hz ht heq ⊢
  have hpl : (l.take n).length ≤ 70368744177664 := by rw [List.length_take]; omega
  obtain ⟨p, hp⟩ : ∃ p, p = l.take n := ⟨_, rfl⟩
  rw [← hp] at ht heq hpl ⊢
  have HPL := hid hpl
  clear hs hn hp hpl hok
  go_enter Tryd.func35, Tryd.ntmps35
  go_wp2_with fail
  go_fit (refSeal_any p w HPL.out)
  rintro e w1 ⟨rfl, hb1⟩
  go_wp2_with fail
  go_ret2
  exact ⟨rfl, hb1⟩

set_option maxHeartbeats 400000 in
theorem refOpen_wrong (l : List UInt8) (n : Nat) (w : World) (hn : n + 4 = l.length) (hl : l.length ≤ 70368744177664) (hok : l.drop n ≠ sum4 (l.take n)) :
    Calls Tryd.prog 35 #[.string (bst l)] w fun e w' => e = .returned (.tuple #[.string (bst []), .int .i64 21]) ∧ Below w.heap.size w w' := by
  have hz := bst_size l
  rw [← hn] at hz
  have hb : n ≤ 70368744177664 := by omega
  have heq : ((bst (l.take n ++ sum4 (l.take n))).toList == (bst l).toList) = false := by
    rw [bst_toList, bst_toList]
    simp only [beq_eq_false_iff_ne, ne_eq]
    intro h
    apply hok
    have h2 : l.take n ++ sum4 (l.take n) = l.take n ++ l.drop n := by rw [h, List.take_append_drop]
    exact (List.append_cancel_left h2).symm
  obtain ⟨s, hs⟩ : ∃ s, s = bst l := ⟨_, rfl⟩
  have ht := bst_take2 l n
  rw [← hs] at hz ht heq ⊢
  have hpl : (l.take n).length ≤ 70368744177664 := by rw [List.length_take]; omega
  obtain ⟨p, hp⟩ : ∃ p, p = l.take n := ⟨_, rfl⟩
  rw [← hp] at ht heq hpl
  have HPL := hid hpl
  clear hs hn hp hpl hok
  go_enter Tryd.func35, Tryd.ntmps35
  go_wp2_with fail
  go_fit (refSeal_any p w HPL.out)
  rintro e w1 ⟨rfl, hb1⟩
  go_wp2_with fail
  go_ret2
  exact ⟨rfl, hb1⟩

end Go.Proofs.YtlcnjkonlnfnfaaDoor
