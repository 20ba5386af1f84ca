/-
  Acts: few, do. Over what is to be shown of the landed code.
-/
import Derived.Test.YtlemoaigcakmcaaDFace
import Derived.Test.YtlemoaigcakmcaaStrCut
import Derived.Test.YtlemoaigcakmcaaBytesNew
import Derived.Test.YtlemoaigcakmcaaBlock
namespace Go.Proofs.Ytlemoaigcakmcaa
open Go Go.RowKit

/-- an act: its kind, its place, its bytes, its survivors -/
structure Act6 where
  k : Int
  i : Int
  b : List UInt8
  l : List (Int × Int)
def Act6.val (x : Act6) (A : Option Addr) (n c : Nat) : Value := .agg #[.int .i64 x.k, .int .i64 x.i, .string (bst x.b), .slice A n c]
def Act6.few (x : Act6) : Act6 := { x with b := x.b.take 600, l := x.l.take 60 }
theorem SvAt.more {w : World} {B B' : Nat} {A : Option Addr} {l : List (Int × Int)} (h : SvAt w B A l) (hB : B ≤ B') : SvAt w B' A l := fun hl => by
  obtain ⟨b, off, e, hb, hc⟩ := h hl
  exact ⟨b, off, e, by omega, hc⟩
theorem SvAt.below {w w' : World} {B : Nat} {A : Option Addr} {l : List (Int × Int)} (h : SvAt w B A l) (hb : Below B w w') : SvAt w' B A l := fun hl => by
  obtain ⟨b, off, e, hlt, hc⟩ := h hl
  refine ⟨b, off, e, hlt, fun i s hi => ?_⟩
  have hk : ∀ j, w'.cell? ⟨b, j, none⟩ = w.cell? ⟨b, j, none⟩ := fun j => World.cell?_of_block (a := ⟨b, j, none⟩) (hb.block b hlt)
  rw [hk, hk]
  exact hc i s hi
theorem SvAt.take {w : World} {B : Nat} {A : Option Addr} {l : List (Int × Int)} (h : SvAt w B A l) (n : Nat) : SvAt w B A (l.take n) := fun hl => by
  obtain ⟨b, off, e, hb, hc⟩ := h (by rw [List.length_take] at hl; omega)
  refine ⟨b, off, e, hb, fun i s hi => hc i s ?_⟩
  rw [List.getElem?_take] at hi
  split at hi
  · exact hi
  · cases hi

/-- what stands in memory in few: the act's box, a zero act -/
theorem few_blocks (w : World) (t : TypeId) (a0 a1 a2 a3 z0 z1 z2 z3 : Value) :
    Blk ((w.alloc (.cells #[a0, a1, a2, a3] t)).alloc (.cells #[z0, z1, z2, z3] t)) w.heap.size t #[a0, a1, a2, a3] ∧ Blk ((w.alloc (.cells #[a0, a1, a2, a3] t)).alloc (.cells #[z0, z1, z2, z3] t)) (w.heap.size + 1) t #[z0, z1, z2, z3] ∧
      Below w.heap.size w ((w.alloc (.cells #[a0, a1, a2, a3] t)).alloc (.cells #[z0, z1, z2, z3] t)) := by
  have s1 : (w.alloc (.cells #[a0, a1, a2, a3] t)).heap.size = w.heap.size + 1 := by simp
  have n1 := Blk.new (w.alloc (.cells #[a0, a1, a2, a3] t)) t #[z0, z1, z2, z3]
  rw [s1] at n1
  exact ⟨(Blk.new w _ _).alloc _, n1, ((Below.refl _ _).alloc (Nat.le_refl _) _).alloc (by simp) _⟩

set_option maxHeartbeats 4000000 in
set_option maxRecDepth 100000 in
theorem few_any {x : Act6} {A : Option Addr} {n c B : Nat} {w : World} (hA : SvAt w B A x.l) (hn : n = x.l.length) (hnc : n ≤ c) (hx : x.b.length ≤ 9223372036854775807) (hc : c ≤ 9223372036854775807) :
    Calls Try.prog 9 #[x.val A n c] w fun e w' => (∃ n', e = .returned (x.few.val A n' c) ∧ n' = x.few.l.length ∧ n' ≤ c) ∧ Below w.heap.size w w' := by
  obtain ⟨k, i, b, l⟩ := x
  unfold Act6.val Act6.few
  dsimp only at hA hn hx ⊢
  have z := bst_size b
  obtain ⟨hb1, hb2, hb3⟩ := few_blocks w 32 (.int .i64 k) (.int .i64 i) (.string (bst b)) (.slice A n c) (.int .i64 0) (.int .i64 0) (.string ⟨#[]⟩) (.slice none 0 0)
  have HN := hid hn
  clear hb1 hb2 hb3 hn
  have hx6 := bstTake b 600
  by_cases h6 : 600 < b.length
  · by_cases h60 : 60 < n
    · skip
      go_enter Try.func9, Try.ntmps9
      go_wp2_with fail
      obtain ⟨q1, q2, q3⟩ := few_blocks w 32 (.int .i64 k) (.int .i64 i) (.string (bst (b.take 600))) (.slice A 60 c) (.int .i64 k) (.int .i64 i) (.string (bst (b.take 600))) (.slice A 60 c)
      obtain ⟨x0, x1, x2, x3, _, _, _, _⟩ := four q2
      exact bodyPost_ret (v := .agg #[.int .i64 k, .int .i64 i, .string (bst (b.take 600)), .slice A 60 c]) (by simp [results, Try.results9, go_sem, x0, x1, x2, x3]) rfl ⟨⟨60, rfl, by rw [List.length_take, ← HN.out]; omega, by omega⟩, q3⟩
    · skip
      go_enter Try.func9, Try.ntmps9
      go_wp2_with fail
      obtain ⟨q1, q2, q3⟩ := few_blocks w 32 (.int .i64 k) (.int .i64 i) (.string (bst (b.take 600))) (.slice A n c) (.int .i64 k) (.int .i64 i) (.string (bst (b.take 600))) (.slice A n c)
      obtain ⟨x0, x1, x2, x3, _, _, _, _⟩ := four q2
      exact bodyPost_ret (v := .agg #[.int .i64 k, .int .i64 i, .string (bst (b.take 600)), .slice A n c]) (by simp [results, Try.results9, go_sem, x0, x1, x2, x3]) rfl ⟨⟨n, rfl, by rw [List.length_take, ← HN.out]; omega, by omega⟩, q3⟩
  · have hb : b.take 600 = b := List.take_of_length_le (by omega)
    rw [hb]
    by_cases h60 : 60 < n
    · skip
      go_enter Try.func9, Try.ntmps9
      go_wp2_with fail
      obtain ⟨q1, q2, q3⟩ := few_blocks w 32 (.int .i64 k) (.int .i64 i) (.string (bst b)) (.slice A 60 c) (.int .i64 k) (.int .i64 i) (.string (bst b)) (.slice A 60 c)
      obtain ⟨x0, x1, x2, x3, _, _, _, _⟩ := four q2
      exact bodyPost_ret (v := .agg #[.int .i64 k, .int .i64 i, .string (bst b), .slice A 60 c]) (by simp [results, Try.results9, go_sem, x0, x1, x2, x3]) rfl ⟨⟨60, rfl, by rw [List.length_take, ← HN.out]; omega, by omega⟩, q3⟩
    · skip
      go_enter Try.func9, Try.ntmps9
      go_wp2_with fail
      obtain ⟨q1, q2, q3⟩ := few_blocks w 32 (.int .i64 k) (.int .i64 i) (.string (bst b)) (.slice A n c) (.int .i64 k) (.int .i64 i) (.string (bst b)) (.slice A n c)
      obtain ⟨x0, x1, x2, x3, _, _, _, _⟩ := four q2
      exact bodyPost_ret (v := .agg #[.int .i64 k, .int .i64 i, .string (bst b), .slice A n c]) (by simp [results, Try.results9, go_sem, x0, x1, x2, x3]) rfl ⟨⟨n, rfl, by rw [List.length_take, ← HN.out]; omega, by omega⟩, q3⟩

end Go.Proofs.Ytlemoaigcakmcaa
