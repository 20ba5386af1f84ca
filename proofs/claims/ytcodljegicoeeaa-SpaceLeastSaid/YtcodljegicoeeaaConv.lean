/-
  string([]byte{x}).
-/
import Derived.Test.YtcodljegicoeeaaWords
namespace Go.Proofs.Ytcodljegicoeeaa
open Go Go.RowKit

theorem conv_one (x : UInt8) (W : World) :
    (convert 40 9 (.slice (some ⟨W.heap.size, 0, none⟩) 1 1)).run Try.prog (W.alloc (.cells #[.int .u8 (x.toNat : Int)] 5)) = .ok (.string (bst [x])) (W.alloc (.cells #[.int .u8 (x.toNat : Int)] 5)) := by
  refine run_convert_bytes_back _ _ _ _ ⟨W.heap.size, 0, none⟩ 1 [x] Try.underlying40 Try.underlying5 Try.underlying9 ?_
  intro j hj
  obtain rfl : j = 0 := by simp at hj; omega
  have e1 : (⟨W.heap.size, 0, none⟩ : Addr).add 0 = ⟨W.heap.size, 0, none⟩ := by unfold Addr.add; simp
  rw [e1]
  exact cell_of_one (heap_alloc_new W _)

theorem conv_num (n : Int) (x : UInt8) (h : n = (x.toNat : Int)) (W : World) :
    (convert 40 9 (.slice (some ⟨W.heap.size, 0, none⟩) 1 1)).run Try.prog (W.alloc (.cells #[.int .u8 n] 5)) = .ok (.string (bst [x])) (W.alloc (.cells #[.int .u8 n] 5)) := by
  subst h
  exact conv_one x W

end Go.Proofs.Ytcodljegicoeeaa
