/-
  Put's closure that pushes a byte: by its contract.
-/
import Derived.Test.YtikggbopoajcbaaDoorSmall
namespace Go.Proofs.YtikggbopoajcbaaDoor
open Go Go.RowKit

set_option maxHeartbeats 400000 in
theorem push_put (base b : Nat) (l : List UInt8) (n : Int) (x : UInt8) (w : World) (h : OutAt w base 5 27 b l) (hl : l.length ≤ 140737488355000) (hb : base ≤ b) (_hn : 0 ≤ n) (hx : n % 256 = (x.toNat : Int)) :
    Calls Tryd.prog 83 #[.int .u64 n, .pointer (some ⟨b, 0, none⟩)] w fun e w' =>
      e = .returned (.tuple #[]) ∧ OutAt w' base 5 27 b (l ++ [x]) ∧ Below base w w' := by
  obtain ⟨A, c, hv, hown⟩ := h
  obtain ⟨i0, hi, hz0, hz1, hz2⟩ := info_parts info_byte
  have hc := cell_of_one hv
  have hlt := lt_of_block hv
  have hne := own_ne hown hv (by decide)
  go_enter Tryd.func83, Tryd.ntmps83
  go_wp2_with (first
    | (at_builtin; go_must (refine wpList_append_bs _ rfl _ _ _ rfl base 5 i0 Tryd.underlying27 hi hz0 hz1 hz2 (.slice A l.length c) l [x] rfl (hown.alloc _) (some ⟨w.heap.size, 0, none⟩) 1 1 rfl rfl ?pos ?len ?base ?_)))
  case pos => simpa using At.one w x _
  case len => simp; omega
  case base => simp; omega
  intro A' c' w1 hown1 hg1 hat
  have hb1 : w1.heap[b]? = some (.cells #[.slice A l.length c] 27 (0, 0)) := (hg1.block b (by simp; omega) (fun e => hne e.symm)).trans ((Below.heap_alloc w _ b hlt).trans hv)
  have hf := free_of_one hb1
  have hc1 := cell_of_one hb1
  have hbel : Below base w w1 := ((Below.refl base w).alloc (by omega) _).grown hg1 (by simp; omega) (fun k hk => (hown.lt k hk).1)
  go_wp2
  go_end0
  have e : (l ++ [x]).length = l.length + 1 := by simp
  refine ⟨rfl, ⟨A', c', ?_, ?_⟩, hbel.setCell hb _⟩
  · rw [e]; exact one_setCell hb1
  · rw [e]; exact ownsRow_setCell_other hown1 (own_ne hown1 hb1 (by decide)) _

end Go.Proofs.YtikggbopoajcbaaDoor
