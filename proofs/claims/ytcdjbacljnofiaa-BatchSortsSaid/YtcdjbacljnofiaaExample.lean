/-
  example: by its contract.
-/
import Derived.Test.YtcdjbacljnofiaaWRow
namespace Go.Proofs.Ytcdjbacljnofiaa
open Go Go.RowKit

def exWs : List Wt := [⟨[97], [120], false⟩, ⟨[98], [], true⟩]

set_option maxHeartbeats 1000000 in
theorem example_any (w : World) :
    Calls Try.prog 25 #[] w fun e w' => ∃ A m c, e = .returned (.agg #[.int .u64 1, .int .u64 2, .int .u64 3, .slice A m c]) ∧ WRow w' w.heap.size A m c exWs ∧ Below w.heap.size w w' := by
  go_enter Try.func25, Try.ntmps25
  go_wp2_with fail
  obtain ⟨c0, c1, c2, c3⟩ := box_cells w 25 (.int .u64 1) (.int .u64 2) (.int .u64 3) (.slice (some ⟨w.heap.size + 1, 0, none⟩) 2 2)
  have hs : (w.alloc (.cells #[.int .u64 1, .int .u64 2, .int .u64 3, .slice (some ⟨w.heap.size + 1, 0, none⟩) 2 2] 25)).heap.size = w.heap.size + 1 := by simp
  generalize hw1 : w.alloc (.cells #[.int .u64 1, .int .u64 2, .int .u64 3, .slice (some ⟨w.heap.size + 1, 0, none⟩) 2 2] 25) = w1 at *
  have hb1 : Below w.heap.size w w1 := by rw [← hw1]; exact (Below.refl _ _).alloc (Nat.le_refl _) _
  clear hw1
  have hl : ∀ i : Nat, w.heap.size < w1.heap.size := fun _ => by omega
  have d : ∀ (i : Nat) (v : Value), w1.cell? ⟨w.heap.size, i, none⟩ = some v → (w1.alloc (.cells (wcs exWs).toArray 43)).cell? ⟨w.heap.size, i, none⟩ = some v := fun i v h => (World.cell?_alloc_lt w1 _ ⟨w.heap.size, i, none⟩ (hl i)).trans h
  have d0 := d 0 _ c0
  have d1 := d 1 _ c1
  have d2 := d 2 _ c2
  have d3 := d 3 _ c3
  change bodyPost _ _ _ _ _ (w1.alloc (.cells (wcs exWs).toArray 43))
  have hrow : WRow (w1.alloc (.cells (wcs exWs).toArray 43)) w.heap.size (some ⟨w.heap.size + 1, 0, none⟩) 2 2 exWs := by
    rw [← hs]
    exact ⟨rfl, rfl, .inr ⟨w1.heap.size, 2, (wcs exWs).toArray, rfl, by omega, heap_alloc_new w1 _, Nat.le_refl _, by decide, rfl, rfl⟩⟩
  have hb2 := hb1.alloc hb1.size (.cells (wcs exWs).toArray 43)
  generalize w1.alloc (.cells (wcs exWs).toArray 43) = w2 at *
  exact bodyPost_ret (v := .agg #[.int .u64 1, .int .u64 2, .int .u64 3, .slice (some ⟨w.heap.size + 1, 0, none⟩) 2 2]) (by simp [results, Try.results25, go_sem, d0, d1, d2, d3]) rfl ⟨_, _, _, rfl, hrow, hb2⟩

end Go.Proofs.Ytcdjbacljnofiaa
