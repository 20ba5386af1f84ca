/-
  NumCmps: its walk.
-/
import Derived.Test.YtkcebnagpgpclaaDoorTools
namespace Go.Proofs.YtkcebnagpgpclaaDoor
open Go Go.RowKit

set_option maxHeartbeats 2000000 in
theorem cmps_walk (a b c : List UInt8) (w : World) (hT : Table w) :
    Calls Tryd.prog 10 #[.string (bst a), .string (bst b), .string (bst c)] w fun e w' => e = .returned (.bool true) ∧ Below w.heap.size w w' := by
  have HT := hid hT
  have hza := bst_size a
  have hzb := bst_size b
  have hzc := bst_size c
  clear hT
  have hways : 1000 < a.length ∨ (a.length ≤ 1000 ∧ 1000 < b.length) ∨ (a.length ≤ 1000 ∧ b.length ≤ 1000 ∧ 1000 < c.length) ∨ (a.length ≤ 1000 ∧ b.length ≤ 1000 ∧ c.length ≤ 1000) := by omega
  rcases hways with h1 | ⟨h1, h2⟩ | ⟨h1, h2, h3⟩ | ⟨h1, h2, h3⟩
  · go_enter Tryd.func10, Tryd.ntmps10
    go_wp2_with fail
    go_fit (awake_yes w HT.out)
    rintro e w1 ⟨rfl, hb1⟩
    go_wp2_with fail
    go_ret
    exact ⟨rfl, hb1⟩
  · go_enter Tryd.func10, Tryd.ntmps10
    go_wp2_with fail
    go_fit (awake_yes w HT.out)
    rintro e w1 ⟨rfl, hb1⟩
    go_wp2_with fail
    go_ret
    exact ⟨rfl, hb1⟩
  · go_enter Tryd.func10, Tryd.ntmps10
    go_wp2_with fail
    go_fit (awake_yes w HT.out)
    rintro e w1 ⟨rfl, hb1⟩
    go_wp2_with fail
    go_ret
    exact ⟨rfl, hb1⟩
  · have happ1 := bst_append c a
    have happ2 := bst_append c b
    obtain ⟨z, hz⟩ : ∃ z, z = cmpL a b := ⟨_, rfl⟩
    have HZ := hid hz
    have hb3 : -1 ≤ z ∧ z ≤ 1 := by rcases cmpL_three a b with h | h | h <;> rw [hz, h] <;> omega
    have hz1 := cmpL_neg a b
    have hz2 := cmpL_prefix c a b
    rw [← hz] at hz1 hz2
    have hz0 := hz.symm
    clear hz
    go_enter Tryd.func10, Tryd.ntmps10
    go_wp2_with (first
      | (with_reducible refine wpList_bytes_of _ rfl (.tmp 22) 9 24 5 rfl Tryd.underlying9 Tryd.underlying24 Tryd.underlying5 a rfl ?_; intro A1 c1 w1 hc1 hA1 hb1)
      | (with_reducible refine wpList_bytes_of _ rfl (.tmp 24) 9 24 5 rfl Tryd.underlying9 Tryd.underlying24 Tryd.underlying5 b rfl ?_; intro A2 c2 w2 hc2 hA2 hb2))
    have HT2 := hid ((HT.out.step hb1).step hb2)
    go_fit (cmp_is (B := w2.heap.size) rfl rfl ((hA1.below hb2).more hb2.size) hA2 (by omega) (by omega))
    rintro e w3 ⟨rfl, n3, rfl⟩
    have HE2 := hid (below_drewN (below_step hb1 hb2) n3)
    go_wp2_with fail
    go_fit (awake_yes (w2.drewN n3) HT2.out)
    rintro e w4 ⟨rfl, hb4⟩
    have HE4 := hid (below_step HE2.out hb4)
    clear hA1 hA2 hb1 hb2 hb4
    go_wp2_with fail
    go_fit (refCmp_any a b w4)
    rintro e w5 ⟨rfl, rfl⟩
    go_wp2_with (first
      | ((with_reducible refine wpList_bytes_when _ (.tmp 36) 9 24 5 rfl Tryd.underlying9 Tryd.underlying24 Tryd.underlying5 b rfl ?_ ?_); (focus rfl); intro A5 c5 w5 hc5 hA5 hb5)
      | ((with_reducible refine wpList_bytes_when _ (.tmp 38) 9 24 5 rfl Tryd.underlying9 Tryd.underlying24 Tryd.underlying5 a rfl ?_ ?_); (focus rfl); intro A6 c6 w6 hc6 hA6 hb6))
    go_fit (cmp_is (B := w6.heap.size) rfl rfl ((hA5.below hb6).more hb6.size) hA6 (by omega) (by omega))
    rintro e w7 ⟨rfl, n7, rfl⟩
    have HE7 := hid (below_drewN (below_step (below_step HE4.out hb5) hb6) n7)
    have hneg : IntKind.i64.wrap (-z) = -z := by rw [IntKind.wrap_i64]; omega
    clear hA5 hA6 hb5 hb6
    have hs1 : (bst c).size + (bst a).size ≤ 4096 := by omega
    have hs2 : (bst c).size + (bst b).size ≤ 4096 := by omega
    rw [hz1]
    go_wp2_with (first
      | ((with_reducible refine wpList_bytes_when _ (.tmp 48) 9 24 5 rfl Tryd.underlying9 Tryd.underlying24 Tryd.underlying5 (c ++ a) rfl ?_ ?_); (focus rfl); intro A8 c8 w8 hc8 hA8 hb8)
      | ((with_reducible refine wpList_bytes_when _ (.tmp 52) 9 24 5 rfl Tryd.underlying9 Tryd.underlying24 Tryd.underlying5 (c ++ b) rfl ?_ ?_); (focus rfl); intro A9 c9 w9 hc9 hA9 hb9))
    go_fit (cmp_is (B := w9.heap.size) (m := c.length + a.length) (n := c.length + b.length) (a := c ++ a) (b := c ++ b) (by simp) (by simp) ((hA8.below hb9).more hb9.size) hA9 (by simp; omega) (by simp; omega))
    rintro e w10 ⟨rfl, n10, rfl⟩
    have HE10 := hid (below_drewN (below_step (below_step HE7.out hb8) hb9) n10)
    rw [hz2]
    clear hA8 hA9 hb8 hb9
    go_wp2_with fail
    go_ret
    exact ⟨rfl, HE10.out⟩

end Go.Proofs.YtkcebnagpgpclaaDoor
