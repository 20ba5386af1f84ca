/-
  The chapter's example.
-/
import Derived.Test.YtdhjjjagjkencaaCaCo
namespace Go.Proofs.Ytdhjjjagjkencaa
open Go Go.RowKit

set_option maxHeartbeats 4000000 in
set_option maxRecDepth 100000 in
theorem awake_yes (w : World) : Calls Try.prog 8 #[] w fun e w' => e = .returned (.bool true) ∧ Below w.heap.size w w' := by
  go_enter Try.func8, Try.ntmps8
  go_wp2_with fail
  go_fit (co_new (base := w.heap.size) (w := w) 2 (Nat.le_refl _) (by decide))
  rintro e w1 ⟨cb, rfl, hc, hb1⟩
  have HP := hid (co_put 1 [97] true hc hb1.size (by decide))
  rw [show (2 : Int).toNat = 2 from rfl] at HP
  clear hc
  go_wp2_with fail
  go_fit HP.out
  rintro e w2 ⟨hp, hc, hb2⟩
  obtain rfl := putA_no hp (by decide)
  rw [show putE 2 1 [97] true [] = [⟨1, [97], true⟩] by decide] at hc
  have hb2 := hb1.trans hb2
  have HP := hid (co_put 2 [98] false hc hb2.size (by decide))
  clear hc hp hb1
  go_wp2_with fail
  go_fit HP.out
  rintro e w3 ⟨hp, hc, hb3⟩
  obtain rfl := putA_no hp (by decide)
  rw [show putE 2 2 [98] false [⟨1, [97], true⟩] = [⟨2, [98], false⟩, ⟨1, [97], true⟩] by decide] at hc
  have hb3 := hb2.trans hb3
  have HP := hid (co_get 1 hc hb3.size)
  clear hc hp hb2
  go_wp2_with fail
  go_fit HP.out
  rintro e w4 ⟨hp, hc, hb4⟩
  obtain rfl : e = .returned (.tuple #[.string ⟨#[97]⟩, .int .i64 0]) := hp
  rw [show getE 1 [⟨2, [98], false⟩, ⟨1, [97], true⟩] = [⟨1, [97], true⟩, ⟨2, [98], false⟩] by decide] at hc
  have hb4 := hb3.trans hb4
  have HP := hid (co_put 3 [99] false hc hb4.size (by decide))
  clear hc hb3
  go_wp2_with fail
  go_fit HP.out
  rintro e w5 ⟨hp, hc, hb5⟩
  obtain rfl := putA_yes (y := ⟨2, [98], false⟩) hp (by decide)
  rw [show putE 2 3 [99] false [⟨1, [97], true⟩, ⟨2, [98], false⟩] = [⟨3, [99], false⟩, ⟨1, [97], true⟩] by decide] at hc
  have HB5 := hid (hb4.trans hb5)
  have HC5 := hid hc
  clear hc hp hb4 hb5
  unfold En.val
  dsimp only
  have hb6 := (Below.refl w5.heap.size w5).alloc (Nat.le_refl _) (.cells #[.int .i64 2, .string (bst [98]), .bool false] 32)
  have HC6 := hid (HC5.out.step hb6)
  have HB6 := hid (below_step HB5.out hb6)
  have HX6 := hid (Blk.new w5 32 #[.int .i64 2, .string (bst [98]), .bool false])
  clear hb6
  go_upto_region 8 with fail
  generalize w5.alloc (.cells #[.int .i64 2, .string (bst [98]), .bool false] 32) = w6 at *
  have HL := hid (co_list HC6.out (by decide))
  go_wp2_with fail
  go_fit HL.out
  rintro e w7 ⟨A, m, c, rfl, hes, hb7⟩
  have HC7 := hid (HC6.out.step hb7)
  have HB7 := hid (below_step HB6.out hb7)
  have hx7 := HX6.out.below hb7 HX6.out.lt
  have x0 := hx7.cell 0
  have x1 := hx7.cell 1
  have x2 := hx7.cell 2
  obtain rfl : m = 2 := hes.len
  obtain ⟨b, off, y, rfl, _, hy, c0, c1, c2⟩ := hes.at_.get (i := 0) (by decide)
  obtain rfl : (⟨3, [99], false⟩ : En) = y := by simpa using hy
  obtain ⟨b', off', y, hA, _, hy', d0, d1, d2⟩ := hes.at_.get (i := 1) (by decide)
  injection hA with hA
  injection hA with h1 h2
  subst h1 h2
  obtain rfl : (⟨1, [97], true⟩ : En) = y := by simpa using hy'
  simp only [Nat.zero_mul, Nat.add_zero] at c0 c1 c2
  rw [show off + 1 * 3 = off + 3 from rfl] at d0 d1 d2
  have HCL := hid (co_len HC7.out)
  have he1 := fun W => eql_en ⟨2, [98], false⟩ ⟨2, [98], false⟩ W
  have he2 := fun W => eql_en ⟨1, [97], true⟩ ⟨1, [97], true⟩ W
  rw [decide_eq_true rfl] at he1 he2
  have he3 : ∀ W, (binOp .eql 32 (.agg #[.int .i64 2, .string (bst [98]), .bool false]) (.agg #[.int .i64 2, .string ⟨#[98]⟩, .bool false])).run Try.prog W = .ok (.bool true) W := he1
  have he4 : ∀ W, (binOp .eql 32 (.agg #[.int .i64 1, .string (bst [97]), .bool true]) (.agg #[.int .i64 1, .string ⟨#[97]⟩, .bool true])).run Try.prog W = .ok (.bool true) W := he2
  clear he1 he2
  have hmost := hes.cap
  clear hy hy' hes hb7 hx7 HL HC6 HB6 HX6
  go_wp2_with fail
  go_fit HCL.out
  rintro e w8 ⟨rfl, hw⟩
  rw [hw]
  clear hw w8
  go_wp2_with fail
  go_ret
  exact ⟨rfl, HB7.out⟩

end Go.Proofs.Ytdhjjjagjkencaa
