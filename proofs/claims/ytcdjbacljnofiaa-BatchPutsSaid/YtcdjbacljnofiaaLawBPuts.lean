/-
  BatchPuts, BatchGets, BatchChecks: their walks, over what is to be shown of the landed code.
-/
import Derived.Test.YtcdjbacljnofiaaAwake
import Derived.Test.YtcdjbacljnofiaaRefBPut
import Derived.Test.YtcdjbacljnofiaaRefBSorted
namespace Go.Proofs.Ytcdjbacljnofiaa
open Go Go.RowKit

set_option maxHeartbeats 4000000 in
theorem bputs_walk (hF : Face) {A : Option Addr} {cap : Nat} (b : Bt) (w : World) (hA : WAt w w.heap.size A b.ws) (hc : b.ws.length ≤ cap) (hl : b.ws.length ≤ 9223372036854775807) (h3 : b.c < 18446744073709551616 ∧ b.r < 18446744073709551616 ∧ b.s < 18446744073709551616) :
    Calls Try.prog 4 #[b.val A cap] w fun e w' => e = .returned (.bool true) ∧ Below w.heap.size w w' := by
  obtain ⟨c, r, s, ws⟩ := b
  unfold Bt.val
  dsimp only at hA hc hl h3 ⊢
  obtain ⟨n, hn⟩ : ∃ n, n = ws.length := ⟨_, rfl⟩
  rw [← hn] at hc hl ⊢
  have HF := hid hF
  have HN := hid hn
  have hb1 : Below w.heap.size w (w.alloc (.cells #[.int .u64 (c : Int), .int .u64 (r : Int), .int .u64 (s : Int), .slice A n cap] 25)) := (Below.refl _ _).alloc (Nat.le_refl _) _
  have HB1 := hid hb1
  have HBX := hid (box_cells w 25 (.int .u64 (c : Int)) (.int .u64 (r : Int)) (.int .u64 (s : Int)) (.slice A n cap))
  have HSZ := hid (show w.heap.size < (w.alloc (.cells #[.int .u64 (c : Int), .int .u64 (r : Int), .int .u64 (s : Int), .slice A n cap] 25)).heap.size by simp)
  have HAT := hid (hA.below hb1)
  have H3 := hid h3
  have HCAP := hid hc
  clear hb1 hA hn hF h3
  cases hfew : isFew ws with
  | false =>
    have HFEW := hid hfew
    go_enter Try.func4, Try.ntmps4
    go_wp2_with fail
    generalize w.alloc (.cells #[.int .u64 (c : Int), .int .u64 (r : Int), .int .u64 (s : Int), .slice A n cap] 25) = w1 at *
    go_fit (few_any c r s HAT.out HN.out HCAP.out (Nat.le_of_lt HSZ.out))
    rw [HFEW.out]
    rintro e w2 ⟨rfl, hb2⟩
    have HB2 := hid (below_step HB1.out hb2)
    have HK2 := hid hb2
    clear hb2
    
    go_wp2_with fail
    go_fit (awake_yes HF.out w2)
    rintro e w3 ⟨rfl, hb3⟩
    go_wp2_with fail
    go_ret
    exact ⟨rfl, below_step HB2.out hb3⟩
  | true =>
    have HFEW := hid hfew
    clear hfew
    by_cases hk : chk ws = 0
    · have HCK := hid hk
      clear hk
      go_enter Try.func4, Try.ntmps4
      go_wp2_with fail
      generalize w.alloc (.cells #[.int .u64 (c : Int), .int .u64 (r : Int), .int .u64 (s : Int), .slice A n cap] 25) = w1 at *
      go_fit (few_any c r s HAT.out HN.out HCAP.out (Nat.le_of_lt HSZ.out))
      rw [HFEW.out]
      rintro e w2 ⟨rfl, hb2⟩
      have HB2 := hid (below_step HB1.out hb2)
      have HK2 := hid hb2
      clear hb2
      
      have HB := hid (show BAt w2 w.heap.size A n cap ws from ⟨HAT.out.step (Nat.le_of_lt HSZ.out) HK2.out, HN.out, HCAP.out, HFEW.out, Nat.le_trans (Nat.le_of_lt HSZ.out) HK2.out.size⟩)
      have HL2 := hid (Nat.lt_of_lt_of_le HSZ.out HK2.out.size)
      have k0 := (HK2.out.cell (p := ⟨w.heap.size, 0, none⟩) HSZ.out).trans HBX.out.1
      have k1 := (HK2.out.cell (p := ⟨w.heap.size, 1, none⟩) HSZ.out).trans HBX.out.2.1
      have k2 := (HK2.out.cell (p := ⟨w.heap.size, 2, none⟩) HSZ.out).trans HBX.out.2.2.1
      have k3 := (HK2.out.cell (p := ⟨w.heap.size, 3, none⟩) HSZ.out).trans HBX.out.2.2.2
      go_wp2_with fail
      go_fit (HF.out.putYes HCK.out HB.out H3.out.1 H3.out.2.1 H3.out.2.2)
      rintro e w3 ⟨A3, m3, c3, rfl, hr3, hb3⟩
      have k0 := (hb3.cell (p := ⟨w.heap.size, 0, none⟩) HL2.out).trans k0
      have k1 := (hb3.cell (p := ⟨w.heap.size, 1, none⟩) HL2.out).trans k1
      have k2 := (hb3.cell (p := ⟨w.heap.size, 2, none⟩) HL2.out).trans k2
      have k3 := (hb3.cell (p := ⟨w.heap.size, 3, none⟩) HL2.out).trans k3
      have HR3 := hid hr3
      have HB3 := hid (below_step HB2.out hb3)
      have HBB := hid (HB.out.step hb3)
      clear hr3 hb3
      go_wp2_with fail
      go_fit (refBPut_yes HCK.out HBB.out.at_ HBB.out.len HBB.out.below H3.out.1 H3.out.2.1 H3.out.2.2)
      rintro e w4 ⟨rfl, hb4⟩
      have HR4 := hid (HR3.out.below hb4)
      have HB4 := hid (below_step HB3.out hb4)
      clear hb4
      go_wp2_with fail
      go_fit (awake_yes HF.out w4)
      rintro e w5 ⟨rfl, hb5⟩
      have HR5 := hid (HR4.out.below hb5)
      have cv : (convert 32 9 (.slice A3 m3 c3)).run Try.prog w5 = .ok (.string (bst (benc ⟨c, r, s, ws⟩))) w5 := str_of HR5.out.at_ HR5.out.1
      have HB5 := hid (below_step HB4.out hb5)
      clear hb5
      go_wp2_with fail
      go_ret
      exact ⟨rfl, HB5.out⟩
    · obtain ⟨C, hC⟩ : ∃ C, chk ws = C := ⟨_, rfl⟩
      rw [hC] at hk
      have HC := hid hC
      have HNZ := hid hk
      clear hC hk
      have hcv : ∀ w : World, (convert 32 9 (.slice none 0 0)).run Try.prog w = .ok (.string (bst [])) w := fun w => str_of (At.nil w 0 none) rfl
      go_enter Try.func4, Try.ntmps4
      go_wp2_with fail
      generalize w.alloc (.cells #[.int .u64 (c : Int), .int .u64 (r : Int), .int .u64 (s : Int), .slice A n cap] 25) = w1 at *
      go_fit (few_any c r s HAT.out HN.out HCAP.out (Nat.le_of_lt HSZ.out))
      rw [HFEW.out]
      rintro e w2 ⟨rfl, hb2⟩
      have HB2 := hid (below_step HB1.out hb2)
      have HK2 := hid hb2
      clear hb2
      
      have HB := hid (show BAt w2 w.heap.size A n cap ws from ⟨HAT.out.step (Nat.le_of_lt HSZ.out) HK2.out, HN.out, HCAP.out, HFEW.out, Nat.le_trans (Nat.le_of_lt HSZ.out) HK2.out.size⟩)
      have HL2 := hid (Nat.lt_of_lt_of_le HSZ.out HK2.out.size)
      have k0 := (HK2.out.cell (p := ⟨w.heap.size, 0, none⟩) HSZ.out).trans HBX.out.1
      have k1 := (HK2.out.cell (p := ⟨w.heap.size, 1, none⟩) HSZ.out).trans HBX.out.2.1
      have k2 := (HK2.out.cell (p := ⟨w.heap.size, 2, none⟩) HSZ.out).trans HBX.out.2.2.1
      have k3 := (HK2.out.cell (p := ⟨w.heap.size, 3, none⟩) HSZ.out).trans HBX.out.2.2.2
      go_wp2_with fail
      go_fit (HF.out.putNo HC.out HNZ.out HB.out)
      rintro e w3 ⟨rfl, hb3⟩
      have k0 := (hb3.cell (p := ⟨w.heap.size, 0, none⟩) HL2.out).trans k0
      have k1 := (hb3.cell (p := ⟨w.heap.size, 1, none⟩) HL2.out).trans k1
      have k2 := (hb3.cell (p := ⟨w.heap.size, 2, none⟩) HL2.out).trans k2
      have k3 := (hb3.cell (p := ⟨w.heap.size, 3, none⟩) HL2.out).trans k3
      have HB3 := hid (below_step HB2.out hb3)
      have HBB := hid (HB.out.step hb3)
      clear hb3
      go_wp2_with fail
      go_fit (refBPut_no HC.out HNZ.out HBB.out.at_ HBB.out.len HBB.out.below)
      rintro e w4 ⟨rfl, hb4⟩
      have HB4 := hid (below_step HB3.out hb4)
      clear hb4
      go_wp2_with fail
      go_fit (awake_yes HF.out w4)
      rintro e w5 ⟨rfl, hb5⟩
      have HB5 := hid (below_step HB4.out hb5)
      clear hb5
      go_wp2_with fail
      go_ret
      exact ⟨rfl, HB5.out⟩

end Go.Proofs.Ytcdjbacljnofiaa
