/-
  BatchBack: its walk, over what is to be shown of the landed code.
-/
import Derived.Test.YtcdjbacljnofiaaLawBGets
namespace Go.Proofs.Ytcdjbacljnofiaa
open Go Go.RowKit

theorem benc_len {b : Bt} (h : chk b.ws = 0) : (benc b).length ≤ 5000 := by
  obtain ⟨c, r, s, ws⟩ := b
  obtain ⟨_, h8, hx⟩ := chk_ok h
  have h1 := bhead_len c r s ws.length
  have h2 := wencs_len ws fun x hx' => ⟨(hx x hx').2.1, (hx x hx').2.2.1⟩
  have e : benc ⟨c, r, s, ws⟩ = bhead c r s ws.length ++ ws.flatMap wenc := by simp [benc, bhead]
  rw [e, List.length_append]
  dsimp only at h8
  omega

set_option maxHeartbeats 8000000 in
theorem bback_walk (hF : Face) {A : Option Addr} {cap : Nat} (b : Bt) (l : List UInt8) (w : World) (hA : WAt w w.heap.size A b.ws) (hc : b.ws.length ≤ cap) (hl : b.ws.length ≤ 9223372036854775807) (h3 : b.c < 18446744073709551616 ∧ b.r < 18446744073709551616 ∧ b.s < 18446744073709551616) :
    Calls Try.prog 6 #[b.val A cap, .string (bst l)] w fun e w' => e = .returned (.bool true) ∧ Below w.heap.size w w' := by
  have zl := bst_size l
  have tl := bst_toList l
  obtain ⟨c, r, s, ws⟩ := b
  unfold Bt.val
  dsimp only at hA hc hl h3 ⊢
  obtain ⟨n, hn⟩ : ∃ n, n = ws.length := ⟨_, rfl⟩
  rw [← hn] at hc hl ⊢
  have HF := hid hF
  have HN := hid hn
  have hb1 : Below w.heap.size w (w.alloc (.cells #[.int .u64 (c : Int), .int .u64 (r : Int), .int .u64 (s : Int), .slice A n cap] 25)) := (Below.refl _ _).alloc (Nat.le_refl _) _
  have HB1 := hid hb1
  have HBX := hid (box_cells w 25 (.int .u64 (c : Int)) (.int .u64 (r : Int)) (.int .u64 (s : Int)) (.slice A n cap))
  have HSZ := hid (show w.heap.size < (w.alloc (.cells #[.int .u64 (c : Int), .int .u64 (r : Int), .int .u64 (s : Int), .slice A n cap] 25)).heap.size by simp)
  have HAT := hid (hA.below hb1)
  have H3 := hid h3
  have HCAP := hid hc
  clear hb1 hA hn hF h3
  cases hfew : isFew ws with
  | false =>
    have HFEW := hid hfew
    go_enter Try.func6, Try.ntmps6
    go_wp2_with fail
    generalize w.alloc (.cells #[.int .u64 (c : Int), .int .u64 (r : Int), .int .u64 (s : Int), .slice A n cap] 25) = w1 at *
    go_fit (few_any c r s HAT.out HN.out HCAP.out (Nat.le_of_lt HSZ.out))
    rw [HFEW.out]
    rintro e w2 ⟨rfl, hb2⟩
    have HB2 := hid (below_step HB1.out hb2)
    have HK2 := hid hb2
    clear hb2
    
    go_wp2_with fail
    go_fit (awake_yes HF.out w2)
    rintro e w3 ⟨rfl, hb3⟩
    go_wp2_with fail
    go_ret
    exact ⟨rfl, below_step HB2.out hb3⟩
  | true =>
    have HFEW := hid hfew
    clear hfew
    by_cases h5 : 5000 < l.length
    · skip
      go_enter Try.func6, Try.ntmps6
      go_wp2_with fail
      generalize w.alloc (.cells #[.int .u64 (c : Int), .int .u64 (r : Int), .int .u64 (s : Int), .slice A n cap] 25) = w1 at *
      go_fit (few_any c r s HAT.out HN.out HCAP.out (Nat.le_of_lt HSZ.out))
      rw [HFEW.out]
      rintro e w2 ⟨rfl, hb2⟩
      have HB2 := hid (below_step HB1.out hb2)
      have HK2 := hid hb2
      clear hb2
      
      go_wp2_with fail
      go_fit (awake_yes HF.out w2)
      rintro e w3 ⟨rfl, hb3⟩
      go_wp2_with fail
      go_ret
      exact ⟨rfl, below_step HB2.out hb3⟩
    have HL := hid (show l.length ≤ 5000 by omega)
    by_cases hk : chk ws = 0
    · have HCK := hid hk
      have HBG := hid (bget_benc (b := ⟨c, r, s, ws⟩) hk H3.out.1 H3.out.2.1 H3.out.2.2)
      have HBL := hid (benc_len (b := ⟨c, r, s, ws⟩) hk)
      clear hk
      go_enter Try.func6, Try.ntmps6
      go_wp2_with fail
      generalize w.alloc (.cells #[.int .u64 (c : Int), .int .u64 (r : Int), .int .u64 (s : Int), .slice A n cap] 25) = w1 at *
      go_fit (few_any c r s HAT.out HN.out HCAP.out (Nat.le_of_lt HSZ.out))
      rw [HFEW.out]
      rintro e w2 ⟨rfl, hb2⟩
      have HB2 := hid (below_step HB1.out hb2)
      have HK2 := hid hb2
      clear hb2
      
      have HB := hid (show BAt w2 w.heap.size A n cap ws from ⟨HAT.out.step (Nat.le_of_lt HSZ.out) HK2.out, HN.out, HCAP.out, HFEW.out, Nat.le_trans (Nat.le_of_lt HSZ.out) HK2.out.size⟩)
      have HL2 := hid (Nat.lt_of_lt_of_le HSZ.out HK2.out.size)
      have k0 := (HK2.out.cell (p := ⟨w.heap.size, 0, none⟩) HSZ.out).trans HBX.out.1
      have k1 := (HK2.out.cell (p := ⟨w.heap.size, 1, none⟩) HSZ.out).trans HBX.out.2.1
      have k2 := (HK2.out.cell (p := ⟨w.heap.size, 2, none⟩) HSZ.out).trans HBX.out.2.2.1
      have k3 := (HK2.out.cell (p := ⟨w.heap.size, 3, none⟩) HSZ.out).trans HBX.out.2.2.2
      have HX := hid (show Box w2 w.heap.size c r s A n cap ws from ⟨HL2.out, k0, k1, k2, k3, ⟨HB.out.at_.more HB.out.below, HN.out, HCAP.out, HFEW.out, Nat.le_refl _⟩⟩)
      go_wp2_with fail
      go_fit (HF.out.putYes HCK.out HB.out H3.out.1 H3.out.2.1 H3.out.2.2)
      rintro e w3 ⟨A3, m3, c3, rfl, hr3, hb3⟩
      have HR3 := hid hr3
      have HB3 := hid (below_step HB2.out hb3)
      have HX := hid (HX.out.step hb3)
      clear hr3 hb3 k0 k1 k2 k3
      go_wp2_with fail
      go_fit (HF.out.get HR3.out.at_ HR3.out.1 (row_cap HR3.out) (Nat.le_refl _) HBL.out)
      rw [HBG.out]
      rintro e w4 ⟨h4, hb4⟩
      rcases h4 with ⟨h4, _⟩ | ⟨b4, A4, n4, c4, h4, rfl, hr4⟩
      · cases h4
      obtain rfl := Option.some.inj h4
      dsimp only at hr4 ⊢
      have HX4 := hid (Box.new (c := (c : Int)) (r := (r : Int)) (s := (s : Int)) (BAt.row hr4 HFEW.out))
      have hal : Below w4.heap.size w4 (w4.alloc (.cells #[.int .u64 (c : Int), .int .u64 (r : Int), .int .u64 (s : Int), .slice A4 n4 c4] 25)) := (Below.refl _ _).alloc (Nat.le_refl _) _
      have HX := hid ((HX.out.step hb4).step hal)
      have HB4 := hid (below_step (below_step HB3.out hb4) hal)
      clear h4 hr4 hal hb4
      obtain ⟨_, k0, k1, k2, k3, _⟩ := HX.out
      obtain ⟨_, m0, m1, m2, m3', _⟩ := HX4.out
      go_wp2_with fail
      go_fit (rSame_yes HX.out.at_ HX4.out.at_)
      rintro e w5 ⟨rfl, hb5⟩
      have HBS := hid (below_step HB4.out hb5)
      clear hb5 k0 k1 k2 k3 m0 m1 m2 m3'
      go_wp2_with (with_reducible refine wpList_bytes_of _ rfl (.tmp 43) 9 32 5 rfl Try.underlying9 Try.underlying32 Try.underlying5 l rfl ?_; intro A7 c7 w7 hc7 hA7 hb7)
      have HB7 := hid (below_step HBS.out hb7)
      go_fit (HF.out.get hA7 rfl hc7 (Nat.le_refl _) HL.out)
      clear hb7 hA7 hc7
      rintro e w8 ⟨h8, hb8⟩
      have HB8 := hid (below_step HB7.out hb8)
      clear hb8
      cases hg : bget l with
      | none =>
        rcases h8 with ⟨_, rfl⟩ | ⟨b8, A8, n8, c8, h8, _, _⟩
        case inr => rw [hg] at h8; cases h8
        have HB8b := hid (HB8.out.alloc HB8.out.size (.cells #[.int .u64 0, .int .u64 0, .int .u64 0, .slice none 0 0] 25))
        unfold zeroB
        clear hg
        go_wp2_with fail
        go_fit (awake_yes HF.out _)
        rintro e w9 ⟨rfl, hb9⟩
        have HB9 := hid (below_step HB8b.out hb9)
        clear hb9
        go_wp2_with fail
        go_ret
        exact ⟨rfl, HB9.out⟩
      | some b2 =>
        rcases h8 with ⟨h8, _⟩ | ⟨b8, A8, n8, c8, h8, rfl, hr8⟩
        case inl => rw [hg] at h8; cases h8
        obtain rfl : b2 = b8 := by rw [hg] at h8; exact Option.some.inj h8
        obtain ⟨j1, j2, j3, j4, j5⟩ := bget_is hg
        obtain ⟨C, R, S, WS⟩ := b2
        dsimp only at hr8 j2 j3 j4 j5 ⊢
        have HJ := hid j1
        have HJ2 := hid j2
        have HJ3 := hid (And.intro j3 (And.intro j4 j5))
        have HX8 := hid (Box.new (c := (C : Int)) (r := (R : Int)) (s := (S : Int)) (BAt.row hr8 (few_chk j2)))
        have HB8b := hid (HB8.out.alloc HB8.out.size (.cells #[.int .u64 (C : Int), .int .u64 (R : Int), .int .u64 (S : Int), .slice A8 n8 c8] 25))
        clear hg h8 hr8 j1 j2 j3 j4 j5
        go_wp2_with fail
        generalize hv8 : w8.alloc (.cells #[.int .u64 (C : Int), .int .u64 (R : Int), .int .u64 (S : Int), .slice A8 n8 c8] 25) = v8 at *
        clear hv8
        go_fit (HF.out.putYes HJ2.out HX8.out.at_ HJ3.out.1 HJ3.out.2.1 HJ3.out.2.2)
        rw [← HJ.out]
        rintro e w9 ⟨A9, m9, c9, rfl, hr9, hb9⟩
        have cv : (convert 32 9 (.slice A9 m9 c9)).run Try.prog w9 = .ok (.string (bst l)) w9 := str_of hr9.at_ hr9.1
        have HB9 := hid (below_step HB8b.out hb9)
        clear hr9 hb9
        go_wp2_with fail
        go_fit (awake_yes HF.out _)
        rintro e w10 ⟨rfl, hb10⟩
        have HB10 := hid (below_step HB9.out hb10)
        clear hb10
        go_wp2_with fail
        go_ret
        exact ⟨rfl, HB10.out⟩
    · obtain ⟨C, hC⟩ : ∃ C, chk ws = C := ⟨_, rfl⟩
      rw [hC] at hk
      have HC := hid hC
      have HNZ := hid hk
      have hz : ((C : Int) == 0) = false := (nat_ne hk).1
      clear hC hk
      go_enter Try.func6, Try.ntmps6
      go_wp2_with fail
      generalize w.alloc (.cells #[.int .u64 (c : Int), .int .u64 (r : Int), .int .u64 (s : Int), .slice A n cap] 25) = w1 at *
      go_fit (few_any c r s HAT.out HN.out HCAP.out (Nat.le_of_lt HSZ.out))
      rw [HFEW.out]
      rintro e w2 ⟨rfl, hb2⟩
      have HB2 := hid (below_step HB1.out hb2)
      have HK2 := hid hb2
      clear hb2
      
      have HB := hid (show BAt w2 w.heap.size A n cap ws from ⟨HAT.out.step (Nat.le_of_lt HSZ.out) HK2.out, HN.out, HCAP.out, HFEW.out, Nat.le_trans (Nat.le_of_lt HSZ.out) HK2.out.size⟩)
      have HL2 := hid (Nat.lt_of_lt_of_le HSZ.out HK2.out.size)
      have k0 := (HK2.out.cell (p := ⟨w.heap.size, 0, none⟩) HSZ.out).trans HBX.out.1
      have k1 := (HK2.out.cell (p := ⟨w.heap.size, 1, none⟩) HSZ.out).trans HBX.out.2.1
      have k2 := (HK2.out.cell (p := ⟨w.heap.size, 2, none⟩) HSZ.out).trans HBX.out.2.2.1
      have k3 := (HK2.out.cell (p := ⟨w.heap.size, 3, none⟩) HSZ.out).trans HBX.out.2.2.2
      go_wp2_with fail
      go_fit (HF.out.putNo HC.out HNZ.out HB.out)
      rintro e w3 ⟨rfl, hb3⟩
      have HBS := hid (below_step HB2.out hb3)
      clear hb3 k0 k1 k2 k3
      go_wp2_with (with_reducible refine wpList_bytes_of _ rfl (.tmp 43) 9 32 5 rfl Try.underlying9 Try.underlying32 Try.underlying5 l rfl ?_; intro A7 c7 w7 hc7 hA7 hb7)
      have HB7 := hid (below_step HBS.out hb7)
      go_fit (HF.out.get hA7 rfl hc7 (Nat.le_refl _) HL.out)
      clear hb7 hA7 hc7
      rintro e w8 ⟨h8, hb8⟩
      have HB8 := hid (below_step HB7.out hb8)
      clear hb8
      cases hg : bget l with
      | none =>
        rcases h8 with ⟨_, rfl⟩ | ⟨b8, A8, n8, c8, h8, _, _⟩
        case inr => rw [hg] at h8; cases h8
        have HB8b := hid (HB8.out.alloc HB8.out.size (.cells #[.int .u64 0, .int .u64 0, .int .u64 0, .slice none 0 0] 25))
        unfold zeroB
        clear hg
        go_wp2_with fail
        go_fit (awake_yes HF.out _)
        rintro e w9 ⟨rfl, hb9⟩
        have HB9 := hid (below_step HB8b.out hb9)
        clear hb9
        go_wp2_with fail
        go_ret
        exact ⟨rfl, HB9.out⟩
      | some b2 =>
        rcases h8 with ⟨h8, _⟩ | ⟨b8, A8, n8, c8, h8, rfl, hr8⟩
        case inl => rw [hg] at h8; cases h8
        obtain rfl : b2 = b8 := by rw [hg] at h8; exact Option.some.inj h8
        obtain ⟨j1, j2, j3, j4, j5⟩ := bget_is hg
        obtain ⟨C, R, S, WS⟩ := b2
        dsimp only at hr8 j2 j3 j4 j5 ⊢
        have HJ := hid j1
        have HJ2 := hid j2
        have HJ3 := hid (And.intro j3 (And.intro j4 j5))
        have HX8 := hid (Box.new (c := (C : Int)) (r := (R : Int)) (s := (S : Int)) (BAt.row hr8 (few_chk j2)))
        have HB8b := hid (HB8.out.alloc HB8.out.size (.cells #[.int .u64 (C : Int), .int .u64 (R : Int), .int .u64 (S : Int), .slice A8 n8 c8] 25))
        clear hg h8 hr8 j1 j2 j3 j4 j5
        go_wp2_with fail
        generalize hv8 : w8.alloc (.cells #[.int .u64 (C : Int), .int .u64 (R : Int), .int .u64 (S : Int), .slice A8 n8 c8] 25) = v8 at *
        clear hv8
        go_fit (HF.out.putYes HJ2.out HX8.out.at_ HJ3.out.1 HJ3.out.2.1 HJ3.out.2.2)
        rw [← HJ.out]
        rintro e w9 ⟨A9, m9, c9, rfl, hr9, hb9⟩
        have cv : (convert 32 9 (.slice A9 m9 c9)).run Try.prog w9 = .ok (.string (bst l)) w9 := str_of hr9.at_ hr9.1
        have HB9 := hid (below_step HB8b.out hb9)
        clear hr9 hb9
        go_wp2_with fail
        go_fit (awake_yes HF.out _)
        rintro e w10 ⟨rfl, hb10⟩
        have HB10 := hid (below_step HB9.out hb10)
        clear hb10
        go_wp2_with fail
        go_ret
        exact ⟨rfl, HB10.out⟩

end Go.Proofs.Ytcdjbacljnofiaa
