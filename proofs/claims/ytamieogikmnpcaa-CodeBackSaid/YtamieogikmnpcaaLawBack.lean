/-
  CodeBack: its walk.
-/
import Derived.Test.YtamieogikmnpcaaFields
namespace Go.Proofs.Ytamieogikmnpcaa
open Go Go.RowKit

set_option maxRecDepth 100000 in
set_option maxHeartbeats 4000000 in
theorem back_walk {A : Option Addr} {c : Nat} (fs : List Fd) (w : World) (hA : FAt w w.heap.size A fs) (hc : fs.length ≤ c) (hl : fs.length ≤ 9223372036854775807) :
    Calls Try.prog 5 #[.slice A fs.length c] w fun e w' => e = .returned (.bool true) ∧ Below w.heap.size w w' := by
  have HA := hid hA
  obtain ⟨n, hn⟩ : ∃ n, n = fs.length := ⟨_, rfl⟩
  rw [← hn] at hc hl ⊢
  have HN := hid hn
  clear hA hn
  by_cases hlen : 50 < n
  · go_enter Try.func5, Try.ntmps5
    go_wp2_with fail
    go_fit (write_any w)
    rintro e w1 ⟨rfl, hw1, hb1⟩
    have HB1 := hid hb1
    clear hw1 hb1
    go_wp2_with fail
    go_fit (awake_yes w1)
    rintro e w2 ⟨rfl, hb2⟩
    have HB2 := hid (below_step HB1.out hb2)
    clear hb2
    go_wp2_with fail
    go_fit (awake_yes w2)
    rintro e w3 ⟨rfl, hb3⟩
    have HB3 := hid (below_step HB2.out hb3)
    clear hb3
    go_wp2_with fail
    go_ret
    exact ⟨rfl, HB3.out⟩
  · go_enter Try.func5, Try.ntmps5
    go_wp2_with fail
    go_fit (write_any w)
    rintro e w1 ⟨rfl, hw1, hb1⟩
    have HW1 := hid hw1
    have HB1 := hid hb1
    clear hw1 hb1
    go_wp2_with fail
    go_fit (awake_yes w1)
    rintro e w2 ⟨rfl, hb2⟩
    have HW2 := hid (HW1.out.step hb2)
    have HB2 := hid (below_step HB1.out hb2)
    clear hb2
    go_wp2_with fail
    go_loopw [4] (fun i wr => ∃ k : Nat, k ≤ n ∧ i = .int .i64 (k : Int) ∧ Wr wr w.heap.size w.heap.size (encs (fs.take k)) 0 ∧ Below w.heap.size w wr ∧ ∀ i f, i < k → fs[i]? = some f → f.s.length ≤ 200) (fun i _ => n - (intOf i).toNat)
    case atStart => exact ⟨0, by omega, rfl, HW2.out, HB2.out, fun i f h => absurd h (by omega)⟩
    case round =>
      obtain ⟨k, hk, rfl, hwr, hbr, hsm⟩ := hrel
      have HWR := hid hwr
      have HBR := hid hbr
      have HSM := hid hsm
      clear hwr hbr hsm
      by_cases hlt : k < n
      · obtain ⟨b, off, f, rfl, hb, hf, hok, hcells⟩ := (HA.out.below HBR.out).get (k := k) (by rw [← HN.out]; exact hlt)
        obtain ⟨c0, c1, c2, c3, c4⟩ := hcells
        have HF := hid hf
        have HOK := hid hok
        clear hf hok
        go_wp2_with fail
        go_fit (kinds_fd f wr)
        rintro e w3 ⟨rfl, hb3⟩
        have HB3 := hid hb3
        have hz := bst_size f.s
        have HW3 := hid (HWR.out.step hb3)
        clear hb3 c0 c1 c2 c3 c4
        by_cases hs : 200 < f.s.length
        · have hsi : (200 : Int) < (f.s.length : Int) := by omega
          unfold kd Fd.val
          go_wp2_with fail
          go_ret
          exact ⟨rfl, ((below_step HBR.out HB3.out).alloc (by have := HBR.out.size; have := HB3.out.size; omega) _)⟩
        · have hsi : ¬ (200 : Int) < (f.s.length : Int) := by omega
          have HS := hid hs
          clear hs
          unfold kd Fd.val
          go_wp2_with fail
          go_fit (put_any (kd f) (HW3.out.step ((Below.refl _ _).alloc (Nat.le_refl _) _)) HOK.out.v (show f.s.length ≤ 65536 by have := HS.out; omega) (by have := encs_len (fs := fs) (k := k) HSM.out; omega))
          rintro e w4 ⟨rfl, h4, h5⟩
          have H4 := hid h4
          have H5 := hid ((below_step HBR.out HB3.out).trans (((Below.refl _ w3).alloc (by have := HBR.out.size; have := HB3.out.size; omega) _).trans h5.below))
          clear h4 h5
          go_wp2_with fail
          go_roundw
          case rel => exact ⟨k + 1, by omega, by go_num, by rw [encs_snoc HF.out]; exact H4.out, H5.out, fun i g hi hg => by
            by_cases hik : i = k
            · subst hik
              have := HF.out
              rw [this] at hg
              injection hg with hg
              subst hg
              have := HS.out
              omega
            · exact HSM.out i g (by omega) hg⟩
          case measure => simp [intOf]; omega
      · obtain rfl : k = n := by omega
        have HSZ := hid (show (encs (fs.take k)).length ≤ 220 * k from encs_len HSM.out)
        have he : encs (fs.take k) = encs fs := by rw [List.take_of_length_le (by rw [← HN.out]; exact Nat.le_refl _)]
        have HE := hid he
        clear he
        go_wp2_with fail
        go_fit (bytes_any HWR.out (by have := HSZ.out; omega))
        rintro e w3 ⟨A3, m3, c3, rfl, hr3, hb3⟩
        rw [HE.out] at hr3
        have HR3 := hid hr3
        have HB3 := hid (below_step HBR.out hb3)
        clear hr3 hb3
        go_wp2_with fail
        go_fit (read_any HR3.out.at_ HR3.out.1 (Nat.le_refl _) (by have := HSZ.out; rw [HE.out] at this; omega))
        rintro e w4 ⟨r, rfl, hr4, hle4, hb4⟩
        have HR4 := hid hr4
        have HL4 := hid (Nat.le_trans HB3.out.size hle4)
        have HB4 := hid (below_step HB3.out hb4)
        clear hr4 hle4 hb4
        go_wp2_with fail
        go_loopw [9] (fun i wr => ∃ j : Nat, j ≤ k ∧ i = .int .i64 (j : Int) ∧ Rd wr r (encs (fs.drop j)) 0 ∧ Below w.heap.size w wr) (fun i _ => k - (intOf i).toNat)
        case atStart => exact ⟨0, by omega, rfl, by simpa using HR4.out, HB4.out⟩
        case round =>
          obtain ⟨j, hj, rfl, hrj, hbj⟩ := hrel
          have HRJ := hid hrj
          have HBJ := hid hbj
          clear hrj hbj
          by_cases hlt : j < k
          · obtain ⟨b, off, f, rfl, hb, hf, hok, hcells⟩ := (HA.out.below HBJ.out).get (k := j) (by rw [← HN.out]; exact hlt)
            obtain ⟨c0, c1, c2, c3, c4⟩ := hcells
            have HF := hid hf
            have HOK := hid hok
            clear hf hok
            have hz := bst_size f.s
            have htl := bst_toList f.s
            by_cases hsl : 200 < f.s.length
            · exact absurd (HSM.out j f (by omega) HF.out) (by omega)
            have HSL := hid (show f.s.length ≤ 65536 by omega)
            clear hsl
            rcases k3_cases f.k with hq | hq | hq | hq
            all_goals
              have HQ := hid hq
              clear hq
            · have HRK := hid (show Rd wr r (vbytes f.v ++ encs (fs.drop (j + 1))) 0 by rw [← encs_num HF.out HQ.out (by decide) (by decide)]; exact HRJ.out)
              go_wp2_with fail
              go_fit (kinds_is f wr HQ.out)
              rintro e w3 ⟨rfl, hb3⟩
              have HB3 := hid (below_step HBJ.out hb3)
              have HR3 := hid (HRK.out.step (hb3.trans ((Below.refl _ w3).alloc hb3.size (.cells #[.int .i64 0, .int .u64 (f.v : Int), .string (bst f.s), .bool f.y, .int .i64 f.m] 28))))
              have HLT := hid (HRK.out.step hb3).lt
              clear hb3 c0 c1 c2 c3 c4
              go_wp2_with fail
              go_fit (take_num_is HOK.out.v HR3.out)
              rintro e w4 ⟨rfl, h4, h5⟩
              have b4 := one_blk HLT.out h5
              obtain ⟨x0, x1, x2, x3, x4, g0, g1, g2, g3, g4⟩ := five b4
              have H4 := hid h4
              have H5 := hid ((HB3.out.alloc HB3.out.size _).trans (h5.below HL4.out (by have := HB3.out.size; simp; omega)))
              have hlt4 := b4.lt
              have hne4 : w4.heap.size ≠ w3.heap.size := by omega
              clear h4 h5 b4
              go_wp2_with fail
              go_roundw
              case rel => exact ⟨j + 1, by omega, by go_num, H4.out.step ((Below.refl _ _).alloc (Nat.le_refl _) _), H5.out.alloc H5.out.size _⟩
              case measure => simp [intOf]; omega
            · have HRK := hid (show Rd wr r (vbytes f.s.length ++ f.s ++ encs (fs.drop (j + 1))) 0 by rw [← encs_text HF.out HQ.out]; exact HRJ.out)
              go_wp2_with fail
              go_fit (kinds_is f wr HQ.out)
              rintro e w3 ⟨rfl, hb3⟩
              have HB3 := hid (below_step HBJ.out hb3)
              have HR3 := hid (HRK.out.step (hb3.trans ((Below.refl _ w3).alloc hb3.size (.cells #[.int .i64 1, .int .u64 (f.v : Int), .string (bst f.s), .bool f.y, .int .i64 f.m] 28))))
              have HLT := hid (HRK.out.step hb3).lt
              clear hb3 c0 c1 c2 c3 c4
              go_wp2_with fail
              go_fit (take_text_is HSL.out HR3.out)
              rintro e w4 ⟨rfl, h4, h5⟩
              have b4 := one_blk HLT.out h5
              obtain ⟨x0, x1, x2, x3, x4, g0, g1, g2, g3, g4⟩ := five b4
              have H4 := hid h4
              have H5 := hid ((HB3.out.alloc HB3.out.size _).trans (h5.below HL4.out (by have := HB3.out.size; simp; omega)))
              have hlt4 := b4.lt
              have hne4 : w4.heap.size ≠ w3.heap.size := by omega
              clear h4 h5 b4
              go_wp2_with fail
              go_roundw
              case rel => exact ⟨j + 1, by omega, by go_num, H4.out.step ((Below.refl _ _).alloc (Nat.le_refl _) _), H5.out.alloc H5.out.size _⟩
              case measure => simp [intOf]; omega
            · have HRK := hid (show Rd wr r ([if f.y then 1 else 0] ++ encs (fs.drop (j + 1))) 0 by rw [← encs_flag HF.out HQ.out]; exact HRJ.out)
              go_wp2_with fail
              go_fit (kinds_is f wr HQ.out)
              rintro e w3 ⟨rfl, hb3⟩
              have HB3 := hid (below_step HBJ.out hb3)
              have HR3 := hid (HRK.out.step (hb3.trans ((Below.refl _ w3).alloc hb3.size (.cells #[.int .i64 2, .int .u64 (f.v : Int), .string (bst f.s), .bool f.y, .int .i64 f.m] 28))))
              have HLT := hid (HRK.out.step hb3).lt
              clear hb3 c0 c1 c2 c3 c4
              go_wp2_with fail
              go_fit (take_flag_is HR3.out)
              rintro e w4 ⟨rfl, h4, h5⟩
              have b4 := one_blk HLT.out h5
              obtain ⟨x0, x1, x2, x3, x4, g0, g1, g2, g3, g4⟩ := five b4
              have H4 := hid h4
              have H5 := hid ((HB3.out.alloc HB3.out.size _).trans (h5.below HL4.out (by have := HB3.out.size; simp; omega)))
              have hlt4 := b4.lt
              have hne4 : w4.heap.size ≠ w3.heap.size := by omega
              clear h4 h5 b4
              go_wp2_with fail
              go_roundw
              case rel => exact ⟨j + 1, by omega, by go_num, H4.out.step ((Below.refl _ _).alloc (Nat.le_refl _) _), H5.out.alloc H5.out.size _⟩
              case measure => simp [intOf]; omega
            · have HRK := hid (show Rd wr r (vbytes f.v ++ encs (fs.drop (j + 1))) 0 by rw [← encs_num HF.out HQ.out (by decide) (by decide)]; exact HRJ.out)
              go_wp2_with fail
              go_fit (kinds_is f wr HQ.out)
              rintro e w3 ⟨rfl, hb3⟩
              have HB3 := hid (below_step HBJ.out hb3)
              have HR3 := hid (HRK.out.step (hb3.trans ((Below.refl _ w3).alloc hb3.size (.cells #[.int .i64 0, .int .u64 (f.v : Int), .string (bst f.s), .bool f.y, .int .i64 f.m] 28))))
              have HLT := hid (HRK.out.step hb3).lt
              clear hb3 c0 c1 c2 c3 c4
              go_wp2_with fail
              go_fit (take_num_is HOK.out.v HR3.out)
              rintro e w4 ⟨rfl, h4, h5⟩
              have b4 := one_blk HLT.out h5
              obtain ⟨x0, x1, x2, x3, x4, g0, g1, g2, g3, g4⟩ := five b4
              have H4 := hid h4
              have H5 := hid ((HB3.out.alloc HB3.out.size _).trans (h5.below HL4.out (by have := HB3.out.size; simp; omega)))
              have hlt4 := b4.lt
              have hne4 : w4.heap.size ≠ w3.heap.size := by omega
              clear h4 h5 b4
              go_wp2_with fail
              go_roundw
              case rel => exact ⟨j + 1, by omega, by go_num, H4.out.step ((Below.refl _ _).alloc (Nat.le_refl _) _), H5.out.alloc H5.out.size _⟩
              case measure => simp [intOf]; omega
          · obtain rfl : j = k := by omega
            have hd : encs (fs.drop j) = [] := by rw [List.drop_eq_nil_of_le (by rw [← HN.out]; exact Nat.le_refl _)]; rfl
            rw [hd] at HRJ
            clear hd
            go_wp2_with fail
            go_fit (end_any r 0 [] wr HRJ.out)
            rintro e w5 ⟨rfl, rfl⟩
            go_wp2_with fail
            go_fit (rest_any r 0 [] wr HRJ.out)
            rintro e w6 ⟨A6, m6, c6, rfl, hr6, hb6⟩
            obtain rfl : m6 = 0 := hr6.1
            have HB6 := hid (below_step HBJ.out hb6)
            clear hr6 hb6
            go_wp2_with fail
            go_ret
            exact ⟨rfl, HB6.out⟩

end Go.Proofs.Ytamieogikmnpcaa
