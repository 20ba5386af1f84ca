/-
  CacheLeast: the walk.
-/
import Derived.Test.YtdhjjjagjkencaaCaLast
import Derived.Test.YtdhjjjagjkencaaCaAwake
import Derived.BigQuiet
import Derived.Deep.CutRange
import Derived.Deep.CutBlock
namespace Go.Proofs.Ytdhjjjagjkencaa
open Go Go.RowKit

theorem gi_int : GInfo eI64 Try.prog 43 3 8 := ⟨Try.underlying43, by
  have h : (Try.prog.info? 3).map (fun i => (i.zero, i.size, i.bytes)) = some (some (.int .i64 0), 1, 8) := by kernel_rfl
  cases hi : Try.prog.info? 3 with
  | none => rw [hi] at h; cases h
  | some i =>
    rw [hi] at h
    injection h with h
    injection h with h1 h2
    injection h2 with h2 h3
    exact ⟨i, _, rfl, h1, h2, h3, rfl⟩⟩
theorem int_get {w : World} {B i : Nat} {A : Option Addr} {l : List Int} (h : GAt eI64 w B A l) (hi : i < l.length) : ∃ b off x, A = some ⟨b, off, none⟩ ∧ b < B ∧ l[i]? = some x ∧ w.cell? ⟨b, off + i, none⟩ = some (.int .i64 x) := by
  obtain ⟨b, off, x, rfl, hb, hx, hc⟩ := GAt.get h hi
  refine ⟨b, off, x, rfl, hb, hx, ?_⟩
  have := hc 0 _ rfl
  simpa [eI64] using this

set_option maxHeartbeats 40000000 in
set_option maxRecDepth 100000 in
theorem caleast_walk (r : Nat) (hr : r < 256) {A : Option Addr} {m c B : Nat} {xs : List Int} {w : World} (hA : GAt eI64 w B A xs) (hm : m = xs.length) (hB : B ≤ w.heap.size) :
    Calls Try.prog 5 #[.int .u8 (r : Int), .slice A m c] w fun e w' => e = .returned (.bool true) ∧ Below w.heap.size w w' := by
  have HA := hid (And.intro hA hB)
  have HM := hid hm
  have HAW := hid (fun W => awake_yes W)
  obtain ⟨R, hR⟩ : ∃ R, 1 + r % 20 = R := ⟨_, rfl⟩
  have hR0 : R ≤ 20 := by omega
  have hR1 : 1 ≤ R := by omega
  have hR5 : R ≤ 100000 := by omega
  have HNN := hid (co_new (base := w.heap.size) (w := w) (R : Int) (Nat.le_refl _) (by omega))
  rw [Int.toNat_natCast] at HNN
  have hk1 : IntKind.i64.wrap (r : Int) = (r : Int) := by rw [IntKind.wrap_i64]; omega
  have hk5 : (1 : Int) + (r : Int) % 20 = (R : Int) := by omega
  clear hA hm
  go_enter Try.func5, Try.ntmps5
  go_wp2_with fail
  go_fit HNN.out
  rintro e w1 ⟨cb, rfl, hc1, hb1⟩
  have HC1 := hid hc1
  have HB1 := hid hb1
  clear hc1 hb1 HNN hk1 hk5
  go_wp2_with fail
  go_fit (HAW.out w1)
  rintro e w2 ⟨rfl, hb⟩
  have HC3 := hid (HC1.out.step hb)
  have HB3 := hid (below_step HB1.out hb)
  clear hb HC1 HB1
  by_cases hlong : 200 < m
  · have hl1 : (200 : Int) < (m : Int) := by omega
    go_wp2_with fail
    go_fit (HAW.out w2)
    rintro e w4 ⟨rfl, hb⟩
    have HB4 := hid (below_step HB3.out hb)
    clear hb
    go_wp2_with fail
    go_ret
    exact ⟨rfl, HB4.out⟩
  have hl1 : ¬ (200 : Int) < (m : Int) := by omega
  go_wp2_with fail
  go_loopw [8] (fun i wr => ∃ (j : Nat) (l : List En), i = .int .i64 (j : Int) ∧ j ≤ m ∧ Kept (CO w.heap.size wr cb R l) ∧ Kept (l.length ≤ R) ∧ Kept (Below w.heap.size w wr) ∧ Kept (LR R (xs.take j) l)) (fun i _ => m - (intOf i).toNat)
  case atStart => exact ⟨0, [], rfl, Nat.zero_le _, HC3, hid (Nat.zero_le _), HB3, hid (LR.nil R)⟩
  case round =>
    obtain ⟨j, l, rfl, hj, HC, HF, HB, HLR⟩ := hrel
    clear HC3 HB3
    by_cases hlt : j < m
    · obtain ⟨b, off, k, rfl, hb, hk, c0⟩ := int_get (GAt.below HA.out.1 (HB.out.mono HA.out.2)) (i := j) (by rw [← HM.out]; exact hlt)
      have HP := hid (co_put k [] false HC.out HB.out.size HF.out)
      have HLR2 := hid (show LR R (xs.take (j + 1)) (putE R k [] false l) by rw [take_nextE hk]; exact HLR.out.put HC.out.nd k [] false)
      clear hb hk
      go_wp2_with fail
      go_fit HP.out
      rintro e w4 ⟨hp, hc, hb4⟩
      obtain rfl := putA_uni hp
      clear hp
      have HC4 := hid hc
      have HB4 := hid (HB.out.trans hb4)
      have HF4 := hid (show (putE R k [] false l).length ≤ R from putE_len)
      clear hc hb4 HP HLR
      go_wp2_with fail
      go_roundw
      case rel => exact ⟨j + 1, _, by go_num, by omega, HC4, HF4, HB4, HLR2⟩
      case measure => simp [intOf]; omega
    · obtain rfl : m = j := by omega
      have HLR2 := hid (show LR R xs l by have := HLR.out; rwa [HM.out, List.take_length] at this)
      have HLI := hid (co_list HC.out (Nat.le_trans HF.out hR5))
      clear HLR
      go_wp2_with fail
      go_fit HLI.out
      rintro e w4 ⟨A4, n4, c4, rfl, hes, hb4⟩
      have hb5 := hb4.alloc hb4.size (.cells #[] 3)
      have HES := hid ((hes.below ((Below.refl w4.heap.size w4).alloc (Nat.le_refl _) (.cells #[] 3)) (Nat.le_refl _)).more (by simp) (Nat.le_refl _))
      have HB5 := hid (below_step HB.out hb5)
      have HW5 := hid (GRow.empty (E := eI64) (e := 3) w4 rfl (Nat.le_refl w4.heap.size))
      have HN4 := hid hes.len
      have HES4 := hid (show EAt w4 w4.heap.size A4 l from hes.at_)
      have HB45 := hid (show Below w4.heap.size w4 (w4.alloc (.cells #[] 3)) from (Below.refl w4.heap.size w4).alloc (Nat.le_refl _) _)
      have HBZ := hid (show w.heap.size ≤ w4.heap.size from Nat.le_trans HB.out.size hb4.size)
      have HBV := hid (show w4.heap.size ≤ (w4.alloc (.cells #[] 3)).heap.size by simp)
      have HBY := HBV
      clear hes hb4 hb5 HLI HC HB
      have HEL5 := hid (show EAt (w4.alloc (.cells #[] 3)) w4.heap.size A4 l from GAt.below HES4.out HB45.out)
      clear HES4
      go_wp2_with fail
      generalize w4.alloc (.cells #[] 3) = w5 at *
      obtain ⟨BW, hBW⟩ : ∃ BW, w4.heap.size = BW := ⟨_, rfl⟩
      rw [hBW] at HW5 HEL5 HB45 HBZ HBV HBY ⊢
      clear hBW
      have hmq : (m : Int) - 1 = (m : Int) - 1 := rfl
      have hm2 : m ≤ 200 := by omega
      go_loopw [10, 11] (fun s i wr2 => ∃ (q mw cw : Nat) (Aw : Option Addr) (W : List Int), s = .slice Aw mw cw ∧ i = .int .i64 ((q : Int) - 1) ∧ q ≤ m ∧ Kept (GRow eI64 3 wr2 BW Aw mw cw W) ∧ Kept (WantIs xs q W) ∧ Kept (W.length ≤ R) ∧ Kept (Below BW w5 wr2)) (fun _ i _ => ((intOf i) + 1).toNat)
      case atStart => exact ⟨m, 0, 0, _, [], rfl, by go_num, Nat.le_refl _, HW5, hid (by rw [HM.out]; exact WantIs.start xs), hid (Nat.zero_le _), hid (Below.refl _ _)⟩
      case round =>
        obtain ⟨q, mw, cw, Aw, W, rfl, rfl, hq, HWW, HWI, HWR, HBQ⟩ := hrel
        obtain ⟨wr2, rfl⟩ : ∃ wr2, wr2 = wr := ⟨_, rfl⟩
        have HBW := hid (HB5.out.trans (HBQ.out.mono HBZ.out))
        have HEL := hid (show EAt wr2 wr2.heap.size A4 l from GAt.more (GAt.below HEL5.out HBQ.out) (Nat.le_trans HBY.out HBQ.out.size))
        cases q with
        | zero =>
          have hz0 : ((0 : Nat) : Int) - 1 = -1 := by omega
          rw [hz0]
          have HWA := hid (HWI.out.all HWR.out (.inl rfl))
          have hlw : l.length = W.length := by
            have h1 := HLR2.out
            unfold LR at h1
            rw [← HWA.out] at h1
            have h2 := congrArg List.length h1
            simpa [idl] using h2
          have hnm : (n4 : Int) = (mw : Int) := by have := HWW.out.1; rw [HN4.out, hlw, this]
          have HWE := hid (show ∀ (k : Nat) (x : En) (y : Int), l[k]? = some x → W[k]? = some y → x.i = y from fun k x y hx hy => by
            have h1 := HLR2.out
            unfold LR at h1
            rw [← HWA.out] at h1
            rw [← h1] at hy
            unfold idl at hy
            rw [List.getElem?_map, hx] at hy
            simpa using hy)
          have hmw4 : mw = n4 := by rw [HWW.out.1, ← hlw, HN4.out]
          have hcap4 := HES.out.cap
          have hcapw := GRow.cap HWW.out
          have HFR := hid HF.out
          have hn46 : n4 ≤ 1000000 := by have := HF.out; rw [HN4.out]; omega
          clear hlw hnm
          subst hmw4
          go_wp2_with fail
          go_loopw [14] (fun i wr4 => ∃ k : Nat, i = .int .i64 (k : Int) ∧ k ≤ mw ∧ Kept (Below wr2.heap.size wr2 wr4)) (fun i _ => mw - (intOf i).toNat)
          case atStart => exact ⟨0, rfl, Nat.zero_le _, hid (Below.refl _ _)⟩
          case round =>
            obtain ⟨k, rfl, hk, HBK⟩ := hrel
            by_cases hlk : k < mw
            · have hes := HEL.out.below HBK.out
              obtain ⟨b5, off5, y, rfl, hb5, hy, c0, c1, c2⟩ := EAt.get hes (i := k) (by rw [← HN4.out]; exact hlk)
              have hww := GAt.below (GRow.at_ HWW.out) HBK.out
              obtain ⟨b6, off6, z, rfl, hb6, hz, d0⟩ := int_get hww (i := k) (by rw [← HWW.out.1]; exact hlk)
              have he := HWE.out k y z hy hz
              subst he
              clear hes hww hy hz hb5 hb6 c1 c2
              go_wp2_with fail
              go_quiet (fail)
              go_wp2_with fail
              go_roundw
              case rel => exact ⟨k + 1, by go_num, by omega, hid (below_drewN HBK.out _)⟩
              case measure => simp [intOf]; omega
            · go_wp2_with fail
              go_ret
              exact ⟨rfl, HBW.out.trans (HBK.out.mono HBW.out.size)⟩
        | succ q =>
          have hzq : ((q + 1 : Nat) : Int) - 1 = (q : Int) := by omega
          rw [hzq]
          by_cases hfull : mw < R
          · obtain ⟨b5, off5, x, rfl, hb5, hx, c0⟩ := int_get (GAt.below HA.out.1 (HBW.out.mono HA.out.2)) (i := q) (by rw [← HM.out]; omega)
            have HWI2 := hid (HWI.out.next hx)
            have hb5w : b5 < wr2.heap.size := Nat.lt_of_lt_of_le hb5 (Nat.le_trans HA.out.2 HBW.out.size)
            have HC0 := hid (And.intro c0 hb5w)
            clear hb5 hx hb5w
            have hmwR : (mw : Int) < (R : Int) := by omega
            go_upto_block 4 with fail
            go_cut [12] from 66 to 85 (fun h wx => h = .bool (decide (x ∈ W)) ∧ Kept (Below wr2.heap.size wr2 wx))
            case first =>
              go_wp2_with fail
              go_loopw [12, 13] (fun h i wr3 => ∃ k : Nat, h = .bool (decide (x ∈ W.take k)) ∧ i = .int .i64 (k : Int) ∧ k ≤ mw ∧ Kept (Below wr2.heap.size wr2 wr3)) (fun _ i _ => mw - (intOf i).toNat)
              case atStart => exact ⟨0, by simp, rfl, Nat.zero_le _, hid (Below.refl _ _)⟩
              case round =>
                obtain ⟨k, rfl, rfl, hk, HBK⟩ := hrel
                by_cases hlk : k < mw
                · have hww := GAt.below (GRow.at_ HWW.out) HBK.out
                  obtain ⟨b6, off6, z, rfl, hb6, hz, d0⟩ := int_get hww (i := k) (by rw [← HWW.out.1]; exact hlk)
                  have c0' := (Below.cell HBK.out HC0.out.2).trans HC0.out.1
                  have HD := hid (show decide (x ∈ W.take (k + 1)) = (decide (x ∈ W.take k) || decide (z = x)) by have h3 : (x = z) ↔ (z = x) := eq_comm; rw [take_nextE hz]; by_cases h1 : x ∈ W.take k <;> by_cases h2 : z = x <;> simp [h1, h2, h3])
                  clear hww hz hb6 c0
                  by_cases h1 : x ∈ W.take k
                  · rw [decide_eq_true h1] at HD ⊢
                    have HD2 := hid (show decide (x ∈ W.take (k + 1)) = true by rw [HD.out]; rfl)
                    clear h1 HD
                    go_wp2_with fail
                    go_quiet (fail)
                    go_wp2_with fail
                    go_roundw
                    case rel => exact ⟨k + 1, by rw [HD2.out], by go_num, by omega, hid (below_drewN HBK.out _)⟩
                    case measure => simp [intOf]; omega
                  · rw [decide_eq_false h1] at HD ⊢
                    by_cases h2 : z = x
                    · have HD2 := hid (show decide (x ∈ W.take (k + 1)) = true by rw [HD.out, decide_eq_true h2]; rfl)
                      subst h2
                      clear h1 HD
                      go_wp2_with fail
                      go_quiet (fail)
                      go_wp2_with fail
                      go_roundw
                      case rel => exact ⟨k + 1, by rw [HD2.out], by go_num, by omega, hid (below_drewN HBK.out _)⟩
                      case measure => simp [intOf]; omega
                    · have HD2 := hid (show decide (x ∈ W.take (k + 1)) = false by rw [HD.out, decide_eq_false h2]; rfl)
                      have h2x : ¬ x = z := fun h => h2 h.symm
                      have h2' : (z == x) = false := by simpa using h2
                      clear h2x
                      clear h1 HD
                      go_wp2_with fail
                      go_quiet (fail)
                      go_wp2_with fail
                      go_roundw
                      case rel => exact ⟨k + 1, by rw [HD2.out], by go_num, by omega, hid (below_drewN HBK.out _)⟩
                      case measure => simp [intOf]; omega
                · have hke : k = mw := by omega
                  have HD2 := hid (show decide (x ∈ W.take k) = decide (x ∈ W) by rw [hke, HWW.out.1, List.take_length])
                  go_wp2_with fail
                  go_meet
                  case rel => exact ⟨by rw [HD2.out], HBK⟩
            case rest =>
              obtain ⟨rfl, HBK⟩ := hcut
              obtain ⟨w7, rfl⟩ : ∃ w7, w7 = wc := ⟨_, rfl⟩
              have HW7 := hid (GRow.below HWW.out HBK.out)
              have HB7 := hid (HBQ.out.trans (HBK.out.mono (Nat.le_trans HBV.out HBQ.out.size)))
              have c0' := (Below.cell HBK.out HC0.out.2).trans HC0.out.1
              clear c0
              by_cases hin : x ∈ W
              · have HWI3 := hid (show WantIs xs q W by have := HWI2.out; rwa [if_pos hin] at this)
                rw [decide_eq_true hin]
                go_wp2_with fail
                go_roundw
                case rel => exact ⟨q, mw, cw, Aw, W, rfl, by go_num, by omega, HW7, HWI3, HWR, HB7⟩
                case measure => simp [intOf]
              · have HWI3 := hid (show WantIs xs q (W ++ [x]) by have := HWI2.out; rwa [if_neg hin] at this)
                rw [decide_eq_false hin]
                have hb8 := (Below.refl w7.heap.size w7).alloc (Nat.le_refl _) (.cells #[.int .i64 x] 3)
                have HW8 := hid (GRow.below HW7.out hb8)
                have HX8 := hid (GAt.one w7 x 3 (E := eI64) (cs := #[.int .i64 x]) rfl)
                have HL8 := hid (show W.length + [x].length ≤ 1099511627776 by have := HWR.out; rw [List.length_singleton]; omega)
                have HS8 := hid (show BW ≤ (w7.alloc (.cells #[.int .i64 x] 3)).heap.size from Nat.le_trans (Nat.le_trans HBV.out HB7.out.size) hb8.size)
                have HB8 := hid (HB7.out.alloc (Nat.le_trans HBV.out HB7.out.size) (.cells #[.int .i64 x] 3))
                clear hb8
                go_wp2_with (at_builtin; go_must (refine wpList_append_g _ rfl _ _ eI64 gi_int (by decide) rfl BW rfl HW8.out rfl rfl HX8.out HL8.out HS8.out ?_); intro A9 m9 c9 w9 hr9 hc9 hb9 hg9; have HR9 := hid (And.intro hr9 hb9); clear hr9 hc9 hb9 hg9; go_frame)
                go_roundw
                case rel => exact ⟨q, m9, c9, A9, W ++ [x], rfl, by go_num, by omega, hid HR9.out.1, HWI3, hid (by rw [List.length_append, List.length_singleton]; have := HWW.out.1; omega), hid (HB8.out.trans HR9.out.2)⟩
                case measure => simp [intOf]
          · have hmwR : ¬ (mw : Int) < (R : Int) := by omega
            have HWA := hid (HWI.out.all HWR.out (.inr (by rw [← HWW.out.1]; omega)))
            have hlw : l.length = W.length := by
              have h1 := HLR2.out
              unfold LR at h1
              rw [← HWA.out] at h1
              have h2 := congrArg List.length h1
              simpa [idl] using h2
            have hnm : (n4 : Int) = (mw : Int) := by have := HWW.out.1; rw [HN4.out, hlw, this]
            have HWE := hid (show ∀ (k : Nat) (x : En) (y : Int), l[k]? = some x → W[k]? = some y → x.i = y from fun k x y hx hy => by
              have h1 := HLR2.out
              unfold LR at h1
              rw [← HWA.out] at h1
              rw [← h1] at hy
              unfold idl at hy
              rw [List.getElem?_map, hx] at hy
              simpa using hy)
            have hmw4 : mw = n4 := by rw [HWW.out.1, ← hlw, HN4.out]
            have hcap4 := HES.out.cap
            have hcapw := GRow.cap HWW.out
            have HFR := hid HF.out
            have hn46 : n4 ≤ 1000000 := by have := HF.out; rw [HN4.out]; omega
            clear hlw hnm
            subst hmw4
            go_wp2_with fail
            go_loopw [14] (fun i wr4 => ∃ k : Nat, i = .int .i64 (k : Int) ∧ k ≤ mw ∧ Kept (Below wr2.heap.size wr2 wr4)) (fun i _ => mw - (intOf i).toNat)
            case atStart => exact ⟨0, rfl, Nat.zero_le _, hid (Below.refl _ _)⟩
            case round =>
              obtain ⟨k, rfl, hk, HBK⟩ := hrel
              by_cases hlk : k < mw
              · have hes := HEL.out.below HBK.out
                obtain ⟨b5, off5, y, rfl, hb5, hy, c0, c1, c2⟩ := EAt.get hes (i := k) (by rw [← HN4.out]; exact hlk)
                have hww := GAt.below (GRow.at_ HWW.out) HBK.out
                obtain ⟨b6, off6, z, rfl, hb6, hz, d0⟩ := int_get hww (i := k) (by rw [← HWW.out.1]; exact hlk)
                have he := HWE.out k y z hy hz
                subst he
                clear hes hww hy hz hb5 hb6 c1 c2
                go_wp2_with fail
                go_quiet (fail)
                go_wp2_with fail
                go_roundw
                case rel => exact ⟨k + 1, by go_num, by omega, hid (below_drewN HBK.out _)⟩
                case measure => simp [intOf]; omega
              · go_wp2_with fail
                go_ret
                exact ⟨rfl, HBW.out.trans (HBK.out.mono HBW.out.size)⟩

theorem caleast_int (a0 : Int) {A : Option Addr} {m c B : Nat} {xs : List Int} {w : World} (h0 : 0 ≤ a0 ∧ a0 < 256) (hA : GAt eI64 w B A xs) (hm : m = xs.length) (hB : B ≤ w.heap.size) :
    Calls Try.prog 5 #[.int .u8 a0, .slice A m c] w fun e w' => e = .returned (.bool true) ∧ Below w.heap.size w w' := by
  obtain ⟨r, rfl⟩ : ∃ r : Nat, a0 = (r : Int) := ⟨a0.toNat, by omega⟩
  exact caleast_walk r (by omega) hA hm hB

end Go.Proofs.Ytdhjjjagjkencaa
