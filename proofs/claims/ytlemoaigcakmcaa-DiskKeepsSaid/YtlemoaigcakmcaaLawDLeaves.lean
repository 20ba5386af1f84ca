/-
  DiskLeaves: its walk, over what is to be shown of the landed code.
-/
import Derived.Test.YtlemoaigcakmcaaDInv
import Derived.Test.YtlemoaigcakmcaaLawDTorn
namespace Go.Proofs.Ytlemoaigcakmcaa
open Go Go.RowKit

/-- a disk of the law's own -/
structure Own6 (DA : DiskAt) (w wr : World) (d : Nat) (M R : Nat → Prop) (s : Dk) : Prop where
  at_ : DA wr d M R s
  own : ∀ k, M k → w.heap.size ≤ k
  below : Below w.heap.size w wr
theorem Own6.step {DA : DiskAt} {w wr w' : World} {d : Nat} {M R : Nat → Prop} {s : Dk} (h : Own6 DA w wr d M R s) (hF : Face DA) (hb : Below wr.heap.size wr w') : Own6 DA w w' d M R s :=
  ⟨hF.step h.at_ hb, h.own, below_step h.below hb⟩
theorem Own6.turn {DA : DiskAt} {w wr w' : World} {d : Nat} {M R M' R' : Nat → Prop} {s s' : Dk} (h : Own6 DA w wr d M R s) (hd : DA w' d M' R' s') (ht : Turns M R wr M' R' w') : Own6 DA w w' d M' R' s' :=
  ⟨hd, fun k hk => (ht.own k hk).elim (h.own k) (fun hk => Nat.le_trans h.below.size hk), h.below.trans (ht.below h.below.size h.own)⟩

/-- one act on a disk, as the laws' loops make it -/
theorem new_cases (n : Int) : (∃ k : Nat, n = (k : Int) ∧ 1 ≤ k ∧ k ≤ 65536) ∨ (n < 1 ∨ 65536 < n) := by
  by_cases h : 1 ≤ n ∧ n ≤ 65536
  · exact .inl ⟨n.toNat, by omega, by omega, by omega⟩
  · exact .inr (by omega)

set_option maxHeartbeats 8000000 in
set_option maxRecDepth 100000 in
theorem dleaves_walk {DA : DiskAt} (hF : Face DA) (hAw : AwakeIs) (n : Int) {A : Option Addr} {m c : Nat} (xs : List Act6) (w : World) (hA : ActsAt w w.heap.size A xs) (hm : m = xs.length) (_hc : m ≤ c) (_hl : m ≤ 9223372036854775807) :
    Calls Try.prog 4 #[.int .i64 n, .slice A m c] w fun e w' => e = .returned (.bool true) ∧ Below w.heap.size w w' := by
  have HF := hid hF
  have HAW := hid hAw
  have HA := hid hA
  have HM := hid hm
  clear hAw hA hm
  rcases new_cases n with ⟨N, rfl, h1, h2⟩ | hno
  case inr =>
    have HNew := hid (hF.newNo (n := n) (w := w) hno)
    clear hF hno
    go_enter Try.func4, Try.ntmps4
    go_wp2_with fail
    go_fit HNew.out
    rintro e w1 ⟨rfl, hb1⟩
    have HB1 := hid hb1
    clear hb1
    go_wp2_with fail
    go_fit (HAW.out w1)
    rintro e w2 ⟨rfl, hb2⟩
    have HB2 := hid (below_step HB1.out hb2)
    clear hb2
    go_wp2_with fail
    go_fit (HAW.out w2)
    rintro e w3 ⟨rfl, hb3⟩
    have HB3 := hid (below_step HB2.out hb3)
    clear hb3
    go_wp2_with fail
    go_ret
    exact ⟨rfl, HB3.out⟩
  have HNew := hid (hF.newYes (w := w) h1 h2)
  clear hF h1 h2
  go_enter Try.func4, Try.ntmps4
  go_wp2_with fail
  go_fit HNew.out
  rintro e w1 ⟨d, M, R, rfl, hd, hnew, hb1⟩
  have HO1 := hid (show Own6 DA w w1 d M R (Dk.new N) from ⟨hd, fun k hk => hnew k (.inl hk), hb1⟩)
  clear hd hnew hb1
  go_wp2_with fail
  go_fit (HAW.out w1)
  rintro e w2 ⟨rfl, hb2⟩
  have HO2 := hid (HO1.out.step HF.out hb2)
  clear hb2
  go_wp2_with fail
  go_loopw [7] (fun i wr => ∃ (k : Nat) (s : Dk) (M R : Nat → Prop), k ≤ m ∧ k ≤ 40 ∧ i = .int .i64 (k : Int) ∧ Kept (s.Inv k) ∧ Kept (Own6 DA w wr d M R s)) (fun i _ => 40 - (intOf i).toNat)
  case atStart => exact ⟨0, _, M, R, Nat.zero_le _, by decide, rfl, hid (Dk.new_inv N), HO2⟩
  case round =>
    clear HO1 HO2
    obtain ⟨k, s, M, R, hk, hk40, rfl, HI, HO⟩ := hrel
    by_cases hgo : k < m ∧ k < 40
    · obtain ⟨hkm, hk4⟩ := hgo
      obtain ⟨b, off, x, rfl, hb, hx, hin⟩ := (HA.out.below HO.out.below).get (k := k) (by rw [← HM.out]; exact hkm)
      obtain ⟨A1, n1, c1, d0, d1, d2, d3, hsv, hn1, hc1, hcm, hbm⟩ := hin.out
      have HSV := hid hsv
      have HN1 := hid hn1
      have HFEW := hid (fun (W : World) (hW : SvAt W w.heap.size A1 x.l) => few_any (x := x) (c := c1) hW hn1 hc1 hbm hcm)
      have HI2 := hid (doS_inv HI.out x.few)
      unfold Act6.val at HFEW
      clear hx hin hsv hn1 hc1 hcm hbm hb
      go_wp2_with fail
      go_fit (HFEW.out wr HSV.out)
      rintro e w3 ⟨⟨n2, rfl, hn2, hc2⟩, hb3⟩
      have HO3 := hid (HO.out.step HF.out hb3)
      have HDO := hid (do_any (x := x.few) (n := n2) (c := c1) HF.out HO3.out.at_ ((HSV.out.below (hb3.mono HO.out.below.size)).take 60) hn2 HO3.out.below.size (few_small x) (by have := HI.out.len; omega))
      unfold Act6.val at HDO
      clear hn2 hc2 hb3
      go_wp2_with fail
      go_fit HDO.out
      rintro e w4 ⟨rfl, M', R', hd, ht⟩
      have HO4 := hid (HO3.out.turn hd ht)
      clear hd ht
      go_wp2_with fail
      go_roundw
      case rel => exact ⟨k + 1, _, M', R', by omega, by omega, by go_num, HI2, HO4⟩
      case measure => simp [intOf]; omega
    · by_cases hkm : k < m
      · have hk4 : ¬ k < 40 := fun h => hgo ⟨hkm, h⟩
        clear hgo
        go_wp2_with fail
        go_fit (HF.out.copy HO.out.at_ (by have := HI.out.len; omega))
        rintro e w5 ⟨d2, M2, R2, rfl, hd2, hm2, hr2, hb5⟩
        have HO5 := hid (HO.out.step HF.out hb5)
        have HC5 := hid hd2
        have HLW := hid (HF.out.lt HO.out.at_)
        have HAP := hid (show Apart M R M2 R2 from ⟨fun k h h2 => by have := hm2 k h2; have := HLW.out k (.inl h); omega, fun k h h2 => hr2 k h2 h, fun k h h2 => by have := hm2 k h2; have := HLW.out k (.inr h); omega⟩)
        have HM2 := hid (show ∀ k, M2 k → w.heap.size ≤ k from fun k h => Nat.le_trans HO.out.below.size (hm2 k h))
        have HL5 := hid (HF.out.lt HO5.out.at_)
        have HR5 := hid (SvRow.empty w5 (base := w5.heap.size) rfl (Nat.le_refl _))
        have HB5 := hid (show Below w5.heap.size w5 (w5.alloc (.cells #[] 44)) from (Below.refl _ _).alloc (Nat.le_refl _) _)
        have hpl := HI.out.len
        obtain ⟨P, hP⟩ : ∃ P, P = s.pend.length := ⟨_, rfl⟩
        rw [← hP] at hpl
        have HPL := hid hP
        have hp40 : P ≤ 40 := by omega
        clear hd2 hm2 hr2 hb5 hP hpl
        go_wp2_with fail
        go_loopw [9, 10] (fun v i wq => ∃ (p m9 c9 : Nat) (A9 : Option Addr), p ≤ P ∧ v = .slice A9 m9 c9 ∧ i = .int .i64 (p : Int) ∧ Kept (SvRow wq w5.heap.size A9 m9 c9 (svs p)) ∧ Kept (Below w5.heap.size w5 wq)) (fun _ i _ => P - (intOf i).toNat)
        case atStart => exact ⟨0, 0, 0, _, Nat.zero_le _, rfl, rfl, HR5, HB5⟩
        case round =>
          clear HR5 HB5
          obtain ⟨p, m9, c9, A9, hp, rfl, rfl, HR, HB⟩ := hrel
          have HPE := hid (HF.out.pending (HF.out.step HO5.out.at_ HB.out))
          rw [← HPL.out] at HPE
          by_cases hlt : p < P
          · go_wp2_with fail
            go_fit HPE.out
            rintro e w6 ⟨rfl, hb6⟩
            have HR6 := hid ((HR.out.below hb6).alloc (.cells #[.int .i64 (p : Int), .int .i64 600] 44))
            have HB6 := hid (below_step HB.out (hb6.alloc hb6.size (.cells #[.int .i64 (p : Int), .int .i64 600] 44)))
            have HS6 := hid (SvAt.one w6 (p : Int) 600)
            have HLEN := hid (show (svs p).length + [((p : Int), (600 : Int))].length ≤ 1099511627776 by rw [svs_length]; simp; omega)
            have HBA := hid HB6.out.size
            clear hb6
            go_wp2_with (at_builtin; go_must (refine wpList_append_sv _ rfl _ _ rfl w5.heap.size rfl HR6.out rfl rfl HS6.out HLEN.out HBA.out ?_))
            intro A7 m7 c7 w7 hr7 hm7 hb7 hg7
            rw [← svs_succ] at hr7
            have HR7 := hid hr7
            have HB7 := hid (HB6.out.trans hb7)
            clear hr7 hm7 hb7 hg7
            go_wp2_with fail
            go_roundw
            case rel => exact ⟨p + 1, m7, c7, A7, by omega, rfl, by go_num, HR7, HB7⟩
            case measure => simp [intOf]; omega
          · obtain rfl : p = P := by omega
            go_wp2_with fail
            go_fit HPE.out
            rintro e w6 ⟨rfl, hb6⟩
            have HR6 := hid (HR.out.below hb6)
            have HB6 := hid (below_step HB.out hb6)
            have HO6 := hid (HO5.out.step HF.out HB6.out)
            have HC6 := hid (HF.out.step HC5.out HB6.out)
            have HLC := hid (HF.out.lt HC5.out)
            have HCR := hid (HF.out.crash (c := c9) HO6.out.at_ HR6.out.at_ HR6.out.1 (Nat.le_refl _) (HR6.out.off fun j hj => HL5.out j (.inl hj)) (by rw [HR6.out.1, svs_length]; omega))
            rw [HPL.out, crash_all HI.out] at HCR
            clear hb6
            go_wp2_with fail
            go_fit HCR.out
            rintro e w7 ⟨rfl, M7, R7, hd, ht⟩
            have HO7 := hid (HO6.out.turn hd ht)
            have HC7 := hid (HF.out.beside HC6.out ht (fun k h h2 => HAP.out.a k h2 h) (fun k h h2 => HAP.out.b k h2 h))
            have HAP7 := hid (HAP.out.turn ht (HF.out.lt HC6.out))
            clear hd ht HCR
            have HCS := hid (HF.out.sync HC7.out)
            go_wp2_with fail
            go_fit HCS.out
            rintro e w8 ⟨rfl, M8, R8, hd, ht⟩
            have HC8 := hid hd
            have HO8 := hid (show Own6 DA w w8 d M7 R7 s.sync from ⟨HF.out.beside HO7.out.at_ ht HAP7.out.a HAP7.out.c, HO7.out.own, HO7.out.below.trans (ht.below HO7.out.below.size HM2.out)⟩)
            have HAP8 := hid (HAP7.out.symm.turn ht (HF.out.lt HO7.out.at_))
            have HM8 := hid (show ∀ k, M8 k → w.heap.size ≤ k from fun k h => (ht.own k h).elim (HM2.out k) (fun h => Nat.le_trans HO7.out.below.size h))
            clear hd ht HCS
            have HCN := hid (HF.out.crash (A := none) (n := 0) (c := 0) (B := 0) (l := []) HC8.out (fun h => absurd h (by simp)) rfl (Nat.zero_le _) (fun b off e => by cases e) (by decide))
            rw [sync_crash] at HCN
            go_wp2_with fail
            go_fit HCN.out
            rintro e w9 ⟨rfl, M9, R9, hd, ht⟩
            have HC9 := hid hd
            have HO9 := hid (show Own6 DA w w9 d M7 R7 s.sync from ⟨HF.out.beside HO8.out.at_ ht (fun k h h2 => HAP8.out.a k h2 h) (fun k h h2 => HAP8.out.b k h2 h), HO8.out.own, HO8.out.below.trans (ht.below HO8.out.below.size HM8.out)⟩)
            clear hd ht HCN
            go_wp2_with fail
            go_loopw [11] (fun i wq => ∃ j : Nat, j ≤ 21 ∧ i = .int .i64 (j : Int) ∧ Kept (Below w9.heap.size w9 wq)) (fun i _ => 21 - (intOf i).toNat)
            case atStart => exact ⟨0, Nat.zero_le _, rfl, hid (Below.refl _ _)⟩
            case round =>
              obtain ⟨j, hj, rfl, HB⟩ := hrel
              by_cases hlt : j < 21
              · have HRA := hid (HF.out.read (i := (j : Int)) (HF.out.step HO9.out.at_ HB.out))
                cases hv : s.sync.view (j : Int) with
                | none =>
                  rw [hv] at HRA
                  go_wp2_with fail
                  go_fit HRA.out
                  rintro e w10 ⟨rfl, hb10⟩
                  have HB10 := hid (below_step HB.out hb10)
                  have HRC := hid (HF.out.read (i := (j : Int)) (HF.out.step HC9.out HB10.out))
                  rw [hv] at HRC
                  clear hb10
                  go_wp2_with fail
                  go_fit HRC.out
                  rintro e w11 ⟨rfl, hb11⟩
                  have HB11 := hid (below_step HB10.out hb11)
                  clear hb11
                  have hcv := str_of (w := w11) (A := none) (m := 0) (c := 0) (l := []) (At.nil _ 0 _) rfl
                  go_wp2_with fail
                  go_roundw
                  case rel => exact ⟨j + 1, by omega, by go_num, HB11⟩
                  case measure => simp [intOf]; omega
                | some bb =>
                  rw [hv] at HRA
                  go_wp2_with fail
                  go_fit HRA.out
                  rintro e w10 ⟨⟨Aa, na, ca, rfl, ha1, ha2, ha3⟩, hb10⟩
                  have HB10 := hid (below_step HB.out hb10)
                  have HAA := hid ha1
                  have HNA := hid ha2
                  have HRC := hid (HF.out.read (i := (j : Int)) (HF.out.step HC9.out HB10.out))
                  rw [hv] at HRC
                  clear hb10 ha1 ha2 ha3
                  go_wp2_with fail
                  go_fit HRC.out
                  rintro e w11 ⟨⟨Ac, nc, cc, rfl, hc1, hc2, hc3⟩, hb11⟩
                  have HB11 := hid (below_step HB10.out hb11)
                  have hcv1 := str_of (c := ca) (At.below HAA.out hb11) HNA.out
                  have hcv2 := str_of (c := cc) hc1 hc2
                  have tb := bst_toList bb
                  clear hb11 hc1 hc2 hc3
                  go_wp2_with fail
                  go_roundw
                  case rel => exact ⟨j + 1, by omega, by go_num, HB11⟩
                  case measure => simp [intOf]; omega
              · have HU := hid (HF.out.used (HF.out.step HO9.out.at_ HB.out))
                go_wp2_with fail
                go_fit HU.out
                rintro e w10 ⟨rfl, hb10⟩
                have HB10 := hid (below_step HB.out hb10)
                have HU2 := hid (HF.out.used (HF.out.step HC9.out HB10.out))
                clear hb10
                go_wp2_with fail
                go_fit HU2.out
                rintro e w11 ⟨rfl, hb11⟩
                have HB11 := hid (below_step HB10.out hb11)
                have HP1 := hid (HF.out.pending (HF.out.step HO9.out.at_ HB11.out))
                have hpe : (s.sync.pend.length : Int) = 0 := rfl
                rw [hpe] at HP1
                clear hb11 hpe
                go_wp2_with fail
                go_fit HP1.out
                rintro e w12 ⟨rfl, hb12⟩
                have HB12 := hid (below_step HB11.out hb12)
                have HP2 := hid (HF.out.pending (HF.out.step HC9.out HB12.out))
                have hpe : (s.sync.pend.length : Int) = 0 := rfl
                rw [hpe] at HP2
                clear hb12 hpe
                go_wp2_with fail
                go_fit HP2.out
                rintro e w13 ⟨rfl, hb13⟩
                have HB13 := hid (HO9.out.below.trans ((below_step HB12.out hb13).mono HO9.out.below.size))
                clear hb13
                go_wp2_with fail
                go_ret
                exact ⟨rfl, HB13.out⟩
      · clear hgo
        go_wp2_with fail
        go_fit (HF.out.copy HO.out.at_ (by have := HI.out.len; omega))
        rintro e w5 ⟨d2, M2, R2, rfl, hd2, hm2, hr2, hb5⟩
        have HO5 := hid (HO.out.step HF.out hb5)
        have HC5 := hid hd2
        have HLW := hid (HF.out.lt HO.out.at_)
        have HAP := hid (show Apart M R M2 R2 from ⟨fun k h h2 => by have := hm2 k h2; have := HLW.out k (.inl h); omega, fun k h h2 => hr2 k h2 h, fun k h h2 => by have := hm2 k h2; have := HLW.out k (.inr h); omega⟩)
        have HM2 := hid (show ∀ k, M2 k → w.heap.size ≤ k from fun k h => Nat.le_trans HO.out.below.size (hm2 k h))
        have HL5 := hid (HF.out.lt HO5.out.at_)
        have HR5 := hid (SvRow.empty w5 (base := w5.heap.size) rfl (Nat.le_refl _))
        have HB5 := hid (show Below w5.heap.size w5 (w5.alloc (.cells #[] 44)) from (Below.refl _ _).alloc (Nat.le_refl _) _)
        have hpl := HI.out.len
        obtain ⟨P, hP⟩ : ∃ P, P = s.pend.length := ⟨_, rfl⟩
        rw [← hP] at hpl
        have HPL := hid hP
        have hp40 : P ≤ 40 := by omega
        clear hd2 hm2 hr2 hb5 hP hpl
        go_wp2_with fail
        go_loopw [9, 10] (fun v i wq => ∃ (p m9 c9 : Nat) (A9 : Option Addr), p ≤ P ∧ v = .slice A9 m9 c9 ∧ i = .int .i64 (p : Int) ∧ Kept (SvRow wq w5.heap.size A9 m9 c9 (svs p)) ∧ Kept (Below w5.heap.size w5 wq)) (fun _ i _ => P - (intOf i).toNat)
        case atStart => exact ⟨0, 0, 0, _, Nat.zero_le _, rfl, rfl, HR5, HB5⟩
        case round =>
          clear HR5 HB5
          obtain ⟨p, m9, c9, A9, hp, rfl, rfl, HR, HB⟩ := hrel
          have HPE := hid (HF.out.pending (HF.out.step HO5.out.at_ HB.out))
          rw [← HPL.out] at HPE
          by_cases hlt : p < P
          · go_wp2_with fail
            go_fit HPE.out
            rintro e w6 ⟨rfl, hb6⟩
            have HR6 := hid ((HR.out.below hb6).alloc (.cells #[.int .i64 (p : Int), .int .i64 600] 44))
            have HB6 := hid (below_step HB.out (hb6.alloc hb6.size (.cells #[.int .i64 (p : Int), .int .i64 600] 44)))
            have HS6 := hid (SvAt.one w6 (p : Int) 600)
            have HLEN := hid (show (svs p).length + [((p : Int), (600 : Int))].length ≤ 1099511627776 by rw [svs_length]; simp; omega)
            have HBA := hid HB6.out.size
            clear hb6
            go_wp2_with (at_builtin; go_must (refine wpList_append_sv _ rfl _ _ rfl w5.heap.size rfl HR6.out rfl rfl HS6.out HLEN.out HBA.out ?_))
            intro A7 m7 c7 w7 hr7 hm7 hb7 hg7
            rw [← svs_succ] at hr7
            have HR7 := hid hr7
            have HB7 := hid (HB6.out.trans hb7)
            clear hr7 hm7 hb7 hg7
            go_wp2_with fail
            go_roundw
            case rel => exact ⟨p + 1, m7, c7, A7, by omega, rfl, by go_num, HR7, HB7⟩
            case measure => simp [intOf]; omega
          · obtain rfl : p = P := by omega
            go_wp2_with fail
            go_fit HPE.out
            rintro e w6 ⟨rfl, hb6⟩
            have HR6 := hid (HR.out.below hb6)
            have HB6 := hid (below_step HB.out hb6)
            have HO6 := hid (HO5.out.step HF.out HB6.out)
            have HC6 := hid (HF.out.step HC5.out HB6.out)
            have HLC := hid (HF.out.lt HC5.out)
            have HCR := hid (HF.out.crash (c := c9) HO6.out.at_ HR6.out.at_ HR6.out.1 (Nat.le_refl _) (HR6.out.off fun j hj => HL5.out j (.inl hj)) (by rw [HR6.out.1, svs_length]; omega))
            rw [HPL.out, crash_all HI.out] at HCR
            clear hb6
            go_wp2_with fail
            go_fit HCR.out
            rintro e w7 ⟨rfl, M7, R7, hd, ht⟩
            have HO7 := hid (HO6.out.turn hd ht)
            have HC7 := hid (HF.out.beside HC6.out ht (fun k h h2 => HAP.out.a k h2 h) (fun k h h2 => HAP.out.b k h2 h))
            have HAP7 := hid (HAP.out.turn ht (HF.out.lt HC6.out))
            clear hd ht HCR
            have HCS := hid (HF.out.sync HC7.out)
            go_wp2_with fail
            go_fit HCS.out
            rintro e w8 ⟨rfl, M8, R8, hd, ht⟩
            have HC8 := hid hd
            have HO8 := hid (show Own6 DA w w8 d M7 R7 s.sync from ⟨HF.out.beside HO7.out.at_ ht HAP7.out.a HAP7.out.c, HO7.out.own, HO7.out.below.trans (ht.below HO7.out.below.size HM2.out)⟩)
            have HAP8 := hid (HAP7.out.symm.turn ht (HF.out.lt HO7.out.at_))
            have HM8 := hid (show ∀ k, M8 k → w.heap.size ≤ k from fun k h => (ht.own k h).elim (HM2.out k) (fun h => Nat.le_trans HO7.out.below.size h))
            clear hd ht HCS
            have HCN := hid (HF.out.crash (A := none) (n := 0) (c := 0) (B := 0) (l := []) HC8.out (fun h => absurd h (by simp)) rfl (Nat.zero_le _) (fun b off e => by cases e) (by decide))
            rw [sync_crash] at HCN
            go_wp2_with fail
            go_fit HCN.out
            rintro e w9 ⟨rfl, M9, R9, hd, ht⟩
            have HC9 := hid hd
            have HO9 := hid (show Own6 DA w w9 d M7 R7 s.sync from ⟨HF.out.beside HO8.out.at_ ht (fun k h h2 => HAP8.out.a k h2 h) (fun k h h2 => HAP8.out.b k h2 h), HO8.out.own, HO8.out.below.trans (ht.below HO8.out.below.size HM8.out)⟩)
            clear hd ht HCN
            go_wp2_with fail
            go_loopw [11] (fun i wq => ∃ j : Nat, j ≤ 21 ∧ i = .int .i64 (j : Int) ∧ Kept (Below w9.heap.size w9 wq)) (fun i _ => 21 - (intOf i).toNat)
            case atStart => exact ⟨0, Nat.zero_le _, rfl, hid (Below.refl _ _)⟩
            case round =>
              obtain ⟨j, hj, rfl, HB⟩ := hrel
              by_cases hlt : j < 21
              · have HRA := hid (HF.out.read (i := (j : Int)) (HF.out.step HO9.out.at_ HB.out))
                cases hv : s.sync.view (j : Int) with
                | none =>
                  rw [hv] at HRA
                  go_wp2_with fail
                  go_fit HRA.out
                  rintro e w10 ⟨rfl, hb10⟩
                  have HB10 := hid (below_step HB.out hb10)
                  have HRC := hid (HF.out.read (i := (j : Int)) (HF.out.step HC9.out HB10.out))
                  rw [hv] at HRC
                  clear hb10
                  go_wp2_with fail
                  go_fit HRC.out
                  rintro e w11 ⟨rfl, hb11⟩
                  have HB11 := hid (below_step HB10.out hb11)
                  clear hb11
                  have hcv := str_of (w := w11) (A := none) (m := 0) (c := 0) (l := []) (At.nil _ 0 _) rfl
                  go_wp2_with fail
                  go_roundw
                  case rel => exact ⟨j + 1, by omega, by go_num, HB11⟩
                  case measure => simp [intOf]; omega
                | some bb =>
                  rw [hv] at HRA
                  go_wp2_with fail
                  go_fit HRA.out
                  rintro e w10 ⟨⟨Aa, na, ca, rfl, ha1, ha2, ha3⟩, hb10⟩
                  have HB10 := hid (below_step HB.out hb10)
                  have HAA := hid ha1
                  have HNA := hid ha2
                  have HRC := hid (HF.out.read (i := (j : Int)) (HF.out.step HC9.out HB10.out))
                  rw [hv] at HRC
                  clear hb10 ha1 ha2 ha3
                  go_wp2_with fail
                  go_fit HRC.out
                  rintro e w11 ⟨⟨Ac, nc, cc, rfl, hc1, hc2, hc3⟩, hb11⟩
                  have HB11 := hid (below_step HB10.out hb11)
                  have hcv1 := str_of (c := ca) (At.below HAA.out hb11) HNA.out
                  have hcv2 := str_of (c := cc) hc1 hc2
                  have tb := bst_toList bb
                  clear hb11 hc1 hc2 hc3
                  go_wp2_with fail
                  go_roundw
                  case rel => exact ⟨j + 1, by omega, by go_num, HB11⟩
                  case measure => simp [intOf]; omega
              · have HU := hid (HF.out.used (HF.out.step HO9.out.at_ HB.out))
                go_wp2_with fail
                go_fit HU.out
                rintro e w10 ⟨rfl, hb10⟩
                have HB10 := hid (below_step HB.out hb10)
                have HU2 := hid (HF.out.used (HF.out.step HC9.out HB10.out))
                clear hb10
                go_wp2_with fail
                go_fit HU2.out
                rintro e w11 ⟨rfl, hb11⟩
                have HB11 := hid (below_step HB10.out hb11)
                have HP1 := hid (HF.out.pending (HF.out.step HO9.out.at_ HB11.out))
                have hpe : (s.sync.pend.length : Int) = 0 := rfl
                rw [hpe] at HP1
                clear hb11 hpe
                go_wp2_with fail
                go_fit HP1.out
                rintro e w12 ⟨rfl, hb12⟩
                have HB12 := hid (below_step HB11.out hb12)
                have HP2 := hid (HF.out.pending (HF.out.step HC9.out HB12.out))
                have hpe : (s.sync.pend.length : Int) = 0 := rfl
                rw [hpe] at HP2
                clear hb12 hpe
                go_wp2_with fail
                go_fit HP2.out
                rintro e w13 ⟨rfl, hb13⟩
                have HB13 := hid (HO9.out.below.trans ((below_step HB12.out hb13).mono HO9.out.below.size))
                clear hb13
                go_wp2_with fail
                go_ret
                exact ⟨rfl, HB13.out⟩

end Go.Proofs.Ytlemoaigcakmcaa
