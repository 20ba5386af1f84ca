/-
  What the chapter's example fixes: the call that each statement makes first. Over what is to be shown of the landed code.
-/
import Derived.Test.YtlemoaigcakmcaaLawDTorn
namespace Go.Proofs.Ytlemoaigcakmcaa
open Go Go.RowKit

def k1 : Dk := (Dk.new 9).write 3 [97, 98, 99]
def k2 : Dk := k1.sync
def k3 : Dk := k2.write 3 [120, 121]
def k4 : Dk := k3.write 4 [113]
def k5 : Dk := k4.crash [(0, 1)]
theorem why1 : (Dk.new 9).why 3 [97, 98, 99] = 0 := by decide
theorem why2 : k2.why 3 [120, 121] = 0 := by decide
theorem why3 : k3.why 4 [113] = 0 := by decide
theorem k4_used : k4.used = 2 := by decide
theorem k4_pend : k4.pend.length = 2 := by decide
theorem k5_used : k5.used = 1 := by decide
theorem k5_three : k5.view 3 = some [120, 98, 99] := by decide
theorem k5_four : k5.view 4 = none := by decide

set_option maxHeartbeats 8000000 in
set_option maxRecDepth 100000 in
theorem awake_yes {DA : DiskAt} (hF : Face DA) : AwakeIs := by
  intro w
  have HF := hid hF
  have HNew := hid (hF.newYes (n := 9) (w := w) (by decide) (by decide))
  clear hF
  go_enter Try.func7, Try.ntmps7
  go_wp2_with fail
  go_fit HNew.out
  rintro e w1 ⟨d, M, R, rfl, hd, hnew, hb1⟩
  have HD1 := hid hd
  have HN1 := hid hnew
  have HB1 := hid hb1
  clear hd hnew hb1
  have k2 := Lib.run_convert_bytes_const (P := Try.prog) w1 36 5 #[.int .u8 97, .int .u8 98, .int .u8 99] 3 3 Try.underlying36 Try.underlying5
  have hoff : Off M (some ⟨w1.heap.size, 0, none⟩) := by
    intro b off e hm
    injection e with e
    injection e with e _ _
    have := HF.out.lt HD1.out b (.inl hm)
    omega
  have hb : Below w1.heap.size w1 (w1.alloc (.cells (bs [97, 98, 99]).toArray 5 (3, 4))) := (Below.refl _ _).alloc (Nat.le_refl _) _
  have HC := hid (HF.out.write (i := 3) (c := 3) (HF.out.step HD1.out hb) (At.lits w1 [97, 98, 99] 5 rfl (3, 4)) rfl (by simp) hoff (by decide) (by decide))
  rw [why1] at HC
  go_wp2_with fail
  go_fit HC.out
  rintro e w2 ⟨rfl, M2, R2, hd, ht⟩
  have HB2 := hid (HB1.out.trans ((hb.mono HB1.out.size).trans (ht.below (Nat.le_trans HB1.out.size hb.size) (fun j hj => HN1.out j (.inl hj)))))
  have HN2 := hid (show ∀ j, M2 j ∨ R2 j → w.heap.size ≤ j from fun j hj => hj.elim (fun h => (ht.own j h).elim (fun h => HN1.out j (.inl h)) (fun h => Nat.le_trans (Nat.le_trans HB1.out.size hb.size) h)) (fun h => (ht.held j h).elim (fun h => HN1.out j (.inr h)) (fun h => Nat.le_trans (Nat.le_trans HB1.out.size hb.size) h)))
  have HD2 := hid hd
  clear hd ht hb hoff k2 HC
  go_wp2_with fail
  go_fit (HF.out.sync HD2.out)
  rintro e w3 ⟨rfl, M3, R3, hd, ht⟩
  have HB3 := hid (HB2.out.trans (ht.below (HB2.out.size) (fun j hj => HN2.out j (.inl hj))))
  have HN3 := hid (show ∀ j, M3 j ∨ R3 j → w.heap.size ≤ j from fun j hj => hj.elim (fun h => (ht.own j h).elim (fun h => HN2.out j (.inl h)) (fun h => Nat.le_trans (HB2.out.size) h)) (fun h => (ht.held j h).elim (fun h => HN2.out j (.inr h)) (fun h => Nat.le_trans (HB2.out.size) h)))
  have HD3 := hid hd
  clear hd ht
  have k4 := Lib.run_convert_bytes_const (P := Try.prog) w3 36 5 #[.int .u8 120, .int .u8 121] 2 2 Try.underlying36 Try.underlying5
  have hoff : Off M3 (some ⟨w3.heap.size, 0, none⟩) := by
    intro b off e hm
    injection e with e
    injection e with e _ _
    have := HF.out.lt HD3.out b (.inl hm)
    omega
  have hb : Below w3.heap.size w3 (w3.alloc (.cells (bs [120, 121]).toArray 5 (2, 3))) := (Below.refl _ _).alloc (Nat.le_refl _) _
  have HC := hid (HF.out.write (i := 3) (c := 2) (HF.out.step HD3.out hb) (At.lits w3 [120, 121] 5 rfl (2, 3)) rfl (by simp) hoff (by decide) (by decide))
  rw [(show (((Dk.new 9).write 3 [97, 98, 99]).sync).why 3 [120, 121] = 0 from why2)] at HC
  go_wp2_with fail
  go_fit HC.out
  rintro e w4 ⟨rfl, M4, R4, hd, ht⟩
  have HB4 := hid (HB3.out.trans ((hb.mono HB3.out.size).trans (ht.below (Nat.le_trans HB3.out.size hb.size) (fun j hj => HN3.out j (.inl hj)))))
  have HN4 := hid (show ∀ j, M4 j ∨ R4 j → w.heap.size ≤ j from fun j hj => hj.elim (fun h => (ht.own j h).elim (fun h => HN3.out j (.inl h)) (fun h => Nat.le_trans (Nat.le_trans HB3.out.size hb.size) h)) (fun h => (ht.held j h).elim (fun h => HN3.out j (.inr h)) (fun h => Nat.le_trans (Nat.le_trans HB3.out.size hb.size) h)))
  have HD4 := hid hd
  clear hd ht hb hoff k4 HC
  have k5 := Lib.run_convert_bytes_const (P := Try.prog) w4 36 5 #[.int .u8 113] 1 1 Try.underlying36 Try.underlying5
  have hoff : Off M4 (some ⟨w4.heap.size, 0, none⟩) := by
    intro b off e hm
    injection e with e
    injection e with e _ _
    have := HF.out.lt HD4.out b (.inl hm)
    omega
  have hb : Below w4.heap.size w4 (w4.alloc (.cells (bs [113]).toArray 5 (1, 2))) := (Below.refl _ _).alloc (Nat.le_refl _) _
  have HC := hid (HF.out.write (i := 4) (c := 1) (HF.out.step HD4.out hb) (At.lits w4 [113] 5 rfl (1, 2)) rfl (by simp) hoff (by decide) (by decide))
  rw [(show ((((Dk.new 9).write 3 [97, 98, 99]).sync).write 3 [120, 121]).why 4 [113] = 0 from why3)] at HC
  go_wp2_with fail
  go_fit HC.out
  rintro e w5 ⟨rfl, M5, R5, hd, ht⟩
  have HB5 := hid (HB4.out.trans ((hb.mono HB4.out.size).trans (ht.below (Nat.le_trans HB4.out.size hb.size) (fun j hj => HN4.out j (.inl hj)))))
  have HN5 := hid (show ∀ j, M5 j ∨ R5 j → w.heap.size ≤ j from fun j hj => hj.elim (fun h => (ht.own j h).elim (fun h => HN4.out j (.inl h)) (fun h => Nat.le_trans (Nat.le_trans HB4.out.size hb.size) h)) (fun h => (ht.held j h).elim (fun h => HN4.out j (.inr h)) (fun h => Nat.le_trans (Nat.le_trans HB4.out.size hb.size) h)))
  have HD5 := hid hd
  clear hd ht hb hoff k5 HC
  go_wp2_with fail
  go_fit (HF.out.copy HD5.out (by decide))
  rintro e w6 ⟨d2, M6, R6, rfl, hd2, hm2, hr2, hb6⟩
  have HB6 := hid (HB5.out.trans (hb6.mono HB5.out.size))
  have HD6 := hid (HF.out.step HD5.out hb6)
  have HC6 := hid hd2
  have HLT5 := hid (HF.out.lt HD5.out)
  have HAP1 := hid (show ∀ k, M6 k → ¬ M5 k from fun k h h5 => by have := hm2 k h; have := HLT5.out k (.inl h5); omega)
  have HAP2 := hid hr2
  clear hd2 hm2 hr2 hb6
  have hb7 : Below w6.heap.size w6 (w6.alloc (.cells #[.int .i64 0, .int .i64 1] 44)) := (Below.refl _ _).alloc (Nat.le_refl _) _
  have hoff : Off M5 (some ⟨w6.heap.size, 0, none⟩) := by
    intro b off e hm
    injection e with e
    injection e with e _ _
    have := HF.out.lt HD6.out b (.inl hm)
    omega
  go_wp2_with fail
  go_fit (HF.out.crash (l := [(0, 1)]) (HF.out.step HD6.out hb7) (SvAt.one w6 0 1) rfl (by simp) hoff (by decide))
  rintro e w7 ⟨rfl, M7, R7, hd, ht⟩
  have HB7 := hid (HB6.out.trans ((hb7.mono HB6.out.size).trans (ht.below (Nat.le_trans HB6.out.size hb7.size) (fun j hj => HN5.out j (.inl hj)))))
  have HD7 := hid (show DA w7 d M7 R7 k5 from hd)
  have HC7 := hid (show DA w7 d2 M6 R6 k4 from HF.out.beside (HF.out.step HC6.out hb7) ht HAP1.out HAP2.out)
  clear hd ht hb7 hoff
  have HR3 := hid (HF.out.read (i := 3) HD7.out)
  rw [k5_three] at HR3
  go_wp2_with fail
  go_fit HR3.out
  rintro e w8 ⟨⟨A8, n8, c8, rfl, hA8, hn8, hc8⟩, hb8⟩
  have HB8 := hid (below_step HB7.out hb8)
  have HA8 := hid hA8
  have HN8 := hid hn8
  have HD8 := hid (HF.out.step HD7.out hb8)
  have HC8 := hid (HF.out.step HC7.out hb8)
  clear hA8 hn8 hc8 hb8
  have HR4 := hid (HF.out.read (i := 4) HD8.out)
  rw [k5_four] at HR4
  go_wp2_with fail
  go_fit HR4.out
  rintro e w9 ⟨rfl, hb9⟩
  have HB9 := hid (below_step HB8.out hb9)
  have HD9 := hid (HF.out.step HD8.out hb9)
  have HC9 := hid (HF.out.step HC8.out hb9)
  have hcv := str_of (c := c8) (At.below HA8.out hb9) HN8.out
  have t8 := bst_toList [120, 98, 99]
  have HU := hid (HF.out.used HC9.out)
  rw [k4_used] at HU
  clear hb9
  go_wp2_with fail
  go_fit HU.out
  rintro e w10 ⟨rfl, hb10⟩
  have HB10 := hid (below_step HB9.out hb10)
  have HD10 := hid (HF.out.step HD9.out hb10)
  have HP := hid (HF.out.pending (HF.out.step HC9.out hb10))
  rw [k4_pend] at HP
  clear hb10
  go_wp2_with fail
  go_fit HP.out
  rintro e w11 ⟨rfl, hb11⟩
  have HB11 := hid (below_step HB10.out hb11)
  have HV := hid (HF.out.used (HF.out.step HD10.out hb11))
  rw [k5_used] at HV
  clear hb11
  go_wp2_with fail
  go_fit HV.out
  rintro e w12 ⟨rfl, hb12⟩
  have HB12 := hid (below_step HB11.out hb12)
  clear hb12
  go_wp2_with fail
  go_ret
  exact ⟨rfl, HB12.out⟩

end Go.Proofs.Ytlemoaigcakmcaa
