/-
  NumBack: its walk.
-/
import Derived.Test.YtkcebnagpgpclaaDoorLawOrder
namespace Go.Proofs.YtkcebnagpgpclaaDoor
open Go Go.RowKit

theorem Row.alloc {w : World} {base e m c : Nat} {A : Option Addr} {l : List UInt8} (h : Row w base e A m c l) (o : Obj) : Row (w.alloc o) base e A m c l := ⟨h.1, h.2.alloc o⟩
theorem Row.below {w w' : World} {base e m c : Nat} {A : Option Addr} {l : List UInt8} (h : Row w base e A m c l) (hb : Below w.heap.size w w') : Row w' base e A m c l := by
  refine ⟨h.1, h.2.kept (row := none) ⟨hb.os, hb.tape, hb.output, hb.size, fun k hk _ => hb.block k hk⟩ ?_⟩
  cases hv : (Value.slice A m c).ownBlock <;> simp

theorem get_is {A : Option Addr} {c B m n : Nat} {N : Int} {l : List UInt8} {w : World} (hm : m = l.length) (hN : N = (n : Int)) (hA : At w B A l) (hB : B ≤ w.heap.size) (hl : l.length ≤ 70368744177664) (hc : m ≤ c) (h1 : 1 ≤ n) (h8 : n ≤ 8) (hn : n ≤ l.length) :
    Calls Tryd.prog 14 #[.slice A m c, .int .i64 N] w fun e w' =>
      ∃ A' m' c', e = .returned (.tuple #[.int .u64 (ofBe (l.take n) : Int), .slice A' m' c', .int .i64 0]) ∧ Row w' w.heap.size 5 A' m' c' (l.drop n) ∧ Below w.heap.size w w' := by
  subst hm hN
  exact get_good A c n B l w hA hB hl hc h1 h8 hn

theorem putVar_nil (v : Int) (w : World) (hv0 : 0 ≤ v) (hv : v < 18446744073709551616) :
    Calls Tryd.prog 16 #[.slice none 0 0, .int .u64 v] w fun e w' =>
      ∃ A' m' c', e = .returned (.slice A' m' c') ∧ Row w' w.heap.size 5 A' m' c' (vbytes v.toNat) ∧ Below w.heap.size w w' := by
  obtain ⟨V, rfl⟩ : ∃ V : Nat, v = V := ⟨v.toNat, by omega⟩
  exact putVar_is (A := none) (c := 0) (l := []) (v := V) rfl (At.nil w 0 _) (Nat.zero_le _) (by simp) (by omega)

set_option maxHeartbeats 2000000 in
theorem back_walk (s : List UInt8) (v n : Int) (hv : 0 ≤ v ∧ v < 18446744073709551616) (w : World) (hT : Table w) :
    Calls Tryd.prog 7 #[.string (bst s), .int .u64 v, .int .i64 n] w fun e w' => e = .returned (.bool true) ∧ Below w.heap.size w w' := by
  obtain ⟨i0, hi, hz0, hz1, hz2⟩ := info_parts info_byte
  have HI0 := hid hz0
  have HI1 := hid hz1
  have HI2 := hid hz2
  have HI := hid hi
  clear hz0 hz1 hz2 hi
  have HT := hid hT
  have HV := hid hv
  have hz := bst_size s
  have hts := bst_toList s
  clear hT hv
  by_cases hlen : 1000 < s.length
  · go_enter Tryd.func7, Tryd.ntmps7
    go_wp2_with fail
    go_fit (awake_yes w HT.out)
    rintro e w1 ⟨rfl, hb1⟩
    go_wp2_with fail
    go_ret
    exact ⟨rfl, hb1⟩
  · have hvl := vlen_le v.toNat
    have hvb := vbytes_length v.toNat
    have HVL := hid (show (vbytes v.toNat).length + s.length ≤ 4096 by omega)
    clear hvl hvb
    have HVN := hid (show v.toNat < 18446744073709551616 by have := HV.out; omega)
    have HVV := hid (show ((v.toNat : Nat) : Int) = v by have := HV.out; omega)
    by_cases h1 : 1 ≤ n ∧ n ≤ 8 ∧ v.toNat / 256 ^ n.toNat = 0
    · have H1 := hid h1
      have HNN := hid (show n = ((n.toNat : Nat) : Int) by omega)
      have HN1 := hid (show 1 ≤ n.toNat ∧ n.toNat ≤ 8 by omega)
      clear h1
      go_enter Tryd.func7, Tryd.ntmps7
      go_wp2_with fail
      go_fit (putVar_nil v w HV.out.1 HV.out.2)
      rintro e w1 ⟨A1, m1, c1, rfl, hr1, hb1⟩
      have hs1 := hb1.size
      go_wp2_with (at_builtin; go_must (refine wpList_append_str _ rfl (.tmp 21) (.tmp 22) 24 9 rfl w.heap.size 5 i0 Tryd.underlying24 Tryd.underlying9 HI.out HI0.out HI1.out HI2.out A1 m1 c1 (vbytes v.toNat) s rfl hr1 rfl (by have := HVL.out; omega) hs1 ?_); intro A2 m2 c2 w2 hr2 hc2 hb2)
      go_fit (getVar_is hr2.1 (rdv_vbytes HVN.out s) hr2.at_ (Nat.le_refl _) (by have := HVL.out; rw [List.length_append]; omega) hc2)
      rintro e w3 ⟨A3, m3, c3, rfl, hr3, hb3⟩
      rw [← vbytes_length, List.drop_left] at hr3
      rw [HVV.out]
      have HB3 := hid (below_step (hb1.trans hb2) hb3)
      go_wp2_with fail
      go_fit (awake_yes w3 (HT.out.step HB3.out))
      rintro e w4 ⟨rfl, hb4⟩
      have HB4 := hid (below_step HB3.out hb4)
      have cv := str_of (c := c3) (hr3.at_.below hb4) hr3.1
      clear hr1 hb1 hr2 hc2 hb2 hb3 hs1
      go_wp2_with fail
      go_fit (put_nil_yes v n w4 (HT.out.step HB4.out) HV.out.1 HV.out.2 H1.out)
      rintro e w5 ⟨A5, m5, c5, rfl, hr5, hb5⟩
      have hs5 := hb5.size
      clear cv hr3 hb4
      go_wp2_with (at_builtin; go_must (refine wpList_append_str _ rfl (.tmp 54) (.tmp 55) 24 9 rfl w4.heap.size 5 i0 Tryd.underlying24 Tryd.underlying9 HI.out HI0.out HI1.out HI2.out A5 m5 c5 (be v.toNat n.toNat) s rfl hr5 rfl (by have := HN1.out; rw [be_length]; omega) hs5 ?_); intro A6 m6 c6 w6 hr6 hc6 hb6)
      go_fit (get_is (n := n.toNat) hr6.1 HNN.out hr6.at_ (Nat.le_refl _) (by have := HN1.out; rw [List.length_append, be_length]; omega) hc6 HN1.out.1 HN1.out.2 (by rw [List.length_append, be_length]; omega))
      rintro e w7 ⟨A7, m7, c7, rfl, hr7, hb7⟩
      have HB7 := hid (below_step (below_step HB4.out (hb5.trans hb6)) hb7)
      have e1 : (be v.toNat n.toNat ++ s).drop n.toNat = s := List.drop_left' (be_length _ _)
      have e2 : ofBe ((be v.toNat n.toNat ++ s).take n.toNat) = v.toNat := by rw [List.take_left' (be_length _ _), ofBe_be _ _ (fits_lt H1.out.2.2)]
      rw [e1] at hr7
      rw [e2, HVV.out]
      have cv := str_of (c := c7) hr7.at_ hr7.1
      have hm5 : (m5 : Int) = n := by rw [hr5.1, be_length]; exact HNN.out.symm
      have HM := hid hm5
      clear e1 e2 hr5 hb5 hs5 hr6 hc6 hb6 hr7 hb7
      go_wp2_with fail
      go_ret
      exact ⟨rfl, HB7.out⟩
    · have H1 := hid h1
      clear h1
      go_enter Tryd.func7, Tryd.ntmps7
      go_wp2_with fail
      go_fit (putVar_nil v w HV.out.1 HV.out.2)
      rintro e w1 ⟨A1, m1, c1, rfl, hr1, hb1⟩
      have hs1 := hb1.size
      go_wp2_with (at_builtin; go_must (refine wpList_append_str _ rfl (.tmp 21) (.tmp 22) 24 9 rfl w.heap.size 5 i0 Tryd.underlying24 Tryd.underlying9 HI.out HI0.out HI1.out HI2.out A1 m1 c1 (vbytes v.toNat) s rfl hr1 rfl (by have := HVL.out; omega) hs1 ?_); intro A2 m2 c2 w2 hr2 hc2 hb2)
      go_fit (getVar_is hr2.1 (rdv_vbytes HVN.out s) hr2.at_ (Nat.le_refl _) (by have := HVL.out; rw [List.length_append]; omega) hc2)
      rintro e w3 ⟨A3, m3, c3, rfl, hr3, hb3⟩
      rw [← vbytes_length, List.drop_left] at hr3
      rw [HVV.out]
      have HB3 := hid (below_step (hb1.trans hb2) hb3)
      go_wp2_with fail
      go_fit (awake_yes w3 (HT.out.step HB3.out))
      rintro e w4 ⟨rfl, hb4⟩
      have HB4 := hid (below_step HB3.out hb4)
      have cv := str_of (c := c3) (hr3.at_.below hb4) hr3.1
      clear hr1 hb1 hr2 hc2 hb2 hb3 hs1
      go_wp2_with fail
      go_fit (put_nil_no v n w4 (HT.out.step HB4.out) HV.out.1 H1.out)
      rintro e w5 ⟨rfl, rfl⟩
      go_wp2_with fail
      go_ret
      exact ⟨rfl, HB4.out⟩

end Go.Proofs.YtkcebnagpgpclaaDoor
