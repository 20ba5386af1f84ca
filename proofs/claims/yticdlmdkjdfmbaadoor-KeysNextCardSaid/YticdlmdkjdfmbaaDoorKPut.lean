/-
  keys.Put by its contracts.
-/
import Derived.Test.YticdlmdkjdfmbaaDoorFns
import Derived.Test.YticdlmdkjdfmbaaDoorPushs
import Derived.Lib.SmallJoins
namespace Go.Proofs.YticdlmdkjdfmbaaDoor
open Go Go.RowKit

theorem OutAt.lt {w : World} {base b : Nat} {e tv : TypeId} {l : List UInt8} (h : OutAt w base e tv b l) : b < w.heap.size := by
  obtain ⟨_, _, hv, _⟩ := h
  exact lt_of_block hv
theorem OutAt.alloc {w : World} {base b : Nat} {e tv : TypeId} {l : List UInt8} (h : OutAt w base e tv b l) (o : Obj) : OutAt (w.alloc o) base e tv b l := by
  have hlt := h.lt
  obtain ⟨A, c, hv, hown⟩ := h
  exact ⟨A, c, (Below.heap_alloc w o b hlt).trans hv, hown.alloc o⟩
theorem OutAt.new (w : World) (e tv : TypeId) : OutAt (w.alloc (.cells #[.slice none 0 0] tv)) w.heap.size e tv w.heap.size [] :=
  ⟨none, 0, heap_alloc_new w _, World.ownsRow_nil _ _ _ _⟩
theorem Row.le {w : World} {base base' e m c : Nat} {A : Option Addr} {l : List UInt8} (h : Row w base e A m c l) (hb : base' ≤ base) : Row w base' e A m c l := ⟨h.1, Joins.ownsRow_le h.2 hb⟩

set_option maxHeartbeats 1000000 in
theorem kput_any (k : List UInt8) (t : Nat) (w : World) (hk : k.length ≤ 64) (ht : t ≤ 18446744073709551615) (hT : Table w) :
    Calls Tryd.prog 12 #[.string (bst k), .int .u64 (t : Int)] w fun e w' =>
      ∃ A' m' c', e = .returned (.tuple #[.slice A' m' c', .int .i64 0]) ∧ Row w' w.heap.size 5 A' m' c' (kput k t) ∧ Below w.heap.size w w' := by
  have HT := hid hT
  clear hT
  obtain ⟨s, hs⟩ : ∃ s, s = bst k := ⟨_, rfl⟩
  have hsz : s.size = k.length := by rw [hs, bst_size]
  have hle : s.size ≤ 64 := by omega
  have HS := hid hs
  have HZ := hid hsz
  have HK := hid hk
  have HTT := hid ht
  rw [← hs]
  clear hs hsz hk
  go_enter Tryd.func12, Tryd.ntmps12
  go_wp2_with fail
  go_loopw [15] (fun i wr => ∃ n : Nat, n ≤ s.size ∧ i = .int .i64 (n : Int) ∧ OutAt wr w.heap.size 5 24 w.heap.size (esc (k.take n)) ∧ Below w.heap.size w wr)
    (fun i _ => s.size - (intOf i).toNat)
  case atStart => exact ⟨0, Nat.zero_le _, rfl, by simpa [esc] using OutAt.new w _ _, (Below.refl _ _).alloc (Nat.le_refl _) _⟩
  case round =>
    obtain ⟨n, hn, rfl, hout, hb⟩ := hrel
    have HOUT := hid hout
    have HB := hid hb
    have hel : (esc (k.take n)).length ≤ 128 := by have := esc_length (k.take n); have := HZ.out; simp at *; omega
    have HEL := hid hel
    clear hout hb hel
    by_cases hlt : n < s.size
    · have hex : ∃ x, k[n]? = some x := ⟨_, List.getElem?_eq_getElem (by rw [← HZ.out]; exact hlt)⟩
      obtain ⟨x, hx⟩ := hex
      have hsk := bst_get HS.out hx hlt
      have HTK := hid (show k.take (n + 1) = k.take n ++ [x] by rw [List.take_succ_eq_append_getElem (by rw [← HZ.out]; exact hlt), (List.getElem?_eq_some_iff.1 hx).2])
      clear hx
      by_cases hx0 : x = 0
      · subst hx0
        have hP := hid (show Calls Tryd.prog 22 #[.slice (some ⟨wr.heap.size, 0, none⟩) 1 1, .pointer (some ⟨w.heap.size, 0, none⟩)] (wr.alloc (.cells #[.int .u8 0] 5)) _ from
          pushs_any (xs := [0]) (HOUT.out.alloc (.cells #[.int .u8 0] 5)) ((At.one wr 0 5).more (by simp)) rfl (by have := HEL.out; simp; omega) (Nat.le_refl _))
        go_wp2_with fail
        go_fit hP.out
        rintro e w1 ⟨rfl, hout1, hb1⟩
        have HO1 := hid hout1
        have HB1 := hid ((HB.out.alloc HB.out.size _).trans hb1)
        clear hout1 hb1 hP
        have hP := hid (show Calls Tryd.prog 22 #[.slice (some ⟨w1.heap.size, 0, none⟩) 1 1, .pointer (some ⟨w.heap.size, 0, none⟩)] (w1.alloc (.cells #[.int .u8 255] 5)) _ from
          pushs_any (xs := [255]) (HO1.out.alloc (.cells #[.int .u8 255] 5)) ((At.one w1 255 5).more (by simp)) rfl (by have := HEL.out; simp; omega) (Nat.le_refl _))
        go_wp2_with fail
        go_fit hP.out
        rintro e w2 ⟨rfl, hout2, hb2⟩
        have HO2 := hid hout2
        have HB2 := hid ((HB1.out.alloc HB1.out.size _).trans hb2)
        clear hout2 hb2 hP
        go_wp2_with fail
        go_roundw
        case rel => exact ⟨n + 1, by omega, by go_num, by rw [HTK.out, esc_snoc_zero]; exact HO2.out, HB2.out⟩
        case measure => simp [intOf]; omega
      · have hz : ((x.toNat : Int) == 0) = false := by
          have := u8_ne hx0
          simp at *; omega
        have HX := hid hx0
        clear hx0
        have hP := hid (pushs_any (m := 1) (c := 1) (xs := [x]) (HOUT.out.alloc (.cells #[.int .u8 (x.toNat : Int)] 5)) ((At.one wr x 5).more (by simp)) rfl (by have := HEL.out; simp; omega) (Nat.le_refl _))
        go_wp2_with fail
        go_fit hP.out
        rintro e w1 ⟨rfl, hout1, hb1⟩
        have HO1 := hid hout1
        have HB1 := hid ((HB.out.alloc HB.out.size _).trans hb1)
        clear hout1 hb1 hP
        go_wp2_with fail
        go_roundw
        case rel => exact ⟨n + 1, by omega, by go_num, by rw [HTK.out, esc_snoc _ HX.out]; exact HO1.out, HB1.out⟩
        case measure => simp [intOf]; omega
    · obtain rfl : n = s.size := by omega
      have hfull : k.take s.size = k := List.take_of_length_le (by rw [HZ.out]; exact Nat.le_refl _)
      rw [hfull] at HOUT HEL
      clear hfull
      have hP := hid (show Calls Tryd.prog 22 #[.slice (some ⟨wr.heap.size, 0, none⟩) 2 2, .pointer (some ⟨w.heap.size, 0, none⟩)] (wr.alloc (.cells #[.int .u8 0, .int .u8 1] 5)) _ from
        pushs_any (xs := [0, 1]) (HOUT.out.alloc (.cells #[.int .u8 0, .int .u8 1] 5)) ((At.lits wr [0, 1] 5 rfl).more (by simp)) rfl (by have := HEL.out; simp; omega) (Nat.le_refl _))
      go_wp2_with fail
      go_fit hP.out
      rintro e w1 ⟨rfl, hout1, hb1⟩
      have HB1 := hid ((HB.out.alloc HB.out.size _).trans hb1)
      obtain ⟨A1, c1, hv1, hown1⟩ := hout1
      have hc1 := cell_of_one hv1
      have HV := hid hown1
      have HL := hid (show (esc k ++ [0, 1]).length ≤ 200 by have := HEL.out; simp; omega)
      have hsub : (18446744073709551615 : Int) - (t : Int) = ((18446744073709551615 - t : Nat) : Int) := by omega
      have HT1 := hid (HT.out.step HB1.out)
      clear hv1 hown1 hb1 hP
      go_wp2_with fail
      go_fit (put_is (n := 8) (v := 18446744073709551615 - t) (l := esc k ++ [0, 1]) (by simp) (At.own HV.out) (Nat.le_refl _) (by have := HL.out; omega) HT1.out (by decide) (by decide) (Nat.div_eq_of_lt (by omega)) (by omega))
      rintro e w2 ⟨A2, m2, c2, rfl, hr2, hb2⟩
      go_wp2_with fail
      go_ret2
      exact ⟨A2, m2, c2, rfl, hr2.le HB1.out.size, below_step HB1.out hb2⟩

end Go.Proofs.YticdlmdkjdfmbaaDoor
