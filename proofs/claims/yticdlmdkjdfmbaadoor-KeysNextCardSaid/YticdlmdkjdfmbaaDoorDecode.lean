/-
  keys.decode by its contract.
-/
import Derived.Test.YticdlmdkjdfmbaaDoorKPut
import Derived.Test.YticdlmdkjdfmbaaDoorSlices
namespace Go.Proofs.YticdlmdkjdfmbaaDoor
open Go Go.RowKit

theorem bst_nil : bst [] = ⟨#[]⟩ := rfl
/-- what decode answers -/
def decV : Option (List UInt8) → Value
  | some k => .tuple #[.string (bst k), .bool true]
  | none => .tuple #[.string (bst []), .bool false]
def lenS : Value → Nat
  | .slice _ n _ => n
  | _ => 0

theorem u8b_ne {x y : UInt8} (h : x ≠ y) : ((x.toNat : Int) == (y.toNat : Int)) = false ∧ ((x.toNat : Int) != (y.toNat : Int)) = true := by
  have := u8_ne h
  simp; omega

set_option maxHeartbeats 2000000 in
theorem decode_any {A : Option Addr} {m c B : Nat} {b : List UInt8} {w : World} (hA : At w B A b) (hm : m = b.length) (hc : m ≤ c) (hB : B ≤ w.heap.size) (hl : m ≤ 70368744177664) :
    Calls Tryd.prog 26 #[.slice A m c] w fun e w' => e = .returned (decV (kdec b)) ∧ Below w.heap.size w w' := by
  obtain ⟨D, hD⟩ : ∃ D, D = kdec b := ⟨_, rfl⟩
  rw [← hD]
  have HD := hid hD
  have HA := hid hA
  have HM := hid hm
  clear hD hA hm
  by_cases h2 : m < 2
  · have : D = none := by rw [HD.out, kdec, if_neg (by have := HM.out; omega)]
    subst this
    go_enter Tryd.func26, Tryd.ntmps26
    go_wp2_with fail
    go_ret2
    exact ⟨rfl, Below.refl _ _⟩
  · obtain ⟨n, rfl⟩ : ∃ n, m = n + 2 := ⟨m - 2, by omega⟩
    obtain ⟨b0, o0, hAd, hb0, hcell⟩ := HA.out (by rw [← HM.out]; omega)
    subst hAd
    have hex : ∃ x, b[n]? = some x := ⟨_, List.getElem?_eq_getElem (by rw [← HM.out]; omega)⟩
    obtain ⟨x, hx⟩ := hex
    have hey : ∃ y, b[n + 1]? = some y := ⟨_, List.getElem?_eq_getElem (by rw [← HM.out]; omega)⟩
    obtain ⟨y, hy⟩ := hey
    have c1 := hcell n x hx
    have c2 := hcell (n + 1) y hy
    have hdr : b.drop (b.length - 2) = [x, y] := by
      rw [← HM.out, Nat.add_sub_cancel]
      have h3 : b.length = n + 2 := HM.out.symm
      rw [List.drop_eq_getElem_cons (by omega), List.drop_eq_getElem_cons (by omega), List.drop_of_length_le (by omega), (List.getElem?_eq_some_iff.1 hx).2, (List.getElem?_eq_some_iff.1 hy).2]
    have HDR := hid hdr
    clear hdr hx hy hcell
    have hi : (((n + 2 : Nat) : Int)) - 2 = (n : Int) := by omega
    by_cases hx0 : x = 0
    · subst hx0
      by_cases hy1 : y = 1
      · subst hy1
        have HD2 := hid (show D = dk [] (b.take n) by rw [HD.out, kdec, if_pos ⟨by rw [← HM.out]; omega, HDR.out⟩, ← HM.out, Nat.add_sub_cancel])
        obtain ⟨A', hsl, hA'⟩ := slice_full (n := n) HA.out HM.out hc (by omega)
        have HA' := hid hA'
        have HTL := hid (show (b.take n).length = n by rw [List.length_take, ← HM.out]; omega)
        clear hA'
        go_enter Tryd.func26, Tryd.ntmps26
        go_wp2_with fail
        have hbn : Below w.heap.size w (w.alloc (.cells #[.slice none 0 0] 24)) := (Below.refl _ _).alloc (Nat.le_refl _) _
        have HBN := hid hbn
        clear hbn c1 c2 h2 hi
        go_loopw [0] (fun u wr => ∃ (A1 : Option Addr) (p c1 : Nat) (r acc : List UInt8), u = .slice A1 p c1 ∧ p = r.length ∧ p ≤ c1 ∧ At w B A1 r ∧ OutAt wr w.heap.size 5 24 w.heap.size acc ∧ acc.length ≤ 64 ∧ dk acc r = D ∧ Below w.heap.size w wr) (fun u _ => lenS u)
        case atStart => exact ⟨A', n, n, b.take n, [], rfl, HTL.out.symm, Nat.le_refl _, HA'.out, OutAt.new w _ _, by simp, HD2.out.symm, HBN.out⟩
        case round =>
          obtain ⟨A1, p, c1, r, acc, rfl, hp, hpc, hA1, hout, hacc, hdk, hbel⟩ := hrel
          have HOUT := hid hout
          have HB := hid hbel
          have HDK := hid hdk
          have HA1 := hid hA1
          clear hout hbel hdk hA1 hsl HA' HTL HBN
          rcases r with _ | ⟨x, r⟩
          · obtain rfl : p = 0 := hp
            have hDs : D = some acc := by rw [← HDK.out]; simp [dk]
            subst hDs
            obtain ⟨A2, c2, hv, hown⟩ := HOUT.out
            have hc := cell_of_one hv
            have hcv : (convert 24 9 (.slice A2 acc.length c2)).run Tryd.prog wr = .ok (.string (bst acc)) wr := str_of (At.own hown) rfl
            clear hv hown
            go_wp2_with fail
            go_ret2
            exact ⟨rfl, HB.out⟩
          · obtain ⟨q, rfl⟩ : ∃ q, p = q + 1 := ⟨r.length, by rw [hp]; simp⟩
            have hq : q = r.length := by simpa using hp
            obtain ⟨b1, o1, rfl, hb1, hcell⟩ := HA1.out (by simp)
            have cx := (HB.out.cell (p := ⟨b1, o1 + 0, none⟩) (by exact Nat.lt_of_lt_of_le hb1 hB)).trans (hcell 0 x rfl)
            rw [Nat.add_zero] at cx
            have HP := hid (push1_any x HOUT.out (by omega) (Nat.le_refl _))
            have HQ := hid hq
            obtain ⟨A3, hsl0, hA3⟩ := slice_from (n := 1) HA1.out hp hpc (by omega)
            have hsl1 : ∀ (k : IntKind) (W : World), (Instr.slice 24 (.slice (some ⟨b1, o1, none⟩) (q + 1) c1) (some (.int k 1)) none none).run Tryd.prog W = .ok (.slice A3 q (c1 - 1)) W := hsl0
            have HA3 := hid hA3
            clear hA3 hp hsl0 hq
            go_wp2_with fail
            go_fit HP.out
            rintro e w1 ⟨rfl, hout1, hbw1⟩
            have hb1r : b1 < wr.heap.size := Nat.lt_of_lt_of_le (Nat.lt_of_lt_of_le hb1 hB) HB.out.size
            have cx1 := (hbw1.cell (p := ⟨b1, o1, none⟩) (by exact Nat.lt_of_lt_of_le hb1 hB)).trans cx
            have HB1 := hid (HB.out.trans hbw1)
            have HO1 := hid hout1
            obtain ⟨A2, c2, hv2, hown2⟩ := hout1
            have hc2 := cell_of_one hv2
            clear hv2 hown2 hbw1 cx
            by_cases hlong : 64 < acc.length + 1
            · obtain rfl : D = none := by rw [← HDK.out, dk_long x r hlong]
              go_wp2_with fail
              go_ret2
              exact ⟨rfl, HB1.out⟩
            · have HLO := hid hlong
              by_cases hx0 : x = 0
              · subst hx0
                rcases r with _ | ⟨y, r⟩
                · obtain rfl : D = none := by rw [← HDK.out, dk_end]
                  obtain rfl : q = 0 := HQ.out
                  go_wp2_with fail
                  go_ret2
                  exact ⟨rfl, HB1.out⟩
                · obtain ⟨q2, rfl⟩ : ∃ q2, q = q2 + 1 := ⟨r.length, by rw [HQ.out]; simp⟩
                  have cy := (HB1.out.cell (p := ⟨b1, o1 + 1, none⟩) (by exact Nat.lt_of_lt_of_le hb1 hB)).trans (hcell 1 y rfl)
                  have hq1 : ((q2 : Int) + 1 + 1 == 1) = false := by simp; omega
                  by_cases hy : y = 255
                  · subst hy
                    have HDK2 := hid (show dk (acc ++ [0]) r = D by rw [← HDK.out, dk_zero HLO.out])
                    obtain ⟨A4, hsl0, hA4⟩ := slice_from (n := 1) (m := q2 + 1) (c := c1 - 1) HA3.out (by rw [HQ.out]; rfl) (by omega) (by omega)
                    have hsl2 : ∀ (k : IntKind) (W : World), (Instr.slice 24 (.slice A3 (q2 + 1) (c1 - 1)) (some (.int k 1)) none none).run Tryd.prog W = .ok (.slice A4 q2 (c1 - 1 - 1)) W := hsl0
                    have HA4 := hid hA4
                    clear hA4 hsl0 hcell
                    go_wp2_with fail
                    go_roundw
                    case rel => exact ⟨A4, q2, c1 - 1 - 1, r, acc ++ [0], rfl, by have := HQ.out; simpa using this, by omega, HA4.out, HO1.out, by simp; omega, HDK2.out, HB1.out⟩
                    case measure => simp [lenS]; omega
                  · obtain rfl : D = none := by rw [← HDK.out, dk_no hy]
                    have hy2 : ((y.toNat : Int) != 255) = true := (u8b_ne hy).2
                    clear hcell
                    go_wp2_with fail
                    go_ret2
                    exact ⟨rfl, HB1.out⟩
              · have hx2 : ((x.toNat : Int) != 0) = true := (u8b_ne hx0).2
                have HDK2 := hid (show dk (acc ++ [x]) r = D by rw [← HDK.out, dk_plain HLO.out hx0])
                clear hcell hx0
                go_wp2_with fail
                go_roundw
                case rel => exact ⟨A3, q, c1 - 1, r, acc ++ [x], rfl, HQ.out, by omega, HA3.out, HO1.out, by simp; omega, HDK2.out, HB1.out⟩
                case measure => simp [lenS]
      · have := (u8b_ne hy1).2
        have h255 : ((y.toNat : Int) != 1) = true := this
        obtain rfl : D = none := by rw [HD.out, kdec, if_neg (by rw [HDR.out]; simp [hy1])]
        go_enter Tryd.func26, Tryd.ntmps26
        go_wp2_with fail
        go_ret2
        exact ⟨rfl, Below.refl _ _⟩
    · have h0 : ((x.toNat : Int) != 0) = true := (u8b_ne hx0).2
      obtain rfl : D = none := by rw [HD.out, kdec, if_neg (by rw [HDR.out]; simp [hx0])]
      go_enter Tryd.func26, Tryd.ntmps26
      go_wp2_with fail
      go_ret2
      exact ⟨rfl, Below.refl _ _⟩

end Go.Proofs.YticdlmdkjdfmbaaDoor
