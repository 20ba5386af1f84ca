/-
  keys.End by its contract.
-/
import Derived.Test.YticdlmdkjdfmbaaDoorSmallKeys
import Derived.Test.YticdlmdkjdfmbaaDoorDecode
import Derived.Test.YticdlmdkjdfmbaaDoorBytesNew
namespace Go.Proofs.YticdlmdkjdfmbaaDoor
open Go Go.RowKit

def endV : Option (List UInt8) → Value
  | some e => .tuple #[.string (bst e), .bool true]
  | none => .tuple #[.string (bst []), .bool false]

theorem set_last (l : List UInt8) (x y : UInt8) (n : Nat) (h : n = l.length) : (l ++ [x]).set n y = l ++ [y] := by
  subst h
  rw [List.set_append_right _ _ (Nat.le_refl _), Nat.sub_self]
  rfl

set_option maxHeartbeats 1000000 in
theorem end_any (p : List UInt8) (w : World) (hp : p.length ≤ 70368744177664) :
    Calls Tryd.prog 18 #[.string (bst p)] w fun e w' => e = .returned (endV (endL p)) ∧ Below w.heap.size w w' := by
  obtain ⟨D, hD⟩ : ∃ D, D = endL p := ⟨_, rfl⟩
  rw [← hD]
  have HD := hid hD
  obtain ⟨s, hs⟩ : ∃ s, s = bst p := ⟨_, rfl⟩
  have hsz : s.size = p.length := by rw [hs, bst_size]
  have hle : s.size ≤ 70368744177664 := by omega
  have HS := hid hs
  have HZ := hid hsz
  rw [← hs]
  clear hs hsz hD hp
  go_enter Tryd.func18, Tryd.ntmps18
  go_wp2_with fail
  go_loop [4] (fun i => ∃ n : Nat, n ≤ s.size ∧ i = .int .i64 (n : Int) ∧ endL (p.take n) = D) (fun i => (intOf i).toNat)
  case atStart => exact ⟨s.size, Nat.le_refl _, rfl, by rw [List.take_of_length_le (by rw [HZ.out]; exact Nat.le_refl _)]; exact HD.out.symm⟩
  case round =>
    obtain ⟨n, hn, rfl, hend⟩ := hrel
    have HE := hid hend
    clear hend
    rcases n with _ | q
    · obtain rfl : D = none := by rw [← HE.out]; rfl
      go_wp2_with fail
      go_ret2
      exact ⟨rfl, Below.refl _ _⟩
    · have hql : q < s.size := by omega
      have hex : ∃ x, p[q]? = some x := ⟨_, List.getElem?_eq_getElem (by rw [← HZ.out]; exact hql)⟩
      obtain ⟨x, hx⟩ := hex
      have hsk := bst_get HS.out hx hql
      have HTK := hid (show p.take (q + 1) = p.take q ++ [x] by rw [List.take_succ_eq_append_getElem (by rw [← HZ.out]; exact hql), (List.getElem?_eq_some_iff.1 hx).2])
      clear hx
      have hi : ((q + 1 : Nat) : Int) - 1 = (q : Int) := by omega
      by_cases hx255 : x = 255
      · subst hx255
        have HN := hid (show endL (p.take q) = D by rw [← HE.out, HTK.out, endL_last])
        go_wp2_with fail
        go_round
        case rel => exact ⟨q, by omega, rfl, HN.out⟩
        case measure => simp [intOf]
      · have hz : ((x.toNat : Int) == 255) = false := (u8b_ne hx255).1
        have hDs : D = some (p.take q ++ [x + 1]) := by rw [← HE.out, HTK.out, endL_snoc _ hx255]
        subst hDs
        have hcut := ext_to (k := q + 1) HS.out
        rw [HTK.out] at hcut
        have HL := hid (show (p.take q).length = q by rw [List.length_take, ← HZ.out]; omega)
        have HSET := hid (set_last (p.take q) x (x + 1) q HL.out.symm)
        have hLx : (p.take q ++ [x])[q]? = some x := by rw [List.getElem?_append_right (by rw [HL.out]; exact Nat.le_refl _), HL.out, Nat.sub_self]; rfl
        obtain ⟨L, hL⟩ : ∃ L, L = p.take q ++ [x] := ⟨_, rfl⟩
        have hLL : L.length = q + 1 := by rw [hL, List.length_append, HL.out]; rfl
        rw [← hL] at hcut HSET hLx
        have HLX := hid hLx
        have HLE := hid (show (L.set q (x + 1)).length = q + 1 by rw [List.length_set, hLL])
        have HLL := hid hLL
        clear hL hLx
        obtain ⟨E, hE⟩ : ∃ E, E = p.take q ++ [x + 1] := ⟨_, rfl⟩
        rw [← hE] at HSET
        have HEE := hid hE
        clear hE
        have hlt := x.toNat_lt
        have hlt2 : x.toNat < 255 := by have := u8_ne hx255; simp at this; omega
        have hadd : ((x + 1).toNat : Int) = (x.toNat : Int) + 1 := by rw [u8_succ hx255]; omega
        have HADD := hid hadd
        clear hadd hx255
        have HCV := hid (show ∀ (g c : Nat) (w1 : World), At w1 w1.heap.size (some ⟨g, 0, none⟩) L →
            (convert 24 9 (.slice (some ⟨g, 0, none⟩) (q + 1) c)).run Tryd.prog (w1.setCell ⟨g, q, none⟩ (.int .u8 ((x.toNat : Int) + 1))) = .ok (.string (bst E)) (w1.setCell ⟨g, q, none⟩ (.int .u8 ((x.toNat : Int) + 1))) from
          fun g c w1 hA => by
            have := hA.setAt (k := q) (by omega) (x + 1)
            rw [HADD.out, HSET.out] at this
            exact str_of this (by rw [← HSET.out, HLE.out]))
        go_wp2_with (with_reducible refine wpList_bytes_one _ rfl (.tmp 23) 9 24 5 rfl Tryd.underlying9 Tryd.underlying24 Tryd.underlying5 L rfl q x HLX.out ?_; intro g c w1 hg hc HA c1 f1 HB1; have hcv := HCV.out g c w1 HA.out)
        go_ret2
        exact ⟨by rw [← HEE.out]; rfl, HB1.out.setCell hg _⟩

end Go.Proofs.YticdlmdkjdfmbaaDoor
