/-
  The document's Get, by its contract.
-/
import Derived.Test.YticdlmdkjdfmbaaDoorRefKey
import Derived.Test.YticdlmdkjdfmbaaDoorKGet
import Derived.Test.YticdlmdkjdfmbaaDoorLists
namespace Go.Proofs.YticdlmdkjdfmbaaDoor
open Go Go.RowKit

theorem ext_from {s : ByteArray} {l : List UInt8} {k : Nat} (hs : s = bst l) : s.extract k s.size = bst (l.drop k) := by
  subst hs
  apply ByteArray.ext
  simp only [ByteArray.data_extract, bst]
  apply Array.toList_inj.1
  rw [Array.toList_extract]
  simp only [List.extract_eq_take_drop]
  exact List.take_of_length_le (by simp [ByteArray.size])

set_option maxHeartbeats 2000000 in
theorem refKGet_any (l : List UInt8) (w : World) (hl : l.length ≤ 2000) :
    Calls Tryd.prog 16 #[.string (bst l)] w fun e w' => e = .returned (getV (kget l)) ∧ w = w' := by
  rw [← rg_kget]
  obtain ⟨D, hD⟩ : ∃ D, D = rg [] l := ⟨_, rfl⟩
  rw [← hD]
  have HD := hid hD
  obtain ⟨s, hs⟩ : ∃ s, s = bst l := ⟨_, rfl⟩
  have hsz : s.size = l.length := by rw [hs, bst_size]
  have hle : s.size ≤ 2000 := by omega
  have HS := hid hs
  have HZ := hid hsz
  have HL := hid hl
  rw [← hs]
  clear hs hsz hl hD
  go_enter Tryd.func16, Tryd.ntmps16
  go_wp2_with fail
  go_loop [5, 6] (fun u i => ∃ (n : Nat) (acc : List UInt8), n ≤ s.size ∧ u = .string (bst acc) ∧ i = .int .i64 (n : Int) ∧ rg acc (l.drop n) = D ∧ acc.length ≤ n) (fun _ i => s.size - (intOf i).toNat)
  case atStart => exact ⟨0, [], Nat.zero_le _, rfl, rfl, HD.out.symm, Nat.le_refl _⟩
  case round =>
    obtain ⟨n, acc, hn, rfl, rfl, hrg, hacc⟩ := hrel
    have HRG := hid hrg
    clear hrg
    have hasz := bst_size acc
    by_cases hlt : n < s.size
    · have hex : ∃ x, l[n]? = some x := ⟨_, List.getElem?_eq_getElem (by rw [← HZ.out]; exact hlt)⟩
      obtain ⟨x, hx⟩ := hex
      have hsk := bst_get HS.out hx hlt
      have hext := ext_one HS.out hx
      have hone : (bst [x]).size = 1 := rfl
      have HDC := hid (drop_cons hx)
      clear hx
      by_cases hx0 : x = 0
      · subst hx0
        clear hext hone
        by_cases hlt1 : n + 1 < s.size
        · have hey : ∃ y, l[n + 1]? = some y := ⟨_, List.getElem?_eq_getElem (by rw [← HZ.out]; exact hlt1)⟩
          obtain ⟨y, hy⟩ := hey
          have hsk1 := bst_get HS.out hy hlt1
          have HDC1 := hid (drop_cons hy)
          clear hy
          by_cases hy255 : y = 255
          · subst hy255
            have HN := hid (show rg (acc ++ [0]) (l.drop (n + 2)) = D by rw [← HRG.out, HDC.out, HDC1.out, rg_zero])
            have HA := hid (bst_append acc [0])
            go_wp2_with fail
            go_round
            case rel => exact ⟨n + 2, acc ++ [0], by omega, by rw [← HA.out]; rfl, by go_num, HN.out, by simp; omega⟩
            case measure => simp [intOf]; omega
          · have hz255 : ((y.toNat : Int) == 255) = false := (u8b_ne hy255).1
            by_cases hy1 : y = 1
            · subst hy1
              by_cases h8 : s.size = n + 10
              · by_cases h64 : acc.length ≤ 64
                · have hlen : (l.drop (n + 2)).length = 8 := by rw [List.length_drop, ← HZ.out]; omega
                  have he : s.extract (n + 2) (n + 10) = bst (l.drop (n + 2)) := by rw [← ext_from HS.out, h8]
                  have ho := ofBe_8 hlen
                  have HN := hid (show D = some (acc, 18446744073709551615 - ofBe (l.drop (n + 2))) by rw [← HRG.out, HDC.out, HDC1.out, rg_yes hlen h64])
                  have HLE := hid hlen
                  obtain ⟨q, hq⟩ : ∃ q, q = ofBe (l.drop (n + 2)) := ⟨_, rfl⟩
                  rw [← hq] at ho HN
                  have HQ := hid hq
                  have hsub : (18446744073709551615 : Int) - (q : Int) = ((18446744073709551615 - q : Nat) : Int) := by omega
                  have hDe := HN.out
                  subst hDe
                  have hs10 : (s.size : Int) = (n : Int) + 10 := by omega
                  clear hlen hq
                  go_wp2_with fail
                  go_fit (refGet_any (l.drop (n + 2)) w (by rw [HLE.out]; exact Nat.le_refl _))
                  rw [← HQ.out]
                  rintro e w1 ⟨rfl, rfl⟩
                  go_wp2_with fail
                  go_ret3
                  exact ⟨rfl, rfl⟩
                · obtain rfl : D = none := by rw [← HRG.out, HDC.out, HDC1.out, rg_no (by decide) (fun h => h64 h.2.2)]
                  have hs10 : (s.size : Int) = (n : Int) + 10 := by omega
                  go_wp2_with fail
                  go_ret3
                  exact ⟨rfl, rfl⟩
              · obtain rfl : D = none := by rw [← HRG.out, HDC.out, HDC1.out, rg_no (by decide) (fun h => h8 (by have := h.2.1; rw [List.length_drop, ← HZ.out] at this; omega))]
                have hs10 : ((s.size : Int) == (n : Int) + 10) = false := by simp; omega
                go_wp2_with fail
                go_ret3
                exact ⟨rfl, rfl⟩
            · obtain rfl : D = none := by rw [← HRG.out, HDC.out, HDC1.out, rg_no hy255 (fun h => hy1 h.1)]
              have hz1 : ((y.toNat : Int) == 1) = false := (u8b_ne hy1).1
              go_wp2_with fail
              go_ret3
              exact ⟨rfl, rfl⟩
        · obtain rfl : D = none := by rw [← HRG.out, HDC.out, List.drop_of_length_le (by rw [← HZ.out]; omega), rg_end]
          go_wp2_with fail
          go_ret3
          exact ⟨rfl, rfl⟩
      · have hx2 : ((x.toNat : Int) != 0) = true := (u8b_ne hx0).2
        have HN := hid (show rg (acc ++ [x]) (l.drop (n + 1)) = D by rw [← HRG.out, HDC.out, rg_plain hx0])
        have HA := hid (bst_append acc [x])
        clear hx0
        go_wp2_with fail
        go_round
        case rel => exact ⟨n + 1, acc ++ [x], by omega, by rw [← HA.out], by go_num, HN.out, by simp; omega⟩
        case measure => simp [intOf]; omega
    · obtain rfl : n = s.size := by omega
      obtain rfl : D = none := by rw [← HRG.out, List.drop_of_length_le (by rw [← HZ.out]; exact Nat.le_refl _)]; rfl
      go_wp2_with fail
      go_ret3
      exact ⟨rfl, rfl⟩

end Go.Proofs.YticdlmdkjdfmbaaDoor
