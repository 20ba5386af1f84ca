/-
  takeText, takeFlag, Count's closure: by their contracts.
-/
import Derived.Test.YtamieogikmnpcaaTakeNum
namespace Go.Proofs.Ytamieogikmnpcaa
open Go Go.RowKit

/-- what a step leaves: the reader somewhere, with what is wrong; where nothing is wrong, behind the field -/
structure Took (w w' : World) (r : Nat) (l' : List UInt8) (e : Nat) : Prop where
  some : ∃ l'', Rd w' r l'' e ∧ (e = 0 → l'' = l')
  only : Only r w w'

theorem QB.only {w w' : World} {q r r' : Nat} (h : QB w q r) (hb : Only r' w w') (hne : r' ≠ q) : QB w' q r := Blk.grown h hb (fun e => hne (by injection e with e; exact e.symm))
theorem Rd.ne {w : World} {r q r' e : Nat} {l : List UInt8} (h : Rd w r l e) (h' : QB w q r') : r ≠ q := by
  obtain ⟨A, m, c, h1, _⟩ := h.out
  exact RB.ne h1 h'

/-- what is known of a text -/
inductive Txt (l : List UInt8) (n : Nat) (l1 : List UInt8) (e1 : Nat) : List UInt8 × List UInt8 × Nat → Prop
  | take (h1 : n ≤ 65536) (h2 : n ≤ l1.length) (s l' : List UInt8) (hs : s = l1.take n) (hl : e1 = 0 → l' = l1.drop n) : Txt l n l1 e1 (s, l', e1)
  | long (h0 : e1 = 0) (h1 : 65536 < n) : Txt l n l1 e1 ([], l, 32)
  | short (h0 : e1 = 0) (h1 : n ≤ 65536) (h2 : l1.length < n) : Txt l n l1 e1 ([], l, 30)
theorem rtext_all (l : List UInt8) : Txt l (rnum l).1 (rnum l).2.1 (rnum l).2.2 (rtext l) := by
  unfold rtext
  by_cases h0 : (rnum l).2.2 = 0
  · rw [if_neg (by simpa using h0)]
    by_cases h1 : 65536 < (rnum l).1
    · rw [if_pos h1]; exact .long h0 h1
    · rw [if_neg h1]
      by_cases h2 : (rnum l).2.1.length < (rnum l).1
      · rw [if_pos h2]; exact .short h0 (by omega) h2
      · rw [if_neg h2]
        have h := Txt.take (l := l) (e1 := (rnum l).2.2) (Nat.le_of_not_lt h1) (Nat.le_of_not_lt h2) _ ((rnum l).2.1.drop (rnum l).1) rfl (fun _ => rfl)
        rw [h0] at h
        rw [h0]
        exact h
  · rw [if_pos (by simpa using h0)]
    obtain ⟨h1, h2⟩ := rnum_bad l h0
    exact .take (by omega) (by omega) _ _ (by rw [h1]; rfl) (fun h => absurd h h0)

theorem bst_nil : bst [] = ⟨#[]⟩ := rfl

set_option maxHeartbeats 2000000 in
theorem takeText_any (f : FuncId) (hf : Fails f) (q r : Nat) (l : List UInt8) (w : World) (hr : Rd w r l 0) (hq : QB w q r) :
    Calls Try.prog 35 #[.pointer (some ⟨r, 0, none⟩), .func (.func f) #[] #[.pointer (some ⟨q, 0, none⟩)]] w fun e w' =>
      e = .returned (.string (bst (rtext l).1)) ∧ Took w w' r (rtext l).2.1 (rtext l).2.2 := by
  have hen := hf.enters
  have hne := hr.ne hq
  have HNE := hid hne
  have HQ := hid hq
  have HT := hid (takeNum_any f hf q r l w hr hq)
  have hlt := rnum_lt l
  have hN := rtext_all l
  generalize rtext l = o at hN ⊢
  have HT2 := HT.out
  generalize rnum l = p at hN hlt HT2
  obtain ⟨n, l1, e1⟩ := p
  dsimp only at hN hlt HT2
  clear hr hq hne HT
  have hlt' : (n : Int) < 18446744073709551616 := by omega
  have HLT := hid hlt'
  clear hlt hlt'
  cases hN with
  | take h1 h2 s l' hs hl =>
    have HS := hid hs
    have HL := hid hl
    have HT := hid HT2
    clear hs hl HT2
    go_enter Try.func35, Try.ntmps35
    go_wp2_with fail
    go_fit HT.out
    rintro e w2 ⟨rfl, hr2, ho2⟩
    obtain ⟨A, m, c, hb, hm, hc, hl70, hA⟩ := hr2.out
    obtain ⟨A', hsl, hA'⟩ := slice_from (n := n) hA hm hc (by omega)
    have hcv : ∀ c', (convert 30 9 (.slice A n c')).run Try.prog w2 = .ok (.string (bst s)) w2 := fun c' => by rw [HS.out]; exact str_of (hA.take n) (by rw [List.length_take]; omega)
    have c0 := RB.c0 hb
    have f0 := RB.f0 hb
    have hmn : n ≤ m := by omega
    have hm70 : m ≤ 140737488351232 := by omega
    have HM := hid hm
    have HA' := hid hA'
    have HB := hid hb
    have HO := hid ho2
    have h7 := hid hl70
    clear hm hA hA' hb hr2 h2 hl70 ho2
    go_wp2_with fail
    go_ret
    refine ⟨rfl, ⟨l1.drop n, ⟨_, _, _, HB.out.set0, ?_, by omega, by have := h7.out; rw [List.length_drop]; omega, HA'.out.setR _⟩, fun h => (HL.out h).symm⟩, HO.out.set _⟩
    rw [List.length_drop, HM.out]
  | long h0 h1 =>
    obtain rfl : e1 = 0 := h0
    have HT := hid HT2
    clear HT2
    go_enter Try.func35, Try.ntmps35
    go_wp2_with fail
    go_fit HT.out
    rintro e w2 ⟨rfl, hr2, ho2⟩
    obtain ⟨A, m, c, hb, hm, hc, hl70, hA⟩ := hr2.out
    have HB := hid hb
    have HO := hid ho2
    have HR := hid hr2
    have HA := hid hA
    have HM := hid hm
    clear hb hr2 ho2 hA hm
    go_wp2_with fail
    go_fit (hf.first 32 q r A m c w2 HB.out (HQ.out.only HO.out HNE.out))
    rintro e w4 ⟨rfl, rfl⟩
    go_wp2_with fail
    go_ret
    exact ⟨rfl, ⟨l1, ⟨_, _, _, HB.out.set1, HM.out, hc, hl70, HA.out.setR _⟩, fun h => by cases h⟩, HO.out.set _⟩
  | short h0 h1 h2 =>
    obtain rfl : e1 = 0 := h0
    have HT := hid HT2
    clear HT2
    go_enter Try.func35, Try.ntmps35
    go_wp2_with fail
    go_fit HT.out
    rintro e w2 ⟨rfl, hr2, ho2⟩
    obtain ⟨A, m, c, hb, hm, hc, hl70, hA⟩ := hr2.out
    have HB := hid hb
    have HO := hid ho2
    have HR := hid hr2
    have HA := hid hA
    have HM := hid hm
    have hmn : m < n := by omega
    have hm70 : m ≤ 140737488351232 := by omega
    have c0 := RB.c0 hb
    have f0 := RB.f0 hb
    clear hb hr2 ho2 hA hm h2
    go_wp2_with fail
    go_fit (hf.first 30 q r A m c w2 HB.out (HQ.out.only HO.out HNE.out))
    rintro e w4 ⟨rfl, rfl⟩
    go_wp2_with fail
    go_ret
    exact ⟨rfl, ⟨l1, ⟨_, _, _, HB.out.set1, HM.out, hc, hl70, HA.out.setR _⟩, fun h => by cases h⟩, HO.out.set _⟩

end Go.Proofs.Ytamieogikmnpcaa
