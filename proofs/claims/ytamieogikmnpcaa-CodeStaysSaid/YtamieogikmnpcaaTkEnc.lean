/-
  What is taken, put again, is what was taken; which errors there are: plain facts.
-/
import Derived.Test.YtamieogikmnpcaaFields
namespace Go.Proofs.Ytamieogikmnpcaa
open Go Go.RowKit

theorem rnum_enc {l l1 : List UInt8} {v : Nat} (h : rnum l = (v, l1, 0)) : vbytes v ++ l1 = l ∧ v < 18446744073709551616 := by
  have hN := rnum_all l
  rw [h] at hN
  generalize ho : (v, l1, 0) = o at hN
  cases hN with
  | good v' n h' hn hl hv hb =>
    simp only [Prod.mk.injEq] at ho
    obtain ⟨rfl, rfl, _⟩ := ho
    exact ⟨hb.symm, hv⟩
  | short h' => simp at ho
  | form h' => simp at ho
theorem rnum_err (l : List UInt8) : (rnum l).2.2 = 0 ∨ (rnum l).2.2 = 30 ∨ (rnum l).2.2 = 12 := by
  have hN := rnum_all l
  generalize rnum l = o at hN
  cases hN <;> simp

structure TkEnc (F : Fd) (l l2 : List UInt8) : Prop where
  eq : enc F ++ l2 = l
  v : F.v < 18446744073709551616
  s : F.s.length ≤ 65536

theorem tk_enc {q : Nat} {most : Int} {l l2 : List UInt8} {F : Fd} (hq : q ≤ 3) (h : tk q most l = (F, l2, 0)) : TkEnc F l l2 := by
  have h4 : q = 0 ∨ q = 1 ∨ q = 2 ∨ q = 3 := by omega
  rcases h4 with rfl | rfl | rfl | rfl
  · have e : tk 0 most l = (⟨0, (rnum l).1, [], false, 0⟩, (rnum l).2) := rfl
    rw [e] at h
    obtain ⟨⟨v, l1, e1⟩, ho⟩ : ∃ o, rnum l = o := ⟨_, rfl⟩
    rw [ho] at h
    simp only [Prod.mk.injEq] at h
    obtain ⟨rfl, rfl, rfl⟩ := h
    obtain ⟨h1, h2⟩ := rnum_enc ho
    exact ⟨h1, h2, by simp⟩
  · have e : tk 1 most l = (⟨1, 0, (rtext l).1, false, 0⟩, (rtext l).2) := rfl
    rw [e] at h
    have hT := rtext_all l
    obtain ⟨⟨n, l1, e1⟩, hn⟩ : ∃ o, rnum l = o := ⟨_, rfl⟩
    obtain ⟨⟨s, l', e'⟩, ho⟩ : ∃ o, rtext l = o := ⟨_, rfl⟩
    rw [ho] at h hT
    rw [hn] at hT
    simp only [Prod.mk.injEq] at h
    obtain ⟨rfl, rfl, rfl⟩ := h
    dsimp only at hT
    generalize hoo : (s, l', 0) = oo at hT
    cases hT with
    | take h1 h2 s2 l2' hs hl =>
      simp only [Prod.mk.injEq] at hoo
      obtain ⟨rfl, rfl, rfl⟩ := hoo
      obtain ⟨g1, g2⟩ := rnum_enc hn
      have hlen : s.length = n := by rw [hs, List.length_take]; omega
      refine ⟨?_, show 0 < 18446744073709551616 by decide, by show s.length ≤ _; omega⟩
      show enc (⟨1, 0, s, false, 0⟩ : Fd) ++ l' = l
      rw [enc_text rfl]
      show (vbytes s.length ++ s) ++ l' = l
      rw [hlen, List.append_assoc, hl rfl, hs, List.take_append_drop]
      exact g1
    | long h0 h1 => simp at hoo
    | short h0 h1 h2 => simp at hoo
  · have e : tk 2 most l = (⟨2, 0, [], (rflag l).1, 0⟩, (rflag l).2) := rfl
    rw [e] at h
    rcases l with _ | ⟨x, r⟩
    · simp [rflag] at h
    · simp only [rflag] at h
      by_cases h1 : 1 < x.toNat
      · rw [if_pos h1] at h; simp at h
      · rw [if_neg h1] at h
        simp only [Prod.mk.injEq, and_true] at h
        obtain ⟨rfl, rfl⟩ := h
        refine ⟨?_, show 0 < 18446744073709551616 by decide, by simp⟩
        rw [enc_flag rfl]
        show [if (x.toNat == 1) = true then 1 else 0] ++ r = x :: r
        have hx : x.toNat = 0 ∨ x.toNat = 1 := by omega
        rcases hx with hx | hx
        · rw [hx]
          have : x = 0 := UInt8.toNat_inj.1 hx
          subst this
          rfl
        · rw [hx]
          have : x = 1 := UInt8.toNat_inj.1 hx
          subst this
          rfl
  · have e : tk 3 most l = (⟨3, (rcount most l).1, [], false, 0⟩, (rcount most l).2) := rfl
    rw [e] at h
    have hT := rcount_all most l
    obtain ⟨⟨n, l1, e1⟩, hn⟩ : ∃ o, rnum l = o := ⟨_, rfl⟩
    obtain ⟨⟨v, l', e'⟩, ho⟩ : ∃ o, rcount most l = o := ⟨_, rfl⟩
    rw [ho] at h hT
    rw [hn] at hT
    simp only [Prod.mk.injEq] at h
    obtain ⟨rfl, rfl, rfl⟩ := h
    dsimp only at hT
    generalize hoo : (v, l', 0) = oo at hT
    cases hT with
    | bad h0 hn0 => simp at hoo; omega
    | long h0 h1 => simp at hoo
    | good h0 h1 h2 =>
      simp only [Prod.mk.injEq, and_true] at hoo
      obtain ⟨rfl, rfl⟩ := hoo
      subst h0
      obtain ⟨g1, g2⟩ := rnum_enc hn
      exact ⟨g1, g2, by simp⟩

theorem rtext_err (l : List UInt8) : (rtext l).2.2 ≠ 31 := by
  have h := rnum_err l
  unfold rtext
  split
  · show (rnum l).2.2 ≠ 31; omega
  · split
    · simp
    · split <;> simp
theorem rflag_err (l : List UInt8) : (rflag l).2.2 ≠ 31 := by
  rcases l with _ | ⟨x, l⟩
  · simp [rflag]
  · simp only [rflag]
    split <;> simp
theorem rcount_err (most : Int) (l : List UInt8) : (rcount most l).2.2 ≠ 31 := by
  have h := rnum_err l
  unfold rcount
  split
  · show (rnum l).2.2 ≠ 31; omega
  · split <;> simp
theorem tk_err (q : Nat) (most : Int) (l : List UInt8) : (tk q most l).2.2 ≠ 31 := by
  unfold tk
  split
  · show (rnum l).2.2 ≠ 31
    have h := rnum_err l
    omega
  · split
    · exact rtext_err l
    · split
      · exact rflag_err l
      · exact rcount_err most l

end Go.Proofs.Ytamieogikmnpcaa
