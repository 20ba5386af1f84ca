/-
  SpacePlays: its walk.
-/
import Derived.Test.YtcodljegicoeeaaSpArgs
namespace Go.Proofs.Ytcodljegicoeeaa
open Go Go.RowKit

/-- flags lie apart from a space -/
theorem FL.only {w w' : World} {p n c : Nat} {A : Option Addr} {l l' : List Bool} (h : FL w A n c l) (hs : SpIn w p l') (ho : Only p w w') : FL w' A n c l := by
  refine ⟨fun hl => ?_, h.len, h.cap⟩
  obtain ⟨b, off, e, hb, hc⟩ := h.at_ hl
  have hne : b ≠ p := by
    rintro rfl
    have h0 := hc 0 _ 0 _ (List.getElem?_eq_getElem hl) rfl
    obtain ⟨a, hblk, _⟩ := hs.out
    rw [hblk.cell] at h0
    have hi := (Array.getElem?_eq_some_iff.1 h0).1
    have hv := (Array.getElem?_eq_some_iff.1 h0).2
    generalize off + 0 * eBool.k + 0 = o at *
    have ho5 : o = 0 ∨ o = 1 ∨ o = 2 ∨ o = 3 ∨ o = 4 := by simp at hi; omega
    rcases ho5 with e5 | e5 | e5 | e5 | e5 <;> subst e5 <;> simp at hv
  exact ⟨b, off, e, Nat.lt_of_lt_of_le hb ho.size, fun i x j u hi hu => (World.cell?_of_block (a := ⟨b, _, none⟩) (ho.block b hb (fun e => by injection e with e; exact hne e))).trans (hc i x j u hi hu)⟩

set_option maxHeartbeats 8000000 in
set_option maxRecDepth 100000 in
theorem splays_walk (n : Int) (A : Option Addr) (c : Nat) (xs : List (Int × Int)) (w : World) (hx : AcAt w w.heap.size A xs) :
    Calls Try.prog 3 #[.int .i64 n, .slice A xs.length c] w fun e w' => e = .returned (.bool true) ∧ Below w.heap.size w w' := by
  have HAW := hid (show ∀ W : World, Calls Try.prog 10 #[] W fun e w' => e = .returned (.bool true) ∧ Below W.heap.size W w' from awake_yes)
  have HX := hid hx
  clear hx
  by_cases hn : n < 1 ∨ 256 < n
  · have HN := hid (new_no (n := n) (w := w) hn)
    have HR := hid (refNew_no (n := n) (w := w) hn)
    clear hn
    go_enter Try.func3, Try.ntmps3
    go_wp2_with fail
    go_fit HN.out
    rintro e w1 ⟨rfl, rfl⟩
    go_wp2_with fail
    go_fit HR.out
    rintro e w1 ⟨rfl, rfl⟩
    go_wp2_with fail
    go_fit (HAW.out w)
    rintro e w1 ⟨rfl, hb1⟩
    go_wp2_with fail
    go_ret
    exact ⟨rfl, hb1⟩
  · obtain ⟨k, rfl⟩ : ∃ k : Nat, n = (k : Int) := ⟨n.toNat, by omega⟩
    have hk1 : 1 ≤ k := by omega
    have hk2 : k ≤ 256 := by omega
    have HN := hid (new_yes (w := w) hk1 hk2)
    clear hn
    obtain ⟨m, hml⟩ : ∃ m, xs.length = m := ⟨_, rfl⟩
    have HML := hid hml
    rw [hml]
    clear hml
    go_enter Try.func3, Try.ntmps3
    go_wp2_with fail
    go_fit HN.out
    rintro e w1 ⟨rfl, hs1, hb1⟩
    have HS1 := hid hs1
    have HB1 := hid hb1
    have HP := hid (Nat.le_refl w.heap.size)
    clear hs1 hb1 HN
    obtain ⟨p, hp⟩ : ∃ p, w.heap.size = p := ⟨_, rfl⟩
    rw [hp] at HS1
    rw [hp]
    have HPP := hid hp
    clear hp
    have HR := hid (refNew_yes (w := w1) hk1 hk2)
    go_wp2_with fail
    go_fit HR.out
    rintro e w2 ⟨A2, rfl, hf2, hb2⟩
    have HF2 := hid hf2
    have HB2 := hid (below_step HB1.out hb2)
    have HS2 := hid (HS1.out.step hb2)
    clear hf2 hb2 HR HB1 HS1
    go_wp2_with fail
    go_fit (HAW.out w2)
    rintro e w3 ⟨rfl, hb3⟩
    have HF3 := hid (HF2.out.step hb3)
    have HB3 := hid (below_step HB2.out hb3)
    have HS3 := hid (HS2.out.step hb3)
    clear hb3 HF2 HB2 HS2
    go_wp2_with fail
    go_loopw [7, 9] (fun s i wr => ∃ (j c' : Nat) (A' : Option Addr) (l : List Bool), s = .slice A' k c' ∧ i = .int .i64 (j : Int) ∧ j ≤ m ∧ j ≤ 100 ∧ Kept (FL wr A' k c' l) ∧ Kept (SpIn wr p l) ∧ Kept (Below w.heap.size w wr)) (fun _ i _ => m - (intOf i).toNat)
    case atStart => exact ⟨0, k, A2, _, rfl, rfl, Nat.zero_le _, Nat.zero_le _, HF3, HS3, HB3⟩
    case round =>
      obtain ⟨j, c', A', l, rfl, rfl, hj, hj2, HF, HS, HB⟩ := hrel
      clear HF3 HS3 HB3
      by_cases hlt : j < m ∧ j < 100
      · obtain ⟨hlt1, hlt2⟩ := hlt
        obtain ⟨b, off, x, rfl, hxj, c0, c1⟩ := (HX.out.below HB.out).get (i := j) (by have := HML.out; omega)
        obtain ⟨kd, pg⟩ := x
        dsimp only at c0 c1
        have HD := hid (refDo_any HF.out hk2 kd pg)
        have HXJ := hid hxj
        clear hxj
        go_wp2_with fail
        go_fit HD.out
        rintro e w5 ⟨A5, c5, rfl, hf5, hb5⟩
        have HF5 := hid hf5
        have HB5 := hid (HB.out.trans (hb5.mono HB.out.size))
        have HS5 := hid (HS.out.step hb5)
        have HDD := hid (do_any HS5.out kd pg)
        obtain ⟨d0, d1⟩ := (HX.out.below HB5.out).at HXJ.out
        dsimp only at d0 d1
        clear hf5 hb5 HD HF HB HS
        go_wp2_with fail
        go_fit HDD.out
        rintro e w6 ⟨rfl, hs6, ho6⟩
        have HF6 := hid (HF5.out.only HS5.out ho6)
        have HB6 := hid (HB5.out.grown ho6 HB5.out.size (fun k hk => by injection hk with hk; have := HPP.out; omega))
        have HS6 := hid hs6
        have HAL := hid (alike_yes HS6.out HF6.out)
        clear hs6 ho6 HDD HF5 HB5 HS5
        go_wp2_with fail
        go_fit HAL.out
        rintro e w7 ⟨rfl, hb7⟩
        have HF7 := hid (HF6.out.step hb7)
        have HB7 := hid (HB6.out.trans (hb7.mono HB6.out.size))
        have HS7 := hid (HS6.out.step hb7)
        clear hb7 HAL HF6 HB6 HS6
        go_wp2_with fail
        go_roundw
        case rel => exact ⟨j + 1, c5, A5, _, rfl, by go_num, by omega, by omega, HF7, HS7, HB7⟩
        case measure => simp [intOf]; omega
      · have HAL := hid (alike_yes HS.out HF.out)
        have hex : (decide ((j : Int) < (m : Int)) && decide ((j : Int) < 100)) = false := by simp; omega
        by_cases hlt1 : j < m
        · have hlt2 : ¬ j < 100 := fun h => hlt ⟨hlt1, h⟩
          clear hlt hex
          go_wp2_with fail
          go_fit HAL.out
          rintro e w7 ⟨rfl, hb7⟩
          have HB7 := hid (HB.out.trans (hb7.mono HB.out.size))
          go_wp2_with fail
          go_ret
          exact ⟨rfl, HB7.out⟩
        · clear hlt hex
          go_wp2_with fail
          go_fit HAL.out
          rintro e w7 ⟨rfl, hb7⟩
          have HB7 := hid (HB.out.trans (hb7.mono HB.out.size))
          go_wp2_with fail
          go_ret
          exact ⟨rfl, HB7.out⟩

end Go.Proofs.Ytcodljegicoeeaa
