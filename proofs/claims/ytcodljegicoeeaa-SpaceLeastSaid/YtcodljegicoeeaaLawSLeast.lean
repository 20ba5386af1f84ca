/-
  SpaceLeast: its walk.
-/
import Derived.Test.YtcodljegicoeeaaLawSPlays
namespace Go.Proofs.Ytcodljegicoeeaa
open Go Go.RowKit

/-- a page is left just where one is free -/
theorem cnt_take (l : List Bool) : ∀ k, k ≤ l.length → (tknB l k).length = (l.take k).count true
  | 0, _ => by simp [tknB]
  | k + 1, h => by
    have hk : k < l.length := by omega
    rw [tknB_succ, List.length_append, cnt_take l k (by omega), List.take_succ_eq_append_getElem hk, List.count_append, List.getD_eq_getElem?_getD, List.getElem?_eq_getElem hk]
    cases h1 : l[k] <;> simp
theorem cnt_all (l : List Bool) : (tknB l l.length).length = l.count true := by
  have := cnt_take l l.length (Nat.le_refl _)
  rwa [List.take_length] at this
theorem left_count (l : List Bool) : leftB l = l.length - l.count true := by unfold leftB; rw [cnt_all]
theorem left_pos {l : List Bool} : 0 < leftB l ↔ fstF l < l.length := by
  rw [left_count]
  have hle := List.count_le_length (a := true) (l := l)
  constructor
  · intro h
    rcases Nat.lt_or_ge (fstF l) l.length with h1 | h1
    · exact h1
    · have e : fstF l = l.length := Nat.le_antisymm (fstF_le l) h1
      have : l.count true = l.length := by
        rw [List.count_eq_length]
        intro b hb
        obtain ⟨j, hj, rfl⟩ := List.getElem_of_mem hb
        have := fstF_taken (l := l) (j := j) (by omega)
        rw [List.getD_eq_getElem?_getD, List.getElem?_eq_getElem hj] at this
        simpa using this.symm
      omega
  · intro h
    rcases Nat.lt_or_ge (l.count true) l.length with h1 | h1
    · omega
    · have e : l.count true = l.length := Nat.le_antisymm hle h1
      rw [List.count_eq_length] at e
      have h2 := fstF_free h
      rw [List.getD_eq_getElem?_getD, List.getElem?_eq_getElem h] at h2
      have := e _ (List.getElem_mem h)
      simp at h2
      rw [h2] at this
      cases this

set_option maxHeartbeats 8000000 in
set_option maxRecDepth 100000 in
theorem sleast_walk (n : Int) (A : Option Addr) (c : Nat) (xs : List (Int × Int)) (w : World) (hx : AcAt w w.heap.size A xs) :
    Calls Try.prog 7 #[.int .i64 n, .slice A xs.length c] w fun e w' => e = .returned (.bool true) ∧ Below w.heap.size w w' := by
  have HAW := hid (show ∀ W : World, Calls Try.prog 10 #[] W fun e w' => e = .returned (.bool true) ∧ Below W.heap.size W w' from awake_yes)
  have HX := hid hx
  clear hx
  by_cases hn : n < 1 ∨ 256 < n
  · have HN := hid (new_no (n := n) (w := w) hn)
    clear hn
    go_enter Try.func7, Try.ntmps7
    go_wp2_with fail
    go_fit HN.out
    rintro e w1 ⟨rfl, rfl⟩
    go_wp2_with fail
    go_fit (HAW.out w)
    rintro e w1 ⟨rfl, hb1⟩
    have HB1 := hid hb1
    clear hb1
    go_wp2_with fail
    go_fit (HAW.out w1)
    rintro e w2 ⟨rfl, hb2⟩
    go_wp2_with fail
    go_ret
    exact ⟨rfl, below_step HB1.out hb2⟩
  · obtain ⟨k, rfl⟩ : ∃ k : Nat, n = (k : Int) := ⟨n.toNat, by omega⟩
    have hk1 : 1 ≤ k := by omega
    have hk2 : k ≤ 256 := by omega
    have HN := hid (new_yes (w := w) hk1 hk2)
    clear hn
    obtain ⟨m, hml⟩ : ∃ m, xs.length = m := ⟨_, rfl⟩
    have HML := hid hml
    rw [hml]
    clear hml
    go_enter Try.func7, Try.ntmps7
    go_wp2_with fail
    go_fit HN.out
    rintro e w1 ⟨rfl, hs1, hb1⟩
    have HS1 := hid hs1
    have HB1 := hid hb1
    clear hs1 hb1 HN
    obtain ⟨p, hp⟩ : ∃ p, w.heap.size = p := ⟨_, rfl⟩
    rw [hp] at HS1
    rw [hp]
    have HPP := hid hp
    clear hp
    go_wp2_with fail
    go_fit (HAW.out w1)
    rintro e w3 ⟨rfl, hb3⟩
    have HB3 := hid (below_step HB1.out hb3)
    have HS3 := hid (HS1.out.step hb3)
    clear hb3 HB1 HS1
    go_wp2_with fail
    go_loopw [7] (fun i wr => ∃ (j : Nat) (l : List Bool), i = .int .i64 (j : Int) ∧ j ≤ m ∧ j ≤ 100 ∧ Kept (SpIn wr p l) ∧ Kept (Below w.heap.size w wr)) (fun i _ => m - (intOf i).toNat)
    case atStart => exact ⟨0, _, rfl, Nat.zero_le _, Nat.zero_le _, HS3, HB3⟩
    case round =>
      obtain ⟨j, l, rfl, hj, hj2, HS, HB⟩ := hrel
      clear HS3 HB3
      by_cases hlt : j < m ∧ j < 100
      · obtain ⟨hlt1, hlt2⟩ := hlt
        obtain ⟨b, off, x, rfl, hxj, -, -⟩ := (HX.out.below HB.out).get (i := j) (by have := HML.out; omega)
        obtain ⟨kd, pg⟩ := x
        have HXJ := hid hxj
        have HLE := hid (left_any HS.out)
        clear hxj
        go_wp2_with fail
        go_fit HLE.out
        rintro e w5 ⟨rfl, hb5⟩
        have HB5 := hid (HB.out.trans (hb5.mono HB.out.size))
        have HS5 := hid (HS.out.step hb5)
        obtain ⟨d0, d1⟩ := (HX.out.below HB5.out).at HXJ.out
        dsimp only at d0 d1
        clear hb5 HLE HB HS
        by_cases hk0 : kd = 0
        · subst hk0
          have HT := hid (take_any HS5.out)
          have HLP := hid (left_pos (l := l))
          by_cases hfr : fstF l < l.length
          · have hlp : (0 : Int) < (leftB l : Int) := by have := HLP.out.2 hfr; omega
            have HTB := hid (show takeB l = (l.set (fstF l) true, fstF l, 0) by unfold takeB; rw [if_pos hfr])
            rw [HTB.out] at HT
            generalize leftB l = lf at *
            go_wp2_with fail
            go_fit HT.out
            rintro e w6 ⟨rfl, hs6, ho6⟩
            have HS6 := hid hs6
            have HB6 := hid (HB5.out.grown ho6 HB5.out.size (fun k hk => by injection hk with hk; have := HPP.out; omega))
            have HALL := hid (show ∀ i, i ≤ fstF l → hasB (l.set (fstF l) true) (i : Int) = true from fun i hi => by
              rw [hasB_nat, List.getD_eq_getElem?_getD, List.getElem?_set]
              by_cases he : fstF l = i
              · rw [if_pos he, if_pos hfr]; rfl
              · rw [if_neg he, ← List.getD_eq_getElem?_getD]; exact fstF_taken (by omega))
            have hpg : fstF l ≤ 256 := Nat.le_trans (fstF_le l) HS5.out.few.2
            generalize fstF l = pgn at *
            have HH := hid (has_any HS6.out (pgn : Int))
            rw [HALL.out pgn (Nat.le_refl _)] at HH
            clear hs6 ho6 HT HB5 HS5 HTB HLP
            go_wp2_with fail
            go_fit HH.out
            rintro e w7 ⟨rfl, rfl⟩
            go_wp2_with fail
            go_loopw [11] (fun i wq => ∃ q : Nat, i = .int .i64 (q : Int) ∧ q ≤ pgn ∧ wq = w6) (fun i _ => pgn - (intOf i).toNat)
            case atStart => exact ⟨0, rfl, Nat.zero_le _, rfl⟩
            case round =>
              obtain ⟨q, rfl, hq, rfl⟩ := hrel
              by_cases hqp : q < pgn
              · have HQ := hid (has_any HS6.out (q : Int))
                rw [HALL.out q hq] at HQ
                go_wp2_with fail
                go_fit HQ.out
                rintro e w7 ⟨rfl, rfl⟩
                go_wp2_with fail
                go_roundw
                case rel => exact ⟨q + 1, by go_num, by omega, trivial⟩
                case measure => simp [intOf]; omega
              · go_wp2_with fail
                go_roundw
                case rel => exact ⟨j + 1, _, by go_num, by omega, by omega, HS6, HB6⟩
                case measure => simp [intOf]; omega
          · have hlp : ¬ (0 : Int) < (leftB l : Int) := by have := HLP.out; omega
            have HTB := hid (show takeB l = (l, 0, 91) by unfold takeB; rw [if_neg hfr])
            rw [HTB.out] at HT
            generalize leftB l = lf at *
            go_wp2_with fail
            go_fit HT.out
            rintro e w6 ⟨rfl, hs6, ho6⟩
            have HS6 := hid hs6
            have HB6 := hid (HB5.out.grown ho6 HB5.out.size (fun k hk => by injection hk with hk; have := HPP.out; omega))
            clear hs6 ho6 HT HB5 HS5 HTB HLP
            go_wp2_with fail
            go_loopw [11] (fun i wq => i = .int .i64 0 ∧ wq = w6) (fun _ _ => 0)
            case atStart => exact ⟨rfl, rfl⟩
            case round =>
              obtain ⟨rfl, rfl⟩ := hrel
              go_wp2_with fail
              go_roundw
              case rel => exact ⟨j + 1, _, by go_num, by omega, by omega, HS6, HB6⟩
              case measure => simp [intOf]; omega
        · have hk0' : (kd == 0) = false := by simpa using hk0
          have HDD := hid (do_any HS5.out kd pg)
          clear hk0
          generalize leftB l = lf at *
          go_wp2_with fail
          go_fit HDD.out
          rintro e w6 ⟨rfl, hs6, ho6⟩
          have HS6 := hid hs6
          have HB6 := hid (HB5.out.grown ho6 HB5.out.size (fun k hk => by injection hk with hk; have := HPP.out; omega))
          clear hs6 ho6 HDD HB5 HS5
          go_wp2_with fail
          go_roundw
          case rel => exact ⟨j + 1, _, by go_num, by omega, by omega, HS6, HB6⟩
          case measure => simp [intOf]; omega
      · by_cases hlt1 : j < m
        · have hlt2 : ¬ j < 100 := fun h => hlt ⟨hlt1, h⟩
          clear hlt
          go_wp2_with fail
          go_ret
          exact ⟨rfl, HB.out⟩
        · clear hlt
          go_wp2_with fail
          go_ret
          exact ⟨rfl, HB.out⟩

end Go.Proofs.Ytcodljegicoeeaa
