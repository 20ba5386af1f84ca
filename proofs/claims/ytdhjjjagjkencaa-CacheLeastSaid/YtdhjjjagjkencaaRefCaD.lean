/-
  The document's cache: Drop.
-/
import Derived.Test.YtdhjjjagjkencaaRefCa
import Derived.Deep.DeepFit
namespace Go.Proofs.Ytdhjjjagjkencaa
open Go Go.RowKit

/-- integers, one cell each -/
def eI64 : Enc Int := ⟨1, fun x => [.int .i64 x], fun _ => rfl, fun x u hu => by simp at hu; subst hu; rfl, by decide⟩
def slNum : Value → Nat
  | .int _ n => n.toNat
  | _ => 0
theorem dropE_at {ks : List Int} {j : Nat} {k : Int} (h : ks[j]? = some k) (l : List En) : dropE (ks.drop j) l = dropE (ks.drop (j + 1)) (dropE1 k l) := by
  obtain ⟨hj, e⟩ := List.getElem?_eq_some_iff.1 h
  rw [List.drop_eq_getElem_cons hj, e]; rfl
theorem dropN_at {ks : List Int} {j : Nat} {k : Int} (h : ks[j]? = some k) (l : List En) : dropN (ks.drop j) l = (if hasE k l then 1 else 0) + dropN (ks.drop (j + 1)) (dropE1 k l) := by
  obtain ⟨hj, e⟩ := List.getElem?_eq_some_iff.1 h
  rw [List.drop_eq_getElem_cons hj, e]; rfl
set_option maxHeartbeats 4000000 in
set_option maxRecDepth 100000 in
theorem refDropE_any {M : Nat → Prop} {A A2 : Option Addr} {n c B n2 c2 B2 : Nat} {l : List En} {ks : List Int} {w : World} (h : ES w B A n c l) (hn : n ≤ 1000000) (hK : GAt eI64 w B2 A2 ks) (hn2 : n2 = ks.length) (hm2 : n2 ≤ 1000000) (hB2 : B2 ≤ w.heap.size) (hM : In M A l) :
    Calls Try.prog 13 #[.slice A n c, .slice A2 n2 c2] w fun e w' => ∃ A' m' c', e = .returned (.tuple #[.slice A' m' c', .int .i64 (dropN ks l : Int)]) ∧ ES w' w'.heap.size A' m' c' (dropE ks l) ∧ In (fun k => M k ∨ w.heap.size ≤ k) A' (dropE ks l) ∧ Below w.heap.size w w' := by
  have HA := hid (show ES w w.heap.size A n c l from h.more h.low (Nat.le_refl _))
  have HK := hid hK
  have HN2 := hid hn2
  have HLN := hid h.len
  have hmost := h.most
  have HIM := hid (In.weak (P' := fun k => M k ∨ w.heap.size ≤ k) hM (fun _ q => .inl q))
  obtain ⟨NN, hNN⟩ : ∃ N, dropN ks l = N := ⟨_, rfl⟩
  obtain ⟨DD, hDD⟩ : ∃ D, dropE ks l = D := ⟨_, rfl⟩
  rw [hNN, hDD]
  have HNN := hid hNN
  have HDD := hid hDD
  clear h hK hn2 hNN hDD hM
  go_enter Try.func13, Try.ntmps13
  go_wp2_with fail
  go_loopw [0, 6, 7, 8] (fun s t i _ wr => ∃ (j q m m' : Nat) (A' : Option Addr) (lc : List En), s = .slice A' m m' ∧ t = .int .i64 (q : Int) ∧ i = .int .i64 (j : Int) ∧ j ≤ n2 ∧ q ≤ j ∧ Kept (ES wr wr.heap.size A' m m' lc ∧ In (fun k => M k ∨ w.heap.size ≤ k) A' lc) ∧ m ≤ 1000000 ∧ Kept (dropE (ks.drop j) lc = DD ∧ q + dropN (ks.drop j) lc = NN) ∧ Kept (Below w.heap.size w wr)) (fun _ _ i _ _ => n2 - (intOf i).toNat)
  case atStart => exact ⟨0, 0, n, c, A, l, rfl, rfl, rfl, Nat.zero_le _, Nat.le_refl _, hid ⟨HA.out, HIM.out⟩, hn, hid ⟨HDD.out, by rw [List.drop_zero, Nat.zero_add]; exact HNN.out⟩, hid (Below.refl _ _)⟩
  case round =>
    obtain ⟨j, q, m, m', A', lc, rfl, rfl, rfl, hj, hq, HLI, hm, HE, HB⟩ := hrel
    have HL := hid HLI.out.1
    clear HA
    by_cases hlt : j < n2
    · obtain ⟨b, off, k, rfl, hb, hk, hc⟩ := (GAt.below HK.out (HB.out.mono hB2)).get (i := j) (by rw [← HN2.out]; exact hlt)
      have c0 : wr.cell? ⟨b, off + j, none⟩ = some (.int .i64 k) := by simpa [eI64] using hc 0 _ rfl
      have HF := hid (refFindE_any (k := k) HL.out)
      have HED := hid (show dropE (ks.drop (j + 1)) (dropE1 k lc) = DD by rw [← dropE_at hk]; exact HE.out.1)
      have HEN := hid (show q + ((if hasE k lc then 1 else 0) + dropN (ks.drop (j + 1)) (dropE1 k lc)) = NN by rw [← dropN_at hk]; exact HE.out.2)
      clear hb hk hc
      by_cases hp : posE k lc < lc.length
      · have hfi : findI k lc = (posE k lc : Int) := if_pos hp
        have hhe : hasE k lc = true := decide_eq_true hp
        rw [hfi] at HF
        rw [hhe, if_pos rfl] at HEN
        unfold dropE1 at HED HEN
        have HWO := hid (fun (W : World) (hW : Beyond wr W) => refWithout_any (j := (posE k lc : Int)) (J := posE k lc) (HL.out.step hW) (fun q _ => by omega))
        have hol := outE_le lc (posE k lc)
        have hlen := HL.out.len
        have HOL := hid (show (outE (posE k lc) lc).length ≤ 1000000 by omega)
        generalize posE k lc = J at *
        clear hp hfi hhe hol hlen
        have hge : ¬ (J : Int) < 0 := by omega
        have hge2 : (0 : Int) ≤ (J : Int) := by omega
        go_wp2_with fail
        go_fit HF.out
        rintro e w' ⟨rfl, hw⟩
        rw [hw]
        clear hw w'
        go_wp2_with fail
        go_fit (HWO.out wr (Below.refl _ _))
        rintro e w5 ⟨A5, m5, c5, rfl, hr5, hb5⟩
        have HL5 := hid (ES.row hr5 (Nat.le_trans HOL.out (by decide)))
        have hm5 : m5 ≤ 1000000 := by have := hr5.1; have := HOL.out; omega
        have HI5 := hid (In.weak (P' := fun k => M k ∨ w.heap.size ≤ k) (GRow.in_ hr5) (fun q hq => .inr (Nat.le_trans HB.out.size hq)))
        have HB5 := hid (below_step HB.out hb5)
        clear hr5 hb5
        go_wp2_with fail
        go_roundw
        case rel => exact ⟨j + 1, q + 1, m5, c5, A5, _, rfl, by go_num, by go_num, by omega, by omega, hid ⟨HL5.out, HI5.out⟩, hm5, hid ⟨HED.out, by have := HEN.out; omega⟩, HB5⟩
        case measure => simp [intOf]; omega
      · have hfi : findI k lc = -1 := if_neg hp
        have hhe : hasE k lc = false := decide_eq_false hp
        rw [hfi] at HF
        rw [hhe] at HEN
        have hou : dropE1 k lc = lc := outE_all (by omega)
        rw [hou] at HED HEN
        clear hp hfi hhe hou
        go_wp2_with fail
        go_fit HF.out
        rintro e w' ⟨rfl, hw⟩
        rw [hw]
        clear hw w'
        go_wp2_with fail
        go_roundw
        case rel => exact ⟨j + 1, q, m, m', A', lc, rfl, rfl, by go_num, by omega, by omega, HLI, hm, hid ⟨HED.out, by have := HEN.out; simpa using this⟩, HB⟩
        case measure => simp [intOf]; omega
    · obtain rfl : j = n2 := by omega
      have e1 : lc = DD := by have := HE.out.1; rwa [List.drop_of_length_le (by rw [← HN2.out]; exact Nat.le_refl _)] at this
      have e2 : q = NN := by have := HE.out.2; rwa [List.drop_of_length_le (by rw [← HN2.out]; exact Nat.le_refl _)] at this
      subst e1 e2
      go_wp2_with fail
      go_ret2
      exact ⟨_, _, _, rfl, HL.out, HLI.out.2, HB.out⟩

end Go.Proofs.Ytdhjjjagjkencaa
