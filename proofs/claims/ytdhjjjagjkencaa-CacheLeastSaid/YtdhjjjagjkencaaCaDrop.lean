/-
  The landed cache: Drop.
-/
import Derived.Test.YtdhjjjagjkencaaCaGet
import Derived.Test.YtdhjjjagjkencaaRefCaD
namespace Go.Proofs.Ytdhjjjagjkencaa
open Go Go.RowKit

theorem dropE1_len (k : Int) (l : List En) : (dropE1 k l).length + (if hasE k l then 1 else 0) = l.length := by
  unfold dropE1 hasE
  by_cases h : posE k l < l.length
  · rw [decide_eq_true h, if_pos rfl, outE_len h]
  · rw [decide_eq_false h, outE_all (by omega)]; simp
theorem dropE_len : ∀ (ks : List Int) (l : List En), (dropE ks l).length + dropN ks l = l.length
  | [], _ => rfl
  | k :: ks, l => by
    have h1 := dropE_len ks (dropE1 k l)
    have h2 := dropE1_len k l
    unfold dropE dropN
    omega

theorem gat_off {α : Type} {E : Enc α} {S : Nat → Prop} {w w' : World} {A : Option Addr} {l : List α} (h : GAt E w w.heap.size A l) (hi : In (fun k => ¬ S k) A l) (hw : Within S w w') : GAt E w' w'.heap.size A l :=
  GAt.kept (P := fun k => ¬ S k ∧ k < w.heap.size) h (fun b off e hl => ⟨hi b off e hl, GAt.in_ h b off e hl⟩) hw.size (fun k hk => hw.block k hk.2 hk.1)
set_option maxHeartbeats 4000000 in
set_option maxRecDepth 100000 in
theorem drop_any {S : Nat → Prop} {w : World} {cb room n c : Nat} {A : Option Addr} {l : List En} {ks : List Int} (h : CA S w cb room l) (hl : l.length ≤ 1000000) (hK : GAt eI64 w w.heap.size A ks) (hn : n = ks.length) (hm : n ≤ 1000000) (hoff : In (fun k => ¬ S k) A ks) :
    Calls Try.prog 14 #[(.pointer (some ⟨cb, 0, none⟩)), .slice A n c] w fun e w' => e = .returned (.int .i64 (dropN ks l : Int)) ∧ CA S w' cb room (dropE ks l) ∧ Within S w w' := by
  obtain ⟨mb, eb, ps, vl, pv, nx, m, hc, hll, hS⟩ := h.out
  have HL := hid (len_any hc)
  have hpl : ps.length = l.length := by rw [hll]; simp
  rw [hpl] at HL
  clear hc hll hS hpl
  have HH := hid h
  have HN := hid hn
  have HKO := hid (fun (W : World) (hW : Within S w W) => gat_off hK hoff hW)
  have HDL := hid (dropE_len ks l)
  obtain ⟨NN, hNN⟩ : ∃ N, dropN ks l = N := ⟨_, rfl⟩
  obtain ⟨DD, hDD⟩ : ∃ D, dropE ks l = D := ⟨_, rfl⟩
  rw [hNN, hDD] at HDL ⊢
  have HDD := hid hDD
  clear h hK hn hNN hDD hoff
  go_enter Try.func14, Try.ntmps14
  go_wp2_with fail
  go_fit HL.out
  rintro e w' ⟨rfl, hw⟩
  rw [hw]
  clear hw w'
  go_wp2_with fail
  go_loopw [14] (fun i wr => ∃ (j : Nat) (lc : List En), i = .int .i64 (j : Int) ∧ j ≤ n ∧ Kept (CA S wr cb room lc) ∧ Kept (dropE (ks.drop j) lc = DD) ∧ Kept (Within S w wr)) (fun i _ => n - (intOf i).toNat)
  case atStart => exact ⟨0, l, rfl, Nat.zero_le _, HH, hid (by rw [List.drop_zero]; exact HDD.out), hid (Within.refl _ _)⟩
  case round =>
    obtain ⟨j, lc, rfl, hj, HL, HE, HW⟩ := hrel
    by_cases hlt : j < n
    · obtain ⟨b, off, k, rfl, hb, hk, hc⟩ := (HKO.out wr HW.out).get (i := j) (by rw [← HN.out]; exact hlt)
      have c0 : wr.cell? ⟨b, off + j, none⟩ = some (.int .i64 k) := by simpa [eI64] using hc 0 _ rfl
      have HED := hid (show dropE (ks.drop (j + 1)) (dropE1 k lc) = DD by rw [← dropE_at hk]; exact HE.out)
      clear hb hk hc
      obtain ⟨mb, eb, ps, vl, pv, nx, m, hc, hll, hS⟩ := HL.out.out
      have HS := hid hS
      have HLOW := hid HL.out.low
      have HT := hid hc.tab
      have c1 := hc.blk.cell 1
      subst hll
      rcases hc.look k with ⟨h1, h2, _⟩ | ⟨l1, p, l2, rfl, h2, h3, h4, h5, h6⟩
      · have HV := hid (show (m k).getD (.pointer none) = .pointer none by rw [h1]; rfl)
        have HQ := hid (show (m k).isSome = false by rw [h1]; rfl)
        have hou : dropE1 k (ps.map vl) = ps.map vl := outE_all h2
        rw [hou] at HED
        clear hc hS h1 h2 hou
        go_wp2_with (at_lookup; refine wpList_lookOk _ rfl _ _ 58 rfl 3 55 Try.underlying58 Try.underlying3 (zero_pos _) rfl HT.out k rfl HV.out HQ.out ?_)
        go_roundw
        case rel => exact ⟨j + 1, _, by go_num, by omega, HL, HED, HW⟩
        case measure => simp [intOf]; omega
      · have HV := hid (show (m k).getD (.pointer none) = .pointer (some ⟨p, 0, none⟩) by rw [h6]; rfl)
        have HQ := hid (show (m k).isSome = true by rw [h6]; rfl)
        have hou : dropE1 k ((l1 ++ p :: l2).map vl) = (l1 ++ l2).map vl := h5
        rw [hou] at HED
        have HR := hid (remove_any hc)
        clear hc hS h2 h3 h4 h5 h6 hou
        go_wp2_with (at_lookup; refine wpList_lookOk _ rfl _ _ 58 rfl 3 55 Try.underlying58 Try.underlying3 (zero_pos _) rfl HT.out k rfl HV.out HQ.out ?_)
        go_fit HR.out
        rintro e w2 ⟨rfl, ⟨pv2, nx2, m2, hc2⟩, hw2⟩
        have HW2 := hid (HW.out.trans (hw2.mono (fun q hq => HS.out q hq)))
        have HL2 := hid (show CA S w2 cb room ((l1 ++ l2).map vl) from ⟨⟨mb, eb, l1 ++ l2, vl, pv2, nx2, m2, hc2, rfl, fun q hq => HS.out q (by
          unfold CaS at hq ⊢
          simp at hq ⊢
          rcases hq with h | h | h | h | h <;> simp [h])⟩, fun q hq => Nat.lt_of_lt_of_le (HLOW.out q hq) hw2.size⟩)
        clear hc2 hw2 HR
        go_wp2_with fail
        go_roundw
        case rel => exact ⟨j + 1, _, by go_num, by omega, HL2, HED, HW2⟩
        case measure => simp [intOf]; omega
    · obtain rfl : lc = DD := by have := HE.out; rwa [List.drop_of_length_le (by rw [← HN.out]; omega)] at this
      obtain ⟨mb, eb, ps, vl, pv, nx, m, hc, hll, hS⟩ := HL.out.out
      have HL2 := hid (len_any hc)
      have hpl : ps.length = lc.length := by rw [hll]; simp
      rw [hpl] at HL2
      clear hc hll hS hpl
      have hdl := HDL.out
      have hd : (l.length : Int) - (lc.length : Int) = (NN : Int) := by omega
      have hN2 : NN ≤ 1000000 := by omega
      go_wp2_with fail
      go_fit HL2.out
      rintro e w' ⟨rfl, hw⟩
      rw [hw]
      clear hw w'
      go_wp2_with fail
      go_ret
      exact ⟨by go_num, HL.out, HW.out⟩

end Go.Proofs.Ytdhjjjagjkencaa
