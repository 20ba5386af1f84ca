/-
  DiskTorn: its walk, over what is to be shown of the landed code.
-/
import Derived.Test.YtlemoaigcakmcaaDFace
import Derived.Test.YtlemoaigcakmcaaBytesNew
import Derived.Test.YtlemoaigcakmcaaStrCut
namespace Go.Proofs.Ytlemoaigcakmcaa
open Go Go.RowKit

theorem SvAt.one (w : World) (i n : Int) : SvAt (w.alloc (.cells #[.int .i64 i, .int .i64 n] 44)) (w.heap.size + 1) (some ⟨w.heap.size, 0, none⟩) [(i, n)] := fun _ => by
  refine ⟨w.heap.size, 0, rfl, by omega, fun j s hj => ?_⟩
  obtain rfl : j = 0 := by have := (List.getElem?_eq_some_iff.1 hj).1; simp at this; omega
  obtain rfl : (i, n) = s := by simpa using hj
  have hb := heap_alloc_new w (.cells #[.int .i64 i, .int .i64 n] 44)
  exact ⟨by rw [cell_of_row _ _ _ _ _ _ hb]; rfl, by rw [cell_of_row _ _ _ _ _ _ hb]; rfl⟩

/-- what awake's walk shows -/
def AwakeIs : Prop := ∀ w : World, Calls Try.prog 7 #[] w fun e w' => e = .returned (.bool true) ∧ Below w.heap.size w w'

set_option maxHeartbeats 4000000 in
set_option maxRecDepth 100000 in
theorem dtorn_walk {DA : DiskAt} (hF : Face DA) (hAw : AwakeIs) (old now : List UInt8) (n : Int) (w : World) (ho : old.length ≤ 9223372036854775807) (hn : now.length ≤ 9223372036854775807) :
    Calls Try.prog 5 #[.string (bst old), .string (bst now), .int .i64 n] w fun e w' => e = .returned (.bool true) ∧ Below w.heap.size w w' := by
  have z1 := bst_size old
  have z2 := bst_size now
  have HF := hid hF
  have HAW := hid hAw
  have HNew := hid (hF.newYes (n := 4) (w := w) (by decide) (by decide))
  clear hF hAw
  go_enter Try.func5, Try.ntmps5
  go_wp2_with fail
  go_fit HNew.out
  rintro e w1 ⟨d, M, R, rfl, hd, hnew, hb1⟩
  have HD1 := hid hd
  have HNEW := hid hnew
  have HB1 := hid hb1
  clear hd hnew hb1
  go_wp2_with fail
  go_fit (HAW.out w1)
  rintro e w2 ⟨rfl, hb2⟩
  have HD2 := hid (HF.out.step HD1.out hb2)
  have HB2 := hid (below_step HB1.out hb2)
  clear hb2
  by_cases h1 : 512 < old.length
  · go_wp2_with fail
    go_fit (HAW.out w2)
    rintro e w3 ⟨rfl, hb3⟩
    have HB3 := hid (below_step HB2.out hb3)
    clear hb3
    go_wp2_with fail
    go_ret
    exact ⟨rfl, HB3.out⟩
  by_cases h2 : 512 < now.length
  · go_wp2_with fail
    go_fit (HAW.out w2)
    rintro e w3 ⟨rfl, hb3⟩
    have HB3 := hid (below_step HB2.out hb3)
    clear hb3
    go_wp2_with fail
    go_ret
    exact ⟨rfl, HB3.out⟩
  have HLold := hid (show old.length ≤ 512 by omega)
  have HLnow := hid (show now.length ≤ 512 by omega)
  go_wp2_with (with_reducible refine wpList_bytes_new _ rfl (.tmp 38) 9 36 5 rfl Try.underlying9 Try.underlying36 Try.underlying5 old rfl ?_; intro g c w' hg hc hA hf hb)
  subst hg
  have hoff : Off M (some ⟨w2.heap.size, 0, none⟩) := by
    intro b off e hm
    injection e with e
    injection e with e _ _
    have := HF.out.lt HD2.out b (.inl hm)
    omega
  go_fit (HF.out.write (i := 2) (HF.out.step HD2.out hb) hA rfl (Nat.le_refl _) hoff (by have := HLold.out; omega) (by decide))
  rintro e w4 ⟨rfl, M3, R3, hd, ht⟩
  rw [torn_why1 old HLold.out]
  have HB3 := hid (HB2.out.trans ((hb.mono HB2.out.size).trans (ht.below (Nat.le_trans HB2.out.size hb.size) (fun j hj => HNEW.out j (.inl hj)))))
  have HN3 := hid (show ∀ j, M3 j ∨ R3 j → w.heap.size ≤ j from fun j hj => hj.elim (fun h => (ht.own j h).elim (fun h => HNEW.out j (.inl h)) (fun h => Nat.le_trans (Nat.le_trans HB2.out.size hb.size) h)) (fun h => (ht.held j h).elim (fun h => HNEW.out j (.inr h)) (fun h => Nat.le_trans (Nat.le_trans HB2.out.size hb.size) h)))
  have HD3 := hid hd
  clear hd ht hb hA hf hc hoff
  go_wp2_with fail
  go_fit (HF.out.sync HD3.out)
  rintro e w5 ⟨rfl, M4, R4, hd, ht⟩
  have HB4 := hid (HB3.out.trans (ht.below HB3.out.size (fun j hj => HN3.out j (.inl hj))))
  have HN4 := hid (show ∀ j, M4 j ∨ R4 j → w.heap.size ≤ j from fun j hj => hj.elim (fun h => (ht.own j h).elim (fun h => HN3.out j (.inl h)) (fun h => Nat.le_trans HB3.out.size h)) (fun h => (ht.held j h).elim (fun h => HN3.out j (.inr h)) (fun h => Nat.le_trans HB3.out.size h)))
  have HD4 := hid hd
  clear hd ht
  go_wp2_with (with_reducible refine wpList_bytes_new _ rfl (.tmp 45) 9 36 5 rfl Try.underlying9 Try.underlying36 Try.underlying5 now rfl ?_; intro g c w' hg hc hA hf hb)
  subst hg
  have hoff : Off M4 (some ⟨w5.heap.size, 0, none⟩) := by
    intro b off e hm
    injection e with e
    injection e with e _ _
    have := HF.out.lt HD4.out b (.inl hm)
    omega
  go_fit (HF.out.write (i := 2) (HF.out.step HD4.out hb) hA rfl (Nat.le_refl _) hoff (by have := HLnow.out; omega) (show ([] : List POp).length ≤ 1000000 by decide))
  rintro e w6 ⟨rfl, M5, R5, hd, ht⟩
  rw [torn_why2 old now HLold.out HLnow.out]
  have HB5 := hid (HB4.out.trans ((hb.mono HB4.out.size).trans (ht.below (Nat.le_trans HB4.out.size hb.size) (fun j hj => HN4.out j (.inl hj)))))
  have HN5 := hid (show ∀ j, M5 j ∨ R5 j → w.heap.size ≤ j from fun j hj => hj.elim (fun h => (ht.own j h).elim (fun h => HN4.out j (.inl h)) (fun h => Nat.le_trans (Nat.le_trans HB4.out.size hb.size) h)) (fun h => (ht.held j h).elim (fun h => HN4.out j (.inr h)) (fun h => Nat.le_trans (Nat.le_trans HB4.out.size hb.size) h)))
  have HD5 := hid hd
  clear hd ht hb hA hf hc hoff
  go_wp2_with fail
  have hb7 : Below w6.heap.size w6 (w6.alloc (.cells #[.int .i64 0, .int .i64 n] 44)) := (Below.refl _ _).alloc (Nat.le_refl _) _
  have hoff : Off M5 (some ⟨w6.heap.size, 0, none⟩) := by
    intro b off e hm
    injection e with e
    injection e with e _ _
    have := HF.out.lt HD5.out b (.inl hm)
    omega
  go_fit (HF.out.crash (l := [(0, n)]) (HF.out.step HD5.out hb7) (SvAt.one w6 0 n) rfl (by simp) hoff (by decide))
  rintro e w8 ⟨rfl, M8, R8, hd, ht⟩
  have HB8 := hid (HB5.out.trans ((hb7.mono HB5.out.size).trans (ht.below (Nat.le_trans HB5.out.size hb7.size) (fun j hj => HN5.out j (.inl hj)))))
  have HD8 := hid (show DA w8 d M8 R8 (tornDk old now n) from hd)
  have HRD := hid (HF.out.read (i := 2) HD8.out)
  rw [torn_view old now n HLold.out HLnow.out] at HRD
  obtain ⟨T, hT⟩ : ∃ T, T = torn now (some old) n := ⟨_, rfl⟩
  rw [← hT] at HRD
  have HT := hid hT
  clear hd ht hb7 hoff hT
  have t0 := bst_toList old
  have t1 := bst_toList now
  have tt := bst_toList T
  go_wp2_with fail
  go_fit HRD.out
  rintro e w9 ⟨⟨A9, n9, c9, rfl, hA9, hn9, hc9⟩, hb9⟩
  have hcv := str_of (c := c9) hA9 hn9
  have HB9 := hid (below_step HB8.out hb9)
  clear hA9 hn9 hc9 hb9
  have HNO := hid (show now = T → True from fun _ => trivial)
  by_cases hge : (now.length : Int) ≤ n
  · obtain rfl : T = now := by rw [HT.out]; unfold torn; rw [if_pos hge]
    go_wp2_with fail
    go_ret
    exact ⟨rfl, HB9.out⟩
  have HTE := hid (show T = now.take n.toNat ++ old.drop n.toNat by rw [HT.out]; unfold torn; rw [if_neg hge]; rfl)
  have hltz : n < (now.length : Int) := by omega
  by_cases hneg : n < 0
  · have h00 : n.toNat = 0 := by omega
    have hx1 := bstTake now 0
    have hx2 := bstDrop old 0
    rw [List.take_zero] at hx1
    rw [List.drop_zero] at hx2
    by_cases hlt : 0 < old.length
    · obtain rfl : T = old := by rw [HTE.out, h00]; rfl
      have happ := bst_append [] T
      rw [List.nil_append] at happ
      have hltz2 : (0 : Int) < (T.length : Int) := by omega
      go_wp2_with fail
      go_ret
      exact ⟨rfl, HB9.out⟩
    · have h0 : old = [] := List.eq_nil_of_length_eq_zero (by omega)
      obtain rfl : T = [] := by rw [HTE.out, h00, h0]; rfl
      have hltz2 : ¬ (0 : Int) < (old.length : Int) := by omega
      go_wp2_with fail
      go_ret
      exact ⟨rfl, HB9.out⟩
  · obtain ⟨k, rfl⟩ : ∃ k : Nat, n = (k : Int) := ⟨n.toNat, by omega⟩
    have hx1 := bstTake now k
    have hx2 := bstDrop old k
    rw [Int.toNat_natCast] at HTE
    have hk : k < now.length := by omega
    obtain ⟨U, hU⟩ : ∃ U, U = now.take k := ⟨_, rfl⟩
    obtain ⟨V, hV⟩ : ∃ V, V = old.drop k := ⟨_, rfl⟩
    rw [← hU] at hx1 HTE
    rw [← hV] at hx2 HTE
    have HV := hid hV
    have hul : U.length ≤ 512 := by rw [hU, List.length_take]; omega
    have hvl : V.length ≤ 512 := by rw [hV, List.length_drop]; omega
    have su := bst_size U
    have sv := bst_size V
    clear hU hV
    by_cases hlt : k < old.length
    · have hltz2 : (k : Int) < (old.length : Int) := by omega
      have happ := bst_append U V
      rw [← HTE.out] at happ
      go_wp2_with fail
      go_ret
      exact ⟨rfl, HB9.out⟩
    · have hltz2 : ¬ (k : Int) < (old.length : Int) := by omega
      obtain rfl : T = U := by rw [HTE.out, HV.out, List.drop_of_length_le (by omega), List.append_nil]
      go_wp2_with fail
      go_ret
      exact ⟨rfl, HB9.out⟩

end Go.Proofs.Ytlemoaigcakmcaa
