/-
  PageOf: its walk.
-/
import Derived.Test.YtikggbopoajcbaaDoorPgAwake
import Derived.Test.YtikggbopoajcbaaDoorRefPgOf
import Derived.Test.YtikggbopoajcbaaDoorRefPgB
import Derived.Deep.DeepFit
import Derived.Deep.Cut
namespace Go.Proofs.YtikggbopoajcbaaDoor
open Go Go.RowKit

theorem sameP_self (leaf : Bool) (next : Int) (l : List Cl) : sameP leaf next l leaf next l = true := by simp [sameP]

set_option maxHeartbeats 8000000 in
set_option maxRecDepth 100000 in
theorem pof_walk (b : List UInt8) (w : World) (hT : Table w) :
    Calls Tryd.prog 4 #[.string (bst b)] w fun e w' => e = .returned (.bool true) ∧ Below w.heap.size w w' := by
  have HAW := hid (fun (W : World) (hW : Below w.heap.size w W) => awake_yes W (hT.step hW))
  clear hT
  have hz := bst_size b
  by_cases hl : 3000 < b.length
  · have hl' : (3000 : Int) < (b.length : Int) := by omega
    go_enter Tryd.func4, Tryd.ntmps4
    go_wp2_with fail
    go_fit (HAW.out w (Below.refl _ _))
    rintro e w1 ⟨rfl, hb1⟩
    go_wp2_with fail
    go_ret
    exact ⟨rfl, hb1⟩
  · have hl' : ¬ (3000 : Int) < (b.length : Int) := by omega
    have hl2 : b.length ≤ 3000 := by omega
    go_enter Tryd.func4, Tryd.ntmps4
    go_upto_region 3 with fail
    go_wp2_with (with_reducible refine wpList_bytes_of _ rfl (.tmp 12) 9 27 5 rfl Tryd.underlying9 Tryd.underlying27 Tryd.underlying5 b rfl ?_; intro A1 c1 w1 hc1 hA1 hb1)
    have HB1 := hid hb1
    have HO := hid (ofpage_any (c := c1) hA1 rfl hc1 (Nat.le_refl _) (by omega))
    have HRF := hid (fun (W : World) => refofB_any (b := b) (w := W) (by omega))
    generalize pofB b sum4 = O at HO HRF
    clear hA1 hb1
    go_fit HO.out
    rintro e w2 ⟨hgot, hb2⟩
    have HB2 := hid (below_step HB1.out hb2)
    clear hb2 HO HB1
    cases O with
    | none =>
      obtain rfl : e = .returned (.tuple #[pageV false 0 none 0 0, .int .i64 101]) := hgot
      unfold pageV
      have ha2 := (Below.refl w2.heap.size w2).alloc (Nat.le_refl _) (.cells #[.bool false, .int .i64 0, .slice none 0 0] 24)
      have HB3 := hid (below_step HB2.out ha2)
      have HP3 := hid (show PBlk (w2.alloc (.cells #[.bool false, .int .i64 0, .slice none 0 0] 24)) w2.heap.size false 0 none 0 0 from Blk.new w2 _ _)
      have HC3 := hid (show CS (w2.alloc (.cells #[.bool false, .int .i64 0, .slice none 0 0] 24)) w2.heap.size none 0 0 [] from CS.more (CS.nil (c := 0)) (Nat.zero_le _) (by simp))
      clear ha2
      go_upto_region 4 with fail
      generalize w2.alloc (.cells #[.bool false, .int .i64 0, .slice none 0 0] 24) = w3 at *
      obtain ⟨g, hg⟩ : ∃ g, w2.heap.size = g := ⟨_, rfl⟩
      rw [hg] at HP3 HC3 ⊢
      clear hg
      go_wp2_with fail
      go_fit (HRF.out w3)
      rintro e w4 ⟨hgot4, hb4⟩
      obtain rfl : e = .returned (.tuple #[pageV false 0 none 0 0, .int .i64 101]) := hgot4
      unfold pageV
      have ha4 := (Below.refl w4.heap.size w4).alloc (Nat.le_refl _) (.cells #[.bool false, .int .i64 0, .slice none 0 0] 24)
      have HB5 := hid (below_step (below_step HB3.out hb4) ha4)
      have HP5 := hid (show PBlk (w4.alloc (.cells #[.bool false, .int .i64 0, .slice none 0 0] 24)) w4.heap.size false 0 none 0 0 from Blk.new w4 _ _)
      have HC5 := hid (show CS (w4.alloc (.cells #[.bool false, .int .i64 0, .slice none 0 0] 24)) w4.heap.size none 0 0 [] from CS.more (CS.nil (c := 0)) (Nat.zero_le _) (by simp))
      have HP3' := hid (show PBlk (w4.alloc (.cells #[.bool false, .int .i64 0, .slice none 0 0] 24)) g false 0 none 0 0 from (HP3.out.below hb4 HP3.out.lt).below ha4 (Nat.lt_of_lt_of_le HP3.out.lt hb4.size))
      have HC3' := hid (show CS (w4.alloc (.cells #[.bool false, .int .i64 0, .slice none 0 0] 24)) g none 0 0 [] from (HC3.out.step hb4).step ha4)
      clear ha4 hb4 HP3 HC3
      go_upto_region 5 with fail
      generalize w4.alloc (.cells #[.bool false, .int .i64 0, .slice none 0 0] 24) = w5 at *
      obtain ⟨g5, hg5⟩ : ∃ g, w4.heap.size = g := ⟨_, rfl⟩
      rw [hg5] at HP5 HC5 ⊢
      clear hg5
      go_wp2_with fail
      go_fit (HAW.out _ HB5.out)
      rintro e w6 ⟨rfl, hb6⟩
      have HB6 := hid (below_step HB5.out hb6)
      have HP3 := hid (HP3'.out.below hb6 HP3'.out.lt)
      have HP5' := hid (HP5.out.below hb6 HP5.out.lt)
      have HSM := hid (refSame_any (leaf := false) (leaf2 := false) (next := 0) (next2 := 0) (HC3'.out.step hb6) (HC5.out.step hb6))
      rw [sameP_self] at HSM
      unfold pageV at HSM
      clear hb6 HP5 HP3' HC3' HC5
      have x0 := HP3.out.cell 0
      have x1 := HP3.out.cell 1
      have x2 := HP3.out.cell 2
      have y0 := HP5'.out.cell 0
      have y1 := HP5'.out.cell 1
      have y2 := HP5'.out.cell 2
      go_wp2_with fail
      go_fit HSM.out
      rintro e w7 ⟨rfl, hb7⟩
      have HB7 := hid (below_step HB6.out hb7)
      clear hb7 HSM x0 x1 x2 y0 y1 y2
      go_wp2_with fail
      go_ret
      exact ⟨rfl, HB7.out⟩
    | some p =>
      obtain ⟨leaf, next, l⟩ := p
      obtain ⟨A2, rfl, hs2⟩ : ∃ A', e = .returned (.tuple #[pageV leaf (next : Int) A' l.length l.length, .int .i64 0]) ∧ CS w2 w2.heap.size A' l.length l.length l := hgot
      have HGT := hid (fun (e : Ending) (w' : World) (h : GotR (some (leaf, next, l)) e w') => show ∃ A' m' c', e = .returned (.tuple #[pageV leaf (next : Int) A' m' c', .int .i64 0]) ∧ CS w' w'.heap.size A' m' c' l from h)
      obtain ⟨n, hn⟩ : ∃ n, n = l.length := ⟨_, rfl⟩
      rw [← hn] at hs2 ⊢
      obtain ⟨N, hN⟩ : ∃ N : Int, N = (next : Int) := ⟨_, rfl⟩
      rw [← hN] at HGT ⊢
      clear hn hN
      unfold pageV
      have ha2 := (Below.refl w2.heap.size w2).alloc (Nat.le_refl _) (.cells #[.bool leaf, .int .i64 N, .slice A2 n n] 24)
      have HB3 := hid (below_step HB2.out ha2)
      have HP3 := hid (show PBlk (w2.alloc (.cells #[.bool leaf, .int .i64 N, .slice A2 n n] 24)) w2.heap.size leaf N A2 n n from Blk.new w2 _ _)
      have HC3 := hid (show CS (w2.alloc (.cells #[.bool leaf, .int .i64 N, .slice A2 n n] 24)) w2.heap.size A2 n n l from hs2.step ha2)
      clear ha2
      go_upto_region 4 with fail
      generalize w2.alloc (.cells #[.bool leaf, .int .i64 N, .slice A2 n n] 24) = w3 at *
      obtain ⟨g, hg⟩ : ∃ g, w2.heap.size = g := ⟨_, rfl⟩
      rw [hg] at HP3 HC3 ⊢
      clear hg
      go_wp2_with fail
      go_fit (HRF.out w3)
      rintro e w4 ⟨hgot4, hb4⟩
      obtain ⟨A3, m3, c3, rfl, hs4⟩ := HGT.out _ _ hgot4
      clear HGT hs2
      unfold pageV
      have ha4 := (Below.refl w4.heap.size w4).alloc (Nat.le_refl _) (.cells #[.bool leaf, .int .i64 N, .slice A3 m3 c3] 24)
      have HB5 := hid (below_step (below_step HB3.out hb4) ha4)
      have HP5 := hid (show PBlk (w4.alloc (.cells #[.bool leaf, .int .i64 N, .slice A3 m3 c3] 24)) w4.heap.size leaf N A3 m3 c3 from Blk.new w4 _ _)
      have HC5 := hid (show CS (w4.alloc (.cells #[.bool leaf, .int .i64 N, .slice A3 m3 c3] 24)) w4.heap.size A3 m3 c3 l from hs4.step ha4)
      have HP3' := hid (show PBlk (w4.alloc (.cells #[.bool leaf, .int .i64 N, .slice A3 m3 c3] 24)) g leaf N A2 n n from (HP3.out.below hb4 HP3.out.lt).below ha4 (Nat.lt_of_lt_of_le HP3.out.lt hb4.size))
      have HC3' := hid (show CS (w4.alloc (.cells #[.bool leaf, .int .i64 N, .slice A3 m3 c3] 24)) g A2 n n l from (HC3.out.step hb4).step ha4)
      clear ha4 hb4 HP3 HC3
      go_upto_region 5 with fail
      generalize w4.alloc (.cells #[.bool leaf, .int .i64 N, .slice A3 m3 c3] 24) = w5 at *
      obtain ⟨g5, hg5⟩ : ∃ g, w4.heap.size = g := ⟨_, rfl⟩
      rw [hg5] at HP5 HC5 ⊢
      clear hg5
      go_wp2_with fail
      go_fit (HAW.out _ HB5.out)
      rintro e w6 ⟨rfl, hb6⟩
      have HB6 := hid (below_step HB5.out hb6)
      have HP3 := hid (HP3'.out.below hb6 HP3'.out.lt)
      have HP5' := hid (HP5.out.below hb6 HP5.out.lt)
      have HSM := hid (refSame_any (leaf := leaf) (leaf2 := leaf) (next := N) (next2 := N) (HC3'.out.step hb6) (HC5.out.step hb6))
      rw [sameP_self] at HSM
      unfold pageV at HSM
      clear hb6 HP5 HP3' HC3' HC5
      have x0 := HP3.out.cell 0
      have x1 := HP3.out.cell 1
      have x2 := HP3.out.cell 2
      have y0 := HP5'.out.cell 0
      have y1 := HP5'.out.cell 1
      have y2 := HP5'.out.cell 2
      go_wp2_with fail
      go_fit HSM.out
      rintro e w7 ⟨rfl, hb7⟩
      have HB7 := hid (below_step HB6.out hb7)
      clear hb7 HSM x0 x1 x2 y0 y1 y2
      go_wp2_with fail
      go_ret
      exact ⟨rfl, HB7.out⟩

end Go.Proofs.YtikggbopoajcbaaDoor
