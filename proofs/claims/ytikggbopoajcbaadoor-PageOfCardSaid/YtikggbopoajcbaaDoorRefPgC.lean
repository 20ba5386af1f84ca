/-
  The document's Check.
-/
import Derived.Test.YtikggbopoajcbaaDoorRefPg
namespace Go.Proofs.YtikggbopoajcbaaDoor
open Go Go.RowKit

set_option maxHeartbeats 4000000 in
set_option maxRecDepth 100000 in
theorem refPCheck_any {leaf : Bool} {next : Int} {A : Option Addr} {n c B : Nat} {l : List Cl} {w : World} (h : CS w B A n c l) (hs : csum l ≤ 4398046511104) (he : ∀ x ∈ l, x.k.length ≤ 65536 ∧ x.v.length ≤ 65536) (hn : next ≤ 9223372036854775807) :
    Calls Tryd.prog 13 #[pageV leaf next A n c] w fun e w' => e = .returned (.int .i64 (pchk next l : Int)) ∧ Below w.heap.size w w' := by
  have hb1 : Below w.heap.size w (w.alloc (.cells #[.bool leaf, .int .i64 next, .slice A n c] 24)) := (Below.refl _ _).alloc (Nat.le_refl _) _
  have HB := hid hb1
  have HX := hid (Blk.new w 24 #[.bool leaf, .int .i64 next, .slice A n c])
  have HC := hid (h.step hb1)
  have HN := hid hn
  have HS := hid hs
  have HEA := hid he
  have HML := hid h.most
  have HLN := hid h.len
  obtain ⟨D, hD⟩ : ∃ D, D = pchk next l := ⟨_, rfl⟩
  rw [← hD]
  unfold pchk at hD
  unfold pageV
  clear h hs hn hb1 he
  by_cases h1 : next < 0
  · obtain rfl : D = 101 := by rw [hD, if_pos (.inl h1)]
    clear hD
    go_enter Tryd.func13, Tryd.ntmps13
    go_wp2_with fail
    go_ret
    exact ⟨rfl, HB.out⟩
  by_cases h2 : 256 < next
  · obtain rfl : D = 101 := by rw [hD, if_pos (.inr h2)]
    clear hD
    go_enter Tryd.func13, Tryd.ntmps13
    go_wp2_with fail
    go_ret
    exact ⟨rfl, HB.out⟩
  have HD := hid (show D = if chkC none l ≠ 0 then chkC none l else if 2048 < psize next.toNat l then 100 else 0 by rw [hD, if_neg (by omega)])
  clear hD
  go_enter Tryd.func13, Tryd.ntmps13
  go_wp2_with fail
  generalize w.alloc (.cells #[.bool leaf, .int .i64 next, .slice A n c] 24) = w1 at *
  obtain ⟨g, hg⟩ : ∃ g, w.heap.size = g := ⟨_, rfl⟩
  rw [hg] at HX ⊢
  clear hg
  go_loopw [3] (fun i wr => ∃ k : Nat, k ≤ n ∧ i = .int .i64 (k : Int) ∧ Kept (chkC none l = chkC (prevC l k) (l.drop k)) ∧ Kept (Below w1.heap.size w1 wr)) (fun i _ => n - (intOf i).toNat)
  case atStart => exact ⟨0, Nat.zero_le _, rfl, hid rfl, hid (Below.refl _ _)⟩
  case round =>
    obtain ⟨k, hk, rfl, HE, HW⟩ := hrel
    have HX2 := hid (HX.out.below HW.out HX.out.lt)
    have HC2 := hid (HC.out.step HW.out)
    have HF := hid (below_step HB.out HW.out)
    have x2 := HX2.out.cell 2
    have hnm := HML.out
    by_cases hlt : k < n
    · obtain ⟨b, off, x, rfl, hb, hx, c0, c1⟩ := HC2.out.at_.get (i := k) (by rw [← HLN.out]; exact hlt)
      have hxm := HEA.out x (List.mem_of_getElem? hx)
      have hk1 := hxm.1
      have hk2 := hxm.2
      have s1 := bst_size x.k
      have s2 := bst_size x.v
      have HE2 := hid (HE.out.trans (chkC_drop hx))
      have HPS := hid (prevC_succ hx)
      by_cases hlong : 480 < x.k.length + x.v.length
      · obtain rfl : D = 100 := by rw [HD.out, HE2.out, if_pos hlong]; rfl
        have hlong' : (480 : Int) < (x.k.length : Int) + (x.v.length : Int) := by omega
        clear hx hb hxm hlong
        go_wp2_with fail
        go_quiet (fail)
        go_wp2_with fail
        go_ret
        exact ⟨rfl, below_drewN HF.out _⟩
      have hlong' : ¬ (480 : Int) < (x.k.length : Int) + (x.v.length : Int) := by omega
      by_cases hk0 : 0 < k
      · obtain ⟨b', off', y, he, _, hy, d0, d1⟩ := HC2.out.at_.get (i := k - 1) (by rw [← HLN.out]; omega)
        injection he with he
        injection he with e1 e2 _
        subst e1 e2
        have hpk : prevC l k = some y.k := by
          have := prevC_succ hy
          rwa [show k - 1 + 1 = k by omega] at this
        have HE3 := hid (show chkC none l = if Op.bytesLess y.k x.k = true then chkC (some x.k) (l.drop (k + 1)) else 101 by rw [HE2.out, if_neg hlong, hpk]; rfl)
        have t1 := bst_toList x.k
        have t2 := bst_toList y.k
        have hidx : (k : Int) - 1 = ((k - 1 : Nat) : Int) := by omega
        obtain ⟨XB, hX⟩ : ∃ K, K = bst x.k := ⟨_, rfl⟩
        obtain ⟨YB, hY⟩ : ∃ K, K = bst y.k := ⟨_, rfl⟩
        rw [← hX] at c0 t1 s1
        rw [← hY] at d0 t2
        clear hX hY hx hy hpk hb d1 hxm hlong HE2
        cases hr : Op.bytesLess y.k x.k with
        | false =>
          obtain rfl : D = 101 := by rw [HD.out, HE3.out, hr]; simp
          go_wp2_with fail
          go_quiet (fail)
          go_wp2_with fail
          go_quiet (fail)
          go_wp2_with fail
          go_ret
          exact ⟨rfl, below_drewN (below_drewN HF.out _) _⟩
        | true =>
          have HE4 := hid (show chkC none l = chkC (some x.k) (l.drop (k + 1)) by rw [HE3.out, hr]; simp)
          go_wp2_with fail
          go_quiet (fail)
          go_wp2_with fail
          go_quiet (fail)
          go_wp2_with fail
          go_roundw
          case rel => exact ⟨k + 1, by omega, by go_num, hid (by rw [HE4.out, HPS.out]), hid (below_drewN HW.out _)⟩
          case measure => simp [intOf]; omega
      · have hk00 : ¬ (0 : Int) < (k : Int) := by omega
        have HE4 := hid (show chkC none l = chkC (some x.k) (l.drop (k + 1)) by rw [HE2.out, if_neg hlong, show k = 0 by omega]; rfl)
        clear hx hb hxm hlong HE2
        go_wp2_with fail
        go_quiet (fail)
        go_wp2_with fail
        go_quiet (fail)
        go_wp2_with fail
        go_roundw
        case rel => exact ⟨k + 1, by omega, by go_num, hid (by rw [HE4.out, HPS.out]), hid (below_drewN HW.out _)⟩
        case measure => simp [intOf]; omega
    · have HE2 := hid (show chkC none l = 0 by rw [HE.out, List.drop_eq_nil_of_le (by rw [← HLN.out]; omega)]; cases prevC l k <;> rfl)
      have HFD := hid (refFields_any (leaf := leaf) (next := next) HC2.out HS.out HEA.out HN.out)
      have HLE := hid (pfields_len leaf next.toNat l)
      have zf := bst_size (pfields leaf next.toNat l)
      have HD2 := hid (show D = if 2048 < psize next.toNat l then 100 else 0 by rw [HD.out, HE2.out]; simp)
      have hlim : psize next.toNat l ≤ 4398046512104 := by
        have := vlen_le next.toNat
        have := vlen_le l.length
        have := HS.out
        unfold psize; omega
      generalize pfields leaf next.toNat l = F at *
      generalize psize next.toNat l = Z at *
      have hfl : F.length + 4 = Z := HLE.out
      have x0 := HX2.out.cell 0
      have x1 := HX2.out.cell 1
      unfold pageV at HFD
      by_cases hz : 2048 < Z
      · obtain rfl : D = 100 := by rw [HD2.out, if_pos hz]
        have hz' : (2048 : Int) < (F.length : Int) + 4 := by omega
        go_wp2_with fail
        go_fit HFD.out
        rintro e w3 ⟨rfl, hb3⟩
        have HF3 := hid (below_step HF.out hb3)
        clear hb3
        go_wp2_with fail
        go_ret
        exact ⟨rfl, HF3.out⟩
      · obtain rfl : D = 0 := by rw [HD2.out, if_neg hz]
        have hz' : ¬ (2048 : Int) < (F.length : Int) + 4 := by omega
        go_wp2_with fail
        go_fit HFD.out
        rintro e w3 ⟨rfl, hb3⟩
        have HF3 := hid (below_step HF.out hb3)
        clear hb3
        go_wp2_with fail
        go_ret
        exact ⟨rfl, HF3.out⟩

end Go.Proofs.YtikggbopoajcbaaDoor
