/-
  The landed Check.
-/
import Derived.Test.YtikggbopoajcbaaDoorPgSmall
import Derived.Deep.QuietTactic
namespace Go.Proofs.YtikggbopoajcbaaDoor
open Go Go.RowKit

set_option maxHeartbeats 4000000 in
set_option maxRecDepth 100000 in
/-- does the i-th key rise? -/
theorem prise_any {leaf : Bool} {next : Int} {A : Option Addr} {n c B g i : Nat} {l : List Cl} {x : Cl} {w : World} (hb : PBlk w g leaf next A n c) (h : CS w B A n c l) (hx : l[i]? = some x) :
    Calls Tryd.prog 38 #[.int .i64 (i : Int), .pointer (some ⟨g, 0, none⟩)] w fun e w' => e = .returned (.bool (riseO (prevC l i) x.k)) ∧ Below w.heap.size w w' := by
  have hil : i < l.length := (List.getElem?_eq_some_iff.1 hx).1
  have hin : i < n := by rw [h.len]; exact hil
  have hmost := h.most
  have b2 := hb.cell 2
  clear hb
  by_cases h0 : i = 0
  · subst h0
    go_enter Tryd.func38, Tryd.ntmps38
    go_wp2_with fail
    go_quiet (fail)
    go_wp2_with fail
    go_ret
    exact ⟨rfl, below_drewN (Below.refl _ _) _⟩
  · obtain ⟨b, off, y, rfl, hb, hy, d0, d1⟩ := h.at_.get (i := i) hil
    obtain ⟨b', off', z, he, _, hz, p0, p1⟩ := h.at_.get (i := i - 1) (by omega)
    injection he with he
    injection he with e1 e2 _
    subst e1 e2
    have hyx : y = x := by rw [hx] at hy; injection hy with hy; exact hy.symm
    subst hyx
    have hpk : prevC l i = some z.k := by
      have := prevC_succ hz
      rwa [show i - 1 + 1 = i by omega] at this
    rw [hpk]
    unfold riseO
    have t1 := bst_toList y.k
    have t2 := bst_toList z.k
    obtain ⟨YB, hY⟩ : ∃ K, K = bst y.k := ⟨_, rfl⟩
    obtain ⟨ZB, hZ⟩ : ∃ K, K = bst z.k := ⟨_, rfl⟩
    rw [← hY] at d0 t1
    rw [← hZ] at p0 t2
    clear hx hz h hpk hY hZ d1 p1 hy
    have h0z : ((i : Int) == 0) = false := by simp; omega
    have hidx : (i : Int) - 1 = ((i - 1 : Nat) : Int) := by omega
    go_enter Tryd.func38, Tryd.ntmps38
    go_wp2_with fail
    go_quiet (fail)
    go_wp2_with fail
    go_ret
    exact ⟨rfl, below_drewN (Below.refl _ _) _⟩

set_option maxHeartbeats 4000000 in
set_option maxRecDepth 100000 in
theorem pcheck_any {leaf : Bool} {next : Int} {A : Option Addr} {n c B : Nat} {l : List Cl} {w : World} (h : CS w B A n c l) (hs : csum l ≤ 4398046511104) (hn : next ≤ 9223372036854775807) :
    Calls Tryd.prog 14 #[pageV leaf next A n c] w fun e w' => e = .returned (.int .i64 (pchk next l : Int)) ∧ Below w.heap.size w w' := by
  have hb1 : Below w.heap.size w (w.alloc (.cells #[.bool leaf, .int .i64 next, .slice A n c] 24)) := (Below.refl _ _).alloc (Nat.le_refl _) _
  have HB := hid hb1
  have HX := hid (Blk.new w 24 #[.bool leaf, .int .i64 next, .slice A n c])
  have HC := hid (h.step hb1)
  have HN := hid hn
  have HS := hid hs
  have HML := hid h.most
  have HLN := hid h.len
  obtain ⟨D, hD⟩ : ∃ D, D = pchk next l := ⟨_, rfl⟩
  rw [← hD]
  unfold pchk at hD
  unfold pageV
  clear h hs hn hb1
  by_cases h1 : next < 0
  · obtain rfl : D = 101 := by rw [hD, if_pos (.inl h1)]
    clear hD
    go_enter Tryd.func14, Tryd.ntmps14
    go_wp2_with fail
    go_ret
    exact ⟨rfl, HB.out⟩
  by_cases h2 : 256 < next
  · obtain rfl : D = 101 := by rw [hD, if_pos (.inr h2)]
    clear hD
    go_enter Tryd.func14, Tryd.ntmps14
    go_wp2_with fail
    go_ret
    exact ⟨rfl, HB.out⟩
  have HD := hid (show D = if chkC none l ≠ 0 then chkC none l else if 2048 < psize next.toNat l then 100 else 0 by rw [hD, if_neg (by omega)])
  clear hD
  go_enter Tryd.func14, Tryd.ntmps14
  go_wp2_with fail
  generalize w.alloc (.cells #[.bool leaf, .int .i64 next, .slice A n c] 24) = w1 at *
  obtain ⟨g, hg⟩ : ∃ g, w.heap.size = g := ⟨_, rfl⟩
  rw [hg] at HX ⊢
  clear hg
  have x2 := HX.out.cell 2
  go_wp2_with fail
  go_loopw [4, 17] (fun s i wr => ∃ k : Nat, k ≤ n ∧ i = .int .i64 (k : Int) ∧ Kept (chkC none l = chkC (prevC l k) (l.drop k)) ∧ Kept (Below w1.heap.size w1 wr)) (fun _ i _ => n - (intOf i).toNat)
  case atStart => exact ⟨0, Nat.zero_le _, rfl, hid rfl, hid (Below.refl _ _)⟩
  case round =>
    obtain ⟨k, hk, rfl, HE, HW⟩ := hrel
    have HX2 := hid (HX.out.below HW.out HX.out.lt)
    have HC2 := hid (HC.out.step HW.out)
    have HF := hid (below_step HB.out HW.out)
    have x2 := HX2.out.cell 2
    by_cases hlt : k < n
    · have hnm := HML.out
      obtain ⟨b, off, x, rfl, hb, hx, c0, c1⟩ := HC2.out.at_.get (i := k) (by rw [← HLN.out]; exact hlt)
      have hxs := csum_mem hx
      have hxp := clen_parts x
      have HL := hid (isLong_any (x := x) (w := wr) (by have := HS.out; omega) (by have := HS.out; omega))
      have HR := hid (fun (W : World) (hW : Below wr.heap.size wr W) => prise_any (HX2.out.below hW HX2.out.lt) (HC2.out.step hW) hx)
      have HE2 := hid (HE.out.trans (chkC_drop hx))
      have HPS := hid (prevC_succ hx)
      generalize riseO (prevC l k) x.k = R at *
      by_cases hlong : 480 < x.k.length + x.v.length
      · obtain rfl : D = 100 := by rw [HD.out, HE2.out, if_pos hlong]; rfl
        rw [decide_eq_true hlong] at HL
        clear hxs hxp hlong
        go_wp2_with fail
        go_fit HL.out
        rintro e w3 ⟨rfl, hb3⟩
        have HF3 := hid (below_step HF.out hb3)
        clear hb3
        go_wp2_with fail
        go_ret
        exact ⟨rfl, HF3.out⟩
      · rw [decide_eq_false hlong] at HL
        have HE3 := hid (show chkC none l = if R = true then chkC (some x.k) (l.drop (k + 1)) else 101 by rw [HE2.out, if_neg hlong])
        clear hxs hxp hlong HE2 hx
        cases R with
        | false =>
          obtain rfl : D = 101 := by rw [HD.out, HE3.out]; simp
          go_wp2_with fail
          go_fit HL.out
          rintro e w3 ⟨rfl, hb3⟩
          have HF3 := hid (below_step HF.out hb3)
          have HR3 := hid (HR.out w3 hb3)
          clear hb3
          go_wp2_with fail
          go_fit HR3.out
          rintro e w4 ⟨rfl, hb4⟩
          have HF4 := hid (below_step HF3.out hb4)
          clear hb4
          go_wp2_with fail
          go_ret
          exact ⟨rfl, HF4.out⟩
        | true =>
          go_wp2_with fail
          go_fit HL.out
          rintro e w3 ⟨rfl, hb3⟩
          have HW3 := hid (below_step HW.out hb3)
          have HR3 := hid (HR.out w3 hb3)
          clear hb3
          go_wp2_with fail
          go_fit HR3.out
          rintro e w4 ⟨rfl, hb4⟩
          have HW4 := hid (below_step HW3.out hb4)
          clear hb4
          go_wp2_with fail
          go_roundw
          case rel => exact ⟨k + 1, by omega, by go_num, hid (by rw [HE3.out, HPS.out]; simp), HW4⟩
          case measure => simp [intOf]; omega
    · have HE2 := hid (show chkC none l = 0 by rw [HE.out, List.drop_eq_nil_of_le (by rw [← HLN.out]; omega)]; cases prevC l k <;> rfl)
      have HZ := hid (psize_any (leaf := leaf) (next := next) HC2.out HS.out HN.out)
      have HD2 := hid (show D = if 2048 < psize next.toNat l then 100 else 0 by rw [HD.out, HE2.out]; simp)
      generalize psize next.toNat l = Z at *
      have x0 := HX2.out.cell 0
      have x1 := HX2.out.cell 1
      unfold pageV at HZ
      by_cases hz : 2048 < Z
      · obtain rfl : D = 100 := by rw [HD2.out, if_pos hz]
        have hz' : (2048 : Int) < (Z : Int) := by omega
        go_wp2_with fail
        go_fit HZ.out
        rintro e w3 ⟨rfl, hb3⟩
        have HF3 := hid (below_step HF.out hb3)
        clear hb3
        go_wp2_with fail
        go_ret
        exact ⟨rfl, HF3.out⟩
      · obtain rfl : D = 0 := by rw [HD2.out, if_neg hz]
        have hz' : ¬ (2048 : Int) < (Z : Int) := by omega
        go_wp2_with fail
        go_fit HZ.out
        rintro e w3 ⟨rfl, hb3⟩
        have HF3 := hid (below_step HF.out hb3)
        clear hb3
        go_wp2_with fail
        go_ret
        exact ⟨rfl, HF3.out⟩

end Go.Proofs.YtikggbopoajcbaaDoor
