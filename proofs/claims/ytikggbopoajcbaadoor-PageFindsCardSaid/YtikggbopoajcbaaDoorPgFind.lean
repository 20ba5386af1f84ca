/-
  The landed Find, over the library's Search.
-/
import Derived.Test.YtikggbopoajcbaaDoorPgMem
import Derived.Test.YtikggbopoajcbaaDoorPgFn
import Derived.BigQuiet
import Derived.Deep.QuietTactic
import Derived.Deep.Cut
namespace Go.Proofs.YtikggbopoajcbaaDoor
open Go Go.RowKit

/-- the closure's value, and the variables that it reads -/
def findV (g gk : Nat) : Value := .func (.func 54) #[] #[.pointer (some ⟨g, 0, none⟩), .pointer (some ⟨gk, 0, none⟩)]
structure FIn (w : World) (g gk : Nat) (leaf : Bool) (next : Int) (A : Option Addr) (n c B : Nat) (l : List Cl) (K : List UInt8) : Prop where
  page : PBlk w g leaf next A n c
  key : Blk w gk 9 #[.string (bst K)]
  cells : CS w B A n c l
theorem FIn.step {w w' : World} {g gk : Nat} {leaf : Bool} {next : Int} {A : Option Addr} {n c B : Nat} {l : List Cl} {K : List UInt8} (h : FIn w g gk leaf next A n c B l K) (hb : Below w.heap.size w w') : FIn w' g gk leaf next A n c B l K := ⟨h.page.below hb h.page.lt, h.key.below hb h.key.lt, h.cells.step hb⟩

set_option maxHeartbeats 4000000 in
set_option maxRecDepth 100000 in
theorem notLess_any {w : World} {g gk i : Nat} {leaf : Bool} {next : Int} {A : Option Addr} {n c B : Nat} {l : List Cl} {K : List UInt8} {x : Cl} (h : FIn w g gk leaf next A n c B l K) (hx : l[i]? = some x) :
    Calls Tryd.prog 54 #[.int .i64 (i : Int), .pointer (some ⟨g, 0, none⟩), .pointer (some ⟨gk, 0, none⟩)] w fun e w' => e = .returned (.bool (!ltk K x)) ∧ Below w.heap.size w w' := by
  have hil : i < l.length := (List.getElem?_eq_some_iff.1 hx).1
  have hin : i < n := by rw [h.cells.len]; exact hil
  have hmost := h.cells.most
  have b2 := h.page.cell 2
  have k0 := h.key.cell 0
  obtain ⟨b, off, y, rfl, hb, hy, d0, d1⟩ := h.cells.at_.get (i := i) hil
  have hyx : y = x := by rw [hx] at hy; injection hy with hy; exact hy.symm
  subst hyx
  have t1 := bst_toList y.k
  have t2 := bst_toList K
  unfold ltk
  obtain ⟨YB, hY⟩ : ∃ K, K = bst y.k := ⟨_, rfl⟩
  obtain ⟨KB, hK⟩ : ∃ X, X = bst K := ⟨_, rfl⟩
  rw [← hY] at d0 t1
  rw [← hK] at k0 t2
  clear hx h hY hK d1 hy hb hil
  go_enter Tryd.func54, Tryd.ntmps54
  go_wp2_with fail
  go_quiet (fail)
  go_wp2_with fail
  go_ret
  exact ⟨rfl, below_drewN (Below.refl _ _) _⟩

set_option maxHeartbeats 4000000 in
set_option maxRecDepth 100000 in
theorem search_any {w : World} {g gk : Nat} {leaf : Bool} {next : Int} {A : Option Addr} {n c B : Nat} {l : List Cl} {K : List UInt8} (h : FIn w g gk leaf next A n c B l K) (hm : Mono K l) :
    Calls Tryd.prog 55 #[.int .i64 (n : Int), findV g gk] w fun e w' => e = .returned (.int .i64 (fnd K l : Int)) ∧ Below w.heap.size w w' := by
  have H := hid h
  have HM := hid hm
  have hmost := h.cells.most
  have HLN := hid h.cells.len
  clear h hm
  unfold findV
  go_enter Tryd.func55, Tryd.ntmps55
  go_wp2_with fail
  go_loopw [5, 6, 7] (fun si sj _ wr => ∃ i j : Nat, si = .int .i64 (i : Int) ∧ sj = .int .i64 (j : Int) ∧ i ≤ j ∧ j ≤ n ∧ Kept (∀ t x, t < i → l[t]? = some x → ltk K x = true) ∧ Kept (∀ x, l[j]? = some x → ltk K x = false) ∧ Kept (Below w.heap.size w wr)) (fun si sj _ _ => (intOf sj).toNat - (intOf si).toNat)
  case atStart => exact ⟨0, n, rfl, rfl, Nat.zero_le _, Nat.le_refl _, hid (fun t x ht => absurd ht (Nat.not_lt_zero _)), hid (fun x hx => absurd (List.getElem?_eq_some_iff.1 hx).1 (by have := HLN.out; omega)), hid (Below.refl _ _)⟩
  case round =>
    obtain ⟨i, j, rfl, rfl, hij, hjn, HLO, HHI, BW⟩ := hrel
    by_cases hlt : i < j
    · have hltz : (i : Int) < (j : Int) := by omega
      obtain ⟨h, hh⟩ : ∃ h, h = (i + j) / 2 := ⟨_, rfl⟩
      have HHZ := hid (show ((i : Int) + (j : Int)) / 2 = (h : Int) by omega)
      have hhi : i ≤ h := by omega
      have hhj : h < j := by omega
      clear hh
      obtain ⟨x, hx⟩ : ∃ x, l[h]? = some x := ⟨_, List.getElem?_eq_getElem (by rw [← HLN.out]; omega)⟩
      have HX := hid hx
      have HC := hid (notLess_any (H.out.step BW.out) hx)
      clear hx
      go_upto_region 4 with fail
      rw [HHZ.out]
      cases hl : ltk K x with
      | true =>
        rw [hl] at HC
        have HL := hid hl
        clear hl
        go_wp2_with fail
        go_fit HC.out
        rintro e w2 ⟨rfl, hb2⟩
        have BW2 := hid (below_step BW.out hb2)
        clear hb2
        go_wp2_with fail
        go_roundw
        case rel => exact ⟨h + 1, j, by go_num, rfl, by omega, hjn, hid (fun t y ht hy => by
          by_cases e : t = h
          · subst e
            have a := HX.out
            rw [hy] at a
            injection a with a
            rw [a]; exact HL.out
          · cases hly : ltk K y with
            | true => rfl
            | false =>
              have hf : h < fnd K l := by
                rcases Nat.lt_or_ge h (fnd K l) with q | q
                · exact q
                · have := HM.out h x q HX.out
                  rw [HL.out] at this
                  cases this
              have := fnd_lo K l t y (by omega) hy
              rw [hly] at this
              cases this), HHI, BW2⟩
        case measure => simp [intOf]; omega
      | false =>
        rw [hl] at HC
        have HL := hid hl
        clear hl
        go_wp2_with fail
        go_fit HC.out
        rintro e w2 ⟨rfl, hb2⟩
        have BW2 := hid (below_step BW.out hb2)
        clear hb2
        go_wp2_with fail
        go_roundw
        case rel => exact ⟨i, h, rfl, by go_num, by omega, by omega, HLO, hid (fun y hy => by
          have a := HX.out
          rw [hy] at a
          injection a with a
          rw [a]; exact HL.out), BW2⟩
        case measure => simp [intOf]; omega
    · obtain rfl : i = j := by omega
      have HE := hid (fnd_is (K := K) (l := l) (by rw [← HLN.out]; exact hjn) HLO.out HHI.out)
      go_wp2_with fail
      go_ret
      rw [← HE.out]
      exact ⟨rfl, BW.out⟩

set_option maxHeartbeats 4000000 in
set_option maxRecDepth 100000 in
theorem find_any {w : World} {leaf : Bool} {next : Int} {A : Option Addr} {n c B : Nat} {l : List Cl} {K : List UInt8} (h : CS w B A n c l) (hm : Mono K l) :
    Calls Tryd.prog 22 #[pageV leaf next A n c, .string (bst K)] w fun e w' => e = .returned (.tuple #[.int .i64 (fnd K l : Int), .bool (hasK K l)]) ∧ Below w.heap.size w w' := by
  have hb1 : Below w.heap.size w (w.alloc (.cells #[.bool leaf, .int .i64 next, .slice A n c] 24)) := (Below.refl _ _).alloc (Nat.le_refl _) _
  have hb2 := hb1.alloc hb1.size (.cells #[.string (bst K)] 9)
  have HB := hid hb2
  have hsz : (w.alloc (.cells #[.bool leaf, .int .i64 next, .slice A n c] 24)).heap.size = w.heap.size + 1 := by simp
  have HF := hid (show FIn ((w.alloc (.cells #[.bool leaf, .int .i64 next, .slice A n c] 24)).alloc (.cells #[.string (bst K)] 9)) w.heap.size (w.heap.size + 1) leaf next A n c B l K from ⟨(Blk.new w 24 #[.bool leaf, .int .i64 next, .slice A n c]).alloc _, by have := Blk.new (w.alloc (.cells #[.bool leaf, .int .i64 next, .slice A n c] 24)) 9 #[.string (bst K)]; rwa [hsz] at this, h.step hb2⟩)
  have HSE := hid (search_any HF.out hm)
  unfold findV at HSE
  have hmost := h.most
  have HLN := hid h.len
  have hle := fnd_le K l
  rw [← h.len] at hle
  clear h hm hb1 hb2 hsz
  obtain ⟨D, hD⟩ : ∃ D, D = hasK K l := ⟨_, rfl⟩
  rw [← hD]
  unfold hasK at hD
  have HD := hid hD
  clear hD
  obtain ⟨i, hi⟩ : ∃ i, i = fnd K l := ⟨_, rfl⟩
  rw [← hi] at HSE hle HD ⊢
  clear hi
  unfold pageV
  go_enter Tryd.func22, Tryd.ntmps22
  go_wp2_with fail
  generalize (w.alloc (.cells #[.bool leaf, .int .i64 next, .slice A n c] 24)).alloc (.cells #[.string (bst K)] 9) = w1 at *
  obtain ⟨g, hg⟩ : ∃ g, w.heap.size = g := ⟨_, rfl⟩
  rw [hg] at HF HSE ⊢
  clear hg
  obtain ⟨gk, hgk⟩ : ∃ gk, g + 1 = gk := ⟨_, rfl⟩
  rw [hgk] at HF HSE ⊢
  clear hgk
  have x2 := HF.out.page.cell 2
  go_wp2_with fail
  go_fit HSE.out
  rintro e w2 ⟨rfl, hb2⟩
  have HB2 := hid (below_step HB.out hb2)
  have HF2 := hid (HF.out.step hb2)
  have x2 := HF2.out.page.cell 2
  have k0 := HF2.out.key.cell 0
  clear hb2
  by_cases hin : i < n
  · obtain ⟨b, off, y, rfl, hb, hy, d0, d1⟩ := HF2.out.cells.at_.get (i := i) (by rw [← HLN.out]; exact hin)
    rw [hy] at HD
    have t1 := bst_toList y.k
    have t2 := bst_toList K
    have HD2 := hid (show D = (y.k == K) from HD.out)
    obtain ⟨YB, hY⟩ : ∃ K, K = bst y.k := ⟨_, rfl⟩
    obtain ⟨KB, hK⟩ : ∃ X, X = bst K := ⟨_, rfl⟩
    rw [← hY] at d0 t1
    rw [← hK] at k0 t2
    have hinz : (i : Int) < (n : Int) := by omega
    clear hY hK d1 hy hb HD
    go_wp2_with fail
    go_quiet (fail)
    go_wp2_with fail
    go_ret2
    exact ⟨by rw [HD2.out]; rfl, below_drewN HB2.out _⟩
  · obtain rfl : D = false := by rw [HD.out, List.getElem?_eq_none (by rw [← HLN.out]; omega)]; rfl
    have hinz : ¬ (i : Int) < (n : Int) := by omega
    go_wp2_with fail
    go_quiet (fail)
    go_wp2_with fail
    go_ret2
    exact ⟨rfl, below_drewN HB2.out _⟩

end Go.Proofs.YtikggbopoajcbaaDoor
