/-
  The landed cache: Dirty.
-/
import Derived.Test.YtdhjjjagjkencaaCaSort
import Derived.Test.YtdhjjjagjkencaaCaDirt
import Derived.Test.YtdhjjjagjkencaaCaList
namespace Go.Proofs.Ytdhjjjagjkencaa
open Go Go.RowKit Go.Shelf

/-- the entries, those of some positions clean -/
def VD (vl : Nat → En) (done : List Nat) : Nat → En := fun k => if k ∈ done then { vl k with d := false } else vl k
theorem VD.i (vl : Nat → En) (done : List Nat) (k : Nat) : (VD vl done k).i = (vl k).i := by unfold VD; split <;> rfl
theorem VD.next {vl : Nat → En} {done : List Nat} {p : Nat} (hp : p ∉ done) : updE (VD vl done) p { VD vl done p with d := false } = VD vl (done ++ [p]) := funext fun k => by
  by_cases e : k = p
  · subst e
    rw [updE_eq]
    unfold VD
    rw [if_neg hp, if_pos (by simp)]
  · rw [updE_ne e]
    unfold VD
    have : (k ∈ done ++ [p]) ↔ k ∈ done := by simp [e]
    by_cases h : k ∈ done
    · rw [if_pos h, if_pos (this.2 h)]
    · rw [if_neg h, if_neg (fun q => h (this.1 q))]
theorem VD.nil (vl : Nat → En) : VD vl [] = vl := funext fun k => by unfold VD; simp
theorem VD.all (vl : Nat → En) (ps : List Nat) : ps.map (VD vl ps) = cleanE (ps.map vl) := by
  unfold cleanE
  rw [List.map_map]
  refine List.map_congr_left fun k hk => ?_
  unfold VD
  rw [if_pos hk]; rfl

/-- the library's sort, of a row of the call's own -/
theorem sort_row {w : World} {base m c : Nat} {A : Option Addr} {l : List En} (h : GRow eEn 32 w base A m c l) (hm : l.length ≤ 1000000) :
    Calls Try.prog 27 #[.slice A m c, .func (.func 28) #[] #[]] w fun e w' => e = .returned (.tuple #[]) ∧ ∃ a, a.Perm l ∧ SrtE a ∧ EAt w' w'.heap.size A a ∧ (∃ g, base ≤ g ∧ Only g w w') := by
  rcases Nat.eq_zero_or_pos l.length with h0 | h0
  · obtain rfl : l = [] := List.eq_nil_of_length_eq_zero h0
    obtain rfl : m = 0 := h.1
    have hc := AnyF.slices_SortFunc_none sortE A c (.func (.func 28) #[] #[]) w
    change Calls Try.prog 27 _ _ _ at hc
    refine hc.mono fun e w' ⟨h1, h2⟩ => ⟨h1, [], List.Perm.refl _, List.Pairwise.nil, by rw [h2]; exact h.at_, base, Nat.le_refl _, by rw [h2]; exact Only.refl _ _⟩
  · obtain ⟨g, rfl, hb, hg, hH⟩ := holds_row h h0
    have hms : m = l.toArray.size := by rw [h.1]; simp
    have eg := enters_of (P := Try.prog) Try.func28 (by kernel_rfl) (by kernel_rfl)
    have hc := AnyQ.slices_SortFunc sortE 3 Try.isAgg32 Try.sizeOf32 eEn.enc eEn.len (fun x v hv => by simp [eEn] at hv; rcases hv with rfl | rfl | rfl <;> rfl) cmpE swoE 28 #[] g 0 c l.toArray w eg (fun _ _ _ _ x y => closD x y _) hH hg (by simp; omega)
    change Calls Try.prog 27 _ _ _ at hc
    rw [hms]
    refine hc.mono fun e w' ⟨h1, d', n, os, hp, hs, hw⟩ => ⟨h1, d'.toList, ?_, ?_, ?_, g, hb, by rw [hw]; exact sort_only w g n d' os⟩
    · have h3 := hp.2.2
      have e1 : d'.extract 0 l.toArray.size = d' := by rw [← hp.1]; simp
      have e2 : l.toArray.extract 0 l.toArray.size = l.toArray := by simp
      rw [e1, e2] at h3
      exact h3
    · refine List.pairwise_iff_getElem.2 fun i j hi hj hij => ?_
      have hi' : i < d'.size := by simpa using hi
      have hj' : j < d'.size := by simpa using hj
      have h3 := hs i j (Nat.zero_le _) hij (by rw [← hp.1]; exact hj')
      rw [ltE, getElem!_pos d' j hj', getElem!_pos d' i hi'] at h3
      have h4 := of_decide_eq_false h3
      simp only [Array.getElem_toList]
      omega
    · have hd : d' = d'.toList.toArray := by simp
      have hHw := holdsK_sortWorldK eEn.enc 3 w g 0 n l.toArray d' os hg hH hp.1
      rw [← hw] at hHw
      rw [hd] at hHw
      have hlt := lt_sortWorldK eEn.enc 3 w g 0 n d' os hg
      rw [← hw] at hlt
      exact row_holds hHw hlt

set_option maxHeartbeats 4000000 in
set_option maxRecDepth 100000 in
theorem dirty_any2 {S : Nat → Prop} {w : World} {cb room : Nat} {l : List En} (h : CA S w cb room l) (hl : l.length ≤ 100000) :
    Calls Try.prog 17 #[(.pointer (some ⟨cb, 0, none⟩))] w fun e w' => ∃ A m c, e = .returned (.slice A m c) ∧ ES w' w'.heap.size A m c (dirtyE [] l) ∧ CA S w' cb room (cleanE l) ∧ Within S w w' ∧ In (fun k => w.heap.size ≤ k) A (dirtyE [] l) := by
  obtain ⟨mb, eb, ps, vl, pv, nx, m, hc, hll, hS⟩ := h.out
  have hlow := h.low
  have hb1 := (Below.refl w.heap.size w).alloc (Nat.le_refl _) (.cells #[.slice none 0 0] 28)
  have hes := ESlot.made w
  have eg := enters_of (P := Try.prog) Try.func26 (by kernel_rfl) (by kernel_rfl)
  have hlt : ∀ k, k = eb ∨ k ∈ ps → k < w.heap.size := fun k hk => hc.lt (.inr (.inr hk))
  have hap := hc.apart
  have hpl : ps.length ≤ 100000 := by rw [hll] at hl; simpa using hl
  have hnd := (List.nodup_cons.1 hc.ring.nodup).2
  have hcb := hc.lt (k := cb) (.inl rfl)
  have hmb := hc.lt (k := mb) (.inr (.inl rfl))
  have HE := hid (each_any (f := 26) (cap := w.heap.size) eg (I := fun j W => CaIn W cb room mb eb ps (VD vl (ps.take j)) pv nx m ∧ ESlot W w.heap.size (((ps.take j).map vl).filter (·.d)) ∧ Within (fun k => (k = eb ∨ k ∈ ps) ∨ w.heap.size ≤ k) w W)
    (fun j W hI => ⟨_, pv, nx, m, hI.1⟩)
    (fun j W p hp hI => by
      have hpm : p ∉ ps.take j := fun hm => by
        obtain ⟨hj, e⟩ := List.getElem?_eq_some_iff.1 hp
        obtain ⟨i, hi⟩ := List.mem_iff_getElem?.1 hm
        have hij : i < j := by have := (List.getElem?_eq_some_iff.1 hi).1; rw [List.length_take] at this; omega
        rw [List.getElem?_take_of_lt hij] at hi
        obtain ⟨hi1, e1⟩ := List.getElem?_eq_some_iff.1 hi
        have := List.pairwise_iff_getElem.1 hnd i j hi1 hj hij
        exact this (e1.trans e.symm)
      have hpd : VD vl (ps.take j) p = vl p := by unfold VD; rw [if_neg hpm]
      have hfl : (((ps.take j).map vl).filter (·.d)).length ≤ 100000 := by
        have h1 := List.length_filter_le (fun x : En => x.d) ((ps.take j).map vl)
        have h2 := List.length_take_le' j ps
        simp only [List.length_map] at h1
        omega
      refine (keepD_is hI.2.1 hI.1.nodes (.inr (List.mem_of_getElem? hp)) hlt hfl).mono fun e w' ⟨e1, e2, e3, e4⟩ => ⟨e1, ?_, ?_, hI.2.2.then e4 (fun k hk => .inl hk)⟩
      · rw [VD.next hpm, ← take_next hp] at e3
        refine ⟨hI.1.blk.within e4 (fun q => q.elim (fun q => (hap.2 cb q).1 rfl) (fun q => by omega)), hI.1.tab.within e4 (fun q => q.elim (fun q => (hap.2 mb q).2 rfl) (fun q => by omega)), e3, hI.1.ring, ?_, ?_⟩
        · exact hc.is.vals fun b _ => VD.i _ _ b
        · exact hc.ids.vals fun b _ => VD.i _ _ b
      · rw [hpd] at e2
        rw [take_next hp, List.map_append, List.filter_append]
        cases hd : (vl p).d with
        | false =>
          rw [hd] at e2
          simpa [hd] using e2
        | true =>
          rw [hd] at e2
          simpa [hd] using e2)
    (w := w.alloc (.cells #[.slice none 0 0] 28)) ⟨by rw [List.take_zero, VD.nil]; exact hc.step hb1, by simpa using hes, Within.of_below hb1⟩)
  rw [List.take_of_length_le (Nat.le_refl _), ← hll] at HE
  have HLL := hid (And.intro hll (And.intro hS hlow))
  have HID := hid (show IdsE l by
    rw [hll]
    intro x hx y hy e
    obtain ⟨a, ha, rfl⟩ := List.mem_map.1 hx
    obtain ⟨b, hb, rfl⟩ := List.mem_map.1 hy
    rw [hc.ids a ha b hb e])
  have HFL := hid (show (l.filter (·.d)).length ≤ 100000 from Nat.le_trans (List.length_filter_le _ _) hl)
  clear h hl hc hll hS hb1 eg hlt hpl hes hap hnd hcb hmb hlow
  go_enter Try.func17, Try.ntmps17
  go_wp2_with fail
  go_fit HE.out
  rintro e w2 ⟨rfl, h1, h2, h3⟩
  obtain ⟨A, m', c', hb, hr⟩ := h2
  have c0 := hb.cell 0
  have HSO := hid (sort_row hr (Nat.le_trans HFL.out (by decide)))
  have HC2 := hid (And.intro h1 (And.intro h3 (And.intro hb hr)))
  clear h1 h3 hb hr HE
  go_wp2_with fail
  go_fit HSO.out
  rintro e w3 ⟨rfl, a, hp, hs, hat, g, hg, ho⟩
  obtain ⟨h1, h3, hb, hr⟩ := HC2.out
  have hb3 : Blk w3 w.heap.size 28 #[.slice A m' c'] := hb.grown ho (fun e => by injection e; omega)
  have c3 := hb3.cell 0
  have HA := hid (dirtyE_one HID.out hp hs)
  have HAT := hid hat
  have HO := hid (And.intro hg ho)
  have HPL := hid hp.length_eq
  clear hp hs hat ho hg h1 h3 hb hr c0 hb3 HSO
  go_wp2_with fail
  go_ret
  obtain ⟨h1, h3, hb, hr⟩ := HC2.out
  obtain ⟨hg, ho⟩ := HO.out
  have hw : Within (fun k => (k = eb ∨ k ∈ ps) ∨ w.heap.size ≤ k) w w3 := h3.then (Within.of_only (M := fun k => k = g) ho (.inl rfl)) (fun k q => .inr (by omega))
  have hc3 := h1.keep (w' := w3) (fun k hk => ho.block k (h1.lt hk) (fun e => by
    injection e with e
    have := HLL.out.2.2 k (HLL.out.2.1 k hk)
    omega))
  refine ⟨A, m', c', rfl, ⟨by rw [← HA.out]; exact HAT.out, by rw [← HA.out, HPL.out]; exact hr.1, hr.cap, by have := hr.1; have := HFL.out; omega, Nat.le_refl _⟩, ⟨⟨mb, eb, ps, _, pv, nx, m, hc3, by rw [HLL.out.1, VD.all], HLL.out.2.1⟩, fun k hk => Nat.lt_of_lt_of_le (HLL.out.2.2 k hk) hw.size⟩, ?_, fun b off e hl => Nat.le_trans (Nat.le_succ _) (GRow.in_ hr b off e (by rw [← HA.out, HPL.out] at hl; exact hl))⟩
  exact ⟨hw.os, hw.tape, hw.output, hw.size, fun k hk hn => hw.block k hk (fun q => q.elim (fun q => hn (HLL.out.2.1 k (.inr (.inr q)))) (fun q => by omega))⟩

theorem dirty_any {S : Nat → Prop} {w : World} {cb room : Nat} {l : List En} (h : CA S w cb room l) (hl : l.length ≤ 100000) :
    Calls Try.prog 17 #[(.pointer (some ⟨cb, 0, none⟩))] w fun e w' => ∃ A m c, e = .returned (.slice A m c) ∧ ES w' w'.heap.size A m c (dirtyE [] l) ∧ CA S w' cb room (cleanE l) ∧ Within S w w' :=
  (dirty_any2 h hl).mono fun _ _ ⟨A, m, c, h1, h2, h3, h4, _⟩ => ⟨A, m, c, h1, h2, h3, h4⟩

end Go.Proofs.Ytdhjjjagjkencaa
