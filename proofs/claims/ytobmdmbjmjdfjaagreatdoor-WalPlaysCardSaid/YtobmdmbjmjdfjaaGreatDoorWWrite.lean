/-
  A segment's sectors are written.
-/
import Derived.Test.YtobmdmbjmjdfjaaGreatDoorWOpenF
import Derived.Test.YtobmdmbjmjdfjaaGreatDoorWApp2
import Derived.Lib.MinMax
namespace Go.Proofs.YtobmdmbjmjdfjaaGreatDoor
open Go Go.RowKit

theorem take_min (l : List UInt8) (a : Nat) : (l.drop a).take (min (a + 512) l.length - a) = (l.drop a).take 512 := by
  by_cases h : a + 512 ≤ l.length
  · rw [Nat.min_eq_left h, Nat.add_sub_cancel_left]
  · rw [Nat.min_eq_right (by omega), List.take_of_length_le (by rw [List.length_drop]; omega), List.take_of_length_le (by rw [List.length_drop]; omega)]
theorem Turns.trans' {M R M1 R1 M2 R2 : Nat → Prop} {a b c : World} (h : Turns M R a M1 R1 b) (k : Turns M1 R1 b M2 R2 c) : Turns M R a M2 R2 c :=
  ⟨k.os.trans h.os, k.tape.trans h.tape, k.output.trans h.output, Nat.le_trans h.size k.size, fun i hi hn => (k.block i (Nat.lt_of_lt_of_le hi h.size) (fun x => (h.own i x).elim hn (by omega))).trans (h.block i hi hn),
    fun i hi => (k.own i hi).elim (h.own i) (fun x => .inr (Nat.le_trans h.size x)), fun i hi => (k.held i hi).elim (h.held i) (fun x => .inr (Nat.le_trans h.size x))⟩
theorem slice_mid_at {w : World} {B m c k n g o : Nat} {l : List UInt8} (hA : At w B (some ⟨g, o, none⟩) l) (hm : m = l.length) (hc : m ≤ c) (hk : k ≤ n) (hn : n ≤ m) :
    ∃ o', (∀ (i j : IntKind) (W : World), (Instr.slice 74 (.slice (some ⟨g, o, none⟩) m c) (some (.int i (k : Int))) (some (.int j (n : Int))) none).run Tryz.prog W = .ok (.slice (some ⟨g, o', none⟩) (n - k) (c - k)) W) ∧ At w B (some ⟨g, o', none⟩) ((l.drop k).take (n - k)) := by
  obtain ⟨i0, hi, hz0, hz1, hz2⟩ := info_parts info_byte
  have e : Tryz.prog.elem 74 = 5 := by kernel_rfl
  have hr : ∀ (i j : IntKind) (W : World), (Instr.slice 74 (.slice (some ⟨g, o, none⟩) m c) (some (.int i (k : Int))) (some (.int j (n : Int))) none).run Tryz.prog W = .ok (.slice (if c = k then some ⟨g, o, none⟩ else some ⟨g, o + k, none⟩) (n - k) (c - k)) W := fun i j W => by
    rw [run_slice_lh (P := Tryz.prog) W 74 _ m c (by rw [e]; exact Tryz.underlying74) i j k n (by omega) (by omega) (by omega), e]
    by_cases h1 : c = k <;> by_cases h2 : k = 0 <;> simp [sizeOf, typeInfo, hi, hz1, sliced, Addr.add, h1, h2]
  have ha := (hA.cut (c := c) (k := k) (by omega)).take (n - k)
  by_cases hck : c = k
  · refine ⟨o, fun i j W => by rw [hr, if_pos hck], ?_⟩
    rw [if_pos hck] at ha
    exact ha
  · refine ⟨o + k, fun i j W => by rw [hr, if_neg hck], ?_⟩
    have e2 : (⟨g, o, none⟩ : Addr).add k = ⟨g, o + k, none⟩ := by unfold Addr.add; split <;> simp_all
    rw [if_neg hck, Option.map_some, e2] at ha
    exact ha
set_option maxHeartbeats 8000000 in
set_option maxRecDepth 100000 in
theorem write_log {w : World} {b d : Nat} {N M R : Nat → Prop} {s : Dk} {l : Wl} (h : WA w b d N M R s l) {i old m c B : Nat} {A : Option Addr} {st : List UInt8} (hi : i < l.n) (hA : At w B A st) (hm : m = st.length) (hc : m ≤ c) (hB : B ≤ w.heap.size) (hoff : Off M A) (hst : st.length ≤ 512 * l.size) (hold : old ≤ st.length) (hp : s.pend.length ≤ 900000) :
    Calls Tryz.prog 72 #[.pointer (some ⟨b, 0, none⟩), .int .i64 (i : Int), .int .i64 (old : Int), .slice A m c] w fun e w' =>
      e = .returned (.int .i64 ((wrSt s (l.place i) st l.size (old / 512)).2 : Int)) ∧ ∃ M' R', WA w' b d N M' R' (wrSt s (l.place i) st l.size (old / 512)).1 l ∧ Turns M R w M' R' w' := by
  have HW := hid h
  have HI := hid (Nat.le_of_lt hi)
  have HP := hid hp
  have HA := hid hA
  have HB0 := hid hB
  have HOF := hid hoff
  have HM := hid hm
  have HC := hid hc
  obtain ⟨A1, c1, C1, cc1, hl⟩ := h.log
  have hsz : l.size ≤ 64 := hl.pl.size
  obtain ⟨p, hpl⟩ : ∃ p : Int, p = l.place i := ⟨_, rfl⟩
  have HPL := hid hpl
  have HQ := hid (show 0 ≤ p ∧ p ≤ 65536 by have := hl.pl.at_ (Nat.le_of_lt hi); rw [hpl]; unfold Wl.place; omega)
  obtain ⟨fs, hfs⟩ : ∃ k, k = old / 512 := ⟨_, rfl⟩
  have hst64 : st.length ≤ 32768 := by omega
  have hmst : m ≤ 32768 := by omega
  have hol : old ≤ 32768 := by omega
  rw [← hpl, ← hfs]
  obtain ⟨Z, hZ⟩ : ∃ Z, Z = wrSt s p st l.size fs := ⟨_, rfl⟩
  rw [← hZ]
  have HZ := hid hZ
  have HST := hid hst
  have HR1 := hid (show (old : Int) - (old : Int) % 512 = ((512 * fs : Nat) : Int) by omega)
  clear h hl hi hp hA hB hoff hm hc hpl hZ hst hold hst64
  go_enter Tryz.func72, Tryz.ntmps72
  go_wp2_with fail
  go_loopw [9] (fun x wr => ∃ (k f a : Nat) (s1 : Dk) (M1 R1 : Nat → Prop), x = .int .i64 (a : Int) ∧ Kept (a = 512 * k) ∧ Kept (Z = wrSt s1 p st f k) ∧ Kept (st.length ≤ 512 * (k + f)) ∧ Kept (s1.pend.length ≤ s.pend.length + k) ∧ Kept (k ≤ 64) ∧ Kept (WA wr b d N M1 R1 s1 l ∧ Turns M R w M1 R1 wr)) (fun x _ => m + 512 - (intOf x).toNat)
  case atStart => exact ⟨fs, l.size, 512 * fs, s, M, R, congrArg _ HR1.out, hid rfl, HZ, hid (by have := HST.out; omega), hid (by omega), hid (by omega), hid ⟨HW.out, Turns.of_below (Below.refl _ _)⟩⟩
  case round =>
    obtain ⟨k, f, a, s1, M1, R1, rfl, HAK, HZ1, HF, HPE, HK64, HWT⟩ := hrel
    obtain ⟨hw1, ht1⟩ := HWT.out
    obtain ⟨A1, c1, C1, cc1, hl⟩ := hw1.log
    by_cases hlt : a < m
    · have hlt' : (a : Int) < (m : Int) := by omega
      have hkl : 512 * k < st.length := by rw [← HAK.out, ← HM.out]; exact hlt
      obtain ⟨g, hg, hlen, hz⟩ := wrSt_go (s := s1) (p := p) hkl HF.out
      rw [hz] at HZ1
      have hq : (a : Int) / 512 = (k : Int) := by rw [HAK.out]; omega
      have hw : IntKind.i64.wrap (p + (k : Int)) = p + (k : Int) := by rw [IntKind.wrap_i64]; have := HQ.out; have := HK64.out; omega
      obtain ⟨E, hE⟩ : ∃ E : Nat, E = min (a + 512) m := ⟨_, rfl⟩
      have hEl : a ≤ E ∧ E ≤ m := by omega
      have hwa : IntKind.i64.wrap ((a : Int) + 512) = (a : Int) + 512 := by rw [IntKind.wrap_i64]; omega
      have hmin : min ((a : Int) + 512) (m : Int) = (E : Int) := by omega
      obtain ⟨gA, oA, rfl, hgA, _⟩ := HA.out (by omega)
      have hnM : ¬ M gA := HOF.out gA oA rfl
      have hgw : gA < w.heap.size := by have := HB0.out; omega
      have hAr : At wr B (some ⟨gA, oA, none⟩) st := fun hl' => by
        obtain ⟨g', off, e, hg', hc⟩ := HA.out hl'
        injection e with e
        injection e with e1 e2 _
        subst e1 e2
        exact ⟨gA, oA, rfl, hg', fun j x hj => (World.cell?_of_block (a := ⟨gA, _, none⟩) (ht1.block gA hgw hnM)).trans (hc j x hj)⟩
      obtain ⟨o5, hsl, hA5⟩ := slice_mid_at (k := a) (n := E) hAr HM.out HC.out hEl.1 hEl.2
      rw [hE, HM.out, take_min] at hA5
      have hB9 : B ≤ wr.heap.size := Nat.le_trans HB0.out ht1.size
      have HSE := hid (fun (W : World) (hW : Below wr.heap.size wr W) => sector_is (hl.below hW) HI.out)
      rw [← HPL.out] at HSE
      have HX := hid (fun (W : World) (hW : Below wr.heap.size wr W) => (hl.below hW).blk.cell 0)
      have HEL := hid (show E - a = ((st.drop a).take 512).length by rw [List.length_take, List.length_drop, hE, HM.out]; omega)
      have HWR := hid (fun (W : World) (hW : Below wr.heap.size wr W) => face.write (i := p + (k : Int)) (n := E - a) (c := c - a) (B := B) (hw1.disk.step hW) (hA5.below (hW.mono hB9)) HEL.out (Nat.le_trans hB9 hW.size) (fun g off e x => by
        injection e with e
        injection e with e1 _ _
        subst e1
        rcases ht1.own _ x with y | y
        · exact hnM y
        · omega) (by rw [List.length_take, List.length_drop]; omega) (by have := HPE.out; have := HP.out; have := HK64.out; omega))
      rw [show (st.drop (512 * k)) = st.drop a by rw [HAK.out]] at HZ1
      generalize ((st.drop a).take 512) = bb at *
      have H1 := hid hw1
      have HT1 := hid ht1
      have HG := hid hlen
      have HKL := hid (show k + 1 ≤ 64 by omega)
      clear hw1 ht1 hl HWT hAr hA5 hz hg hlen hE hkl hgA hgw hnM
      by_cases hwy : s1.why (p + (k : Int)) bb = 0
      · rw [if_pos hwy] at HZ1
        rw [hwy] at HWR
        clear hwy
        go_wp2_with fail
        go_fit (HSE.out wr (Below.refl _ _))
        rintro e w5 ⟨rfl, hb5⟩
        have HB5 := hid hb5
        have HB5d := hid (show Below wr.heap.size wr w5.drew from below_step hb5 (Beyond.drew w5))
        have x0 := HX.out w5 hb5
        clear hb5
        go_wp2_with fail
        refine wp_region_any (by kernel_rfl) ?_
        try (change wpAny _ _ _ _ _ _ _ (World.drew _))
        refine stA 0 ?_; (try simp only [putr]); refine stA 1 ?_; (try simp only [putr]); refine stA 2 ?_; (try simp only [putr]); refine stA 4 ?_; (try simp only [putr]); refine stA 5 ?_; (try simp only [putr]); refine stA 6 ?_; (try simp only [putr]); refine stA 7 ?_; (try simp only [putr]); refine stA 8 ?_; (try simp only [putr]); refine stA 9 ?_; (try simp only [putr]); refine rdA [3, 10] ?_; refine rcA (fun KK hKK => ?_) ?_
        · go_simp; refine hKK _ _ ?_; clear hKK KK; (try simp only [putr]); refine rdA [10] ?_; refine rcA (fun KK hKK => ?_) AllReady.nil; go_simp; refine hKK _ _ ?_; clear hKK KK; (try simp only [putr]); refine rdA [11] ?_; refine rcA (fun KK hKK => ?_) AllReady.nil; go_simp; refine hKK _ _ ?_; clear hKK KK; (try simp only [putr]); refine rdA [12] ?_; refine rcA (fun KK hKK => ?_) AllReady.nil; go_simp; refine hKK _ _ ?_; clear hKK KK; (try simp only [putr]); refine rdA [13] ?_; refine rcA (fun KK hKK => ?_) AllReady.nil; go_simp
          go_fit (HWR.out _ HB5d.out)
          rintro e w6 ⟨rfl, M2, R2, hd, ht⟩
          refine hKK _ _ ?_; clear hKK KK
          have HW6 := hid ((H1.out.step HB5d.out).disk' hd ht)
          have HT6 := hid (HT1.out.trans' (Turns.behind HB5d.out ht))
          clear hd ht
          (try simp only [putr]); refine stA 14 ?_; (try simp only [putr]); refine wpAny_done (by kernel_rfl) ?_ _
          go_wp2_with fail
          go_roundw
          case rel => exact ⟨k + 1, g, a + 512, _, M2, R2, by go_num, hid (by have := HAK.out; omega), HZ1, HG, hid (by have := HPE.out; have := Dk.write_len s1 (p + (k : Int)) bb; omega), HKL, hid ⟨HW6.out, HT6.out⟩⟩
          case measure => simp [intOf]; omega
        refine rcA (fun KK hKK => ?_) AllReady.nil
        · go_simp; refine hKK _ _ ?_; clear hKK KK; (try simp only [putr]); refine rdA [3, 11] ?_; refine rcA (fun KK hKK => ?_) ?_
          · go_simp; refine hKK _ _ ?_; clear hKK KK; (try simp only [putr]); refine rdA [11] ?_; refine rcA (fun KK hKK => ?_) AllReady.nil; go_simp; refine hKK _ _ ?_; clear hKK KK; (try simp only [putr]); refine rdA [12] ?_; refine rcA (fun KK hKK => ?_) AllReady.nil; go_simp; refine hKK _ _ ?_; clear hKK KK; (try simp only [putr]); refine rdA [13] ?_; refine rcA (fun KK hKK => ?_) AllReady.nil; go_simp
            go_fit (HWR.out _ HB5d.out)
            rintro e w6 ⟨rfl, M2, R2, hd, ht⟩
            refine hKK _ _ ?_; clear hKK KK
            have HW6 := hid ((H1.out.step HB5d.out).disk' hd ht)
            have HT6 := hid (HT1.out.trans' (Turns.behind HB5d.out ht))
            clear hd ht
            (try simp only [putr]); refine stA 14 ?_; (try simp only [putr]); refine wpAny_done (by kernel_rfl) ?_ _
            go_wp2_with fail
            go_roundw
            case rel => exact ⟨k + 1, g, a + 512, _, M2, R2, by go_num, hid (by have := HAK.out; omega), HZ1, HG, hid (by have := HPE.out; have := Dk.write_len s1 (p + (k : Int)) bb; omega), HKL, hid ⟨HW6.out, HT6.out⟩⟩
            case measure => simp [intOf]; omega
          refine rcA (fun KK hKK => ?_) AllReady.nil
          · go_simp; refine hKK _ _ ?_; clear hKK KK; (try simp only [putr]); refine rdA [3, 12] ?_; refine rcA (fun KK hKK => ?_) ?_
            · go_simp; refine hKK _ _ ?_; clear hKK KK; (try simp only [putr]); refine rdA [12] ?_; refine rcA (fun KK hKK => ?_) AllReady.nil; go_simp; refine hKK _ _ ?_; clear hKK KK; (try simp only [putr]); refine rdA [13] ?_; refine rcA (fun KK hKK => ?_) AllReady.nil; go_simp
              go_fit (HWR.out _ HB5d.out)
              rintro e w6 ⟨rfl, M2, R2, hd, ht⟩
              refine hKK _ _ ?_; clear hKK KK
              have HW6 := hid ((H1.out.step HB5d.out).disk' hd ht)
              have HT6 := hid (HT1.out.trans' (Turns.behind HB5d.out ht))
              clear hd ht
              (try simp only [putr]); refine stA 14 ?_; (try simp only [putr]); refine wpAny_done (by kernel_rfl) ?_ _
              go_wp2_with fail
              go_roundw
              case rel => exact ⟨k + 1, g, a + 512, _, M2, R2, by go_num, hid (by have := HAK.out; omega), HZ1, HG, hid (by have := HPE.out; have := Dk.write_len s1 (p + (k : Int)) bb; omega), HKL, hid ⟨HW6.out, HT6.out⟩⟩
              case measure => simp [intOf]; omega
            refine rcA (fun KK hKK => ?_) AllReady.nil
            · go_simp; refine hKK _ _ ?_; clear hKK KK; (try simp only [putr]); refine rdA [3] ?_; refine rcA (fun KK hKK => ?_) AllReady.nil; go_simp; refine hKK _ _ ?_; clear hKK KK; (try simp only [putr]); refine rdA [13] ?_; refine rcA (fun KK hKK => ?_) AllReady.nil; go_simp
              go_fit (HWR.out _ HB5d.out)
              rintro e w6 ⟨rfl, M2, R2, hd, ht⟩
              refine hKK _ _ ?_; clear hKK KK
              have HW6 := hid ((H1.out.step HB5d.out).disk' hd ht)
              have HT6 := hid (HT1.out.trans' (Turns.behind HB5d.out ht))
              clear hd ht
              (try simp only [putr]); refine stA 14 ?_; (try simp only [putr]); refine wpAny_done (by kernel_rfl) ?_ _
              go_wp2_with fail
              go_roundw
              case rel => exact ⟨k + 1, g, a + 512, _, M2, R2, by go_num, hid (by have := HAK.out; omega), HZ1, HG, hid (by have := HPE.out; have := Dk.write_len s1 (p + (k : Int)) bb; omega), HKL, hid ⟨HW6.out, HT6.out⟩⟩
              case measure => simp [intOf]; omega
      · rw [if_neg hwy] at HZ1
        obtain ⟨e1, he1⟩ : ∃ e, e = s1.why (p + (k : Int)) bb := ⟨_, rfl⟩
        have HSE1 := hid (show s1.write (p + (k : Int)) bb = s1 from if_neg hwy)
        rw [← he1] at hwy HZ1 HWR
        rw [HSE1.out] at HWR
        have hne : ((e1 : Int) != 0) = true := by simp; omega
        clear hwy he1
        go_wp2_with fail
        go_fit (HSE.out wr (Below.refl _ _))
        rintro e w5 ⟨rfl, hb5⟩
        have HB5 := hid hb5
        have HB5d := hid (show Below wr.heap.size wr w5.drew from below_step hb5 (Beyond.drew w5))
        have x0 := HX.out w5 hb5
        clear hb5
        go_wp2_with fail
        refine wp_region_any (by kernel_rfl) ?_
        try (change wpAny _ _ _ _ _ _ _ (World.drew _))
        refine stA 0 ?_; (try simp only [putr]); refine stA 1 ?_; (try simp only [putr]); refine stA 2 ?_; (try simp only [putr]); refine stA 4 ?_; (try simp only [putr]); refine stA 5 ?_; (try simp only [putr]); refine stA 6 ?_; (try simp only [putr]); refine stA 7 ?_; (try simp only [putr]); refine stA 8 ?_; (try simp only [putr]); refine stA 9 ?_; (try simp only [putr]); refine rdA [3, 10] ?_; refine rcA (fun KK hKK => ?_) ?_
        · go_simp; refine hKK _ _ ?_; clear hKK KK; (try simp only [putr]); refine rdA [10] ?_; refine rcA (fun KK hKK => ?_) AllReady.nil; go_simp; refine hKK _ _ ?_; clear hKK KK; (try simp only [putr]); refine rdA [11] ?_; refine rcA (fun KK hKK => ?_) AllReady.nil; go_simp; refine hKK _ _ ?_; clear hKK KK; (try simp only [putr]); refine rdA [12] ?_; refine rcA (fun KK hKK => ?_) AllReady.nil; go_simp; refine hKK _ _ ?_; clear hKK KK; (try simp only [putr]); refine rdA [13] ?_; refine rcA (fun KK hKK => ?_) AllReady.nil; go_simp
          go_fit (HWR.out _ HB5d.out)
          rintro e w6 ⟨rfl, M2, R2, hd, ht⟩
          refine hKK _ _ ?_; clear hKK KK
          have HW6 := hid ((H1.out.step HB5d.out).disk' hd ht)
          have HT6 := hid (HT1.out.trans' (Turns.behind HB5d.out ht))
          clear hd ht
          (try simp only [putr]); refine stA 14 ?_; (try simp only [putr]); refine wpAny_done (by kernel_rfl) ?_ _
          go_wp2_with fail
          go_ret
          rw [HZ1.out]
          exact ⟨rfl, M2, R2, HW6.out, HT6.out⟩
        refine rcA (fun KK hKK => ?_) AllReady.nil
        · go_simp; refine hKK _ _ ?_; clear hKK KK; (try simp only [putr]); refine rdA [3, 11] ?_; refine rcA (fun KK hKK => ?_) ?_
          · go_simp; refine hKK _ _ ?_; clear hKK KK; (try simp only [putr]); refine rdA [11] ?_; refine rcA (fun KK hKK => ?_) AllReady.nil; go_simp; refine hKK _ _ ?_; clear hKK KK; (try simp only [putr]); refine rdA [12] ?_; refine rcA (fun KK hKK => ?_) AllReady.nil; go_simp; refine hKK _ _ ?_; clear hKK KK; (try simp only [putr]); refine rdA [13] ?_; refine rcA (fun KK hKK => ?_) AllReady.nil; go_simp
            go_fit (HWR.out _ HB5d.out)
            rintro e w6 ⟨rfl, M2, R2, hd, ht⟩
            refine hKK _ _ ?_; clear hKK KK
            have HW6 := hid ((H1.out.step HB5d.out).disk' hd ht)
            have HT6 := hid (HT1.out.trans' (Turns.behind HB5d.out ht))
            clear hd ht
            (try simp only [putr]); refine stA 14 ?_; (try simp only [putr]); refine wpAny_done (by kernel_rfl) ?_ _
            go_wp2_with fail
            go_ret
            rw [HZ1.out]
            exact ⟨rfl, M2, R2, HW6.out, HT6.out⟩
          refine rcA (fun KK hKK => ?_) AllReady.nil
          · go_simp; refine hKK _ _ ?_; clear hKK KK; (try simp only [putr]); refine rdA [3, 12] ?_; refine rcA (fun KK hKK => ?_) ?_
            · go_simp; refine hKK _ _ ?_; clear hKK KK; (try simp only [putr]); refine rdA [12] ?_; refine rcA (fun KK hKK => ?_) AllReady.nil; go_simp; refine hKK _ _ ?_; clear hKK KK; (try simp only [putr]); refine rdA [13] ?_; refine rcA (fun KK hKK => ?_) AllReady.nil; go_simp
              go_fit (HWR.out _ HB5d.out)
              rintro e w6 ⟨rfl, M2, R2, hd, ht⟩
              refine hKK _ _ ?_; clear hKK KK
              have HW6 := hid ((H1.out.step HB5d.out).disk' hd ht)
              have HT6 := hid (HT1.out.trans' (Turns.behind HB5d.out ht))
              clear hd ht
              (try simp only [putr]); refine stA 14 ?_; (try simp only [putr]); refine wpAny_done (by kernel_rfl) ?_ _
              go_wp2_with fail
              go_ret
              rw [HZ1.out]
              exact ⟨rfl, M2, R2, HW6.out, HT6.out⟩
            refine rcA (fun KK hKK => ?_) AllReady.nil
            · go_simp; refine hKK _ _ ?_; clear hKK KK; (try simp only [putr]); refine rdA [3] ?_; refine rcA (fun KK hKK => ?_) AllReady.nil; go_simp; refine hKK _ _ ?_; clear hKK KK; (try simp only [putr]); refine rdA [13] ?_; refine rcA (fun KK hKK => ?_) AllReady.nil; go_simp
              go_fit (HWR.out _ HB5d.out)
              rintro e w6 ⟨rfl, M2, R2, hd, ht⟩
              refine hKK _ _ ?_; clear hKK KK
              have HW6 := hid ((H1.out.step HB5d.out).disk' hd ht)
              have HT6 := hid (HT1.out.trans' (Turns.behind HB5d.out ht))
              clear hd ht
              (try simp only [putr]); refine stA 14 ?_; (try simp only [putr]); refine wpAny_done (by kernel_rfl) ?_ _
              go_wp2_with fail
              go_ret
              rw [HZ1.out]
              exact ⟨rfl, M2, R2, HW6.out, HT6.out⟩
    · have HZE := hid (show Z = (s1, 0) from HZ1.out.trans (wrSt_end (by rw [← HAK.out, ← HM.out]; exact hlt)))
      have H1 := hid hw1
      have HT1 := hid ht1
      clear hw1 ht1 hl HWT
      go_wp2_with fail
      go_ret
      rw [HZE.out]
      exact ⟨rfl, M1, R1, H1.out, HT1.out⟩

end Go.Proofs.YtobmdmbjmjdfjaaGreatDoor
