/-
  A segment's sectors given back.
-/
import Derived.Test.YtobmdmbjmjdfjaaGreatDoorWUses
namespace Go.Proofs.YtobmdmbjmjdfjaaGreatDoor
open Go Go.RowKit

theorem freeN_len (s : Dk) (p : Int) : ∀ k, (freeN s p k).pend.length ≤ s.pend.length + k
  | 0 => Nat.le_refl _
  | k + 1 => by
    have ih := freeN_len s p k
    unfold freeN Dk.free
    split
    · omega
    · simp; omega
set_option maxHeartbeats 8000000 in
set_option maxRecDepth 100000 in
theorem free_log {w : World} {b d : Nat} {N M R : Nat → Prop} {s : Dk} {l : Wl} (h : WA w b d N M R s l) {i : Nat} (hi : i ≤ l.n) (hp : s.pend.length ≤ 900000) :
    Calls Tryz.prog 27 #[.pointer (some ⟨b, 0, none⟩), .int .i64 (i : Int)] w fun e w' => e = .returned (.tuple #[]) ∧ ∃ M' R', WA w' b d N M' R' (freeN s (l.place i) l.size) l ∧ LTurns N M R w N M' R' w' := by
  have HW := hid h
  have HI := hid hi
  have HP := hid hp
  obtain ⟨n, hn⟩ : ∃ n, n = l.size := ⟨_, rfl⟩
  have HN := hid hn
  obtain ⟨p, hpl⟩ : ∃ p : Int, p = l.place i := ⟨_, rfl⟩
  have HPL := hid hpl
  obtain ⟨A, c, C, cc, hl⟩ := h.log
  have hsz : n ≤ 64 := by rw [hn]; exact hl.pl.size
  have HQ := hid (show 0 ≤ p ∧ p ≤ 65536 by have := hl.pl.at_ hi; rw [hpl]; unfold Wl.place; omega)
  have x3 := hl.blk.cell 3
  rw [← hn] at x3
  rw [← hpl, ← hn]
  clear h hl hn hi hp hpl
  go_enter Tryz.func27, Tryz.ntmps27
  go_wp2_with fail
  go_loopw [9] (fun j wr => ∃ k : Nat, k ≤ n ∧ j = .int .i64 (k : Int) ∧ Kept (∃ M' R', WA wr b d N M' R' (freeN s p k) l ∧ LTurns N M R w N M' R' wr)) (fun j _ => n - (intOf j).toNat)
  case atStart => exact ⟨0, Nat.zero_le _, rfl, hid ⟨M, R, HW.out, LTurns.refl _ _ _ _⟩⟩
  case round =>
    obtain ⟨k, hk, rfl, HK⟩ := hrel
    obtain ⟨M1, R1, h1, ht1⟩ := HK.out
    obtain ⟨A, c, C, cc, hl⟩ := h1.log
    by_cases hlt : k < n
    · have hw : IntKind.i64.wrap (p + (k : Int)) = p + (k : Int) := by rw [IntKind.wrap_i64]; have := HQ.out; omega
      have x0 := hl.blk.cell 0
      have HSE := hid (fun (W : World) (hW : Below wr.heap.size wr W) => sector_is (hl.below hW) HI.out)
      rw [← HPL.out] at HSE
      have HFR := hid (fun (W : World) (hW : Below wr.heap.size wr W) => face.free (i := p + (k : Int)) (h1.disk.step hW) (by have := freeN_len s p k; have := HP.out; omega))
      have HX := hid (fun (W : World) (hW : Below wr.heap.size wr W) => (hl.below hW).blk.cell 0)
      have H1 := hid h1
      have HT1 := hid ht1
      clear h1 ht1 hl HK
      go_wp2_with fail
      refine wp_region_any (by kernel_rfl) ?_
      try (change wpAny _ _ _ _ _ _ _ (World.drew _))
      refine stA 0 ?_; (try simp only [putr]); refine stA 1 ?_; (try simp only [putr]); refine stA 2 ?_; (try simp only [putr]); refine stA 4 ?_; (try simp only [putr]); refine stA 5 ?_; (try simp only [putr]); refine stA 7 ?_; (try simp only [putr]); refine rdA [3, 6] ?_; refine rcA (fun KK hKK => ?_) ?_
      · go_simp; refine hKK _ _ ?_; clear hKK KK; (try simp only [putr]); refine rdA [6] ?_; refine rcA (fun KK hKK => ?_) AllReady.nil; go_simp
        go_fit (HSE.out _ (Beyond.drew wr))
        rintro e w5 ⟨rfl, hb5⟩
        refine hKK _ _ ?_; clear hKK KK
        have HB5 := hid (below_step (Beyond.drew wr) hb5)
        have x0 := HX.out w5 HB5.out
        clear hb5
        (try simp only [putr]); refine stA 8 ?_; (try simp only [putr]); refine rdA [9] ?_; refine rcA (fun KK hKK => ?_) AllReady.nil; go_simp
        go_fit (HFR.out _ HB5.out)
        rintro e w6 ⟨rfl, M', R', hd, ht⟩
        refine hKK _ _ ?_; clear hKK KK
        have HW6 := hid ((H1.out.step HB5.out).disk' hd ht)
        have HT6 := hid (HT1.out.trans (LTurns.behind HB5.out (LTurns.of_turns (N := N) ht)))
        clear hd ht
        (try simp only [putr]); refine wpAny_done (by kernel_rfl) ?_ _
        go_wp2_with fail
        go_roundw
        case rel => exact ⟨k + 1, by omega, by go_num, hid ⟨M', R', HW6.out, HT6.out⟩⟩
        case measure => simp [intOf]; omega
      refine rcA (fun KK hKK => ?_) AllReady.nil
      · go_simp
        go_fit (HSE.out _ (Beyond.drew wr))
        rintro e w5 ⟨rfl, hb5⟩
        refine hKK _ _ ?_; clear hKK KK
        have HB5 := hid (below_step (Beyond.drew wr) hb5)
        have x0 := HX.out w5 HB5.out
        clear hb5
        (try simp only [putr]); refine stA 8 ?_; (try simp only [putr]); refine rdA [3] ?_; refine rcA (fun KK hKK => ?_) AllReady.nil; go_simp; refine hKK _ _ ?_; clear hKK KK; (try simp only [putr]); refine rdA [9] ?_; refine rcA (fun KK hKK => ?_) AllReady.nil; go_simp
        go_fit (HFR.out _ HB5.out)
        rintro e w6 ⟨rfl, M', R', hd, ht⟩
        refine hKK _ _ ?_; clear hKK KK
        have HW6 := hid ((H1.out.step HB5.out).disk' hd ht)
        have HT6 := hid (HT1.out.trans (LTurns.behind HB5.out (LTurns.of_turns (N := N) ht)))
        clear hd ht
        (try simp only [putr]); refine wpAny_done (by kernel_rfl) ?_ _
        go_wp2_with fail
        go_roundw
        case rel => exact ⟨k + 1, by omega, by go_num, hid ⟨M', R', HW6.out, HT6.out⟩⟩
        case measure => simp [intOf]; omega
    · obtain rfl : k = n := by omega
      have H1 := hid h1
      have HT1 := hid ht1
      clear h1 ht1 hl HK
      go_wp2_with fail
      go_end0
      exact ⟨rfl, M1, R1, H1.out, HT1.out⟩

end Go.Proofs.YtobmdmbjmjdfjaaGreatDoor
