/-
  The bytes of a segment are read.
-/
import Derived.Test.YtobmdmbjmjdfjaaGreatDoorWFree
import Derived.Test.YtobmdmbjmjdfjaaGreatDoorJBytes
namespace Go.Proofs.YtobmdmbjmjdfjaaGreatDoor
open Go Go.RowKit

theorem DA6.view_le {w : World} {d : Nat} {M R : Nat → Prop} {s : Dk} (h : DA6 w d M R s) {i : Int} {b : List UInt8} (hb : s.view i = some b) : b.length ≤ 512 ∧ 0 ≤ i ∧ i < (s.size : Int) := by
  obtain ⟨g, c, A, n, cap, ch, nc, fs, hd⟩ := h
  have := hd.pl.inV i (by rw [hb]; simp)
  exact ⟨hd.pl.lenV i b hb, this.1, this.2⟩
theorem segB_none1 {m : Secs} {k : Nat} {p : Int} (h : m p = none) : segB m (k + 1) p = [] := by unfold segB; rw [h]
theorem segB_some {m : Secs} {k : Nat} {p : Int} {b : List UInt8} (h : m p = some b) : segB m (k + 1) p = if b.length < 512 then b else b ++ segB m k (p + 1) := by rw [segB]; simp only [h]
set_option maxHeartbeats 8000000 in
set_option maxRecDepth 100000 in
theorem read_log {w : World} {b d : Nat} {N M R : Nat → Prop} {s : Dk} {l : Wl} (h : WA w b d N M R s l) {i : Nat} (hi : i ≤ l.n) :
    Calls Tryz.prog 73 #[.pointer (some ⟨b, 0, none⟩), .int .i64 (i : Int)] w fun e w' => ∃ A m c, e = .returned (.slice A m c) ∧ Row w' w.heap.size 5 A m c (segB s.view l.size (l.place i)) ∧ Below w.heap.size w w' := by
  obtain ⟨A, c, C, cc, hl⟩ := h.log
  have HH := hid h
  have HI := hid hi
  obtain ⟨n, hn⟩ : ∃ n, n = l.size := ⟨_, rfl⟩
  have HN := hid hn
  obtain ⟨p, hpl⟩ : ∃ p : Int, p = l.place i := ⟨_, rfl⟩
  have HPL := hid hpl
  have hsz : n ≤ 64 := by rw [hn]; exact hl.pl.size
  have HQ := hid (show 0 ≤ p ∧ p ≤ 65536 by have := hl.pl.at_ hi; rw [hpl]; unfold Wl.place; omega)
  have x3 := hl.blk.cell 3
  have HL := hid hl
  rw [← hn] at x3
  rw [← hpl, ← hn]
  have HVS := hid (fun (q : Int) (x : List UInt8) (hx : s.view q = some x) => (h.disk.view_le hx).1)
  obtain ⟨Z, hZ⟩ : ∃ Z, Z = segB s.view n p := ⟨_, rfl⟩
  rw [← hZ]
  have HZ := hid hZ
  clear h hl hn hi hpl hZ
  go_enter Tryz.func73, Tryz.ntmps73
  go_wp2_with fail
  go_loopw [5, 13] (fun a j wr => ∃ (k : Nat) (acc : List UInt8) (A : Option Addr) (m c : Nat), k ≤ n ∧ a = .slice A m c ∧ j = .int .i64 (k : Int) ∧ Kept (Row wr w.heap.size 5 A m c acc) ∧ Kept (Z = acc ++ segB s.view (n - k) (p + (k : Int))) ∧ Kept (acc.length ≤ 512 * k) ∧ Kept (Below w.heap.size w wr)) (fun _ j _ => n - (intOf j).toNat)
  case atStart => exact ⟨0, [], none, 0, 0, Nat.zero_le _, rfl, rfl, hid ⟨rfl, World.ownsRow_nil _ _ _ _⟩, hid (by rw [HZ.out]; simp), hid (Nat.zero_le _), hid (Below.refl _ _)⟩
  case round =>
    obtain ⟨k, acc, A1, m1, c1, hk, rfl, rfl, HR, HS, HLE, HB⟩ := hrel
    by_cases hlt : k < n
    · have hw : IntKind.i64.wrap (p + (k : Int)) = p + (k : Int) := by rw [IntKind.wrap_i64]; have := HQ.out; omega
      have x0 := (HL.out.below HB.out).blk.cell 0
      have HSE := hid (fun (W : World) (hW : Below wr.heap.size wr W) => sector_is ((HL.out.below HB.out).below hW) HI.out)
      rw [← HPL.out] at HSE
      have HRD := hid (fun (W : World) (hW : Below wr.heap.size wr W) => face.read (i := p + (k : Int)) ((HH.out.disk.step HB.out).step hW))
      have HX := hid (fun (W : World) (hW : Below wr.heap.size wr W) => ((HL.out.below HB.out).below hW).blk.cell 0)
      have hnk : n - k = (n - (k + 1)) + 1 := by omega
      cases hv : s.view (p + (k : Int)) with
      | none =>
        have HE := hid (show acc = Z by rw [HS.out, hnk, segB_none1 hv, List.append_nil])
        simp only [hv] at HRD
        clear HS hnk hv
        go_wp2_with fail
        refine wp_region_any (by kernel_rfl) ?_
        try (change wpAny _ _ _ _ _ _ _ (World.drew _))
        refine stA 0 ?_; (try simp only [putr]); refine stA 1 ?_; (try simp only [putr]); refine stA 2 ?_; (try simp only [putr]); refine stA 4 ?_; (try simp only [putr]); refine stA 5 ?_; (try simp only [putr]); refine stA 7 ?_; (try simp only [putr]); refine rdA [3, 6] ?_; refine rcA (fun KK hKK => ?_) ?_
        · go_simp; refine hKK _ _ ?_; clear hKK KK; (try simp only [putr]); refine rdA [6] ?_; refine rcA (fun KK hKK => ?_) AllReady.nil; go_simp
          go_fit (HSE.out _ (Beyond.drew wr))
          rintro e w5 ⟨rfl, hb5⟩
          refine hKK _ _ ?_; clear hKK KK
          have HB5 := hid (below_step (Beyond.drew wr) hb5)
          have x0 := HX.out w5 HB5.out
          clear hb5
          (try simp only [putr]); refine stA 8 ?_; (try simp only [putr]); refine rdA [9] ?_; refine rcA (fun KK hKK => ?_) AllReady.nil; go_simp
          go_fit (HRD.out _ HB5.out)
          rintro e w6 ⟨rfl, hb6⟩
          refine hKK _ _ ?_; clear hKK KK
          have HB6 := hid (HB.out.trans ((below_step HB5.out hb6).mono HB.out.size))
          have HR6 := hid (HR.out.below (below_step HB5.out hb6))
          clear hb6
          refine stA 10 ?_; (try simp only [putr]); refine stA 11 ?_; (try simp only [putr]); refine stA 12 ?_; (try simp only [putr]); refine stA 13 ?_; (try simp only [putr]); refine stA 14 ?_; (try simp only [putr]); refine wpAny_done (by kernel_rfl) ?_ _
          go_wp2_with (at_builtin; go_must (refine wpList_append_row _ rfl _ _ rfl w.heap.size rfl HR6.out rfl (show 0 = ([] : List UInt8).length from rfl) (fun h => absurd h (by simp)) (by have := HLE.out; simp; omega) HB6.out.size ?_); intro A8 m8 c8 w8 hr8 hc8 hb8)
          rw [List.append_nil] at hr8
          have HR8 := hid hr8
          have HB8 := hid (HB6.out.trans hb8)
          clear hr8 hb8
          go_wp2_with fail
          go_ret
          rw [← HE.out]
          exact ⟨_, _, _, rfl, HR8.out, HB8.out⟩
        refine rcA (fun KK hKK => ?_) AllReady.nil
        · go_simp
          go_fit (HSE.out _ (Beyond.drew wr))
          rintro e w5 ⟨rfl, hb5⟩
          refine hKK _ _ ?_; clear hKK KK
          have HB5 := hid (below_step (Beyond.drew wr) hb5)
          have x0 := HX.out w5 HB5.out
          clear hb5
          (try simp only [putr]); refine stA 8 ?_; (try simp only [putr]); refine rdA [3] ?_; refine rcA (fun KK hKK => ?_) AllReady.nil; go_simp; refine hKK _ _ ?_; clear hKK KK; (try simp only [putr]); refine rdA [9] ?_; refine rcA (fun KK hKK => ?_) AllReady.nil; go_simp
          go_fit (HRD.out _ HB5.out)
          rintro e w6 ⟨rfl, hb6⟩
          refine hKK _ _ ?_; clear hKK KK
          have HB6 := hid (HB.out.trans ((below_step HB5.out hb6).mono HB.out.size))
          have HR6 := hid (HR.out.below (below_step HB5.out hb6))
          clear hb6
          refine stA 10 ?_; (try simp only [putr]); refine stA 11 ?_; (try simp only [putr]); refine stA 12 ?_; (try simp only [putr]); refine stA 13 ?_; (try simp only [putr]); refine stA 14 ?_; (try simp only [putr]); refine wpAny_done (by kernel_rfl) ?_ _
          go_wp2_with (at_builtin; go_must (refine wpList_append_row _ rfl _ _ rfl w.heap.size rfl HR6.out rfl (show 0 = ([] : List UInt8).length from rfl) (fun h => absurd h (by simp)) (by have := HLE.out; simp; omega) HB6.out.size ?_); intro A8 m8 c8 w8 hr8 hc8 hb8)
          rw [List.append_nil] at hr8
          have HR8 := hid hr8
          have HB8 := hid (HB6.out.trans hb8)
          clear hr8 hb8
          go_wp2_with fail
          go_ret
          rw [← HE.out]
          exact ⟨_, _, _, rfl, HR8.out, HB8.out⟩
      | some x =>
        have hxl := HVS.out _ x hv
        have hsb := segB_some (k := n - (k + 1)) hv
        simp only [hv] at HRD
        clear hv
        by_cases hx : x.length < 512
        · have HE := hid (show acc ++ x = Z by rw [HS.out, hnk, hsb, if_pos hx])
          have HXL := hid hxl
          clear HS hnk hsb hxl
          go_wp2_with fail
          refine wp_region_any (by kernel_rfl) ?_
          try (change wpAny _ _ _ _ _ _ _ (World.drew _))
          refine stA 0 ?_; (try simp only [putr]); refine stA 1 ?_; (try simp only [putr]); refine stA 2 ?_; (try simp only [putr]); refine stA 4 ?_; (try simp only [putr]); refine stA 5 ?_; (try simp only [putr]); refine stA 7 ?_; (try simp only [putr]); refine rdA [3, 6] ?_; refine rcA (fun KK hKK => ?_) ?_
          · go_simp; refine hKK _ _ ?_; clear hKK KK; (try simp only [putr]); refine rdA [6] ?_; refine rcA (fun KK hKK => ?_) AllReady.nil; go_simp
            go_fit (HSE.out _ (Beyond.drew wr))
            rintro e w5 ⟨rfl, hb5⟩
            refine hKK _ _ ?_; clear hKK KK
            have HB5 := hid (below_step (Beyond.drew wr) hb5)
            have x0 := HX.out w5 HB5.out
            clear hb5
            (try simp only [putr]); refine stA 8 ?_; (try simp only [putr]); refine rdA [9] ?_; refine rcA (fun KK hKK => ?_) AllReady.nil; go_simp
            go_fit (HRD.out _ HB5.out)
            rintro e w6 ⟨⟨A6, n6, c6, rfl, hA6, hn6, hc6⟩, hb6⟩
            refine hKK _ _ ?_; clear hKK KK
            have HB6 := hid (HB.out.trans ((below_step HB5.out hb6).mono HB.out.size))
            have HR6 := hid (HR.out.below (below_step HB5.out hb6))
            have HA6 := hid hA6
            have HN6 := hid hn6
            have HZ6 := hid HB6.out.size
            clear hb6 hA6
            refine stA 10 ?_; (try simp only [putr]); refine stA 11 ?_; (try simp only [putr]); refine stA 12 ?_; (try simp only [putr]); refine stA 13 ?_; (try simp only [putr]); refine stA 14 ?_; (try simp only [putr]); refine wpAny_done (by kernel_rfl) ?_ _
            clear hn6
            go_wp2_with (at_builtin; go_must (refine wpList_append_row _ rfl _ _ rfl w.heap.size rfl HR6.out rfl (show x.length = x.length from rfl) HA6.out (by have := HLE.out; have := HXL.out; omega) HZ6.out ?_); intro A8 m8 c8 w8 hr8 hc8 hb8)
            have HR8 := hid hr8
            have HB8 := hid (HB6.out.trans hb8)
            clear hr8 hb8
            go_wp2_with fail
            go_ret
            rw [← HE.out]
            exact ⟨_, _, _, rfl, HR8.out, HB8.out⟩
          refine rcA (fun KK hKK => ?_) AllReady.nil
          · go_simp
            go_fit (HSE.out _ (Beyond.drew wr))
            rintro e w5 ⟨rfl, hb5⟩
            refine hKK _ _ ?_; clear hKK KK
            have HB5 := hid (below_step (Beyond.drew wr) hb5)
            have x0 := HX.out w5 HB5.out
            clear hb5
            (try simp only [putr]); refine stA 8 ?_; (try simp only [putr]); refine rdA [3] ?_; refine rcA (fun KK hKK => ?_) AllReady.nil; go_simp; refine hKK _ _ ?_; clear hKK KK; (try simp only [putr]); refine rdA [9] ?_; refine rcA (fun KK hKK => ?_) AllReady.nil; go_simp
            go_fit (HRD.out _ HB5.out)
            rintro e w6 ⟨⟨A6, n6, c6, rfl, hA6, hn6, hc6⟩, hb6⟩
            refine hKK _ _ ?_; clear hKK KK
            have HB6 := hid (HB.out.trans ((below_step HB5.out hb6).mono HB.out.size))
            have HR6 := hid (HR.out.below (below_step HB5.out hb6))
            have HA6 := hid hA6
            have HN6 := hid hn6
            have HZ6 := hid HB6.out.size
            clear hb6 hA6
            refine stA 10 ?_; (try simp only [putr]); refine stA 11 ?_; (try simp only [putr]); refine stA 12 ?_; (try simp only [putr]); refine stA 13 ?_; (try simp only [putr]); refine stA 14 ?_; (try simp only [putr]); refine wpAny_done (by kernel_rfl) ?_ _
            clear hn6
            go_wp2_with (at_builtin; go_must (refine wpList_append_row _ rfl _ _ rfl w.heap.size rfl HR6.out rfl (show x.length = x.length from rfl) HA6.out (by have := HLE.out; have := HXL.out; omega) HZ6.out ?_); intro A8 m8 c8 w8 hr8 hc8 hb8)
            have HR8 := hid hr8
            have HB8 := hid (HB6.out.trans hb8)
            clear hr8 hb8
            go_wp2_with fail
            go_ret
            rw [← HE.out]
            exact ⟨_, _, _, rfl, HR8.out, HB8.out⟩
        · have HE := hid (show Z = (acc ++ x) ++ segB s.view (n - (k + 1)) (p + ((k + 1 : Nat) : Int)) by rw [HS.out, hnk, hsb, if_neg hx, List.append_assoc]; rw [show p + (k : Int) + 1 = p + ((k + 1 : Nat) : Int) by omega])
          have HXL := hid hxl
          clear HS hnk hsb hxl
          go_wp2_with fail
          refine wp_region_any (by kernel_rfl) ?_
          try (change wpAny _ _ _ _ _ _ _ (World.drew _))
          refine stA 0 ?_; (try simp only [putr]); refine stA 1 ?_; (try simp only [putr]); refine stA 2 ?_; (try simp only [putr]); refine stA 4 ?_; (try simp only [putr]); refine stA 5 ?_; (try simp only [putr]); refine stA 7 ?_; (try simp only [putr]); refine rdA [3, 6] ?_; refine rcA (fun KK hKK => ?_) ?_
          · go_simp; refine hKK _ _ ?_; clear hKK KK; (try simp only [putr]); refine rdA [6] ?_; refine rcA (fun KK hKK => ?_) AllReady.nil; go_simp
            go_fit (HSE.out _ (Beyond.drew wr))
            rintro e w5 ⟨rfl, hb5⟩
            refine hKK _ _ ?_; clear hKK KK
            have HB5 := hid (below_step (Beyond.drew wr) hb5)
            have x0 := HX.out w5 HB5.out
            clear hb5
            (try simp only [putr]); refine stA 8 ?_; (try simp only [putr]); refine rdA [9] ?_; refine rcA (fun KK hKK => ?_) AllReady.nil; go_simp
            go_fit (HRD.out _ HB5.out)
            rintro e w6 ⟨⟨A6, n6, c6, rfl, hA6, hn6, hc6⟩, hb6⟩
            refine hKK _ _ ?_; clear hKK KK
            have HB6 := hid (HB.out.trans ((below_step HB5.out hb6).mono HB.out.size))
            have HR6 := hid (HR.out.below (below_step HB5.out hb6))
            have HA6 := hid hA6
            have HN6 := hid hn6
            have HZ6 := hid HB6.out.size
            clear hb6 hA6
            refine stA 10 ?_; (try simp only [putr]); refine stA 11 ?_; (try simp only [putr]); refine stA 12 ?_; (try simp only [putr]); refine stA 13 ?_; (try simp only [putr]); refine stA 14 ?_; (try simp only [putr]); refine wpAny_done (by kernel_rfl) ?_ _
            clear hn6
            go_wp2_with (at_builtin; go_must (refine wpList_append_row _ rfl _ _ rfl w.heap.size rfl HR6.out rfl (show x.length = x.length from rfl) HA6.out (by have := HLE.out; have := HXL.out; omega) HZ6.out ?_); intro A8 m8 c8 w8 hr8 hc8 hb8)
            have HR8 := hid hr8
            have HB8 := hid (HB6.out.trans hb8)
            clear hr8 hb8
            go_wp2_with fail
            go_roundw
            case rel => exact ⟨k + 1, acc ++ x, A8, m8, c8, by omega, rfl, by go_num, HR8, HE, hid (by rw [List.length_append]; have := HLE.out; have := HXL.out; omega), HB8⟩
            case measure => simp [intOf]; omega
          refine rcA (fun KK hKK => ?_) AllReady.nil
          · go_simp
            go_fit (HSE.out _ (Beyond.drew wr))
            rintro e w5 ⟨rfl, hb5⟩
            refine hKK _ _ ?_; clear hKK KK
            have HB5 := hid (below_step (Beyond.drew wr) hb5)
            have x0 := HX.out w5 HB5.out
            clear hb5
            (try simp only [putr]); refine stA 8 ?_; (try simp only [putr]); refine rdA [3] ?_; refine rcA (fun KK hKK => ?_) AllReady.nil; go_simp; refine hKK _ _ ?_; clear hKK KK; (try simp only [putr]); refine rdA [9] ?_; refine rcA (fun KK hKK => ?_) AllReady.nil; go_simp
            go_fit (HRD.out _ HB5.out)
            rintro e w6 ⟨⟨A6, n6, c6, rfl, hA6, hn6, hc6⟩, hb6⟩
            refine hKK _ _ ?_; clear hKK KK
            have HB6 := hid (HB.out.trans ((below_step HB5.out hb6).mono HB.out.size))
            have HR6 := hid (HR.out.below (below_step HB5.out hb6))
            have HA6 := hid hA6
            have HN6 := hid hn6
            have HZ6 := hid HB6.out.size
            clear hb6 hA6
            refine stA 10 ?_; (try simp only [putr]); refine stA 11 ?_; (try simp only [putr]); refine stA 12 ?_; (try simp only [putr]); refine stA 13 ?_; (try simp only [putr]); refine stA 14 ?_; (try simp only [putr]); refine wpAny_done (by kernel_rfl) ?_ _
            clear hn6
            go_wp2_with (at_builtin; go_must (refine wpList_append_row _ rfl _ _ rfl w.heap.size rfl HR6.out rfl (show x.length = x.length from rfl) HA6.out (by have := HLE.out; have := HXL.out; omega) HZ6.out ?_); intro A8 m8 c8 w8 hr8 hc8 hb8)
            have HR8 := hid hr8
            have HB8 := hid (HB6.out.trans hb8)
            clear hr8 hb8
            go_wp2_with fail
            go_roundw
            case rel => exact ⟨k + 1, acc ++ x, A8, m8, c8, by omega, rfl, by go_num, HR8, HE, hid (by rw [List.length_append]; have := HLE.out; have := HXL.out; omega), HB8⟩
            case measure => simp [intOf]; omega
    · have HE := hid (show acc = Z by rw [HS.out, show n - k = 0 by omega]; simp [segB])
      clear HS HLE
      go_wp2_with fail
      go_ret
      rw [← HE.out]
      exact ⟨_, _, _, rfl, HR.out, HB.out⟩

end Go.Proofs.YtobmdmbjmjdfjaaGreatDoor
