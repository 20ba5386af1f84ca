/-
  MetaWrites: its walk.
-/
import Derived.Test.YtngclmjefadokaaDoorMAwake
import Derived.Test.YtngclmjefadokaaDoorSAt
namespace Go.Proofs.YtngclmjefadokaaDoor
open Go Go.RowKit

set_option maxHeartbeats 16000000 in
set_option maxRecDepth 100000 in
theorem mwrites_walk (L : List (List UInt8)) (p : Nat) (A : Option Addr) (c : Nat) (w : World) (hp : p < 65536) (hA : SAt w w.heap.size A L) (hc : L.length ≤ c) (hT : Table w) :
    Calls Tryd.prog 5 #[.slice A L.length c, .int .u16 (p : Int)] w fun e w' => e = .returned (.bool true) ∧ Below w.heap.size w w' := by
  have HT := hid hT
  have HA := hid hA
  have HC := hid hc
  have HAW := hid (show ∀ W : World, Below w.heap.size w W → Calls Tryd.prog 8 #[] W fun e w' => e = .returned (.bool true) ∧ Below W.heap.size W w' from fun W hW => mawake_yes W (hT.step hW))
  have HNew := hid (face.newYes (n := 65536) (w := w) (by decide) (by decide))
  rw [show ((65536 : Nat) : Int) = 65536 from rfl] at HNew
  obtain ⟨n, hn⟩ : ∃ n, L.length = n := ⟨_, rfl⟩
  have HML := hid hn
  rw [hn]
  clear hA hT hn hc
  have hwp : IntKind.i64.wrap (p : Int) = (p : Int) := by rw [IntKind.wrap_i64]; omega
  by_cases hl : n > 20
  · go_enter Tryd.func5, Tryd.ntmps5
    go_wp2_with fail
    go_fit HNew.out
    rintro e w1 ⟨d, M, R, rfl, hd, hnew, hb1⟩
    have HD1 := hid hd
    have HN1 := hid hnew
    have HB1 := hid hb1
    clear hd hnew hb1
    go_wp2_with fail
    go_fit (HAW.out w1 HB1.out)
    rintro e w2 ⟨rfl, hb2⟩
    have HD2 := hid (HD1.out.step hb2)
    have HB2 := hid (below_step HB1.out hb2)
    clear hb2 HD1 HB1
    go_wp2_with fail
    go_fit (HAW.out w2 HB2.out)
    rintro e w3 ⟨rfl, hb3⟩
    go_wp2_with fail
    go_ret
    exact ⟨rfl, below_step HB2.out hb3⟩
  by_cases hpl : p > 65534
  · have hpi : (p : Int) > 65534 := by omega
    have HNO := hid (fun (W : World) (d : Nat) => meta_no (w := W) (d := d) (a := (p : Int)) (.inr hpi))
    go_enter Tryd.func5, Tryd.ntmps5
    go_wp2_with fail
    go_fit HNew.out
    rintro e w1 ⟨d, M, R, rfl, hd, hnew, hb1⟩
    have HD1 := hid hd
    have HN1 := hid hnew
    have HB1 := hid hb1
    clear hd hnew hb1
    go_wp2_with fail
    go_fit (HAW.out w1 HB1.out)
    rintro e w2 ⟨rfl, hb2⟩
    have HD2 := hid (HD1.out.step hb2)
    have HB2 := hid (below_step HB1.out hb2)
    clear hb2 HD1 HB1
    go_wp2_with fail
    go_fit (HNO.out w2 d)
    rintro e w3 ⟨rfl, hw⟩
    obtain rfl : w2 = w3 := hw.symm
    go_wp2_with fail
    go_ret
    exact ⟨rfl, HB2.out⟩
  have hpi : ¬ (p : Int) > 65534 := by omega
  have HP := hid (show (0 : Int) ≤ (p : Int) ∧ (p : Int) ≤ 65534 by omega)
  obtain ⟨a, ha⟩ : ∃ a : Int, a = (p : Int) := ⟨_, rfl⟩
  rw [← ha] at HP hwp hpi
  have HL := hid hl
  clear hp hpl
  go_enter Tryd.func5, Tryd.ntmps5
  go_wp2_with fail
  go_fit HNew.out
  rintro e w1 ⟨d, M, R, rfl, hd, hnew, hb1⟩
  have HD1 := hid hd
  have HN1 := hid hnew
  have HB1 := hid hb1
  clear hd hnew hb1
  go_wp2_with fail
  go_fit (HAW.out w1 HB1.out)
  rintro e w2 ⟨rfl, hb2⟩
  have HD2 := hid (HD1.out.step hb2)
  have HB2 := hid (below_step HB1.out hb2)
  clear hb2 HD1 HB1
  have HOP := hid (meta_first (a := a) HD2.out HN1.out HB2.out HP.out.1 HP.out.2)
  rw [ha] at HOP hwp hpi
  go_wp2_with fail
  go_fit HOP.out
  rintro e w3 ⟨b, rfl, hst⟩
  rw [← ha] at hst
  have HS3 := hid hst
  clear hst HOP HD2 HN1 HB2
  rw [← ha] at hwp hpi ⊢
  clear ha
  go_wp2_with fail
  go_loopw [11, 12] (fun z i wr => ∃ (j : Nat) (M R : Nat → Prop) (s : Dk) (m : Mo), z = .int .u64 (m.q : Int) ∧ i = .int .i64 (j : Int) ∧ j ≤ n ∧ Kept (Mst w wr b d M R s a m) ∧ Kept (MDk 65536 s a ∧ MOk s.view a m ∧ m.q ≤ j)) (fun _ i _ => n - (intOf i).toNat)
  case atStart => exact ⟨0, M, R, _, mo0, rfl, rfl, Nat.zero_le _, HS3, hid ⟨MDk.new a, MOk.new a, Nat.le_refl _⟩⟩
  case round =>
    obtain ⟨j, M, R, s, m, rfl, rfl, hj, HS, HIN⟩ := hrel
    clear HS3
    by_cases hlt : j < n
    · obtain ⟨bb, off, rfl, hcell⟩ := HA.out.get HS.out.below (k := j) (by have := HML.out; omega)
      obtain ⟨body, hbody⟩ : ∃ body, body = L[j]'(by have := HML.out; omega) := ⟨_, rfl⟩
      rw [← hbody] at hcell
      have z := bst_size body
      have t1 := bst_toList body
      have HBS := hid (show ∀ W : World, Below w.heap.size w W → W.cell? ⟨bb, off + j, none⟩ = some (.string (bst body)) from fun W hW => by
        obtain ⟨b2, o2, e2, h2⟩ := HA.out.get hW (k := j) (by have := HML.out; omega)
        injection e2 with e2
        injection e2 with e3 e4
        subst e3 e4
        rw [h2, hbody])
      obtain ⟨hk, hm, hqj⟩ := HIN.out
      clear hbody HIN
      by_cases hlong : 480 < body.length
      · have HWR := hid (meta_write_long (w := wr) (b := b) hlong)
        have HIN := hid (And.intro hk (And.intro hm hqj))
        have hli : (body.length : Int) > 480 := by omega
        clear hk hm hqj
        go_wp2_with fail
        go_fit HWR.out
        rintro e w4 ⟨rfl, hw⟩
        obtain rfl : wr = w4 := hw.symm
        go_wp2_with fail
        go_roundw
        case rel => exact ⟨j + 1, M, R, s, m, rfl, by go_num, by omega, HS, hid ⟨HIN.out.1, HIN.out.2.1, by have := HIN.out.2.2; omega⟩⟩
        case measure => simp [intOf]; omega
      · have HWR := hid (HS.out.write HT.out hk hm (by decide) (by have := HP.out; omega) (by omega) (body := body) (by omega))
        have hli : ¬ (body.length : Int) > 480 := by omega
        have hwn : IntKind.u64.wrap ((m.q : Int) + 1) = (m.q : Int) + 1 := by rw [IntKind.wrap_u64]; omega
        have HQJ := hid hqj
        clear hk hm hqj hlong
        go_wp2_with fail
        go_fit HWR.out
        rintro e w4 ⟨rfl, M4, R4, s4, hst, hk, hm⟩
        have HS4 := hid hst
        have h9 := hst.open_ hk hm
        rw [show (m.next body).b = body from rfl, show ((m.next body).e : Int) = 0 from rfl] at h9
        have HOP := hid h9
        have HU := hid (show ¬ (s4.used : Int) > 2 by have := hk.used; omega)
        have HPE := hid hk.pend
        have HIN := hid (And.intro hk hm)
        have hcell := HBS.out w4 hst.below
        clear hst hk hm h9 HWR HS
        go_wp2_with fail
        go_fit HOP.out
        rintro e w5 ⟨b5, rfl, hst, hb5⟩
        have HS5 := hid (HS4.out.step hb5)
        have HT5 := hid hst
        have hcell := HBS.out w5 HS5.out.below
        have h1 := number_is HS5.out.ma.blk
        have h2 := number_is HT5.out.ma.blk
        have h3 := face.used HS5.out.ma.disk
        rw [show ((m.next body).q : Int) = (m.q : Int) + 1 from by show ((m.q + 1 : Nat) : Int) = _; omega] at h1 h2
        have HN1 := hid h1
        have HN2 := hid h2
        have HUS := hid h3
        clear hst hb5 h1 h2 h3 HS4 HOP
        go_wp2_with fail
        go_fit HN1.out
        rintro e w6 ⟨rfl, hw⟩
        obtain rfl : w5 = w6 := hw.symm
        go_wp2_with fail
        go_fit HN2.out
        rintro e w6 ⟨rfl, hw⟩
        obtain rfl : w5 = w6 := hw.symm
        go_wp2_with fail
        go_fit HUS.out
        rintro e w6 ⟨rfl, hb6⟩
        have HS6 := hid (HS5.out.step hb6)
        have h4 := face.pending HS6.out.ma.disk
        rw [HPE.out, show ((([] : List POp).length : Nat) : Int) = 0 from rfl] at h4
        have HPD := hid h4
        have hu := HU.out
        clear hb6 h4
        go_wp2_with fail
        go_fit HPD.out
        rintro e w7 ⟨rfl, hb7⟩
        have HS7 := hid (HS6.out.step hb7)
        clear hb7
        go_wp2_with fail
        go_roundw
        case rel => exact ⟨j + 1, M4, R4, s4, m.next body, rfl, by go_num, by omega, HS7, hid ⟨HIN.out.1, HIN.out.2, by have := HQJ.out; show m.q + 1 ≤ j + 1; omega⟩⟩
        case measure => simp [intOf]; omega
    · go_wp2_with fail
      go_ret
      exact ⟨rfl, HS.out.below⟩
theorem mwrites_int (L : List (List UInt8)) (a1 : Int) (A : Option Addr) (c : Nat) (w : World) (h1 : 0 ≤ a1 ∧ a1 < 65536) (hA : SAt w w.heap.size A L) (hc : L.length ≤ c) (hT : Table w) :
    Calls Tryd.prog 5 #[.slice A L.length c, .int .u16 a1] w fun e w' => e = .returned (.bool true) ∧ Below w.heap.size w w' := by
  obtain ⟨p, rfl⟩ : ∃ p : Nat, a1 = (p : Int) := ⟨a1.toNat, by omega⟩
  exact mwrites_walk L p A c w (by omega) hA hc hT

end Go.Proofs.YtngclmjefadokaaDoor
