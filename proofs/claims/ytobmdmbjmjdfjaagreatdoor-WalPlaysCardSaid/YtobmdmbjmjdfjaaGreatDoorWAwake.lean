/-
  What the chapter's example fixes: the call that each statement makes first; and Open where there may be no log.
-/
import Derived.Test.YtobmdmbjmjdfjaaGreatDoorWFull
namespace Go.Proofs.YtobmdmbjmjdfjaaGreatDoor
open Go Go.RowKit

structure St8 (w0 w : World) (b d : Nat) (N M R : Nat → Prop) (s : Dk) (l : Wl) : Prop where
  wa : WA w b d N M R s l
  new : ∀ k, N k ∨ M k → w0.heap.size ≤ k
  below : Below w0.heap.size w0 w
section
variable {w0 w w' : World} {b d : Nat} {N M R N' M' R' : Nat → Prop} {s s' : Dk} {l l' : Wl}
theorem Within.below0 {Q : Nat → Prop} (h : Within Q w w') (hb : Below w0.heap.size w0 w) (hQ : ∀ k, Q k → w0.heap.size ≤ k) : Below w0.heap.size w0 w' :=
  ⟨h.os.trans hb.os, h.tape.trans hb.tape, h.output.trans hb.output, Nat.le_trans hb.size h.size, fun k hk => (h.block k (Nat.lt_of_lt_of_le hk hb.size) (fun x => by have := hQ k x; omega)).trans (hb.block k hk)⟩
theorem St8.turns (h : St8 w0 w b d N M R s l) (hw : WA w' b d N' M' R' s' l') (ht : LTurns N M R w N' M' R' w') : St8 w0 w' b d N' M' R' s' l' :=
  ⟨hw, fun k hk => (ht.own k hk).elim (h.new k) (fun x => Nat.le_trans h.below.size x), ht.within.below0 h.below h.new⟩
theorem St8.step (h : St8 w0 w b d N M R s l) (hb : Below w.heap.size w w') : St8 w0 w' b d N M R s l := ⟨h.wa.step hb, h.new, h.below.trans (hb.mono h.below.size)⟩
theorem St8.disk (h : St8 w0 w b d N M R s l) (hd : DA6 w' d M' R' s') (ht : Turns M R w M' R' w') : St8 w0 w' b d N M' R' s' l := h.turns (h.wa.disk' hd ht) (LTurns.of_turns ht)
theorem St8.table (h : St8 w0 w b d N M R s l) (hT : Table w0) : Table w := hT.step h.below
end

set_option maxHeartbeats 8000000 in
set_option maxRecDepth 100000 in
theorem open_no {w : World} {d : Nat} {at_ n size fr : Int} (hno : n < 2 ∨ 64 < n ∨ size < 1 ∨ 64 < size ∨ at_ < 0 ∨ 65536 - n * size < at_) :
    Calls Tryz.prog 7 #[.pointer (some ⟨d, 0, none⟩), .int .i64 at_, .int .i64 n, .int .i64 size, .int .u64 fr] w fun e w' => e = .returned (.tuple #[.pointer none, .slice none 0 0, .int .i64 80]) ∧ Below w.heap.size w w' := by
  by_cases g1 : n < 2
  · clear hno
    go_enter Tryz.func7, Tryz.ntmps7
    go_wp2_with fail
    go_ret3
    exact ⟨rfl, (Below.refl _ _).alloc (Nat.le_refl _) _⟩
  by_cases g2 : n > 64
  · clear hno
    go_enter Tryz.func7, Tryz.ntmps7
    go_wp2_with fail
    go_ret3
    exact ⟨rfl, (Below.refl _ _).alloc (Nat.le_refl _) _⟩
  by_cases g3 : size < 1
  · clear hno
    go_enter Tryz.func7, Tryz.ntmps7
    go_wp2_with fail
    go_ret3
    exact ⟨rfl, (Below.refl _ _).alloc (Nat.le_refl _) _⟩
  by_cases g4 : size > 64
  · clear hno
    go_enter Tryz.func7, Tryz.ntmps7
    go_wp2_with fail
    go_ret3
    exact ⟨rfl, (Below.refl _ _).alloc (Nat.le_refl _) _⟩
  by_cases g5 : at_ < 0
  · clear hno
    go_enter Tryz.func7, Tryz.ntmps7
    go_wp2_with fail
    go_ret3
    exact ⟨rfl, (Below.refl _ _).alloc (Nat.le_refl _) _⟩
  have g6 : at_ > 65536 - n * size := by omega
  have hp : 0 ≤ n * size ∧ n * size ≤ 4096 := by
    obtain ⟨x, hx⟩ : ∃ x : Nat, n = (x : Int) := ⟨n.toNat, by omega⟩
    obtain ⟨y, hy⟩ : ∃ y : Nat, size = (y : Int) := ⟨size.toNat, by omega⟩
    subst hx hy
    have hm : (x : Int) * (y : Int) = ((x * y : Nat) : Int) := by simp
    have hl : x * y ≤ 64 * 64 := Nat.mul_le_mul (by omega) (by omega)
    rw [hm]
    omega
  have hwm : IntKind.i64.wrap (n * size) = n * size := by rw [IntKind.wrap_i64]; omega
  have hws : IntKind.i64.wrap (65536 - n * size) = 65536 - n * size := by rw [IntKind.wrap_i64]; omega
  clear hno hp
  go_enter Tryz.func7, Tryz.ntmps7
  go_wp2_with fail
  go_ret3
  exact ⟨rfl, (Below.refl _ _).alloc (Nat.le_refl _) _⟩

theorem GAt.rcAt {w : World} {B : Nat} {A : Option Addr} {l : List Rc} (h : GAt eRc w B A l) : RcAt w B A l := fun hl => by
  obtain ⟨b, off, e, hb, hc⟩ := h hl
  exact ⟨b, off, e, hb, fun i x hx => ⟨hc i x 0 _ hx rfl, hc i x 1 _ hx rfl⟩⟩
theorem aw1 {s : Dk} {l : Wl} (h : Full s l []) (hl : l = ⟨0, 2, 1, [], [], 0, 0⟩) : ∃ i, Grew s l [] [⟨i, 1, [[97]]⟩] [97] := by
  subst hl
  rcases h.grow (body := [97]) (by decide) (by decide) with ⟨h1, _⟩ | ⟨_, i, hg⟩ | ⟨h1, _⟩
  · rcases h1 with h1 | ⟨_, h1⟩
    · exfalso
      unfold Wl.long Wl.head Wl.rec_ at h1
      have a := renc_le (Wl.seq ⟨0, 2, 1, [], [], 0, 0⟩) hdr
      have b := renc_le (Wl.seq ⟨0, 2, 1, [], [], 0, 0⟩) [97]
      have c : hdr.length = 7 := rfl
      simp at h1 b
      omega
    · exfalso
      have : Wl.fresh ⟨0, 2, 1, [], [], 0, 0⟩ = 0 := rfl
      rw [this] at h1
      omega
  · exact ⟨i, hg⟩
  · cases h1
theorem aw2 {s : Dk} {l : Wl} {i : Nat} (h : Full s l [⟨i, 1, [[97]]⟩]) (hl : l.last = 1) (hs : l.size = 1) : Grew s l [⟨i, 1, [[97]]⟩] [⟨i, 1, [[97], [98]]⟩] [98] := by
  have hst := h.stream
  have a := renc_le l.seq hdr
  have b := renc_le l.seq [98]
  have a1 := renc_le 1 hdr
  have b1 := renc_le 1 [97]
  have a2 := renc_pos 1 hdr
  have c : hdr.length = 7 := rfl
  have hC : l.stream = renc 1 hdr ++ (renc 1 [97] ++ []) := hst
  have hwn : l.wants [98] = false := by
    unfold Wl.wants Wl.rec_
    rw [Bool.or_eq_false_iff]
    constructor
    · rw [hC]
      cases hr : renc 1 hdr with
      | nil => rw [hr] at a2; simp at a2
      | cons x t => rfl
    · rw [hC, hs]
      simp at b b1 ⊢
      omega
  rcases h.grow (body := [98]) (by decide) (by omega) with ⟨h1, _⟩ | ⟨h1, _⟩ | ⟨_, A, t, hA, hg⟩
  · rcases h1 with h1 | ⟨h1, _⟩
    · exfalso
      unfold Wl.long Wl.head Wl.rec_ at h1
      rw [hs] at h1
      simp at h1 b
      omega
    · rw [hwn] at h1; cases h1
  · rw [hwn] at h1; cases h1
  · obtain ⟨rfl, rfl⟩ : A = [] ∧ t = ⟨i, 1, [[97]]⟩ := by
      cases A with
      | nil => simp at hA; exact ⟨rfl, hA.symm⟩
      | cons x A => simp at hA
    exact hg
def WAwakeIs : Prop := ∀ w : World, Table w → Calls Tryz.prog 6 #[] w fun e w' => e = .returned (.bool true) ∧ Below w.heap.size w w'
set_option maxHeartbeats 8000000 in
set_option maxRecDepth 100000 in
theorem wawake_yes : WAwakeIs := by
  intro w hT
  have HT := hid hT
  have HNew := hid (face.newYes (n := 9) (w := w) (by decide) (by decide))
  clear hT
  go_enter Tryz.func6, Tryz.ntmps6
  go_wp2_with fail
  go_fit HNew.out
  rintro e w1 ⟨d, M, R, rfl, hd, hnew, hb1⟩
  have HN1 := hid hnew
  have HB1 := hid hb1
  have hem : ∀ i, (Dk.new 9).view i = none := fun _ => rfl
  obtain ⟨o1, o2, o3⟩ := open_empty hem 0 2 1 0
  have h9 := open_yes (at_ := 0) (n := 2) (size := 1) (fr := 0) hd (by decide) (by decide) (by decide) (by decide) (by decide) (by decide) (by decide) (fun i _ => seg_empty hem _ _)
  rw [o1, o2, o3, show ((0 : Nat) : Int) = 0 from rfl, show ((2 : Nat) : Int) = 2 from rfl, show ((1 : Nat) : Int) = 1 from rfl] at h9
  have HO := hid h9
  clear hd hnew hb1 o1 o2 o3 h9
  go_wp2_with fail
  go_fit HO.out
  rintro e w2 ⟨b, A2, m2, c2, N, M2, R2, rfl, hwa, _, hm2, _, ht⟩
  obtain rfl : m2 = 0 := hm2
  have HS2 := hid (show St8 w w2 b d N M2 R2 _ _ from ⟨hwa, fun k hk => (ht.own k hk).elim (fun x => x.elim False.elim (fun y => HN1.out k (.inl y))) (fun y => Nat.le_trans HB1.out.size y), ht.within.below0 HB1.out (fun k x => x.elim False.elim (fun y => HN1.out k (.inl y)))⟩)
  have HF0 := hid (Full.empty (s := (Dk.new 9).sync) (at_ := 0) (n := 2) (size := 1) hem (by decide) (by decide) (by decide) (by decide) (by decide) (by decide) rfl)
  clear hwa ht HO hem
  obtain ⟨i, hg1⟩ := aw1 HF0.out rfl
  have hk1 := app_keeps ⟨0, 2, 1, [], [], 0, 0⟩ [97] (Dk.new 9).sync
  have h9 := append_log HS2.out.wa (HS2.out.table HT.out) (body := [97]) (by decide) (by decide)
  rw [hg1.1, hg1.2.1] at h9
  obtain ⟨-, -, g1, g2, -, g3⟩ := hg1
  generalize Wl.app ⟨0, 2, 1, [], [], 0, 0⟩ [97] (Dk.new 9).sync = l1 at *
  generalize Wl.appD ⟨0, 2, 1, [], [], 0, 0⟩ [97] (Dk.new 9).sync = s1 at *
  rw [show (((⟨0, 2, 1, [], [], 0, 0⟩ : Wl).last + 1 : Nat) : Int) = 1 from rfl, show ((0 : Nat) : Int) = 0 from rfl, show bst [97] = ⟨#[97]⟩ from rfl] at h9
  have HAP := hid h9
  have HL1 := hid (show l1.last = 1 from g1)
  have HF1 := hid g2
  have HP1 := hid (show s1.pend.length ≤ 64 from g3)
  have HK1 := hid hk1
  clear h9 g1 g2 g3 hk1
  go_wp2_with fail
  go_fit HAP.out
  rintro e w3 ⟨rfl, N3, M3, R3, hwa, ht⟩
  have HS3 := hid (HS2.out.turns hwa ht)
  clear hwa ht HAP
  have hg2 := aw2 HF1.out HL1.out HK1.out.2.2
  have hk2 := app_keeps l1 [98] s1
  have h9 := append_log HS3.out.wa (HS3.out.table HT.out) (body := [98]) (by decide) (by have := HP1.out; omega)
  rw [hg2.1, hg2.2.1, HL1.out] at h9
  obtain ⟨-, -, g1, g2, -, g3⟩ := hg2
  generalize Wl.app l1 [98] s1 = l2 at *
  generalize Wl.appD l1 [98] s1 = s2 at *
  rw [show ((1 + 1 : Nat) : Int) = 2 from rfl, show ((0 : Nat) : Int) = 0 from rfl, show bst [98] = ⟨#[98]⟩ from rfl] at h9
  have HAP := hid h9
  have HL2 := hid (show l2.last = 2 from by rw [g1, HL1.out])
  have HF2 := hid g2
  have HK2 := hid (show l2.at_ = 0 ∧ l2.n = 2 ∧ l2.size = 1 from ⟨hk2.1.trans HK1.out.1, hk2.2.1.trans HK1.out.2.1, hk2.2.2.trans HK1.out.2.2⟩)
  clear h9 g1 g2 g3 hk2
  go_wp2_with fail
  go_fit HAP.out
  rintro e w4 ⟨rfl, N4, M4, R4, hwa, ht⟩
  have HS4 := hid (HS3.out.turns hwa ht)
  clear hwa ht HAP
  go_wp2_with fail
  go_fit (sync_log HS4.out.wa)
  rintro e w5 ⟨rfl, M5, R5, hwa, ht⟩
  have HS5 := hid (HS4.out.turns hwa ht)
  clear hwa ht
  go_wp2_with fail
  go_fit (face.crash (l := []) (B := 0) HS5.out.wa.disk (fun h => absurd h (by simp)) rfl (Nat.zero_le _) (fun _ _ e => by cases e) (by decide))
  rintro e w6 ⟨rfl, M6, R6, hd, ht⟩
  have HS6 := hid (HS5.out.disk hd ht)
  clear hd ht
  have HF4 := hid (HF2.out.congr (s' := s2.sync.crash []) rfl rfl rfl)
  have h9 := open_yes (at_ := 0) (n := 2) (size := 1) (fr := 1) HS6.out.wa.disk (by decide) (by decide) (by decide) (by decide) (by decide) (by decide) (show (0 : Nat) ≤ 800000 by decide) (fun i hi => by
    have h1 := HF4.out.segs (i := i) (by rw [HK2.out.2.1]; exact hi)
    have h2 : l2.place i = (wl0 0 2 1 1).place i := by unfold Wl.place wl0; rw [HK2.out.1, HK2.out.2.2]
    rw [HK2.out.2.2, h2] at h1
    omega)
  have h8 := HF4.out.opened (k := 1) (by rw [HL2.out]; decide)
  rw [HK2.out.1, HK2.out.2.1, HK2.out.2.2] at h8
  obtain ⟨o1, o2, o3, o4⟩ := h8
  rw [show (rnumbered 1 (([⟨i, 1, [[97], [98]]⟩] : List It).flatMap (·.bs))).drop 1 = [(2, [98])] from rfl] at o2
  rw [o2, show ((0 : Nat) : Int) = 0 from rfl, show ((2 : Nat) : Int) = 2 from rfl, show ((1 : Nat) : Int) = 1 from rfl] at h9
  have HO := hid h9
  generalize openD (s2.sync.crash []) 0 2 1 1 = s7 at *
  generalize openW (s2.sync.crash []) 0 2 1 1 = l7 at *
  have HL7 := hid (show l7.last = 2 from o1.trans HL2.out)
  have HV7 := hid (show l7.live.length = 1 from by have := o4 (by simp); simp at o3; omega)
  clear h9 o1 o2 o3 o4
  go_wp2_with fail
  go_fit HO.out
  rintro e w7 ⟨b7, A7, m7, c7, N7, M7, R7, rfl, hwa, hA7, hm7, hc7, ht⟩
  obtain rfl : m7 = 1 := hm7
  have HW7 := hid hwa
  have HA7 := hid hA7
  have HB7 := hid (show Below w.heap.size w w7 from ht.within.below0 HS6.out.below (fun k x => x.elim False.elim (fun y => HS6.out.new k (.inr y))))
  obtain ⟨A1, c1, C1, cc1, hl1⟩ := HS6.out.wa.log
  have HL := hid (show LIn w7 b d A1 c1 C1 cc1 N4 { l2 with synced := l2.last } from hl1.within ht.within (fun k hk x => x.elim id (HS6.out.wa.apart k hk).1))
  have h9 := synced_is HL.out
  rw [show ((Wl.synced { l2 with synced := l2.last } : Nat) : Int) = 2 by show ((l2.last : Nat) : Int) = 2; rw [HL2.out]; rfl] at h9
  have HSY := hid h9
  clear hwa hA7 hc7 ht hl1 h9 HO
  go_wp2_with fail
  go_fit HSY.out
  rintro e w8 ⟨rfl, hw8⟩
  obtain rfl : w7 = w8 := hw8.symm
  have HBL := hid (show Below w7.heap.size w7 (w7.alloc (.cells #[.int .u64 2, .string ⟨#[98]⟩] 70)) from (Below.refl _ _).alloc (Nat.le_refl _) _)
  have h9 := refRSame_any (A := A7) (A' := some ⟨w7.heap.size, 0, none⟩) (n := 1) (n' := 1) (cap := c7) (cap' := 1) (B := w7.heap.size + 1) (ws := [(2, [98])]) (ws' := [(2, [98])]) (w := w7.alloc (.cells #[.int .u64 2, .string ⟨#[98]⟩] 70)) ((HA7.out.below HBL.out).more (Nat.le_succ _)).rcAt (GAt.one (E := eRc) w7 ((2, [98]) : Rc) 70 (cs := #[.int .u64 2, .string ⟨#[98]⟩]) rfl).rcAt rfl rfl (by simp) (by decide)
  rw [show decide (([(2, [98])] : List Rc) = [(2, [98])]) = true from by decide] at h9
  have HSM := hid h9
  clear h9
  go_wp2_with fail
  go_fit HSM.out
  rintro e w9 ⟨rfl, hb9⟩
  have HB9 := hid (HBL.out.trans (hb9.mono HBL.out.size))
  obtain ⟨Aq, cq, Cq, ccq, hlq⟩ := (HW7.out.step HB9.out).log
  have h9 := last_is hlq
  rw [HL7.out] at h9
  rw [show ((2 : Nat) : Int) = 2 from rfl] at h9
  have HLA := hid h9
  have h8 := live_is hlq
  rw [HV7.out] at h8
  rw [show ((1 : Nat) : Int) = 1 from rfl] at h8
  have HLV := hid h8
  clear h9 h8 hlq hb9
  go_wp2_with fail
  go_fit HLA.out
  rintro e w10 ⟨rfl, hw⟩
  obtain rfl : w9 = w10 := hw.symm
  go_wp2_with fail
  go_fit HLV.out
  rintro e w10 ⟨rfl, hw⟩
  obtain rfl : w9 = w10 := hw.symm
  go_wp2_with fail
  go_ret
  exact ⟨rfl, below_step HB7.out HB9.out⟩

end Go.Proofs.YtobmdmbjmjdfjaaGreatDoor
