/-
  The landed Open.
-/
import Derived.Test.YtobmdmbjmjdfjaaGreatDoorWDel
namespace Go.Proofs.YtobmdmbjmjdfjaaGreatDoor
open Go Go.RowKit

def openW (s : Dk) (at_ n size fr : Nat) : Wl :=
  let c := (wl0 at_ n size fr).found s.view fr
  ⟨at_, n, size, c.live, [], c.last, c.last⟩
structure Fr (w3 wr : World) (b d : Nat) (N' M R M' R' : Nat → Prop) (s : Dk) (l : Wl) : Prop where
  log : WA wr b d N' M' R' s l
  turns : LTurns N' M R w3 N' M' R' wr

set_option maxHeartbeats 16000000 in
set_option maxRecDepth 100000 in
theorem open_yes {w : World} {d : Nat} {M R : Nat → Prop} {s : Dk} {at_ n size fr : Nat} (h : DA6 w d M R s) (hn2 : 2 ≤ n) (hn : n ≤ 64) (hs1 : 1 ≤ size) (hs : size ≤ 64) (hat : at_ + n * size ≤ 65536) (hfr : fr < 18446744073709551616) (hp : s.pend.length ≤ 800000)
    (hsm : ∀ i, i < n → (segB s.view size ((wl0 at_ n size fr).place i)).length ≤ 5000) :
    Calls Tryz.prog 7 #[.pointer (some ⟨d, 0, none⟩), .int .i64 (at_ : Int), .int .i64 (n : Int), .int .i64 (size : Int), .int .u64 (fr : Int)] w fun e w' => ∃ b A m c N M' R', e = .returned (.tuple #[.pointer (some ⟨b, 0, none⟩), .slice A m c, .int .i64 0]) ∧
      WA w' b d N M' R' (openD s at_ n size fr) (openW s at_ n size fr) ∧ GAt eRc w' w'.heap.size A (openR s at_ n size fr) ∧ m = (openR s at_ n size fr).length ∧ m ≤ c ∧ LTurns (fun _ => False) M R w N M' R' w' := by
  have HD0 := hid h
  have HP := hid hp
  have HFR := hid hfr
  have HSM := hid hsm
  have HPLC := hid (show LPl (wl0 at_ n size fr) from ⟨hn2, hn, hs1, hs, hat, List.nodup_nil, (fun _ h => by cases h), hfr, (by show 0 < 18446744073709551616; decide), Nat.zero_le _, fun x => absurd rfl x⟩)
  have hms : n * size ≤ 64 * 64 := Nat.mul_le_mul hn hs
  have hwm : IntKind.i64.wrap ((n : Int) * (size : Int)) = ((n * size : Nat) : Int) := by rw [IntKind.wrap_i64]; have : (n : Int) * (size : Int) = ((n * size : Nat) : Int) := by simp
                                                                                          omega
  have hws : IntKind.i64.wrap (65536 - ((n * size : Nat) : Int)) = 65536 - ((n * size : Nat) : Int) := by rw [IntKind.wrap_i64]; omega
  have g1 : ¬ (n : Int) < 2 := by omega
  have g2 : ¬ (n : Int) > 64 := by omega
  have g3 : ¬ (size : Int) < 1 := by omega
  have g4 : ¬ (size : Int) > 64 := by omega
  have g5 : ¬ (at_ : Int) < 0 := by omega
  have g6 : ¬ (at_ : Int) > 65536 - ((n * size : Nat) : Int) := by omega
  have HB1 := hid (show Below w.heap.size w (w.alloc (.cells #[.int .u64 (fr : Int)] 24)) from (Below.refl _ _).alloc (Nat.le_refl _) _)
  have hx1 := Blk.new w 24 #[.int .u64 (fr : Int)]
  obtain ⟨gf, hgf⟩ : ∃ g, g = w.heap.size := ⟨_, rfl⟩
  rw [← hgf] at hx1
  have HX1 := hid hx1
  have HGF := hid hgf
  clear h hp hfr hsm hx1
  go_enter Tryz.func7, Tryz.ntmps7
  go_upto_region 1 with fail
  rw [← hgf]
  generalize w.alloc (.cells #[.int .u64 (fr : Int)] 24) = w1 at *
  clear hgf
  have x0 := HX1.out.cell 0
  go_upto_region 6 with fail
  have HB2 := hid (show Below w1.heap.size w1 (w1.alloc (.cells #[.pointer (some ⟨d, 0, none⟩), .int .i64 (at_ : Int), .int .i64 (n : Int), .int .i64 (size : Int), .slice none 0 0, .int .u64 (fr : Int), .int .u64 0, .int .i64 0, .int .u64 0, .slice none 0 0] 76)) from (Below.refl _ _).alloc (Nat.le_refl _) _)
  have hx2 := Blk.new w1 76 #[.pointer (some ⟨d, 0, none⟩), .int .i64 (at_ : Int), .int .i64 (n : Int), .int .i64 (size : Int), .slice none 0 0, .int .u64 (fr : Int), .int .u64 0, .int .i64 0, .int .u64 0, .slice none 0 0]
  obtain ⟨b, hb⟩ : ∃ g, g = w1.heap.size := ⟨_, rfl⟩
  rw [← hb] at hx2
  have HX2 := hid hx2
  have HBN := hid hb
  rw [← hb]
  clear hx2
  generalize w1.alloc (.cells #[.pointer (some ⟨d, 0, none⟩), .int .i64 (at_ : Int), .int .i64 (n : Int), .int .i64 (size : Int), .slice none 0 0, .int .u64 (fr : Int), .int .u64 0, .int .i64 0, .int .u64 0, .slice none 0 0] 76) = w2 at *
  clear hb x0 g1 g2 g3 g4 g5 g6 hwm hws
  have HBW := hid (show Below w.heap.size w w2 from HB1.out.trans (HB2.out.mono HB1.out.size))
  have HDW := hid (HD0.out.step HBW.out)
  have HLT := hid HD0.out.lt
  have HL2 := hid (show LIn w2 b d none 0 none 0 (fun k => k = b) (wl0 at_ n size fr) from ⟨HX2.out, GRow.nil, ⟨rfl, World.ownsRow_nil _ _ _ _⟩, ⟨fun _ => rfl, fun _ => rfl⟩, rfl, (fun _ x => by cases x), (fun _ x => by cases x), fun k hk => by rw [hk]; exact HX2.out.lt, HPLC.out⟩)
  have hbM : ∀ k, M k ∨ R k → k < w1.heap.size := fun k hk => Nat.lt_of_lt_of_le (HLT.out k hk) HB1.out.size
  have HW2 := hid (show WA w2 b d (fun k => k = b) M R s (wl0 at_ n size fr) from ⟨⟨_, _, _, _, HL2.out⟩, HDW.out, fun k hk => ⟨fun x => by have := hbM k (.inl x); have := HBN.out; omega, fun x => by have := hbM k (.inr x); have := HBN.out; omega⟩⟩)
  have HBM := hid hbM
  clear hbM
  have HGA := hid (gather_is HW2.out HL2.out HSM.out)
  go_wp2_with fail
  go_fit HGA.out
  rintro e w3 ⟨Ar, mr, cr, recs, N', A, c, rfl, hfo, hrr, hrl, hok, hl3, ho3, hN3, hap3⟩
  have HFO := hid hfo
  have HRR := hid hrr
  have HRL := hid hrl
  have HO3 := hid ho3
  have HN3 := hid hN3
  have HAP := hid hap3
  have HMR := hid (fun k (hk : M k ∨ R k) => show ¬ N' k ∧ k ≠ b from ⟨fun x => by
      have h1 := HBM.out k hk
      have h2 := HB2.out.size
      rcases hN3 k x with h3 | h3
      · have h3 : k = b := h3
        have := HBN.out; omega
      · omega, by have h1 := HBM.out k hk; have := HBN.out; omega⟩)
  have HW3 := hid (show WA w3 b d N' M R s (wlc at_ n size ((wl0 at_ n size fr).found s.view fr).live ((wl0 at_ n size fr).found s.view fr).last) from
    ⟨⟨_, _, _, _, hl3⟩, HDW.out.keep ho3.size (fun k hk => ho3.block k (Nat.lt_of_lt_of_le (HLT.out k hk) HBW.out.size) (fun e => (HMR.out k hk).2 (by injection e))), fun k hk => ⟨fun x => (HMR.out k (.inl x)).1 hk, fun x => (HMR.out k (.inr x)).1 hk⟩⟩)
  have HX3 := hid (show Blk w3 gf _ _ from (HX1.out.below HB2.out HX1.out.lt).grown ho3 (fun e => by injection e with e; have := HX1.out.lt; have := HBN.out; omega))
  have HOK := hid hok
  clear hfo hrr hrl hl3 ho3 hN3 hap3 hok HGA
  obtain ⟨live, hlive⟩ : ∃ v, v = ((wl0 at_ n size fr).found s.view fr).live := ⟨_, rfl⟩
  obtain ⟨la, hla⟩ : ∃ v, v = ((wl0 at_ n size fr).found s.view fr).last := ⟨_, rfl⟩
  have HLV := hid hlive
  have HLA := hid hla
  rw [← hlive, ← hla] at HW3
  clear hlive hla
  go_wp2_with fail
  go_loopw [49] (fun j wr => ∃ (i : Nat) (M' R' : Nat → Prop), i ≤ n ∧ j = .int .i64 (i : Int) ∧ Kept (Fr w3 wr b d N' M R M' R' ((wl0 at_ n size fr).freeAll live s i) (wlc at_ n size live la))) (fun j _ => n - (intOf j).toNat)
  case atStart => exact ⟨0, M, R, Nat.zero_le _, rfl, hid ⟨HW3.out, LTurns.refl _ _ _ _⟩⟩
  case round =>
    obtain ⟨i, M1, R1, hi, rfl, HF⟩ := hrel
    obtain ⟨A1, c1, C1, cc1, hl1⟩ := HF.out.log.log
    by_cases hlt : i < n
    · have HU := hid (uses_is hl1 i)
      have hfa : (wl0 at_ n size fr).freeAll live s (i + 1) = if usedBy live i then (wl0 at_ n size fr).freeAll live s i else freeN ((wl0 at_ n size fr).freeAll live s i) ((wl0 at_ n size fr).place i) size := rfl
      cases hu : usedBy live i with
      | true =>
        rw [hu, if_pos rfl] at hfa
        have HFA := hid hfa
        rw [show usedBy (wlc at_ n size live la).live i = true from hu] at HU
        clear hfa hu hl1
        go_wp2_with fail
        go_fit HU.out
        rintro e w5 ⟨rfl, hb5⟩
        have HF5 := hid (show Fr w3 w5 b d N' M R M1 R1 _ _ from ⟨HF.out.log.step hb5, HF.out.turns.trans (LTurns.of_below hb5)⟩)
        clear hb5
        go_wp2_with fail
        go_roundw
        case rel => exact ⟨i + 1, M1, R1, by omega, by go_num, hid (by rw [HFA.out]; exact HF5.out)⟩
        case measure => simp [intOf]; omega
      | false =>
        rw [hu, if_neg (by decide)] at hfa
        have HFA := hid hfa
        rw [show usedBy (wlc at_ n size live la).live i = false from hu] at HU
        have HFR2 := hid (fun (W : World) (hW : Below wr.heap.size wr W) => free_log (HF.out.log.step hW) (i := i) (by show i ≤ n; omega) (by have := freeAll_pend (wl0 at_ n size fr) live s hs i; have := HP.out; omega))
        clear hfa hu hl1
        go_wp2_with fail
        go_fit HU.out
        rintro e w5 ⟨rfl, hb5⟩
        have H5 := hid hb5
        clear hb5
        go_wp2_with fail
        go_fit (HFR2.out w5 H5.out)
        rintro e w6 ⟨rfl, M2, R2, h2, ht2⟩
        have HF6 := hid (show Fr w3 w6 b d N' M R M2 R2 ((wl0 at_ n size fr).freeAll live s (i + 1)) (wlc at_ n size live la) from ⟨by rw [HFA.out]; exact h2, HF.out.turns.trans (LTurns.behind H5.out ht2)⟩)
        clear h2 ht2
        go_wp2_with fail
        go_roundw
        case rel => exact ⟨i + 1, M2, R2, by omega, by go_num, HF6⟩
        case measure => simp [intOf]; omega
    · obtain rfl : i = n := by omega
      have HSY := hid (sync_log HF.out.log)
      clear hl1
      go_wp2_with fail
      go_fit HSY.out
      rintro e w5 ⟨rfl, M2, R2, h2, ht2⟩
      have HW5 := hid h2
      have HT5 := hid (HF.out.turns.trans ht2)
      clear h2 ht2 HSY
      have hold : ∀ k, k < w3.heap.size → ¬ N' k → ¬ M k → w5.heap[k]? = w3.heap[k]? := fun k hk h1 h2 => HT5.out.within.block k hk (fun x => x.elim h1 h2)
      have hown : ∀ g, (Value.slice Ar mr cr).ownBlock = some g → w2.heap.size + 1 ≤ g ∧ g < w3.heap.size := fun g hg => HRR.out.2.lt g hg
      have HOW := hid hown
      have HR5 := hid (grow_of (N := fun k => (Value.slice Ar mr cr).ownBlock = some k) HRR.out.g (fun g hg => hg) (fun g hg => hold g (hown g hg).2 (HAP.out g hg) (fun x => by have := HLT.out g (.inl x); have := (hown g hg).1; have := HBW.out.size; omega)))
      have HX5 := hid (show Blk w5 gf _ _ from (hold gf HX3.out.lt (fun x => by
        rcases HN3.out gf x with h3 | h3
        · have h3 : gf = b := h3
          have := HX1.out.lt; have := HBN.out; omega
        · have := HX1.out.lt; have := HB2.out.size; omega) (fun x => by have := HLT.out gf (.inl x); have := HGF.out; omega)).trans HX3.out)
      have HDE := hid (delete_is HR5.out (by have := HRL.out; omega) HX5.out)
      clear hold hown
      go_wp2_with fail
      go_fit HDE.out
      rintro e w6 ⟨A6, m6, c6, rfl, hA6, hm6, hc6, hw6⟩
      rw [HFO.out] at hA6 hm6
      have HA6 := hid hA6
      have HM6 := hid hm6
      have HC6 := hid hc6
      have HW6 := hid hw6
      clear hA6 hm6 hc6 hw6 HDE
      go_wp2_with fail
      go_ret3
      have hkeep : ∀ k, k < w5.heap.size → (Value.slice Ar mr cr).ownBlock ≠ some k → w6.heap[k]? = w5.heap[k]? := fun k hk hne => HW6.out.block k hk hne
      have hofN : ∀ k, N' k → (Value.slice Ar mr cr).ownBlock ≠ some k := fun k hk e => HAP.out k e hk
      have hofM : ∀ k, M2 k → (Value.slice Ar mr cr).ownBlock ≠ some k := fun k hk e => by
        have h1 := HOW.out k e
        rcases HT5.out.own k (.inr hk) with (h2 | h2) | h2
        · exact HAP.out k e h2
        · have := HLT.out k (.inl h2); have := HBW.out.size; omega
        · omega
      have hofR : ∀ k, R2 k → (Value.slice Ar mr cr).ownBlock ≠ some k := fun k hk e => by
        have h1 := HOW.out k e
        rcases HT5.out.held k hk with h2 | h2
        · have := HLT.out k (.inr h2); have := HBW.out.size; omega
        · omega
      have h5 := HW5.out
      obtain ⟨A1, c1, C1, cc1, hl1⟩ := h5.log
      have hfin : WA w6 b d N' M2 R2 (openD s at_ i size fr) (openW s at_ i size fr) := by
        have e1 : openD s at_ i size fr = ((wl0 at_ i size fr).freeAll live s i).sync := by unfold openD; rw [HLV.out]
        have e2 : openW s at_ i size fr = { wlc at_ i size live la with synced := (wlc at_ i size live la).last } := by unfold openW wlc; rw [HLV.out, HLA.out]
        rw [e1, e2]
        exact ⟨⟨A1, c1, C1, cc1, hl1.keep HW6.out.size (fun k hk => hkeep k (hl1.lt k hk) (hofN k hk))⟩, h5.disk.keep HW6.out.size (fun k hk => hkeep k (h5.disk.lt k hk) (hk.elim (hofM k) (hofR k))), h5.apart⟩
      refine ⟨b, A6, m6, c6, N', M2, R2, rfl, hfin, HA6.out, HM6.out, HC6.out, ⟨⟨?_, ?_, ?_, ?_, fun k hk hne => ?_⟩, fun k hk => ?_, fun k hk => ?_⟩⟩
      · rw [HW6.out.os, HT5.out.within.os, HO3.out.os, HBW.out.os]
      · rw [HW6.out.tape, HT5.out.within.tape, HO3.out.tape, HBW.out.tape]
      · rw [HW6.out.output, HT5.out.within.output, HO3.out.output, HBW.out.output]
      · exact Nat.le_trans HBW.out.size (Nat.le_trans HO3.out.size (Nat.le_trans HT5.out.within.size HW6.out.size))
      · have hM : ¬ M k := fun x => hne (.inr x)
        have s2 := HBW.out.size
        have s3 := HO3.out.size
        have s5 := HT5.out.within.size
        have hkb : k ≠ b := by have := HBN.out; have := HB1.out.size; omega
        have hkN : ¬ N' k := fun x => by
          rcases HN3.out k x with h3 | h3
          · exact hkb h3
          · omega
        rw [hkeep k (by omega) (fun e => by have := HOW.out k e; omega), HT5.out.within.block k (by omega) (fun x => x.elim hkN hM), HO3.out.block k (by omega) (fun e => hkb (by injection e)), HBW.out.block k hk]
      · have s2 := HBW.out.size
        have s3 := HO3.out.size
        have sb : w.heap.size ≤ b := by rw [HBN.out]; exact HB1.out.size
        have hN : ∀ k, N' k → w.heap.size ≤ k := fun k x => by
          rcases HN3.out k x with h3 | h3
          · have h3 : k = b := h3
            omega
          · omega
        rcases hk with hk | hk
        · exact .inr (hN k hk)
        · rcases HT5.out.own k (.inr hk) with (h2 | h2) | h2
          · exact .inr (hN k h2)
          · exact .inl (.inr h2)
          · exact .inr (by omega)
      · have s2 := HBW.out.size
        have s3 := HO3.out.size
        rcases HT5.out.held k hk with h2 | h2
        · exact .inl h2
        · exact .inr (by omega)

end Go.Proofs.YtobmdmbjmjdfjaaGreatDoor
