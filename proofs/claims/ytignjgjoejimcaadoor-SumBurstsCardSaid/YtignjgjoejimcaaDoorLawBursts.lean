/-
  SumBursts: its walk.
-/
import Derived.Test.YtignjgjoejimcaaDoorAwake
import Derived.Test.YtignjgjoejimcaaDoorBurst
import Derived.Laws.OwnMore
namespace Go.Proofs.YtignjgjoejimcaaDoor
open Go Go.RowKit

/-- where the turning stands -/
structure Turned (base g m c F : Nat) (B : BitVec 32) (L : List UInt8) (I : Nat) (t : Bool) (k : List UInt8) (w : World) : Prop where
  hrow : Row w base 5 (some ⟨g, 0, none⟩) m c k
  hbits : ∀ q, q < 8 * m → bitAt k q = (bitAt L q ^^ err F I B q)
  hsame : t = false → k = L
  hsome : t = true → ∃ j, j < I ∧ B.getLsbD (31 - j) = true

theorem Turned.skip {base g m c F : Nat} {B : BitVec 32} {L : List UInt8} {I : Nat} {t : Bool} {k : List UInt8} {w : World} (h : Turned base g m c F B L I t k w) (hb : B.getLsbD (31 - I) = false) : Turned base g m c F B L (I + 1) t k w :=
  ⟨h.hrow, fun q hq => by rw [h.hbits q hq, err_next, hb]; simp, h.hsame, fun ht => by obtain ⟨j, h1, h2⟩ := h.hsome ht; exact ⟨j, by omega, h2⟩⟩
theorem Turned.step {base g m c F : Nat} {B : BitVec 32} {L : List UInt8} {I : Nat} {t : Bool} {k : List UInt8} {w : World} (h : Turned base g m c F B L I t k w) (hb : B.getLsbD (31 - I) = true) (x y : UInt8) (hx : k[(F + I) / 8]? = some x)
    (hy : y.toNat = x.toNat ^^^ 128 >>> ((F + I) % 8)) : Turned base g m c F B L (I + 1) true (k.set ((F + I) / 8) y) (w.setCell ⟨g, (F + I) / 8, none⟩ (.int .u8 (y.toNat : Int))) := by
  refine ⟨⟨by rw [h.hrow.1, List.length_set], ?_⟩, fun q hq => ?_, fun ht => (by cases ht), fun _ => ⟨I, by omega, hb⟩⟩
  · have := (h.hrow.2.stored ((F + I) / 8) (.int .u8 (y.toNat : Int))).1
    rw [bs, List.map_set]
    exact this
  · rw [bitAt_flip k (F + I) x y hx hy, h.hbits q hq, err_next, hb, Bool.and_true, Bool.xor_assoc]
theorem bit32 (B : BitVec 32) (J : Nat) : (bits .and .u32 (v32 (B >>> J)) 1 == 1) = B.getLsbD J := by
  have h := v32_and (B >>> J) 1#32
  have e : v32 1#32 = 1 := by decide
  rw [e] at h
  rw [h]
  unfold v32
  have e2 : ((B >>> J) &&& 1#32).toNat = if B.getLsbD J = true then 1 else 0 := by
    rw [BitVec.toNat_and, BitVec.toNat_ushiftRight, Nat.shiftRight_eq_div_pow, show (1#32).toNat = 1 from rfl, Nat.and_one_is_mod, BitVec.getLsbD, Nat.testBit_eq_decide_div_mod_eq]
    rcases Nat.mod_two_eq_zero_or_one (B.toNat / 2 ^ J) with h | h <;> simp [h]
  rw [e2]
  cases B.getLsbD J <;> rfl
theorem shr8_128 (m : Nat) (h : m < 8) : 128 >>> m < 256 := by
  have : ∀ j : Fin 8, 128 >>> j.1 < 256 := by decide
  exact this ⟨m, h⟩
theorem turn8_toNat (x : UInt8) (m : Nat) (h : m < 8) : (UInt8.ofNat (x.toNat ^^^ 128 >>> m)).toNat = x.toNat ^^^ 128 >>> m := by
  rw [UInt8.toNat_ofNat']
  exact Nat.mod_eq_of_lt (Nat.xor_lt_two_pow (n := 8) x.toNat_lt (shr8_128 m h))
theorem turn8 (x : UInt8) (m : Nat) (h : m < 8) : bits .xor .u8 (x.toNat : Int) ((128 : Int) / (2 : Int) ^ m) = ((UInt8.ofNat (x.toNat ^^^ 128 >>> m)).toNat : Int) := by
  have e : (128 : Int) / (2 : Int) ^ m = ((128 >>> m : Nat) : Int) := by rw [Nat.shiftRight_eq_div_pow]; simp
  rw [e, u8_xor_nat _ _ x.toNat_lt (shr8_128 m h), turn8_toNat x m h]
theorem err_zero (F : Nat) (B : BitVec 32) (q : Nat) : err F 0 B q = false := by
  unfold err
  rw [decide_eq_false (by omega), Bool.false_and]

set_option maxHeartbeats 2000000 in
theorem bursts_walk (l : List UInt8) (a v : Int) (ha : 0 ≤ a ∧ a < 65536) (hv : 0 ≤ v ∧ v < 4294967296) (w : World) (hT : Table w) :
    Calls Tryd.prog 8 #[.string (bst l), .int .u16 a, .int .u32 v] w fun e w' => e = .returned (.bool true) ∧ Below w.heap.size w w' := by
  have HT := hid hT
  have hz := bst_size l
  clear hT
  obtain ⟨B, rfl⟩ := v32_of hv.1 hv.2
  clear hv
  obtain ⟨p, rfl⟩ : ∃ p : Nat, a = p := ⟨a.toNat, by omega⟩
  have HP := hid ha.2
  have hwp : IntKind.i64.wrap (p : Int) = (p : Int) := by rw [IntKind.wrap_i64]; omega
  clear ha
  by_cases hlen : 300 < l.length
  · go_enter Tryd.func8, Tryd.ntmps8
    go_wp2_with fail
    go_fit (awake_yes w HT.out)
    rintro e w1 ⟨rfl, hb1⟩
    go_wp2_with fail
    go_ret
    exact ⟨rfl, hb1⟩
  · have HL := hid (show l.length ≤ 70368744177664 by omega)
    have HL2 := hid (show (l ++ sum4 l).length ≤ 70368744177664 by rw [List.length_append, sum4_length]; omega)
    obtain ⟨M, hM⟩ : ∃ M, M = l.length + 4 := ⟨_, rfl⟩
    have HM := hid hM
    have hm1 : 4 ≤ M := by omega
    have hm2 : M ≤ 304 := by omega
    clear hM
    go_enter Tryd.func8, Tryd.ntmps8
    go_wp2_with (with_reducible refine wpList_bytes_of _ rfl (.tmp 19) 9 25 5 rfl Tryd.underlying9 Tryd.underlying25 Tryd.underlying5 l rfl ?_; intro A1 c1 w1 hc1 hA1 hb1)
    go_fit (seal_is rfl hA1 (Nat.le_refl _) HL.out (HT.out.step hb1))
    rintro e w2 ⟨A2, m2, c2, rfl, hr2, hc2, hb2⟩
    have HB2 := hid (below_step hb1 hb2)
    obtain rfl : m2 = M := by rw [hr2.1, HM.out, List.length_append, sum4_length]
    have HR2 := hid hr2
    have HC2 := hid hc2
    have HS1 := hid hb1.size
    clear hA1 hb1 hc1 hr2 hb2 hc2
    have HT2 := hid (HT.out.step HB2.out)
    by_cases h0 : B = 0#32
    · have heq : (v32 B == 0) = true := by rw [h0]; rfl
      have hge : decide ((32 : Int) ≤ (8 : Int) * (m2 : Int)) = true := by simp; omega
      clear h0
      go_wp2_with fail
      go_fit (awake_yes w2 HT2.out)
      rintro e w3 ⟨rfl, hb3⟩
      have HB3 := hid (below_step HB2.out hb3)
      have HT3 := hid (HT2.out.step hb3)
      clear hb3
      go_wp2_with fail
      go_fit (awake_yes w3 HT3.out)
      rintro e w4 ⟨rfl, hb4⟩
      go_wp2_with fail
      go_ret
      exact ⟨rfl, below_step HB3.out hb4⟩
    · have hne : (v32 B == 0) = false := by
        simp only [beq_eq_false_iff_ne, ne_eq]
        intro h
        exact h0 (v32_inj (h.trans v32_none.symm))
      obtain ⟨F, hF⟩ : ∃ F, F = p % (8 * m2) := ⟨_, rfl⟩
      have hFi : (p : Int) % ((8 : Int) * (m2 : Int)) = (F : Int) := by rw [hF]; simp
      have hFl : F < 8 * m2 := by rw [hF]; exact Nat.mod_lt _ (by omega)
      clear h0 hF
      obtain ⟨g, c2', hg⟩ := Joins.ownsRow_form HR2.out.2 (by omega)
      obtain ⟨rfl, rfl⟩ : A2 = some ⟨g, 0, none⟩ ∧ c2 = c2' := by injection hg with h1 _ h3; exact ⟨h1, h3⟩
      clear hg
      go_wp2_with fail
      go_fit (awake_yes w2 HT2.out)
      rintro e w3 ⟨rfl, hb3⟩
      have HB3 := hid (below_step HB2.out hb3)
      have HR3 := hid (HR2.out.below hb3)
      clear hb3
      obtain ⟨K, hK⟩ : ∃ K, K = l ++ sum4 l := ⟨_, rfl⟩
      rw [← hK] at HR3
      have HK := hid hK
      have HKL := hid (show K.length = m2 by rw [hK, HM.out, List.length_append, sum4_length])
      clear hK
      go_wp2_with fail
      rw [hFi]
      clear hFi hwp
      go_loopw [10, 11, 12] (fun t i _ wr => ∃ (I : Nat) (b : Bool) (k : List UInt8), I ≤ 32 ∧ F + I ≤ 8 * m2 ∧ i = .int .i64 (I : Int) ∧ t = .bool b ∧ Turned w.heap.size g m2 c2 F B K I b k wr ∧ Below w.heap.size w wr) (fun _ i _ _ => 32 - (intOf i).toNat)
      case atStart => exact ⟨0, false, K, by omega, by omega, rfl, rfl, ⟨⟨HR3.out.1, Joins.ownsRow_le HR3.out.2 HS1.out⟩, fun q _ => by rw [err_zero]; simp, fun _ => rfl, fun h => by cases h⟩, HB3.out⟩
      case round =>
        obtain ⟨I, b, k, hI, hFI, rfl, rfl, hturn, hbel⟩ := hrel
        have HU := hid hturn
        have HB := hid hbel
        clear hturn hbel
        by_cases hlt : I < 32 ∧ F + I < 8 * m2
        · obtain ⟨hl1, hl2⟩ := hlt
          have hfi0 : (0 : Int) ≤ (F : Int) + (I : Int) := by omega
          have hkl : k.length = m2 := HU.out.hrow.1.symm
          have hbt : (bits .and .u32 (v32 B / 2 ^ (31 - I)) 1 == 1) = B.getLsbD (31 - I) := by rw [v32_shr]; exact bit32 B (31 - I)
          obtain ⟨q, hq⟩ : ∃ q, q = B.getLsbD (31 - I) := ⟨_, rfl⟩
          rw [← hq] at hbt
          have HQ := hid hq.symm
          clear hq
          by_cases hqt : q = true
          · subst hqt
            obtain ⟨x, hx⟩ : ∃ x, k[(F + I) / 8]? = some x := ⟨_, List.getElem?_eq_getElem (by omega)⟩
            have hcell : wr.cell? ⟨g, (F + I) / 8, none⟩ = some (.int .u8 (x.toNat : Int)) := by
              obtain ⟨b', off', h1, _, h3⟩ := HU.out.hrow.at_ (by omega)
              injection h1 with h1
              injection h1 with h4 h5
              subst h4 h5
              have := h3 _ _ hx
              rwa [Nat.zero_add] at this
            have hfz := HU.out.hrow.2.frozenAt ((F + I) / 8)
            have HX := hid hx
            clear hx hkl
            go_wp2_with fail
            go_roundw
            case rel =>
              rw [turn8 x _ (Nat.mod_lt _ (by decide))]
              exact ⟨I + 1, true, k.set ((F + I) / 8) _, by omega, by omega, by go_num, rfl, HU.out.step HQ.out x _ HX.out (turn8_toNat x _ (Nat.mod_lt _ (by decide))), HB.out.setCell (HU.out.hrow.2.lt g rfl).1 _⟩
            case measure => simp [intOf]; omega
          · obtain rfl : q = false := by simpa using hqt
            clear hqt hkl
            go_wp2_with fail
            go_roundw
            case rel => exact ⟨I + 1, b, k, by omega, by omega, by go_num, rfl, HU.out.skip HQ.out, HB.out⟩
            case measure => simp [intOf]; omega
        · have hkl : k.length = m2 := HU.out.hrow.1.symm
          have hm4 := HM.out
          have hgc := HU.out.hrow
          have hKS : K.drop l.length = sum4 (K.take l.length) := by rw [HK.out]; simp
          have HKK := hid (show k.length ≤ 70368744177664 by omega)
          have hnp : ¬ (I < 32) ∨ (I < 32 ∧ ¬ (F + I < 8 * m2)) := by omega
          clear hlt
          cases b
          · have hks := HU.out.hsame rfl
            have HC := hid (open_good (some ⟨g, 0, none⟩) c2 wr.heap.size l.length k wr (by omega) (by rw [← hm4]; exact HC2.out) hgc.at_ (Nat.le_refl _) HKK.out (by rw [hks]; exact hKS))
            rw [← hm4] at HC
            clear hks hKS hgc hm4 hkl
            rcases hnp with hnp | ⟨hnp, hnp2⟩
            all_goals
              go_wp2_with fail
              go_fit HC.out
              rintro e w5 ⟨A5, m5, c5, rfl, _, hb5⟩
              go_wp2_with fail
              go_ret
              exact ⟨rfl, below_step HB.out hb5⟩
          · have hne := seen K k l.length F I B (by rw [HKL.out, hm4]) (by omega) hI (by omega) (fun q hq => HU.out.hbits q (by omega)) hKS (HU.out.hsome rfl)
            have HC := hid (open_wrong (some ⟨g, 0, none⟩) c2 wr.heap.size l.length k wr (by omega) (by rw [← hm4]; exact HC2.out) hgc.at_ (Nat.le_refl _) HKK.out hne)
            rw [← hm4] at HC
            clear hne hKS hgc hm4 hkl
            rcases hnp with hnp | ⟨hnp, hnp2⟩
            all_goals
              go_wp2_with fail
              go_fit HC.out
              rintro e w5 ⟨rfl, hb5⟩
              go_wp2_with fail
              go_ret
              exact ⟨rfl, below_step HB.out hb5⟩

end Go.Proofs.YtignjgjoejimcaaDoor
