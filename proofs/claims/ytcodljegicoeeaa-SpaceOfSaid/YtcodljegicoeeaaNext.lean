/-
  A reader's next field, of each kind: by contracts.
-/
import Derived.Test.YtcodljegicoeeaaTakeFlag
namespace Go.Proofs.Ytcodljegicoeeaa
open Go Go.RowKit

theorem rtext_bad (l : List UInt8) (h : (rtext l).2.2 ≠ 0) : (rtext l).1 = [] ∧ (rtext l).2.1 = l := by
  unfold rtext at h ⊢
  by_cases h0 : (rnum l).2.2 = 0
  · rw [if_neg (by simpa using h0)] at h ⊢
    by_cases h1 : 65536 < (rnum l).1
    · rw [if_pos h1]; exact ⟨rfl, rfl⟩
    · rw [if_neg h1] at h ⊢
      by_cases h2 : (rnum l).2.1.length < (rnum l).1
      · rw [if_pos h2]; exact ⟨rfl, rfl⟩
      · rw [if_neg h2] at h; exact absurd rfl h
  · rw [if_pos (by simpa using h0)]; exact ⟨rfl, rfl⟩
theorem rflag_bad (l : List UInt8) (h : (rflag l).2.2 ≠ 0) : (rflag l).1 = false ∧ (rflag l).2.1 = l := by
  rcases l with _ | ⟨x, l⟩
  · exact ⟨rfl, rfl⟩
  · simp only [rflag] at h ⊢
    by_cases h1 : 1 < x.toNat
    · rw [if_pos h1]; exact ⟨rfl, rfl⟩
    · rw [if_neg h1] at h; exact absurd rfl h
theorem rcount_bad (most : Int) (l : List UInt8) (h : (rcount most l).2.2 ≠ 0) : (rcount most l).1 = 0 ∧ (rcount most l).2.1 = l := by
  unfold rcount at h ⊢
  by_cases h0 : (rnum l).2.2 = 0
  · rw [if_neg (by simpa using h0)] at h ⊢
    by_cases h1 : most < 0 ∨ most < ((rnum l).1 : Int)
    · rw [if_pos h1]; exact ⟨rfl, rfl⟩
    · rw [if_neg h1] at h; exact absurd rfl h
  · rw [if_pos (by simpa using h0)]; exact ⟨rfl, rfl⟩

set_option maxHeartbeats 2000000 in
theorem next_count (r : Nat) (l : List UInt8) (w : World) (q1 q2 : Nat) (most : Int) (hq1 : QB w q1 r) (hq2 : MB w q2 most) (hmost : -9223372036854775808 ≤ most ∧ most ≤ 9223372036854775807) (hr : Rd w r l 0) (o : _) (ho : rcount most l = o) :
    Calls Try.prog 38 #[.pointer (some ⟨r, 0, none⟩), .func (.func 39) #[] #[.pointer (some ⟨q1, 0, none⟩), .pointer (some ⟨q2, 0, none⟩)]] w fun e w' =>
      e = .returned (.int .i64 (o.1 : Int)) ∧ Rd w' r o.2.1 o.2.2 ∧ Only r w w' := by
  have HB1 : Below w.heap.size w (w.alloc (.cells #[.pointer (some ⟨r, 0, none⟩)] 61)) := (Below.refl _ _).alloc (Nat.le_refl _) _
  have HT0 := takeCount_any 44 failsI w.heap.size q1 q2 r most l _ (hr.step HB1) (Blk.new w _ _) (Blk.alloc hq1 _) (Blk.alloc hq2 _) hmost
  rw [ho] at HT0
  have HT := hid HT0
  clear HT0
  obtain ⟨A, m, c, hb, hm, hc, hl70, hA⟩ := hr.out
  have hrlt := hr.lt
  have hrs : r ≠ w.heap.size := by omega
  have HRS := hid hrs
  have c0 := RB.c0 hb
  have c1 := RB.c1 hb
  have HB := hid hb
  have HM := hid hm
  have HA := hid hA
  have HL := hid hl70
  have HC := hid hc
  have HBB := hid HB1
  have H1 := hid (Only.of_below (r := r) HB1)
  have HLT := hid hrlt
  have HBAD := hid (fun h : o.2.2 ≠ 0 => (ho ▸ rcount_bad most l (by rw [ho]; exact h) : _))
  clear hb hm hA hl70 hc ho hr hrs HB1
  by_cases hE : o.2.2 = 0
  · have HE := hid hE
    clear hE
    go_enter Try.func38, Try.ntmps38
    go_wp2_with fail
    go_fit HT.out
    rintro e w2 ⟨⟨x, rfl, hval⟩, ht⟩
    have HV := hid hval
    clear hval
    obtain ⟨l2, hr2, hl2⟩ := ht.some
    obtain rfl := hl2 HE.out
    have HO := hid ht.only
    have HR := hid hr2
    obtain ⟨A2, m2, c2, hb2, hrest⟩ := hr2.out
    rw [HE.out] at hb2
    have d1 := RB.c1 hb2
    have q0 : w2.cell? ⟨w.heap.size, 0, none⟩ = some (.pointer (some ⟨r, 0, none⟩)) := Blk.cell (Blk.grown (Blk.new w _ _) HO.out (fun e => HRS.out (by injection e with e; exact e.symm))) 0
    clear hb2 hrest hr2 ht hl2
    go_wp2_with fail
    go_ret
    exact ⟨by rw [HV.out HE.out]; rfl, HR.out, H1.out.trans HO.out⟩
  · have hE1 : ((o.2.2 : Int) != 0) = true := by simpa using hE
    have Z := hid (HBAD.out hE)
    have HE := hid hE
    clear hE
    go_enter Try.func38, Try.ntmps38
    go_wp2_with fail
    go_fit HT.out
    rintro e w2 ⟨⟨x, rfl, hval⟩, ht⟩
    have HV := hid hval
    clear hval
    obtain ⟨l2, hr2, hl2⟩ := ht.some
    have HO := hid ht.only
    obtain ⟨A2, m2, c2, hb2, hrest⟩ := hr2.out
    have d1 := RB.c1 hb2
    have d0 := RB.c0 hb2
    have f0 := RB.f0 hb2
    have HB2 := hid hb2
    have q0 : w2.cell? ⟨w.heap.size, 0, none⟩ = some (.pointer (some ⟨r, 0, none⟩)) := Blk.cell (Blk.grown (Blk.new w _ _) HO.out (fun e => HRS.out (by injection e with e; exact e.symm))) 0
    clear hb2 hrest hr2 ht hl2
    go_wp2_with fail
    go_ret
    refine ⟨by rw [Z.out.1]; rfl, ?_, (H1.out.trans HO.out).set _⟩
    rw [Z.out.2]
    exact ⟨_, _, _, HB2.out.set0, HM.out, HC.out, HL.out, ((HA.out.below (HBB.out.mono (Nat.le_of_lt HLT.out))).only HO.out (Nat.le_refl _) (by have := HLT.out; simp; omega)).setR _⟩

set_option maxHeartbeats 2000000 in
theorem next_count_not (r e0 : Nat) (l : List UInt8) (w : World) (q1 q2 : Nat) (hr : Rd w r l e0) (he : e0 ≠ 0) :
    Calls Try.prog 38 #[.pointer (some ⟨r, 0, none⟩), .func (.func 39) #[] #[.pointer (some ⟨q1, 0, none⟩), .pointer (some ⟨q2, 0, none⟩)]] w fun e w' =>
      e = .returned (.int .i64 0) ∧ Rd w' r l e0 ∧ Only r w w' := by
  obtain ⟨A, m, c, hb, hrest⟩ := hr.out
  have hrlt := hr.lt
  have c1 := RB.c1 hb
  have hE1 : ((e0 : Int) != 0) = true := by simpa using he
  have HB1 := hid (show Below w.heap.size w (w.alloc (.cells #[.pointer (some ⟨r, 0, none⟩)] 61)) from (Below.refl _ _).alloc (Nat.le_refl _) _)
  have HR := hid hr
  clear hb hrest he hr
  go_enter Try.func38, Try.ntmps38
  go_wp2_with fail
  go_ret
  exact ⟨rfl, HR.out.step HB1.out, Only.of_below HB1.out⟩

end Go.Proofs.Ytcodljegicoeeaa
