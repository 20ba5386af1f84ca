/-
  sum.Seal and sum.Open by their contracts.
-/
import Derived.Test.YtignjgjoejimcaaDoorMore
import Derived.Test.YtignjgjoejimcaaDoorBe
namespace Go.Proofs.YtignjgjoejimcaaDoor
open Go Go.RowKit

/-- the four bytes of a sum -/
def sum4 (l : List UInt8) : List UInt8 := be (more 0#32 l).toNat 4
theorem sum4_length (l : List UInt8) : (sum4 l).length = 4 := be_length _ _

set_option maxHeartbeats 400000 in
theorem seal_any (A : Option Addr) (m c B : Nat) (l : List UInt8) (w : World) (hm : m = l.length) (hA : At w B A l) (hB : B ≤ w.heap.size) (hl : l.length ≤ 70368744177664) (hT : Table w) :
    Calls Tryd.prog 18 #[.slice A m c] w fun e w' => ∃ A' m' c', e = .returned (.slice A' m' c') ∧ Row w' w.heap.size 5 A' m' c' (l ++ sum4 l) ∧ Below w.heap.size w w' := by
  have HM := hid (of_any A m c B l w hm hA hB hl)
  have HA := hid hA
  have HT := hid hT
  have HL := hid hm
  have h0 := v32_lo (more 0#32 l)
  have h1 := v32_hi (more 0#32 l)
  clear hm hA hT
  go_enter Tryd.func18, Tryd.ntmps18
  go_wp2_with fail
  go_fit HM.out
  rintro e w1 ⟨rfl, hb1⟩
  have HB1 := hid hb1
  have HP := hid (put_is (v := (more 0#32 l).toNat) (n := 4) (c := c) HL.out (HA.out.below (hb1.mono hB)) (Nat.le_trans hB hb1.size) hl (HT.out.step hb1) (by decide) (by decide)
    (Nat.div_eq_of_lt (more 0#32 l).isLt) (Nat.lt_trans (more 0#32 l).isLt (by decide)))
  clear hb1
  go_wp2_with fail
  go_fit HP.out
  rintro e w2 ⟨A2, m2, c2, rfl, hr2, hb2⟩
  have HR := hid hr2
  have HB2 := hid hb2
  clear hr2 hb2
  go_wp2_with fail
  go_ret
  exact ⟨A2, m2, c2, rfl, ⟨HR.out.1, Joins.ownsRow_le HR.out.2 HB1.out.size⟩, below_step HB1.out HB2.out⟩

set_option maxHeartbeats 400000 in
theorem open_short (A : Option Addr) (m c : Nat) (w : World) (hm : m < 4) :
    Calls Tryd.prog 16 #[.slice A m c] w fun e w' => e = .returned (.tuple #[.slice none 0 0, .int .i64 20]) ∧ w = w' := by
  go_enter Tryd.func16, Tryd.ntmps16
  go_wp2
  go_ret2
  exact ⟨rfl, rfl⟩

theorem v32_wrap (r : BitVec 32) : IntKind.u64.wrap (v32 r) = v32 r := by
  have h0 := v32_lo r
  have h1 := v32_hi r
  rw [IntKind.wrap_u64]; omega
theorem get_four {A : Option Addr} {c B m : Nat} {l : List UInt8} {w : World} (hm : m = 4) (hl : l.length = 4) (hA : At w B A l) (hB : B ≤ w.heap.size) (hc : m ≤ c) :
    Calls Tryd.prog 23 #[.slice A m c, .int .i64 4] w fun e w' =>
      ∃ A' m' c', e = .returned (.tuple #[.int .u64 (ofBe l : Int), .slice A' m' c', .int .i64 0]) ∧ Below w.heap.size w w' := by
  refine (get_is (n := 4) (N := 4) (l := l) (hm.trans hl.symm) rfl hA hB (by omega) hc (by decide) (by decide) (by omega)).mono fun e w' ⟨A', m', c', h1, _, h3⟩ => ⟨A', m', c', ?_, h3⟩
  rw [h1, List.take_of_length_le (by omega)]

theorem four_is (l k : List UInt8) (hk : k.length = 4) : k = sum4 l ↔ ofBe k = (more 0#32 l).toNat := by
  constructor
  · rintro rfl
    exact ofBe_be 4 _ (Nat.lt_of_lt_of_le (more 0#32 l).isLt (by decide))
  · intro h
    rw [← be_ofBe k 4 hk, h]
    rfl

set_option maxHeartbeats 400000 in
theorem open_wrong (A : Option Addr) (c B n : Nat) (l : List UInt8) (w : World) (hm : n + 4 = l.length) (hc : n + 4 ≤ c) (hA : At w B A l) (hB : B ≤ w.heap.size) (hl : l.length ≤ 70368744177664) (hno : l.drop n ≠ sum4 (l.take n)) :
    Calls Tryd.prog 16 #[.slice A (n + 4) c] w fun e w' => e = .returned (.tuple #[.slice none 0 0, .int .i64 21]) ∧ Below w.heap.size w w' := by
  have hnb : n ≤ 70368744177664 := by omega
  have hcn : ¬ c = n := by omega
  have hd : (l.drop n).length = 4 := by rw [List.length_drop]; omega
  have ht : (l.take n).length = n := by rw [List.length_take]; omega
  rw [Ne, four_is _ _ hd] at hno
  obtain ⟨N, hN⟩ : ∃ N, N = ofBe (l.drop n) := ⟨_, rfl⟩
  have hne : ((N : Int) == v32 (more 0#32 (l.take n))) = false ∧ ((N : Int) != v32 (more 0#32 (l.take n))) = true := by
    unfold v32; simp; omega
  obtain ⟨hne1, hne2⟩ := hne
  have hwr := v32_wrap (more 0#32 (l.take n))
  have hsl := hA.cut (k := n) (by omega : l.length ≤ c)
  rw [if_neg hcn] at hsl
  obtain ⟨b, off, rfl, hbB, hcell⟩ := hA (by omega)
  have e2 : (⟨b, off, none⟩ : Addr).add n = ⟨b, off + n, none⟩ := by unfold Addr.add; split <;> simp_all
  rw [Option.map_some, e2] at hsl
  have hpre : At w B (some ⟨b, off, none⟩) (l.take n) := fun _ => ⟨b, off, rfl, hbB, fun j x hj => hcell j x (by rw [List.getElem?_take] at hj; split at hj <;> simp_all)⟩
  have HS := hid (get_four (m := 4) (c := c - n) rfl hd hsl hB (by omega))
  rw [← hN] at HS
  have HP := hid hpre
  have HT := hid ht
  clear hA hm hcell hsl e2 hno hN hd ht hpre
  go_enter Tryd.func16, Tryd.ntmps16
  go_wp2_with fail
  go_fit HS.out
  rintro e w1 ⟨A1, m1, c1, rfl, hb1⟩
  have HB1 := hid hb1
  clear hb1
  go_wp2_with fail
  go_fit (of_any (some ⟨b, off, none⟩) n c B (l.take n) w1 HT.out.symm (HP.out.below (HB1.out.mono hB)) (Nat.le_trans hB HB1.out.size) (by rw [HT.out]; exact hnb))
  rintro e w2 ⟨rfl, hb2⟩
  have HB2 := hid hb2
  clear hb2
  go_wp2_with fail
  go_ret2
  exact ⟨rfl, below_step HB1.out HB2.out⟩

set_option maxHeartbeats 400000 in
theorem open_good (A : Option Addr) (c B n : Nat) (l : List UInt8) (w : World) (hm : n + 4 = l.length) (hc : n + 4 ≤ c) (hA : At w B A l) (hB : B ≤ w.heap.size) (hl : l.length ≤ 70368744177664) (hno : l.drop n = sum4 (l.take n)) :
    Calls Tryd.prog 16 #[.slice A (n + 4) c] w fun e w' => ∃ A' m' c', e = .returned (.tuple #[.slice A' m' c', .int .i64 0]) ∧ Row w' w.heap.size 5 A' m' c' (l.take n) ∧ Below w.heap.size w w' := by
  obtain ⟨i0, hi, hz0, hz1, hz2⟩ := info_parts info_byte
  have HI := hid (And.intro hi (And.intro hz0 (And.intro hz1 hz2)))
  clear hi hz0 hz1 hz2
  have hnb : n ≤ 70368744177664 := by omega
  have hcn : ¬ c = n := by omega
  have hd : (l.drop n).length = 4 := by rw [List.length_drop]; omega
  have ht : (l.take n).length = n := by rw [List.length_take]; omega
  rw [four_is _ _ hd] at hno
  have hpx : ∀ (j : Nat) (x : UInt8), (l.take n)[j]? = some x → l[j]? = some x := fun j x hj => by rw [List.getElem?_take] at hj; split at hj <;> simp_all
  obtain ⟨p, hp⟩ : ∃ p, p = l.take n := ⟨_, rfl⟩
  rw [← hp] at ht hno hpx ⊢
  obtain ⟨N, hN⟩ : ∃ N, N = ofBe (l.drop n) := ⟨_, rfl⟩
  have hne : ((N : Int) == v32 (more 0#32 p)) = true ∧ ((N : Int) != v32 (more 0#32 p)) = false := by
    unfold v32; simp; omega
  obtain ⟨hne1, hne2⟩ := hne
  have hwr := v32_wrap (more 0#32 p)
  have hsl := hA.cut (k := n) (by omega : l.length ≤ c)
  rw [if_neg hcn] at hsl
  obtain ⟨b, off, rfl, hbB, hcell⟩ := hA (by omega)
  have e2 : (⟨b, off, none⟩ : Addr).add n = ⟨b, off + n, none⟩ := by unfold Addr.add; split <;> simp_all
  rw [Option.map_some, e2] at hsl
  have hpre : At w B (some ⟨b, off, none⟩) p := fun _ => ⟨b, off, rfl, hbB, fun j x hj => hcell j x (hpx j x hj)⟩
  have HS := hid (get_four (m := 4) (c := c - n) rfl hd hsl hB (by omega))
  rw [← hN] at HS
  have HP := hid hpre
  have HT := hid ht
  clear hA hm hcell hsl e2 hno hN hd ht hpre hpx hp
  go_enter Tryd.func16, Tryd.ntmps16
  go_wp2_with fail
  go_fit HS.out
  rintro e w1 ⟨A1, m1, c1, rfl, hb1⟩
  have HB1 := hid hb1
  clear hb1
  go_wp2_with fail
  go_fit (of_any (some ⟨b, off, none⟩) n c B p w1 HT.out.symm (HP.out.below (HB1.out.mono hB)) (Nat.le_trans hB HB1.out.size) (by rw [HT.out]; exact hnb))
  rintro e w2 ⟨rfl, hb2⟩
  have HB2 := hid hb2
  clear hb2
  have hown := own_empty w2 5
  have HO := hid hown
  have hs : (w2.alloc (.cells #[] 5)).heap.size = w2.heap.size + 1 := by simp
  have HZ := hid hs
  have HA3 := hid (((HP.out.below (HB1.out.mono hB)).below (HB2.out.mono (Nat.le_trans hB HB1.out.size))).past (Nat.le_trans hB (Nat.le_trans HB1.out.size HB2.out.size)) (.cells #[] 5))
  clear hown hs
  go_wp2_with (first
    | (at_builtin; go_must (refine wpList_append_bs _ rfl _ _ _ rfl w2.heap.size 5 i0 Tryd.underlying25 HI.out.1 HI.out.2.1 HI.out.2.2.1 HI.out.2.2.2 (.slice (some ⟨w2.heap.size, 0, none⟩) 0 0) [] p rfl HO.out (some ⟨b, off, none⟩) n c rfl HT.out.symm (HA3.out.more ?le) ?len ?base ?_)))
  case le => rw [HZ.out]; exact Nat.le_trans hB (Nat.le_trans HB1.out.size (Nat.le_trans HB2.out.size (Nat.le_succ _)))
  case len => rw [HT.out]; simp; omega
  case base => rw [HZ.out]; exact Nat.le_succ _
  intro A4 c4 w4 hown4 hg4 hat4
  have HF := hid (And.intro hown4 (And.intro hg4 hat4))
  clear hown4 hg4 hat4
  go_wp2_with fail
  go_ret2
  refine ⟨A4, _, c4, rfl, ⟨rfl, ?_⟩, ?_⟩
  · have := HF.out.1
    exact Joins.ownsRow_le this (Nat.le_trans HB1.out.size HB2.out.size)
  · have h1 : Below w2.heap.size w2 (w2.alloc (.cells #[] 5)) := (Below.refl _ _).alloc (Nat.le_refl _) _
    have h2 := h1.grown HF.out.2.1 (by rw [HZ.out]; exact Nat.le_succ _) (fun k hk => by have := HO.out.lt k hk; exact this.1)
    exact below_step (below_step HB1.out HB2.out) h2

end Go.Proofs.YtignjgjoejimcaaDoor
