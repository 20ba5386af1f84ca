/-
  The landed meta page: Open.
-/
import Derived.Test.YtngclmjefadokaaDoorMeta
namespace Go.Proofs.YtngclmjefadokaaDoor
open Go Go.RowKit

/-- the first k of the two sectors -/
def mfold (v : Secs) (a : Int) : Nat → Mo
  | 0 => mo0
  | k + 1 => mpick k (msec (v (a + (k : Int)))) (mfold v a k)
theorem mopen_fold (v : Secs) (a : Int) : mopen v a = mfold v a 2 := by
  show mpick 1 (msec (v (a + 1))) (mpick 0 (msec (v a)) mo0) = mpick 1 (msec (v (a + ((1 : Nat) : Int)))) (mpick 0 (msec (v (a + ((0 : Nat) : Int)))) mo0)
  simp
theorem mpick_ok {i : Nat} {v : Option (List UInt8)} {o : Mo} (h : o.nx ≤ 1 ∧ o.q < 18446744073709551616) : (mpick i (msec v) o).nx ≤ 1 ∧ (mpick i (msec v) o).q < 18446744073709551616 := by
  unfold mpick
  split
  case h_1 q x hm =>
    split
    · obtain ⟨_, _, _, _, h4⟩ := msec_some hm
      exact ⟨Nat.sub_le _ _, h4⟩
    · exact h
  case h_2 => exact h
theorem mfold_ok (v : Secs) (a : Int) : ∀ k, (mfold v a k).nx ≤ 1 ∧ (mfold v a k).q < 18446744073709551616
  | 0 => ⟨Nat.zero_le _, (by decide : 0 < 18446744073709551616)⟩
  | k + 1 => mpick_ok (mfold_ok v a k)
theorem mopen_ok (v : Secs) (a : Int) : (mopen v a).nx ≤ 1 ∧ (mopen v a).q < 18446744073709551616 := by rw [mopen_fold]; exact mfold_ok v a 2
theorem mpick_none {i : Nat} {o : Mo} : mpick i none o = o := rfl
theorem mpick_yes {i q : Nat} {x : List UInt8} {o : Mo} (h : o.q < q) : mpick i (some (q, x)) o = ⟨1 - i, q, x, 0⟩ := if_pos h
theorem mpick_no {i q : Nat} {x : List UInt8} {o : Mo} (h : ¬ o.q < q) : mpick i (some (q, x)) o = o := if_neg h

set_option maxHeartbeats 4000000 in
set_option maxRecDepth 100000 in
theorem meta_no {w : World} {d : Nat} {a : Int} (h : a < 0 ∨ 65534 < a) : Calls Tryd.prog 9 #[.pointer (some ⟨d, 0, none⟩), .int .i64 a] w fun e w' => e = .returned (.tuple #[.pointer none, .string ⟨#[]⟩, .int .i64 122]) ∧ w' = w := by
  by_cases h0 : a < 0
  · clear h
    go_enter Tryd.func9, Tryd.ntmps9
    go_wp2_with fail
    go_ret3
    exact ⟨rfl, rfl⟩
  · have h1 : a > 65534 := by omega
    clear h
    go_enter Tryd.func9, Tryd.ntmps9
    go_wp2_with fail
    go_ret3
    exact ⟨rfl, rfl⟩

set_option maxHeartbeats 8000000 in
set_option maxRecDepth 100000 in
theorem meta_yes {w : World} {d : Nat} {M R : Nat → Prop} {s : Dk} {a : Int} (h : DA6 w d M R s) (h0 : ¬ a < 0) (h1 : ¬ a > 65534) (hl : ∀ i b, s.view i = some b → b.length ≤ 512) :
    Calls Tryd.prog 9 #[.pointer (some ⟨d, 0, none⟩), .int .i64 a] w fun e w' => ∃ b, e = .returned (.tuple #[.pointer (some ⟨b, 0, none⟩), .string (bst (mopen s.view a).b), .int .i64 ((mopen s.view a).e : Int)]) ∧
      MA w' b d M R s a (mopen s.view a).nx (mopen s.view a).q ∧ w.heap.size ≤ b ∧ Below w.heap.size w w' := by
  have HD := hid h
  have HL := hid hl
  have hok := mfold_ok s.view a
  rw [mopen_fold]
  obtain ⟨F, hF⟩ : ∃ F : Nat → Mo, F = mfold s.view a := ⟨_, rfl⟩
  rw [← hF] at hok ⊢
  have HF0 := hid (show F 0 = mo0 by rw [hF]; rfl)
  have HFS := hid (show ∀ k, F (k + 1) = mpick k (msec (s.view (a + (k : Int)))) (F k) by intro k; rw [hF]; rfl)
  have HOK := hid hok
  have HBX := hid (Blk.new w 69 #[.pointer (some ⟨d, 0, none⟩), .int .i64 a, .int .i64 0, .int .u64 0])
  have HB0 := hid (show Below w.heap.size w (w.alloc (.cells #[.pointer (some ⟨d, 0, none⟩), .int .i64 a, .int .i64 0, .int .u64 0] 69)) from (Below.refl _ _).alloc (Nat.le_refl _) _)
  have HLT := hid (show ∀ k, M k ∨ R k → k < w.heap.size from h.lt)
  have HA := hid (And.intro h0 h1)
  have HE := hid (fun (wa wb : World) (ha : Below w.heap.size w wa) (ho : Only w.heap.size wa wb) => ho.after_below ha)
  clear h hl hF hok
  go_enter Tryd.func9, Tryd.ntmps9
  go_upto_region 5 with fail
  generalize w.alloc (.cells #[.pointer (some ⟨d, 0, none⟩), .int .i64 a, .int .i64 0, .int .u64 0] 69) = w1 at *
  clear h0 h1
  go_wp2_with fail
  go_loopw [8, 9, 23] (fun y z x wr => ∃ k : Nat, k ≤ 2 ∧ x = .int .i64 (k : Int) ∧ y = .string (bst (F k).b) ∧ z = .int .i64 ((F k).e : Int) ∧ Kept (Blk wr w.heap.size 69 #[.pointer (some ⟨d, 0, none⟩), .int .i64 a, .int .i64 ((F k).nx : Int), .int .u64 ((F k).q : Int)]) ∧ Kept (Below w.heap.size w wr)) (fun _ _ x _ => 2 - (intOf x).toNat)
  case atStart =>
    exact ⟨0, by decide, rfl, by rw [HF0.out]; rfl, by rw [HF0.out]; rfl, by rw [HF0.out]; exact HBX, HB0⟩
  case round =>
    obtain ⟨k, hk, rfl, rfl, rfl, HX, HB⟩ := hrel
    clear HBX HB0
    by_cases hlt : k < 2
    · have hw : IntKind.i64.wrap (a + (k : Int)) = a + (k : Int) := by rw [IntKind.wrap_i64]; have := HA.out; omega
      have HV := hid (valid_is (i := a + (k : Int)) (HD.out.step HB.out) (HL.out _))
      have hfs := HFS.out k
      have hok := HOK.out k
      generalize F k = m0 at *
      obtain ⟨nx0, q0, b0, e0⟩ := m0
      dsimp only at *
      have HFK := hid hfs
      have HQK := hid hok
      clear hfs hok
      go_wp2_with fail
      go_fit HV.out
      rintro e w2 ⟨⟨q, x, ok, rfl, hq, hc⟩, hb2⟩
      have HQ := hid hq
      have HX2 := hid (HX.out.below hb2 HX.out.lt)
      have HB2 := hid (below_step HB.out hb2)
      have hb3 := (Below.refl w2.heap.size w2).alloc (Nat.le_refl _) (.cells #[.int .u64 (q : Int), .string (bst x)] 71)
      have HX3 := hid (HX2.out.below hb3 HX2.out.lt)
      have HB3 := hid (below_step HB2.out hb3)
      have HR3 := hid (Blk.new w2 71 #[.int .u64 (q : Int), .string (bst x)])
      have HGG := hid (show w.heap.size < w2.heap.size from HX2.out.lt)
      clear hq hb2 hb3 HV
      rcases hc with ⟨rfl, hm⟩ | ⟨rfl, hm⟩
      · go_upto_region 9 with fail
        generalize w2.alloc (.cells #[.int .u64 (q : Int), .string (bst x)] 71) = w3 at *
        generalize w2.heap.size = g3 at *
        have z3 : ∀ W, Beyond w3 W → W.cell? ⟨w.heap.size, 3, none⟩ = some (.int .u64 (q0 : Int)) := fun W ho => (HX3.out.below ho HX3.out.lt).cell 3
        have z0 : ∀ W, Beyond w3 W → W.cell? ⟨g3, 0, none⟩ = some (.int .u64 (q : Int)) := fun W ho => (HR3.out.below ho HR3.out.lt).cell 0
        by_cases hgt : q0 < q
        · have hgi : (q : Int) > (q0 : Int) := by omega
          have HF1 := hid (show F (k + 1) = ⟨1 - k, q, x, 0⟩ from by rw [HFK.out, hm]; exact mpick_yes hgt)
          have HCO := hid (complete_is (HX3.out.below (Beyond.drew w3) HX3.out.lt) (i := k) (by omega) q)
          have HX4 := hid (HX3.out.below (Beyond.drew w3) HX3.out.lt)
          have HB4 := hid (below_step HB3.out (Beyond.drew w3))
          have HR4 := hid (HR3.out.below (Beyond.drew w3) HR3.out.lt)
          clear hm hgt
          refine wp_region_held_drew (S := Beyond w3) (by kernel_rfl) (Beyond.drew _) (fun hS => ?_)
          refine stT 0 hS ?_
          try simp only [putr]
          refine stT 1 hS ?_
          try simp only [putr]
          first | (refine stT 2 hS ?_) | (refine stK 2 hS ?_)
          try simp only [putr]
          first | (refine stT 3 hS ?_) | (refine stK 3 hS ?_)
          try simp only [putr]
          first | (refine stT 4 hS ?_) | (refine stK 4 hS ?_)
          try simp only [putr]
          first | (refine stT 5 hS ?_) | (refine stK 5 hS ?_)
          try simp only [putr]
          first | (refine stT 6 hS ?_) | (refine stK 6 hS ?_)
          try simp only [putr]
          first | (refine stT 7 hS ?_) | (refine stK 7 hS ?_)
          try simp only [putr]
          first | (refine stT 8 hS ?_) | (refine stK 8 hS ?_)
          try simp only [putr]
          refine stT 9 hS ?_
          try simp only [putr]
          refine wpAnyH_done (by kernel_rfl) ?_ _
          clear hS
          generalize w3.drew = w4 at *
          have r0 := HR4.out.cell 0
          have r1 := HR4.out.cell 1
          clear z0 z3
          go_wp2_with fail
          go_fit HCO.out
          rintro e w5 ⟨rfl, hx5, ho5⟩
          have HX5 := hid hx5
          have HB5 := hid (HE.out _ _ HB4.out ho5)
          have r0 := (HR4.out.grown ho5 (fun e => by injection e; have := HGG.out; omega)).cell 0
          have r1 := (HR4.out.grown ho5 (fun e => by injection e; have := HGG.out; omega)).cell 1
          clear hx5 ho5
          go_wp2_with fail
          go_roundw
          case rel => exact ⟨k + 1, by omega, by go_num, by rw [HF1.out] <;> rfl, by rw [HF1.out] <;> rfl, by rw [HF1.out]; exact HX5, HB5⟩
          case measure => simp [intOf]; omega
        · have hgi : ¬ (q : Int) > (q0 : Int) := by omega
          have HF1 := hid (show F (k + 1) = ⟨nx0, q0, b0, e0⟩ from by rw [HFK.out, hm]; exact mpick_no hgt)
          clear hm hgt
          refine wp_region_held_drew (S := Beyond w3) (by kernel_rfl) (Beyond.drew _) (fun hS => ?_)
          refine stT 0 hS ?_
          try simp only [putr]
          refine stT 1 hS ?_
          try simp only [putr]
          first | (refine stT 2 hS ?_) | (refine stK 2 hS ?_)
          try simp only [putr]
          first | (refine stT 3 hS ?_) | (refine stK 3 hS ?_)
          try simp only [putr]
          first | (refine stT 4 hS ?_) | (refine stK 4 hS ?_)
          try simp only [putr]
          first | (refine stT 5 hS ?_) | (refine stK 5 hS ?_)
          try simp only [putr]
          first | (refine stT 6 hS ?_) | (refine stK 6 hS ?_)
          try simp only [putr]
          first | (refine stT 7 hS ?_) | (refine stK 7 hS ?_)
          try simp only [putr]
          first | (refine stT 8 hS ?_) | (refine stK 8 hS ?_)
          try simp only [putr]
          refine stT 9 hS ?_
          try simp only [putr]
          refine wpAnyH_done (by kernel_rfl) ?_ _
          have HB4 := hid (below_step HB3.out hS)
          have HX4 := hid (HX3.out.below hS HX3.out.lt)
          clear hS z0 z3
          generalize w3.drew = w4 at *
          go_wp2_with fail
          go_roundw
          case rel => exact ⟨k + 1, by omega, by go_num, by rw [HF1.out] <;> rfl, by rw [HF1.out] <;> rfl, by rw [HF1.out]; exact HX4, HB4⟩
          case measure => simp [intOf]; omega
      · have HF1 := hid (show F (k + 1) = ⟨nx0, q0, b0, e0⟩ from by rw [HFK.out, hm]; rfl)
        clear hm
        go_upto_region 9 with fail
        generalize w2.alloc (.cells #[.int .u64 (q : Int), .string (bst x)] 71) = w3 at *
        generalize w2.heap.size = g3 at *
        have x3 := HX3.out.cell 3
        have r0 := HR3.out.cell 0
        have r1 := HR3.out.cell 1
        refine wp_region_held_drew (S := Beyond w3) (by kernel_rfl) (Beyond.drew _) (fun hS => ?_)
        refine stT 0 hS ?_
        try simp only [putr]
        refine stT 1 hS ?_
        try simp only [putr]
        refine stK 2 hS ?_
        try simp only [putr]
        refine stK 3 hS ?_
        try simp only [putr]
        refine stK 4 hS ?_
        try simp only [putr]
        refine stK 5 hS ?_
        try simp only [putr]
        refine stK 6 hS ?_
        try simp only [putr]
        refine stK 7 hS ?_
        try simp only [putr]
        refine stK 8 hS ?_
        try simp only [putr]
        refine stT 9 hS ?_
        try simp only [putr]
        refine wpAnyH_done (by kernel_rfl) ?_ _
        have HB4 := hid (below_step HB3.out hS)
        have HX4 := hid (HX3.out.below hS HX3.out.lt)
        clear hS x3 r0 r1
        generalize w3.drew = w4 at *
        go_wp2_with fail
        go_roundw
        case rel => exact ⟨k + 1, by omega, by go_num, by rw [HF1.out] <;> rfl, by rw [HF1.out] <;> rfl, by rw [HF1.out]; exact HX4, HB4⟩
        case measure => simp [intOf]; omega
    · obtain rfl : k = 2 := by omega
      clear hlt
      have hok := HOK.out 2
      go_wp2_with fail
      go_ret3
      exact ⟨w.heap.size, rfl, ⟨HX.out, HD.out.step HB.out, fun x => by have := HLT.out _ (.inl x); omega, fun x => by have := HLT.out _ (.inr x); omega, HA.out.1, HA.out.2, hok.1, hok.2⟩, Nat.le_refl _, HB.out⟩

end Go.Proofs.YtngclmjefadokaaDoor
