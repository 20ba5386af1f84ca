/-
  record.Put: a writer's Num and Text, the seal, the length ahead of it.
-/
import Derived.Test.YtlcnjkonlnfnfaaDoorRFace
import Derived.Test.YtlcnjkonlnfnfaaDoorJCode
import Derived.Test.YtlcnjkonlnfnfaaDoorJSum
import Derived.Test.YtlcnjkonlnfnfaaDoorLawRBack
namespace Go.Proofs.YtlcnjkonlnfnfaaDoor
open Go Go.RowKit

set_option maxHeartbeats 4000000 in
set_option maxRecDepth 100000 in
theorem rput_no {q : Int} {b : List UInt8} {w : World} (h3 : 32768 < b.length) (_h4 : b.length ≤ 40000) :
    Calls Tryd.prog 9 #[.agg #[.int .u64 q, .string (bst b)]] w fun e w' => ∃ A c, e = .returned (.tuple #[.slice A 0 c, .int .i64 70]) ∧ Below w.heap.size w w' := by
  have z := bst_size b
  have HB := hid (show Below w.heap.size w (w.alloc (.cells #[.int .u64 q, .string (bst b)] 24)) from (Below.refl _ _).alloc (Nat.le_refl _) _)
  go_enter Tryd.func9, Tryd.ntmps9
  go_wp2_with fail
  go_ret2
  exact ⟨_, _, rfl, HB.out⟩

set_option maxHeartbeats 4000000 in
set_option maxRecDepth 100000 in
theorem rput_yes {q : Nat} {b : List UInt8} {w : World} (hq : q < 18446744073709551616) (h3 : b.length ≤ 32768) (hT : Table w) :
    Calls Tryd.prog 9 #[.agg #[.int .u64 (q : Int), .string (bst b)]] w fun e w' =>
      ∃ A m c, e = .returned (.tuple #[.slice A m c, .int .i64 0]) ∧ Row w' w.heap.size 5 A m c (renc q b) ∧ Below w.heap.size w w' := by
  have z := bst_size b
  have HQ := hid hq
  have H3 := hid h3
  have HT := hid hT
  have HB1 := hid (show Below w.heap.size w (w.alloc (.cells #[.int .u64 (q : Int), .string (bst b)] 24)) from (Below.refl _ _).alloc (Nat.le_refl _) _)
  have HX1 := hid (Blk.new w 24 #[.int .u64 (q : Int), .string (bst b)])
  obtain ⟨N, hN⟩ : ∃ N, (rsealed q b).length = N := ⟨_, rfl⟩
  have HN := hid hN
  have hNle : N ≤ 32800 := by rw [← hN, rsealed_length]; have := vlen_le q; have := vlen_le b.length; omega
  have HE := hid (show renc q b = be N 4 ++ rsealed q b by rw [← hN]; rfl)
  clear hq hT hN
  go_enter Tryd.func9, Tryd.ntmps9
  go_wp2_with fail
  generalize w.alloc (.cells #[.int .u64 (q : Int), .string (bst b)] 24) = w1 at *
  go_fit (write_any w1)
  rintro e w2 ⟨rfl, hw2, hb2⟩
  have HW2 := hid hw2
  have HB2 := hid (below_step HB1.out hb2)
  have HX2 := hid (HX1.out.below hb2 HX1.out.lt)
  have x0 := HX2.out.cell 0
  clear hb2 hw2
  go_wp2_with fail
  have ha2 : Below w2.heap.size w2 (w2.alloc (.cells #[.int .u64 (q : Int)] 22)) := (Below.refl _ _).alloc (Nat.le_refl _) _
  have HB2a := hid (below_step HB2.out ha2)
  have HX2a := hid (HX2.out.below ha2 HX2.out.lt)
  have HZ2 := hid (show w.heap.size ≤ w1.heap.size from HB1.out.size)
  go_fit (wnum_any (HW2.out.step ha2) HQ.out (one_new w2 22 (.int .u64 (q : Int))) (by simp))
  rintro e w3 ⟨rfl, hw3, hk3⟩
  rw [List.nil_append] at hw3
  have HW3 := hid hw3
  have HB3 := hid (HB2a.out.trans (hk3.below.mono HZ2.out))
  have HX3 := hid (hk3.kept _ _ _ (by decide) (by decide) HX2a.out)
  clear hw3 hk3 ha2 x0
  have x1 := HX3.out.cell 1
  go_wp2_with fail
  have ha3 : Below w3.heap.size w3 (w3.alloc (.cells #[.string (bst b)] 9)) := (Below.refl _ _).alloc (Nat.le_refl _) _
  have HB3a := hid (below_step HB3.out ha3)
  go_fit (wtext_any (HW3.out.step ha3) (by have := H3.out; omega) (one_new w3 9 (.string (bst b))) (by rw [vbytes_length]; have := vlen_le q; omega))
  rintro e w4 ⟨rfl, hw4, hk4⟩
  have HW4 := hid (show Wr w4 w1.heap.size w1.heap.size (rfld q b) 0 from hw4)
  have HB4 := hid (HB3a.out.trans (hk4.below.mono HZ2.out))
  clear hw4 hk4 ha3 x1
  have hfl : (rfld q b).length ≤ 32800 := by rw [rfld_length]; have := vlen_le q; have := vlen_le b.length; omega
  go_wp2_with fail
  go_fit (bytes_any HW4.out (by omega))
  rintro e w5 ⟨A5, m5, c5, rfl, hr5, hb5⟩
  have HB5 := hid (below_step HB4.out hb5)
  have HR5 := hid hr5
  clear hb5 hr5
  go_wp2_with fail
  go_fit (seal_any A5 m5 c5 _ (rfld q b) w5 HR5.out.1 HR5.out.at_ (Nat.le_refl _) (by omega) (HT.out.step HB5.out))
  rintro e w6 ⟨A6, m6, c6, rfl, hr6, hb6⟩
  obtain rfl : m6 = N := hr6.1.trans HN.out
  have HB6 := hid (below_step HB5.out hb6)
  have HR6 := hid (show Row w6 w5.heap.size 5 A6 m6 c6 (rsealed q b) from hr6)
  clear hb6 hr6
  go_wp2_with fail
  go_fit (put_is (A := none) (m := 0) (c := 0) (l := []) (v := m6) (n := 4) rfl (At.nil w6 0 _) (Nat.zero_le _) (by simp) (HT.out.step HB6.out) (by decide) (by decide) (by omega) (by omega))
  rintro e w7 ⟨A7, m7, c7, rfl, hr7, hb7⟩
  rw [List.nil_append] at hr7
  have HR7 := hid hr7
  have HR6b := hid ((HR6.out.at_.below hb7).more hb7.size)
  have HB7 := hid (below_step HB6.out hb7)
  have HZ7 := hid hb7.size
  have HZ6 := hid HB6.out.size
  clear hb7 hr7
  go_wp2_with (at_builtin; go_must (refine wpList_append_row _ rfl _ _ rfl w6.heap.size rfl HR7.out rfl (HR6.out.1) HR6b.out (by rw [be_length, HN.out]; omega) HZ7.out ?_); intro A8 m8 c8 w8 hr8 hc8 hb8)
  go_ret2
  rw [HE.out]
  exact ⟨A8, m8, c8, rfl, ⟨hr8.1, Joins.ownsRow_le hr8.2 HZ6.out⟩, HB7.out.trans (hb8.mono HZ6.out)⟩

end Go.Proofs.YtlcnjkonlnfnfaaDoor
