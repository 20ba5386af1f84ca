/-
  record.Put: a writer's Num and Text, the seal, the length ahead of it. record.whole: how long the encoding is that bytes begin with, by its head. record.Get: the length, the seal, the fields.
-/
import Derived.Test.YtngclmjefadokaaDoorJRec
import Derived.Test.YtngclmjefadokaaDoorJCode
import Derived.Test.YtngclmjefadokaaDoorJSum
import Derived.Test.YtngclmjefadokaaDoorJBytes
import Derived.Test.YtngclmjefadokaaDoorJNum
import Derived.Lib.MinMax
namespace Go.Proofs.YtngclmjefadokaaDoor
open Go Go.RowKit

set_option maxHeartbeats 4000000 in
set_option maxRecDepth 100000 in
theorem rput_no {q : Int} {b : List UInt8} {w : World} (h3 : 32768 < b.length) (_h4 : b.length ≤ 40000) :
    Calls Tryd.prog 51 #[.agg #[.int .u64 q, .string (bst b)]] w fun e w' => ∃ A c, e = .returned (.tuple #[.slice A 0 c, .int .i64 70]) ∧ Below w.heap.size w w' := by
  have z := bst_size b
  have HB := hid (show Below w.heap.size w (w.alloc (.cells #[.int .u64 q, .string (bst b)] 71)) from (Below.refl _ _).alloc (Nat.le_refl _) _)
  go_enter Tryd.func51, Tryd.ntmps51
  go_wp2_with fail
  go_ret2
  exact ⟨_, _, rfl, HB.out⟩

set_option maxHeartbeats 4000000 in
set_option maxRecDepth 100000 in
theorem rput_yes {q : Nat} {b : List UInt8} {w : World} (hq : q < 18446744073709551616) (h3 : b.length ≤ 32768) (hT : Table w) :
    Calls Tryd.prog 51 #[.agg #[.int .u64 (q : Int), .string (bst b)]] w fun e w' =>
      ∃ A m c, e = .returned (.tuple #[.slice A m c, .int .i64 0]) ∧ Row w' w.heap.size 5 A m c (renc q b) ∧ Below w.heap.size w w' := by
  have z := bst_size b
  have HQ := hid hq
  have H3 := hid h3
  have HT := hid hT
  have HB1 := hid (show Below w.heap.size w (w.alloc (.cells #[.int .u64 (q : Int), .string (bst b)] 71)) from (Below.refl _ _).alloc (Nat.le_refl _) _)
  have HX1 := hid (Blk.new w 71 #[.int .u64 (q : Int), .string (bst b)])
  obtain ⟨N, hN⟩ : ∃ N, (rsealed q b).length = N := ⟨_, rfl⟩
  have HN := hid hN
  have hNle : N ≤ 32800 := by rw [← hN, rsealed_length]; have := vlen_le q; have := vlen_le b.length; omega
  have HE := hid (show renc q b = be N 4 ++ rsealed q b by rw [← hN]; rfl)
  clear hq hT hN
  go_enter Tryd.func51, Tryd.ntmps51
  go_wp2_with fail
  generalize w.alloc (.cells #[.int .u64 (q : Int), .string (bst b)] 71) = w1 at *
  go_fit (write_any w1)
  rintro e w2 ⟨rfl, hw2, hb2⟩
  have HW2 := hid hw2
  have HB2 := hid (below_step HB1.out hb2)
  have HX2 := hid (HX1.out.below hb2 HX1.out.lt)
  have x0 := HX2.out.cell 0
  clear hb2 hw2
  go_wp2_with fail
  have ha2 : Below w2.heap.size w2 (w2.alloc (.cells #[.int .u64 (q : Int)] 37)) := (Below.refl _ _).alloc (Nat.le_refl _) _
  have HB2a := hid (below_step HB2.out ha2)
  have HX2a := hid (HX2.out.below ha2 HX2.out.lt)
  have HZ2 := hid (show w.heap.size ≤ w1.heap.size from HB1.out.size)
  go_fit (wnum_any (HW2.out.step ha2) HQ.out (one_new w2 37 (.int .u64 (q : Int))) (by simp))
  rintro e w3 ⟨rfl, hw3, hk3⟩
  rw [List.nil_append] at hw3
  have HW3 := hid hw3
  have HB3 := hid (HB2a.out.trans (hk3.below.mono HZ2.out))
  have HX3 := hid (hk3.kept _ _ _ (by decide) (by decide) HX2a.out)
  clear hw3 hk3 ha2 x0
  have x1 := HX3.out.cell 1
  go_wp2_with fail
  have ha3 : Below w3.heap.size w3 (w3.alloc (.cells #[.string (bst b)] 9)) := (Below.refl _ _).alloc (Nat.le_refl _) _
  have HB3a := hid (below_step HB3.out ha3)
  go_fit (wtext_any (HW3.out.step ha3) (by have := H3.out; omega) (one_new w3 9 (.string (bst b))) (by rw [vbytes_length]; have := vlen_le q; omega))
  rintro e w4 ⟨rfl, hw4, hk4⟩
  have HW4 := hid (show Wr w4 w1.heap.size w1.heap.size (rfld q b) 0 from hw4)
  have HB4 := hid (HB3a.out.trans (hk4.below.mono HZ2.out))
  clear hw4 hk4 ha3 x1
  have hfl : (rfld q b).length ≤ 32800 := by rw [rfld_length]; have := vlen_le q; have := vlen_le b.length; omega
  go_wp2_with fail
  go_fit (bytes_any HW4.out (by omega))
  rintro e w5 ⟨A5, m5, c5, rfl, hr5, hb5⟩
  have HB5 := hid (below_step HB4.out hb5)
  have HR5 := hid hr5
  clear hb5 hr5
  go_wp2_with fail
  go_fit (seal_any A5 m5 c5 _ (rfld q b) w5 HR5.out.1 HR5.out.at_ (Nat.le_refl _) (by omega) (HT.out.step HB5.out))
  rintro e w6 ⟨A6, m6, c6, rfl, hr6, hb6⟩
  obtain rfl : m6 = N := hr6.1.trans HN.out
  have HB6 := hid (below_step HB5.out hb6)
  have HR6 := hid (show Row w6 w5.heap.size 5 A6 m6 c6 (rsealed q b) from hr6)
  clear hb6 hr6
  go_wp2_with fail
  go_fit (put_is (A := none) (m := 0) (c := 0) (l := []) (v := m6) (n := 4) rfl (At.nil w6 0 _) (Nat.zero_le _) (by simp) (HT.out.step HB6.out) (by decide) (by decide) (by omega) (by omega))
  rintro e w7 ⟨A7, m7, c7, rfl, hr7, hb7⟩
  rw [List.nil_append] at hr7
  have HR7 := hid hr7
  have HR6b := hid ((HR6.out.at_.below hb7).more hb7.size)
  have HB7 := hid (below_step HB6.out hb7)
  have HZ7 := hid hb7.size
  have HZ6 := hid HB6.out.size
  clear hb7 hr7
  go_wp2_with (at_builtin; go_must (refine wpList_append_row _ rfl _ _ rfl w6.heap.size rfl HR7.out rfl (HR6.out.1) HR6b.out (by rw [be_length, HN.out]; omega) HZ7.out ?_); intro A8 m8 c8 w8 hr8 hc8 hb8)
  go_ret2
  rw [HE.out]
  exact ⟨A8, m8, c8, rfl, ⟨hr8.1, Joins.ownsRow_le hr8.2 HZ6.out⟩, HB7.out.trans (hb8.mono HZ6.out)⟩

end Go.Proofs.YtngclmjefadokaaDoor

namespace Go.Proofs.YtngclmjefadokaaDoor
open Go Go.RowKit

set_option maxHeartbeats 4000000 in
set_option maxRecDepth 100000 in
theorem whole_short {A : Option Addr} {m c : Nat} {w : World} (h : m < 4) :
    Calls Tryd.prog 55 #[.slice A m c] w fun e w' => e = .returned (.int .i64 0) ∧ w = w' := by
  go_enter Tryd.func55, Tryd.ntmps55
  go_wp2_with fail
  go_ret
  exact ⟨rfl, rfl⟩

set_option maxHeartbeats 4000000 in
set_option maxRecDepth 100000 in
theorem whole_is {A : Option Addr} {m c B N : Nat} {l : List UInt8} {w : World} (hA : At w B A l) (hm : m = l.length) (hc : m ≤ c) (hB : B ≤ w.heap.size) (hl : l.length ≤ 5000) (h4 : 4 ≤ m) (hN : ofBe (l.take 4) = N) (hlt : N < 4294967296) {n : Nat} (hn : n = 4 + N) :
    Calls Tryd.prog 55 #[.slice A m c] w fun e w' => e = .returned (.int .i64 (if m < n then 0 else (n : Int))) ∧ Below w.heap.size w w' := by
  subst hn
  have hl4 : (l.take 4).length = 4 := by rw [List.length_take]; omega
  have HG := hid (get_is (A := A) (c := c) (m := 4) (n := 4) (N := 4) hl4.symm rfl (hA.take 4) hB (by omega) (by omega) (by decide) (by decide) (by omega))
  rw [List.take_of_length_le (Nat.le_of_eq hl4), hN] at HG
  have hwi : IntKind.i64.wrap (N : Int) = (N : Int) := by rw [IntKind.wrap_i64]; omega
  have hwa : IntKind.i64.wrap (4 + (N : Int)) = ((4 + N : Nat) : Int) := by rw [IntKind.wrap_i64]; omega
  have hm5 : m ≤ 5000 := by omega
  have hmin : min (m : Int) 32789 = (m : Int) := by omega
  clear hA hN hm
  by_cases h : m < 4 + N
  · rw [if_pos h]
    have hgt : decide (((4 + N : Nat) : Int) > (m : Int)) = true := by simp; omega
    go_enter Tryd.func55, Tryd.ntmps55
    go_wp2_with fail
    go_fit HG.out
    rintro e w2 ⟨A2, m2, c2, rfl, hr2, hb2⟩
    have HB := hid hb2
    clear hr2 hb2
    go_wp2_with fail
    go_ret
    exact ⟨rfl, HB.out⟩
  · rw [if_neg h]
    have hgt : decide (((4 + N : Nat) : Int) > (m : Int)) = false := by simp; omega
    go_enter Tryd.func55, Tryd.ntmps55
    go_wp2_with fail
    go_fit HG.out
    rintro e w2 ⟨A2, m2, c2, rfl, hr2, hb2⟩
    have HB := hid hb2
    clear hr2 hb2
    go_wp2_with fail
    go_ret
    exact ⟨rfl, HB.out⟩

end Go.Proofs.YtngclmjefadokaaDoor

namespace Go.Proofs.YtngclmjefadokaaDoor
open Go Go.RowKit

/-- what is shown of record.Get -/
structure RGetIs : Prop where
  get : ∀ {A : Option Addr} {m c B : Nat} {l : List UInt8} {w : World}, At w B A l → m = l.length → m ≤ c → B ≤ w.heap.size → l.length ≤ 5000 → Calls Tryd.prog 36 #[.slice A m c] w fun e w' => e = .returned (recV (rget l)) ∧ Below w.heap.size w w'

theorem open_good_m {A : Option Addr} {c B n m : Nat} {l : List UInt8} {w : World} (e : m = n + 4) (hm : m = l.length) (hc : m ≤ c) (hA : At w B A l) (hB : B ≤ w.heap.size) (hl : l.length ≤ 70368744177664) (hno : l.drop n = sum4 (l.take n)) :
    Calls Tryd.prog 56 #[.slice A m c] w fun e w' => ∃ A' m' c', e = .returned (.tuple #[.slice A' m' c', .int .i64 0]) ∧ Row w' w.heap.size 5 A' m' c' (l.take n) ∧ Below w.heap.size w w' := by
  subst e
  exact open_good A c B n l w hm hc hA hB hl hno
theorem open_wrong_m {A : Option Addr} {c B n m : Nat} {l : List UInt8} {w : World} (e : m = n + 4) (hm : m = l.length) (hc : m ≤ c) (hA : At w B A l) (hB : B ≤ w.heap.size) (hl : l.length ≤ 70368744177664) (hno : l.drop n ≠ sum4 (l.take n)) :
    Calls Tryd.prog 56 #[.slice A m c] w fun e w' => e = .returned (.tuple #[.slice none 0 0, .int .i64 21]) ∧ Below w.heap.size w w' := by
  subst e
  exact open_wrong A c B n l w hm hc hA hB hl hno

set_option maxHeartbeats 8000000 in
set_option maxRecDepth 100000 in
theorem rget_any : RGetIs where
  get := by
    intro A m c B l w hA hm hc hB hl
    have HA := hid hA
    have HM := hid hm
    have HC := hid hc
    have HB := hid hB
    have HB1 := hid (show Below w.heap.size w (w.alloc (.cells #[.int .u64 0, .string ⟨#[]⟩] 71)) from (Below.refl _ _).alloc (Nat.le_refl _) _)
    have HX1 := hid (Blk.new w 71 #[.int .u64 0, .string ⟨#[]⟩])
    have hm5 : m ≤ 5000 := by omega
    clear hA hB
    unfold rget
    by_cases h4 : l.length < 4
    · rw [if_pos (.inl h4)]
      unfold recV
      dsimp only
      have HG := hid (fun (W : World) => whole_short (A := A) (m := m) (c := c) (w := W) (by omega))
      clear hm hc
      go_enter Tryd.func36, Tryd.ntmps36
      go_wp2_with fail
      generalize w.alloc (.cells #[.int .u64 0, .string ⟨#[]⟩] 71) = w1 at *
      go_fit (HG.out w1)
      rintro e w2 ⟨rfl, rfl⟩
      obtain ⟨a0, a1, fa0, fa1⟩ := twoc HX1.out
      go_wp2_with fail
      refine bodyPost_ret (v := .tuple #[.agg #[.int .u64 0, .string ⟨#[]⟩], .int .i64 0, .bool false]) (by simp [results, Tryd.results36, go_sem, *]) rfl ⟨rfl, ?_⟩
      exact (HB1.out.setCell (p := ⟨w.heap.size, 0, none⟩) (Nat.le_refl _) _).setCell (p := ⟨w.heap.size, 1, none⟩) (Nat.le_refl _) _
    obtain ⟨n, hn⟩ : ∃ n, n = 4 + ofBe (l.take 4) := ⟨_, rfl⟩
    have hN32 : ofBe (l.take 4) < 4294967296 := by have h := ofBe_lt (l.take 4); rw [show (l.take 4).length = 4 by rw [List.length_take]; omega] at h; exact h
    have HLT := hid hN32
    have HNN := hid hn
    have HN4 := hid (show 4 ≤ n by omega)
    rw [show ofBe (l.take 4) = n - 4 by omega]
    have h4m : 4 ≤ m := by omega
    clear hc hn hN32
    by_cases hlen : m < n
    · rw [if_pos (.inr (by have := HN4.out; omega))]
      unfold recV
      dsimp only
      clear hm
      go_enter Tryd.func36, Tryd.ntmps36
      go_wp2_with fail
      generalize w.alloc (.cells #[.int .u64 0, .string ⟨#[]⟩] 71) = w1 at *
      go_fit (whole_is (HA.out.below (HB1.out.mono HB.out)) HM.out HC.out (Nat.le_trans HB.out HB1.out.size) (by have := HM.out; omega) (by omega) rfl HLT.out HNN.out)
      rintro e w2 ⟨rfl, hb2⟩
      have HB2 := hid (below_step HB1.out hb2)
      have HX2 := hid (HX1.out.below hb2 HX1.out.lt)
      clear hb2
      rw [if_pos hlen]
      obtain ⟨a0, a1, fa0, fa1⟩ := twoc HX2.out
      go_wp2_with fail
      refine bodyPost_ret (v := .tuple #[.agg #[.int .u64 0, .string ⟨#[]⟩], .int .i64 0, .bool false]) (by simp [results, Tryd.results36, go_sem, *]) rfl ⟨rfl, ?_⟩
      exact (HB2.out.setCell (p := ⟨w.heap.size, 0, none⟩) (Nat.le_refl _) _).setCell (p := ⟨w.heap.size, 1, none⟩) (Nat.le_refl _) _
    rw [if_neg (by have := HN4.out; omega), show 4 + (n - 4) = n by have := HN4.out; omega]
    have hsl4 : ((l.drop 4).take (n - 4)).length = n - 4 := by rw [List.length_take, List.length_drop]; omega
    obtain ⟨s, hs⟩ : ∃ s, s = (l.drop 4).take (n - 4) := ⟨_, rfl⟩
    rw [← hs] at hsl4 ⊢
    have HSS := hid hs
    clear hs hm
    by_cases h5 : n - 4 < 4
    · have : runseal s = none := if_neg (by omega)
      rw [this]
      show Calls _ _ _ _ fun e w' => e = .returned (recV none) ∧ _
      unfold recV
      dsimp only
      clear this
      go_enter Tryd.func36, Tryd.ntmps36
      go_wp2_with fail
      generalize w.alloc (.cells #[.int .u64 0, .string ⟨#[]⟩] 71) = w1 at *
      go_fit (whole_is (HA.out.below (HB1.out.mono HB.out)) HM.out HC.out (Nat.le_trans HB.out HB1.out.size) (by have := HM.out; omega) (by omega) rfl HLT.out HNN.out)
      rintro e w2 ⟨rfl, hb2⟩
      have HB2 := hid (below_step HB1.out hb2)
      have HX2 := hid (HX1.out.below hb2 HX1.out.lt)
      clear hb2
      rw [if_neg (by omega)]
      obtain ⟨A2, hsl, hA2⟩ := slice_mid (k := 4) (HA.out.below (HB2.out.mono HB.out)) HM.out HC.out HN4.out (by omega)
      rw [← HSS.out] at hA2
      have HAS := hid hA2
      have hsl' : ∀ (i j : IntKind) (W : World), (Instr.slice 98 (.slice A m c) (some (.int i 4)) (some (.int j (n : Int))) none).run Tryd.prog W = .ok (.slice A2 (n - 4) (c - 4)) W := hsl
      have hn0 : ((n : Int) == 0) = false := by have := HN4.out; simp; omega
      have HB2' := hid (Nat.le_trans HB.out HB2.out.size)
      clear hsl hA2
      obtain ⟨a0, a1, fa0, fa1⟩ := twoc HX2.out
      go_wp2_with fail
      go_fit (open_short A2 (n - 4) (c - 4) w2 h5)
      rintro e w3 ⟨rfl, rfl⟩
      go_wp2_with fail
      refine bodyPost_ret (v := .tuple #[.agg #[.int .u64 0, .string ⟨#[]⟩], .int .i64 0, .bool false]) (by simp [results, Tryd.results36, go_sem, *]) rfl ⟨rfl, ?_⟩
      exact (HB2.out.setCell (p := ⟨w.heap.size, 0, none⟩) (Nat.le_refl _) _).setCell (p := ⟨w.heap.size, 1, none⟩) (Nat.le_refl _) _
    by_cases hok : s.drop (n - 4 - 4) = sum4 (s.take (n - 4 - 4))
    case neg =>
      have : runseal s = none := if_neg (by rw [hsl4]; exact fun h => hok h.2)
      rw [this]
      show Calls _ _ _ _ fun e w' => e = .returned (recV none) ∧ _
      unfold recV
      dsimp only
      have HNO := hid hok
      clear this hok
      go_enter Tryd.func36, Tryd.ntmps36
      go_wp2_with fail
      generalize w.alloc (.cells #[.int .u64 0, .string ⟨#[]⟩] 71) = w1 at *
      go_fit (whole_is (HA.out.below (HB1.out.mono HB.out)) HM.out HC.out (Nat.le_trans HB.out HB1.out.size) (by have := HM.out; omega) (by omega) rfl HLT.out HNN.out)
      rintro e w2 ⟨rfl, hb2⟩
      have HB2 := hid (below_step HB1.out hb2)
      have HX2 := hid (HX1.out.below hb2 HX1.out.lt)
      clear hb2
      rw [if_neg (by omega)]
      obtain ⟨A2, hsl, hA2⟩ := slice_mid (k := 4) (HA.out.below (HB2.out.mono HB.out)) HM.out HC.out HN4.out (by omega)
      rw [← HSS.out] at hA2
      have HAS := hid hA2
      have hsl' : ∀ (i j : IntKind) (W : World), (Instr.slice 98 (.slice A m c) (some (.int i 4)) (some (.int j (n : Int))) none).run Tryd.prog W = .ok (.slice A2 (n - 4) (c - 4)) W := hsl
      have hn0 : ((n : Int) == 0) = false := by have := HN4.out; simp; omega
      have HB2' := hid (Nat.le_trans HB.out HB2.out.size)
      clear hsl hA2
      obtain ⟨a0, a1, fa0, fa1⟩ := twoc HX2.out
      go_wp2_with fail
      go_fit (open_wrong_m (n := n - 4 - 4) (by omega) hsl4.symm (by have := HC.out; omega) HAS.out HB2'.out (by omega) HNO.out)
      rintro e w3 ⟨rfl, hb3⟩
      have HB3 := hid (below_step HB2.out hb3)
      have HX3 := hid (HX2.out.below hb3 HX2.out.lt)
      clear hb3 a0 a1 fa0 fa1
      obtain ⟨a0, a1, fa0, fa1⟩ := twoc HX3.out
      go_wp2_with fail
      refine bodyPost_ret (v := .tuple #[.agg #[.int .u64 0, .string ⟨#[]⟩], .int .i64 0, .bool false]) (by simp [results, Tryd.results36, go_sem, *]) rfl ⟨rfl, ?_⟩
      exact (HB3.out.setCell (p := ⟨w.heap.size, 0, none⟩) (Nat.le_refl _) _).setCell (p := ⟨w.heap.size, 1, none⟩) (Nat.le_refl _) _
    have hus : runseal s = some (s.take (n - 4 - 4)) := by unfold runseal; rw [hsl4, if_pos ⟨by omega, hok⟩]
    rw [hus]
    have HOK := hid hok
    clear hus hok
    have htl : (s.take (n - 4 - 4)).length ≤ 5000 := by rw [List.length_take]; omega
    obtain ⟨t, ht⟩ : ∃ t, s.take (n - 4 - 4) = t := ⟨_, rfl⟩
    rw [ht] at htl ⊢
    have HTT := hid ht
    clear ht
    show Calls _ _ _ _ fun e w' => e = .returned (recV ((rfields t).map fun x => (x.1, x.2, n))) ∧ _
    unfold rfields
    obtain ⟨v, o, f, ho1⟩ : ∃ v o f, rnum t = (v, o, f) := ⟨_, _, _, rfl⟩
    have hv64 := rnum_lt t
    rw [ho1] at hv64 ⊢
    have HNM := hid ho1
    clear ho1
    dsimp only at hv64 ⊢
    obtain ⟨x, m', g, ho2⟩ : ∃ x m' g, rtext o = (x, m', g) := ⟨_, _, _, rfl⟩
    rw [ho2]
    have HTX := hid ho2
    clear ho2
    dsimp only
    have zx := bst_size x
    by_cases hf : f = 0
    case neg =>
      rw [if_neg (fun h => hf h.1)]
      have HEO := hid (show endOf o f = f from if_neg (fun h => hf h.1))
      have hf1 : ((f : Int) != 0) = true := by simpa using hf
      show Calls _ _ _ _ fun e w' => e = .returned (recV none) ∧ _
      unfold recV
      dsimp only
      go_enter Tryd.func36, Tryd.ntmps36
      go_wp2_with fail
      generalize w.alloc (.cells #[.int .u64 0, .string ⟨#[]⟩] 71) = w1 at *
      go_fit (whole_is (HA.out.below (HB1.out.mono HB.out)) HM.out HC.out (Nat.le_trans HB.out HB1.out.size) (by have := HM.out; omega) (by omega) rfl HLT.out HNN.out)
      rintro e w2 ⟨rfl, hb2⟩
      have HB2 := hid (below_step HB1.out hb2)
      have HX2 := hid (HX1.out.below hb2 HX1.out.lt)
      clear hb2
      rw [if_neg (by omega)]
      obtain ⟨A2, hsl, hA2⟩ := slice_mid (k := 4) (HA.out.below (HB2.out.mono HB.out)) HM.out HC.out HN4.out (by omega)
      rw [← HSS.out] at hA2
      have HAS := hid hA2
      have hsl' : ∀ (i j : IntKind) (W : World), (Instr.slice 98 (.slice A m c) (some (.int i 4)) (some (.int j (n : Int))) none).run Tryd.prog W = .ok (.slice A2 (n - 4) (c - 4)) W := hsl
      have hn0 : ((n : Int) == 0) = false := by have := HN4.out; simp; omega
      have HB2' := hid (Nat.le_trans HB.out HB2.out.size)
      clear hsl hA2
      obtain ⟨a0, a1, fa0, fa1⟩ := twoc HX2.out
      go_wp2_with fail
      go_fit (open_good_m (n := n - 4 - 4) (by omega) hsl4.symm (by have := HC.out; omega) HAS.out HB2'.out (by omega) HOK.out)
      rintro e w3 ⟨A3, m3, c3, rfl, hr3, hb3⟩
      rw [HTT.out] at hr3
      have HR3 := hid hr3
      have HB3 := hid (below_step HB2.out hb3)
      have HX3 := hid (HX2.out.below hb3 HX2.out.lt)
      clear hr3 hb3 a0 a1 fa0 fa1
      go_wp2_with fail
      go_fit (read_any HR3.out.at_ HR3.out.1 (Nat.le_refl _) (by omega))
      rintro e w4 ⟨r, rfl, hrd, hrb, hb4⟩
      have HRD4 := hid hrd
      have HRB := hid (show w.heap.size + 1 ≤ r by have := HX3.out.lt; omega)
      have HB4 := hid (below_step HB3.out hb4)
      have HX4 := hid (HX3.out.below hb4 HX3.out.lt)
      clear hrd hrb hb4
      go_wp2_with fail
      go_fit (get_num r t w4 HRD4.out)
      rw [HNM.out]
      dsimp only
      rintro e w5 ⟨rfl, hrd, ho⟩
      have HRD5 := hid hrd
      have HB5 := hid (HB4.out.grown ho HB4.out.size (fun k hk => by injection hk with hk; have := HRB.out; omega))
      have HX5 := hid (HX4.out.grown ho (fun h => by injection h with h; have := HRB.out; omega))
      clear hrd ho
      go_wp2_with fail
      go_fit (get_text_not r f o w5 HRD5.out hf)
      rintro e w6 ⟨rfl, hrd, ho⟩
      have HRD6 := hid hrd
      have HB6 := hid (HB5.out.grown ho HB5.out.size (fun k hk => by injection hk with hk; have := HRB.out; omega))
      have HX6 := hid (HX5.out.grown ho (fun h => by injection h with h; have := HRB.out; omega))
      clear hrd ho
      go_wp2_with fail
      have hb7 : Below w6.heap.size w6 (w6.alloc (.cells #[.int .u64 (v : Int), .string (bst [])] 71)) := (Below.refl _ _).alloc (Nat.le_refl _) _
      have HB7 := hid (below_step HB6.out hb7)
      have HX7 := hid (HX6.out.below hb7 HX6.out.lt)
      have HY7 := hid (Blk.new w6 71 #[.int .u64 (v : Int), .string (bst [])])
      have HRD7 := hid (HRD6.out.step hb7)
      clear hb7
      generalize w6.alloc (.cells #[.int .u64 (v : Int), .string (bst [])] 71) = w7 at *
      go_fit (end_any r _ _ w7 HRD7.out)
      rintro e w8 ⟨rfl, rfl⟩
      rw [HEO.out]
      obtain ⟨a0, a1, fa0, fa1⟩ := twoc HX7.out
      obtain ⟨b0, b1, fb0, fb1⟩ := twoc HY7.out
      go_wp2_with fail

      refine bodyPost_ret (v := .tuple #[.agg #[.int .u64 0, .string ⟨#[]⟩], .int .i64 0, .bool false]) (by simp [results, Tryd.results36, go_sem, *]) rfl ⟨rfl, ?_⟩
      exact (HB7.out.setCell (p := ⟨w.heap.size, 0, none⟩) (Nat.le_refl _) _).setCell (p := ⟨w.heap.size, 1, none⟩) (Nat.le_refl _) _
    subst hf
    by_cases hg : g = 0
    case neg =>
      rw [if_neg (fun h => hg h.2.1)]
      have HEO := hid (show endOf m' g = g from if_neg (fun h => hg h.1))
      have hg1 : ((g : Int) != 0) = true := by simpa using hg
      show Calls _ _ _ _ fun e w' => e = .returned (recV none) ∧ _
      unfold recV
      dsimp only
      go_enter Tryd.func36, Tryd.ntmps36
      go_wp2_with fail
      generalize w.alloc (.cells #[.int .u64 0, .string ⟨#[]⟩] 71) = w1 at *
      go_fit (whole_is (HA.out.below (HB1.out.mono HB.out)) HM.out HC.out (Nat.le_trans HB.out HB1.out.size) (by have := HM.out; omega) (by omega) rfl HLT.out HNN.out)
      rintro e w2 ⟨rfl, hb2⟩
      have HB2 := hid (below_step HB1.out hb2)
      have HX2 := hid (HX1.out.below hb2 HX1.out.lt)
      clear hb2
      rw [if_neg (by omega)]
      obtain ⟨A2, hsl, hA2⟩ := slice_mid (k := 4) (HA.out.below (HB2.out.mono HB.out)) HM.out HC.out HN4.out (by omega)
      rw [← HSS.out] at hA2
      have HAS := hid hA2
      have hsl' : ∀ (i j : IntKind) (W : World), (Instr.slice 98 (.slice A m c) (some (.int i 4)) (some (.int j (n : Int))) none).run Tryd.prog W = .ok (.slice A2 (n - 4) (c - 4)) W := hsl
      have hn0 : ((n : Int) == 0) = false := by have := HN4.out; simp; omega
      have HB2' := hid (Nat.le_trans HB.out HB2.out.size)
      clear hsl hA2
      obtain ⟨a0, a1, fa0, fa1⟩ := twoc HX2.out
      go_wp2_with fail
      go_fit (open_good_m (n := n - 4 - 4) (by omega) hsl4.symm (by have := HC.out; omega) HAS.out HB2'.out (by omega) HOK.out)
      rintro e w3 ⟨A3, m3, c3, rfl, hr3, hb3⟩
      rw [HTT.out] at hr3
      have HR3 := hid hr3
      have HB3 := hid (below_step HB2.out hb3)
      have HX3 := hid (HX2.out.below hb3 HX2.out.lt)
      clear hr3 hb3 a0 a1 fa0 fa1
      go_wp2_with fail
      go_fit (read_any HR3.out.at_ HR3.out.1 (Nat.le_refl _) (by omega))
      rintro e w4 ⟨r, rfl, hrd, hrb, hb4⟩
      have HRD4 := hid hrd
      have HRB := hid (show w.heap.size + 1 ≤ r by have := HX3.out.lt; omega)
      have HB4 := hid (below_step HB3.out hb4)
      have HX4 := hid (HX3.out.below hb4 HX3.out.lt)
      clear hrd hrb hb4
      go_wp2_with fail
      go_fit (get_num r t w4 HRD4.out)
      rw [HNM.out]
      dsimp only
      rintro e w5 ⟨rfl, hrd, ho⟩
      have HRD5 := hid hrd
      have HB5 := hid (HB4.out.grown ho HB4.out.size (fun k hk => by injection hk with hk; have := HRB.out; omega))
      have HX5 := hid (HX4.out.grown ho (fun h => by injection h with h; have := HRB.out; omega))
      clear hrd ho
      go_wp2_with fail
      go_fit (get_text r o w5 HRD5.out)
      rw [HTX.out]
      dsimp only
      rintro e w6 ⟨rfl, hrd, ho⟩
      have HRD6 := hid hrd
      have HB6 := hid (HB5.out.grown ho HB5.out.size (fun k hk => by injection hk with hk; have := HRB.out; omega))
      have HX6 := hid (HX5.out.grown ho (fun h => by injection h with h; have := HRB.out; omega))
      clear hrd ho
      go_wp2_with fail
      have hb7 : Below w6.heap.size w6 (w6.alloc (.cells #[.int .u64 (v : Int), .string (bst x)] 71)) := (Below.refl _ _).alloc (Nat.le_refl _) _
      have HB7 := hid (below_step HB6.out hb7)
      have HX7 := hid (HX6.out.below hb7 HX6.out.lt)
      have HY7 := hid (Blk.new w6 71 #[.int .u64 (v : Int), .string (bst x)])
      have HRD7 := hid (HRD6.out.step hb7)
      clear hb7
      generalize w6.alloc (.cells #[.int .u64 (v : Int), .string (bst x)] 71) = w7 at *
      go_fit (end_any r _ _ w7 HRD7.out)
      rintro e w8 ⟨rfl, rfl⟩
      rw [HEO.out]
      obtain ⟨a0, a1, fa0, fa1⟩ := twoc HX7.out
      obtain ⟨b0, b1, fb0, fb1⟩ := twoc HY7.out
      go_wp2_with fail

      refine bodyPost_ret (v := .tuple #[.agg #[.int .u64 0, .string ⟨#[]⟩], .int .i64 0, .bool false]) (by simp [results, Tryd.results36, go_sem, *]) rfl ⟨rfl, ?_⟩
      exact (HB7.out.setCell (p := ⟨w.heap.size, 0, none⟩) (Nat.le_refl _) _).setCell (p := ⟨w.heap.size, 1, none⟩) (Nat.le_refl _) _
    subst hg
    by_cases hm : m' = []
    case neg =>
      rw [if_neg (fun h => hm h.2.2.1)]
      have HEO := hid (show endOf m' 0 = 31 from if_pos ⟨rfl, by cases m' with | nil => exact absurd rfl hm | cons y ys => simp⟩)
      show Calls _ _ _ _ fun e w' => e = .returned (recV none) ∧ _
      unfold recV
      dsimp only
      go_enter Tryd.func36, Tryd.ntmps36
      go_wp2_with fail
      generalize w.alloc (.cells #[.int .u64 0, .string ⟨#[]⟩] 71) = w1 at *
      go_fit (whole_is (HA.out.below (HB1.out.mono HB.out)) HM.out HC.out (Nat.le_trans HB.out HB1.out.size) (by have := HM.out; omega) (by omega) rfl HLT.out HNN.out)
      rintro e w2 ⟨rfl, hb2⟩
      have HB2 := hid (below_step HB1.out hb2)
      have HX2 := hid (HX1.out.below hb2 HX1.out.lt)
      clear hb2
      rw [if_neg (by omega)]
      obtain ⟨A2, hsl, hA2⟩ := slice_mid (k := 4) (HA.out.below (HB2.out.mono HB.out)) HM.out HC.out HN4.out (by omega)
      rw [← HSS.out] at hA2
      have HAS := hid hA2
      have hsl' : ∀ (i j : IntKind) (W : World), (Instr.slice 98 (.slice A m c) (some (.int i 4)) (some (.int j (n : Int))) none).run Tryd.prog W = .ok (.slice A2 (n - 4) (c - 4)) W := hsl
      have hn0 : ((n : Int) == 0) = false := by have := HN4.out; simp; omega
      have HB2' := hid (Nat.le_trans HB.out HB2.out.size)
      clear hsl hA2
      obtain ⟨a0, a1, fa0, fa1⟩ := twoc HX2.out
      go_wp2_with fail
      go_fit (open_good_m (n := n - 4 - 4) (by omega) hsl4.symm (by have := HC.out; omega) HAS.out HB2'.out (by omega) HOK.out)
      rintro e w3 ⟨A3, m3, c3, rfl, hr3, hb3⟩
      rw [HTT.out] at hr3
      have HR3 := hid hr3
      have HB3 := hid (below_step HB2.out hb3)
      have HX3 := hid (HX2.out.below hb3 HX2.out.lt)
      clear hr3 hb3 a0 a1 fa0 fa1
      go_wp2_with fail
      go_fit (read_any HR3.out.at_ HR3.out.1 (Nat.le_refl _) (by omega))
      rintro e w4 ⟨r, rfl, hrd, hrb, hb4⟩
      have HRD4 := hid hrd
      have HRB := hid (show w.heap.size + 1 ≤ r by have := HX3.out.lt; omega)
      have HB4 := hid (below_step HB3.out hb4)
      have HX4 := hid (HX3.out.below hb4 HX3.out.lt)
      clear hrd hrb hb4
      go_wp2_with fail
      go_fit (get_num r t w4 HRD4.out)
      rw [HNM.out]
      dsimp only
      rintro e w5 ⟨rfl, hrd, ho⟩
      have HRD5 := hid hrd
      have HB5 := hid (HB4.out.grown ho HB4.out.size (fun k hk => by injection hk with hk; have := HRB.out; omega))
      have HX5 := hid (HX4.out.grown ho (fun h => by injection h with h; have := HRB.out; omega))
      clear hrd ho
      go_wp2_with fail
      go_fit (get_text r o w5 HRD5.out)
      rw [HTX.out]
      dsimp only
      rintro e w6 ⟨rfl, hrd, ho⟩
      have HRD6 := hid hrd
      have HB6 := hid (HB5.out.grown ho HB5.out.size (fun k hk => by injection hk with hk; have := HRB.out; omega))
      have HX6 := hid (HX5.out.grown ho (fun h => by injection h with h; have := HRB.out; omega))
      clear hrd ho
      go_wp2_with fail
      have hb7 : Below w6.heap.size w6 (w6.alloc (.cells #[.int .u64 (v : Int), .string (bst x)] 71)) := (Below.refl _ _).alloc (Nat.le_refl _) _
      have HB7 := hid (below_step HB6.out hb7)
      have HX7 := hid (HX6.out.below hb7 HX6.out.lt)
      have HY7 := hid (Blk.new w6 71 #[.int .u64 (v : Int), .string (bst x)])
      have HRD7 := hid (HRD6.out.step hb7)
      clear hb7
      generalize w6.alloc (.cells #[.int .u64 (v : Int), .string (bst x)] 71) = w7 at *
      go_fit (end_any r _ _ w7 HRD7.out)
      rintro e w8 ⟨rfl, rfl⟩
      rw [HEO.out]
      obtain ⟨a0, a1, fa0, fa1⟩ := twoc HX7.out
      obtain ⟨b0, b1, fb0, fb1⟩ := twoc HY7.out
      go_wp2_with fail

      refine bodyPost_ret (v := .tuple #[.agg #[.int .u64 0, .string ⟨#[]⟩], .int .i64 0, .bool false]) (by simp [results, Tryd.results36, go_sem, *]) rfl ⟨rfl, ?_⟩
      exact (HB7.out.setCell (p := ⟨w.heap.size, 0, none⟩) (Nat.le_refl _) _).setCell (p := ⟨w.heap.size, 1, none⟩) (Nat.le_refl _) _
    subst hm
    have HEO := hid (show endOf [] 0 = 0 from rfl)
    by_cases hx : x.length ≤ 32768
    case neg =>
      rw [if_neg (fun h => hx h.2.2.2)]
      have hx1 : 32768 < x.length := by omega
      show Calls _ _ _ _ fun e w' => e = .returned (recV none) ∧ _
      unfold recV
      dsimp only
      clear hx
      go_enter Tryd.func36, Tryd.ntmps36
      go_wp2_with fail
      generalize w.alloc (.cells #[.int .u64 0, .string ⟨#[]⟩] 71) = w1 at *
      go_fit (whole_is (HA.out.below (HB1.out.mono HB.out)) HM.out HC.out (Nat.le_trans HB.out HB1.out.size) (by have := HM.out; omega) (by omega) rfl HLT.out HNN.out)
      rintro e w2 ⟨rfl, hb2⟩
      have HB2 := hid (below_step HB1.out hb2)
      have HX2 := hid (HX1.out.below hb2 HX1.out.lt)
      clear hb2
      rw [if_neg (by omega)]
      obtain ⟨A2, hsl, hA2⟩ := slice_mid (k := 4) (HA.out.below (HB2.out.mono HB.out)) HM.out HC.out HN4.out (by omega)
      rw [← HSS.out] at hA2
      have HAS := hid hA2
      have hsl' : ∀ (i j : IntKind) (W : World), (Instr.slice 98 (.slice A m c) (some (.int i 4)) (some (.int j (n : Int))) none).run Tryd.prog W = .ok (.slice A2 (n - 4) (c - 4)) W := hsl
      have hn0 : ((n : Int) == 0) = false := by have := HN4.out; simp; omega
      have HB2' := hid (Nat.le_trans HB.out HB2.out.size)
      clear hsl hA2
      obtain ⟨a0, a1, fa0, fa1⟩ := twoc HX2.out
      go_wp2_with fail
      go_fit (open_good_m (n := n - 4 - 4) (by omega) hsl4.symm (by have := HC.out; omega) HAS.out HB2'.out (by omega) HOK.out)
      rintro e w3 ⟨A3, m3, c3, rfl, hr3, hb3⟩
      rw [HTT.out] at hr3
      have HR3 := hid hr3
      have HB3 := hid (below_step HB2.out hb3)
      have HX3 := hid (HX2.out.below hb3 HX2.out.lt)
      clear hr3 hb3 a0 a1 fa0 fa1
      go_wp2_with fail
      go_fit (read_any HR3.out.at_ HR3.out.1 (Nat.le_refl _) (by omega))
      rintro e w4 ⟨r, rfl, hrd, hrb, hb4⟩
      have HRD4 := hid hrd
      have HRB := hid (show w.heap.size + 1 ≤ r by have := HX3.out.lt; omega)
      have HB4 := hid (below_step HB3.out hb4)
      have HX4 := hid (HX3.out.below hb4 HX3.out.lt)
      clear hrd hrb hb4
      go_wp2_with fail
      go_fit (get_num r t w4 HRD4.out)
      rw [HNM.out]
      dsimp only
      rintro e w5 ⟨rfl, hrd, ho⟩
      have HRD5 := hid hrd
      have HB5 := hid (HB4.out.grown ho HB4.out.size (fun k hk => by injection hk with hk; have := HRB.out; omega))
      have HX5 := hid (HX4.out.grown ho (fun h => by injection h with h; have := HRB.out; omega))
      clear hrd ho
      go_wp2_with fail
      go_fit (get_text r o w5 HRD5.out)
      rw [HTX.out]
      dsimp only
      rintro e w6 ⟨rfl, hrd, ho⟩
      have HRD6 := hid hrd
      have HB6 := hid (HB5.out.grown ho HB5.out.size (fun k hk => by injection hk with hk; have := HRB.out; omega))
      have HX6 := hid (HX5.out.grown ho (fun h => by injection h with h; have := HRB.out; omega))
      clear hrd ho
      go_wp2_with fail
      have hb7 : Below w6.heap.size w6 (w6.alloc (.cells #[.int .u64 (v : Int), .string (bst x)] 71)) := (Below.refl _ _).alloc (Nat.le_refl _) _
      have HB7 := hid (below_step HB6.out hb7)
      have HX7 := hid (HX6.out.below hb7 HX6.out.lt)
      have HY7 := hid (Blk.new w6 71 #[.int .u64 (v : Int), .string (bst x)])
      have HRD7 := hid (HRD6.out.step hb7)
      clear hb7
      generalize w6.alloc (.cells #[.int .u64 (v : Int), .string (bst x)] 71) = w7 at *
      go_fit (end_any r _ _ w7 HRD7.out)
      rintro e w8 ⟨rfl, rfl⟩
      rw [HEO.out]
      obtain ⟨a0, a1, fa0, fa1⟩ := twoc HX7.out
      obtain ⟨b0, b1, fb0, fb1⟩ := twoc HY7.out
      go_wp2_with fail

      refine bodyPost_ret (v := .tuple #[.agg #[.int .u64 0, .string ⟨#[]⟩], .int .i64 0, .bool false]) (by simp [results, Tryd.results36, go_sem, *]) rfl ⟨rfl, ?_⟩
      exact (HB7.out.setCell (p := ⟨w.heap.size, 0, none⟩) (Nat.le_refl _) _).setCell (p := ⟨w.heap.size, 1, none⟩) (Nat.le_refl _) _
    rw [if_pos ⟨rfl, rfl, rfl, hx⟩]
    show Calls _ _ _ _ fun e w' => e = .returned (.tuple #[.agg #[.int .u64 (v : Int), .string (bst x)], .int .i64 (n : Int), .bool true]) ∧ _
    go_enter Tryd.func36, Tryd.ntmps36
    go_wp2_with fail
    generalize w.alloc (.cells #[.int .u64 0, .string ⟨#[]⟩] 71) = w1 at *
    go_fit (whole_is (HA.out.below (HB1.out.mono HB.out)) HM.out HC.out (Nat.le_trans HB.out HB1.out.size) (by have := HM.out; omega) (by omega) rfl HLT.out HNN.out)
    rintro e w2 ⟨rfl, hb2⟩
    have HB2 := hid (below_step HB1.out hb2)
    have HX2 := hid (HX1.out.below hb2 HX1.out.lt)
    clear hb2
    rw [if_neg (by omega)]
    obtain ⟨A2, hsl, hA2⟩ := slice_mid (k := 4) (HA.out.below (HB2.out.mono HB.out)) HM.out HC.out HN4.out (by omega)
    rw [← HSS.out] at hA2
    have HAS := hid hA2
    have hsl' : ∀ (i j : IntKind) (W : World), (Instr.slice 98 (.slice A m c) (some (.int i 4)) (some (.int j (n : Int))) none).run Tryd.prog W = .ok (.slice A2 (n - 4) (c - 4)) W := hsl
    have hn0 : ((n : Int) == 0) = false := by have := HN4.out; simp; omega
    have HB2' := hid (Nat.le_trans HB.out HB2.out.size)
    clear hsl hA2
    obtain ⟨a0, a1, fa0, fa1⟩ := twoc HX2.out
    go_wp2_with fail
    go_fit (open_good_m (n := n - 4 - 4) (by omega) hsl4.symm (by have := HC.out; omega) HAS.out HB2'.out (by omega) HOK.out)
    rintro e w3 ⟨A3, m3, c3, rfl, hr3, hb3⟩
    rw [HTT.out] at hr3
    have HR3 := hid hr3
    have HB3 := hid (below_step HB2.out hb3)
    have HX3 := hid (HX2.out.below hb3 HX2.out.lt)
    clear hr3 hb3 a0 a1 fa0 fa1
    go_wp2_with fail
    go_fit (read_any HR3.out.at_ HR3.out.1 (Nat.le_refl _) (by omega))
    rintro e w4 ⟨r, rfl, hrd, hrb, hb4⟩
    have HRD4 := hid hrd
    have HRB := hid (show w.heap.size + 1 ≤ r by have := HX3.out.lt; omega)
    have HB4 := hid (below_step HB3.out hb4)
    have HX4 := hid (HX3.out.below hb4 HX3.out.lt)
    clear hrd hrb hb4
    go_wp2_with fail
    go_fit (get_num r t w4 HRD4.out)
    rw [HNM.out]
    dsimp only
    rintro e w5 ⟨rfl, hrd, ho⟩
    have HRD5 := hid hrd
    have HB5 := hid (HB4.out.grown ho HB4.out.size (fun k hk => by injection hk with hk; have := HRB.out; omega))
    have HX5 := hid (HX4.out.grown ho (fun h => by injection h with h; have := HRB.out; omega))
    clear hrd ho
    go_wp2_with fail
    go_fit (get_text r o w5 HRD5.out)
    rw [HTX.out]
    dsimp only
    rintro e w6 ⟨rfl, hrd, ho⟩
    have HRD6 := hid hrd
    have HB6 := hid (HB5.out.grown ho HB5.out.size (fun k hk => by injection hk with hk; have := HRB.out; omega))
    have HX6 := hid (HX5.out.grown ho (fun h => by injection h with h; have := HRB.out; omega))
    clear hrd ho
    go_wp2_with fail
    have hb7 : Below w6.heap.size w6 (w6.alloc (.cells #[.int .u64 (v : Int), .string (bst x)] 71)) := (Below.refl _ _).alloc (Nat.le_refl _) _
    have HB7 := hid (below_step HB6.out hb7)
    have HX7 := hid (HX6.out.below hb7 HX6.out.lt)
    have HY7 := hid (Blk.new w6 71 #[.int .u64 (v : Int), .string (bst x)])
    have HRD7 := hid (HRD6.out.step hb7)
    clear hb7
    generalize w6.alloc (.cells #[.int .u64 (v : Int), .string (bst x)] 71) = w7 at *
    go_fit (end_any r _ _ w7 HRD7.out)
    rintro e w8 ⟨rfl, rfl⟩
    rw [HEO.out]
    obtain ⟨a0, a1, fa0, fa1⟩ := twoc HX7.out
    obtain ⟨b0, b1, fb0, fb1⟩ := twoc HY7.out
    go_wp2_with fail
    refine bodyPost_ret (v := .tuple #[.agg #[.int .u64 (v : Int), .string (bst x)], .int .i64 (n : Int), .bool true]) (by simp [results, Tryd.results36, go_sem, *]) rfl ⟨rfl, ?_⟩
    exact (HB7.out.setCell (p := ⟨w.heap.size, 0, none⟩) (Nat.le_refl _) _).setCell (p := ⟨w.heap.size, 1, none⟩) (Nat.le_refl _) _

end Go.Proofs.YtngclmjefadokaaDoor
