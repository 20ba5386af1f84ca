/-
  What the chapter's examples fix: the call that each statement makes first.
-/
import Derived.Test.YtkcebnagpgpclaaDoorCmpRef
import Derived.Deep.DeepFit
namespace Go.Proofs.YtkcebnagpgpclaaDoor
open Go Go.RowKit

theorem Table.below {w w' : World} (h : Table w) (h0 : 0 < w.heap.size) (hb : Below w.heap.size w w') : Table w' := fun k hk => (hb.cell (p := ⟨0, k, none⟩) h0).trans (h k hk)
theorem Table.pos {w : World} (h : Table w) : 0 < w.heap.size := World.block_lt_of_cell? w _ (h 0 (by decide))
theorem Table.alloc {w : World} (h : Table w) (o : Obj) : Table (w.alloc o) := fun k hk => (World.cell?_alloc_lt w o _ (by exact h.pos)).trans (h k hk)

/-- a row of the call's own, from then on -/
theorem Row.at_ {w : World} {base e m c : Nat} {A : Option Addr} {l : List UInt8} (h : Row w base e A m c l) : At w w.heap.size A l := At.own h.2

theorem str_of {w : World} {B m c : Nat} {A : Option Addr} {l : List UInt8} (hA : At w B A l) (hm : m = l.length) :
    (convert 24 9 (.slice A m c)).run Tryd.prog w = .ok (.string (bst l)) w :=
  conv_bytes _ _ _ Tryd.underlying24 Tryd.underlying5 Tryd.underlying9 hA hm

theorem getVar_is {A : Option Addr} {m c B v n : Nat} {l : List UInt8} {w : World} (hm : m = l.length) (hr : rdv 0 0 l = (v, n, 0)) (hA : At w B A l) (hB : B ≤ w.heap.size) (hl : l.length ≤ 70368744177664) (hc : m ≤ c) :
    Calls Tryd.prog 19 #[.slice A m c] w fun e w' =>
      ∃ A' m' c', e = .returned (.tuple #[.int .u64 (v : Int), .slice A' m' c', .int .i64 0]) ∧ Row w' w.heap.size 5 A' m' c' (l.drop n) ∧ Below w.heap.size w w' := by
  subst hm
  refine (getVar_any A c B l w hA hB hl hc).mono fun e w' h => ?_
  rw [hr] at h
  exact h.1 rfl
theorem getVar_not {A : Option Addr} {m c B x : Nat} {l : List UInt8} {w : World} (hm : m = l.length) (hr : rdv 0 0 l = (0, 0, x)) (hx : x ≠ 0) (hA : At w B A l) (hB : B ≤ w.heap.size) (hl : l.length ≤ 70368744177664) (hc : m ≤ c) :
    Calls Tryd.prog 19 #[.slice A m c] w fun e w' =>
      e = .returned (.tuple #[.int .u64 0, .slice none 0 0, .int .i64 (x : Int)]) ∧ w = w' := by
  subst hm
  refine (getVar_any A c B l w hA hB hl hc).mono fun e w' h => ?_
  rw [hr] at h
  exact h.2 hx
theorem putVar_is {A : Option Addr} {m c B : Nat} {l : List UInt8} {v : Nat} {w : World} (hm : m = l.length) (hA : At w B A l) (hB : B ≤ w.heap.size) (hl : l.length ≤ 70368744177664) (hv : v < 18446744073709551616) :
    Calls Tryd.prog 16 #[.slice A m c, .int .u64 (v : Int)] w fun e w' =>
      ∃ A' m' c', e = .returned (.slice A' m' c') ∧ Row w' w.heap.size 5 A' m' c' (l ++ vbytes v) ∧ Below w.heap.size w w' := by
  subst hm
  exact putVar_any A c B l v w hA hB hl hv
theorem put_is {A : Option Addr} {m c B : Nat} {l : List UInt8} {v n : Nat} {w : World} (hm : m = l.length) (hA : At w B A l) (hB : B ≤ w.heap.size) (hl : l.length ≤ 70368744177664) (hT : Table w) (h1 : 1 ≤ n) (h8 : n ≤ 8)
    (hfit : v / 256 ^ n = 0) (hv : v < 18446744073709551616) :
    Calls Tryd.prog 12 #[.slice A m c, .int .u64 (v : Int), .int .i64 (n : Int)] w fun e w' =>
      ∃ A' m' c', e = .returned (.tuple #[.slice A' m' c', .int .i64 0]) ∧ Row w' w.heap.size 5 A' m' c' (l ++ be v n) ∧ Below w.heap.size w w' := by
  subst hm
  exact put_good A c B l v n w hA hB hl hT h1 h8 hfit hv

theorem after_alloc {w w' : World} {o : Obj} (h : Below (w.alloc o).heap.size (w.alloc o) w') : Below w.heap.size w w' :=
  ((Below.refl _ _).alloc (Nat.le_refl _) o).trans (h.mono (by simp))

theorem cmp_is {A A' : Option Addr} {c d B m n : Nat} {a b : List UInt8} {w : World} (hm : m = a.length) (hn : n = b.length) (hA : At w B A a) (hA' : At w B A' b) (ha : a.length ≤ 70368744177664) (hb : b.length ≤ 70368744177664) :
    Calls Tryd.prog 21 #[.slice A m c, .slice A' n d] w fun e w' => e = .returned (.int .i64 (cmpL a b)) ∧ ∃ n, w' = w.drewN n := by
  subst hm hn
  exact cmp_any A A' c d B a b w hA hA' ha hb
theorem below_drewN {B : Nat} {a w : World} (h : Below B a w) (n : Nat) : Below B a (w.drewN n) := ⟨h.os, h.tape, h.output, h.size, h.block⟩
theorem cmp_ab : cmpL [97] [97, 98] = -1 := by decide
theorem len_300 : vlen 300 = 2 := by decide

theorem be_258 : [] ++ be 258 2 = [1, 2] := by decide
theorem vb_300 : [] ++ vbytes 300 = [172, 2] := by decide
theorem rd_a : rdv 0 0 [172, 2, 9] = (300, 2, 0) := by decide
theorem rd_b : rdv 0 0 [128] = (0, 0, 10) := by decide
theorem rd_c : rdv 0 0 [128, 0] = (0, 0, 12) := by decide

set_option maxHeartbeats 2000000 in
theorem awake_yes (w : World) (hT : Table w) :
    Calls Tryd.prog 11 #[] w fun e w' => e = .returned (.bool true) ∧ Below w.heap.size w w' := by
  have HT := hid hT
  have h0 := hT.pos
  clear hT
  have HP := hid (put_is (A := none) (c := 0) (l := []) (v := 258) (n := 2) (w := w) rfl (At.nil w 0 _) (Nat.zero_le _) (by simp) HT.out (by omega) (by omega) (by decide) (by decide))
  rw [be_258] at HP
  go_enter Tryd.func11, Tryd.ntmps11
  go_wp2_with fail
  go_fit HP.out
  rintro e w1 ⟨A1, m1, c1, rfl, hr1, hb1⟩
  have HT1 := hid (HT.out.below h0 hb1)
  go_wp2_with fail
  go_fit (put_great none 0 0 256 1 w1 HT1.out (by omega) (by omega) (by decide))
  rintro e w2 ⟨rfl, rfl⟩
  go_wp2_with fail
  go_fit (getVar_is rfl rd_a (At.lits w1 [172, 2, 9] 5 rfl) (by simp) (by simp) (by simp))
  rintro e w2 ⟨A2, m2, c2, rfl, hr2, hb2⟩
  have hb2' := after_alloc hb2
  have a1 := hr1.at_.below hb2'
  go_wp2_with fail
  go_fit (getVar_not rfl rd_b (by decide) (At.lits w2 [128] 5 rfl) (by simp) (by simp) (by simp))
  rintro e w3 ⟨rfl, rfl⟩
  go_wp2_with fail
  go_fit (getVar_not rfl rd_c (by decide) (At.lits (w2.alloc (.cells (bs [128]).toArray 5)) [128, 0] 5 (g := w2.heap.size + 1) (by simp)) (by simp) (by simp) (by simp))
  rintro e w3 ⟨rfl, rfl⟩
  have hb3 : Below w2.heap.size w2 ((w2.alloc (.cells #[.int .u8 128] 5)).alloc (.cells #[.int .u8 128, .int .u8 0] 5)) :=
    ((Below.refl _ _).alloc (Nat.le_refl _) _).alloc (by simp) _
  have b1 := a1.below (hb3.mono hb2'.size)
  have b2 := hr2.at_.below hb3
  generalize (w2.alloc (.cells #[.int .u8 128] 5)).alloc (.cells #[.int .u8 128, .int .u8 0] 5) = w3 at hb3 b1 b2
  have cv1 : ∀ c, (convert 24 9 (.slice A1 m1 c)).run Tryd.prog w3 = .ok (.string ⟨#[1, 2]⟩) w3 := fun c => str_of (c := c) b1 hr1.1
  have hV := hid (putVar_is (A := none) (c := 0) (l := []) (v := 300) (w := w3) rfl (At.nil w3 0 _) (Nat.zero_le _) (by simp) (by decide))
  rw [vb_300] at hV
  go_wp2_with fail
  go_fit hV.out
  rintro e w4 ⟨A4, m4, c4, rfl, hr4, hb4⟩
  have cv4 : ∀ c, (convert 24 9 (.slice A4 m4 c)).run Tryd.prog w4 = .ok (.string ⟨#[172, 2]⟩) w4 := fun c => str_of (c := c) hr4.at_ hr4.1
  have cv2 : ∀ c, (convert 24 9 (.slice A2 m2 c)).run Tryd.prog w4 = .ok (.string ⟨#[9]⟩) w4 := fun c => str_of (c := c) (b2.below (hb4.mono hb3.size)) hr2.1
  have k1 := Lib.run_convert_bytes_const (P := Tryd.prog) w4 24 5 #[.int .u8 97] 1 1 Tryd.underlying24 Tryd.underlying5
  have k2 := Joins.run_convert_bytes_const_at (P := Tryd.prog) (w4.alloc (.cells #[.int .u8 97] 5 (1, 2))) 24 5 #[.int .u8 97, .int .u8 98] 2 2 (w4.heap.size + 1) (by simp) Tryd.underlying24 Tryd.underlying5
  clear cv1
  have d1 : At ((w4.alloc (.cells #[.int .u8 97] 5 (1, 2))).alloc (.cells #[.int .u8 97, .int .u8 98] 5 (2, 3))) (w4.heap.size + 2) (some ⟨w4.heap.size, 0, none⟩) [97] :=
    ((At.lits w4 [97] 5 rfl (1, 2)).below ((Below.refl _ _).alloc (by simp) _)).more (by omega)
  have d2 : At ((w4.alloc (.cells #[.int .u8 97] 5 (1, 2))).alloc (.cells #[.int .u8 97, .int .u8 98] 5 (2, 3))) (w4.heap.size + 2) (some ⟨w4.heap.size + 1, 0, none⟩) [97, 98] :=
    (At.lits (w4.alloc (.cells #[.int .u8 97] 5 (1, 2))) [97, 98] 5 (by simp) (2, 3)).more (by simp)
  have hC := hid (cmp_is (c := 1) (d := 2) (m := 1) (n := 2) rfl rfl d1 d2 (by simp) (by simp))
  rw [cmp_ab] at hC
  clear d1 d2
  have hend : Below w.heap.size w ((w4.alloc (.cells #[.int .u8 97] 5 (1, 2))).alloc (.cells #[.int .u8 97, .int .u8 98] 5 (2, 3))) :=
    ((hb1.trans (((hb2'.trans (hb3.mono hb2'.size)).trans (hb4.mono (Nat.le_trans hb2'.size hb3.size))).mono hb1.size)).alloc (Nat.le_trans hb1.size (Nat.le_trans hb2'.size (Nat.le_trans hb3.size hb4.size))) _).alloc
      (by have := hb1.size; have := hb2'.size; have := hb3.size; have := hb4.size; simp; omega) _
  go_wp2_with fail
  go_fit hC.out
  rintro e w5 ⟨rfl, nq, rfl⟩
  go_wp2_with fail
  go_fit (size_any 300 _ (by decide))
  rintro e w6 ⟨rfl, rfl⟩
  rw [len_300]
  go_wp2_with fail
  go_ret
  exact ⟨rfl, below_drewN hend _⟩

end Go.Proofs.YtkcebnagpgpclaaDoor
