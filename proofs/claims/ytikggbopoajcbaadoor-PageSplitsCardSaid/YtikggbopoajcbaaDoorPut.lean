/-
  num.Put by its contracts.
-/
import Derived.Test.YtikggbopoajcbaaDoorPush
import Derived.Test.YtikggbopoajcbaaDoorTab
import Derived.Test.YtikggbopoajcbaaDoorJVars
namespace Go.Proofs.YtikggbopoajcbaaDoor
open Go Go.RowKit

/-- a number's n bytes, the greatest place first -/
def be (v n : Nat) : List UInt8 := (List.range n).map fun i => UInt8.ofNat (v / 256 ^ (n - 1 - i))
theorem be_length (v n : Nat) : (be v n).length = n := by simp [be]
theorem be_take (v n k : Nat) (h : k < n) : (be v n).take (k + 1) = (be v n).take k ++ [UInt8.ofNat (v / 256 ^ (n - 1 - k))] := by
  rw [List.take_succ_eq_append_getElem (by rw [be_length]; exact h)]
  simp [be]

theorem pow8 (m : Nat) : 2 ^ (8 * m) = 256 ^ m := by rw [Nat.pow_mul]
theorem shr8 (v m : Nat) : (v : Int) / 2 ^ (8 * m) = ((v / 256 ^ m : Nat) : Int) := by
  rw [← pow8]; simp
theorem shr8_byte (v m : Nat) : (v : Int) / 2 ^ (8 * m) % 256 = ((UInt8.ofNat (v / 256 ^ m)).toNat : Int) := by
  rw [shr8, UInt8.toNat_ofNat']; omega

set_option maxHeartbeats 400000 in
theorem put_good (A : Option Addr) (c B : Nat) (l : List UInt8) (v n : Nat) (w : World) (hA : At w B A l) (hB : B ≤ w.heap.size) (hl : l.length ≤ 70368744177664) (hT : Table w) (h1 : 1 ≤ n) (h8 : n ≤ 8)
    (hfit : v / 256 ^ n = 0) (_hv : v < 18446744073709551616) :
    Calls Tryd.prog 63 #[.slice A l.length c, .int .u64 (v : Int), .int .i64 (n : Int)] w fun e w' =>
      ∃ A' m c', e = .returned (.tuple #[.slice A' m c', .int .i64 0]) ∧ Row w' w.heap.size 5 A' m c' (l ++ be v n) ∧ Below w.heap.size w w' := by
  have hcn := hT n (by omega)
  have hsn : (0 : Int) ≤ 8 * (n : Int) := by omega
  have hq : (v : Int) / 2 ^ (8 * n) = 0 := by rw [shr8, hfit]; rfl
  have h0 : 0 < w.heap.size := World.block_lt_of_cell? w _ hcn
  have hok : decide (1 ≤ (n : Int) ∧ (n : Int) ≤ 8) = true := by simp; omega
  go_enter Tryd.func63, Tryd.ntmps63
  go_wp2_with (first
    | (go_at_call 82; refine (isWidth_any _ _).mono ?_; rintro e w' ⟨rfl, rfl⟩)
    | (go_at_call 80; refine (extend_any A c n B l _ hA hB hl (by omega)).mono ?_; rintro e w1 ⟨rfl, hown, hbel⟩))
  have hbv : (w1.alloc (.cells #[.slice (some ⟨w.heap.size, 0, none⟩) l.length (l.length + n)] 27)).heap[w1.heap.size]? = some (.cells #[.slice (some ⟨w.heap.size, 0, none⟩) l.length (l.length + n)] 27 (0, 0)) := heap_alloc_new w1 _
  have hs1 := hbel.size
  clear hq hsn
  go_loopw [27] (fun i wr => ∃ k : Nat, k ≤ n ∧ i = .int .i64 k ∧ OutAt wr w.heap.size 5 27 w1.heap.size (l ++ (be v n).take k) ∧ Below w.heap.size w wr)
    (fun i _ => n - (intOf i).toNat)
  case atStart => exact ⟨0, Nat.zero_le _, rfl, ⟨_, _, by simpa using hbv, by simpa using hown.alloc _⟩, hbel.alloc (by omega) _⟩
  case round =>
    obtain ⟨k, hk, rfl, hout, hb2⟩ := hrel
    by_cases hlt : k < n
    · have hcell := (hb2.cell (p := ⟨0, n - 1 - k, none⟩) (by exact h0)).trans (hT (n - 1 - k) (by omega))
      have hidx : (n : Int) - 1 - k = ((n - 1 - k : Nat) : Int) := by omega
      have hlen : (l ++ (be v n).take k).length ≤ 140737488355000 := by rw [List.length_append, List.length_take]; omega
      have htake := hid (be_take v n k hlt)
      have hP := hid (push_put w.heap.size w1.heap.size (l ++ (be v n).take k) ((v : Int) / 2 ^ (8 * (n - 1 - k))) (UInt8.ofNat (v / 256 ^ (n - 1 - k))) wr hout hlen hs1 (by rw [shr8]; exact Int.natCast_nonneg _) (shr8_byte v (n - 1 - k)))
      go_wp2_with (go_at_call 83; refine hP.out.mono ?_; rintro e w2 ⟨rfl, hout2, hb3⟩)
      go_roundw
      case rel => exact ⟨k + 1, by omega, by go_num, by rw [htake.out, ← List.append_assoc]; exact hout2, hb2.trans hb3⟩
      case measure => simp [intOf]; omega
    · have hkn : n ≤ k := by omega
      obtain ⟨A', c', hblk, hown2⟩ := hout
      have hc := cell_of_one hblk
      rw [List.take_of_length_le (by rw [be_length]; omega)] at hown2 hc hblk
      obtain ⟨m, hm⟩ : ∃ m, m = (l ++ be v n).length := ⟨_, rfl⟩
      rw [← hm] at hc hown2 hblk
      have hm' := hid hm
      clear hm
      go_wp2
      go_ret2
      exact ⟨A', m, c', rfl, ⟨hm'.out, hown2⟩, hb2⟩

set_option maxHeartbeats 400000 in
theorem put_width (A : Option Addr) (c m : Nat) (v n : Int) (w : World) (h : ¬ (1 ≤ n ∧ n ≤ 8)) :
    Calls Tryd.prog 63 #[.slice A m c, .int .u64 v, .int .i64 n] w fun e w' =>
      e = .returned (.tuple #[.slice none 0 0, .int .i64 11]) ∧ w = w' := by
  have hok : decide (1 ≤ n ∧ n ≤ 8) = false := by simpa using h
  clear h
  go_enter Tryd.func63, Tryd.ntmps63
  go_wp2_with (go_at_call 82; refine (isWidth_any _ _).mono ?_; rintro e w' ⟨rfl, rfl⟩)
  go_ret2
  exact ⟨rfl, rfl⟩

set_option maxHeartbeats 400000 in
theorem put_great (A : Option Addr) (c m : Nat) (v n : Nat) (w : World) (hT : Table w) (h1 : 1 ≤ n) (h8 : n ≤ 8) (hfit : v / 256 ^ n ≠ 0) :
    Calls Tryd.prog 63 #[.slice A m c, .int .u64 (v : Int), .int .i64 (n : Int)] w fun e w' =>
      e = .returned (.tuple #[.slice none 0 0, .int .i64 11]) ∧ w = w' := by
  have hcn := hT n (by omega)
  have hq : (((v : Int) / 2 ^ (8 * n)) == 0) = false := by rw [shr8]; exact (nat_ne hfit).1
  have hq2 : (((v : Int) / 2 ^ (8 * n)) != 0) = true := by rw [shr8]; exact (nat_ne hfit).2
  have hsn : (0 : Int) ≤ 8 * (n : Int) := by omega
  have hok : decide (1 ≤ (n : Int) ∧ (n : Int) ≤ 8) = true := by simp; omega
  clear hfit
  go_enter Tryd.func63, Tryd.ntmps63
  go_wp2_with (go_at_call 82; refine (isWidth_any _ _).mono ?_; rintro e w' ⟨rfl, rfl⟩)
  go_ret2
  exact ⟨rfl, rfl⟩

theorem put_is {A : Option Addr} {m c B : Nat} {l : List UInt8} {v n : Nat} {w : World} (hm : m = l.length) (hA : At w B A l) (hB : B ≤ w.heap.size) (hl : l.length ≤ 70368744177664) (hT : Table w) (h1 : 1 ≤ n) (h8 : n ≤ 8)
    (hfit : v / 256 ^ n = 0) (hv : v < 18446744073709551616) :
    Calls Tryd.prog 63 #[.slice A m c, .int .u64 (v : Int), .int .i64 (n : Int)] w fun e w' =>
      ∃ A' m' c', e = .returned (.tuple #[.slice A' m' c', .int .i64 0]) ∧ Row w' w.heap.size 5 A' m' c' (l ++ be v n) ∧ Below w.heap.size w w' := by
  subst hm
  exact put_good A c B l v n w hA hB hl hT h1 h8 hfit hv

end Go.Proofs.YtikggbopoajcbaaDoor
