/-
  Parts of a slice of cells; the library's Clone; the landed cut.
-/
import Derived.Test.YtikggbopoajcbaaDoorPgMem
import Derived.Test.YtikggbopoajcbaaDoorGen2
import Derived.BigQuiet
import Derived.Deep.QuietTactic
import Derived.Lib.SliceRun
import Derived.Deep.Cut
namespace Go.Proofs.YtikggbopoajcbaaDoor
open Go Go.RowKit

theorem info_cell : (Tryd.prog.info? 44).map (fun i => (i.zero, i.size, i.bytes)) = some (some (.agg #[.string ByteArray.empty, .string ByteArray.empty]), 2, 32) := by kernel_rfl
theorem cell_size : (sizeOf (Tryd.prog.elem 22)).run Tryd.prog = fun w => .ok 2 w := by
  funext w
  obtain ⟨i0, hi, hz0, hz1, hz2⟩ := info_parts info_cell
  have e : Tryd.prog.elem 22 = 44 := by kernel_rfl
  rw [e]
  simp [sizeOf, typeInfo, hi, hz1]
/-- s[:n:n] -/
theorem cslice_full {w : World} {B m c n : Nat} {A : Option Addr} {l : List Cl} (hA : CAt w B A l) (hm : m = l.length) (hc : m ≤ c) (hn : n ≤ m) :
    ∃ A', (∀ (k k' : IntKind) (W : World), (Instr.slice 22 (.slice A m c) none (some (.int k (n : Int))) (some (.int k' (n : Int)))).run Tryd.prog W = .ok (.slice A' n n) W) ∧ CAt w B A' (l.take n) := by
  refine ⟨if n = 0 then A else A.map (·.add 0), fun k k' W => ?_, ?_⟩
  · have e : Tryd.prog.elem 22 = 44 := by kernel_rfl
    rw [run_slice_hm (P := Tryd.prog) W 22 A m c (by rw [e]; exact Tryd.underlying22) k k' n n (by omega) (by omega) (by omega), cell_size]
    simp [sliced]
  · by_cases h0 : n = 0
    · subst h0
      rw [List.take_zero]
      exact GAt.nil
    · have h := GAt.cut (c := l.length + 1) (k := 0) hA (by omega)
      rw [if_neg (by omega), List.drop_zero, Nat.zero_mul] at h
      rw [if_neg h0]
      exact GAt.take h n
/-- s[n:m:m] -/
theorem cslice_behind {w : World} {B m c n : Nat} {A : Option Addr} {l : List Cl} (hA : CAt w B A l) (hm : m = l.length) (hc : m ≤ c) (hn : n ≤ m) :
    ∃ A', (∀ (k k' k2 : IntKind) (W : World), (Instr.slice 22 (.slice A m c) (some (.int k (n : Int))) (some (.int k' (m : Int))) (some (.int k2 (m : Int)))).run Tryd.prog W = .ok (.slice A' (m - n) (m - n)) W) ∧ CAt w B A' (l.drop n) := by
  refine ⟨if m = n then A else A.map (·.add (n * 2)), fun k k' k2 W => ?_, GAt.cut (c := m) (k := n) hA (by omega)⟩
  have e : Tryd.prog.elem 22 = 44 := by kernel_rfl
  rw [run_slice_lhm (P := Tryd.prog) W 22 A m c (by rw [e]; exact Tryd.underlying22) k k' k2 n m m (by omega) (by omega) (by omega) (by omega), cell_size]
  simp [sliced]
/-- s[n:] -/
theorem cslice_from {w : World} {B m c n : Nat} {A : Option Addr} {l : List Cl} (hA : CAt w B A l) (hm : m = l.length) (hc : m ≤ c) (hn : n ≤ m) :
    ∃ A', (∀ (k : IntKind) (W : World), (Instr.slice 22 (.slice A m c) (some (.int k (n : Int))) none none).run Tryd.prog W = .ok (.slice A' (m - n) (c - n)) W) ∧ CAt w B A' (l.drop n) := by
  refine ⟨if c = n then A else A.map (·.add (n * 2)), fun k W => ?_, GAt.cut (c := c) (k := n) hA (by omega)⟩
  have e : Tryd.prog.elem 22 = 44 := by kernel_rfl
  rw [run_slice_l (P := Tryd.prog) W 22 A m c (by rw [e]; exact Tryd.underlying22) k n (by omega) (by omega), cell_size]
  simp [sliced]
/-- s[:n] -/
theorem cslice_to {w : World} {B m c n : Nat} {A : Option Addr} {l : List Cl} (hA : CAt w B A l) (hm : m = l.length) (hc : m ≤ c) (hn : n ≤ m) :
    ∃ A', (∀ (k : IntKind) (W : World), (Instr.slice 22 (.slice A m c) none (some (.int k (n : Int))) none).run Tryd.prog W = .ok (.slice A' n c) W) ∧ CAt w B A' (l.take n) := by
  refine ⟨if c = 0 then A else A.map (·.add 0), fun k W => ?_, ?_⟩
  · have e : Tryd.prog.elem 22 = 44 := by kernel_rfl
    rw [run_slice_h (P := Tryd.prog) W 22 A m c (by rw [e]; exact Tryd.underlying22) k n (by omega) (by omega), cell_size]
    simp [sliced]
  · by_cases h0 : c = 0
    · rw [if_pos h0]
      exact GAt.take hA n
    · have h := GAt.cut (c := c) (k := 0) hA (by omega)
      rw [if_neg h0, List.drop_zero, Nat.zero_mul] at h
      rw [if_neg h0]
      exact GAt.take h n

set_option maxHeartbeats 4000000 in
set_option maxRecDepth 100000 in
theorem cclone_any {A : Option Addr} {n c B : Nat} {l : List Cl} {w : World} (h : CS w B A n c l) :
    Calls Tryd.prog 76 #[.slice A n c] w fun e w' => ∃ A' m' c', e = .returned (.slice A' m' c') ∧ GRow eCl 44 w' w.heap.size A' m' c' l ∧ Below w.heap.size w w' := by
  have HN := hid h.len
  have hmost := h.most
  cases A with
  | none =>
    obtain rfl : l = [] := GAt.empty h.at_
    clear h
    have he := fun W => Go.Lib.run_eql_slice_nil (P := Tryd.prog) W 22 44 none n c 0 0 Tryd.underlying22
    go_enter Tryd.func76, Tryd.ntmps76
    go_wp2_with fail
    go_ret
    exact ⟨none, 0, 0, rfl, GRow.nil, Below.refl _ _⟩
  | some ad =>
    have HR0 := hid (GRow.empty (E := eCl) (e := 44) w (base := w.heap.size) (g := w.heap.size) rfl (Nat.le_refl _))
    have HB0 := hid (show Below w.heap.size w (w.alloc (.cells #[] 44)) from (Below.refl _ _).alloc (Nat.le_refl _) _)
    have HA2 := hid (h.step HB0.out).at_
    have HL := hid (show ([] : List Cl).length + l.length ≤ 1099511627776 by simp only [List.length_nil, Nat.zero_add]; have := HN.out; omega)
    clear h
    have he := fun W => Go.Lib.run_eql_slice_nil (P := Tryd.prog) W 22 44 (some ad) n c 0 0 Tryd.underlying22
    go_enter Tryd.func76, Tryd.ntmps76
    go_wp2_with (at_builtin; go_must (refine wpList_append_g _ rfl _ _ eCl gi_cell (by decide) rfl w.heap.size rfl HR0.out rfl HN.out HA2.out HL.out (by simp) ?_))
    intro A7 m7 c7 w7 hr7 hm7 hb7 hg7
    have HR7 := hid hr7
    have HB7 := hid (HB0.out.trans hb7)
    clear hr7 hm7 hb7 hg7
    go_wp2_with fail
    go_ret
    exact ⟨A7, m7, c7, rfl, HR7.out, HB7.out⟩

set_option maxHeartbeats 4000000 in
set_option maxRecDepth 100000 in
theorem cut_any {A : Option Addr} {n c B k : Nat} {l : List Cl} {w : World} (h : CS w B A n c l) (hk : k ≤ n) :
    Calls Tryd.prog 56 #[.slice A n c, .int .i64 (k : Int)] w fun e w' => ∃ A1 A2, e = .returned (.tuple #[.slice A1 k k, .slice A2 (n - k) (n - k)]) ∧ CAt w' w'.heap.size A1 (l.take k) ∧ CAt w' w'.heap.size A2 (l.drop k) ∧ Below w.heap.size w w' := by
  have HC := hid (cclone_any h)
  have hmost := h.most
  have HLN := hid h.len
  clear h
  go_enter Tryd.func56, Tryd.ntmps56
  go_wp2_with fail
  go_fit HC.out
  rintro e w1 ⟨A1, m1, c1, rfl, hr1, hb1⟩
  obtain rfl : m1 = n := by rw [hr1.1, HLN.out]
  obtain ⟨A3, hs3, ha3⟩ := cslice_full (n := k) hr1.at_ hr1.1 hr1.cap hk
  obtain ⟨A4, hs4, ha4⟩ := cslice_behind (n := k) hr1.at_ hr1.1 hr1.cap hk
  have HB1 := hid hb1
  have H3 := hid ha3
  have H4 := hid ha4
  have hz3 := fun W => hs3 .i64 .i64 W
  have hz4 := fun W => hs4 .i64 .i64 .i64 W
  clear hb1 hr1 ha3 ha4 hs3 hs4
  go_wp2_with fail
  go_quiet (fail)
  go_wp2_with fail
  go_ret2
  exact ⟨A3, A4, rfl, GAt.below H3.out (below_drewN (Below.refl _ _) _), GAt.below H4.out (below_drewN (Below.refl _ _) _), below_drewN HB1.out _⟩

end Go.Proofs.YtikggbopoajcbaaDoor
