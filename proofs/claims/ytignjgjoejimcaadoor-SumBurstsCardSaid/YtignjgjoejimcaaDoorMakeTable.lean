/-
  sum.makeTable by its contract.
-/
import Derived.Test.YtignjgjoejimcaaDoorTable
import Derived.Deep.WholeRow
namespace Go.Proofs.YtignjgjoejimcaaDoor
open Go Go.RowKit

/-- what the table reads as -/
def tabF (c : Nat) : Value := .int .u32 (v32 (tab (BitVec.ofNat 32 c)))
def tabCells : Array Value := ((List.range 16).map tabF).toArray
theorem infoTable : (Tryd.prog.info? 47).map (fun i => (i.zero, i.size)) = some (some (.agg (List.replicate 16 (.int .u32 0)).toArray), 16) := by kernel_rfl

theorem zeros_row {n : Nat} {b : Nat} {w : World} {t : TypeId} (h : w.heap[b]? = some (.cells (List.replicate n (Value.int .u32 0)).toArray t (0, 0))) : w.rowIs b t n (fun _ => .int .u32 0) :=
  ⟨_, h, by simp, fun i hi => by simp [hi]⟩
theorem tabCells_of {w : World} {b : Nat} {t : TypeId} (h : w.rowIs b t 16 tabF) : w.heap[b]? = some (.cells tabCells t (0, 0)) := by
  obtain ⟨c, hb, hn, hc⟩ := h
  have e : c = tabCells := by
    apply Array.ext_getElem?
    intro i
    by_cases hi : i < 16
    · rw [hc i hi]; simp [tabCells, hi]
    · rw [Array.getElem?_eq_none (by omega), Array.getElem?_eq_none (by simp [tabCells]; omega)]
  rw [hb, e]

theorem tabCells_one : tabCells.all (·.oneCell') = true := by
  rw [Array.all_eq_true_iff_forall_mem]
  intro v hv
  have hv' : v ∈ (List.range 16).map tabF := by simpa [tabCells] using hv
  obtain ⟨i, _, rfl⟩ := List.mem_map.1 hv'
  rfl
theorem below_setRow {B g : Nat} {a w : World} (h : Below B a w) (hg : B ≤ g) (cs : Array Value) : Below B a (w.setRow g cs) :=
  ⟨h.os, h.tape, h.output, by rw [setRow_size]; exact h.size, fun k hk => by rw [setRow_other w g k cs (by omega)]; exact h.block k hk⟩

set_option maxHeartbeats 400000 in
theorem makeTable_any (w : World) :
    Calls Tryd.prog 20 #[] w fun e w' => e = .returned (.agg tabCells) ∧ Below w.heap.size w w' := by
  have hz := (zero_of_info infoTable).1
  have hi := (zero_of_info infoTable).2
  have Hi := hid hi
  clear hi
  obtain ⟨Z, hZ⟩ : ∃ Z, Z = (List.replicate 16 (Value.int .u32 0)).toArray := ⟨_, rfl⟩
  rw [← hZ] at hz
  have HZ := hid hZ
  clear hZ
  go_enter Tryd.func20, Tryd.ntmps20
  go_wp2
  have hZ := HZ.out
  have h0 := (zeros_row (n := 16) (by rw [heap_alloc_new w _, hZ]) : (w.alloc (.cells Z 47)).rowIs w.heap.size 47 16 _).alloc (.cells Z 47)
  have h1 : ((w.alloc (.cells Z 47)).alloc (.cells Z 47)).rowIs (w.alloc (.cells Z 47)).heap.size 47 16 (fun _ => .int .u32 0) := zeros_row (by rw [heap_alloc_new _ _, hZ])
  clear hZ
  have hs : (w.alloc (.cells Z 47)).heap.size = w.heap.size + 1 := by simp
  rw [hs] at h1
  have hb : Below w.heap.size w ((w.alloc (.cells Z 47)).alloc (.cells Z 47)) := ((Below.refl _ _).alloc (Nat.le_refl _) _).alloc (by simp) _
  have HK := hid (And.intro h0 (And.intro h1 hb))
  clear h0 h1 hb hs
  go_loopw [3, 5] (fun _ i wr => ∃ k : Nat, k ≤ 16 ∧ i = .int .i64 (k : Int) ∧ wr.rowIs w.heap.size 47 16 (fun _ => .int .u32 0) ∧
      wr.rowIs (w.heap.size + 1) 47 16 (fun j => if j < k then tabF j else .int .u32 0) ∧ Below w.heap.size w wr) (fun _ i _ => 16 - (intOf i).toNat)
  case atStart => exact ⟨0, Nat.zero_le _, rfl, HK.out.1, HK.out.2.1.congr fun i _ => by simp, HK.out.2.2⟩
  case round =>
    obtain ⟨k, hk, rfl, h0, h1, hb⟩ := hrel
    by_cases hlt : k < 16
    · have HP := hid (fill_any (w.heap.size + 1) (w.heap.size + 1) k _ wr h1 hlt (Nat.le_refl _))
      have H0 := hid h0
      have HB := hid hb
      clear h0 h1 hb
      go_wp2_with fail
      go_fit HP.out
      rintro e w2 ⟨rfl, h1, hb2⟩
      have H1 := hid h1
      clear h1
      go_wp2_with fail
      go_roundw
      case rel =>
        refine ⟨k + 1, by omega, by go_num, ?_, ?_, ?_⟩
        · exact H0.out.of_block (hb2.block _ (by omega))
        · refine H1.out.congr fun i hi => ?_
          by_cases e : i = k
          · subst e; simp [tabF]
          · by_cases e2 : i < k
            · simp [e, e2, show i < k + 1 by omega]
            · simp [e, e2, show ¬ i < k + 1 by omega]
        · exact HB.out.trans (hb2.mono (by omega))
      case measure => simp [intOf]; omega
    · have hk16 : k = 16 := by omega
      subst hk16
      have ht := tabCells_of (h1.congr fun i hi => by simp [hi])
      have H0 := hid h0
      have HB := hid hb
      have HT := hid ht
      clear h0 h1 hb ht
      obtain ⟨c0, hc0, hn0, _⟩ := H0.out
      have HC := hid hc0
      have hsz : (Tryd.prog.info? 47).map (·.size) = some tabCells.size := Hi.out
      have hcs : c0.size = tabCells.size := hn0
      have hone := tabCells_one
      have HS := hid (And.intro hsz (And.intro hcs hone))
      clear hc0 hn0 hsz hcs hone H0
      go_wp2_with (first
        | (with_reducible refine wpList_load_row rfl 47 (.tmp 1) rfl (w.heap.size + 1) rfl 47 tabCells (0, 0) _ HT.out Tryd.underlying47 rfl HS.out.1 ?_)
        | (with_reducible refine wpList_store_row rfl 47 (.tmp 0) (.tmp 12) rfl w.heap.size tabCells rfl rfl 47 c0 HC.out HS.out.1 HS.out.2.1 HS.out.2.2 ?_))
      refine bodyPost_ret (v := .agg tabCells) ?_ rfl ⟨rfl, ?_⟩
      · exact results_cell_row rfl _ _ w.heap.size 47 tabCells (0, 0) _ rfl (setRow_heap _ _ _ _ _ _ HC.out) Tryd.underlying47 rfl HS.out.1
      · exact below_setRow HB.out (Nat.le_refl _) _

end Go.Proofs.YtignjgjoejimcaaDoor
