/-
  The landed readCells.
-/
import Derived.Test.YtikggbopoajcbaaDoorPgDec
import Derived.Test.YtikggbopoajcbaaDoorPgMem
import Derived.Laws.MakeOwn
namespace Go.Proofs.YtikggbopoajcbaaDoor
open Go Go.RowKit

def cz : Cl := ⟨[], []⟩
theorem gcells_set : ∀ (l : List Cl) (i : Nat) (y : Cl) (u : List UInt8), l[i]? = some y →
    (gcells eCl l).set (i * 2) (.string (bst u)) = gcells eCl (l.set i ⟨u, y.v⟩) ∧ (gcells eCl l).set (i * 2 + 1) (.string (bst u)) = gcells eCl (l.set i ⟨y.k, u⟩)
  | [], i, y, u, h => by simp at h
  | x :: l, 0, y, u, h => by
    obtain rfl : x = y := by simpa using h
    exact ⟨rfl, rfl⟩
  | x :: l, i + 1, y, u, h => by
    obtain ⟨h1, h2⟩ := gcells_set l i y u (by simpa using h)
    have e1 : (i + 1) * 2 = i * 2 + 1 + 1 := by omega
    rw [e1]
    constructor
    · show _ :: _ :: (gcells eCl l).set (i * 2) _ = _ :: _ :: gcells eCl (l.set i _)
      rw [h1]
    · show _ :: _ :: (gcells eCl l).set (i * 2 + 1) _ = _ :: _ :: gcells eCl (l.set i _)
      rw [h2]
theorem Rd.new_set {w : World} {r e g i : Nat} {l : List UInt8} (h : Rd w r l e) (hg : r < g) (u : Value) : Rd (w.setCell ⟨g, i, none⟩ u) r l e := by
  obtain ⟨A, m, c, h1, h2, h3, h4, h5⟩ := h.out
  exact ⟨A, m, c, Blk.far h1 (by show r ≠ g; omega) u, h2, h3, h4, h5.keep fun p hp => World.cell?_setCell_other w _ p u (fun e => by subst e; simp at hp; omega)⟩
/-- a block of cells -/
abbrev GB (w : World) (g : Nat) (l : List Cl) : Prop := Blk w g 44 (gcells eCl l).toArray
theorem GB.setk {w : World} {g i : Nat} {l : List Cl} {y : Cl} (h : GB w g l) (hy : l[i]? = some y) (u : List UInt8) : GB (w.setCell ⟨g, i * 2, none⟩ (.string (bst u))) g (l.set i ⟨u, y.v⟩) := by
  have := h.set (i * 2) (.string (bst u))
  rw [List.setIfInBounds_toArray, (gcells_set l i y u hy).1] at this
  exact this
theorem GB.setv {w : World} {g i : Nat} {l : List Cl} {y : Cl} (h : GB w g l) (hy : l[i]? = some y) (u : List UInt8) : GB (w.setCell ⟨g, i * 2 + 1, none⟩ (.string (bst u))) g (l.set i ⟨y.k, u⟩) := by
  have := h.set (i * 2 + 1) (.string (bst u))
  rw [List.setIfInBounds_toArray, (gcells_set l i y u hy).2] at this
  exact this
theorem GB.at_ {w : World} {g : Nat} {l : List Cl} (h : GB w g l) : CAt w (g + 1) (some ⟨g, 0, none⟩) l := fun _ => by
  refine ⟨g, 0, rfl, by omega, fun i x j u hi hu => ?_⟩
  rw [h.cell, Nat.zero_add]
  have := gcells_get eCl l i x j u hi hu
  simpa using this
theorem gcells_zero : ∀ n : Nat, gcells eCl (List.replicate n cz) = List.replicate (n * 2) (.string ByteArray.empty)
  | 0 => rfl
  | n + 1 => by
    rw [List.replicate_succ, gcells_cons, gcells_zero n, show (n + 1) * 2 = n * 2 + 1 + 1 by omega, List.replicate_succ, List.replicate_succ]
    rfl
theorem made_two (m : Nat) : (madeCells (Value.agg #[Value.string ByteArray.empty, Value.string ByteArray.empty]).cells m).toList = List.replicate m (.string ByteArray.empty) := by
  rw [List.eq_replicate_iff]
  refine ⟨by rw [Array.length_toList, size_madeCells], fun u hu => ?_⟩
  simp only [madeCells, Array.toList_map, List.mem_map] at hu
  obtain ⟨q, _, rfl⟩ := hu
  have h : ∀ q, q < 2 → (#[Value.string ByteArray.empty, Value.string ByteArray.empty] : Array Value)[q]! = .string ByteArray.empty := by
    intro q hq
    have : q = 0 ∨ q = 1 := by omega
    rcases this with rfl | rfl <;> rfl
  exact h _ (Nat.mod_lt _ (by decide))
theorem make_cells {n : Nat} (hn : n ≤ 1024) (W : World) :
    (Instr.makeSlice 22 (.int .i64 (n : Int)) (.int .i64 (n : Int))).run Tryd.prog W = .ok (.slice (some ⟨W.heap.size, 0, none⟩) n n) (W.alloc (.cells (gcells eCl (List.replicate n cz)).toArray 44)) := by
  obtain ⟨i, z, hi, hz0, hz1, hz2, hz3⟩ := gi_cell.info
  have hzz : i.zero = some (.agg #[.string ByteArray.empty, .string ByteArray.empty]) := by
    have h : (Tryd.prog.info? 44).map (fun i => i.zero) = some (some (.agg #[.string ByteArray.empty, .string ByteArray.empty])) := by kernel_rfl
    rw [hi] at h
    injection h
  have hrun := run_make (P := Tryd.prog) W 22 44 i _ Tryd.underlying22 hi hzz .i64 .i64 n n (by omega) (by omega) (by rw [hz2]; omega) (by omega)
  have e2 : (n : Int).toNat = n := by omega
  rw [e2, hz1] at hrun
  have e4 : madeCells (Value.agg #[Value.string ByteArray.empty, Value.string ByteArray.empty]).cells (n * eCl.k) = (gcells eCl (List.replicate n cz)).toArray := by
    apply Array.toList_inj.1
    rw [made_two, gcells_zero]
    rfl
  rw [e4] at hrun
  exact hrun

set_option maxHeartbeats 4000000 in
set_option maxRecDepth 100000 in
theorem readCells_any {n r e0 : Nat} {b : List UInt8} {w : World} (hr : Rd w r b e0) (hn : n ≤ 1024) :
    Calls Tryd.prog 49 #[.int .i64 (n : Int), .func (.func 50) #[.pointer (some ⟨r, 0, none⟩)] #[]] w fun e w' => ∃ A', e = .returned (.slice A' n n) ∧ CS w' w'.heap.size A' n n (rcells n b e0).1 ∧ Rd w' r (rcells n b e0).2.1 (rcells n b e0).2.2 ∧ Only r w w' := by
  have hmk := fun W => make_cells hn W
  have HLR := hid hr.lt
  have HB := hid (show Below w.heap.size w (w.alloc (.cells (gcells eCl (List.replicate n cz)).toArray 44)) from (Below.refl _ _).alloc (Nat.le_refl _) _)
  have HR := hid (hr.step HB.out)
  have HO := hid (Only.of_below (r := r) HB.out)
  have HG := hid (show GB (w.alloc (.cells (gcells eCl (List.replicate n cz)).toArray 44)) w.heap.size (List.replicate n cz) from Blk.new w _ _)
  clear hr
  go_enter Tryd.func49, Tryd.ntmps49
  go_wp2_with fail
  generalize w.alloc (.cells (gcells eCl (List.replicate n cz)).toArray 44) = w1 at *
  obtain ⟨g, hg⟩ : ∃ g, w.heap.size = g := ⟨_, rfl⟩
  rw [hg] at HG HLR ⊢
  have HGE := hid hg
  have hgr : g ≠ r := by have := HLR.out; omega
  clear hg hmk
  go_loopw [6, 11] (fun _ i wr => ∃ (k : Nat) (acc : List Cl) (l : List UInt8) (e : Nat), k ≤ n ∧ i = .int .i64 (k : Int) ∧ Kept (acc.length = k) ∧ Kept (GB wr g (acc ++ List.replicate (n - k) cz)) ∧ Kept (Rd wr r l e) ∧ Kept (rcells n b e0 = (acc ++ (rcells (n - k) l e).1, (rcells (n - k) l e).2)) ∧ Kept (Only r w wr)) (fun _ i _ => n - (intOf i).toNat)
  case atStart => exact ⟨0, [], b, e0, Nat.zero_le _, rfl, hid rfl, HG, HR, hid rfl, HO⟩
  case round =>
    obtain ⟨k, acc, l, e, hk, rfl, HA, HG, HR, HE, HO⟩ := hrel
    by_cases hlt : k < n
    · have HT1 := hid (gtext_any r e l wr HR.out)
      have HY := hid (show (acc ++ List.replicate (n - k) cz)[k]? = some cz by
        rw [List.getElem?_append_right (by rw [HA.out]; exact Nat.le_refl _), HA.out, Nat.sub_self, List.getElem?_replicate, if_pos (by omega)])
      have HE2 := hid (rcells_go hlt HE.out)
      obtain ⟨T, hT⟩ : ∃ T, T = stext l e := ⟨_, rfl⟩
      rw [← hT] at HT1 HE2
      obtain ⟨T1, l1, e1⟩ := T
      clear hT
      dsimp only at HT1 HE2
      go_wp2_with fail
      go_fit HT1.out
      rintro e w5 ⟨rfl, hr5, ho5⟩
      have HR5 := hid hr5
      have HO5 := hid (HO.out.trans ho5)
      have HG5 := hid (HG.out.grown ho5 (fun e => by injection e with e; exact hgr e))
      clear hr5 ho5
      obtain ⟨LL, hLL⟩ : ∃ LL, LL = acc ++ List.replicate (n - k) cz := ⟨_, rfl⟩
      rw [← hLL] at HG5 HY
      have HLL := hid hLL
      have HN := hid (show LL.length = n by rw [hLL, List.length_append, List.length_replicate, HA.out]; omega)
      clear hLL HG
      have k0 : w5.cell? ⟨g, k * 2, none⟩ = some (.string (bst [])) := by
        rw [HG5.out.cell, List.getElem?_toArray]
        exact gcells_get eCl LL k cz 0 (.string (bst [])) HY.out rfl
      have k1 := HG5.out.free (k * 2)
      have HG6 := hid (show GB (w5.setCell ⟨g, k * 2, none⟩ (.string (bst T1))) g (LL.set k ⟨T1, []⟩) from GB.setk HG5.out HY.out T1)
      have HY6 := hid (show (LL.set k ⟨T1, []⟩)[k]? = some ⟨T1, []⟩ by rw [List.getElem?_set_self (by rw [HN.out]; exact hlt)])
      have HR6 := hid (HR5.out.new_set (g := g) HLR.out (i := k * 2) (.string (bst T1)))
      have HO6 := hid (HO5.out.new (p := ⟨g, k * 2, none⟩) (by have := HGE.out; show w.heap.size ≤ g; omega) (.string (bst T1)))
      clear k1
      have k1 := HG5.out.free (k * 2)
      go_wp2_with fail
      generalize w5.setCell ⟨g, k * 2, none⟩ (.string (bst T1)) = w6 at *
      have HT2 := hid (gtext_any r e1 l1 w6 HR6.out)
      obtain ⟨T, hT⟩ : ∃ T, T = stext l1 e1 := ⟨_, rfl⟩
      rw [← hT] at HT2 HE2
      obtain ⟨T2, l2, e2⟩ := T
      clear hT k0 k1 HR5 HO5 HG5 HT1 HR HO
      dsimp only at HT2 HE2
      go_fit HT2.out
      rintro e w7 ⟨rfl, hr7, ho7⟩
      have HR7 := hid hr7
      have HO7 := hid (HO6.out.trans ho7)
      have HG7 := hid (show GB w7 g (LL.set k ⟨T1, []⟩) from HG6.out.grown ho7 (fun e => by injection e with e; exact hgr e))
      clear hr7 ho7
      have k0 : w7.cell? ⟨g, k * 2 + 1, none⟩ = some (.string (bst [])) := by
        rw [HG7.out.cell, List.getElem?_toArray]
        exact gcells_get eCl _ k _ 1 (.string (bst [])) HY6.out rfl
      have k1 := HG7.out.free (k * 2 + 1)
      have HG8 := hid (GB.setv HG7.out HY6.out T2)
      have HR8 := hid (HR7.out.new_set (g := g) HLR.out (i := k * 2 + 1) (.string (bst T2)))
      have HO8 := hid (HO7.out.new (p := ⟨g, k * 2 + 1, none⟩) (by have := HGE.out; show w.heap.size ≤ g; omega) (.string (bst T2)))
      have HLS := hid (show (LL.set k ⟨T1, []⟩).set k ⟨T1, T2⟩ = (acc ++ [⟨T1, T2⟩]) ++ List.replicate (n - (k + 1)) cz by
        rw [HLL.out, List.set_set, show n - k = (n - (k + 1)) + 1 by omega, List.replicate_succ, List.set_append_right _ _ (by rw [HA.out]; exact Nat.le_refl _), HA.out, Nat.sub_self, List.set_cons_zero, List.append_assoc]
        rfl)
      go_wp2_with fail
      go_roundw
      case rel => exact ⟨k + 1, acc ++ [⟨T1, T2⟩], l2, e2, by omega, by go_num, hid (by rw [List.length_append, HA.out]; rfl), hid (by rw [← HLS.out]; exact HG8.out), HR8, HE2, HO8⟩
      case measure => simp [intOf]; omega
    · obtain rfl : k = n := by omega
      have HE2 := hid (show rcells k b e0 = (acc, l, e) by rw [HE.out, Nat.sub_self]; simp [rcells])
      rw [HE2.out]
      have HC := hid (show CAt wr (g + 1) (some ⟨g, 0, none⟩) acc by have := GB.at_ HG.out; rwa [Nat.sub_self, List.replicate_zero, List.append_nil] at this)
      have HLG := hid HG.out.lt
      go_wp2_with fail
      go_ret
      rw [HE2.out]
      exact ⟨_, rfl, ⟨GAt.more HC.out HLG.out, HA.out.symm, Nat.le_refl _, by omega, Nat.le_refl _⟩, HR.out, HO.out⟩

end Go.Proofs.YtikggbopoajcbaaDoor
