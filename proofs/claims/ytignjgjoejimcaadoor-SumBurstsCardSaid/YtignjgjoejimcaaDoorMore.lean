/-
  sum.More and sum.Of by their contracts.
-/
import Derived.Test.YtignjgjoejimcaaDoorShift
namespace Go.Proofs.YtignjgjoejimcaaDoor
open Go Go.RowKit

theorem feedB_take {l : List UInt8} {k : Nat} {x : UInt8} (r : BitVec 32) (h : l[k]? = some x) : feedB r (l.take (k + 1)) = feed (feedB r (l.take k)) (bits8 x) := by
  have hk := (List.getElem?_eq_some_iff.1 h).1
  have hx := (List.getElem?_eq_some_iff.1 h).2
  rw [List.take_succ_eq_append_getElem hk, feedB_snoc, hx]
theorem x_shr (x : UInt8) : (x.toNat : Int) / (16 : Int) = v32 (BitVec.ofNat 32 x.toNat >>> 4) := by
  have := x.toNat_lt
  rw [← v32_shr, v32_ofNat _ (by omega)]
  rfl
theorem x_and (x : UInt8) : bits .and .u32 (x.toNat : Int) 15 = v32 (BitVec.ofNat 32 x.toNat &&& 15#32) := by
  have := x.toNat_lt
  rw [← v32_and, v32_ofNat _ (by omega)]
  rfl

theorem tabF_row {w : World} {b : Nat} {t : TypeId} (h : w.heap[b]? = some (.cells tabCells t (0, 0))) : w.rowIs b t 16 tabF :=
  ⟨_, h, by simp [tabCells], fun i hi => by simp [tabCells, hi]⟩
theorem At.past {w : World} {B : Nat} {A : Option Addr} {l : List UInt8} (h : At w B A l) (hB : B ≤ w.heap.size) (o : Obj) : At (w.alloc o) B A l := h.keep fun p hp => World.cell?_alloc_lt w o p (by omega)

set_option maxHeartbeats 400000 in
theorem more_any (A : Option Addr) (m c B : Nat) (s : BitVec 32) (l : List UInt8) (w : World) (hm : m = l.length) (hA : At w B A l) (hB : B ≤ w.heap.size) (hl : l.length ≤ 70368744177664) :
    Calls Tryd.prog 12 #[.int .u32 (v32 s), .slice A m c] w fun e w' => e = .returned (.int .u32 (v32 (more s l))) ∧ Below w.heap.size w w' := by
  have hsg : IntKind.u32.signed = false := rfl
  have hz := (zero_of_info infoTable).1
  have hi := (zero_of_info infoTable).2
  have Hi := hid (show (Tryd.prog.info? 47).map (·.size) = some tabCells.size from hi)
  clear hi
  obtain ⟨Z, hZ⟩ : ∃ Z, Z = (List.replicate 16 (Value.int .u32 0)).toArray := ⟨_, rfl⟩
  rw [← hZ] at hz
  have HZ := hid (show Z.size = tabCells.size by rw [hZ]; rfl)
  clear hZ
  have HO := hid tabCells_one
  have hn := v32_not s
  have HA := hid hA
  have HM := hid hm
  have hmb : m ≤ 70368744177664 := by omega
  clear hA hm
  go_enter Tryd.func12, Tryd.ntmps12
  go_wp2_with fail
  go_fit (makeTable_any w)
  rintro e w1 ⟨rfl, hb1⟩
  have HC := hid (heap_alloc_new w1 (.cells Z 47))
  go_wp2_with (with_reducible refine wpList_store_row rfl 47 (.tmp 5) (.tmp 9) rfl w1.heap.size tabCells rfl rfl 47 Z HC.out Hi.out HZ.out HO.out ?_)
  rw [World.setRow_alloc_new]
  have hrow : (w1.alloc (.cells tabCells 47)).rowIs w1.heap.size 47 16 tabF := tabF_row (heap_alloc_new w1 _)
  have hA2 : At (w1.alloc (.cells tabCells 47)) B A l := (HA.out.below (hb1.mono hB)).past (Nat.le_trans hB hb1.size) _
  have hb2 : Below w.heap.size w (w1.alloc (.cells tabCells 47)) := hb1.alloc hb1.size _
  have HR := hid hrow
  have HB := hid hb2
  have HA2 := hid hA2
  clear hA2 hrow hb2 hb1 hn hz HC HO HZ Hi HA
  go_loop [6, 14] (fun r i => ∃ k : Nat, k ≤ m ∧ i = .int .i64 (k : Int) ∧ r = .int .u32 (v32 (feedB (~~~s) (l.take k)))) (fun _ i => m - (intOf i).toNat)
  case atStart => exact ⟨0, Nat.zero_le _, rfl, rfl⟩
  case round =>
    obtain ⟨k, hk, rfl, rfl⟩ := hrel
    by_cases hlt : k < m
    · obtain ⟨x, hx⟩ : ∃ x, l[k]? = some x := ⟨_, List.getElem?_eq_getElem (by have := HM.out; omega)⟩
      obtain ⟨b, off, rfl, hbB, hcell⟩ := HA2.out (by have := HM.out; omega)
      have hk1 := hcell k x hx
      have HT := hid (feedB_take (~~~s) hx)
      have hx0 := x.toNat_lt
      have hxi : (x.toNat : Int) < 256 := by omega
      have e1 := x_shr x
      have e2 := x_and x
      have h1 := high x
      have h2 := low x
      have h8 := byte_two (feedB (~~~s) (l.take k)) x
      obtain ⟨R, hR⟩ : ∃ R, R = feedB (~~~s) (l.take k) := ⟨_, rfl⟩
      rw [← hR] at HT h8 ⊢
      obtain ⟨c1, hc1⟩ : ∃ c, c = BitVec.ofNat 32 x.toNat >>> 4 := ⟨_, rfl⟩
      obtain ⟨c2, hc2⟩ : ∃ c, c = BitVec.ofNat 32 x.toNat &&& 15#32 := ⟨_, rfl⟩
      rw [← hc1] at e1 h1 h8
      rw [← hc2] at e2 h2 h8
      have H8 := hid h8
      have H1 := hid h1
      have H2 := hid h2
      clear hR hc1 hc2 h8 h1 h2 hx hcell
      go_wp2_with fail
      go_fit (shift_any w1.heap.size R c1 _ H1.out HR.out)
      rintro e w' ⟨rfl, rfl⟩
      go_wp2_with fail
      go_fit (shift_any w1.heap.size (feed R (bits4 c1)) c2 _ H2.out HR.out)
      rintro e w' ⟨rfl, rfl⟩
      go_wp2_with fail
      go_round
      case rel => exact ⟨k + 1, by omega, by go_num, by rw [HT.out, H8.out]⟩
      case measure => simp [intOf]; omega
    · have hkm : k = m := by omega
      have e3 : l.take k = l := List.take_of_length_le (by have := HM.out; omega)
      rw [e3]
      have hn := v32_not (feedB (~~~s) l)
      clear e3 hkm
      go_wp2
      go_ret
      exact ⟨rfl, HB.out⟩

theorem of_any (A : Option Addr) (m c B : Nat) (l : List UInt8) (w : World) (hm : m = l.length) (hA : At w B A l) (hB : B ≤ w.heap.size) (hl : l.length ≤ 70368744177664) :
    Calls Tryd.prog 10 #[.slice A m c] w fun e w' => e = .returned (.int .u32 (v32 (more 0#32 l))) ∧ Below w.heap.size w w' := by
  have HM := hid (more_any A m c B 0#32 l w hm hA hB hl)
  have e0 : v32 0#32 = 0 := rfl
  rw [e0] at HM
  clear hm hA e0
  go_enter Tryd.func10, Tryd.ntmps10
  go_wp2_with fail
  go_fit HM.out
  rintro e w1 ⟨rfl, hb1⟩
  go_wp2_with fail
  go_ret
  exact ⟨rfl, hb1⟩

end Go.Proofs.YtignjgjoejimcaaDoor
