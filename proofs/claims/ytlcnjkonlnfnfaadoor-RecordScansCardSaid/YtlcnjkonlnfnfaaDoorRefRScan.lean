/-
  The document's Scan of records.
-/
import Derived.Test.YtlcnjkonlnfnfaaDoorRefRGet
import Derived.Test.YtlcnjkonlnfnfaaDoorRecRow
import Derived.Test.YtlcnjkonlnfnfaaDoorRefRSame
namespace Go.Proofs.YtlcnjkonlnfnfaaDoor
open Go Go.RowKit

theorem RcAt.one (w : World) (x : Rc) : RcAt (w.alloc (.cells #[.int .u64 (x.1 : Int), .string (bst x.2)] 24)) (w.heap.size + 1) (some ⟨w.heap.size, 0, none⟩) [x] := fun _ => by
  refine ⟨w.heap.size, 0, rfl, by omega, fun i s hi => ?_⟩
  have : i = 0 := by have := (List.getElem?_eq_some_iff.1 hi).1; simp at this; omega
  subst this
  obtain rfl : x = s := by simpa using hi
  have hb := Blk.new w 24 #[.int .u64 (x.1 : Int), .string (bst x.2)]
  exact ⟨hb.cell 0, hb.cell 1⟩

/-- Scan under way -/
structure ScL (w wr : World) (l : List UInt8) (q0 : Nat) (A : Option Addr) (m c : Nat) (done : List Rc) (k q : Nat) : Prop where
  row : RcRow wr w.heap.size A m c done
  below : Below w.heap.size w wr
  len : done.length ≤ k
  all : rscan l q0 = (done ++ (rscan (l.drop k) q).1, k + (rscan (l.drop k) q).2)
theorem scan_stop {l : List UInt8} {q : Nat} (h : ∀ p b k, rget l = some (p, b, k) → p ≠ q) : rscan l q = ([], 0) := by
  rw [rscan_eq]
  cases hg : rget l with
  | none => rfl
  | some x =>
    obtain ⟨p, b, k⟩ := x
    dsimp only
    rw [if_neg (h p b k hg)]
theorem scan_go {l : List UInt8} {q k : Nat} {b : List UInt8} (h : rget l = some (q, b, k)) : rscan l q = ((q, b) :: (rscan (l.drop k) (next64 q)).1, k + (rscan (l.drop k) (next64 q)).2) := by
  rw [rscan_eq, h]
  dsimp only
  rw [if_pos rfl]

set_option maxHeartbeats 4000000 in
set_option maxRecDepth 100000 in
theorem refRScan_any (l : List UInt8) (q0 : Nat) (w : World) (hl : l.length ≤ 70000) (hq0 : q0 < 18446744073709551616) :
    Calls Tryd.prog 15 #[.string (bst l), .int .u64 (q0 : Int)] w fun e w' => ∃ A m c, e = .returned (.tuple #[.slice A m c, .int .i64 ((rscan l q0).2 : Int)]) ∧ RcRow w' w.heap.size A m c (rscan l q0).1 ∧ Below w.heap.size w w' := by
  have z := bst_size l
  have HS0 := hid (show ScL w (w.alloc (.cells #[] 24)) l q0 (some ⟨w.heap.size, 0, none⟩) 0 0 [] 0 q0 from ⟨RcRow.empty w rfl (Nat.le_refl _), (Below.refl _ _).alloc (Nat.le_refl _) _, Nat.le_refl _, by rw [List.drop_zero, List.nil_append, Nat.zero_add]⟩)
  go_enter Tryd.func15, Tryd.ntmps15
  go_wp2_with fail
  go_loopw [1, 6, 7] (fun f o a wr => ∃ (done : List Rc) (k q m c : Nat) (A : Option Addr), k ≤ l.length ∧ q < 18446744073709551616 ∧ f = .int .u64 (q : Int) ∧ o = .slice A m c ∧ a = .int .i64 (k : Int) ∧ Kept (ScL w wr l q0 A m c done k q)) (fun _ _ a _ => l.length - (intOf a).toNat)
  case atStart => exact ⟨[], 0, q0, 0, 0, _, Nat.zero_le _, hq0, rfl, rfl, rfl, HS0⟩
  case round =>
    clear HS0
    obtain ⟨done, k, q, m, c, A, hk, hq, rfl, rfl, rfl, HS⟩ := hrel
    have ed := bstDrop l k
    have hdl : (l.drop k).length ≤ 70000 := by rw [List.length_drop]; omega
    have HG := hid (fun (W : World) => refRGet_any (l.drop k) W hdl)
    cases hg : rget (l.drop k) with
    | none =>
      have HST := hid (scan_stop (l := l.drop k) (q := q) (fun p b k h => by rw [hg] at h; cases h))
      rw [hg] at HG
      unfold recV at HG
      dsimp only at HG
      clear hg
      go_wp2_with fail
      go_fit (HG.out _)
      rintro e w3 ⟨rfl, hb3⟩
      have HB3 := hid hb3
      clear hb3
      go_wp2_with fail
      go_ret2
      have ha := HS.out.all
      rw [HST.out, List.append_nil, Nat.add_zero] at ha
      rw [ha]
      exact ⟨A, m, c, rfl, (HS.out.row.below HB3.out).alloc _, (below_step HS.out.below HB3.out).alloc (Nat.le_trans HS.out.below.size HB3.out.size) _⟩
    | some x =>
      obtain ⟨p, b, j⟩ := x
      have HGL := hid (rget_len hg)
      by_cases hpq : p = q
      · subst hpq
        have HST := hid (scan_go hg)
        have hjl := HGL.out
        rw [List.length_drop] at hjl
        rw [hg] at HG
        unfold recV at HG
        dsimp only at HG
        clear hg
        go_wp2_with fail
        go_fit (HG.out _)
        rintro e w3 ⟨rfl, hb3⟩
        have HB3 := hid hb3
        have s3 : (w3.alloc (.cells #[.int .u64 (p : Int), .string (bst b)] 24)).heap.size = w3.heap.size + 1 := by simp
        have HR5 := hid (((HS.out.row.below hb3).alloc (.cells #[.int .u64 (p : Int), .string (bst b)] 24)).alloc (.cells #[.int .u64 (p : Int), .string (bst b)] 24))
        have ho := RcAt.one (w3.alloc (.cells #[.int .u64 (p : Int), .string (bst b)] 24)) (p, b)
        rw [s3] at ho
        have HO := hid ho
        have HB5 := hid (show Below w.heap.size w ((w3.alloc (.cells #[.int .u64 (p : Int), .string (bst b)] 24)).alloc (.cells #[.int .u64 (p : Int), .string (bst b)] 24)) from
          ((below_step HS.out.below hb3).alloc (Nat.le_trans HS.out.below.size hb3.size) _).alloc (by have := HS.out.below.size; have := hb3.size; simp; omega) _)
        have HLN := hid (show done.length + [(p, b)].length ≤ 1099511627776 by have := HS.out.len; simp; omega)
        have HBS := hid HB5.out.size
        have hw64 : IntKind.u64.wrap ((p : Int) + 1) = ((next64 p : Nat) : Int) := by rw [IntKind.wrap_u64]; unfold next64; omega
        have HNX := hid (next64_lt p)
        clear hb3 ho s3
        go_wp2_with (at_builtin; go_must (refine wpList_append_rc _ rfl _ _ rfl w.heap.size rfl HR5.out rfl rfl HO.out HLN.out HBS.out ?_))
        intro A7 m7 c7 w7 hr7 hm7 hb7 hg7
        have HS7 := hid (show ScL w w7 l q0 A7 m7 c7 (done ++ [(p, b)]) (k + j) (next64 p) from ⟨hr7, HB5.out.trans hb7, by have := HS.out.len; have := HGL.out; simp; omega, by
          rw [HS.out.all, HST.out, List.drop_drop]
          simp only [List.append_assoc, List.singleton_append, Nat.add_assoc]⟩)
        clear hr7 hm7 hb7 hg7
        go_wp2_with fail
        go_roundw
        case rel => exact ⟨_, k + j, next64 p, m7, c7, A7, by omega, HNX.out, rfl, rfl, by go_num, HS7⟩
        case measure => simp [intOf]; omega
      · have HST := hid (scan_stop (l := l.drop k) (q := q) (fun p' b' j' h => by rw [hg] at h; injection h with h; injection h with e1 _; rw [← e1]; exact hpq))
        rw [hg] at HG
        unfold recV at HG
        dsimp only at HG
        have hne : ((p : Int) != (q : Int)) = true := by simp; omega
        clear hg
        go_wp2_with fail
        go_fit (HG.out _)
        rintro e w3 ⟨rfl, hb3⟩
        have HB3 := hid hb3
        clear hb3
        go_wp2_with fail
        go_ret2
        have ha := HS.out.all
        rw [HST.out, List.append_nil, Nat.add_zero] at ha
        rw [ha]
        exact ⟨A, m, c, rfl, (HS.out.row.below HB3.out).alloc _, (below_step HS.out.below HB3.out).alloc (Nat.le_trans HS.out.below.size HB3.out.size) _⟩

end Go.Proofs.YtlcnjkonlnfnfaaDoor
