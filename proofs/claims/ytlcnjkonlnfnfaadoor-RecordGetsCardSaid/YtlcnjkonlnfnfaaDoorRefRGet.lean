/-
  The document's Get of a record.
-/
import Derived.Test.YtlcnjkonlnfnfaaDoorRec
import Derived.Test.YtlcnjkonlnfnfaaDoorRefOpen
import Derived.Test.YtlcnjkonlnfnfaaDoorRefNum
import Derived.Test.YtlcnjkonlnfnfaaDoorRefTake
import Derived.Test.YtlcnjkonlnfnfaaDoorStrCut
import Derived.Test.YtlcnjkonlnfnfaaDoorJBytes
namespace Go.Proofs.YtlcnjkonlnfnfaaDoor
open Go Go.RowKit

/-- what Get answers -/
def recV (o : Option (Nat × List UInt8 × Nat)) : Value := match o with
  | some (q, b, k) => .tuple #[.agg #[.int .u64 (q : Int), .string (bst b)], .int .i64 (k : Int), .bool true]
  | none => .tuple #[.agg #[.int .u64 0, .string ⟨#[]⟩], .int .i64 0, .bool false]
theorem bstMid (s : List UInt8) (i n : Nat) : (bst s).extract i (i + n) = bst ((s.drop i).take n) := by
  apply ByteArray.ext
  apply Array.toList_inj.1
  simp [bst, List.take_drop]

theorem twoc {w : World} {b : Nat} {t : TypeId} {a0 a1 : Value} (h : Blk w b t #[a0, a1]) : w.cell? ⟨b, 0, none⟩ = some a0 ∧ w.cell? ⟨b, 1, none⟩ = some a1 ∧ w.frozen? ⟨b, 0, none⟩ = false ∧ w.frozen? ⟨b, 1, none⟩ = false :=
  ⟨h.cell 0, h.cell 1, h.free 0, h.free 1⟩

set_option maxHeartbeats 4000000 in
set_option maxRecDepth 100000 in
theorem refRGet_any (l : List UInt8) (w : World) (hl : l.length ≤ 70000) :
    Calls Tryd.prog 13 #[.string (bst l)] w fun e w' => e = .returned (recV (rget l)) ∧ Below w.heap.size w w' := by
  have z := bst_size l
  have hb2 : Below w.heap.size w ((w.alloc (.cells #[.int .u64 0, .string ⟨#[]⟩] 24)).alloc (.cells #[.int .u64 0, .string ⟨#[]⟩] 24)) := ((Below.refl _ _).alloc (Nat.le_refl _) _).alloc (by simp) _
  have HB2 := hid hb2
  clear hb2
  unfold rget
  by_cases h4 : l.length < 4
  · rw [if_pos (.inl h4)]
    unfold recV
    dsimp only
    go_enter Tryd.func13, Tryd.ntmps13
    go_wp2_with fail
    refine bodyPost_ret (v := .tuple #[.agg #[.int .u64 0, .string ⟨#[]⟩], .int .i64 0, .bool false]) (by simp [results, Tryd.results13, go_sem]) rfl ⟨rfl, HB2.out⟩
  have e4 := bstTake l 4
  have HG4 := hid (fun (W : World) => refGet_any (l.take 4) W (by rw [List.length_take]; omega))
  obtain ⟨N, hN⟩ : ∃ N, N = ofBe (l.take 4) := ⟨_, rfl⟩
  rw [← hN] at HG4 ⊢
  have hN32 : N < 4294967296 := by rw [hN]; have h := ofBe_lt (l.take 4); rw [show (l.take 4).length = 4 by rw [List.length_take]; omega] at h; exact h
  clear hN
  by_cases hlen : l.length - 4 < N
  · rw [if_pos (.inr hlen)]
    unfold recV
    dsimp only
    go_enter Tryd.func13, Tryd.ntmps13
    go_wp2_with fail
    go_fit (HG4.out _)
    rintro e w3 ⟨rfl, rfl⟩
    go_wp2_with fail
    refine bodyPost_ret (v := .tuple #[.agg #[.int .u64 0, .string ⟨#[]⟩], .int .i64 0, .bool false]) (by simp [results, Tryd.results13, go_sem]) rfl ⟨rfl, HB2.out⟩
  rw [if_neg (by omega)]
  have emid := bstMid l 4 N
  have hsl : ((l.drop 4).take N).length = N := by rw [List.length_take, List.length_drop]; omega
  obtain ⟨s, hs⟩ : ∃ s, s = (l.drop 4).take N := ⟨_, rfl⟩
  rw [← hs] at emid hsl ⊢
  clear hs
  have HBA := hid (show Blk ((w.alloc (.cells #[.int .u64 0, .string ⟨#[]⟩] 24)).alloc (.cells #[.int .u64 0, .string ⟨#[]⟩] 24)) w.heap.size 24 #[.int .u64 0, .string ⟨#[]⟩] from (Blk.new w _ _).alloc _)
  have hbb := Blk.new (w.alloc (.cells #[.int .u64 0, .string ⟨#[]⟩] 24)) 24 #[.int .u64 0, .string ⟨#[]⟩]
  rw [show (w.alloc (.cells #[.int .u64 0, .string ⟨#[]⟩] 24)).heap.size = w.heap.size + 1 by simp] at hbb
  have HBB := hid hbb
  clear hbb
  by_cases h5 : N < 4
  · have : runseal s = none := if_neg (by omega)
    rw [this]
    show Calls _ _ _ _ fun e w' => e = .returned (recV none) ∧ _
    unfold recV
    dsimp only
    have HOP := hid (fun (W : World) => refOpen_short s W (by omega))
    clear this
    go_enter Tryd.func13, Tryd.ntmps13
    go_wp2_with fail
    go_fit (HG4.out _)
    rintro e w3 ⟨rfl, rfl⟩
    generalize (w.alloc (.cells #[.int .u64 0, .string ⟨#[]⟩] 24)).alloc (.cells #[.int .u64 0, .string ⟨#[]⟩] 24) = w2 at *
    obtain ⟨a0, a1, fa0, fa1⟩ := twoc HBA.out
    obtain ⟨b0, b1, _, _⟩ := twoc HBB.out
    go_wp2_with fail
    go_fit (HOP.out _)
    rintro e w3 ⟨rfl, rfl⟩
    go_wp2_with fail
    refine bodyPost_ret (v := .tuple #[.agg #[.int .u64 0, .string ⟨#[]⟩], .int .i64 0, .bool false]) (by simp [results, Tryd.results13, go_sem, *]) rfl ⟨rfl, ?_⟩
    exact ((HB2.out).setCell (p := ⟨w.heap.size, 0, none⟩) (Nat.le_refl _) _).setCell (p := ⟨w.heap.size, 1, none⟩) (Nat.le_refl _) _
  by_cases hok : s.drop (N - 4) = sum4 (s.take (N - 4))
  case neg =>
    have : runseal s = none := if_neg (by rw [hsl]; exact fun h => hok h.2)
    rw [this]
    show Calls _ _ _ _ fun e w' => e = .returned (recV none) ∧ _
    unfold recV
    dsimp only
    have HOP := hid (fun (W : World) => refOpen_wrong s (N - 4) W (by omega) (by omega) hok)
    clear this hok
    go_enter Tryd.func13, Tryd.ntmps13
    go_wp2_with fail
    go_fit (HG4.out _)
    rintro e w3 ⟨rfl, rfl⟩
    generalize (w.alloc (.cells #[.int .u64 0, .string ⟨#[]⟩] 24)).alloc (.cells #[.int .u64 0, .string ⟨#[]⟩] 24) = w2 at *
    obtain ⟨a0, a1, fa0, fa1⟩ := twoc HBA.out
    obtain ⟨b0, b1, _, _⟩ := twoc HBB.out
    go_wp2_with fail
    go_fit (HOP.out _)
    rintro e w3 ⟨rfl, hb3⟩
    have HB3 := hid (HB2.out.trans (hb3.mono HB2.out.size))
    have HA3 := hid (HBA.out.below hb3 HBA.out.lt)
    have HC3 := hid (HBB.out.below hb3 HBB.out.lt)
    clear a0 a1 fa0 fa1 b0 b1 hb3
    obtain ⟨a0, a1, fa0, fa1⟩ := twoc HA3.out
    obtain ⟨b0, b1, _, _⟩ := twoc HC3.out
    go_wp2_with fail
    refine bodyPost_ret (v := .tuple #[.agg #[.int .u64 0, .string ⟨#[]⟩], .int .i64 0, .bool false]) (by simp [results, Tryd.results13, go_sem, *]) rfl ⟨rfl, ?_⟩
    exact ((HB3.out).setCell (p := ⟨w.heap.size, 0, none⟩) (Nat.le_refl _) _).setCell (p := ⟨w.heap.size, 1, none⟩) (Nat.le_refl _) _
  have hus : runseal s = some (s.take (N - 4)) := by unfold runseal; rw [hsl, if_pos ⟨by omega, hok⟩]
  rw [hus]
  have HOP := hid (fun (W : World) => refOpen_good s (N - 4) W (by omega) (by omega) hok)
  clear hus hok
  have htl : (s.take (N - 4)).length ≤ 70000 := by rw [List.length_take]; omega
  obtain ⟨t, ht⟩ : ∃ t, t = s.take (N - 4) := ⟨_, rfl⟩
  rw [← ht] at HOP htl ⊢
  clear ht
  show Calls _ _ _ _ fun e w' => e = .returned (recV ((rfields t).map fun x => (x.1, x.2, 4 + N))) ∧ _
  unfold rfields
  have HNM := hid (fun (W : World) => refNum_any t W htl)
  have hnl := rnum_len t
  have hv64 := rnum_lt t
  generalize rnum t = o1 at *
  obtain ⟨v, r, f⟩ := o1
  dsimp only at hnl hv64 HNM ⊢
  have HTK := hid (fun (W : World) => refTake_text 0 r W (by omega))
  unfold TookRef at HTK
  rw [show tk 1 0 r = (⟨1, 0, (rtext r).1, false, 0⟩, (rtext r).2) from rfl] at HTK
  generalize rtext r = o2 at *
  obtain ⟨x, m, g⟩ := o2
  dsimp only at HTK ⊢
  unfold Fd.val at HTK
  dsimp only at HTK
  have zx := bst_size x
  clear hnl htl
  by_cases hf : f = 0
  case neg =>
    rw [if_neg (fun h => hf h.1)]
    have hf1 : ((f : Int) != 0) = true := by simpa using hf
    show Calls _ _ _ _ fun e w' => e = .returned (recV none) ∧ _
    unfold recV
    dsimp only
    go_enter Tryd.func13, Tryd.ntmps13
    go_wp2_with fail
    go_fit (HG4.out _)
    rintro e w3 ⟨rfl, rfl⟩
    generalize (w.alloc (.cells #[.int .u64 0, .string ⟨#[]⟩] 24)).alloc (.cells #[.int .u64 0, .string ⟨#[]⟩] 24) = w2 at *
    obtain ⟨a0, a1, fa0, fa1⟩ := twoc HBA.out
    obtain ⟨b0, b1, _, _⟩ := twoc HBB.out
    go_wp2_with fail
    go_fit (HOP.out _)
    rintro e w3 ⟨rfl, hb3⟩
    have HB3 := hid (HB2.out.trans (hb3.mono HB2.out.size))
    have HA3 := hid (HBA.out.below hb3 HBA.out.lt)
    have HC3 := hid (HBB.out.below hb3 HBB.out.lt)
    clear a0 a1 fa0 fa1 b0 b1 hb3
    go_wp2_with fail
    go_fit (HNM.out _)
    rintro e w4 ⟨rfl, hb4⟩
    have HB4 := hid (HB3.out.trans (hb4.mono HB3.out.size))
    have HA4 := hid (HA3.out.below hb4 HA3.out.lt)
    have HC4 := hid (HC3.out.below hb4 HC3.out.lt)
    clear hb4
    go_wp2_with fail
    go_fit (HTK.out _)
    rintro e w5 ⟨rfl, hb5⟩
    have HB5 := hid (HB4.out.trans (hb5.mono HB4.out.size))
    have HA5 := hid (HA4.out.below hb5 HA4.out.lt)
    have HC5 := hid (HC4.out.below hb5 HC4.out.lt)
    clear hb5
    obtain ⟨a0, a1, fa0, fa1⟩ := twoc HA5.out
    obtain ⟨b0, b1, _, _⟩ := twoc HC5.out
    have HL5 := hid (show w.heap.size + 1 < w5.heap.size from HC5.out.lt)
    have hl5 := HL5.out
    have hl6 : w.heap.size < w5.heap.size := by omega
    go_wp2_with fail
    refine bodyPost_ret (v := .tuple #[.agg #[.int .u64 0, .string ⟨#[]⟩], .int .i64 0, .bool false]) (by simp [results, Tryd.results13, go_sem, *]) rfl ⟨rfl, ?_⟩
    exact ((HB5.out.setCell (p := ⟨w.heap.size, 0, none⟩) (Nat.le_refl _) _).setCell (p := ⟨w.heap.size, 1, none⟩) (Nat.le_refl _) _).alloc (by have := HB5.out.size; simp; omega) _
  subst hf
  by_cases hg : g = 0
  case neg =>
    rw [if_neg (fun h => hg h.2.1)]
    have hg1 : ((g : Int) != 0) = true := by simpa using hg
    show Calls _ _ _ _ fun e w' => e = .returned (recV none) ∧ _
    unfold recV
    dsimp only
    go_enter Tryd.func13, Tryd.ntmps13
    go_wp2_with fail
    go_fit (HG4.out _)
    rintro e w3 ⟨rfl, rfl⟩
    generalize (w.alloc (.cells #[.int .u64 0, .string ⟨#[]⟩] 24)).alloc (.cells #[.int .u64 0, .string ⟨#[]⟩] 24) = w2 at *
    obtain ⟨a0, a1, fa0, fa1⟩ := twoc HBA.out
    obtain ⟨b0, b1, _, _⟩ := twoc HBB.out
    go_wp2_with fail
    go_fit (HOP.out _)
    rintro e w3 ⟨rfl, hb3⟩
    have HB3 := hid (HB2.out.trans (hb3.mono HB2.out.size))
    have HA3 := hid (HBA.out.below hb3 HBA.out.lt)
    have HC3 := hid (HBB.out.below hb3 HBB.out.lt)
    clear a0 a1 fa0 fa1 b0 b1 hb3
    go_wp2_with fail
    go_fit (HNM.out _)
    rintro e w4 ⟨rfl, hb4⟩
    have HB4 := hid (HB3.out.trans (hb4.mono HB3.out.size))
    have HA4 := hid (HA3.out.below hb4 HA3.out.lt)
    have HC4 := hid (HC3.out.below hb4 HC3.out.lt)
    clear hb4
    go_wp2_with fail
    go_fit (HTK.out _)
    rintro e w5 ⟨rfl, hb5⟩
    have HB5 := hid (HB4.out.trans (hb5.mono HB4.out.size))
    have HA5 := hid (HA4.out.below hb5 HA4.out.lt)
    have HC5 := hid (HC4.out.below hb5 HC4.out.lt)
    clear hb5
    obtain ⟨a0, a1, fa0, fa1⟩ := twoc HA5.out
    obtain ⟨b0, b1, _, _⟩ := twoc HC5.out
    have HL5 := hid (show w.heap.size + 1 < w5.heap.size from HC5.out.lt)
    have hl5 := HL5.out
    have hl6 : w.heap.size < w5.heap.size := by omega
    go_wp2_with fail
    refine bodyPost_ret (v := .tuple #[.agg #[.int .u64 0, .string ⟨#[]⟩], .int .i64 0, .bool false]) (by simp [results, Tryd.results13, go_sem, *]) rfl ⟨rfl, ?_⟩
    exact ((HB5.out.setCell (p := ⟨w.heap.size, 0, none⟩) (Nat.le_refl _) _).setCell (p := ⟨w.heap.size, 1, none⟩) (Nat.le_refl _) _).alloc (by have := HB5.out.size; simp; omega) _
  subst hg
  by_cases hm : m = []
  case neg =>
    rw [if_neg (fun h => hm h.2.2.1)]
    obtain ⟨y, ys, rfl⟩ : ∃ y ys, m = y :: ys := by
      cases m with
      | nil => exact absurd rfl hm
      | cons y ys => exact ⟨y, ys, rfl⟩
    have hm1 := bst_toList (y :: ys)
    have hm2 := bst_ne y ys
    show Calls _ _ _ _ fun e w' => e = .returned (recV none) ∧ _
    unfold recV
    dsimp only
    go_enter Tryd.func13, Tryd.ntmps13
    go_wp2_with fail
    go_fit (HG4.out _)
    rintro e w3 ⟨rfl, rfl⟩
    generalize (w.alloc (.cells #[.int .u64 0, .string ⟨#[]⟩] 24)).alloc (.cells #[.int .u64 0, .string ⟨#[]⟩] 24) = w2 at *
    obtain ⟨a0, a1, fa0, fa1⟩ := twoc HBA.out
    obtain ⟨b0, b1, _, _⟩ := twoc HBB.out
    go_wp2_with fail
    go_fit (HOP.out _)
    rintro e w3 ⟨rfl, hb3⟩
    have HB3 := hid (HB2.out.trans (hb3.mono HB2.out.size))
    have HA3 := hid (HBA.out.below hb3 HBA.out.lt)
    have HC3 := hid (HBB.out.below hb3 HBB.out.lt)
    clear a0 a1 fa0 fa1 b0 b1 hb3
    go_wp2_with fail
    go_fit (HNM.out _)
    rintro e w4 ⟨rfl, hb4⟩
    have HB4 := hid (HB3.out.trans (hb4.mono HB3.out.size))
    have HA4 := hid (HA3.out.below hb4 HA3.out.lt)
    have HC4 := hid (HC3.out.below hb4 HC3.out.lt)
    clear hb4
    go_wp2_with fail
    go_fit (HTK.out _)
    rintro e w5 ⟨rfl, hb5⟩
    have HB5 := hid (HB4.out.trans (hb5.mono HB4.out.size))
    have HA5 := hid (HA4.out.below hb5 HA4.out.lt)
    have HC5 := hid (HC4.out.below hb5 HC4.out.lt)
    clear hb5
    obtain ⟨a0, a1, fa0, fa1⟩ := twoc HA5.out
    obtain ⟨b0, b1, _, _⟩ := twoc HC5.out
    have HL5 := hid (show w.heap.size + 1 < w5.heap.size from HC5.out.lt)
    have hl5 := HL5.out
    have hl6 : w.heap.size < w5.heap.size := by omega
    go_wp2_with fail
    refine bodyPost_ret (v := .tuple #[.agg #[.int .u64 0, .string ⟨#[]⟩], .int .i64 0, .bool false]) (by simp [results, Tryd.results13, go_sem, *]) rfl ⟨rfl, ?_⟩
    exact ((HB5.out.setCell (p := ⟨w.heap.size, 0, none⟩) (Nat.le_refl _) _).setCell (p := ⟨w.heap.size, 1, none⟩) (Nat.le_refl _) _).alloc (by have := HB5.out.size; simp; omega) _
  subst hm
  rw [show bst [] = (⟨#[]⟩ : ByteArray) from rfl] at HTK
  by_cases hx : x.length ≤ 32768
  case neg =>
    rw [if_neg (fun h => hx h.2.2.2)]
    have hx1 : 32768 < x.length := by omega
    show Calls _ _ _ _ fun e w' => e = .returned (recV none) ∧ _
    unfold recV
    dsimp only
    clear hx
    go_enter Tryd.func13, Tryd.ntmps13
    go_wp2_with fail
    go_fit (HG4.out _)
    rintro e w3 ⟨rfl, rfl⟩
    generalize (w.alloc (.cells #[.int .u64 0, .string ⟨#[]⟩] 24)).alloc (.cells #[.int .u64 0, .string ⟨#[]⟩] 24) = w2 at *
    obtain ⟨a0, a1, fa0, fa1⟩ := twoc HBA.out
    obtain ⟨b0, b1, _, _⟩ := twoc HBB.out
    go_wp2_with fail
    go_fit (HOP.out _)
    rintro e w3 ⟨rfl, hb3⟩
    have HB3 := hid (HB2.out.trans (hb3.mono HB2.out.size))
    have HA3 := hid (HBA.out.below hb3 HBA.out.lt)
    have HC3 := hid (HBB.out.below hb3 HBB.out.lt)
    clear a0 a1 fa0 fa1 b0 b1 hb3
    go_wp2_with fail
    go_fit (HNM.out _)
    rintro e w4 ⟨rfl, hb4⟩
    have HB4 := hid (HB3.out.trans (hb4.mono HB3.out.size))
    have HA4 := hid (HA3.out.below hb4 HA3.out.lt)
    have HC4 := hid (HC3.out.below hb4 HC3.out.lt)
    clear hb4
    go_wp2_with fail
    go_fit (HTK.out _)
    rintro e w5 ⟨rfl, hb5⟩
    have HB5 := hid (HB4.out.trans (hb5.mono HB4.out.size))
    have HA5 := hid (HA4.out.below hb5 HA4.out.lt)
    have HC5 := hid (HC4.out.below hb5 HC4.out.lt)
    clear hb5
    obtain ⟨a0, a1, fa0, fa1⟩ := twoc HA5.out
    obtain ⟨b0, b1, _, _⟩ := twoc HC5.out
    have HL5 := hid (show w.heap.size + 1 < w5.heap.size from HC5.out.lt)
    have hl5 := HL5.out
    have hl6 : w.heap.size < w5.heap.size := by omega
    go_wp2_with fail
    refine bodyPost_ret (v := .tuple #[.agg #[.int .u64 0, .string ⟨#[]⟩], .int .i64 0, .bool false]) (by simp [results, Tryd.results13, go_sem, *]) rfl ⟨rfl, ?_⟩
    exact ((HB5.out.setCell (p := ⟨w.heap.size, 0, none⟩) (Nat.le_refl _) _).setCell (p := ⟨w.heap.size, 1, none⟩) (Nat.le_refl _) _).alloc (by have := HB5.out.size; simp; omega) _
  rw [if_pos ⟨rfl, rfl, rfl, hx⟩]
  show Calls _ _ _ _ fun e w' => e = .returned (.tuple #[.agg #[.int .u64 (v : Int), .string (bst x)], .int .i64 ((4 + N : Nat) : Int), .bool true]) ∧ _
  go_enter Tryd.func13, Tryd.ntmps13
  go_wp2_with fail
  go_fit (HG4.out _)
  rintro e w3 ⟨rfl, rfl⟩
  generalize (w.alloc (.cells #[.int .u64 0, .string ⟨#[]⟩] 24)).alloc (.cells #[.int .u64 0, .string ⟨#[]⟩] 24) = w2 at *
  obtain ⟨a0, a1, fa0, fa1⟩ := twoc HBA.out
  obtain ⟨b0, b1, _, _⟩ := twoc HBB.out
  go_wp2_with fail
  go_fit (HOP.out _)
  rintro e w3 ⟨rfl, hb3⟩
  have HB3 := hid (HB2.out.trans (hb3.mono HB2.out.size))
  have HA3 := hid (HBA.out.below hb3 HBA.out.lt)
  have HC3 := hid (HBB.out.below hb3 HBB.out.lt)
  clear a0 a1 fa0 fa1 b0 b1 hb3
  go_wp2_with fail
  go_fit (HNM.out _)
  rintro e w4 ⟨rfl, hb4⟩
  have HB4 := hid (HB3.out.trans (hb4.mono HB3.out.size))
  have HA4 := hid (HA3.out.below hb4 HA3.out.lt)
  have HC4 := hid (HC3.out.below hb4 HC3.out.lt)
  clear hb4
  go_wp2_with fail
  go_fit (HTK.out _)
  rintro e w5 ⟨rfl, hb5⟩
  have HB5 := hid (HB4.out.trans (hb5.mono HB4.out.size))
  have HA5 := hid (HA4.out.below hb5 HA4.out.lt)
  have HC5 := hid (HC4.out.below hb5 HC4.out.lt)
  clear hb5
  obtain ⟨a0, a1, fa0, fa1⟩ := twoc HA5.out
  obtain ⟨b0, b1, _, _⟩ := twoc HC5.out
  have HL5 := hid (show w.heap.size + 1 < w5.heap.size from HC5.out.lt)
  have hl5 := HL5.out
  have hl6 : w.heap.size < w5.heap.size := by omega
  go_wp2_with fail
  refine bodyPost_ret (v := .tuple #[.agg #[.int .u64 (v : Int), .string (bst x)], .int .i64 ((4 + N : Nat) : Int), .bool true]) (by simp [results, Tryd.results13, go_sem, *]) rfl ⟨rfl, ?_⟩
  exact ((HB5.out.setCell (p := ⟨w.heap.size, 0, none⟩) (Nat.le_refl _) _).setCell (p := ⟨w.heap.size, 1, none⟩) (Nat.le_refl _) _).alloc (by have := HB5.out.size; simp; omega) _

end Go.Proofs.YtlcnjkonlnfnfaaDoor
