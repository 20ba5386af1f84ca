/-
  The library's sort at this program: what it turns, and what it leaves. The two tables are what the kit's own command lays, written out.
-/
import Derived.Test.YtdhjjjagjkencaaEach
import Derived.Shelf.SlSortCmp.NoneTotal
import Derived.Shelf.SlicesG.Cmp
namespace Go.Proofs.Ytdhjjjagjkencaa
open Go Go.RowKit Go.Shelf

def sortE_ren : Go.Shelf.Ren := ⟨fun | 6 => 27 | 15 => 32 | 14 => 31 | 28 => 42 | 29 => 43 | 20 => 34 | 21 => 35 | 22 => 36 | 23 => 37 | 24 => 38 | 25 => 39 | 26 => 40 | 27 => 41 | 46 => 44 | 47 => 45 | 48 => 46 | 49 => 47 | 50 => 48 | 57 => 49 | n => n, fun | 22 => 28 | 24 => 32 | 25 => 71 | 3 => 3 | 39 => 74 | 0 => 0 | 53 => 85 | 55 => 87 | 4 => 4 | 46 => 78 | 45 => 77 | 50 => 82 | 5 => 5 | 9 => 9 | 66 => 88 | 70 => 92 | 76 => 94 | 77 => 95 | n => n, fun n => n⟩
theorem sortE : SlLaysF0.n6 Try.prog sortE_ren where
  mixed := by kernel_rfl
  f6 := ⟨ "slices.SortFunc[[]lapstone/api.Entry,lapstone/api.Entry]", by decide, Try.func27.trans (congrArg some (by kernel_rfl))⟩
  f14 := ⟨ "slices.pdqsortCmpFunc[lapstone/api.Entry]", by decide, Try.func31.trans (congrArg some (by kernel_rfl))⟩
  f15 := Try.func32.trans (congrArg some (by kernel_rfl))
  f20 := ⟨ "slices.insertionSortCmpFunc[lapstone/api.Entry]", by decide, Try.func34.trans (congrArg some (by kernel_rfl))⟩
  f21 := ⟨ "slices.heapSortCmpFunc[lapstone/api.Entry]", by decide, Try.func35.trans (congrArg some (by kernel_rfl))⟩
  f22 := ⟨ "slices.breakPatternsCmpFunc[lapstone/api.Entry]", by decide, Try.func36.trans (congrArg some (by kernel_rfl))⟩
  f23 := ⟨ "slices.choosePivotCmpFunc[lapstone/api.Entry]", by decide, Try.func37.trans (congrArg some (by kernel_rfl))⟩
  f24 := ⟨ "slices.reverseRangeCmpFunc[lapstone/api.Entry]", by decide, Try.func38.trans (congrArg some (by kernel_rfl))⟩
  f25 := ⟨ "slices.partialInsertionSortCmpFunc[lapstone/api.Entry]", by decide, Try.func39.trans (congrArg some (by kernel_rfl))⟩
  f26 := ⟨ "slices.partitionEqualCmpFunc[lapstone/api.Entry]", by decide, Try.func40.trans (congrArg some (by kernel_rfl))⟩
  f27 := ⟨ "slices.partitionCmpFunc[lapstone/api.Entry]", by decide, Try.func41.trans (congrArg some (by kernel_rfl))⟩
  f28 := Try.func42.trans (congrArg some (by kernel_rfl))
  f29 := Try.func43.trans (congrArg some (by kernel_rfl))
  f46 := ⟨ "slices.siftDownCmpFunc[lapstone/api.Entry]", by decide, Try.func44.trans (congrArg some (by kernel_rfl))⟩
  f47 := Try.func45.trans (congrArg some (by kernel_rfl))
  f48 := Try.func46.trans (congrArg some (by kernel_rfl))
  f49 := ⟨ "slices.medianAdjacentCmpFunc[lapstone/api.Entry]", by decide, Try.func47.trans (congrArg some (by kernel_rfl))⟩
  f50 := ⟨ "slices.medianCmpFunc[lapstone/api.Entry]", by decide, Try.func48.trans (congrArg some (by kernel_rfl))⟩
  f57 := ⟨ "slices.order2CmpFunc[lapstone/api.Entry]", by decide, Try.func49.trans (congrArg some (by kernel_rfl))⟩
  t0 := Try.underlying0
  a0 := Try.isAgg0
  z0 := Try.sizeOf0
  v0 := Try.zeroValue0
  t3 := Try.underlying3
  a3 := Try.isAgg3
  z3 := Try.sizeOf3
  v3 := Try.zeroValue3
  t4 := Try.underlying4
  a4 := Try.isAgg4
  z4 := Try.sizeOf4
  v4 := Try.zeroValue4
  t5 := Try.underlying5
  a5 := Try.isAgg5
  z5 := Try.sizeOf5
  v5 := Try.zeroValue5
  t9 := Try.underlying9
  a9 := Try.isAgg9
  z9 := Try.sizeOf9
  v9 := Try.zeroValue9
  t22 := Try.underlying28
  a22 := Try.isAgg28
  z22 := Try.sizeOf28
  v22 := Try.zeroValue28
  t25 := Try.underlying71
  a25 := Try.isAgg71
  z25 := Try.sizeOf71
  v25 := Try.zeroValue71
  t39 := Try.underlying74
  a39 := Try.isAgg74
  z39 := Try.sizeOf74
  v39 := Try.zeroValue74
  t45 := Try.underlying77
  a45 := Try.isAgg77
  z45 := Try.sizeOf77
  v45 := Try.zeroValue77
  t46 := Try.underlying78
  a46 := Try.isAgg78
  z46 := Try.sizeOf78
  v46 := Try.zeroValue78
  t50 := Try.underlying82
  a50 := Try.isAgg82
  z50 := Try.sizeOf82
  v50 := Try.zeroValue82
  t53 := Try.underlying85
  a53 := Try.isAgg85
  z53 := Try.sizeOf85
  v53 := Try.zeroValue85
  t55 := Try.underlying87
  a55 := Try.isAgg87
  z55 := Try.sizeOf87
  v55 := Try.zeroValue87
  t66 := Try.underlying88
  a66 := Try.isAgg88
  z66 := Try.sizeOf88
  v66 := Try.zeroValue88
  t70 := Try.underlying92
  a70 := Try.isAgg92
  z70 := Try.sizeOf92
  v70 := Try.zeroValue92
  t76 := Try.underlying94
  a76 := Try.isAgg94
  z76 := Try.sizeOf94
  v76 := Try.zeroValue94
  t77 := Try.underlying95
  a77 := Try.isAgg95
  z77 := Try.sizeOf95
  v77 := Try.zeroValue95
def cmpI_ren : Go.Shelf.Ren := ⟨fun | 5 => 29 | 7 => 33 | n => n, fun | 22 => 3 | 3 => 3 | 4 => 4 | n => n, fun n => n⟩
theorem cmpI : SlLaysC2.n5 Try.prog cmpI_ren where
  mixed := by kernel_rfl
  f5 := ⟨ "cmp.Compare[int]", by decide, Try.func29.trans (congrArg some (by kernel_rfl))⟩
  f7 := ⟨ "cmp.isNaN[int]", by decide, Try.func33.trans (congrArg some (by kernel_rfl))⟩
  t3 := Try.underlying3
  a3 := Try.isAgg3
  z3 := Try.sizeOf3
  v3 := Try.zeroValue3
  t4 := Try.underlying4
  a4 := Try.isAgg4
  z4 := Try.sizeOf4
  v4 := Try.zeroValue4
  t22 := Try.underlying3
  a22 := Try.isAgg3
  z22 := Try.sizeOf3
  v22 := Try.zeroValue3

instance : Inhabited En := ⟨⟨0, [], false⟩⟩
abbrev cmpE (x y : En) : Int := Lib.compareInt x.i y.i
theorem ltE (x y : En) : ltOf cmpE x y = decide (x.i < y.i) := by
  unfold ltOf cmpE Lib.compareInt
  by_cases h1 : x.i < y.i
  · simp [h1]
  · by_cases h2 : y.i < x.i <;> simp [h1, h2]
theorem swoE : Go.Sort.SWO (ltOf cmpE) where
  irrefl x := by rw [ltE]; simp
  trans x y z h1 h2 := by rw [ltE] at *; simp at *; omega
  ntrans x y z h1 h2 := by rw [ltE] at *; simp at *; omega

set_option maxHeartbeats 1000000 in
theorem closD (x y : En) (W : World) : Calls Try.prog 28 #[.agg #[.int .i64 x.i, .string (bst x.b), .bool x.d], .agg #[.int .i64 y.i, .string (bst y.b), .bool y.d]] W fun e w' => e = .returned (.int .i64 (cmpE x y)) ∧ ∃ q os', w' = Go.Sort.grow (W.drewN q) os' := by
  have hcon := fun W' => AnyG.cmp_Compare_int cmpI x.i y.i W'
  change ∀ W', Calls Try.prog 29 _ _ _ at hcon
  unfold cmpE
  generalize Lib.compareInt x.i y.i = r at hcon ⊢
  go_enter Try.func28, Try.ntmps28
  go_wp2_with (go_at_call 29; refine (hcon _).mono ?_; rintro e w' ⟨rfl, rfl⟩)
  go_ret
  exact ⟨rfl, 0, _, by rw [Go.Sort.alloc_eq_grow, Go.Sort.alloc_eq_grow, Go.Sort.grow_grow]; rfl⟩

theorem holds_row {w : World} {base m c : Nat} {A : Option Addr} {l : List En} (h : GRow eEn 32 w base A m c l) (hl : 0 < l.length) :
    ∃ g, A = some ⟨g, 0, none⟩ ∧ base ≤ g ∧ g < w.heap.size ∧ Go.Sort.HoldsK eEn.enc 3 w g 0 l.toArray := by
  have hat := h.at_
  obtain ⟨hm, _, hr⟩ := h
  rcases hr with ⟨_, h0⟩ | ⟨g, cap, cur, hv, hb, hg, _⟩
  · omega
  · injection hv with hA _ _
    subst hA
    refine ⟨g, rfl, hb, (Array.getElem?_eq_some_iff.1 hg).1, fun t ht => ?_⟩
    have hs : t < l.length * 3 := by simpa using ht
    rw [Go.Sort.get_flatK _ _ _ t (by simpa using hs)]
    obtain ⟨b', off', e, _, hc⟩ := hat hl
    injection e with e
    injection e with e1 e2
    subst e1 e2
    have hi : t / 3 < l.length := by omega
    have hx : l[t / 3]? = some l[t / 3] := List.getElem?_eq_getElem hi
    have hj : t % 3 < (eEn.enc l[t / 3]).length := by rw [eEn.len]; exact Nat.mod_lt _ (by decide)
    have hu : (eEn.enc l[t / 3])[t % 3]? = some ((eEn.enc l[t / 3])[t % 3]) := List.getElem?_eq_getElem hj
    have := hc _ _ _ _ hx hu
    refine ⟨?_, by simp [World.frozen?, hg]⟩
    have e3 : (0 : Nat) + t / 3 * eEn.k + t % 3 = 0 + t := by show 0 + t / 3 * 3 + t % 3 = 0 + t; omega
    rw [e3] at this
    rw [this]
    have e4 : l.toArray[t / 3]! = l[t / 3] := by rw [getElem!_pos l.toArray _ (by simpa using hi)]; simp
    rw [e4]
    show some ((eEn.enc l[t / 3])[t % 3]) = some ((eEn.enc l[t / 3])[t % 3]!)
    rw [getElem!_pos (eEn.enc l[t / 3]) (t % 3) hj]
theorem row_holds {w : World} {B g : Nat} {l : List En} (h : Go.Sort.HoldsK eEn.enc 3 w g 0 l.toArray) (hg : g < B) : EAt w B (some ⟨g, 0, none⟩) l := fun hl => ⟨g, 0, rfl, hg, fun i x j u hx hu => by
  obtain ⟨hi, ex⟩ := List.getElem?_eq_some_iff.1 hx
  obtain ⟨hj, eu⟩ := List.getElem?_eq_some_iff.1 hu
  have hj3 : j < 3 := by rw [eEn.len] at hj; exact hj
  have ht : i * 3 + j < l.length * 3 := by omega
  have := (h (i * 3 + j) (by simpa using ht)).1
  rw [Go.Sort.get_flatK _ _ _ _ (by simpa using ht), show (i * 3 + j) / 3 = i by omega, show (i * 3 + j) % 3 = j by omega] at this
  have e4 : l.toArray[i]! = x := by rw [getElem!_pos l.toArray _ (by simpa using hi)]; simpa using ex
  rw [e4, getElem!_pos (eEn.enc x) j hj, eu] at this
  have e3 : 0 + i * eEn.k + j = 0 + (i * 3 + j) := by show 0 + i * 3 + j = 0 + (i * 3 + j); omega
  rw [e3]
  exact this⟩
theorem sort_only (w : World) (g n : Nat) (dk : Array En) (os : Array Obj) : Only g w (sortWorldK eEn.enc 3 w g 0 n dk os) := by
  refine ⟨rfl, rfl, rfl, size_sortWorldK_c _ _ _ _ _ _ _ _, fun i hi hne => ?_⟩
  have hig : g ≠ i := fun e => hne (by rw [e])
  unfold sortWorldK Go.Sort.grow Go.Sort.putRowK Go.Sort.putRow Go.Sort.mapBlock Go.Sort.ahead
  simp only
  rw [Array.getElem?_append_left (by simpa using hi), Array.getElem?_modify, if_neg hig]

end Go.Proofs.Ytdhjjjagjkencaa
