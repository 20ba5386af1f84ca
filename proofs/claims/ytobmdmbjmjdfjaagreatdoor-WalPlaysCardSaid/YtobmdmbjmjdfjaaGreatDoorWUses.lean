/-
  Whether a segment is in use; the lowest one that is not.
-/
import Derived.Test.YtobmdmbjmjdfjaaGreatDoorWLog
namespace Go.Proofs.YtobmdmbjmjdfjaaGreatDoor
open Go Go.RowKit

theorem GAt.en {w : World} {B i : Nat} {A : Option Addr} {l : List En} (h : GAt eEn w B A l) (hi : i < l.length) : ∃ b off x, A = some ⟨b, off, none⟩ ∧ b < B ∧ l[i]? = some x ∧ w.cell? ⟨b, off + i * 2, none⟩ = some (.int .i64 (x.1 : Int)) ∧ w.cell? ⟨b, off + i * 2 + 1, none⟩ = some (.int .u64 (x.2 : Int)) := by
  obtain ⟨b, off, x, e, hb, hx, hc⟩ := h.get hi
  exact ⟨b, off, x, e, hb, hx, hc 0 _ rfl, hc 1 _ rfl⟩
set_option maxHeartbeats 4000000 in
set_option maxRecDepth 100000 in
theorem uses1_is {w : World} {g : Nat} {x y k : Int} (hg : Blk w g 3 #[.int .i64 k]) :
    Calls Tryz.prog 51 #[.agg #[.int .i64 x, .int .u64 y], .pointer (some ⟨g, 0, none⟩)] w fun e w' => e = .returned (.bool (x == k)) ∧ Below w.heap.size w w' := by
  have x0 := (hg.alloc (.cells #[.int .i64 x, .int .u64 y] 73)).cell 0
  have HB := hid (show Below w.heap.size w (w.alloc (.cells #[.int .i64 x, .int .u64 y] 73)) from (Below.refl _ _).alloc (Nat.le_refl _) _)
  have y0 := (Blk.new w 73 #[.int .i64 x, .int .u64 y]).cell 0
  clear hg
  go_enter Tryz.func51, Tryz.ntmps51
  go_upto_region 1 with fail
  generalize w.alloc (.cells #[.int .i64 x, .int .u64 y] 73) = w1 at *
  go_wp2_with fail
  go_ret
  exact ⟨rfl, HB.out⟩
def IxIs (P : Bool) (e : Ending) : Prop := match P with
  | true => ∃ j : Nat, e = .returned (.int .i64 (j : Int))
  | false => e = .returned (.int .i64 (-1))
set_option maxHeartbeats 4000000 in
set_option maxRecDepth 100000 in
theorem index_en {w : World} {A : Option Addr} {n c g B : Nat} {l : List En} {k : Nat} (hA : GAt eEn w B A l) (hn : n = l.length) (hB : B ≤ w.heap.size) (hll : l.length ≤ 1000) (hg : Blk w g 3 #[.int .i64 (k : Int)]) :
    Calls Tryz.prog 77 #[.slice A n c, .func (.func 51) #[] #[.pointer (some ⟨g, 0, none⟩)]] w fun e w' => IxIs (l.any fun x => x.1 == k) e ∧ Below w.heap.size w w' := by
  have HA := hid (hA.more hB)
  have HG := hid hg
  have HN := hid hn
  have hll : n ≤ 1000 := by omega
  clear hA hn hg hB
  go_enter Tryz.func77, Tryz.ntmps77
  go_wp2_with fail
  go_loopw [8] (fun j wr => ∃ i : Nat, i ≤ n ∧ j = .int .i64 (i : Int) ∧ Kept ((l.any fun x => x.1 == k) = ((l.drop i).any fun x => x.1 == k)) ∧ Kept (Below w.heap.size w wr)) (fun j _ => n - (intOf j).toNat)
  case atStart => exact ⟨0, Nat.zero_le _, rfl, hid rfl, hid (Below.refl _ _)⟩
  case round =>
    obtain ⟨i, hi, rfl, HK, HB⟩ := hrel
    by_cases hlt : i < n
    · obtain ⟨bb, off, x, rfl, hb, hx, d0, d1⟩ := (HA.out.below HB.out).en (i := i) (by rw [← HN.out]; exact hlt)
      have HU := hid (uses1_is (x := (x.1 : Int)) (y := (x.2 : Int)) (HG.out.below HB.out HG.out.lt))
      have hd : ((l.drop i).any fun x => x.1 == k) = (x.1 == k || (l.drop (i + 1)).any fun x => x.1 == k) := by
        obtain ⟨hk, hx⟩ := List.getElem?_eq_some_iff.1 hx
        rw [List.drop_eq_getElem_cons hk, hx, List.any_cons]
      clear hx
      by_cases hxi : x.1 = k
      · have HT := hid (show (l.any fun x => x.1 == k) = true by rw [HK.out, hd]; simp [hxi])
        rw [show ((x.1 : Int) == (k : Int)) = true by simp; omega] at HU
        clear hd HK hxi
        go_wp2_with fail
        go_fit HU.out
        rintro e w1 ⟨rfl, hb1⟩
        have HB1 := hid (HB.out.trans (hb1.mono HB.out.size))
        clear hb1
        go_wp2_with fail
        go_ret
        rw [HT.out]
        exact ⟨⟨i, rfl⟩, HB1.out⟩
      · have HK2 := hid (show (l.any fun x => x.1 == k) = ((l.drop (i + 1)).any fun x => x.1 == k) by rw [HK.out, hd]; simp [hxi])
        rw [show ((x.1 : Int) == (k : Int)) = false by simp; omega] at HU
        clear hd HK
        go_wp2_with fail
        go_fit HU.out
        rintro e w1 ⟨rfl, hb1⟩
        have HB1 := hid (HB.out.trans (hb1.mono HB.out.size))
        clear hb1
        go_wp2_with fail
        go_roundw
        case rel => exact ⟨i + 1, by omega, by go_num, HK2, HB1⟩
        case measure => simp [intOf]; omega
    · have HF := hid (show (l.any fun x => x.1 == k) = false by rw [HK.out, show i = n by omega, HN.out, List.drop_length]; rfl)
      clear HK
      go_wp2_with fail
      go_ret
      rw [HF.out]
      exact ⟨rfl, HB.out⟩
set_option maxHeartbeats 4000000 in
set_option maxRecDepth 100000 in
theorem contains_en {w : World} {A : Option Addr} {n c g B : Nat} {l : List En} {k : Nat} (hA : GAt eEn w B A l) (hn : n = l.length) (hB : B ≤ w.heap.size) (hll : l.length ≤ 1000) (hg : Blk w g 3 #[.int .i64 (k : Int)]) :
    Calls Tryz.prog 50 #[.slice A n c, .func (.func 51) #[] #[.pointer (some ⟨g, 0, none⟩)]] w fun e w' => e = .returned (.bool (l.any fun x => x.1 == k)) ∧ Below w.heap.size w w' := by
  have HI := hid (index_en (c := c) hA hn hB hll hg)
  clear hA hn hB hg
  generalize (l.any fun x => x.1 == k) = F at *
  go_enter Tryz.func50, Tryz.ntmps50
  cases F with
  | true =>
    go_wp2_with fail
    go_fit HI.out
    rintro e w1 ⟨⟨j, rfl⟩, hb1⟩
    have HB1 := hid hb1
    clear hb1 HI
    have hj : (j : Int) ≥ 0 := by omega
    go_wp2_with fail
    go_ret
    exact ⟨rfl, HB1.out⟩
  | false =>
    go_wp2_with fail
    go_fit HI.out
    rintro e w1 ⟨he, hb1⟩
    obtain rfl : e = .returned (.int .i64 (-1)) := he
    have HB1 := hid hb1
    clear hb1 HI
    go_wp2_with fail
    go_ret
    exact ⟨rfl, HB1.out⟩

theorem any_en (l : List Sg) (i : Nat) : ((l.map (·.en)).any fun x => x.1 == i) = usedBy l i := by
  unfold usedBy
  rw [List.any_map]
  rfl
set_option maxHeartbeats 4000000 in
set_option maxRecDepth 100000 in
theorem uses_is {w : World} {b d c cc : Nat} {A C : Option Addr} {N : Nat → Prop} {l : Wl} (h : LIn w b d A c C cc N l) (i : Nat) :
    Calls Tryz.prog 26 #[.pointer (some ⟨b, 0, none⟩), .int .i64 (i : Int)] w fun e w' => e = .returned (.bool (usedBy l.live i)) ∧ Below w.heap.size w w' := by
  have HB := hid (show Below w.heap.size w (w.alloc (.cells #[.int .i64 (i : Int)] 3)) from (Below.refl _ _).alloc (Nat.le_refl _) _)
  have hx := h.blk.below HB.out h.blk.lt
  have x0 := hx.cell 0
  have x1 := hx.cell 1
  have x2 := hx.cell 2
  have x3 := hx.cell 3
  have x4 := hx.cell 4
  have x5 := hx.cell 5
  have x6 := hx.cell 6
  have x7 := hx.cell 7
  have x8 := hx.cell 8
  have x9 := hx.cell 9
  have HC := hid (contains_en (w := w.alloc (.cells #[.int .i64 (i : Int)] 3)) (g := w.heap.size) (c := c) (k := i) (B := w.heap.size) (h.used.at_.below HB.out) (by rw [List.length_map]) HB.out.size (by rw [List.length_map]; have := h.pl.live; omega) (Blk.new w _ _))
  rw [any_en] at HC
  clear h hx
  go_enter Tryz.func26, Tryz.ntmps26
  go_wp2_with fail
  go_fit HC.out
  rintro e w1 ⟨rfl, hb1⟩
  have HB1 := hid (HB.out.trans (hb1.mono HB.out.size))
  clear hb1
  go_wp2_with fail
  go_ret
  exact ⟨rfl, HB1.out⟩

theorem nextI_all {f : Nat → Bool} {n : Nat} (h : ∀ j, j < n → f j = false) : ∀ k, k ≤ n → nextI f n k = -1
  | 0, _ => rfl
  | k + 1, hk => by unfold nextI; rw [if_neg (by rw [h _ (by omega)]; decide)]; exact nextI_all h k (by omega)
theorem nextI_first {f : Nat → Bool} {n i : Nat} (hi : i < n) (hf : f i = true) (h : ∀ j, j < i → f j = false) : ∀ k, k ≤ n → n ≤ k + i → nextI f n k = (i : Int)
  | 0, _, h2 => by omega
  | k + 1, hk, h2 => by
    unfold nextI
    by_cases e : n - 1 - k = i
    · rw [e, if_pos hf]
    · rw [if_neg (by rw [h _ (by omega)]; decide)]
      exact nextI_first hi hf h k (by omega) (by omega)
def UnIs (i : Int) (e : Ending) : Prop := if 0 ≤ i then e = .returned (.tuple #[.int .i64 i, .bool true]) else e = .returned (.tuple #[.int .i64 0, .bool false])
theorem UnIs.yes (i : Nat) : UnIs (i : Int) (.returned (.tuple #[.int .i64 (i : Int), .bool true])) := by unfold UnIs; rw [if_pos (by omega)]
theorem UnIs.no : UnIs (-1) (.returned (.tuple #[.int .i64 0, .bool false])) := by unfold UnIs; rw [if_neg (by omega)]
set_option maxHeartbeats 4000000 in
set_option maxRecDepth 100000 in
theorem unused_is {w : World} {b d c cc : Nat} {A C : Option Addr} {N : Nat → Prop} {l : Wl} (h : LIn w b d A c C cc N l) :
    Calls Tryz.prog 71 #[.pointer (some ⟨b, 0, none⟩)] w fun e w' => UnIs l.fresh e ∧ Below w.heap.size w w' := by
  have HH := hid h
  have x0 := h.blk.cell 0
  have x1 := h.blk.cell 1
  have x2 := h.blk.cell 2
  have x3 := h.blk.cell 3
  have x4 := h.blk.cell 4
  have x5 := h.blk.cell 5
  have x6 := h.blk.cell 6
  have x7 := h.blk.cell 7
  have x8 := h.blk.cell 8
  have x9 := h.blk.cell 9
  obtain ⟨n, hn⟩ : ∃ n, n = l.n := ⟨_, rfl⟩
  have HN := hid hn
  have hn64 : n ≤ 64 := by rw [hn]; exact h.pl.n
  rw [← hn] at x2
  have HF := hid (show l.fresh = nextI (fun i => !usedBy l.live i) n n by rw [hn]; rfl)
  clear h hn
  go_enter Tryz.func71, Tryz.ntmps71
  go_wp2_with fail
  go_loopw [9] (fun j wr => ∃ i : Nat, i ≤ n ∧ j = .int .i64 (i : Int) ∧ Kept (∀ k, k < i → usedBy l.live k = true) ∧ Kept (Below w.heap.size w wr)) (fun j _ => n - (intOf j).toNat)
  case atStart => exact ⟨0, Nat.zero_le _, rfl, hid (fun _ h => absurd h (Nat.not_lt_zero _)), hid (Below.refl _ _)⟩
  case round =>
    obtain ⟨i, hi, rfl, HK, HB⟩ := hrel
    by_cases hlt : i < n
    · have HU := hid (uses_is (HH.out.below HB.out) i)
      cases hu : usedBy l.live i with
      | true =>
        rw [hu] at HU
        have HK2 := hid (show ∀ k, k < i + 1 → usedBy l.live k = true from fun k hk => by
          by_cases e : k = i
          · rw [e]; exact hu
          · exact HK.out k (by omega))
        clear hu
        go_wp2_with fail
        go_fit HU.out
        rintro e w1 ⟨rfl, hb1⟩
        have HB1 := hid (HB.out.trans (hb1.mono HB.out.size))
        clear hb1
        go_wp2_with fail
        go_roundw
        case rel => exact ⟨i + 1, by omega, by go_num, HK2, HB1⟩
        case measure => simp [intOf]; omega
      | false =>
        rw [hu] at HU
        have HR := hid (show l.fresh = (i : Int) from HF.out.trans (nextI_first hlt (by rw [hu]; rfl) (fun j hj => by rw [HK.out j hj]; rfl) n (Nat.le_refl _) (by omega)))
        clear hu
        go_wp2_with fail
        go_fit HU.out
        rintro e w1 ⟨rfl, hb1⟩
        have HB1 := hid (HB.out.trans (hb1.mono HB.out.size))
        clear hb1
        go_wp2_with fail
        go_ret2
        rw [HR.out]
        exact ⟨UnIs.yes i, HB1.out⟩
    · have HR := hid (show l.fresh = -1 from HF.out.trans (nextI_all (fun j hj => by rw [HK.out j (by omega)]; rfl) n (Nat.le_refl _)))
      go_wp2_with fail
      go_ret2
      rw [HR.out]
      exact ⟨UnIs.no, HB.out⟩

end Go.Proofs.YtobmdmbjmjdfjaaGreatDoor
