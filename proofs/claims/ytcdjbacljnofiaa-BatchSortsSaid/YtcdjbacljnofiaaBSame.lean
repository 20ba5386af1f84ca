/-
  The landed Same and Find, by their contracts.
-/
import Derived.Test.YtcdjbacljnofiaaRefSame
import Derived.Test.YtcdjbacljnofiaaJBytes
namespace Go.Proofs.Ytcdjbacljnofiaa
open Go Go.RowKit

set_option maxHeartbeats 2000000 in
theorem same_any {c r s c' r' s' : Int} {A A' : Option Addr} {n n' cap cap' B : Nat} {ws ws' : List Wt} {w : World} (hA : WAt w B A ws) (hA' : WAt w B A' ws') (hn : n = ws.length) (hn' : n' = ws'.length) (hB : B ≤ w.heap.size) (hl : n ≤ 70368744177664) (hl' : n' ≤ 70368744177664) :
    Calls Try.prog 23 #[.agg #[.int .u64 c, .int .u64 r, .int .u64 s, .slice A n cap], .agg #[.int .u64 c', .int .u64 r', .int .u64 s', .slice A' n' cap']] w fun e w' =>
      e = .returned (.bool (decide (c = c' ∧ r = r' ∧ s = s' ∧ ws = ws'))) ∧ Below w.heap.size w w' := by
  have hb1 : Below w.heap.size w ((w.alloc (.cells #[.int .u64 c, .int .u64 r, .int .u64 s, .slice A n cap] 25)).alloc (.cells #[.int .u64 c', .int .u64 r', .int .u64 s', .slice A' n' cap'] 25)) :=
    ((Below.refl _ _).alloc (Nat.le_refl _) _).alloc (by simp) _
  obtain ⟨b3, b3'⟩ := box_two w 25 (.int .u64 c) (.int .u64 r) (.int .u64 s) (.slice A n cap) (.int .u64 c') (.int .u64 r') (.int .u64 s') (.slice A' n' cap')
  have HB3 := hid b3
  have HB3' := hid b3'
  have HB1 := hid hb1
  have HA := hid (hA.below (hb1.mono hB))
  have HA' := hid (hA'.below (hb1.mono hB))
  have HN := hid hn
  have HN' := hid hn'
  clear hA hA' hn hn' b3 b3' hb1
  obtain ⟨D, hD⟩ : ∃ D, D = decide (c = c' ∧ r = r' ∧ s = s' ∧ ws = ws') := ⟨_, rfl⟩
  rw [← hD]
  have HD := hid hD
  clear hD
  by_cases e1 : c = c'
  case neg =>
    obtain rfl : D = false := by rw [HD.out]; simp [e1]
    obtain ⟨f1, f2⟩ := int_ne e1
    go_enter Try.func23, Try.ntmps23
    go_wp2_with fail
    go_ret
    exact ⟨rfl, HB1.out⟩
  subst e1
  by_cases e2 : r = r'
  case neg =>
    obtain rfl : D = false := by rw [HD.out]; simp [e2]
    obtain ⟨f1, f2⟩ := int_ne e2
    go_enter Try.func23, Try.ntmps23
    go_wp2_with fail
    go_ret
    exact ⟨rfl, HB1.out⟩
  subst e2
  by_cases e3 : s = s'
  case neg =>
    obtain rfl : D = false := by rw [HD.out]; simp [e3]
    obtain ⟨f1, f2⟩ := int_ne e3
    go_enter Try.func23, Try.ntmps23
    go_wp2_with fail
    go_ret
    exact ⟨rfl, HB1.out⟩
  subst e3
  by_cases e4 : n = n'
  case neg =>
    obtain rfl : D = false := by rw [HD.out]; simp; intro h; apply e4; rw [HN.out, HN'.out, h]
    have f1 : ((n : Int) != (n' : Int)) = true := by simp; omega
    go_enter Try.func23, Try.ntmps23
    go_wp2_with fail
    go_ret
    exact ⟨rfl, HB1.out⟩
  subst e4
  have HD2 := hid (show D = decide (ws.drop 0 = ws'.drop 0) by rw [HD.out]; simp)
  go_enter Try.func23, Try.ntmps23
  go_wp2_with fail
  generalize ((w.alloc (.cells #[.int .u64 c, .int .u64 r, .int .u64 s, .slice A n cap] 25)).alloc (.cells #[.int .u64 c, .int .u64 r, .int .u64 s, .slice A' n cap'] 25)) = w1 at *
  go_loopw [37] (fun i wr => ∃ k m : Nat, k ≤ n ∧ i = .int .i64 (k : Int) ∧ D = decide (ws.drop k = ws'.drop k) ∧ wr = w1.drewN m) (fun i _ => n - (intOf i).toNat)
  case atStart => exact ⟨0, 0, Nat.zero_le _, rfl, HD2.out, rfl⟩
  case round =>
    obtain ⟨k, m, hk, rfl, hd, rfl⟩ := hrel
    have HDK := hid hd
    clear hd
    have b3 := HB3.out
    have b3' := HB3'.out
    by_cases hlt : k < n
    · obtain ⟨b, off, x, rfl, hb, hx, d0, d1, d2⟩ := HA.out.get (k := k) (by rw [← HN.out]; exact hlt)
      obtain ⟨b', off', y, rfl, hb', hy, p0, p1, p2⟩ := HA'.out.get (k := k) (by rw [← HN'.out]; exact hlt)
      have HX := hid (HDK.out.trans (drop_eq hx hy))
      have hne := neq_w x y
      clear hx hy
      by_cases hxy : x = y
      · rw [decide_eq_true hxy] at HX hne
        have HX2 := hid (show D = decide (ws.drop (k + 1) = ws'.drop (k + 1)) from HX.out)
        clear hxy
        go_wp2_with fail
        go_quiet (fail)
        go_wp2_with fail
        go_roundw
        case rel => exact ⟨k + 1, _, by omega, by go_num, HX2.out, rfl⟩
        case measure => simp [intOf]; omega
      · rw [decide_eq_false hxy] at HX hne
        obtain rfl : D = false := HX.out
        clear hxy
        go_wp2_with fail
        go_quiet (fail)
        go_wp2_with fail
        go_ret
        exact ⟨rfl, below_drewN (below_drewN HB1.out _) _⟩
    · obtain rfl : D = true := by rw [HDK.out, List.drop_of_length_le (by rw [← HN.out]; omega), List.drop_of_length_le (by rw [← HN'.out]; omega)]; rfl
      go_wp2_with fail
      go_ret
      exact ⟨rfl, below_drewN HB1.out _⟩


/-- the first write of a key -/
def findW (ws : List Wt) (k : List UInt8) : Option Wt := ws.find? fun x => x.k == k
def findV : Option Wt → Value
  | some x => .tuple #[.agg #[.string (bst x.k), .string (bst x.v), .bool x.g], .bool true]
  | none => .tuple #[.agg #[.string (bst []), .string (bst []), .bool false], .bool false]
theorem find_dropl {ws : List Wt} {k : Nat} {x : Wt} (f : List UInt8) (h : ws[k]? = some x) : findW (ws.drop k) f = if x.k = f then some x else findW (ws.drop (k + 1)) f := by
  obtain ⟨hk, hx⟩ := List.getElem?_eq_some_iff.1 h
  unfold findW
  rw [List.drop_eq_getElem_cons hk, hx, List.find?_cons]
  by_cases e : x.k = f
  · rw [if_pos e, show (x.k == f) = true by simpa using e]
  · rw [if_neg e, show (x.k == f) = false by simpa using e]

/-- what stands in memory while a batch is gone through: its box, a zero write of the call's own -/
structure FSt (w wr : World) (c r s : Int) (A : Option Addr) (n cap : Nat) : Prop where
  b1 : Blk wr w.heap.size 25 #[.int .u64 c, .int .u64 r, .int .u64 s, .slice A n cap]
  b2 : Blk wr (w.heap.size + 1) 43 #[.string ⟨#[]⟩, .string ⟨#[]⟩, .bool false]
  below : Below w.heap.size w wr
theorem FSt.res {w wr : World} {c r s : Int} {A : Option Addr} {n cap : Nat} (h : FSt w wr c r s A n cap) (u0 u1 u2 : Value) :
    Blk (((wr.setCell ⟨w.heap.size + 1, 0, none⟩ u0).setCell ⟨w.heap.size + 1, 1, none⟩ u1).setCell ⟨w.heap.size + 1, 2, none⟩ u2) (w.heap.size + 1) 43 #[u0, u1, u2] ∧
      Below w.heap.size w (((wr.setCell ⟨w.heap.size + 1, 0, none⟩ u0).setCell ⟨w.heap.size + 1, 1, none⟩ u1).setCell ⟨w.heap.size + 1, 2, none⟩ u2) :=
  ⟨((h.b2.set 0 u0).set 1 u1).set 2 u2, ((h.below.setCell (by simp) _).setCell (by simp) _).setCell (by simp) _⟩

set_option maxHeartbeats 2000000 in
set_option maxRecDepth 100000 in
theorem find_any {c r s : Int} {A : Option Addr} {n cap B : Nat} {ws : List Wt} {w : World} (K : List UInt8) (hA : WAt w B A ws) (hn : n = ws.length) (hB : B ≤ w.heap.size) (hl : n ≤ 70368744177664) :
    Calls Try.prog 24 #[.agg #[.int .u64 c, .int .u64 r, .int .u64 s, .slice A n cap], .string (bst K)] w fun e w' => e = .returned (findV (findW ws K)) ∧ Below w.heap.size w w' := by
  have s1 : (w.alloc (.cells #[.int .u64 c, .int .u64 r, .int .u64 s, .slice A n cap] 25)).heap.size = w.heap.size + 1 := by simp
  have n1 := Blk.new (w.alloc (.cells #[.int .u64 c, .int .u64 r, .int .u64 s, .slice A n cap] 25)) 43 #[.string ⟨#[]⟩, .string ⟨#[]⟩, .bool false]
  rw [s1] at n1
  have hb1 : Below w.heap.size w ((w.alloc (.cells #[.int .u64 c, .int .u64 r, .int .u64 s, .slice A n cap] 25)).alloc (.cells #[.string ⟨#[]⟩, .string ⟨#[]⟩, .bool false] 43)) := ((Below.refl _ _).alloc (Nat.le_refl _) _).alloc (by simp) _
  have HF := hid (show FSt w ((w.alloc (.cells #[.int .u64 c, .int .u64 r, .int .u64 s, .slice A n cap] 25)).alloc (.cells #[.string ⟨#[]⟩, .string ⟨#[]⟩, .bool false] 43)) c r s A n cap from ⟨(Blk.new w _ _).alloc _, n1, hb1⟩)
  have HA := hid (hA.below (hb1.mono hB))
  have HN := hid hn
  obtain ⟨KB, hKB⟩ : ∃ KB, KB = bst K := ⟨_, rfl⟩
  have tK := bst_toList K
  rw [← hKB] at tK ⊢
  have HD := hid (show findW ws K = findW (ws.drop 0) K from rfl)
  have e0 : bst [] = (⟨#[]⟩ : ByteArray) := rfl
  have HE0 := hid e0
  clear hn hb1 hA s1 n1 e0 hKB
  go_enter Try.func24, Try.ntmps24
  go_wp2_with fail
  generalize ((w.alloc (.cells #[.int .u64 c, .int .u64 r, .int .u64 s, .slice A n cap] 25)).alloc (.cells #[.string ⟨#[]⟩, .string ⟨#[]⟩, .bool false] 43)) = w1 at *
  go_loopw [10] (fun i wr => ∃ k : Nat, k ≤ n ∧ i = .int .i64 (k : Int) ∧ findW ws K = findW (ws.drop k) K ∧ wr = w1) (fun i _ => n - (intOf i).toNat)
  case atStart => exact ⟨0, Nat.zero_le _, rfl, HD.out, rfl⟩
  case round =>
    obtain ⟨k, hk, rfl, hd, rfl⟩ := hrel
    have HDK := hid hd
    clear hd
    obtain ⟨b0, b1, b2, b3, f0, f1, f2, f3⟩ := four HF.out.b1
    obtain ⟨x0, x1, x2, g0, g1, g2⟩ := three HF.out.b2
    by_cases hlt : k < n
    · obtain ⟨b, off, x, rfl, hb, hx, d0, d1, d2⟩ := HA.out.get (k := k) (by rw [← HN.out]; exact hlt)
      have HX := hid (HDK.out.trans (find_dropl K hx))
      clear hx
      have tx := bst_toList x.k
      by_cases hxk : x.k = K
      · have HX2 := hid (show findW ws K = some x by rw [HX.out, if_pos hxk])
        have hq : (x.k == K) = true := by simpa using hxk
        clear hxk
        obtain ⟨XK, hXK⟩ : ∃ XK, XK = bst x.k := ⟨_, rfl⟩
        rw [← hXK] at tx d0
        have HXK := hid hXK
        clear hXK
        go_wp2_with fail
        obtain ⟨r1, r2⟩ := HF.out.res (.string XK) (.string (bst x.v)) (.bool x.g)
        generalize (((wr.setCell ⟨w.heap.size + 1, 0, none⟩ (.string XK)).setCell ⟨w.heap.size + 1, 1, none⟩ (.string (bst x.v))).setCell ⟨w.heap.size + 1, 2, none⟩ (.bool x.g)) = w9 at *
        clear x0 x1 x2 g0 g1 g2 b0 b1 b2 b3 f0 f1 f2 f3
        obtain ⟨x0, x1, x2, _, _, _⟩ := three r1
        exact bodyPost_ret (v := .tuple #[.agg #[.string XK, .string (bst x.v), .bool x.g], .bool true]) (by simp [results, Try.results24, go_sem, x0, x1, x2]) rfl ⟨by rw [HX2.out, HXK.out]; rfl, r2⟩
      · have HX2 := hid (show findW ws K = findW (ws.drop (k + 1)) K by rw [HX.out, if_neg hxk])
        have hq : (x.k == K) = false := by simpa using hxk
        clear hxk
        obtain ⟨XK, hXK⟩ : ∃ XK, XK = bst x.k := ⟨_, rfl⟩
        rw [← hXK] at tx d0
        clear hXK
        go_wp2_with fail
        go_roundw
        case rel => exact ⟨k + 1, by omega, by go_num, HX2.out, by first | rfl | trivial⟩
        case measure => simp [intOf]; omega
    · have HX2 := hid (show findW ws K = none by rw [HDK.out, List.drop_of_length_le (by rw [← HN.out]; omega)]; rfl)
      go_wp2_with fail
      obtain ⟨r1, r2⟩ := HF.out.res (.string ⟨#[]⟩) (.string ⟨#[]⟩) (.bool false)
      generalize (((wr.setCell ⟨w.heap.size + 1, 0, none⟩ (.string ⟨#[]⟩)).setCell ⟨w.heap.size + 1, 1, none⟩ (.string ⟨#[]⟩)).setCell ⟨w.heap.size + 1, 2, none⟩ (.bool false)) = w9 at *
      clear x0 x1 x2 g0 g1 g2 b0 b1 b2 b3 f0 f1 f2 f3
      obtain ⟨x0, x1, x2, _, _, _⟩ := three r1
      exact bodyPost_ret (v := .tuple #[.agg #[.string ⟨#[]⟩, .string ⟨#[]⟩, .bool false], .bool false]) (by simp [results, Try.results24, go_sem, x0, x1, x2]) rfl ⟨by rw [HX2.out]; rfl, r2⟩

end Go.Proofs.Ytcdjbacljnofiaa
