/-
  The library's BinarySearchFunc at writes in order; the landed Meets.
-/
import Derived.Test.YtcdjbacljnofiaaBSorted
import Derived.Test.YtcdjbacljnofiaaRefSame
import Derived.Deep.Cut
namespace Go.Proofs.Ytcdjbacljnofiaa
open Go Go.RowKit Go.Sort

/-- how far a search by halves has come -/
structure Seek (ws : List Wt) (K : List UInt8) (i j : Nat) : Prop where
  lo : ∀ t x, t < i → ws[t]? = some x → leK K x.k = false
  hi : ∀ t x, j ≤ t → ws[t]? = some x → leK K x.k = true
theorem srt_le {ws : List Wt} (hs : Srt ws) {a b : Nat} {x y : Wt} (hab : a ≤ b) (hx : ws[a]? = some x) (hy : ws[b]? = some y) : leK x.k y.k = true := by
  by_cases e : a = b
  · subst e
    rw [hx] at hy
    injection hy with hy
    rw [hy]; exact leK_refl _
  · obtain ⟨h1, e1⟩ := List.getElem?_eq_some_iff.1 hx
    obtain ⟨h2, e2⟩ := List.getElem?_eq_some_iff.1 hy
    have := List.pairwise_iff_getElem.1 hs a b h1 h2 (by omega)
    rwa [e1, e2] at this
theorem cmp_lt (x K : List UInt8) : cmpL x K < 0 ↔ leK K x = false := cfW_lt ⟨x, [], false⟩ ⟨K, [], false⟩
theorem Seek.up {ws : List Wt} {K : List UInt8} {i j h : Nat} {x : Wt} (S : Seek ws K i j) (hs : Srt ws) (hx : ws[h]? = some x) (hc : cmpL x.k K < 0) : Seek ws K (h + 1) j :=
  ⟨fun t y ht hy => (by
    cases hk : leK K y.k with
    | false => rfl
    | true =>
      have h2 := leK_trans hk (srt_le hs (show t ≤ h by omega) hy hx)
      rw [(cmp_lt _ _).1 hc] at h2
      cases h2), S.hi⟩
theorem Seek.dn {ws : List Wt} {K : List UInt8} {i j h : Nat} {x : Wt} (S : Seek ws K i j) (hs : Srt ws) (hx : ws[h]? = some x) (hc : ¬ cmpL x.k K < 0) : Seek ws K i h :=
  ⟨S.lo, fun t y ht hy => by
    have hk : leK K x.k = true := by
      cases h : leK K x.k with
      | true => rfl
      | false => exact absurd ((cmp_lt _ _).2 h) hc
    exact leK_trans hk (srt_le hs ht hx hy)⟩
theorem Seek.none {ws : List Wt} {K : List UInt8} {i j : Nat} (S : Seek ws K i j) (hj : j ≤ i) (hs : Srt ws) (hn : ∀ x, ws[i]? = some x → cmpL x.k K ≠ 0) : (ws.any fun x => x.k == K) = false := by
  rw [List.any_eq_false]
  intro y hy he
  obtain ⟨t, ht⟩ := List.mem_iff_getElem?.1 hy
  have hk : y.k = K := by simpa using he
  by_cases hti : t < i
  · have := S.lo t y hti ht
    rw [hk, leK_refl] at this
    cases this
  · have hit : i < ws.length := by have := (List.getElem?_eq_some_iff.1 ht).1; omega
    have hx : ws[i]? = some ws[i] := List.getElem?_eq_getElem hit
    have h1 := srt_le hs (show i ≤ t by omega) hx ht
    rw [hk] at h1
    have h2 := S.hi i _ hj hx
    exact hn _ hx ((cmpL_zero _ _).2 (leK_anti h1 h2))
theorem Seek.some {ws : List Wt} {K : List UInt8} {i : Nat} {x : Wt} (hx : ws[i]? = some x) (h : cmpL x.k K = 0) : (ws.any fun x => x.k == K) = true := by
  rw [List.any_eq_true]
  exact ⟨x, List.mem_iff_getElem?.2 ⟨i, hx⟩, by simpa using (cmpL_zero _ _).1 h⟩

set_option maxHeartbeats 4000000 in
set_option maxRecDepth 100000 in
theorem bsearch_any {A : Option Addr} {n cap B : Nat} {ws : List Wt} {w : World} (K : List UInt8) (hA : WAt w B A ws) (hn : n = ws.length) (hB : B ≤ w.heap.size) (hl : n ≤ 1099511627775) (hs : Srt ws) :
    Calls Try.prog 46 #[.slice A n cap, .string (bst K), .func (.func 45) #[] #[]] w fun e w' =>
      (∃ q, e = .returned (.tuple #[.int .i64 q, .bool (ws.any fun x => x.k == K)])) ∧ Below w.heap.size w w' := by
  have HA := hid hA
  have HN := hid hn
  have HB := hid hB
  have HS := hid hs
  obtain ⟨D, hD⟩ : ∃ D, D = ws.any fun x => x.k == K := ⟨_, rfl⟩
  rw [← hD]
  have HD := hid hD
  have HT := hid (fun (x : Wt) (W : World) => toKey_any x K W)
  obtain ⟨KB, hKB⟩ : ∃ KB, KB = bst K := ⟨_, rfl⟩
  rw [← hKB] at HT ⊢
  clear hA hn hB hs hD hKB
  go_enter Try.func46, Try.ntmps46
  go_wp2_with fail
  go_loopg [9, 10] n (fun kx si sj wr => ∃ i j : Nat, si = .int .i64 (i : Int) ∧ sj = .int .i64 (j : Int) ∧ i ≤ j ∧ j ≤ n ∧ j - i ≤ kx ∧ Kept (Seek ws K i j) ∧ Kept (Below w.heap.size w wr))
  case atStart => exact ⟨0, n, rfl, rfl, Nat.zero_le _, Nat.le_refl _, Nat.le_refl _, hid ⟨fun t x ht => absurd ht (Nat.not_lt_zero _), fun t x ht hx => absurd (List.getElem?_eq_some_iff.1 hx).1 (by have := HN.out; omega)⟩, hid (Below.refl _ _)⟩
  case round =>
    obtain ⟨i, j, rfl, rfl, hij, hjn, hkx, SK, BW⟩ := hrel
    by_cases hlt : i < j
    · have hltz : (i : Int) < (j : Int) := by omega
      obtain ⟨h, hh⟩ : ∃ h, h = (i + j) / 2 := ⟨_, rfl⟩
      have HHZ := hid (show ((i : Int) + (j : Int)) / 2 = (h : Int) by omega)
      have hhi : i ≤ h := by omega
      have hhj : h < j := by omega
      clear hh
      obtain ⟨b, off, x, rfl, hb, hx, d0, d1, d2⟩ := (HA.out.step HB.out BW.out).get (k := h) (by rw [← HN.out]; omega)
      have HX := hid hx
      have HTX := hid (HT.out x wr)
      clear hx
      go_upto_region 5 with fail
      rw [HHZ.out]
      by_cases hc : cmpL x.k K < 0
      · go_wp2_with fail
        go_fit HTX.out
        rintro e w2 ⟨rfl, hb2⟩
        have BW2 := hid (below_step BW.out hb2)
        clear hb2
        go_wp2_with fail
        go_roundg (j - (h + 1))
        case measure => omega
        case rel => exact ⟨h + 1, j, by go_num, rfl, by omega, hjn, Nat.le_refl _, hid (SK.out.up HS.out HX.out hc), BW2⟩
      · go_wp2_with fail
        go_fit HTX.out
        rintro e w2 ⟨rfl, hb2⟩
        have BW2 := hid (below_step BW.out hb2)
        clear hb2
        go_wp2_with fail
        go_roundg (h - i)
        case measure => omega
        case rel => exact ⟨i, h, rfl, by go_num, by omega, by omega, Nat.le_refl _, hid (SK.out.dn HS.out HX.out (by omega)), BW2⟩
    · obtain rfl : i = j := by omega
      by_cases hin : i < n
      · have hinz : (i : Int) < (n : Int) := by omega
        obtain ⟨b, off, x, rfl, hb, hx, d0, d1, d2⟩ := (HA.out.step HB.out BW.out).get (k := i) (by rw [← HN.out]; omega)
        have HX := hid hx
        have HTX := hid (HT.out x wr)
        clear hx
        by_cases hc : cmpL x.k K = 0
        · obtain rfl : D = true := by rw [HD.out]; exact Seek.some HX.out hc
          go_wp2_with fail
          go_fit HTX.out
          rintro e w2 ⟨rfl, hb2⟩
          have BW2 := hid (below_step BW.out hb2)
          clear hb2
          go_wp2_with fail
          go_ret2
          exact ⟨⟨_, rfl⟩, BW2.out⟩
        · obtain rfl : D = false := by
            rw [HD.out]
            exact SK.out.none (Nat.le_refl _) HS.out fun y hy => by
              have hx := HX.out
              rw [hy] at hx
              injection hx with hx
              rw [hx]; exact hc
          have hcb : (cmpL x.k K == 0) = false := by simpa using hc
          go_wp2_with fail
          go_fit HTX.out
          rintro e w2 ⟨rfl, hb2⟩
          have BW2 := hid (below_step BW.out hb2)
          clear hb2
          go_wp2_with fail
          go_ret2
          exact ⟨⟨_, rfl⟩, BW2.out⟩
      · have hinz : ¬ (i : Int) < (n : Int) := by omega
        obtain rfl : D = false := by
          rw [HD.out]
          exact SK.out.none (Nat.le_refl _) HS.out fun y hy => absurd (List.getElem?_eq_some_iff.1 hy).1 (by have := HN.out; omega)
        go_wp2_with fail
        go_ret2
        exact ⟨⟨_, rfl⟩, BW.out⟩

theorem any_sortW (ws : List Wt) (K : List UInt8) : ((sortW ws).any fun x => x.k == K) = ws.any fun y => K == y.k := by
  rw [Bool.eq_iff_iff, List.any_eq_true, List.any_eq_true]
  constructor
  · rintro ⟨x, hx, he⟩
    exact ⟨x, mem_sortW hx, by rw [eq_of_beq he]; simp⟩
  · rintro ⟨x, hx, he⟩
    exact ⟨x, (sortW_stb ws).symm.mem hx, by rw [← eq_of_beq he]; simp⟩

set_option maxRecDepth 100000 in
/-- a batch's writes, of a batch by value -/
theorem field_writes (a b c d : Value) (W : World) : (Instr.field 25 (.agg #[a, b, c, d]) 3).run Try.prog W = .ok d W := by kernel_rfl

set_option maxHeartbeats 4000000 in
set_option maxRecDepth 100000 in
theorem meets_any {c r s c' r' s' : Int} {A A' : Option Addr} {n n' cap cap' B : Nat} {ws ws' : List Wt} {w : World} (hA : WAt w B A ws) (hA' : WAt w B A' ws') (hn : n = ws.length) (hn' : n' = ws'.length) (hB : B ≤ w.heap.size) (hl : n ≤ 70368744177664) (hl' : n' ≤ 1099511627775) :
    Calls Try.prog 21 #[.agg #[.int .u64 c, .int .u64 r, .int .u64 s, .slice A n cap], .agg #[.int .u64 c', .int .u64 r', .int .u64 s', .slice A' n' cap']] w fun e w' =>
      e = .returned (.bool (meets ws ws')) ∧ Below w.heap.size w w' := by
  have hb1 : Below w.heap.size w ((w.alloc (.cells #[.int .u64 c, .int .u64 r, .int .u64 s, .slice A n cap] 25)).alloc (.cells #[.int .u64 c', .int .u64 r', .int .u64 s', .slice A' n' cap'] 25)) :=
    ((Below.refl _ _).alloc (Nat.le_refl _) _).alloc (by simp) _
  obtain ⟨b3, b3'⟩ := box_two w 25 (.int .u64 c) (.int .u64 r) (.int .u64 s) (.slice A n cap) (.int .u64 c') (.int .u64 r') (.int .u64 s') (.slice A' n' cap')
  have HSZ := hid (show ((w.alloc (.cells #[.int .u64 c, .int .u64 r, .int .u64 s, .slice A n cap] 25)).alloc (.cells #[.int .u64 c', .int .u64 r', .int .u64 s', .slice A' n' cap'] 25)).heap.size = w.heap.size + 2 by simp)
  have HB3 := hid b3
  have HB1 := hid hb1
  have HA := hid (hA.below (hb1.mono hB))
  have HA' := hid (hA'.below (hb1.mono hB))
  have HBX := hid hB
  have HN := hid hn
  have HN' := hid hn'
  have HL := hid hl'
  clear hA hA' hn hn' b3 b3' hb1 hB hl'
  obtain ⟨D, hD⟩ : ∃ D, D = meets ws ws' := ⟨_, rfl⟩
  rw [← hD]
  have HD := hid (show D = (ws.drop 0).any (fun x => ws'.any fun y => x.k == y.k) from hD)
  clear hD
  go_enter Try.func21, Try.ntmps21
  go_wp2_with fail
  generalize ((w.alloc (.cells #[.int .u64 c, .int .u64 r, .int .u64 s, .slice A n cap] 25)).alloc (.cells #[.int .u64 c', .int .u64 r', .int .u64 s', .slice A' n' cap'] 25)) = w1 at *
  go_fit (sorted_any HA'.out HN'.out (by rw [HSZ.out]; have := HBX.out; omega) HL.out)
  rintro e w2 ⟨A2, m2, c2, rfl, hr2, hb2⟩
  have HR2 := hid hr2
  have HM2 := hid (show m2 ≤ 1099511627775 by rw [hr2.1, sortW_length, ← HN'.out]; exact HL.out)
  have HB2 := hid hb2
  have HE2 := hid (below_step HB1.out hb2)
  have HA2 := hid (hr2.at_)
  have HX2 := hid (HA.out.below (hb2.mono (by rw [HSZ.out]; have := HBX.out; omega)))
  have HC3 := hid ((hb2.cell (p := ⟨w.heap.size, 3, none⟩) (by show w.heap.size < w1.heap.size; rw [HSZ.out]; omega)).trans HB3.out)
  have HLE := hid (show w.heap.size + 2 ≤ w2.heap.size by rw [← HSZ.out]; exact hb2.size)
  clear hr2 hb2
  have c3 := HC3.out
  have hfd := fun W => field_writes (.int .u64 c') (.int .u64 r') (.int .u64 s') (.slice A2 m2 c2) W
  go_wp2_with fail
  go_loopw [16] (fun i wr => ∃ k : Nat, k ≤ n ∧ i = .int .i64 (k : Int) ∧ D = (ws.drop k).any (fun x => ws'.any fun y => x.k == y.k) ∧ Below w2.heap.size w2 wr) (fun i _ => n - (intOf i).toNat)
  case atStart => exact ⟨0, Nat.zero_le _, rfl, HD.out, Below.refl _ _⟩
  case round =>
    obtain ⟨k, hk, rfl, hd, hbw⟩ := hrel
    have HDK := hid hd
    have HBW := hid hbw
    clear c3
    have c3 := (hbw.cell (p := ⟨w.heap.size, 3, none⟩) (by show w.heap.size < w2.heap.size; have := HLE.out; omega)).trans HC3.out
    clear hd hbw
    by_cases hlt : k < n
    · obtain ⟨b, off, x, rfl, hb, hx, d0, d1, d2⟩ := (HX2.out.below (HBW.out.mono (by have := HLE.out; have := HBX.out; omega))).get (k := k) (by rw [← HN.out]; exact hlt)
      have HX := hid (HDK.out.trans (any_drop _ hx))
      have HC := hid (bsearch_any (cap := c2) x.k (HA2.out.below HBW.out) HR2.out.1 HBW.out.size HM2.out (sortW_srt _))
      rw [any_sortW] at HC
      clear hx
      go_wp2_with fail
      go_fit HC.out
      rintro e w3 ⟨⟨q, rfl⟩, hb3⟩
      have HB3' := hid (below_step HBW.out hb3)
      clear hb3 HC
      cases hq : ws'.any (fun y => x.k == y.k) with
      | true =>
        rw [hq] at HX
        obtain rfl : D = true := HX.out
        clear hq
        go_wp2_with fail
        go_ret
        exact ⟨rfl, below_step HE2.out HB3'.out⟩
      | false =>
        rw [hq] at HX
        have HX2 := hid (show D = (ws.drop (k + 1)).any (fun x => ws'.any fun y => x.k == y.k) from HX.out)
        clear hq
        go_wp2_with fail
        go_roundw
        case rel => exact ⟨k + 1, by omega, by go_num, HX2.out, HB3'.out⟩
        case measure => simp [intOf]; omega
    · obtain rfl : D = false := by rw [HDK.out, List.drop_of_length_le (by rw [← HN.out]; omega)]; rfl
      go_wp2_with fail
      go_ret
      exact ⟨rfl, below_step HE2.out HBW.out⟩

end Go.Proofs.Ytcdjbacljnofiaa
