/-
  The document's Take: by its contract.
-/
import Derived.Test.YtlcnjkonlnfnfaaDoorRefFNum
namespace Go.Proofs.YtlcnjkonlnfnfaaDoor
open Go Go.RowKit

theorem two_below {w w2 : World} {c0 c1 : Array Value} {t : TypeId} (h : Below ((w.alloc (.cells c0 t)).alloc (.cells c1 t)).heap.size ((w.alloc (.cells c0 t)).alloc (.cells c1 t)) w2) : Blk w2 w.heap.size t c0 ∧ Blk w2 (w.heap.size + 1) t c1 := by
  refine ⟨Blk.below (Blk.alloc (Blk.new w _ _) _) h (by simp; omega), ?_⟩
  have h1 := Blk.new (w.alloc (.cells c0 t)) t c1
  rw [show (w.alloc (.cells c0 t)).heap.size = w.heap.size + 1 by simp] at h1
  exact Blk.below h1 h (by simp)

theorem bst_ne (x : UInt8) (l : List UInt8) : (bst (x :: l)).toList ≠ [] := by rw [bst_toList]; simp

set_option maxHeartbeats 4000000 in
theorem refTake_flag (most : Int) (l : List UInt8) (w : World) (hl : l.length ≤ 70000) :
    Calls Tryd.prog 37 #[.int .i64 2, .int .i64 most, .string (bst l)] w fun e w' =>
      e = .returned (.tuple #[(tk 2 most l).1.val, .string (bst (tk 2 most l).2.1), .int .i64 ((tk 2 most l).2.2 : Int)]) ∧ Below w.heap.size w w' := by
  have HW := hid (show Below w.heap.size w ((w.alloc (.cells #[.int .i64 0, .int .u64 0, .string ⟨#[]⟩, .bool false, .int .i64 0] 73)).alloc (.cells #[.int .i64 2, .int .u64 0, .string ⟨#[]⟩, .bool false, .int .i64 0] 73)) from ((Below.refl _ _).alloc (Nat.le_refl _) _).alloc (by simp) _)
  have e0 : tk 2 most l = (⟨2, 0, [], (rflag l).1, 0⟩, (rflag l).2) := rfl
  rw [e0]
  have hz := bst_size l
  have htl := bst_toList l
  clear e0
  rcases l with _ | ⟨x, l⟩
  · have e : rflag [] = (false, [], 30) := rfl
    rw [e]
    go_enter Tryd.func37, Tryd.ntmps37
    go_wp2_with fail
    refine bodyPost_ret (v := .tuple #[(Fd.mk 2 0 [] false 0).val, .string (bst ([])), .int .i64 (30)]) (by simp [results, Tryd.results37, go_sem, Fd.val, bst, *]) rfl ⟨rfl, ?_⟩
    try refine Below.drew ?_
    exact ((Below.refl _ _).alloc (Nat.le_refl _) _).alloc (by simp) _
  · obtain ⟨s, hs⟩ : ∃ s, s = bst (x :: l) := ⟨_, rfl⟩
    rw [← hs] at hz htl
    have HS := hid hs
    have hk : 0 < s.size := by rw [hz]; simp
    have hsk := bst_get (k := 0) hs rfl hk
    have hki : (0 : Int) < (s.size : Int) := by omega
    have hk1 : (1 : Int) ≤ (s.size : Int) := by omega
    have hemp : (s.toList == []) = false := by rw [htl]; rfl
    have hex : s.extract 1 s.size = bst l := by rw [hz, hs]; exact bst_drop (x :: l) 1
    rw [← hs]
    clear hs htl
    have HZ := hid hz
    clear hz hl
    by_cases h1 : 1 < x.toNat
    · have e : rflag (x :: l) = (false, x :: l, 33) := by simp only [rflag]; rw [if_pos h1]
      rw [e]
      have hx : (1 : Int) < (x.toNat : Int) := by omega
      clear h1
      go_enter Tryd.func37, Tryd.ntmps37
      go_wp2_with fail
      rw [HS.out]
      refine bodyPost_ret (v := .tuple #[(Fd.mk 2 0 [] false 0).val, .string (bst (x :: l)), .int .i64 (33)]) (by simp [results, Tryd.results37, go_sem, Fd.val, bst, *]) rfl ⟨rfl, ?_⟩
      try refine Below.drew ?_
      exact ((Below.refl _ _).alloc (Nat.le_refl _) _).alloc (by simp) _
    · have e : rflag (x :: l) = (x.toNat == 1, l, 0) := by simp only [rflag]; rw [if_neg h1]
      rw [e]
      have hx : ¬ (1 : Int) < (x.toNat : Int) := by omega
      have hx1 : ((x.toNat : Int) == 1) = (x.toNat == 1) := by rw [Bool.eq_iff_iff]; simp; omega
      clear h1
      go_enter Tryd.func37, Tryd.ntmps37
      go_wp2_with fail
      go_region
      go_wp2_with fail
      refine bodyPost_ret (v := .tuple #[(Fd.mk 2 0 [] (x.toNat == 1) 0).val, .string (bst (l)), .int .i64 (0)]) (by simp [results, Tryd.results37, go_sem, Fd.val, bst, *]) rfl ⟨rfl, ?_⟩
      try refine Below.drew ?_
      exact ((Below.refl _ _).alloc (Nat.le_refl _) _).alloc (by simp) _

/-- the document's Take, but for flags: what comes of the number that stands first -/
def TookRef (k : Nat) (most : Int) (l : List UInt8) (w : World) (e : Ending) (w' : World) : Prop :=
  e = .returned (.tuple #[(tk k most l).1.val, .string (bst (tk k most l).2.1), .int .i64 ((tk k most l).2.2 : Int)]) ∧ Below w.heap.size w w'

set_option maxHeartbeats 4000000 in
theorem refTake_num (most : Int) (l : List UInt8) (w : World) (hl : l.length ≤ 70000) :
    Calls Tryd.prog 37 #[.int .i64 0, .int .i64 most, .string (bst l)] w (TookRef 0 most l w) := by
  have HW := hid (show Below w.heap.size w ((w.alloc (.cells #[.int .i64 0, .int .u64 0, .string ⟨#[]⟩, .bool false, .int .i64 0] 73)).alloc (.cells #[.int .i64 0, .int .u64 0, .string ⟨#[]⟩, .bool false, .int .i64 0] 73)) from ((Below.refl _ _).alloc (Nat.le_refl _) _).alloc (by simp) _)
  have e0 : tk 0 most l = (⟨0, (rnum l).1, [], false, 0⟩, (rnum l).2) := rfl
  unfold TookRef
  rw [e0]
  have hG := refNum_any l ((w.alloc (.cells #[.int .i64 0, .int .u64 0, .string ⟨#[]⟩, .bool false, .int .i64 0] 73)).alloc (.cells #[.int .i64 0, .int .u64 0, .string ⟨#[]⟩, .bool false, .int .i64 0] 73)) hl
  have hbad := rnum_bad l
  obtain ⟨⟨n, l1, e1⟩, ho⟩ : ∃ o, rnum l = o := ⟨_, rfl⟩
  rw [ho] at hG hbad ⊢
  have HG := hid hG
  clear hG ho e0
  by_cases hE : e1 = 0
  · subst hE
    clear hbad hl
    go_enter Tryd.func37, Tryd.ntmps37
    go_wp2_with fail
    go_fit HG.out
    rintro e w2 ⟨rfl, h1⟩
    obtain ⟨b0, b1⟩ := two_below h1
    have H1 := hid (below_step HW.out h1)
    obtain ⟨x0, x1, x2, x3, x4, g0, g1, g2, g3, g4⟩ := five b0
    obtain ⟨y0, y1, y2, y3, y4, k0, k1, k2, k3, k4⟩ := five b1
    clear h1 b0 b1
    go_wp2_with fail
    refine bodyPost_ret (v := .tuple #[(Fd.mk 0 n [] false 0).val, .string (bst (l1)), .int .i64 (0)]) (by simp [results, Tryd.results37, go_sem, Fd.val, bst, *]) rfl ⟨rfl, ?_⟩
    try refine Below.drew ?_
    repeat' (refine Below.setCell ?_ (by simp) _)
    exact H1.out
  · have hE1 : ((e1 : Int) != 0) = true := by simpa using hE
    obtain ⟨hb1, hb2⟩ := hbad hE
    simp only at hb1 hb2
    subst hb1 hb2
    clear hbad hE hl
    go_enter Tryd.func37, Tryd.ntmps37
    go_wp2_with fail
    go_fit HG.out
    rintro e w2 ⟨rfl, h1⟩
    obtain ⟨b0, b1⟩ := two_below h1
    have H1 := hid (below_step HW.out h1)
    obtain ⟨x0, x1, x2, x3, x4, g0, g1, g2, g3, g4⟩ := five b0
    obtain ⟨y0, y1, y2, y3, y4, k0, k1, k2, k3, k4⟩ := five b1
    clear h1 b0 b1
    go_wp2_with fail
    refine bodyPost_ret (v := .tuple #[(Fd.mk 0 0 [] false 0).val, .string (bst (l1)), .int .i64 ((e1 : Int))]) (by simp [results, Tryd.results37, go_sem, Fd.val, bst, *]) rfl ⟨rfl, ?_⟩
    try refine Below.drew ?_
    repeat' (refine Below.setCell ?_ (by simp) _)
    exact H1.out

set_option maxHeartbeats 4000000 in
theorem refTake_text (most : Int) (l : List UInt8) (w : World) (hl : l.length ≤ 70000) :
    Calls Tryd.prog 37 #[.int .i64 1, .int .i64 most, .string (bst l)] w (TookRef 1 most l w) := by
  have HW := hid (show Below w.heap.size w ((w.alloc (.cells #[.int .i64 0, .int .u64 0, .string ⟨#[]⟩, .bool false, .int .i64 0] 73)).alloc (.cells #[.int .i64 1, .int .u64 0, .string ⟨#[]⟩, .bool false, .int .i64 0] 73)) from ((Below.refl _ _).alloc (Nat.le_refl _) _).alloc (by simp) _)
  have e0 : tk 1 most l = (⟨1, 0, (rtext l).1, false, 0⟩, (rtext l).2) := rfl
  unfold TookRef
  rw [e0]
  have hG := refNum_any l ((w.alloc (.cells #[.int .i64 0, .int .u64 0, .string ⟨#[]⟩, .bool false, .int .i64 0] 73)).alloc (.cells #[.int .i64 1, .int .u64 0, .string ⟨#[]⟩, .bool false, .int .i64 0] 73)) hl
  have hbad := rnum_bad l
  have htx : rtext l = if (rnum l).2.2 ≠ 0 then ([], l, (rnum l).2.2) else if 65536 < (rnum l).1 then ([], l, 32) else if (rnum l).2.1.length < (rnum l).1 then ([], l, 30) else ((rnum l).2.1.take (rnum l).1, (rnum l).2.1.drop (rnum l).1, 0) := rfl
  have hlen := rnum_len l
  obtain ⟨⟨n, l1, e1⟩, ho⟩ : ∃ o, rnum l = o := ⟨_, rfl⟩
  rw [ho] at hG hbad htx hlen
  dsimp only at hG hbad htx hlen
  have HG := hid hG
  have hz1 := bst_size l1
  have hl1 : l1.length ≤ 70000 := by omega
  clear hG ho e0 hl hlen
  by_cases hE : e1 = 0
  · subst hE
    rw [if_neg (by simp)] at htx
    by_cases h1 : 65536 < n
    · rw [if_pos h1] at htx
      rw [htx]
      clear htx hbad
      have hi : (65536 : Int) < (n : Int) := by omega
      go_enter Tryd.func37, Tryd.ntmps37
      go_wp2_with fail
      go_fit HG.out
      rintro e w2 ⟨rfl, h1⟩
      obtain ⟨b0, b1⟩ := two_below h1
      have H1 := hid (below_step HW.out h1)
      obtain ⟨x0, x1, x2, x3, x4, g0, g1, g2, g3, g4⟩ := five b0
      obtain ⟨y0, y1, y2, y3, y4, k0, k1, k2, k3, k4⟩ := five b1
      clear h1 b0 b1
      go_wp2_with fail
      refine bodyPost_ret (v := .tuple #[(Fd.mk 1 0 [] false 0).val, .string (bst (l)), .int .i64 (32)]) (by simp [results, Tryd.results37, go_sem, Fd.val, bst, *]) rfl ⟨rfl, ?_⟩
      try refine Below.drew ?_
      repeat' (refine Below.setCell ?_ (by simp) _)
      exact H1.out
    · rw [if_neg h1] at htx
      have hi : ¬ (65536 : Int) < (n : Int) := by omega
      by_cases h2 : l1.length < n
      · rw [if_pos h2] at htx
        rw [htx]
        have hi2 : (l1.length : Int) < (n : Int) := by omega
        clear htx hbad h1 h2
        go_enter Tryd.func37, Tryd.ntmps37
        go_wp2_with fail
        go_fit HG.out
        rintro e w2 ⟨rfl, h1⟩
        obtain ⟨b0, b1⟩ := two_below h1
        have H1 := hid (below_step HW.out h1)
        obtain ⟨x0, x1, x2, x3, x4, g0, g1, g2, g3, g4⟩ := five b0
        obtain ⟨y0, y1, y2, y3, y4, k0, k1, k2, k3, k4⟩ := five b1
        clear h1 b0 b1
        go_wp2_with fail
        refine bodyPost_ret (v := .tuple #[(Fd.mk 1 0 [] false 0).val, .string (bst (l)), .int .i64 (30)]) (by simp [results, Tryd.results37, go_sem, Fd.val, bst, *]) rfl ⟨rfl, ?_⟩
        try refine Below.drew ?_
        repeat' (refine Below.setCell ?_ (by simp) _)
        exact H1.out
      · rw [if_neg h2] at htx
        rw [htx]
        have hi2 : ¬ (l1.length : Int) < (n : Int) := by omega
        have hi3 : (n : Int) ≤ (l1.length : Int) := by omega
        have hex1 := bst_take l1 n
        have hex2 := bst_drop l1 n
        clear htx hbad h1 h2
        go_enter Tryd.func37, Tryd.ntmps37
        go_wp2_with fail
        go_fit HG.out
        rintro e w2 ⟨rfl, h1⟩
        obtain ⟨b0, b1⟩ := two_below h1
        have H1 := hid (below_step HW.out h1)
        obtain ⟨x0, x1, x2, x3, x4, g0, g1, g2, g3, g4⟩ := five b0
        obtain ⟨y0, y1, y2, y3, y4, k0, k1, k2, k3, k4⟩ := five b1
        clear h1 b0 b1
        go_wp2_with fail
        go_region
        go_wp2_with fail
        refine bodyPost_ret (v := .tuple #[(Fd.mk 1 0 (l1.take n) false 0).val, .string (bst (l1.drop n)), .int .i64 (0)]) (by simp [results, Tryd.results37, go_sem, Fd.val, bst, *]) rfl ⟨rfl, ?_⟩
        try refine Below.drew ?_
        repeat' (refine Below.setCell ?_ (by simp) _)
        exact H1.out
  · rw [if_pos (by simpa using hE)] at htx
    rw [htx]
    have hE1 : ((e1 : Int) != 0) = true := by simpa using hE
    clear hbad hE htx
    go_enter Tryd.func37, Tryd.ntmps37
    go_wp2_with fail
    go_fit HG.out
    rintro e w2 ⟨rfl, h1⟩
    obtain ⟨b0, b1⟩ := two_below h1
    have H1 := hid (below_step HW.out h1)
    obtain ⟨x0, x1, x2, x3, x4, g0, g1, g2, g3, g4⟩ := five b0
    obtain ⟨y0, y1, y2, y3, y4, k0, k1, k2, k3, k4⟩ := five b1
    clear h1 b0 b1
    go_wp2_with fail
    refine bodyPost_ret (v := .tuple #[(Fd.mk 1 0 [] false 0).val, .string (bst (l)), .int .i64 ((e1 : Int))]) (by simp [results, Tryd.results37, go_sem, Fd.val, bst, *]) rfl ⟨rfl, ?_⟩
    try refine Below.drew ?_
    repeat' (refine Below.setCell ?_ (by simp) _)
    exact H1.out

set_option maxHeartbeats 4000000 in
theorem refTake_count (most : Int) (hmost : -9223372036854775808 ≤ most ∧ most ≤ 9223372036854775807) (l : List UInt8) (w : World) (hl : l.length ≤ 70000) :
    Calls Tryd.prog 37 #[.int .i64 3, .int .i64 most, .string (bst l)] w (TookRef 3 most l w) := by
  have HW := hid (show Below w.heap.size w ((w.alloc (.cells #[.int .i64 0, .int .u64 0, .string ⟨#[]⟩, .bool false, .int .i64 0] 73)).alloc (.cells #[.int .i64 3, .int .u64 0, .string ⟨#[]⟩, .bool false, .int .i64 0] 73)) from ((Below.refl _ _).alloc (Nat.le_refl _) _).alloc (by simp) _)
  have e0 : tk 3 most l = (⟨3, (rcount most l).1, [], false, 0⟩, (rcount most l).2) := rfl
  unfold TookRef
  rw [e0]
  have hG := refNum_any l ((w.alloc (.cells #[.int .i64 0, .int .u64 0, .string ⟨#[]⟩, .bool false, .int .i64 0] 73)).alloc (.cells #[.int .i64 3, .int .u64 0, .string ⟨#[]⟩, .bool false, .int .i64 0] 73)) hl
  have htx : rcount most l = if (rnum l).2.2 ≠ 0 then (0, l, (rnum l).2.2) else if most < 0 ∨ most < ((rnum l).1 : Int) then (0, l, 32) else ((rnum l).1, (rnum l).2.1, 0) := rfl
  obtain ⟨⟨n, l1, e1⟩, ho⟩ : ∃ o, rnum l = o := ⟨_, rfl⟩
  rw [ho] at hG htx
  dsimp only at hG htx
  have HG := hid hG
  have hw : most < 0 ∨ IntKind.u64.wrap most = most := by rw [IntKind.wrap_u64]; omega
  have HWR := hid hw
  clear hG ho e0 hl hmost hw
  by_cases hE : e1 = 0
  · subst hE
    rw [if_neg (by simp)] at htx
    by_cases h1 : most < 0
    · rw [if_pos (.inl h1)] at htx
      rw [htx]
      clear htx
      go_enter Tryd.func37, Tryd.ntmps37
      go_wp2_with fail
      go_fit HG.out
      rintro e w2 ⟨rfl, h1⟩
      obtain ⟨b0, b1⟩ := two_below h1
      have H1 := hid (below_step HW.out h1)
      obtain ⟨x0, x1, x2, x3, x4, g0, g1, g2, g3, g4⟩ := five b0
      obtain ⟨y0, y1, y2, y3, y4, k0, k1, k2, k3, k4⟩ := five b1
      clear h1 b0 b1
      go_wp2_with fail
      refine bodyPost_ret (v := .tuple #[(Fd.mk 3 0 [] false 0).val, .string (bst (l)), .int .i64 (32)]) (by simp [results, Tryd.results37, go_sem, Fd.val, bst, *]) rfl ⟨rfl, ?_⟩
      try refine Below.drew ?_
      repeat' (refine Below.setCell ?_ (by simp) _)
      exact H1.out
    · have hwr : IntKind.u64.wrap most = most := HWR.out.resolve_left h1
      have h0 : (0 : Int) ≤ most := by omega
      by_cases h2 : most < (n : Int)
      · rw [if_pos (.inr h2)] at htx
        rw [htx]
        clear htx
        go_enter Tryd.func37, Tryd.ntmps37
        go_wp2_with fail
        go_fit HG.out
        rintro e w2 ⟨rfl, h1⟩
        obtain ⟨b0, b1⟩ := two_below h1
        have H1 := hid (below_step HW.out h1)
        obtain ⟨x0, x1, x2, x3, x4, g0, g1, g2, g3, g4⟩ := five b0
        obtain ⟨y0, y1, y2, y3, y4, k0, k1, k2, k3, k4⟩ := five b1
        clear h1 b0 b1
        go_wp2_with fail
        refine bodyPost_ret (v := .tuple #[(Fd.mk 3 0 [] false 0).val, .string (bst (l)), .int .i64 (32)]) (by simp [results, Tryd.results37, go_sem, Fd.val, bst, *]) rfl ⟨rfl, ?_⟩
        try refine Below.drew ?_
        repeat' (refine Below.setCell ?_ (by simp) _)
        exact H1.out
      · rw [if_neg (by omega)] at htx
        rw [htx]
        clear htx
        go_enter Tryd.func37, Tryd.ntmps37
        go_wp2_with fail
        go_fit HG.out
        rintro e w2 ⟨rfl, h1⟩
        obtain ⟨b0, b1⟩ := two_below h1
        have H1 := hid (below_step HW.out h1)
        obtain ⟨x0, x1, x2, x3, x4, g0, g1, g2, g3, g4⟩ := five b0
        obtain ⟨y0, y1, y2, y3, y4, k0, k1, k2, k3, k4⟩ := five b1
        clear h1 b0 b1
        go_wp2_with fail
        refine bodyPost_ret (v := .tuple #[(Fd.mk 3 n [] false 0).val, .string (bst (l1)), .int .i64 (0)]) (by simp [results, Tryd.results37, go_sem, Fd.val, bst, *]) rfl ⟨rfl, ?_⟩
        try refine Below.drew ?_
        repeat' (refine Below.setCell ?_ (by simp) _)
        exact H1.out
  · rw [if_pos (by simpa using hE)] at htx
    rw [htx]
    have hE1 : ((e1 : Int) != 0) = true := by simpa using hE
    clear hE htx
    go_enter Tryd.func37, Tryd.ntmps37
    go_wp2_with fail
    go_fit HG.out
    rintro e w2 ⟨rfl, h1⟩
    obtain ⟨b0, b1⟩ := two_below h1
    have H1 := hid (below_step HW.out h1)
    obtain ⟨x0, x1, x2, x3, x4, g0, g1, g2, g3, g4⟩ := five b0
    obtain ⟨y0, y1, y2, y3, y4, k0, k1, k2, k3, k4⟩ := five b1
    clear h1 b0 b1
    go_wp2_with fail
    refine bodyPost_ret (v := .tuple #[(Fd.mk 3 0 [] false 0).val, .string (bst (l)), .int .i64 ((e1 : Int))]) (by simp [results, Tryd.results37, go_sem, Fd.val, bst, *]) rfl ⟨rfl, ?_⟩
    try refine Below.drew ?_
    repeat' (refine Below.setCell ?_ (by simp) _)
    exact H1.out

end Go.Proofs.YtlcnjkonlnfnfaaDoor
