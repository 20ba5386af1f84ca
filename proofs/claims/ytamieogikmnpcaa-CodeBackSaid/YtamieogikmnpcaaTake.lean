/-
  take: by its contract.
-/
import Derived.Test.YtamieogikmnpcaaField
namespace Go.Proofs.Ytamieogikmnpcaa
open Go Go.RowKit

theorem two_blk {w w2 : World} {r : Nat} {c0 c1 : Array Value} {t : TypeId} (hr : r < w.heap.size) (h : Only r ((w.alloc (.cells c0 t)).alloc (.cells c1 t)) w2) : Blk w2 w.heap.size t c0 ∧ Blk w2 (w.heap.size + 1) t c1 := by
  refine ⟨Blk.grown (Blk.alloc (Blk.new w _ _) _) h (fun e => by injection e; omega), ?_⟩
  have h1 := Blk.new (w.alloc (.cells c0 t)) t c1
  rw [show (w.alloc (.cells c0 t)).heap.size = w.heap.size + 1 by simp] at h1
  exact Blk.grown h1 h (fun e => by injection e; omega)

theorem Rd.far {w : World} {r e : Nat} {l : List UInt8} (h : Rd w r l e) {p : Addr} (hp : r < p.block) (u : Value) : Rd (w.setCell p u) r l e := by
  obtain ⟨A, m, c, h1, h2, h3, h4, h5⟩ := h.out
  exact ⟨A, m, c, Blk.far h1 (by omega) u, h2, h3, h4, h5.keep fun q hq => World.cell?_setCell_other w _ q u (fun e => by subst e; omega)⟩

theorem rcount_small (most : Int) (l : List UInt8) : (rcount most l).1 = 0 ∨ ((rcount most l).1 : Int) ≤ most := by
  unfold rcount
  by_cases h0 : (rnum l).2.2 = 0
  · rw [if_neg (by simpa using h0)]
    by_cases h1 : most < 0 ∨ most < ((rnum l).1 : Int)
    · rw [if_pos h1]; exact .inl rfl
    · rw [if_neg h1]; exact .inr (by show ((rnum l).1 : Int) ≤ most; omega)
  · rw [if_pos (by simpa using h0)]; exact .inl rfl

set_option maxHeartbeats 2000000 in
theorem take_any (r k : Nat) (most : Int) (hk : k ≤ 3) (hmost : -9223372036854775808 ≤ most ∧ most ≤ 9223372036854775807) (l : List UInt8) (w : World) (hr : Rd w r l 0) :
    Calls Try.prog 16 #[.pointer (some ⟨r, 0, none⟩), .int .i64 (k : Int), .int .i64 most] w fun e w' =>
      e = .returned (tk k most l).1.val ∧ Rd w' r (tk k most l).2.1 (tk k most l).2.2 ∧ Only r w w' := by
  have HLT := hid hr.lt
  have hlt := hr.lt
  have HR := hid hr
  have hk4 : k = 0 ∨ k = 1 ∨ k = 2 ∨ k = 3 := by omega
  clear hr hk
  have HW := hid (show Below w.heap.size w ((w.alloc (.cells #[.int .i64 0, .int .u64 0, .string ⟨#[]⟩, .bool false, .int .i64 0] 28)).alloc (.cells #[.int .i64 (k : Int), .int .u64 0, .string ⟨#[]⟩, .bool false, .int .i64 0] 28)) from ((Below.refl _ _).alloc (Nat.le_refl _) _).alloc (by simp) _)
  rcases hk4 with rfl | rfl | rfl | rfl
  · obtain ⟨⟨n, l1, e1⟩, ho⟩ : ∃ o, rnum l = o := ⟨_, rfl⟩
    have e : tk 0 most l = (⟨0, n, [], false, 0⟩, l1, e1) := by show (_, (rnum l).2) = _; rw [ho]
    rw [e]
    have HG := hid (get_num r l _ (HR.out.step HW.out))
    rw [ho] at HG
    clear e ho
    go_enter Try.func16, Try.ntmps16
    go_wp2_with fail
    go_fit (HG.out)
    rintro e w2 ⟨rfl, h1, h2⟩
    obtain ⟨b0, b1⟩ := two_blk HLT.out h2
    have H1 := hid h1
    have H2 := hid ((Only.of_below HW.out).trans h2)
    obtain ⟨x0, x1, x2, x3, x4, g0, g1, g2, g3, g4⟩ := five b0
    obtain ⟨y0, y1, y2, y3, y4, k0, k1, k2, k3, k4⟩ := five b1
    clear h1 h2 b0 b1
    go_wp2_with fail
    refine bodyPost_ret (v := (Fd.mk 0 n [] false 0).val) (by simp [results, Try.results16, go_sem, Fd.val, bst, *]) rfl ⟨rfl, ?_, ?_⟩
    · repeat' (refine Rd.far ?_ (by have := HLT.out; simp; try omega) _)
      exact H1.out
    · repeat' (refine Only.new ?_ (by simp) _)
      exact H2.out
  · obtain ⟨⟨n, l1, e1⟩, ho⟩ : ∃ o, rtext l = o := ⟨_, rfl⟩
    have e : tk 1 most l = (⟨1, 0, n, false, 0⟩, l1, e1) := by show (_, (rtext l).2) = _; rw [ho]
    rw [e]
    have HG := hid (get_text r l _ (HR.out.step HW.out))
    rw [ho] at HG
    clear e ho
    go_enter Try.func16, Try.ntmps16
    go_wp2_with fail
    go_fit (HG.out)
    rintro e w2 ⟨rfl, h1, h2⟩
    obtain ⟨b0, b1⟩ := two_blk HLT.out h2
    have H1 := hid h1
    have H2 := hid ((Only.of_below HW.out).trans h2)
    obtain ⟨x0, x1, x2, x3, x4, g0, g1, g2, g3, g4⟩ := five b0
    obtain ⟨y0, y1, y2, y3, y4, k0, k1, k2, k3, k4⟩ := five b1
    clear h1 h2 b0 b1
    go_wp2_with fail
    refine bodyPost_ret (v := (Fd.mk 1 0 n false 0).val) (by simp [results, Try.results16, go_sem, Fd.val, bst, *]) rfl ⟨rfl, ?_, ?_⟩
    · repeat' (refine Rd.far ?_ (by have := HLT.out; simp; try omega) _)
      exact H1.out
    · repeat' (refine Only.new ?_ (by simp) _)
      exact H2.out
  · obtain ⟨⟨n, l1, e1⟩, ho⟩ : ∃ o, rflag l = o := ⟨_, rfl⟩
    have e : tk 2 most l = (⟨2, 0, [], n, 0⟩, l1, e1) := by show (_, (rflag l).2) = _; rw [ho]
    rw [e]
    have HG := hid (get_flag r l _ (HR.out.step HW.out))
    rw [ho] at HG
    clear e ho
    go_enter Try.func16, Try.ntmps16
    go_wp2_with fail
    go_fit (HG.out)
    rintro e w2 ⟨rfl, h1, h2⟩
    obtain ⟨b0, b1⟩ := two_blk HLT.out h2
    have H1 := hid h1
    have H2 := hid ((Only.of_below HW.out).trans h2)
    obtain ⟨x0, x1, x2, x3, x4, g0, g1, g2, g3, g4⟩ := five b0
    obtain ⟨y0, y1, y2, y3, y4, k0, k1, k2, k3, k4⟩ := five b1
    clear h1 h2 b0 b1
    go_wp2_with fail
    refine bodyPost_ret (v := (Fd.mk 2 0 [] n 0).val) (by simp [results, Try.results16, go_sem, Fd.val, bst, *]) rfl ⟨rfl, ?_, ?_⟩
    · repeat' (refine Rd.far ?_ (by have := HLT.out; simp; try omega) _)
      exact H1.out
    · repeat' (refine Only.new ?_ (by simp) _)
      exact H2.out
  · obtain ⟨⟨n, l1, e1⟩, ho⟩ : ∃ o, rcount most l = o := ⟨_, rfl⟩
    have e : tk 3 most l = (⟨3, n, [], false, 0⟩, l1, e1) := by show (_, (rcount most l).2) = _; rw [ho]
    have HN := hid (show (n : Int) ≤ 9223372036854775807 by
      have := (rcount_small most l)
      rw [ho] at this
      have h2 := this
      simp only at h2
      omega)
    rw [e]
    have HG := hid (get_count r most hmost l _ (HR.out.step HW.out))
    rw [ho] at HG
    clear e ho
    by_cases hn : 0 < n
    · have hn1 : (0 : Int) < (n : Int) := by omega
      have hw : IntKind.u64.wrap (n : Int) = (n : Int) := by have := HN.out; rw [IntKind.wrap_u64]; omega
      clear hn
      go_enter Try.func16, Try.ntmps16
      go_wp2_with fail
      go_fit (HG.out)
      rintro e w2 ⟨rfl, h1, h2⟩
      obtain ⟨b0, b1⟩ := two_blk HLT.out h2
      have H1 := hid h1
      have H2 := hid ((Only.of_below HW.out).trans h2)
      obtain ⟨x0, x1, x2, x3, x4, g0, g1, g2, g3, g4⟩ := five b0
      obtain ⟨y0, y1, y2, y3, y4, k0, k1, k2, k3, k4⟩ := five b1
      clear h1 h2 b0 b1
      go_wp2_with fail
      refine bodyPost_ret (v := (Fd.mk 3 n [] false 0).val) (by simp [results, Try.results16, go_sem, Fd.val, bst, *]) rfl ⟨rfl, ?_, ?_⟩
      · repeat' (refine Rd.far ?_ (by have := HLT.out; simp; try omega) _)
        exact H1.out
      · repeat' (refine Only.new ?_ (by simp) _)
        exact H2.out
    · obtain rfl : n = 0 := by omega
      clear hn
      go_enter Try.func16, Try.ntmps16
      go_wp2_with fail
      go_fit (HG.out)
      rintro e w2 ⟨rfl, h1, h2⟩
      obtain ⟨b0, b1⟩ := two_blk HLT.out h2
      have H1 := hid h1
      have H2 := hid ((Only.of_below HW.out).trans h2)
      obtain ⟨x0, x1, x2, x3, x4, g0, g1, g2, g3, g4⟩ := five b0
      obtain ⟨y0, y1, y2, y3, y4, k0, k1, k2, k3, k4⟩ := five b1
      clear h1 h2 b0 b1
      go_wp2_with fail
      refine bodyPost_ret (v := (Fd.mk 3 0 [] false 0).val) (by simp [results, Try.results16, go_sem, Fd.val, bst, *]) rfl ⟨rfl, ?_, ?_⟩
      · repeat' (refine Rd.far ?_ (by have := HLT.out; simp; try omega) _)
        exact H1.out
      · repeat' (refine Only.new ?_ (by simp) _)
        exact H2.out

set_option maxHeartbeats 2000000 in
theorem take_not (r k e0 : Nat) (most : Int) (hk : k ≤ 3) (l : List UInt8) (w : World) (hr : Rd w r l e0) (he : e0 ≠ 0) :
    Calls Try.prog 16 #[.pointer (some ⟨r, 0, none⟩), .int .i64 (k : Int), .int .i64 most] w fun e w' =>
      e = .returned (zeroFd k).val ∧ Rd w' r l e0 ∧ Only r w w' := by
  unfold zeroFd
  have HLT := hid hr.lt
  have hlt := hr.lt
  have HR := hid hr
  have hk4 : k = 0 ∨ k = 1 ∨ k = 2 ∨ k = 3 := by omega
  clear hr hk
  have HW := hid (show Below w.heap.size w ((w.alloc (.cells #[.int .i64 0, .int .u64 0, .string ⟨#[]⟩, .bool false, .int .i64 0] 28)).alloc (.cells #[.int .i64 (k : Int), .int .u64 0, .string ⟨#[]⟩, .bool false, .int .i64 0] 28)) from ((Below.refl _ _).alloc (Nat.le_refl _) _).alloc (by simp) _)
  have HE := hid he
  clear he
  rcases hk4 with rfl | rfl | rfl | rfl
  · have HG := hid (get_num_not r e0 l _ (HR.out.step HW.out) HE.out)
    go_enter Try.func16, Try.ntmps16
    go_wp2_with fail
    go_fit (HG.out)
    rintro e w2 ⟨rfl, h1, h2⟩
    obtain ⟨b0, b1⟩ := two_blk HLT.out h2
    have H1 := hid h1
    have H2 := hid ((Only.of_below HW.out).trans h2)
    obtain ⟨x0, x1, x2, x3, x4, g0, g1, g2, g3, g4⟩ := five b0
    obtain ⟨y0, y1, y2, y3, y4, k0, k1, k2, k3, k4⟩ := five b1
    clear h1 h2 b0 b1
    go_wp2_with fail
    refine bodyPost_ret (v := (Fd.mk 0 0 [] false 0).val) (by simp [results, Try.results16, go_sem, Fd.val, bst, *]) rfl ⟨rfl, ?_, ?_⟩
    · repeat' (refine Rd.far ?_ (by have := HLT.out; simp; try omega) _)
      exact H1.out
    · repeat' (refine Only.new ?_ (by simp) _)
      exact H2.out
  · have HG := hid (get_text_not r e0 l _ (HR.out.step HW.out) HE.out)
    go_enter Try.func16, Try.ntmps16
    go_wp2_with fail
    go_fit (HG.out)
    rintro e w2 ⟨rfl, h1, h2⟩
    obtain ⟨b0, b1⟩ := two_blk HLT.out h2
    have H1 := hid h1
    have H2 := hid ((Only.of_below HW.out).trans h2)
    obtain ⟨x0, x1, x2, x3, x4, g0, g1, g2, g3, g4⟩ := five b0
    obtain ⟨y0, y1, y2, y3, y4, k0, k1, k2, k3, k4⟩ := five b1
    clear h1 h2 b0 b1
    go_wp2_with fail
    refine bodyPost_ret (v := (Fd.mk 1 0 [] false 0).val) (by simp [results, Try.results16, go_sem, Fd.val, bst, *]) rfl ⟨rfl, ?_, ?_⟩
    · repeat' (refine Rd.far ?_ (by have := HLT.out; simp; try omega) _)
      exact H1.out
    · repeat' (refine Only.new ?_ (by simp) _)
      exact H2.out
  · have HG := hid (get_flag_not r e0 l _ (HR.out.step HW.out) HE.out)
    go_enter Try.func16, Try.ntmps16
    go_wp2_with fail
    go_fit (HG.out)
    rintro e w2 ⟨rfl, h1, h2⟩
    obtain ⟨b0, b1⟩ := two_blk HLT.out h2
    have H1 := hid h1
    have H2 := hid ((Only.of_below HW.out).trans h2)
    obtain ⟨x0, x1, x2, x3, x4, g0, g1, g2, g3, g4⟩ := five b0
    obtain ⟨y0, y1, y2, y3, y4, k0, k1, k2, k3, k4⟩ := five b1
    clear h1 h2 b0 b1
    go_wp2_with fail
    refine bodyPost_ret (v := (Fd.mk 2 0 [] false 0).val) (by simp [results, Try.results16, go_sem, Fd.val, bst, *]) rfl ⟨rfl, ?_, ?_⟩
    · repeat' (refine Rd.far ?_ (by have := HLT.out; simp; try omega) _)
      exact H1.out
    · repeat' (refine Only.new ?_ (by simp) _)
      exact H2.out
  · have HG := hid (get_count_not r e0 most l _ (HR.out.step HW.out) HE.out)
    go_enter Try.func16, Try.ntmps16
    go_wp2_with fail
    go_fit (HG.out)
    rintro e w2 ⟨rfl, h1, h2⟩
    obtain ⟨b0, b1⟩ := two_blk HLT.out h2
    have H1 := hid h1
    have H2 := hid ((Only.of_below HW.out).trans h2)
    obtain ⟨x0, x1, x2, x3, x4, g0, g1, g2, g3, g4⟩ := five b0
    obtain ⟨y0, y1, y2, y3, y4, k0, k1, k2, k3, k4⟩ := five b1
    clear h1 h2 b0 b1
    go_wp2_with fail
    refine bodyPost_ret (v := (Fd.mk 3 0 [] false 0).val) (by simp [results, Try.results16, go_sem, Fd.val, bst, *]) rfl ⟨rfl, ?_, ?_⟩
    · repeat' (refine Rd.far ?_ (by have := HLT.out; simp; try omega) _)
      exact H1.out
    · repeat' (refine Only.new ?_ (by simp) _)
      exact H2.out

end Go.Proofs.Ytamieogikmnpcaa
