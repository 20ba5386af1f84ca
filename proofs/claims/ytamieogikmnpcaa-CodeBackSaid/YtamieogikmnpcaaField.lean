/-
  A field by value; kinds, put: by their contracts.
-/
import Derived.Test.YtamieogikmnpcaaAwake
import Derived.Test.YtamieogikmnpcaaTkFd
namespace Go.Proofs.Ytamieogikmnpcaa
open Go Go.RowKit

/-- a kind of four -/
def k3 (k : Int) : Nat := (bits BinOp.and IntKind.i64 k 3).toNat
theorem k3_spec (k : Int) : bits BinOp.and IntKind.i64 k 3 = (k3 k : Int) ∧ k3 k ≤ 3 := by
  have h : bits BinOp.and IntKind.i64 k 3 = IntKind.i64.wrap ((BitVec.ofInt 64 k &&& BitVec.ofInt 64 3).toNat : Int) := rfl
  have h2 : (BitVec.ofInt 64 k &&& BitVec.ofInt 64 3).toNat ≤ 3 := by
    rw [BitVec.toNat_and]
    exact Nat.and_le_right
  have h3 : bits BinOp.and IntKind.i64 k 3 = ((BitVec.ofInt 64 k &&& BitVec.ofInt 64 3).toNat : Int) := by rw [h, IntKind.wrap_i64]; omega
  unfold k3
  rw [h3]
  exact ⟨by simp, by simpa using h2⟩

set_option maxHeartbeats 1000000 in
theorem kinds_any (k v m : Int) (s : ByteArray) (y : Bool) (w : World) :
    Calls Try.prog 10 #[.agg #[.int .i64 k, .int .u64 v, .string s, .bool y, .int .i64 m]] w fun e w' =>
      e = .returned (.agg #[.int .i64 (k3 k : Int), .int .u64 v, .string s, .bool y, .int .i64 m]) ∧ Below w.heap.size w w' := by
  have hk := (k3_spec k).1
  go_enter Try.func10, Try.ntmps10
  go_wp2_with fail
  exact bodyPost_ret (v := .agg #[.int .i64 (k3 k : Int), .int .u64 v, .string s, .bool y, .int .i64 m]) (by simp [results, Try.results10, go_sem]) rfl ⟨rfl, ((Below.refl _ _).alloc (Nat.le_refl _) _).alloc (by simp) _⟩

theorem one_at {w : World} {b : Nat} {t : TypeId} {u : Value} (h : b = w.heap.size) : One (w.alloc (.cells #[u] t)) b u := h ▸ one_new w t u

set_option maxHeartbeats 2000000 in
theorem put_any {base p : Nat} {l : List UInt8} {w : World} (f : Fd) (h : Wr w base p l 0) (hv : f.v < 18446744073709551616) (hs : f.s.length ≤ 65536) (hl : l.length ≤ 1099511600000) :
    Calls Try.prog 11 #[.pointer (some ⟨p, 0, none⟩), f.val] w (Wrote w base p (l ++ enc f) 0) := by
  obtain ⟨k, v, s, y, m⟩ := f
  unfold Fd.val
  have hl2 : l.length ≤ 1099511627776 := by omega
  have HL := hid hl
  have HL2 := hid hl2
  have HB := hid h.base
  have HV := hid (show v < 18446744073709551616 from hv)
  have HS := hid (show s.length ≤ 65536 from hs)
  have H := hid h
  clear hv hs h hl hl2
  have HW := hid (show Below w.heap.size w (w.alloc (.cells #[.int .i64 k, .int .u64 (v : Int), .string (bst s), .bool y, .int .i64 m] 28)) from (Below.refl _ _).alloc (Nat.le_refl _) _)
  by_cases h1 : k = 1
  · have He := hid (enc_text (f := ⟨k, v, s, y, m⟩) h1)
    subst h1
    have HW2 := hid (HW.out.alloc HW.out.size (.cells #[.string (bst s)] 9))
    go_enter Try.func11, Try.ntmps11
    go_wp2_with fail
    go_fit (wtext_any (H.out.step HW2.out) HS.out (one_at (by simp)) HL.out)
    rintro e w1 ⟨rfl, h2, h3⟩
    have H2 := hid h2
    have H3 := hid ((Keeps.of HW2.out HB.out).trans h3)
    clear h2 h3
    go_wp2_with fail
    go_end0
    exact ⟨rfl, by rw [He.out]; exact H2.out, H3.out⟩
  · by_cases h2 : k = 2
    · have He := hid (enc_flag (f := ⟨k, v, s, y, m⟩) h2)
      subst h2
      clear h1
      go_enter Try.func11, Try.ntmps11
      go_wp2_with fail
      go_fit (wflag_any (H.out.step HW.out) HL2.out)
      rintro e w1 ⟨rfl, h2, h3⟩
      have H2 := hid h2
      have H3 := hid ((Keeps.of HW.out HB.out).trans h3)
      clear h2 h3
      go_wp2_with fail
      go_end0
      exact ⟨rfl, by rw [He.out]; exact H2.out, H3.out⟩
    · have He := hid (enc_num (f := ⟨k, v, s, y, m⟩) h1 h2)
      have e1 : (k == 1) = false := by simpa using h1
      have e2 : (k == 2) = false := by simpa using h2
      have HW2 := hid (HW.out.alloc HW.out.size (.cells #[.int .u64 (v : Int)] 26))
      clear h1 h2
      go_enter Try.func11, Try.ntmps11
      go_wp2_with fail
      go_fit (wnum_any (H.out.step HW2.out) HV.out (one_at (by simp)) HL2.out)
      rintro e w1 ⟨rfl, h2, h3⟩
      have H2 := hid h2
      have H3 := hid ((Keeps.of HW2.out HB.out).trans h3)
      clear h2 h3
      go_wp2_with fail
      go_end0
      exact ⟨rfl, by rw [He.out]; exact H2.out, H3.out⟩

set_option maxHeartbeats 2000000 in
theorem put_not {base p : Nat} {l : List UInt8} {w : World} (f : Fd) (h : Wr w base p l 32) (hv : f.v < 18446744073709551616) (hs : f.s.length ≤ 65536) :
    Calls Try.prog 11 #[.pointer (some ⟨p, 0, none⟩), f.val] w (Wrote w base p l 32) := by
  obtain ⟨k, v, s, y, m⟩ := f
  unfold Fd.val
  have HB := hid h.base
  have HV := hid (show v < 18446744073709551616 from hv)
  have HS := hid (show s.length ≤ 65536 from hs)
  have H := hid h
  clear hv hs h
  have HW := hid (show Below w.heap.size w (w.alloc (.cells #[.int .i64 k, .int .u64 (v : Int), .string (bst s), .bool y, .int .i64 m] 28)) from (Below.refl _ _).alloc (Nat.le_refl _) _)
  by_cases h1 : k = 1
  · subst h1
    have HW2 := hid (HW.out.alloc HW.out.size (.cells #[.string (bst s)] 9))
    go_enter Try.func11, Try.ntmps11
    go_wp2_with fail
    go_fit (wtext_not (H.out.step HW2.out) HS.out (one_at (by simp)))
    rintro e w1 ⟨rfl, h2, h3⟩
    have H2 := hid h2
    have H3 := hid ((Keeps.of HW2.out HB.out).trans h3)
    clear h2 h3
    go_wp2_with fail
    go_end0
    exact ⟨rfl, H2.out, H3.out⟩
  · by_cases h2 : k = 2
    · subst h2
      clear h1
      go_enter Try.func11, Try.ntmps11
      go_wp2_with fail
      go_fit (wflag_not (H.out.step HW.out) (by decide))
      rintro e w1 ⟨rfl, h2, h3⟩
      have H2 := hid h2
      have H3 := hid ((Keeps.of HW.out HB.out).trans h3)
      clear h2 h3
      go_wp2_with fail
      go_end0
      exact ⟨rfl, H2.out, H3.out⟩
    · have e1 : (k == 1) = false := by simpa using h1
      have e2 : (k == 2) = false := by simpa using h2
      have HW2 := hid (HW.out.alloc HW.out.size (.cells #[.int .u64 (v : Int)] 26))
      clear h1 h2
      go_enter Try.func11, Try.ntmps11
      go_wp2_with fail
      go_fit (wnum_not (H.out.step HW2.out) (by decide) HV.out (one_at (by simp)))
      rintro e w1 ⟨rfl, h2, h3⟩
      have H2 := hid h2
      have H3 := hid ((Keeps.of HW2.out HB.out).trans h3)
      clear h2 h3
      go_wp2_with fail
      go_end0
      exact ⟨rfl, H2.out, H3.out⟩

/-- a text that is too long -/
theorem put_long {base p e0 : Nat} {l : List UInt8} {w : World} (v m : Int) (t : ByteArray) (y : Bool) (h : Wr w base p l e0) (ht : 65536 < t.size) :
    Calls Try.prog 11 #[.pointer (some ⟨p, 0, none⟩), .agg #[.int .i64 1, .int .u64 v, .string t, .bool y, .int .i64 m]] w (Wrote w base p l 32) := by
  have HB := hid h.base
  have H := hid h
  have HT := hid ht
  have HW := hid (show Below w.heap.size w (w.alloc (.cells #[.int .i64 1, .int .u64 v, .string t, .bool y, .int .i64 m] 28)) from (Below.refl _ _).alloc (Nat.le_refl _) _)
  have HW2 := hid (HW.out.alloc HW.out.size (.cells #[.string t] 9))
  clear h ht
  go_enter Try.func11, Try.ntmps11
  go_wp2_with fail
  go_fit (wtext_long (H.out.step HW2.out) HT.out (one_at (by simp)))
  rintro e w1 ⟨rfl, h2, h3⟩
  have H2 := hid h2
  have H3 := hid ((Keeps.of HW2.out HB.out).trans h3)
  clear h2 h3
  go_wp2_with fail
  go_end0
  exact ⟨rfl, H2.out, H3.out⟩

end Go.Proofs.Ytamieogikmnpcaa
