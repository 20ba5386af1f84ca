/-
  The document's answers for fields: by their contracts.
-/
import Derived.Test.YtamieogikmnpcaaTkFd
import Derived.BigQuiet
import Derived.Deep.QuietTactic
import Derived.Test.YtamieogikmnpcaaRefVar
import Derived.Test.YtamieogikmnpcaaRefGetVar
namespace Go.Proofs.Ytamieogikmnpcaa
open Go Go.RowKit

set_option maxHeartbeats 1000000 in
theorem refText_any (s : List UInt8) (w : World) (hs : s.length ≤ 65536) :
    Calls Try.prog 25 #[.string (bst s)] w fun e w' => e = .returned (.string (bst (vbytes s.length ++ s))) ∧ Below w.heap.size w w' := by
  have hz := bst_size s
  have hz2 := bst_size (vbytes s.length)
  have hv := vlen_le s.length
  rw [vbytes_length] at hz2
  have hns : ¬ (9223372036854775807 < vlen s.length + s.length) := by omega
  have happ := bst_append (vbytes s.length) s
  have HS := hid hs
  clear hs
  go_enter Try.func25, Try.ntmps25
  go_wp2_with fail
  go_fit (refVar_any s.length w (by have := HS.out; omega))
  rintro e w1 ⟨rfl, hb⟩
  have HB := hid hb
  clear hb
  go_wp2_with fail
  go_ret
  exact ⟨rfl, HB.out⟩

set_option maxHeartbeats 1000000 in
theorem refPut_any (f : Fd) (w : World) (hv : f.v < 18446744073709551616) (hs : f.s.length ≤ 65536) :
    Calls Try.prog 12 #[f.val] w fun e w' => e = .returned (.string (bst (enc f))) ∧ Below w.heap.size w w' := by
  obtain ⟨k, v, s, y, m⟩ := f
  unfold Fd.val
  have HV := hid (show v < 18446744073709551616 from hv)
  have HS := hid (show s.length ≤ 65536 from hs)
  have HW := hid (show Below w.heap.size w (w.alloc (.cells #[.int .i64 k, .int .u64 (v : Int), .string (bst s), .bool y, .int .i64 m] 28)) from (Below.refl _ _).alloc (Nat.le_refl _) _)
  clear hv hs
  by_cases h1 : k = 1
  · have He := hid (enc_text (f := ⟨k, v, s, y, m⟩) h1)
    subst h1
    go_enter Try.func12, Try.ntmps12
    go_wp2_with fail
    go_fit (refText_any s _ HS.out)
    rintro e w1 ⟨rfl, h3⟩
    have H3 := hid (below_step HW.out h3)
    clear h3
    go_wp2_with fail
    go_ret
    exact ⟨by rw [He.out]; rfl, H3.out⟩
  · by_cases h2 : k = 2
    · have He := hid (enc_flag (f := ⟨k, v, s, y, m⟩) h2)
      subst h2
      clear h1
      cases y with
      | true =>
        go_enter Try.func12, Try.ntmps12
        go_wp2_with fail
        go_ret
        exact ⟨by rw [He.out]; rfl, HW.out⟩
      | false =>
        go_enter Try.func12, Try.ntmps12
        go_wp2_with fail
        go_ret
        exact ⟨by rw [He.out]; rfl, HW.out⟩
    · have He := hid (enc_num (f := ⟨k, v, s, y, m⟩) h1 h2)
      have e1 : (k == 1) = false := by simpa using h1
      have e2 : (k == 2) = false := by simpa using h2
      clear h1 h2
      go_enter Try.func12, Try.ntmps12
      go_wp2_with fail
      go_fit (refVar_any v _ HV.out)
      rintro e w1 ⟨rfl, h3⟩
      have H3 := hid (below_step HW.out h3)
      clear h3
      go_wp2_with fail
      go_ret
      exact ⟨by rw [He.out]; rfl, H3.out⟩

set_option maxHeartbeats 1000000 in
theorem refNum_any (l : List UInt8) (w : World) (hl : l.length ≤ 4096) :
    Calls Try.prog 28 #[.string (bst l)] w fun e w' =>
      e = .returned (.tuple #[.int .u64 ((rnum l).1 : Int), .string (bst (rnum l).2.1), .int .i64 ((rnum l).2.2 : Int)]) ∧ Below w.heap.size w w' := by
  have hN := rnum_all l
  generalize rnum l = o at hN ⊢
  have HL := hid hl
  have hz := bst_size l
  clear hl
  cases hN with
  | good v n h hn hl' hv hb =>
    have Hh := hid h
    have hex := bst_drop l n
    have h0 : (n : Int) ≤ (l.length : Int) := by omega
    have h00 : (0 : Int) ≤ (n : Int) := by omega
    clear h hn hb hl'
    go_enter Try.func28, Try.ntmps28
    go_wp2_with fail
    go_fit (refGetVar_is Hh.out HL.out)
    rintro e w' ⟨rfl, rfl⟩
    go_wp2_with fail
    go_quiet (fail)
    go_wp2_with fail
    go_ret3
    exact ⟨rfl, below_drewN (Below.refl _ _) _⟩
  | short h =>
    have Hh := hid h
    clear h
    go_enter Try.func28, Try.ntmps28
    go_wp2_with fail
    go_fit (refGetVar_is Hh.out HL.out)
    rintro e w' ⟨rfl, rfl⟩
    go_wp2_with fail
    go_ret3
    exact ⟨rfl, Below.refl _ _⟩
  | form h =>
    have Hh := hid h
    clear h
    go_enter Try.func28, Try.ntmps28
    go_wp2_with fail
    go_fit (refGetVar_is Hh.out HL.out)
    rintro e w' ⟨rfl, rfl⟩
    go_wp2_with fail
    go_ret3
    exact ⟨rfl, Below.refl _ _⟩

end Go.Proofs.Ytamieogikmnpcaa
