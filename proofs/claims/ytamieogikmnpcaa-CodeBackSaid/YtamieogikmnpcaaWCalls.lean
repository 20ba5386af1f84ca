/-
  A writer's Num, Text, Flag, Bytes: by their contracts.
-/
import Derived.Test.YtamieogikmnpcaaWriter
import Derived.BigQuiet
import Derived.Deep.QuietTactic
namespace Go.Proofs.Ytamieogikmnpcaa
open Go Go.RowKit

theorem putVar_nat (v : Nat) (w : World) (hv : v < 18446744073709551616) :
    Calls Try.prog 31 #[.slice none 0 0, .int .u64 (v : Int)] w fun e w' =>
      ∃ A' m' c', e = .returned (.slice A' m' c') ∧ Row w' w.heap.size 5 A' m' c' (vbytes v) ∧ Below w.heap.size w w' :=
  putVar_is (A := none) (c := 0) (l := []) (v := v) rfl (At.nil w 0 _) (Nat.zero_le _) (by simp) hv

structure Wrote (w : World) (base p : Nat) (l : List UInt8) (e0 : Nat) (e : Ending) (w' : World) : Prop where
  ret : e = .returned (.tuple #[])
  wr : Wr w' base p l e0
  below : Keeps base w w'

/-- the numbers that are handed in: one -/
def One (w : World) (b : Nat) (u : Value) : Prop := w.cell? ⟨b, 0, none⟩ = some u ∧ b < w.heap.size

set_option maxHeartbeats 1000000 in
theorem wnum_any {base p b v : Nat} {l : List UInt8} {w : World} (h : Wr w base p l 0) (hv : v < 18446744073709551616) (hone : One w b (.int .u64 (v : Int))) (hl : l.length ≤ 1099511627776) :
    Calls Try.prog 19 #[.pointer (some ⟨p, 0, none⟩), .slice (some ⟨b, 0, none⟩) 1 1] w (Wrote w base p (l ++ vbytes v) 0) := by
  obtain ⟨hc, hlt⟩ := hone
  have HB := hid h.base
  have HV := hid hv
  have HL := hid hl
  have H := hid h
  clear h hv hl
  go_enter Try.func19, Try.ntmps19
  go_wp2_with fail
  go_loopw [8] (fun i wr => (i = .int .i64 0 ∧ wr = w) ∨ (i = .int .i64 1 ∧ Wr wr base p (l ++ vbytes v) 0 ∧ Keeps base w wr)) (fun i _ => 1 - (intOf i).toNat)
  case atStart => exact .inl ⟨rfl, rfl⟩
  case round =>
    rcases hrel with ⟨rfl, rfl⟩ | ⟨rfl, h1, h2⟩
    · go_wp2_with fail
      go_fit (putVar_nat v _ HV.out)
      rintro e w1 ⟨A', m', c', rfl, hr1, hb1⟩
      have HR := hid hr1
      have HB1 := hid hb1
      clear hr1 hb1
      go_wp2_with fail
      go_fit (push_any (H.out.step HB1.out) HR.out.at_ HR.out.1 (Nat.le_refl _) (by have := HL.out; rw [vbytes_length]; have := vlen_le v; omega))
      rintro e w2 ⟨rfl, h3, h4⟩
      have H3 := hid h3
      have H4 := hid ((Keeps.of HB1.out HB.out).trans h4)
      clear h3 h4
      go_wp2_with fail
      go_roundw
      case rel => exact .inr ⟨rfl, H3.out, H4.out⟩
      case measure => simp [intOf]
    · have H1 := hid h1
      have H2 := hid h2
      clear h1 h2
      go_wp2_with fail
      go_end0
      exact ⟨rfl, H1.out, H2.out⟩

set_option maxHeartbeats 1000000 in
theorem wnum_not {base p b e0 v : Nat} {l : List UInt8} {w : World} (h : Wr w base p l e0) (he : e0 ≠ 0) (hv : v < 18446744073709551616) (hone : One w b (.int .u64 (v : Int))) :
    Calls Try.prog 19 #[.pointer (some ⟨p, 0, none⟩), .slice (some ⟨b, 0, none⟩) 1 1] w (Wrote w base p l e0) := by
  obtain ⟨hc, hlt⟩ := hone
  have HB := hid h.base
  have HV := hid hv
  have H := hid h
  have HE := hid he
  clear h hv he
  go_enter Try.func19, Try.ntmps19
  go_wp2_with fail
  go_loopw [8] (fun i wr => (i = .int .i64 0 ∧ wr = w) ∨ (i = .int .i64 1 ∧ Wr wr base p l e0 ∧ Keeps base w wr)) (fun i _ => 1 - (intOf i).toNat)
  case atStart => exact .inl ⟨rfl, rfl⟩
  case round =>
    rcases hrel with ⟨rfl, rfl⟩ | ⟨rfl, h1, h2⟩
    · go_wp2_with fail
      go_fit (putVar_nat v _ HV.out)
      rintro e w1 ⟨A', m', c', rfl, hr1, hb1⟩
      have HB1 := hid hb1
      clear hr1 hb1
      go_wp2_with fail
      go_fit (push_not (H.out.step HB1.out) HE.out)
      rintro e w2 ⟨rfl, rfl⟩
      go_wp2_with fail
      go_roundw
      case rel => exact .inr ⟨rfl, H.out.step HB1.out, Keeps.of HB1.out HB.out⟩
      case measure => simp [intOf]
    · have H1 := hid h1
      have H2 := hid h2
      clear h1 h2
      go_wp2_with fail
      go_end0
      exact ⟨rfl, H1.out, H2.out⟩

theorem one_new (w : World) (t : TypeId) (u : Value) : One (w.alloc (.cells #[u] t)) w.heap.size u := ⟨cell_of_one (heap_alloc_new w _), by simp⟩

set_option maxHeartbeats 2000000 in
theorem wtext_any {base p b : Nat} {l s : List UInt8} {w : World} (h : Wr w base p l 0) (hs : s.length ≤ 65536) (hone : One w b (.string (bst s))) (hl : l.length ≤ 1099511600000) :
    Calls Try.prog 20 #[.pointer (some ⟨p, 0, none⟩), .slice (some ⟨b, 0, none⟩) 1 1] w (Wrote w base p (l ++ (vbytes s.length ++ s)) 0) := by
  obtain ⟨hc, hlt⟩ := hone
  have HB := hid h.base
  have HL := hid hl
  have HS := hid hs
  have hz := bst_size s
  have H := hid h
  clear h hl
  go_enter Try.func20, Try.ntmps20
  go_wp2_with fail
  go_loopw [8] (fun i wr => (i = .int .i64 0 ∧ wr = w) ∨ (i = .int .i64 1 ∧ Wr wr base p (l ++ (vbytes s.length ++ s)) 0 ∧ Keeps base w wr)) (fun i _ => 1 - (intOf i).toNat)
  case atStart => exact .inl ⟨rfl, rfl⟩
  case round =>
    rcases hrel with ⟨rfl, rfl⟩ | ⟨rfl, h1, h2⟩
    · have HW := hid (show Below wr.heap.size wr (wr.alloc (.cells #[.int .u64 (s.length : Int)] 26)) from (Below.refl _ _).alloc (Nat.le_refl _) _)
      go_wp2_with fail
      go_fit (wnum_any (v := s.length) (H.out.step HW.out) (by have := HS.out; omega) (one_new _ _ _) (by have := HL.out; omega))
      rintro e w1 ⟨rfl, h1, h2⟩
      have H1 := hid h1
      have H2 := hid ((Keeps.of HW.out HB.out).trans h2)
      clear h1 h2
      go_wp2_with (with_reducible refine wpList_bytes_of _ rfl (.tmp 25) 9 30 5 rfl Try.underlying9 Try.underlying30 Try.underlying5 s rfl ?_; intro A1 c1 w2 hc1 hA1 hb1)
      have HA1 := hid hA1
      have HB1 := hid hb1
      clear hA1 hb1
      go_fit (push_any (H1.out.step HB1.out) HA1.out rfl (Nat.le_refl _) (by have := HL.out; have := HS.out; rw [List.length_append, vbytes_length]; have := vlen_le s.length; omega))
      rintro e w3 ⟨rfl, h3, h4⟩
      rw [List.append_assoc] at h3
      have H3 := hid h3
      have H4 := hid ((H2.out.trans (Keeps.of HB1.out (Nat.le_trans HB.out H2.out.below.size))).trans h4)
      clear h3 h4
      go_wp2_with fail
      go_roundw
      case rel => exact .inr ⟨rfl, H3.out, H4.out⟩
      case measure => simp [intOf]
    · have H1 := hid h1
      have H2 := hid h2
      clear h1 h2
      go_wp2_with fail
      go_end0
      exact ⟨rfl, H1.out, H2.out⟩

set_option maxHeartbeats 2000000 in
theorem wtext_not {base p b : Nat} {l s : List UInt8} {w : World} (h : Wr w base p l 32) (hs : s.length ≤ 65536) (hone : One w b (.string (bst s))) :
    Calls Try.prog 20 #[.pointer (some ⟨p, 0, none⟩), .slice (some ⟨b, 0, none⟩) 1 1] w (Wrote w base p l 32) := by
  obtain ⟨hc, hlt⟩ := hone
  have HB := hid h.base
  have HS := hid hs
  have hz := bst_size s
  have H := hid h
  clear h
  go_enter Try.func20, Try.ntmps20
  go_wp2_with fail
  go_loopw [8] (fun i wr => (i = .int .i64 0 ∧ wr = w) ∨ (i = .int .i64 1 ∧ Wr wr base p l 32 ∧ Keeps base w wr)) (fun i _ => 1 - (intOf i).toNat)
  case atStart => exact .inl ⟨rfl, rfl⟩
  case round =>
    rcases hrel with ⟨rfl, rfl⟩ | ⟨rfl, h1, h2⟩
    · have HW := hid (show Below wr.heap.size wr (wr.alloc (.cells #[.int .u64 (s.length : Int)] 26)) from (Below.refl _ _).alloc (Nat.le_refl _) _)
      go_wp2_with fail
      go_fit (wnum_not (v := s.length) (H.out.step HW.out) (by decide) (by have := HS.out; omega) (one_new _ _ _))
      rintro e w1 ⟨rfl, h1, h2⟩
      have H1 := hid h1
      have H2 := hid ((Keeps.of HW.out HB.out).trans h2)
      clear h1 h2
      go_wp2_with (with_reducible refine wpList_bytes_of _ rfl (.tmp 25) 9 30 5 rfl Try.underlying9 Try.underlying30 Try.underlying5 s rfl ?_; intro A1 c1 w2 hc1 hA1 hb1)
      have HB1 := hid hb1
      clear hA1 hb1
      go_fit (push_not (H1.out.step HB1.out) (by decide))
      rintro e w3 ⟨rfl, rfl⟩
      go_wp2_with fail
      go_roundw
      case rel => exact .inr ⟨rfl, H1.out.step HB1.out, H2.out.trans (Keeps.of HB1.out (Nat.le_trans HB.out H2.out.below.size))⟩
      case measure => simp [intOf]
    · have H1 := hid h1
      have H2 := hid h2
      clear h1 h2
      go_wp2_with fail
      go_end0
      exact ⟨rfl, H1.out, H2.out⟩

set_option maxHeartbeats 2000000 in
theorem wtext_long {base p b e0 : Nat} {l : List UInt8} {t : ByteArray} {w : World} (h : Wr w base p l e0) (hs : 65536 < t.size) (hone : One w b (.string t)) :
    Calls Try.prog 20 #[.pointer (some ⟨p, 0, none⟩), .slice (some ⟨b, 0, none⟩) 1 1] w (Wrote w base p l 32) := by
  obtain ⟨hc, hlt⟩ := hone
  obtain ⟨A, m, c, hb, hrow, hbp⟩ := h.out
  have hi : (65536 : Int) < (t.size : Int) := by omega
  have c1 := WB.c1 hb
  have f1 := WB.f1 hb
  have HB := hid hb
  have HR := hid hrow
  have HP := hid hbp
  have HNE := hid (own_ne_blk (b := p) hrow.2 hb (by decide))
  clear h hb hrow hbp hs
  go_enter Try.func20, Try.ntmps20
  go_wp2_with fail
  go_loopw [8] (fun i wr => i = .int .i64 0 ∧ wr = w) (fun i _ => 1 - (intOf i).toNat)
  case atStart => exact ⟨rfl, rfl⟩
  case round =>
    obtain ⟨rfl, rfl⟩ := hrel
    go_wp2_with fail
    refine bodyPost_ret (results_none rfl _ _ _) rfl ?_
    exact ⟨rfl, ⟨_, _, _, HB.out.set1, ⟨HR.out.1, ownsRow_setCell_other HR.out.2 HNE.out _⟩, HP.out⟩, (Keeps.refl _ _).set HB.out HP.out _⟩

set_option maxHeartbeats 1000000 in
theorem wflag_any {base p : Nat} {y : Bool} {l : List UInt8} {w : World} (h : Wr w base p l 0) (hl : l.length ≤ 1099511627776) :
    Calls Try.prog 21 #[.pointer (some ⟨p, 0, none⟩), .bool y] w (Wrote w base p (l ++ [if y then 1 else 0]) 0) := by
  have HB := hid h.base
  have HL := hid hl
  have H := hid h
  clear h hl
  cases y with
  | true =>
    have HW := hid (show Below w.heap.size w (w.alloc (.cells #[.int .u8 1] 5)) from (Below.refl _ _).alloc (Nat.le_refl _) _)
    go_enter Try.func21, Try.ntmps21
    go_wp2_with fail
    go_fit (push_any (news := [1]) (H.out.step HW.out) (At.one w 1 _) rfl (by simp) (by have := HL.out; simp; omega))
    rintro e w3 ⟨rfl, h3, h4⟩
    have H3 := hid h3
    have H4 := hid ((Keeps.of HW.out HB.out).trans h4)
    clear h3 h4
    go_wp2_with fail
    go_end0
    exact ⟨rfl, H3.out, H4.out⟩
  | false =>
    have HW := hid (show Below w.heap.size w (w.alloc (.cells #[.int .u8 0] 5)) from (Below.refl _ _).alloc (Nat.le_refl _) _)
    go_enter Try.func21, Try.ntmps21
    go_wp2_with fail
    go_fit (push_any (news := [0]) (H.out.step HW.out) (At.one w 0 _) rfl (by simp) (by have := HL.out; simp; omega))
    rintro e w3 ⟨rfl, h3, h4⟩
    have H3 := hid h3
    have H4 := hid ((Keeps.of HW.out HB.out).trans h4)
    clear h3 h4
    go_wp2_with fail
    go_end0
    exact ⟨rfl, H3.out, H4.out⟩
set_option maxHeartbeats 1000000 in
theorem wflag_not {base p e0 : Nat} {y : Bool} {l : List UInt8} {w : World} (h : Wr w base p l e0) (he : e0 ≠ 0) :
    Calls Try.prog 21 #[.pointer (some ⟨p, 0, none⟩), .bool y] w (Wrote w base p l e0) := by
  have HB := hid h.base
  have H := hid h
  have HE := hid he
  clear h he
  cases y with
  | true =>
    have HW := hid (show Below w.heap.size w (w.alloc (.cells #[.int .u8 1] 5)) from (Below.refl _ _).alloc (Nat.le_refl _) _)
    go_enter Try.func21, Try.ntmps21
    go_wp2_with fail
    go_fit (push_not (H.out.step HW.out) HE.out)
    rintro e w3 ⟨rfl, rfl⟩
    go_wp2_with fail
    go_end0
    exact ⟨rfl, H.out.step HW.out, Keeps.of HW.out HB.out⟩
  | false =>
    have HW := hid (show Below w.heap.size w (w.alloc (.cells #[.int .u8 0] 5)) from (Below.refl _ _).alloc (Nat.le_refl _) _)
    go_enter Try.func21, Try.ntmps21
    go_wp2_with fail
    go_fit (push_not (H.out.step HW.out) HE.out)
    rintro e w3 ⟨rfl, rfl⟩
    go_wp2_with fail
    go_end0
    exact ⟨rfl, H.out.step HW.out, Keeps.of HW.out HB.out⟩

set_option maxHeartbeats 1000000 in
theorem bytes_any {base p : Nat} {l : List UInt8} {w : World} (h : Wr w base p l 0) (hl : l.length ≤ 140737488351232) :
    Calls Try.prog 13 #[.pointer (some ⟨p, 0, none⟩)] w fun e w' =>
      ∃ A' m' c', e = .returned (.tuple #[.slice A' m' c', .int .i64 0]) ∧ Row w' w.heap.size 5 A' m' c' l ∧ Below w.heap.size w w' := by
  obtain ⟨A, m, c, hb, hrow, hbp⟩ := h.out
  have c0 := WB.c0 hb
  have c1 := WB.c1 hb
  have H := hid (clone_any (c := c) hrow.at_ hrow.1 (Nat.le_refl _) hl)
  clear h hb hrow hl
  go_enter Try.func13, Try.ntmps13
  go_wp2_with fail
  go_fit H.out
  rintro e w2 ⟨A', m', c', rfl, h1, h2⟩
  go_wp2_with fail
  go_ret2
  exact ⟨_, _, _, rfl, h1, h2⟩
set_option maxHeartbeats 1000000 in
theorem bytes_not {base p e0 : Nat} {l : List UInt8} {w : World} (h : Wr w base p l e0) (he : e0 ≠ 0) :
    Calls Try.prog 13 #[.pointer (some ⟨p, 0, none⟩)] w fun e w' =>
      e = .returned (.tuple #[.slice none 0 0, .int .i64 (e0 : Int)]) ∧ Below w.heap.size w w' := by
  obtain ⟨A, m, c, hb, hrow, hbp⟩ := h.out
  have c0 := WB.c0 hb
  have c1 := WB.c1 hb
  have hE : ((e0 : Int) != 0) = true := by simpa using he
  clear h hb hrow he
  go_enter Try.func13, Try.ntmps13
  go_wp2_with fail
  go_quiet (fail)
  go_wp2_with fail
  go_ret2
  exact ⟨rfl, below_drewN (Below.refl _ _) _⟩

end Go.Proofs.Ytamieogikmnpcaa
