/-
  The landed Put, by its contract.
-/
import Derived.Test.YtcdjbacljnofiaaBCheck
import Derived.Test.YtcdjbacljnofiaaJCode
namespace Go.Proofs.Ytcdjbacljnofiaa
open Go Go.RowKit

/-- numbers as cells -/
def ncs (vs : List Nat) : Array Value := (vs.map fun (v : Nat) => Value.int .u64 (v : Int)).toArray
theorem ncs_get {vs : List Nat} {i v : Nat} (h : vs[i]? = some v) : (ncs vs)[i]? = some (.int .u64 (v : Int)) := by
  unfold ncs
  rw [List.getElem?_toArray, List.getElem?_map, h]; rfl

set_option maxHeartbeats 1000000 in
set_option maxRecDepth 100000 in
/-- a writer's Num, of as many numbers as are handed in -/
theorem wnums_any {base p b n : Nat} {vs : List Nat} {l : List UInt8} {w : World} (h : Wr w base p l 0) (hb : Blk w b 22 (ncs vs)) (hn : n = vs.length) (hv : ∀ v ∈ vs, v < 18446744073709551616) (hl : l.length + 20 * n ≤ 1099511627776) :
    Calls Try.prog 33 #[.pointer (some ⟨p, 0, none⟩), .slice (some ⟨b, 0, none⟩) n n] w (Wrote w base p (l ++ vs.flatMap vbytes) 0) := by
  have HV := hid hv
  have HL := hid hl
  have HN := hid hn
  have H := hid h
  have HBK := hid hb
  have hn8 : n ≤ 1099511627776 := by omega
  clear h hv hl hb hn
  go_enter Try.func33, Try.ntmps33
  go_wp2_with fail
  go_loopw [8] (fun i wr => ∃ k : Nat, k ≤ n ∧ i = .int .i64 (k : Int) ∧ Kept (Wr wr base p (l ++ (vs.take k).flatMap vbytes) 0) ∧ Kept (Keeps base w wr)) (fun i _ => n - (intOf i).toNat)
  case atStart => exact ⟨0, Nat.zero_le _, rfl, hid (by simpa using H.out), hid (Keeps.refl _ _)⟩
  case round =>
    obtain ⟨k, hk, rfl, HW, HK⟩ := hrel
    by_cases hlt : k < n
    · obtain ⟨v, hvk⟩ : ∃ v, vs[k]? = some v := ⟨vs[k]'(by have := HN.out; omega), List.getElem?_eq_getElem _⟩
      have hvl : v < 18446744073709551616 := HV.out v (List.mem_of_getElem? hvk)
      have HVL := hid hvl
      have c0 := (HK.out.kept b _ _ (by decide) (by decide) HBK.out).cell k
      rw [ncs_get hvk] at c0
      have HLL := hid (show (l ++ (vs.take k).flatMap vbytes).length + 20 ≤ 1099511627776 by
        have : ∀ (m : List Nat), (m.flatMap vbytes).length ≤ 20 * m.length := by
          intro m
          induction m with
          | nil => simp
          | cons y m ih => rw [List.flatMap_cons, List.length_append, vbytes_length, List.length_cons]; have := vlen_le y; omega
        have h1 := this (vs.take k)
        rw [List.length_take] at h1
        have := HL.out
        rw [List.length_append]; omega)
      have HT := hid (show (l ++ (vs.take k).flatMap vbytes) ++ vbytes v = l ++ (vs.take (k + 1)).flatMap vbytes by
        obtain ⟨hkl, e⟩ := List.getElem?_eq_some_iff.1 hvk
        rw [List.take_succ_eq_append_getElem hkl, e, List.flatMap_append, List.append_assoc]; simp)
      have HBA := hid HW.out.base
      clear hvk hvl
      go_wp2_with fail
      go_fit (putVar_nat v _ HVL.out)
      rintro e w1 ⟨A', m', c', rfl, hr1, hb1⟩
      have HR := hid hr1
      have HB1 := hid hb1
      clear hr1 hb1
      go_wp2_with fail
      go_fit (push_any (HW.out.step HB1.out) HR.out.at_ HR.out.1 (Nat.le_refl _) (by have := HLL.out; rw [vbytes_length]; have := vlen_le v; omega))
      rintro e w2 ⟨rfl, h3, h4⟩
      rw [HT.out] at h3
      have H3 := hid h3
      have H4 := hid (HK.out.trans ((Keeps.of HB1.out HBA.out).trans h4))
      clear h3 h4
      go_wp2_with fail
      go_roundw
      case rel => exact ⟨k + 1, by omega, by go_num, H3, H4⟩
      case measure => simp [intOf]; omega
    · have HE := hid (show vs.take k = vs from List.take_of_length_le (by have := HN.out; omega))
      rw [HE.out] at HW
      go_wp2_with fail
      go_end0
      exact ⟨rfl, HW.out, HK.out⟩

set_option maxHeartbeats 2000000 in
set_option maxRecDepth 100000 in
theorem putWrite_any {base p : Nat} {l : List UInt8} {x : Wt} {w : World} (h : Wr w base p l 0) (hk : x.k.length ≤ 64) (hv : x.v.length ≤ 256) (hl : l.length ≤ 1000000) :
    Calls Try.prog 34 #[.pointer (some ⟨p, 0, none⟩), x.val] w (Wrote w base p (l ++ wenc x) 0) := by
  obtain ⟨k, v, g⟩ := x
  unfold Wt.val
  dsimp only at hk hv ⊢
  have HL := hid hl
  have HK := hid hk
  have HV := hid hv
  have HBA := hid h.base
  have hb1 : Below w.heap.size w (w.alloc (.cells #[.string (bst k), .string (bst v), .bool g] 43)) := (Below.refl _ _).alloc (Nat.le_refl _) _
  have HX := hid (Blk.new w 43 #[.string (bst k), .string (bst v), .bool g])
  have HSZ := hid (show (w.alloc (.cells #[.string (bst k), .string (bst v), .bool g] 43)).heap.size = w.heap.size + 1 by simp)
  have H1 := hid (h.step hb1)
  have HK1 := hid (Keeps.of hb1 h.base)
  have HB1 := hid hb1
  clear h hl hk hv hb1
  go_enter Try.func34, Try.ntmps34
  go_wp2_with fail
  generalize (w.alloc (.cells #[.string (bst k), .string (bst v), .bool g] 43)) = w1 at *
  have hbt : Below w1.heap.size w1 (w1.alloc (.cells #[.string (bst k)] 9)) := (Below.refl _ _).alloc (Nat.le_refl _) _
  go_fit (wtext_any (s := k) (H1.out.step hbt) (by have := HK.out; omega) (by have := one_new w1 9 (.string (bst k)); rwa [HSZ.out] at this) (by have := HL.out; omega))
  rintro e w2 ⟨rfl, h2, h3⟩
  have H2 := hid h2
  have hk2 := HK1.out.trans ((Keeps.of hbt H1.out.base).trans h3)
  have HX2 := hid (h3.kept _ _ _ (by decide) (by decide) (HX.out.below hbt HX.out.lt))
  have HK2 := hid hk2
  clear h2 h3 hbt hk2
  obtain ⟨x0, x1, x2, f0, f1, f2⟩ := three HX2.out
  go_wp2_with fail
  go_fit (wflag_any (y := g) H2.out (by have := HL.out; have := HK.out; rw [List.length_append, List.length_append, vbytes_length]; have := vlen_le k.length; omega))
  rintro e w3 ⟨rfl, h4, h5⟩
  have H3 := hid h4
  have HX3 := hid (h5.kept _ _ _ (by decide) (by decide) HX2.out)
  have HK3 := hid (HK2.out.trans h5)
  clear h4 h5 x0 x1 x2 f0 f1 f2
  obtain ⟨x0, x1, x2, f0, f1, f2⟩ := three HX3.out
  cases g with
  | true =>
    go_wp2_with fail
    go_end0
    refine ⟨rfl, ?_, HK3.out⟩
    have := H3.out
    unfold wenc
    simpa using this
  | false =>
    go_wp2_with fail
    have hbt : Below w3.heap.size w3 (w3.alloc (.cells #[.string (bst v)] 9)) := (Below.refl _ _).alloc (Nat.le_refl _) _
    go_fit (wtext_any (s := v) (H3.out.step hbt) (by have := HV.out; omega) (one_new _ _ _) (by have := HL.out; have := HK.out; rw [List.length_append, List.length_append, List.length_append, vbytes_length]; have := vlen_le k.length; simp; omega))
    rintro e w4 ⟨rfl, h6, h7⟩
    have H4 := hid h6
    have HK4 := hid (HK3.out.trans ((Keeps.of hbt H3.out.base).trans h7))
    clear h6 h7 hbt
    go_wp2_with fail
    go_end0
    refine ⟨rfl, ?_, HK4.out⟩
    have := H4.out
    unfold wenc
    simpa using this

set_option maxHeartbeats 2000000 in
set_option maxRecDepth 100000 in
theorem bput_no {c r s C : Nat} {A : Option Addr} {n cap B : Nat} {ws : List Wt} {w : World} (hC : chk ws = C) (h0 : C ≠ 0) (hA : WAt w B A ws) (hn : n = ws.length) (hB : B ≤ w.heap.size) :
    Calls Try.prog 17 #[.agg #[.int .u64 (c : Int), .int .u64 (r : Int), .int .u64 (s : Int), .slice A n cap]] w fun e w' => e = .returned (.tuple #[.slice none 0 0, .int .i64 (C : Int)]) ∧ Below w.heap.size w w' := by
  have hb1 : Below w.heap.size w (w.alloc (.cells #[.int .u64 (c : Int), .int .u64 (r : Int), .int .u64 (s : Int), .slice A n cap] 25)) := (Below.refl _ _).alloc (Nat.le_refl _) _
  have HC3 := hid (Blk.new w 25 #[.int .u64 (c : Int), .int .u64 (r : Int), .int .u64 (s : Int), .slice A n cap])
  have HB1 := hid hb1
  have HSZ := hid (show (w.alloc (.cells #[.int .u64 (c : Int), .int .u64 (r : Int), .int .u64 (s : Int), .slice A n cap] 25)).heap.size = w.heap.size + 1 by simp)
  have HA := hid (hA.below (hb1.mono hB))
  have HBX := hid hB
  have HN := hid hn
  have HCC := hid hC
  have hcz : ((C : Int) != 0) = true := by simp; omega
  have hcz2 : ¬ ((C : Int) = 0) := by omega
  clear hA hn hB hb1 hC
  go_enter Try.func17, Try.ntmps17
  go_wp2_with fail
  generalize (w.alloc (.cells #[.int .u64 (c : Int), .int .u64 (r : Int), .int .u64 (s : Int), .slice A n cap] 25)) = w1 at *
  go_fit (check_any (cap := cap) HA.out HN.out (by rw [HSZ.out]; have := HBX.out; omega))
  rintro e w2 ⟨rfl, hb2⟩
  rw [HCC.out]
  have HB2 := hid (below_step HB1.out hb2)
  clear hb2
  go_wp2_with fail
  go_ret2
  exact ⟨rfl, HB2.out⟩

theorem Row.le {w : World} {base base' e m c : Nat} {A : Option Addr} {l : List UInt8} (h : Row w base e A m c l) (hb : base' ≤ base) : Row w base' e A m c l := ⟨h.1, Joins.ownsRow_le h.2 hb⟩
theorem wencs_snoc {ws : List Wt} {k : Nat} {x : Wt} (h : ws[k]? = some x) : (ws.take (k + 1)).flatMap wenc = (ws.take k).flatMap wenc ++ wenc x := by
  rw [take_snoc h, List.flatMap_append]; simp
theorem wencs_take {ws : List Wt} (hx : ∀ x ∈ ws, x.k.length ≤ 64 ∧ x.v.length ≤ 256) (h8 : ws.length ≤ 8) (k : Nat) : ((ws.take k).flatMap wenc).length ≤ 2800 := by
  have h1 := wencs_len (ws.take k) fun x h => hx x (List.mem_of_mem_take h)
  have h2 : (ws.take k).length ≤ 8 := by rw [List.length_take]; omega
  omega

set_option maxHeartbeats 4000000 in
set_option maxRecDepth 100000 in
theorem bput_yes {c r s : Nat} {A : Option Addr} {n cap B : Nat} {ws : List Wt} {w : World} (hC : chk ws = 0) (hA : WAt w B A ws) (hn : n = ws.length) (hB : B ≤ w.heap.size) (h1 : c < 18446744073709551616) (h2 : r < 18446744073709551616) (h3 : s < 18446744073709551616) :
    Calls Try.prog 17 #[.agg #[.int .u64 (c : Int), .int .u64 (r : Int), .int .u64 (s : Int), .slice A n cap]] w fun e w' =>
      ∃ A' m' c', e = .returned (.tuple #[.slice A' m' c', .int .i64 0]) ∧ Row w' w.heap.size 5 A' m' c' (benc ⟨c, r, s, ws⟩) ∧ Below w.heap.size w w' := by
  have hb1 : Below w.heap.size w (w.alloc (.cells #[.int .u64 (c : Int), .int .u64 (r : Int), .int .u64 (s : Int), .slice A n cap] 25)) := (Below.refl _ _).alloc (Nat.le_refl _) _
  have HC3 := hid (Blk.new w 25 #[.int .u64 (c : Int), .int .u64 (r : Int), .int .u64 (s : Int), .slice A n cap])
  have HB1 := hid hb1
  have HSZ := hid (show (w.alloc (.cells #[.int .u64 (c : Int), .int .u64 (r : Int), .int .u64 (s : Int), .slice A n cap] 25)).heap.size = w.heap.size + 1 by simp)
  have HA := hid (hA.below (hb1.mono hB))
  have HBX := hid hB
  have HN := hid hn
  have HCC := hid hC
  obtain ⟨_, hw8, hwx⟩ := chk_ok hC
  have hn8 : n ≤ 8 := by omega
  have HWX := hid (show ∀ x ∈ ws, x.k.length ≤ 64 ∧ x.v.length ≤ 256 from fun x hx => ⟨(hwx x hx).2.1, (hwx x hx).2.2.1⟩)
  have HW8 := hid hw8
  have HVS := hid (show ∀ v ∈ [c, r, s, n], v < 18446744073709551616 by
    intro v hv
    simp at hv
    rcases hv with rfl | rfl | rfl | rfl
    · exact h1
    · exact h2
    · exact h3
    · omega)
  have HHD := hid (show ([c, r, s, n] : List Nat).flatMap vbytes = bhead c r s n by simp [bhead])
  have HBE := hid (show bhead c r s n ++ ws.flatMap wenc = benc ⟨c, r, s, ws⟩ by rw [hn]; rfl)
  have HBL := hid (bhead_len c r s n)
  clear hA hn hB hb1 hC hw8 hwx h1 h2 h3
  go_enter Try.func17, Try.ntmps17
  go_wp2_with fail
  generalize (w.alloc (.cells #[.int .u64 (c : Int), .int .u64 (r : Int), .int .u64 (s : Int), .slice A n cap] 25)) = w1 at *
  go_fit (check_any (cap := cap) HA.out HN.out (by rw [HSZ.out]; have := HBX.out; omega))
  rintro e w2 ⟨rfl, hb2⟩
  rw [HCC.out]
  have HB2 := hid (below_step HB1.out hb2)
  have HC2 := hid (HC3.out.below hb2 (by rw [HSZ.out]; omega))
  have HA2 := hid (HA.out.below (hb2.mono (by rw [HSZ.out]; have := HBX.out; omega)))
  clear hb2
  go_wp2_with fail
  go_fit (write_any w2)
  rintro e w3 ⟨rfl, hw3, hb3⟩
  have HW3 := hid hw3
  have HB3 := hid (below_step HB2.out hb3)
  have HC3 := hid (HC2.out.below hb3 HC2.out.lt)
  have HLT := hid HC2.out.lt
  have HA3 := hid (HA2.out.below (hb3.mono (by have := HC2.out.lt; have := HBX.out; omega)))
  clear hw3 hb3
  obtain ⟨b0, b1, b2, b3, f0, f1, f2, f3⟩ := four HC3.out
  have hbt : Below w3.heap.size w3 (w3.alloc (.cells #[.int .u64 (c : Int), .int .u64 (r : Int), .int .u64 (s : Int), .int .u64 (n : Int)] 22)) := (Below.refl _ _).alloc (Nat.le_refl _) _
  have HBT := hid hbt
  have HNB := hid (show Blk (w3.alloc (.cells #[.int .u64 (c : Int), .int .u64 (r : Int), .int .u64 (s : Int), .int .u64 (n : Int)] 22)) w3.heap.size 22 (ncs [c, r, s, n]) from Blk.new w3 _ _)
  clear hbt
  go_wp2_with fail
  go_fit (wnums_any (HW3.out.step HBT.out) HNB.out rfl HVS.out (by simp))
  rintro e w4 ⟨rfl, hw4, hk4⟩
  rw [HHD.out] at hw4
  have HW4 := hid hw4
  have HK4 := hid ((Keeps.of HBT.out HW3.out.base).trans hk4)
  have HC4 := hid (HK4.out.kept _ _ _ (by decide) (by decide) HC3.out)
  clear hw4 hk4 b0 b1 b2 b3 f0 f1 f2 f3
  obtain ⟨b0, b1, b2, b3, f0, f1, f2, f3⟩ := four HC4.out
  go_wp2_with fail
  go_loopw [29] (fun i wr => ∃ k : Nat, k ≤ n ∧ i = .int .i64 (k : Int) ∧ Kept (Wr wr w2.heap.size w2.heap.size (bhead c r s n ++ (ws.take k).flatMap wenc) 0) ∧ Kept (Keeps w2.heap.size w3 wr)) (fun i _ => n - (intOf i).toNat)
  case atStart => exact ⟨0, Nat.zero_le _, rfl, hid (by simpa using HW4.out), HK4⟩
  case round =>
    clear b0 b1 b2 b3 f0 f1 f2 f3
    obtain ⟨k, hk, rfl, HW, HK⟩ := hrel
    have HCR := hid (HK.out.kept _ _ _ (by decide) (by decide) HC3.out)
    obtain ⟨b0, b1, b2, b3, f0, f1, f2, f3⟩ := four HCR.out
    by_cases hlt : k < n
    · obtain ⟨b, off, x, rfl, hb, hx, d0, d1, d2⟩ := (HA3.out.below (HK.out.below.mono (by have := HLT.out; have := HBX.out; omega))).get (k := k) (by rw [← HN.out]; exact hlt)
      have HXM := hid (HWX.out x (List.mem_of_getElem? hx))
      have HSN := hid (wencs_snoc hx)
      have HLL := hid (show (bhead c r s n ++ (ws.take k).flatMap wenc).length ≤ 1000000 by rw [List.length_append]; have := HBL.out; have := wencs_take HWX.out HW8.out k; omega)
      have HP := hid (putWrite_any HW.out HXM.out.1 HXM.out.2 HLL.out)
      unfold Wt.val at HP
      clear hx
      go_wp2_with fail
      go_fit HP.out
      rintro e w5 ⟨rfl, hw5, hk5⟩
      rw [List.append_assoc, ← HSN.out] at hw5
      have HW5 := hid hw5
      have HK5 := hid (HK.out.trans hk5)
      clear hw5 hk5
      go_wp2_with fail
      go_roundw
      case rel => exact ⟨k + 1, by omega, by go_num, HW5, HK5⟩
      case measure => simp [intOf]; omega
    · have HE := hid (show ws.take k = ws from List.take_of_length_le (by have := HN.out; omega))
      rw [HE.out, HBE.out] at HW
      have HLL := hid (show (benc ⟨c, r, s, ws⟩).length ≤ 140737488351232 by
        rw [← HBE.out, List.length_append]; have := HBL.out; have := wencs_take HWX.out HW8.out k; rw [HE.out] at this; omega)
      go_wp2_with fail
      go_fit (bytes_any HW.out HLL.out)
      rintro e w6 ⟨A', m', c', rfl, hr6, hb6⟩
      have hlew : w.heap.size ≤ wr.heap.size := by have := HW.out.base; have := HLT.out; omega
      have HR6 := hid (hr6.le hlew)
      have HB6 := hid (below_step (HB3.out.trans (HK.out.below.mono (Nat.le_of_lt HLT.out))) hb6)
      clear hr6 hb6
      go_wp2_with fail
      go_ret2
      exact ⟨_, _, _, rfl, HR6.out, HB6.out⟩

end Go.Proofs.Ytcdjbacljnofiaa
