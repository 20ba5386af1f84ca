/-
  The landed Bytes.
-/
import Derived.Test.YtikggbopoajcbaaDoorPgCheck
import Derived.Test.YtikggbopoajcbaaDoorPgFn
import Derived.Test.YtikggbopoajcbaaDoorJCode
import Derived.Test.YtikggbopoajcbaaDoorJSum
import Derived.Test.YtikggbopoajcbaaDoorTab
namespace Go.Proofs.YtikggbopoajcbaaDoor
open Go Go.RowKit

set_option maxHeartbeats 4000000 in
set_option maxRecDepth 100000 in
theorem pbytes_no {leaf : Bool} {next : Int} {A : Option Addr} {n c B C : Nat} {l : List Cl} {w : World} (h : CS w B A n c l) (hs : csum l ≤ 4398046511104) (hn : next ≤ 9223372036854775807) (hC : pchk next l = C) (h0 : C ≠ 0) :
    Calls Tryd.prog 12 #[pageV leaf next A n c] w fun e w' => e = .returned (.tuple #[.slice none 0 0, .int .i64 (C : Int)]) ∧ Below w.heap.size w w' := by
  have hb1 : Below w.heap.size w (w.alloc (.cells #[.bool leaf, .int .i64 next, .slice A n c] 24)) := (Below.refl _ _).alloc (Nat.le_refl _) _
  have HB := hid hb1
  have HX := hid (Blk.new w 24 #[.bool leaf, .int .i64 next, .slice A n c])
  have HK := hid (pcheck_any (leaf := leaf) (h.step hb1) hs hn)
  rw [hC] at HK
  have hk2 : ((C : Int) != 0) = true := (nat_ne h0).2
  clear h hs hn hC h0 hb1
  unfold pageV at HK ⊢
  go_enter Tryd.func12, Tryd.ntmps12
  go_wp2_with fail
  generalize w.alloc (.cells #[.bool leaf, .int .i64 next, .slice A n c] 24) = w1 at *
  obtain ⟨g, hg⟩ : ∃ g, w.heap.size = g := ⟨_, rfl⟩
  rw [hg] at HX ⊢
  have HGE := hid hg
  clear hg
  have x0 := HX.out.cell 0
  have x1 := HX.out.cell 1
  have x2 := HX.out.cell 2
  go_fit HK.out
  rintro e w2 ⟨rfl, hb2⟩
  have HB2 := hid (below_step HB.out hb2)
  clear hb2
  go_wp2_with fail
  go_ret2
  exact ⟨rfl, HB2.out⟩

set_option maxHeartbeats 4000000 in
set_option maxRecDepth 100000 in
theorem pbytes_yes {leaf : Bool} {next : Int} {A : Option Addr} {n c B : Nat} {l : List Cl} {w : World} (h : CS w B A n c l) (hC : pchk next l = 0) (hT : Table w) :
    Calls Tryd.prog 12 #[pageV leaf next A n c] w fun e w' => ∃ A' m' c', e = .returned (.tuple #[.slice A' m' c', .int .i64 0]) ∧ Row w' w.heap.size 5 A' m' c' (pfields leaf next.toNat l ++ sum4 (pfields leaf next.toNat l)) ∧ Below w.heap.size w w' := by
  obtain ⟨n0, n1, hcc, hpz⟩ := pchk_ok hC
  obtain ⟨V, rfl⟩ : ∃ V : Nat, next = (V : Int) := ⟨next.toNat, by omega⟩
  rw [show ((V : Int)).toNat = V from rfl] at hpz ⊢
  have hs : csum l ≤ 2048 := by unfold psize at hpz; omega
  have HSH := hid (chkC_short hcc)
  have hV : V ≤ 256 := by omega
  have hb1 : Below w.heap.size w (w.alloc (.cells #[.bool leaf, .int .i64 (V : Int), .slice A n c] 24)) := (Below.refl _ _).alloc (Nat.le_refl _) _
  have HB := hid hb1
  have HX := hid (Blk.new w 24 #[.bool leaf, .int .i64 (V : Int), .slice A n c])
  have HC := hid (h.step hb1)
  have HK := hid (pcheck_any (leaf := leaf) (next := (V : Int)) (h.step hb1) (by omega) (by omega))
  rw [hC] at HK
  have HT := hid hT
  have HLN := hid h.len
  have hmost : n ≤ 1024 := by have := csum_two l; rw [h.len]; omega
  have HFL := hid (show (pfields leaf V l).length ≤ 2048 by have := pfields_len leaf V l; omega)
  have HS := hid hs
  clear h hC hb1 hpz hcc n0 n1 hT hs
  unfold pageV at HK ⊢
  go_enter Tryd.func12, Tryd.ntmps12
  go_wp2_with fail
  generalize w.alloc (.cells #[.bool leaf, .int .i64 (V : Int), .slice A n c] 24) = w1 at *
  obtain ⟨g, hg⟩ : ∃ g, w.heap.size = g := ⟨_, rfl⟩
  rw [hg] at HX ⊢
  have HGE := hid hg
  clear hg
  have x0 := HX.out.cell 0
  have x1 := HX.out.cell 1
  have x2 := HX.out.cell 2
  go_fit HK.out
  rintro e w2 ⟨rfl, hb2⟩
  have HB2 := hid (below_step HB.out hb2)
  have HX2 := hid (HX.out.below hb2 HX.out.lt)
  have HC2 := hid (HC.out.step hb2)
  have hlow := (HC.out.step hb2).low
  clear hb2 x0 x1 x2 HX HC HB HK
  have x0 := HX2.out.cell 0
  have x1 := HX2.out.cell 1
  have x2 := HX2.out.cell 2
  go_wp2_with fail
  go_fit (write_any w2)
  rintro e w3 ⟨rfl, hw3, hb3⟩
  have HBL := hid hlow
  have HG2 := hid HX2.out.lt
  obtain ⟨p, hp⟩ : ∃ p, w2.heap.size = p := ⟨_, rfl⟩
  rw [hp] at hw3 ⊢
  have HP := hid hp
  have HW3 := hid hw3
  have HK3 := hid (Keeps.of hb3 (Nat.le_of_eq hp.symm))
  clear hw3 hb3 hp hlow
  have y0 := (HK3.out.kept _ _ _ (by decide) (by decide) HX2.out).cell 0
  go_wp2_with fail
  go_fit (wflag_any HW3.out (by simp))
  rintro e w4 ⟨rfl, q1, q2⟩
  rw [List.nil_append] at q1
  have HK4 := hid (HK3.out.trans q2)
  have HB5 := hid (show Below w4.heap.size w4 (w4.alloc (.cells #[.int .u64 (V : Int), .int .u64 (n : Int)] 57)) from (Below.refl _ _).alloc (Nat.le_refl _) _)
  have HW5 := hid (q1.step HB5.out)
  have HT5 := hid (Blk.new w4 57 #[.int .u64 (V : Int), .int .u64 (n : Int)])
  have hpg := HK4.out.kept _ _ _ (by decide) (by decide) HX2.out
  have y1 := hpg.cell 1
  have y2 := hpg.cell 2
  clear q1 q2 hpg HW3 x0 x1 x2 y0
  go_wp2_with fail
  go_fit (wnum2_any (v1 := V) (v2 := n) HW5.out (by omega) (by omega) HT5.out (by simp))
  rintro e w5 ⟨rfl, q1, q2⟩
  have HK5 := hid (HK4.out.trans ((Keeps.of HB5.out (by have := HK4.out.below.size; have := HP.out; omega)).trans q2))
  obtain ⟨HD, hHD⟩ : ∃ HD, HD = [if leaf then 1 else 0] ++ vbytes V ++ vbytes n := ⟨_, rfl⟩
  rw [← hHD] at q1
  have HHD := hid hHD
  have HHL := hid (show HD.length ≤ 100 by rw [hHD]; simp only [List.length_append, List.length_singleton, vbytes_length]; have := vlen_le V; have := vlen_le n; omega)
  have HW6 := hid q1
  have hpg := HK5.out.kept _ _ _ (by decide) (by decide) HX2.out
  have y2 := hpg.cell 2
  clear q1 q2 hpg HK4 HB5 HW5 HT5 y1 hHD HK3
  go_wp2_with fail
  go_loopw [7, 33] (fun _ i wr => ∃ k : Nat, k ≤ n ∧ i = .int .i64 (k : Int) ∧ Kept (Wr wr p p (HD ++ cencs (l.take k)) 0) ∧ Kept (Keeps p w2 wr)) (fun _ i _ => n - (intOf i).toNat)
  case atStart => exact ⟨0, Nat.zero_le _, rfl, by simpa [cencs] using HW6, HK5⟩
  case round =>
    obtain ⟨k, hk, rfl, HW, HK⟩ := hrel
    clear HW6 HK5 y2
    have HUL := hid (show (HD ++ cencs (l.take k)).length ≤ 5000 by rw [List.length_append, cencs_len]; have := csum_takes l k; have := HS.out; have := HHL.out; omega)
    by_cases hlt : k < n
    · obtain ⟨b, off, x, rfl, hb, hx, c0, c1⟩ := (HC2.out.below HK.out.below (by have := HBL.out; have := HP.out; omega)).at_.get (i := k) (by rw [← HLN.out]; exact hlt)
      have hxs := HSH.out x (List.mem_of_getElem? hx)
      have HXS := hid (show x.k.length ≤ 65536 ∧ x.v.length ≤ 65536 from ⟨by omega, by omega⟩)
      have HUN := hid (show (HD ++ cencs (l.take k)) ++ (vbytes x.k.length ++ x.k) ++ (vbytes x.v.length ++ x.v) = HD ++ cencs (l.take (k + 1)) by rw [cencs_take hx]; simp [cenc, tenc])
      have HB7 := hid (show Below wr.heap.size wr ((wr.alloc (.cells #[.string (bst x.k), .string (bst x.v)] 44)).alloc (.cells #[.string (bst x.k), .string (bst x.v)] 9)) from ((Below.refl _ _).alloc (Nat.le_refl _) _).alloc (by simp) _)
      have HT7 := hid (show Blk ((wr.alloc (.cells #[.string (bst x.k), .string (bst x.v)] 44)).alloc (.cells #[.string (bst x.k), .string (bst x.v)] 9)) (wr.heap.size + 1) 9 #[.string (bst x.k), .string (bst x.v)] by
        have := Blk.new (wr.alloc (.cells #[.string (bst x.k), .string (bst x.v)] 44)) 9 #[.string (bst x.k), .string (bst x.v)]
        rwa [show (wr.alloc (.cells #[.string (bst x.k), .string (bst x.v)] 44)).heap.size = wr.heap.size + 1 by simp] at this)
      have HW7 := hid (HW.out.step HB7.out)
      clear hx hxs hb HW
      go_wp2_with fail
      go_fit (wtext2_any HW7.out HXS.out.1 HXS.out.2 HT7.out (by have := HUL.out; omega))
      rintro e w8 ⟨rfl, q1, q2⟩
      rw [HUN.out] at q1
      have HW8 := hid q1
      have HK8 := hid (HK.out.trans ((Keeps.of HB7.out (by have := HK.out.below.size; have := HP.out; omega)).trans q2))
      clear q1 q2
      go_wp2_with fail
      go_roundw
      case rel => exact ⟨k + 1, by omega, by go_num, HW8, HK8⟩
      case measure => simp [intOf]; omega
    · have HE := hid (show HD ++ cencs (l.take k) = pfields leaf V l by rw [List.take_of_length_le (by rw [← HLN.out]; omega), HHD.out, HLN.out]; rfl)
      rw [HE.out] at HW
      have HBW := hid (HB2.out.trans (HK.out.below.mono (by have := HP.out; have := HB2.out.size; omega)))
      clear HUL
      go_wp2_with fail
      go_fit (bytes_any HW.out (by have := HFL.out; omega))
      rintro e w8 ⟨A8, m8, c8, rfl, hr8, hb8⟩
      have HB8 := hid (below_step HBW.out hb8)
      have HR8 := hid hr8
      clear hr8 hb8
      go_wp2_with fail
      go_fit (seal_any _ _ _ _ _ _ HR8.out.1 HR8.out.at_ (Nat.le_refl _) (by have := HFL.out; omega) (HT.out.step HB8.out))
      rintro e w9 ⟨A9, m9, c9, rfl, hr9, hb9⟩
      have HB9 := hid (below_step HB8.out hb9)
      have HR9 := hid (show Row w9 w.heap.size 5 A9 m9 c9 _ from ⟨hr9.1, Joins.ownsRow_le hr9.2 HB8.out.size⟩)
      clear hr9 hb9
      go_wp2_with fail
      go_ret2
      exact ⟨A9, m9, c9, rfl, HR9.out, HB9.out⟩

end Go.Proofs.YtikggbopoajcbaaDoor
