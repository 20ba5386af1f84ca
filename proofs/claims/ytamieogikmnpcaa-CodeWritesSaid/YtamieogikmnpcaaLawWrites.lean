/-
  CodeWrites: its walk.
-/
import Derived.Test.YtamieogikmnpcaaFields
import Derived.Test.YtamieogikmnpcaaRefCode
namespace Go.Proofs.Ytamieogikmnpcaa
open Go Go.RowKit

/-- the field that is put: of one of the four kinds, its text cut -/
def ct (f : Fd) : Fd := { kd f with s := f.s.take 200 }
theorem ct_len (f : Fd) : (enc (ct f)).length ≤ 220 := by
  have h := enc_len (ct f)
  have h2 : (ct f).s.length ≤ 200 := by show (f.s.take 200).length ≤ 200; rw [List.length_take]; omega
  omega
def encw (fs : List Fd) : List UInt8 := fs.flatMap fun f => enc (ct f)
theorem encw_snoc {fs : List Fd} {k : Nat} {f : Fd} (h : fs[k]? = some f) : encw (fs.take (k + 1)) = encw (fs.take k) ++ enc (ct f) := by
  obtain ⟨hk, hf⟩ := List.getElem?_eq_some_iff.1 h
  rw [List.take_succ_eq_append_getElem hk, hf]
  simp [encw]
theorem encw_len {fs : List Fd} : ∀ k, (encw (fs.take k)).length ≤ 220 * k
  | 0 => by simp [encw]
  | k + 1 => by
    have h1 := encw_len (fs := fs) k
    by_cases hk : k < fs.length
    · have hf : fs[k]? = some fs[k] := List.getElem?_eq_getElem hk
      rw [encw_snoc hf, List.length_append]
      have h2 := ct_len fs[k]
      omega
    · rw [List.take_of_length_le (by omega)] at h1 ⊢
      omega

theorem bs_zeros (n : Nat) : bs (List.replicate n 0) = List.replicate n (.int .u8 0) := by simp [bs]

theorem put_ct {base p : Nat} {l s' : List UInt8} {w : World} {K : Int} (f : Fd) (h : Wr w base p l 0) (hv : f.v < 18446744073709551616) (hs : s' = f.s.take 200) (hK : K = (k3 f.k : Int)) (hl : l.length ≤ 1099511600000) :
    Calls Try.prog 11 #[.pointer (some ⟨p, 0, none⟩), .agg #[.int .i64 K, .int .u64 (f.v : Int), .string (bst s'), .bool f.y, .int .i64 f.m]] w (Wrote w base p (l ++ enc (ct f)) 0) := by
  subst hs hK
  exact put_any (ct f) h hv (show (f.s.take 200).length ≤ 65536 by rw [List.length_take]; omega) hl
theorem put_ct_not {base p : Nat} {l s' : List UInt8} {w : World} {K : Int} (f : Fd) (h : Wr w base p l 32) (hv : f.v < 18446744073709551616) (hs : s' = f.s.take 200) (hK : K = (k3 f.k : Int)) :
    Calls Try.prog 11 #[.pointer (some ⟨p, 0, none⟩), .agg #[.int .i64 K, .int .u64 (f.v : Int), .string (bst s'), .bool f.y, .int .i64 f.m]] w (Wrote w base p l 32) := by
  subst hs hK
  exact put_not (ct f) h hv (show (f.s.take 200).length ≤ 65536 by rw [List.length_take]; omega)
theorem refPut_ct {s' : List UInt8} {K : Int} (f : Fd) (w : World) (hv : f.v < 18446744073709551616) (hs : s' = f.s.take 200) (hK : K = (k3 f.k : Int)) {eb : List UInt8} (he : eb = enc (ct f)) :
    Calls Try.prog 12 #[.agg #[.int .i64 K, .int .u64 (f.v : Int), .string (bst s'), .bool f.y, .int .i64 f.m]] w fun e w' => e = .returned (.string (bst eb)) ∧ Below w.heap.size w w' := by
  subst hs hK he
  exact refPut_any (ct f) w hv (show (f.s.take 200).length ≤ 65536 by rw [List.length_take]; omega)
theorem make_zeros {fm : Int} {M : Nat} (hM : fm = M) (hM2 : M ≤ 1000000) (W : World) :
    (Instr.makeSlice 30 (.int .i64 fm) (.int .i64 fm)).run Try.prog W = .ok (.slice (some ⟨W.heap.size, 0, none⟩) M M) (W.alloc (.cells (List.replicate M (.int .u8 0)).toArray 5)) := by
  subst hM
  obtain ⟨i0, hi, hz0, hz1, hz2⟩ := info_parts info_byte
  have hrun := run_make (P := Try.prog) W 30 5 i0 (.int .u8 0) Try.underlying30 hi hz0 .i64 .i64 M M (by omega) (by omega) (by rw [hz2]; omega) (by omega)
  have e2 : (M : Int).toNat = M := by omega
  have e4 : madeCells (Value.int .u8 0).cells M = (List.replicate M (Value.int .u8 0)).toArray := by
    apply Array.toList_inj.1
    rw [show (Value.int .u8 0).cells = #[Value.int .u8 0] from rfl, toList_madeCells_one]
  rw [e2, hz1, Nat.mul_one, e4] at hrun
  exact hrun
theorem str_zeros (n : Nat) (W : World) :
    (convert 30 9 (.slice (some ⟨W.heap.size, 0, none⟩) n n)).run Try.prog (W.alloc (.cells (List.replicate n (.int .u8 0)).toArray 5)) = .ok (.string (bst (List.replicate n 0))) (W.alloc (.cells (List.replicate n (.int .u8 0)).toArray 5)) := by
  have h := At.lits W (List.replicate n 0) 5 (g := W.heap.size) rfl
  rw [bs_zeros] at h
  exact str_of h (by simp)

/-- where the writer is -/
inductive AtW (fs : List Fd) (base p k : Nat) (want : Value) : Bool → World → Prop
  | good {w : World} (h : Wr w base p (encw (fs.take k)) 0) (hw : want = .string (bst (encw (fs.take k)))) : AtW fs base p k want false w
  | long {w : World} (l : List UInt8) (h : Wr w base p l 32) : AtW fs base p k want true w

set_option maxRecDepth 100000 in
set_option maxHeartbeats 4000000 in
theorem writes_walk {A : Option Addr} {c : Nat} (fs : List Fd) (w : World) (hA : FAt w w.heap.size A fs) (hc : fs.length ≤ c) (hl : fs.length ≤ 9223372036854775807) :
    Calls Try.prog 3 #[.slice A fs.length c] w fun e w' => e = .returned (.bool true) ∧ Below w.heap.size w w' := by
  obtain ⟨i0, hi, hz0, hz1, hz2⟩ := info_parts info_byte
  have HI := hid hi
  have HZ0 := hid hz0
  have HZ1 := hid hz1
  have HZ2 := hid hz2
  clear hi hz0 hz1 hz2
  have HA := hid hA
  obtain ⟨n, hn⟩ : ∃ n, n = fs.length := ⟨_, rfl⟩
  rw [← hn] at hc hl ⊢
  have HN := hid hn
  clear hA hn
  by_cases hlen : 50 < n
  · go_enter Try.func3, Try.ntmps3
    go_wp2_with fail
    go_fit (write_any w)
    rintro e w1 ⟨rfl, hw1, hb1⟩
    have HB1 := hid hb1
    clear hw1 hb1
    go_wp2_with fail
    go_fit (awake_yes w1)
    rintro e w2 ⟨rfl, hb2⟩
    have HB2 := hid (below_step HB1.out hb2)
    clear hb2
    go_wp2_with fail
    go_fit (awake_yes w2)
    rintro e w3 ⟨rfl, hb3⟩
    have HB3 := hid (below_step HB2.out hb3)
    clear hb3
    go_wp2_with fail
    go_ret
    exact ⟨rfl, HB3.out⟩
  · go_enter Try.func3, Try.ntmps3
    go_wp2_with fail
    go_fit (write_any w)
    rintro e w1 ⟨rfl, hw1, hb1⟩
    have HW1 := hid hw1
    have HB1 := hid hb1
    clear hw1 hb1
    go_wp2_with fail
    go_fit (awake_yes w1)
    rintro e w2 ⟨rfl, hb2⟩
    have HW2 := hid (HW1.out.step hb2)
    have HB2 := hid (below_step HB1.out hb2)
    clear hb2
    go_wp2_with fail
    go_loopw [4, 5, 6] (fun s b i wr => ∃ (k : Nat) (long : Bool), k ≤ n ∧ i = .int .i64 (k : Int) ∧ b = .bool long ∧ AtW fs w.heap.size w.heap.size k s long wr ∧ Below w.heap.size w wr) (fun _ _ i _ => n - (intOf i).toNat)
    case atStart => exact ⟨0, false, by omega, rfl, rfl, .good HW2.out rfl, HB2.out⟩
    case round =>
      obtain ⟨k, long, hk, rfl, rfl, hat, hbr⟩ := hrel
      have HBR := hid hbr
      clear hbr
      by_cases hlt : k < n
      · obtain ⟨b, off, f, rfl, hb, hf, hok, hcells⟩ := (HA.out.below HBR.out).get (k := k) (by rw [← HN.out]; exact hlt)
        obtain ⟨c0, c1, c2, c3, c4⟩ := hcells
        have HF := hid hf
        have HOK := hid hok
        have HV := hid hok.v
        have hz := bst_size f.s
        obtain ⟨s', hs'⟩ : ∃ s', s' = f.s.take 200 := ⟨_, rfl⟩
        have hex : (bst f.s).extract 0 200 = bst s' := by rw [hs']; exact bst_take f.s 200
        have HS' := hid hs'
        have hs200 := hid (show s'.length ≤ 200 by rw [hs', List.length_take]; omega)
        obtain ⟨q, hq⟩ : ∃ q, q = k3 f.k := ⟨_, rfl⟩
        have HQ3 := hid (show q ≤ 3 by rw [hq]; exact (k3_spec f.k).2)
        obtain ⟨fk, fv, fsx, fy, fm⟩ := f
        dsimp only at hz hex c0 c1 c2 c3 c4 hq HS'
        have HQ := hid hq
        clear hq
        clear hf hok hs'
        have hways : ((q : Int) == 1) = false ∨ (q = 1 ∧ fm ≤ 70000) ∨ (q = 1 ∧ 70000 < fm ∧ 80000 ≤ fm) ∨ (q = 1 ∧ 70000 < fm ∧ fm < 80000) := by
          by_cases h1 : q = 1
          · omega
          · left; simp; omega
        by_cases hcut : 200 < fsx.length
        · have hci : (200 : Int) < (fsx.length : Int) := by omega
          have hci2 : (200 : Int) ≤ (fsx.length : Int) := by omega
          cases hat with
          | good h hw =>
            subst hw
            have HWR := hid h
            clear h
            obtain ⟨a, ha⟩ : ∃ a, a = encw (fs.take k) := ⟨_, rfl⟩
            rw [← ha]
            have HAK := hid (show a.length ≤ 220 * k by rw [ha]; exact encw_len k)
            obtain ⟨eb, heb⟩ : ∃ eb, eb = enc (ct ⟨fk, fv, fsx, fy, fm⟩) := ⟨_, rfl⟩
            have HEB := hid heb
            have heb2 : eb.length ≤ 220 := by rw [heb]; exact ct_len _
            have hza := bst_size a
            have hzb := bst_size eb
            have happ := bst_append a eb
            have hns : ¬ (9223372036854775807 < a.length + eb.length) := by have := HAK.out; omega
            have HE := hid (show encw (fs.take k) ++ enc (ct ⟨fk, fv, fsx, fy, fm⟩) = a ++ eb by rw [ha, heb])
            clear ha heb heb2
            rcases hways with hq1 | ⟨rfl, hm⟩ | ⟨rfl, hm1, hm2⟩ | ⟨rfl, hm1, hm2⟩
            · skip
              go_wp2_with fail
              go_fit (kinds_is (q := q) ⟨fk, fv, fsx, fy, fm⟩ wr HQ.out.symm)
              rintro e w3 ⟨rfl, hb3⟩
              dsimp only
              have HB3 := hid (below_step HBR.out hb3)
              have HW3 := hid (HWR.out.step hb3)
              have HBB3 := hid (Nat.le_trans (HBR.out.size) hb3.size)
              clear hb3 c0 c1 c2 c3 c4
              go_wp2_with fail
              go_fit (put_ct ⟨fk, fv, fsx, fy, fm⟩ (HW3.out.step ((Below.refl _ _).alloc (Nat.le_refl _) _)) HV.out HS'.out (by show _ = ((k3 fk : Nat) : Int); have := HQ.out; omega) (by have := encw_len (fs := fs) k; omega))
              rintro e w4 ⟨rfl, h4, h5⟩
              have H4 := hid h4
              have b4 := h5.kept _ _ _ (by decide) (by decide) (Blk.new w3 _ _)
              obtain ⟨x0, x1, x2, x3, x4, g0, g1, g2, g3, g4⟩ := five b4
              have H5 := hid (HB3.out.trans (((Below.refl _ w3).alloc HBB3.out _).trans h5.below))
              clear h4 h5 b4
              go_wp2_with fail
              go_fit (refPut_ct ⟨fk, fv, fsx, fy, fm⟩ w4 HV.out HS'.out (by show _ = ((k3 fk : Nat) : Int); have := HQ.out; omega) HEB.out)
              rintro e w5 ⟨rfl, h6⟩
              have H6 := hid (below_step H5.out h6)
              have H7 := hid (H4.out.step h6)
              clear h6
              go_wp2_with fail
              go_roundw
              case rel => exact ⟨k + 1, false, by omega, by go_num, rfl, .good (by rw [encw_snoc HF.out]; exact H7.out) (by rw [encw_snoc HF.out, HE.out]), H6.out⟩
              case measure => simp [intOf]; omega
            · skip
              go_wp2_with fail
              go_fit (kinds_is (q := 1) ⟨fk, fv, fsx, fy, fm⟩ wr HQ.out.symm)
              rintro e w3 ⟨rfl, hb3⟩
              dsimp only
              have HB3 := hid (below_step HBR.out hb3)
              have HW3 := hid (HWR.out.step hb3)
              have HBB3 := hid (Nat.le_trans (HBR.out.size) hb3.size)
              clear hb3 c0 c1 c2 c3 c4
              go_wp2_with fail
              go_fit (put_ct ⟨fk, fv, fsx, fy, fm⟩ (HW3.out.step ((Below.refl _ _).alloc (Nat.le_refl _) _)) HV.out HS'.out (by show _ = ((k3 fk : Nat) : Int); have := HQ.out; omega) (by have := encw_len (fs := fs) k; omega))
              rintro e w4 ⟨rfl, h4, h5⟩
              have H4 := hid h4
              have b4 := h5.kept _ _ _ (by decide) (by decide) (Blk.new w3 _ _)
              obtain ⟨x0, x1, x2, x3, x4, g0, g1, g2, g3, g4⟩ := five b4
              have H5 := hid (HB3.out.trans (((Below.refl _ w3).alloc HBB3.out _).trans h5.below))
              clear h4 h5 b4
              go_wp2_with fail
              go_fit (refPut_ct ⟨fk, fv, fsx, fy, fm⟩ w4 HV.out HS'.out (by show _ = ((k3 fk : Nat) : Int); have := HQ.out; omega) HEB.out)
              rintro e w5 ⟨rfl, h6⟩
              have H6 := hid (below_step H5.out h6)
              have H7 := hid (H4.out.step h6)
              clear h6
              go_wp2_with fail
              go_roundw
              case rel => exact ⟨k + 1, false, by omega, by go_num, rfl, .good (by rw [encw_snoc HF.out]; exact H7.out) (by rw [encw_snoc HF.out, HE.out]), H6.out⟩
              case measure => simp [intOf]; omega
            · skip
              go_wp2_with fail
              go_fit (kinds_is (q := 1) ⟨fk, fv, fsx, fy, fm⟩ wr HQ.out.symm)
              rintro e w3 ⟨rfl, hb3⟩
              dsimp only
              have HB3 := hid (below_step HBR.out hb3)
              have HW3 := hid (HWR.out.step hb3)
              have HBB3 := hid (Nat.le_trans (HBR.out.size) hb3.size)
              clear hb3 c0 c1 c2 c3 c4
              go_wp2_with fail
              go_fit (put_ct ⟨fk, fv, fsx, fy, fm⟩ (HW3.out.step ((Below.refl _ _).alloc (Nat.le_refl _) _)) HV.out HS'.out (by show _ = ((k3 fk : Nat) : Int); have := HQ.out; omega) (by have := encw_len (fs := fs) k; omega))
              rintro e w4 ⟨rfl, h4, h5⟩
              have H4 := hid h4
              have b4 := h5.kept _ _ _ (by decide) (by decide) (Blk.new w3 _ _)
              obtain ⟨x0, x1, x2, x3, x4, g0, g1, g2, g3, g4⟩ := five b4
              have H5 := hid (HB3.out.trans (((Below.refl _ w3).alloc HBB3.out _).trans h5.below))
              clear h4 h5 b4
              go_wp2_with fail
              go_fit (refPut_ct ⟨fk, fv, fsx, fy, fm⟩ w4 HV.out HS'.out (by show _ = ((k3 fk : Nat) : Int); have := HQ.out; omega) HEB.out)
              rintro e w5 ⟨rfl, h6⟩
              have H6 := hid (below_step H5.out h6)
              have H7 := hid (H4.out.step h6)
              clear h6
              go_wp2_with fail
              go_roundw
              case rel => exact ⟨k + 1, false, by omega, by go_num, rfl, .good (by rw [encw_snoc HF.out]; exact H7.out) (by rw [encw_snoc HF.out, HE.out]), H6.out⟩
              case measure => simp [intOf]; omega
            · skip
              go_wp2_with fail
              go_fit (kinds_is (q := 1) ⟨fk, fv, fsx, fy, fm⟩ wr HQ.out.symm)
              rintro e w3 ⟨rfl, hb3⟩
              dsimp only
              have HB3 := hid (below_step HBR.out hb3)
              have HW3 := hid (HWR.out.step hb3)
              have HBB3 := hid (Nat.le_trans (HBR.out.size) hb3.size)
              clear hb3 c0 c1 c2 c3 c4
              obtain ⟨M, hM⟩ : ∃ M : Nat, fm = M := ⟨fm.toNat, by omega⟩
              have hM2 : M < 80000 := by omega
              have hcv := str_zeros M (w3.alloc (.cells #[.int .i64 1, .int .u64 (fv : Int), .string (bst s'), .bool fy, .int .i64 fm] 28))
              have hmk := make_zeros hM (by omega) (w3.alloc (.cells #[.int .i64 1, .int .u64 (fv : Int), .string (bst s'), .bool fy, .int .i64 fm] 28))
              rw [show (w3.alloc (.cells #[.int .i64 1, .int .u64 (fv : Int), .string (bst s'), .bool fy, .int .i64 fm] 28)).heap.size = w3.heap.size + 1 by simp] at hcv hmk
              obtain ⟨T, hT⟩ : ∃ T, T = bst (List.replicate M 0) := ⟨_, rfl⟩
              rw [← hT] at hcv
              have HT := hid (show 65536 < T.size by rw [hT, bst_size, List.length_replicate]; omega)
              obtain ⟨Z, hZ⟩ : ∃ Z, Z = (List.replicate M (Value.int .u8 0)).toArray := ⟨_, rfl⟩
              rw [← hZ] at hcv hmk
              clear hT hM hM2 hZ
              go_wp2_with fail
              go_fit (put_long (fv : Int) fm T fy (HW3.out.step (((Below.refl _ _).alloc (Nat.le_refl _) _).alloc (by simp) _)) HT.out)
              rintro e w4 ⟨rfl, h4, h5⟩
              have H4 := hid h4
              have H5 := hid (HB3.out.trans ((((Below.refl _ w3).alloc HBB3.out _).alloc (by have := HBB3.out; simp; omega) _).trans h5.below))
              clear h4 h5
              go_wp2_with fail
              go_roundw
              case rel => exact ⟨k + 1, true, by omega, by go_num, rfl, .long _ H4.out, H5.out⟩
              case measure => simp [intOf]; omega
          | long l h =>
            have HWR := hid h
            clear h
            rcases hways with hq1 | ⟨rfl, hm⟩ | ⟨rfl, hm1, hm2⟩ | ⟨rfl, hm1, hm2⟩
            · skip
              go_wp2_with fail
              go_fit (kinds_is (q := q) ⟨fk, fv, fsx, fy, fm⟩ wr HQ.out.symm)
              rintro e w3 ⟨rfl, hb3⟩
              dsimp only
              have HB3 := hid (below_step HBR.out hb3)
              have HW3 := hid (HWR.out.step hb3)
              have HBB3 := hid (Nat.le_trans (HBR.out.size) hb3.size)
              clear hb3 c0 c1 c2 c3 c4
              go_wp2_with fail
              go_fit (put_ct_not ⟨fk, fv, fsx, fy, fm⟩ (HW3.out.step ((Below.refl _ _).alloc (Nat.le_refl _) _)) HV.out HS'.out (by show _ = ((k3 fk : Nat) : Int); have := HQ.out; omega))
              rintro e w4 ⟨rfl, h4, h5⟩
              have H4 := hid h4
              have H5 := hid (HB3.out.trans (((Below.refl _ w3).alloc HBB3.out _).trans h5.below))
              clear h4 h5
              go_wp2_with fail
              go_roundw
              case rel => exact ⟨k + 1, true, by omega, by go_num, rfl, .long l H4.out, H5.out⟩
              case measure => simp [intOf]; omega
            · skip
              go_wp2_with fail
              go_fit (kinds_is (q := 1) ⟨fk, fv, fsx, fy, fm⟩ wr HQ.out.symm)
              rintro e w3 ⟨rfl, hb3⟩
              dsimp only
              have HB3 := hid (below_step HBR.out hb3)
              have HW3 := hid (HWR.out.step hb3)
              have HBB3 := hid (Nat.le_trans (HBR.out.size) hb3.size)
              clear hb3 c0 c1 c2 c3 c4
              go_wp2_with fail
              go_fit (put_ct_not ⟨fk, fv, fsx, fy, fm⟩ (HW3.out.step ((Below.refl _ _).alloc (Nat.le_refl _) _)) HV.out HS'.out (by show _ = ((k3 fk : Nat) : Int); have := HQ.out; omega))
              rintro e w4 ⟨rfl, h4, h5⟩
              have H4 := hid h4
              have H5 := hid (HB3.out.trans (((Below.refl _ w3).alloc HBB3.out _).trans h5.below))
              clear h4 h5
              go_wp2_with fail
              go_roundw
              case rel => exact ⟨k + 1, true, by omega, by go_num, rfl, .long l H4.out, H5.out⟩
              case measure => simp [intOf]; omega
            · skip
              go_wp2_with fail
              go_fit (kinds_is (q := 1) ⟨fk, fv, fsx, fy, fm⟩ wr HQ.out.symm)
              rintro e w3 ⟨rfl, hb3⟩
              dsimp only
              have HB3 := hid (below_step HBR.out hb3)
              have HW3 := hid (HWR.out.step hb3)
              have HBB3 := hid (Nat.le_trans (HBR.out.size) hb3.size)
              clear hb3 c0 c1 c2 c3 c4
              go_wp2_with fail
              go_fit (put_ct_not ⟨fk, fv, fsx, fy, fm⟩ (HW3.out.step ((Below.refl _ _).alloc (Nat.le_refl _) _)) HV.out HS'.out (by show _ = ((k3 fk : Nat) : Int); have := HQ.out; omega))
              rintro e w4 ⟨rfl, h4, h5⟩
              have H4 := hid h4
              have H5 := hid (HB3.out.trans (((Below.refl _ w3).alloc HBB3.out _).trans h5.below))
              clear h4 h5
              go_wp2_with fail
              go_roundw
              case rel => exact ⟨k + 1, true, by omega, by go_num, rfl, .long l H4.out, H5.out⟩
              case measure => simp [intOf]; omega
            · skip
              go_wp2_with fail
              go_fit (kinds_is (q := 1) ⟨fk, fv, fsx, fy, fm⟩ wr HQ.out.symm)
              rintro e w3 ⟨rfl, hb3⟩
              dsimp only
              have HB3 := hid (below_step HBR.out hb3)
              have HW3 := hid (HWR.out.step hb3)
              have HBB3 := hid (Nat.le_trans (HBR.out.size) hb3.size)
              clear hb3 c0 c1 c2 c3 c4
              obtain ⟨M, hM⟩ : ∃ M : Nat, fm = M := ⟨fm.toNat, by omega⟩
              have hM2 : M < 80000 := by omega
              have hcv := str_zeros M (w3.alloc (.cells #[.int .i64 1, .int .u64 (fv : Int), .string (bst s'), .bool fy, .int .i64 fm] 28))
              have hmk := make_zeros hM (by omega) (w3.alloc (.cells #[.int .i64 1, .int .u64 (fv : Int), .string (bst s'), .bool fy, .int .i64 fm] 28))
              rw [show (w3.alloc (.cells #[.int .i64 1, .int .u64 (fv : Int), .string (bst s'), .bool fy, .int .i64 fm] 28)).heap.size = w3.heap.size + 1 by simp] at hcv hmk
              obtain ⟨T, hT⟩ : ∃ T, T = bst (List.replicate M 0) := ⟨_, rfl⟩
              rw [← hT] at hcv
              have HT := hid (show 65536 < T.size by rw [hT, bst_size, List.length_replicate]; omega)
              obtain ⟨Z, hZ⟩ : ∃ Z, Z = (List.replicate M (Value.int .u8 0)).toArray := ⟨_, rfl⟩
              rw [← hZ] at hcv hmk
              clear hT hM hM2 hZ
              go_wp2_with fail
              go_fit (put_long (fv : Int) fm T fy (HW3.out.step (((Below.refl _ _).alloc (Nat.le_refl _) _).alloc (by simp) _)) HT.out)
              rintro e w4 ⟨rfl, h4, h5⟩
              have H4 := hid h4
              have H5 := hid (HB3.out.trans ((((Below.refl _ w3).alloc HBB3.out _).alloc (by have := HBB3.out; simp; omega) _).trans h5.below))
              clear h4 h5
              go_wp2_with fail
              go_roundw
              case rel => exact ⟨k + 1, true, by omega, by go_num, rfl, .long _ H4.out, H5.out⟩
              case measure => simp [intOf]; omega

        · have hci : ¬ (200 : Int) < (fsx.length : Int) := by omega
          obtain rfl : s' = fsx := by rw [HS'.out]; exact List.take_of_length_le (by show fsx.length ≤ 200; omega)
          cases hat with
          | good h hw =>
            subst hw
            have HWR := hid h
            clear h
            obtain ⟨a, ha⟩ : ∃ a, a = encw (fs.take k) := ⟨_, rfl⟩
            rw [← ha]
            have HAK := hid (show a.length ≤ 220 * k by rw [ha]; exact encw_len k)
            obtain ⟨eb, heb⟩ : ∃ eb, eb = enc (ct ⟨fk, fv, s', fy, fm⟩) := ⟨_, rfl⟩
            have HEB := hid heb
            have heb2 : eb.length ≤ 220 := by rw [heb]; exact ct_len _
            have hza := bst_size a
            have hzb := bst_size eb
            have happ := bst_append a eb
            have hns : ¬ (9223372036854775807 < a.length + eb.length) := by have := HAK.out; omega
            have HE := hid (show encw (fs.take k) ++ enc (ct ⟨fk, fv, s', fy, fm⟩) = a ++ eb by rw [ha, heb])
            clear ha heb heb2
            rcases hways with hq1 | ⟨rfl, hm⟩ | ⟨rfl, hm1, hm2⟩ | ⟨rfl, hm1, hm2⟩
            · skip
              go_wp2_with fail
              go_fit (kinds_is (q := q) ⟨fk, fv, s', fy, fm⟩ wr HQ.out.symm)
              rintro e w3 ⟨rfl, hb3⟩
              dsimp only
              have HB3 := hid (below_step HBR.out hb3)
              have HW3 := hid (HWR.out.step hb3)
              have HBB3 := hid (Nat.le_trans (HBR.out.size) hb3.size)
              clear hb3 c0 c1 c2 c3 c4
              go_wp2_with fail
              go_fit (put_ct ⟨fk, fv, s', fy, fm⟩ (HW3.out.step ((Below.refl _ _).alloc (Nat.le_refl _) _)) HV.out HS'.out (by show _ = ((k3 fk : Nat) : Int); have := HQ.out; omega) (by have := encw_len (fs := fs) k; omega))
              rintro e w4 ⟨rfl, h4, h5⟩
              have H4 := hid h4
              have b4 := h5.kept _ _ _ (by decide) (by decide) (Blk.new w3 _ _)
              obtain ⟨x0, x1, x2, x3, x4, g0, g1, g2, g3, g4⟩ := five b4
              have H5 := hid (HB3.out.trans (((Below.refl _ w3).alloc HBB3.out _).trans h5.below))
              clear h4 h5 b4
              go_wp2_with fail
              go_fit (refPut_ct ⟨fk, fv, s', fy, fm⟩ w4 HV.out HS'.out (by show _ = ((k3 fk : Nat) : Int); have := HQ.out; omega) HEB.out)
              rintro e w5 ⟨rfl, h6⟩
              have H6 := hid (below_step H5.out h6)
              have H7 := hid (H4.out.step h6)
              clear h6
              go_wp2_with fail
              go_roundw
              case rel => exact ⟨k + 1, false, by omega, by go_num, rfl, .good (by rw [encw_snoc HF.out]; exact H7.out) (by rw [encw_snoc HF.out, HE.out]), H6.out⟩
              case measure => simp [intOf]; omega
            · skip
              go_wp2_with fail
              go_fit (kinds_is (q := 1) ⟨fk, fv, s', fy, fm⟩ wr HQ.out.symm)
              rintro e w3 ⟨rfl, hb3⟩
              dsimp only
              have HB3 := hid (below_step HBR.out hb3)
              have HW3 := hid (HWR.out.step hb3)
              have HBB3 := hid (Nat.le_trans (HBR.out.size) hb3.size)
              clear hb3 c0 c1 c2 c3 c4
              go_wp2_with fail
              go_fit (put_ct ⟨fk, fv, s', fy, fm⟩ (HW3.out.step ((Below.refl _ _).alloc (Nat.le_refl _) _)) HV.out HS'.out (by show _ = ((k3 fk : Nat) : Int); have := HQ.out; omega) (by have := encw_len (fs := fs) k; omega))
              rintro e w4 ⟨rfl, h4, h5⟩
              have H4 := hid h4
              have b4 := h5.kept _ _ _ (by decide) (by decide) (Blk.new w3 _ _)
              obtain ⟨x0, x1, x2, x3, x4, g0, g1, g2, g3, g4⟩ := five b4
              have H5 := hid (HB3.out.trans (((Below.refl _ w3).alloc HBB3.out _).trans h5.below))
              clear h4 h5 b4
              go_wp2_with fail
              go_fit (refPut_ct ⟨fk, fv, s', fy, fm⟩ w4 HV.out HS'.out (by show _ = ((k3 fk : Nat) : Int); have := HQ.out; omega) HEB.out)
              rintro e w5 ⟨rfl, h6⟩
              have H6 := hid (below_step H5.out h6)
              have H7 := hid (H4.out.step h6)
              clear h6
              go_wp2_with fail
              go_roundw
              case rel => exact ⟨k + 1, false, by omega, by go_num, rfl, .good (by rw [encw_snoc HF.out]; exact H7.out) (by rw [encw_snoc HF.out, HE.out]), H6.out⟩
              case measure => simp [intOf]; omega
            · skip
              go_wp2_with fail
              go_fit (kinds_is (q := 1) ⟨fk, fv, s', fy, fm⟩ wr HQ.out.symm)
              rintro e w3 ⟨rfl, hb3⟩
              dsimp only
              have HB3 := hid (below_step HBR.out hb3)
              have HW3 := hid (HWR.out.step hb3)
              have HBB3 := hid (Nat.le_trans (HBR.out.size) hb3.size)
              clear hb3 c0 c1 c2 c3 c4
              go_wp2_with fail
              go_fit (put_ct ⟨fk, fv, s', fy, fm⟩ (HW3.out.step ((Below.refl _ _).alloc (Nat.le_refl _) _)) HV.out HS'.out (by show _ = ((k3 fk : Nat) : Int); have := HQ.out; omega) (by have := encw_len (fs := fs) k; omega))
              rintro e w4 ⟨rfl, h4, h5⟩
              have H4 := hid h4
              have b4 := h5.kept _ _ _ (by decide) (by decide) (Blk.new w3 _ _)
              obtain ⟨x0, x1, x2, x3, x4, g0, g1, g2, g3, g4⟩ := five b4
              have H5 := hid (HB3.out.trans (((Below.refl _ w3).alloc HBB3.out _).trans h5.below))
              clear h4 h5 b4
              go_wp2_with fail
              go_fit (refPut_ct ⟨fk, fv, s', fy, fm⟩ w4 HV.out HS'.out (by show _ = ((k3 fk : Nat) : Int); have := HQ.out; omega) HEB.out)
              rintro e w5 ⟨rfl, h6⟩
              have H6 := hid (below_step H5.out h6)
              have H7 := hid (H4.out.step h6)
              clear h6
              go_wp2_with fail
              go_roundw
              case rel => exact ⟨k + 1, false, by omega, by go_num, rfl, .good (by rw [encw_snoc HF.out]; exact H7.out) (by rw [encw_snoc HF.out, HE.out]), H6.out⟩
              case measure => simp [intOf]; omega
            · skip
              go_wp2_with fail
              go_fit (kinds_is (q := 1) ⟨fk, fv, s', fy, fm⟩ wr HQ.out.symm)
              rintro e w3 ⟨rfl, hb3⟩
              dsimp only
              have HB3 := hid (below_step HBR.out hb3)
              have HW3 := hid (HWR.out.step hb3)
              have HBB3 := hid (Nat.le_trans (HBR.out.size) hb3.size)
              clear hb3 c0 c1 c2 c3 c4
              obtain ⟨M, hM⟩ : ∃ M : Nat, fm = M := ⟨fm.toNat, by omega⟩
              have hM2 : M < 80000 := by omega
              have hcv := str_zeros M (w3.alloc (.cells #[.int .i64 1, .int .u64 (fv : Int), .string (bst s'), .bool fy, .int .i64 fm] 28))
              have hmk := make_zeros hM (by omega) (w3.alloc (.cells #[.int .i64 1, .int .u64 (fv : Int), .string (bst s'), .bool fy, .int .i64 fm] 28))
              rw [show (w3.alloc (.cells #[.int .i64 1, .int .u64 (fv : Int), .string (bst s'), .bool fy, .int .i64 fm] 28)).heap.size = w3.heap.size + 1 by simp] at hcv hmk
              obtain ⟨T, hT⟩ : ∃ T, T = bst (List.replicate M 0) := ⟨_, rfl⟩
              rw [← hT] at hcv
              have HT := hid (show 65536 < T.size by rw [hT, bst_size, List.length_replicate]; omega)
              obtain ⟨Z, hZ⟩ : ∃ Z, Z = (List.replicate M (Value.int .u8 0)).toArray := ⟨_, rfl⟩
              rw [← hZ] at hcv hmk
              clear hT hM hM2 hZ
              go_wp2_with fail
              go_fit (put_long (fv : Int) fm T fy (HW3.out.step (((Below.refl _ _).alloc (Nat.le_refl _) _).alloc (by simp) _)) HT.out)
              rintro e w4 ⟨rfl, h4, h5⟩
              have H4 := hid h4
              have H5 := hid (HB3.out.trans ((((Below.refl _ w3).alloc HBB3.out _).alloc (by have := HBB3.out; simp; omega) _).trans h5.below))
              clear h4 h5
              go_wp2_with fail
              go_roundw
              case rel => exact ⟨k + 1, true, by omega, by go_num, rfl, .long _ H4.out, H5.out⟩
              case measure => simp [intOf]; omega
          | long l h =>
            have HWR := hid h
            clear h
            rcases hways with hq1 | ⟨rfl, hm⟩ | ⟨rfl, hm1, hm2⟩ | ⟨rfl, hm1, hm2⟩
            · skip
              go_wp2_with fail
              go_fit (kinds_is (q := q) ⟨fk, fv, s', fy, fm⟩ wr HQ.out.symm)
              rintro e w3 ⟨rfl, hb3⟩
              dsimp only
              have HB3 := hid (below_step HBR.out hb3)
              have HW3 := hid (HWR.out.step hb3)
              have HBB3 := hid (Nat.le_trans (HBR.out.size) hb3.size)
              clear hb3 c0 c1 c2 c3 c4
              go_wp2_with fail
              go_fit (put_ct_not ⟨fk, fv, s', fy, fm⟩ (HW3.out.step ((Below.refl _ _).alloc (Nat.le_refl _) _)) HV.out HS'.out (by show _ = ((k3 fk : Nat) : Int); have := HQ.out; omega))
              rintro e w4 ⟨rfl, h4, h5⟩
              have H4 := hid h4
              have H5 := hid (HB3.out.trans (((Below.refl _ w3).alloc HBB3.out _).trans h5.below))
              clear h4 h5
              go_wp2_with fail
              go_roundw
              case rel => exact ⟨k + 1, true, by omega, by go_num, rfl, .long l H4.out, H5.out⟩
              case measure => simp [intOf]; omega
            · skip
              go_wp2_with fail
              go_fit (kinds_is (q := 1) ⟨fk, fv, s', fy, fm⟩ wr HQ.out.symm)
              rintro e w3 ⟨rfl, hb3⟩
              dsimp only
              have HB3 := hid (below_step HBR.out hb3)
              have HW3 := hid (HWR.out.step hb3)
              have HBB3 := hid (Nat.le_trans (HBR.out.size) hb3.size)
              clear hb3 c0 c1 c2 c3 c4
              go_wp2_with fail
              go_fit (put_ct_not ⟨fk, fv, s', fy, fm⟩ (HW3.out.step ((Below.refl _ _).alloc (Nat.le_refl _) _)) HV.out HS'.out (by show _ = ((k3 fk : Nat) : Int); have := HQ.out; omega))
              rintro e w4 ⟨rfl, h4, h5⟩
              have H4 := hid h4
              have H5 := hid (HB3.out.trans (((Below.refl _ w3).alloc HBB3.out _).trans h5.below))
              clear h4 h5
              go_wp2_with fail
              go_roundw
              case rel => exact ⟨k + 1, true, by omega, by go_num, rfl, .long l H4.out, H5.out⟩
              case measure => simp [intOf]; omega
            · skip
              go_wp2_with fail
              go_fit (kinds_is (q := 1) ⟨fk, fv, s', fy, fm⟩ wr HQ.out.symm)
              rintro e w3 ⟨rfl, hb3⟩
              dsimp only
              have HB3 := hid (below_step HBR.out hb3)
              have HW3 := hid (HWR.out.step hb3)
              have HBB3 := hid (Nat.le_trans (HBR.out.size) hb3.size)
              clear hb3 c0 c1 c2 c3 c4
              go_wp2_with fail
              go_fit (put_ct_not ⟨fk, fv, s', fy, fm⟩ (HW3.out.step ((Below.refl _ _).alloc (Nat.le_refl _) _)) HV.out HS'.out (by show _ = ((k3 fk : Nat) : Int); have := HQ.out; omega))
              rintro e w4 ⟨rfl, h4, h5⟩
              have H4 := hid h4
              have H5 := hid (HB3.out.trans (((Below.refl _ w3).alloc HBB3.out _).trans h5.below))
              clear h4 h5
              go_wp2_with fail
              go_roundw
              case rel => exact ⟨k + 1, true, by omega, by go_num, rfl, .long l H4.out, H5.out⟩
              case measure => simp [intOf]; omega
            · skip
              go_wp2_with fail
              go_fit (kinds_is (q := 1) ⟨fk, fv, s', fy, fm⟩ wr HQ.out.symm)
              rintro e w3 ⟨rfl, hb3⟩
              dsimp only
              have HB3 := hid (below_step HBR.out hb3)
              have HW3 := hid (HWR.out.step hb3)
              have HBB3 := hid (Nat.le_trans (HBR.out.size) hb3.size)
              clear hb3 c0 c1 c2 c3 c4
              obtain ⟨M, hM⟩ : ∃ M : Nat, fm = M := ⟨fm.toNat, by omega⟩
              have hM2 : M < 80000 := by omega
              have hcv := str_zeros M (w3.alloc (.cells #[.int .i64 1, .int .u64 (fv : Int), .string (bst s'), .bool fy, .int .i64 fm] 28))
              have hmk := make_zeros hM (by omega) (w3.alloc (.cells #[.int .i64 1, .int .u64 (fv : Int), .string (bst s'), .bool fy, .int .i64 fm] 28))
              rw [show (w3.alloc (.cells #[.int .i64 1, .int .u64 (fv : Int), .string (bst s'), .bool fy, .int .i64 fm] 28)).heap.size = w3.heap.size + 1 by simp] at hcv hmk
              obtain ⟨T, hT⟩ : ∃ T, T = bst (List.replicate M 0) := ⟨_, rfl⟩
              rw [← hT] at hcv
              have HT := hid (show 65536 < T.size by rw [hT, bst_size, List.length_replicate]; omega)
              obtain ⟨Z, hZ⟩ : ∃ Z, Z = (List.replicate M (Value.int .u8 0)).toArray := ⟨_, rfl⟩
              rw [← hZ] at hcv hmk
              clear hT hM hM2 hZ
              go_wp2_with fail
              go_fit (put_long (fv : Int) fm T fy (HW3.out.step (((Below.refl _ _).alloc (Nat.le_refl _) _).alloc (by simp) _)) HT.out)
              rintro e w4 ⟨rfl, h4, h5⟩
              have H4 := hid h4
              have H5 := hid (HB3.out.trans ((((Below.refl _ w3).alloc HBB3.out _).alloc (by have := HBB3.out; simp; omega) _).trans h5.below))
              clear h4 h5
              go_wp2_with fail
              go_roundw
              case rel => exact ⟨k + 1, true, by omega, by go_num, rfl, .long _ H4.out, H5.out⟩
              case measure => simp [intOf]; omega

      · obtain rfl : k = n := by omega
        cases hat with
        | good h hw =>
          subst hw
          obtain ⟨a, ha⟩ : ∃ a, a = encw (fs.take k) := ⟨_, rfl⟩
          rw [← ha] at h ⊢
          have HWR := hid h
          have HAK := hid (show a.length ≤ 220 * k by rw [ha]; exact encw_len k)
          clear h ha
          go_wp2_with fail
          go_fit (bytes_any HWR.out (by have := HAK.out; omega))
          rintro e w3 ⟨A3, m3, c3, rfl, hr3, hb3⟩
          have cv := str_of (c := c3) hr3.at_ hr3.1
          have HB3 := hid (below_step HBR.out hb3)
          clear hr3 hb3
          go_wp2_with fail
          go_ret
          exact ⟨rfl, HB3.out⟩
        | long l h =>
          have HWR := hid h
          clear h
          go_wp2_with fail
          go_fit (bytes_not HWR.out (by decide))
          rintro e w3 ⟨rfl, hb3⟩
          have HB3 := hid (below_step HBR.out hb3)
          clear hb3
          go_wp2_with fail
          go_ret
          exact ⟨rfl, HB3.out⟩

end Go.Proofs.Ytamieogikmnpcaa
