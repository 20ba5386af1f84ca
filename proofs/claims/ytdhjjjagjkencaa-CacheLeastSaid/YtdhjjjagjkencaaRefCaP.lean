/-
  The document's cache: Put.
-/
import Derived.Test.YtdhjjjagjkencaaRefCaG
import Derived.Lib.SliceRun
import Derived.Deep.DeepFit
import Derived.Deep.Cut
namespace Go.Proofs.Ytdhjjjagjkencaa
open Go Go.RowKit

theorem drew_setE (W : World) (p : Addr) (u : Value) : W.drew.setCell p u = (W.setCell p u).drew := rfl
theorem info_en : (Try.prog.info? 32).map (fun i => (i.zero, i.size, i.bytes)) = some (some (.agg #[.int .i64 0, .string ByteArray.empty, .bool false]), 3, 32) := by kernel_rfl
theorem en_size : (sizeOf (Try.prog.elem 28)).run Try.prog = fun w => .ok 3 w := by
  funext w
  obtain ⟨i0, hi, hz0, hz1, hz2⟩ := info_parts info_en
  have e : Try.prog.elem 28 = 32 := by kernel_rfl
  rw [e]
  simp [sizeOf, typeInfo, hi, hz1]
/-- s[:n] -/
theorem eslice_to {w : World} {B m c n : Nat} {A : Option Addr} {l : List En} (hA : EAt w B A l) (hm : m = l.length) (hc : m ≤ c) (hn : n ≤ m) :
    ∃ A', (∀ (k : IntKind) (W : World), (Instr.slice 28 (.slice A m c) none (some (.int k (n : Int))) none).run Try.prog W = .ok (.slice A' n c) W) ∧ EAt w B A' (l.take n) ∧ A' = A := by
  have hid0 : (if c = 0 then A else A.map (·.add 0)) = A := by
    split
    · rfl
    · cases A <;> simp [Addr.add]
  refine ⟨if c = 0 then A else A.map (·.add 0), fun k W => ?_, ?_, hid0⟩
  · have e : Try.prog.elem 28 = 32 := by kernel_rfl
    rw [run_slice_h (P := Try.prog) W 28 A m c (by rw [e]; exact Try.underlying28) k n (by omega) (by omega), en_size]
    simp [sliced]
  · by_cases h0 : c = 0
    · rw [if_pos h0]
      exact GAt.take hA n
    · have h := GAt.cut (c := c) (k := 0) hA (by omega)
      rw [if_neg h0, List.drop_zero, Nat.zero_mul] at h
      rw [if_neg h0]
      exact GAt.take h n
theorem findI_iff (k : Int) (l : List En) {n : Nat} (hn : n = l.length) : ∀ q : Nat, q < n → ((q : Int) = findI k l ↔ q = posE k l) := fun q hq => by
  unfold findI
  have := posE_le k l
  by_cases hp : posE k l < l.length
  · rw [if_pos hp]; omega
  · rw [if_neg hp]; omega
/-- what Put answers -/
def PutGot (B0 R : Nat) (O : List En) (e : Ending) (w' : World) : Prop := match O[R]? with
  | none => ∃ A' m' c', e = .returned (.tuple #[.slice A' m' c', .agg #[.int .i64 0, .string ⟨#[]⟩, .bool false], .bool false]) ∧ ES w' w'.heap.size A' m' c' O ∧ In (fun k => B0 ≤ k) A' O
  | some y => ∃ A' m' c', e = .returned (.tuple #[.slice A' m' c', y.val, .bool true]) ∧ ES w' w'.heap.size A' m' c' (O.take R) ∧ In (fun k => B0 ≤ k) A' (O.take R)
set_option maxHeartbeats 4000000 in
set_option maxRecDepth 100000 in
theorem refPutE_any {k : Int} {b : List UInt8} {d : Bool} {R : Nat} {A : Option Addr} {n c B : Nat} {l : List En} {w : World} (h : ES w B A n c l) (hn : n ≤ 1000000) (hR : R ≤ 1000000) :
    Calls Try.prog 9 #[.slice A n c, .int .i64 (R : Int), .int .i64 k, .string (bst b), .bool d] w fun e w' => PutGot w.heap.size R (inE k b d l) e w' ∧ Below w.heap.size w w' := by
  have hb1 := (Below.refl w.heap.size w).alloc (Nat.le_refl _) (.cells #[.int .i64 0, .string ⟨#[]⟩, .bool false] 32)
  have HB1 := hid hb1
  have HZ1 := hid (Blk.new w 32 #[.int .i64 0, .string ⟨#[]⟩, .bool false])
  have HA1 := hid (h.step hb1)
  have HF := hid (refFindE_any (k := k) (h.step hb1))
  have HJJ := hid (findI_iff k l h.len)
  have HOL := hid (show (outE (posE k l) l).length ≤ 1000000 by have := outE_le l (posE k l); have := h.len; omega)
  by_cases hp : posE k l < l.length
  · obtain ⟨y, hy, hk⟩ := posE_at hp
    have hfi : findI k l = (posE k l : Int) := if_pos hp
    obtain ⟨J, hJ⟩ : ∃ J, posE k l = J := ⟨_, rfl⟩
    have hd0 : inE k b d l = ⟨k, b, d || y.d⟩ :: outE J l := by unfold inE dE; rw [← hJ, hy]; rfl
    rw [hd0]
    rw [hfi, hJ] at HF HJJ
    rw [hJ] at HOL hy
    have hlt : J < n := by rw [← hJ, h.len]; exact hp
    have hge2 : (0 : Int) ≤ (J : Int) := by omega
    have hmost := h.most
    obtain ⟨bb, off, y', rfl, hbb, hy', _, _, c2⟩ := EAt.get HA1.out.at_ (i := J) (by rw [← h.len]; exact hlt)
    obtain rfl : y' = y := by rw [hy] at hy'; injection hy' with hy'; exact hy'.symm
    have HBB := hid (Nat.lt_of_lt_of_le hbb HA1.out.low)
    have HC2 := hid c2
    cases d with
    | true =>
      obtain ⟨O, hO⟩ : ∃ O, (⟨k, b, true⟩ :: outE J l : List En) = O := ⟨_, rfl⟩
      have HON := hid (show O.length ≤ 1000001 by rw [← hO, List.length_cons]; have := HOL.out; omega)
      rw [Bool.true_or, hO]
      have HOO := hid hO
      clear hb1 h hp hd0 hfi hO hJ hy hy' hbb c2 hk
      go_enter Try.func9, Try.ntmps9
      go_wp2_with fail
      generalize w.alloc (.cells #[.int .i64 0, .string ⟨#[]⟩, .bool false] 32) = w1 at *
      obtain ⟨g, hg⟩ : ∃ g, w.heap.size = g := ⟨_, rfl⟩
      rw [hg] at HZ1 ⊢
      have HGE := hid hg
      clear hg
      go_fit HF.out
      rintro e w' ⟨rfl, hw⟩
      rw [hw]
      clear hw w'
      have hb3 := (Below.refl w1.heap.size w1).alloc (Nat.le_refl _) (.cells #[.int .i64 k, .string (bst b), .bool true] 32)
      have HB3 := hid (below_step HB1.out hb3)
      have HE3 := hid (Blk.new w1 32 #[.int .i64 k, .string (bst b), .bool true])
      have HZ3 := hid (HZ1.out.below hb3 HZ1.out.lt)
      have HA3 := hid (HA1.out.step hb3)
      clear hb3
      go_upto_region 5 with fail
      generalize w1.alloc (.cells #[.int .i64 k, .string (bst b), .bool true] 32) = w3 at *
      obtain ⟨g3, hg3⟩ : ∃ g, w1.heap.size = g := ⟨_, rfl⟩
      rw [hg3] at HE3 ⊢
      clear hg3
      have HWO := hid (fun (W : World) (hW : Beyond w3 W) => refWithout_any (j := (J : Int)) (J := J) (HA3.out.step hW) HJJ.out)
      have z0 : ∀ W, Beyond w3 W → W.cell? ⟨g3, 0, none⟩ = some (.int .i64 k) := fun W hW => (HE3.out.below hW HE3.out.lt).cell 0
      have z1 : ∀ W, Beyond w3 W → W.cell? ⟨g3, 1, none⟩ = some (.string (bst b)) := fun W hW => (HE3.out.below hW HE3.out.lt).cell 1
      have z2 : ∀ W, Beyond w3 W → W.cell? ⟨g3, 2, none⟩ = some (.bool true) := fun W hW => (HE3.out.below hW HE3.out.lt).cell 2
      refine wp_region_held_drew (S := Beyond w3) (by kernel_rfl) (Beyond.drew _) (fun hS => ?_)
      refine stT 0 hS ?_
      try simp only [putr]
      refine stT 2 hS ?_
      try simp only [putr]
      refine stT 3 hS ?_
      try simp only [putr]
      refine rdH [1, 4] ?_
      refine rcH (fun K hK => ?_) ?_
      · skip
        go_simp
        refine hK.out _ _ ((Beyond.alloc hS _)) (fun hS1 => ?_)
        have HRB := hid (GRow.single (E := eEn) (e := 32) (x := (⟨k, b, true⟩ : En)) (base := w3.heap.size) w3.drew rfl (Nat.le_refl _))
        clear hK K hS
        have hS := hS1
        try simp only [putr]
        refine rdH [4] ?_
        refine rcH (fun K hK => ?_) AllReadyH.nil
        go_simp
        go_fit (HWO.out _ hS)
        rintro e wa ⟨A5, m5, c5, rfl, hr5, hba⟩
        have hS4 := Beyond.step hS hba
        have HRC := hid hr5
        have HRB := hid (HRB.out.below hba)
        clear hr5 hba
        refine hK.out _ _ (by assumption) (fun _ => ?_)
        clear hK K hS
        have hS := hS4
        try simp only [putr]
        refine rdH [5] ?_
        refine rcH (fun K hK => ?_) AllReadyH.nil
        refine wp_append_g _ (.tmp 35) (.tmp 38) eEn gi_en (by decide) rfl w3.heap.size rfl HRB.out rfl HRC.out.1 HRC.out.at_ (by have := HOL.out; simp only [List.length_singleton]; omega) (Below.size hS) ?_
        intro A7 m7 c7 w7 hr7 hc7 hb7 hg7
        refine hK.out _ _ (Below.trans hS hb7) (fun hS5 => ?_)
        have HR7 := hid hr7
        have HC7 := hid hc7
        clear hr7 hc7 hb7 hg7
        clear hK K hS
        have hS := hS5
        try simp only [putr]
        refine stT 6 hS ?_
        try simp only [putr]
        refine wpAnyH_done (by kernel_rfl) ?_ _
        clear z0 z1 z2 HRB HRC HWO
        have HB7 := hid (show Below w.heap.size w w7 from HB3.out.trans (Below.mono hS HB3.out.size))
        have HZ7 := hid (HZ3.out.below hS HZ3.out.lt)
        have HG7 := hid (show g < w3.heap.size from HZ3.out.lt)
        have HR8 := hid (show GRow eEn 32 w7 w3.heap.size A7 m7 c7 O by rw [← HOO.out]; exact HR7.out)
        have HM7 := hid (show m7 = O.length from HR8.out.1)
        have hc7 := HC7.out
        have hol := HON.out
        clear hS hS1 hS4 hS5 HR7 HC7
        have hm9 : m7 ≤ 1000001 := by have := HM7.out; omega
        by_cases hRm : R < m7
        · have hRm' : (R : Int) < (m7 : Int) := by omega
          obtain ⟨b7, o7, y7, rfl, hb7, hy7, c0, c1, c2⟩ := EAt.get HR8.out.at_ (i := R) (by rw [← HM7.out]; exact hRm)
          have hb7' : w3.heap.size ≤ b7 := HR8.out.in_ b7 o7 rfl (by have := HM7.out; omega)
          have HNO := hid hy7
          have HBF7 := hid (And.intro hb7 hb7')
          have HC7 := hid (And.intro c0 (And.intro c1 c2))
          have HK7 := hid (fun (W : World) (hW : Only g w7 W) (i : Nat) => show W.cell? ⟨b7, i, none⟩ = w7.cell? ⟨b7, i, none⟩ from World.cell?_of_block (a := ⟨b7, i, none⟩) (hW.block b7 HBF7.out.1 (fun e => by injection e with e; have := HBF7.out.2; have := HG7.out; omega)))
          have z70 : ∀ W, Only g w7 W → W.cell? ⟨b7, o7 + R * 3, none⟩ = some (.int .i64 y7.i) := fun W hW => (HK7.out W hW _).trans HC7.out.1
          have z71 : ∀ W, Only g w7 W → W.cell? ⟨b7, o7 + R * 3 + 1, none⟩ = some (.string (bst y7.b)) := fun W hW => (HK7.out W hW _).trans HC7.out.2.1
          have z72 : ∀ W, Only g w7 W → W.cell? ⟨b7, o7 + R * 3 + 2, none⟩ = some (.bool y7.d) := fun W hW => (HK7.out W hW _).trans HC7.out.2.2
          have hr9 : GRow eEn 32 ((((w7.setCell ⟨g, 0, none⟩ (.int .i64 y7.i)).setCell ⟨g, 1, none⟩ (.string (bst y7.b))).setCell ⟨g, 2, none⟩ (.bool y7.d)).drew) w3.heap.size (some ⟨b7, o7, none⟩) m7 c7 O := (((HR8.out.set (p := ⟨g, 0, none⟩) HG7.out (.int .i64 y7.i)).set (p := ⟨g, 1, none⟩) HG7.out (.string (bst y7.b))).set (p := ⟨g, 2, none⟩) HG7.out (.bool y7.d)).below ((Below.refl _ _).drew)
          obtain ⟨A9, hs9, ha9, hi9⟩ := eslice_to (n := R) hr9.at_ HM7.out hc7 (Nat.le_of_lt hRm)
          clear hr9
          have x0 := HZ7.out.cell 0
          have x1 := HZ7.out.cell 1
          have x2 := HZ7.out.cell 2
          have f0 := HZ7.out.free 0
          have f1 := HZ7.out.free 1
          have f2 := HZ7.out.free 2
          have HT9 := hid ha9
          have HI9 := hid (show In (fun k => w.heap.size ≤ k) A9 (O.take R) by rw [hi9]; intro bb oo ee _; have q := congrArg Addr.block (Option.some.inj ee); dsimp only at q; rw [← q]; exact Nat.le_trans HB3.out.size hb7')
          clear hi9
          have HBF := hid (show Below w.heap.size w ((((w7.setCell ⟨g, 0, none⟩ (.int .i64 y7.i)).setCell ⟨g, 1, none⟩ (.string (bst y7.b))).setCell ⟨g, 2, none⟩ (.bool y7.d)).drew) from (((HB7.out.setCell (p := ⟨g, 0, none⟩) (Nat.le_of_eq HGE.out) _).setCell (p := ⟨g, 1, none⟩) (Nat.le_of_eq HGE.out) _).setCell (p := ⟨g, 2, none⟩) (Nat.le_of_eq HGE.out) _).drew)
          clear hb7 hb7' hy7 c0 c1 c2 ha9
          go_upto_region 7 with fail
          refine wp_region_held_drew (S := Only g w7) (by kernel_rfl) (Only.refl g w7).drew (fun hS => ?_)
          refine stT 0 hS ?_
          try simp only [putr]
          refine stT 1 hS ?_
          try simp only [putr]
          refine stT 2 hS ?_
          try simp only [putr]
          refine stT 3 hS ?_
          try simp only [putr]
          refine stT 4 hS ?_
          try simp only [putr]
          refine stT 5 hS ?_
          try simp only [putr]
          refine stT 6 hS ?_
          try simp only [putr]
          refine stT 7 hS ?_
          try simp only [putr]
          refine rdH [8] ?_
          refine rcH (fun K hK => ?_) AllReadyH.nil
          go_simp
          refine hK.out _ _ ((by have hz := Only.set (i := 2) (Only.set (i := 1) (Only.set (i := 0) hS (.int .i64 y7.i)) (.string (bst y7.b))) (.bool y7.d); simpa only [drew_setE] using hz)) (fun hS8 => ?_)
          skip
          clear hK K hS
          have hS := hS8
          try simp only [Act.put]
          refine stT 9 hS ?_
          try simp only [putr]
          refine wpAnyH_done (by kernel_rfl) ?_ _
          have HZ9 := hid (show Blk ((((w7.setCell ⟨g, 0, none⟩ (.int .i64 y7.i)).setCell ⟨g, 1, none⟩ (.string (bst y7.b))).setCell ⟨g, 2, none⟩ (.bool y7.d)).drew) g 32 #[.int .i64 y7.i, .string (bst y7.b), .bool y7.d] from (((HZ7.out.set 0 _).set 1 _).set 2 _).drew)
          have HE9 := hid (show EAt ((((w7.setCell ⟨g, 0, none⟩ (.int .i64 y7.i)).setCell ⟨g, 1, none⟩ (.string (bst y7.b))).setCell ⟨g, 2, none⟩ (.bool y7.d)).drew) ((((w7.setCell ⟨g, 0, none⟩ (.int .i64 y7.i)).setCell ⟨g, 1, none⟩ (.string (bst y7.b))).setCell ⟨g, 2, none⟩ (.bool y7.d)).drew).heap.size A9 (O.take R) from HT9.out)
          have HB9 := hid (show Below w.heap.size w ((((w7.setCell ⟨g, 0, none⟩ (.int .i64 y7.i)).setCell ⟨g, 1, none⟩ (.string (bst y7.b))).setCell ⟨g, 2, none⟩ (.bool y7.d)).drew) from HBF.out)
          clear hS hS8 z70 z71 z72 HBF HT9
          generalize (((w7.setCell ⟨g, 0, none⟩ (.int .i64 y7.i)).setCell ⟨g, 1, none⟩ (.string (bst y7.b))).setCell ⟨g, 2, none⟩ (.bool y7.d)).drew = w9 at *
          have t0 := HZ9.out.cell 0
          have t1 := HZ9.out.cell 1
          have t2 := HZ9.out.cell 2
          go_wp2_with fail
          refine bodyPost_ret (v := .tuple #[.slice A9 R c7, .agg #[.int .i64 y7.i, .string (bst y7.b), .bool y7.d], .bool true]) (by simp [results, Try.results9, go_sem, *]) rfl ?_
          exact ⟨by unfold PutGot; rw [HNO.out]; exact ⟨A9, R, c7, rfl, ⟨HE9.out, by rw [List.length_take]; have := HM7.out; omega, by omega, by omega, Nat.le_refl _⟩, HI9.out⟩, HB9.out⟩
        · have hRm' : ¬ (R : Int) < (m7 : Int) := by omega
          have HNO := hid (show O[R]? = none from List.getElem?_eq_none (by have := HM7.out; omega))
          have x0 := HZ7.out.cell 0
          have x1 := HZ7.out.cell 1
          have x2 := HZ7.out.cell 2
          have f0 := HZ7.out.free 0
          have f1 := HZ7.out.free 1
          have f2 := HZ7.out.free 2
          go_wp2_with fail
          have HZ9 := hid (show Blk (((w7.setCell ⟨g, 0, none⟩ (.int .i64 0)).setCell ⟨g, 1, none⟩ (.string ⟨#[]⟩)).setCell ⟨g, 2, none⟩ (.bool false)) g 32 #[.int .i64 0, .string ⟨#[]⟩, .bool false] from ((HZ7.out.set 0 _).set 1 _).set 2 _)
          have HR9 := hid (show GRow eEn 32 (((w7.setCell ⟨g, 0, none⟩ (.int .i64 0)).setCell ⟨g, 1, none⟩ (.string ⟨#[]⟩)).setCell ⟨g, 2, none⟩ (.bool false)) w3.heap.size A7 m7 c7 O from ((HR8.out.set (p := ⟨g, 0, none⟩) HG7.out _).set (p := ⟨g, 1, none⟩) HG7.out _).set (p := ⟨g, 2, none⟩) HG7.out _)
          have HB9 := hid (show Below w.heap.size w (((w7.setCell ⟨g, 0, none⟩ (.int .i64 0)).setCell ⟨g, 1, none⟩ (.string ⟨#[]⟩)).setCell ⟨g, 2, none⟩ (.bool false)) from ((HB7.out.setCell (p := ⟨g, 0, none⟩) (Nat.le_of_eq HGE.out) _).setCell (p := ⟨g, 1, none⟩) (Nat.le_of_eq HGE.out) _).setCell (p := ⟨g, 2, none⟩) (Nat.le_of_eq HGE.out) _)
          clear x0 x1 x2 f0 f1 f2
          generalize ((w7.setCell ⟨g, 0, none⟩ (.int .i64 0)).setCell ⟨g, 1, none⟩ (.string ⟨#[]⟩)).setCell ⟨g, 2, none⟩ (.bool false) = w9 at *
          have t0 := HZ9.out.cell 0
          have t1 := HZ9.out.cell 1
          have t2 := HZ9.out.cell 2
          refine bodyPost_ret (v := .tuple #[.slice A7 m7 c7, .agg #[.int .i64 0, .string ⟨#[]⟩, .bool false], .bool false]) (by simp [results, Try.results9, go_sem, *]) rfl ?_
          exact ⟨by unfold PutGot; rw [HNO.out]; exact ⟨A7, m7, c7, rfl, ES.row HR9.out (by have := HM7.out; omega), In.weak (GRow.in_ HR9.out) (fun q hq => Nat.le_trans HB3.out.size hq)⟩, HB9.out⟩
      refine rcH (fun K hK => ?_) AllReadyH.nil
      · skip
        go_simp
        go_fit (HWO.out _ hS)
        rintro e wa ⟨A5, m5, c5, rfl, hr5, hba⟩
        have hS4 := Beyond.step hS hba
        have HRC := hid hr5
        clear hr5 hba
        refine hK.out _ _ (by assumption) (fun _ => ?_)
        clear hK K hS
        have hS := hS4
        try simp only [putr]
        refine rdH [1] ?_
        refine rcH (fun K hK => ?_) AllReadyH.nil
        go_simp
        refine hK.out _ _ ((Beyond.alloc hS _)) (fun hS1 => ?_)
        have HRB := hid (GRow.single (E := eEn) (e := 32) (x := (⟨k, b, true⟩ : En)) (base := w3.heap.size) wa rfl (Below.size hS))
        have HRC := hid (HRC.out.alloc (.cells #[.int .i64 k, .string (bst b), .bool true] 32))
        clear hK K hS
        have hS := hS1
        try simp only [putr]
        refine rdH [5] ?_
        refine rcH (fun K hK => ?_) AllReadyH.nil
        refine wp_append_g _ (.tmp 35) (.tmp 38) eEn gi_en (by decide) rfl w3.heap.size rfl HRB.out rfl HRC.out.1 HRC.out.at_ (by have := HOL.out; simp only [List.length_singleton]; omega) (Below.size hS) ?_
        intro A7 m7 c7 w7 hr7 hc7 hb7 hg7
        refine hK.out _ _ (Below.trans hS hb7) (fun hS5 => ?_)
        have HR7 := hid hr7
        have HC7 := hid hc7
        clear hr7 hc7 hb7 hg7
        clear hK K hS
        have hS := hS5
        try simp only [putr]
        refine stT 6 hS ?_
        try simp only [putr]
        refine wpAnyH_done (by kernel_rfl) ?_ _
        clear z0 z1 z2 HRB HRC HWO
        have HB7 := hid (show Below w.heap.size w w7 from HB3.out.trans (Below.mono hS HB3.out.size))
        have HZ7 := hid (HZ3.out.below hS HZ3.out.lt)
        have HG7 := hid (show g < w3.heap.size from HZ3.out.lt)
        have HR8 := hid (show GRow eEn 32 w7 w3.heap.size A7 m7 c7 O by rw [← HOO.out]; exact HR7.out)
        have HM7 := hid (show m7 = O.length from HR8.out.1)
        have hc7 := HC7.out
        have hol := HON.out
        clear hS hS1 hS4 hS5 HR7 HC7
        have hm9 : m7 ≤ 1000001 := by have := HM7.out; omega
        by_cases hRm : R < m7
        · have hRm' : (R : Int) < (m7 : Int) := by omega
          obtain ⟨b7, o7, y7, rfl, hb7, hy7, c0, c1, c2⟩ := EAt.get HR8.out.at_ (i := R) (by rw [← HM7.out]; exact hRm)
          have hb7' : w3.heap.size ≤ b7 := HR8.out.in_ b7 o7 rfl (by have := HM7.out; omega)
          have HNO := hid hy7
          have HBF7 := hid (And.intro hb7 hb7')
          have HC7 := hid (And.intro c0 (And.intro c1 c2))
          have HK7 := hid (fun (W : World) (hW : Only g w7 W) (i : Nat) => show W.cell? ⟨b7, i, none⟩ = w7.cell? ⟨b7, i, none⟩ from World.cell?_of_block (a := ⟨b7, i, none⟩) (hW.block b7 HBF7.out.1 (fun e => by injection e with e; have := HBF7.out.2; have := HG7.out; omega)))
          have z70 : ∀ W, Only g w7 W → W.cell? ⟨b7, o7 + R * 3, none⟩ = some (.int .i64 y7.i) := fun W hW => (HK7.out W hW _).trans HC7.out.1
          have z71 : ∀ W, Only g w7 W → W.cell? ⟨b7, o7 + R * 3 + 1, none⟩ = some (.string (bst y7.b)) := fun W hW => (HK7.out W hW _).trans HC7.out.2.1
          have z72 : ∀ W, Only g w7 W → W.cell? ⟨b7, o7 + R * 3 + 2, none⟩ = some (.bool y7.d) := fun W hW => (HK7.out W hW _).trans HC7.out.2.2
          have hr9 : GRow eEn 32 ((((w7.setCell ⟨g, 0, none⟩ (.int .i64 y7.i)).setCell ⟨g, 1, none⟩ (.string (bst y7.b))).setCell ⟨g, 2, none⟩ (.bool y7.d)).drew) w3.heap.size (some ⟨b7, o7, none⟩) m7 c7 O := (((HR8.out.set (p := ⟨g, 0, none⟩) HG7.out (.int .i64 y7.i)).set (p := ⟨g, 1, none⟩) HG7.out (.string (bst y7.b))).set (p := ⟨g, 2, none⟩) HG7.out (.bool y7.d)).below ((Below.refl _ _).drew)
          obtain ⟨A9, hs9, ha9, hi9⟩ := eslice_to (n := R) hr9.at_ HM7.out hc7 (Nat.le_of_lt hRm)
          clear hr9
          have x0 := HZ7.out.cell 0
          have x1 := HZ7.out.cell 1
          have x2 := HZ7.out.cell 2
          have f0 := HZ7.out.free 0
          have f1 := HZ7.out.free 1
          have f2 := HZ7.out.free 2
          have HT9 := hid ha9
          have HI9 := hid (show In (fun k => w.heap.size ≤ k) A9 (O.take R) by rw [hi9]; intro bb oo ee _; have q := congrArg Addr.block (Option.some.inj ee); dsimp only at q; rw [← q]; exact Nat.le_trans HB3.out.size hb7')
          clear hi9
          have HBF := hid (show Below w.heap.size w ((((w7.setCell ⟨g, 0, none⟩ (.int .i64 y7.i)).setCell ⟨g, 1, none⟩ (.string (bst y7.b))).setCell ⟨g, 2, none⟩ (.bool y7.d)).drew) from (((HB7.out.setCell (p := ⟨g, 0, none⟩) (Nat.le_of_eq HGE.out) _).setCell (p := ⟨g, 1, none⟩) (Nat.le_of_eq HGE.out) _).setCell (p := ⟨g, 2, none⟩) (Nat.le_of_eq HGE.out) _).drew)
          clear hb7 hb7' hy7 c0 c1 c2 ha9
          go_upto_region 7 with fail
          refine wp_region_held_drew (S := Only g w7) (by kernel_rfl) (Only.refl g w7).drew (fun hS => ?_)
          refine stT 0 hS ?_
          try simp only [putr]
          refine stT 1 hS ?_
          try simp only [putr]
          refine stT 2 hS ?_
          try simp only [putr]
          refine stT 3 hS ?_
          try simp only [putr]
          refine stT 4 hS ?_
          try simp only [putr]
          refine stT 5 hS ?_
          try simp only [putr]
          refine stT 6 hS ?_
          try simp only [putr]
          refine stT 7 hS ?_
          try simp only [putr]
          refine rdH [8] ?_
          refine rcH (fun K hK => ?_) AllReadyH.nil
          go_simp
          refine hK.out _ _ ((by have hz := Only.set (i := 2) (Only.set (i := 1) (Only.set (i := 0) hS (.int .i64 y7.i)) (.string (bst y7.b))) (.bool y7.d); simpa only [drew_setE] using hz)) (fun hS8 => ?_)
          skip
          clear hK K hS
          have hS := hS8
          try simp only [Act.put]
          refine stT 9 hS ?_
          try simp only [putr]
          refine wpAnyH_done (by kernel_rfl) ?_ _
          have HZ9 := hid (show Blk ((((w7.setCell ⟨g, 0, none⟩ (.int .i64 y7.i)).setCell ⟨g, 1, none⟩ (.string (bst y7.b))).setCell ⟨g, 2, none⟩ (.bool y7.d)).drew) g 32 #[.int .i64 y7.i, .string (bst y7.b), .bool y7.d] from (((HZ7.out.set 0 _).set 1 _).set 2 _).drew)
          have HE9 := hid (show EAt ((((w7.setCell ⟨g, 0, none⟩ (.int .i64 y7.i)).setCell ⟨g, 1, none⟩ (.string (bst y7.b))).setCell ⟨g, 2, none⟩ (.bool y7.d)).drew) ((((w7.setCell ⟨g, 0, none⟩ (.int .i64 y7.i)).setCell ⟨g, 1, none⟩ (.string (bst y7.b))).setCell ⟨g, 2, none⟩ (.bool y7.d)).drew).heap.size A9 (O.take R) from HT9.out)
          have HB9 := hid (show Below w.heap.size w ((((w7.setCell ⟨g, 0, none⟩ (.int .i64 y7.i)).setCell ⟨g, 1, none⟩ (.string (bst y7.b))).setCell ⟨g, 2, none⟩ (.bool y7.d)).drew) from HBF.out)
          clear hS hS8 z70 z71 z72 HBF HT9
          generalize (((w7.setCell ⟨g, 0, none⟩ (.int .i64 y7.i)).setCell ⟨g, 1, none⟩ (.string (bst y7.b))).setCell ⟨g, 2, none⟩ (.bool y7.d)).drew = w9 at *
          have t0 := HZ9.out.cell 0
          have t1 := HZ9.out.cell 1
          have t2 := HZ9.out.cell 2
          go_wp2_with fail
          refine bodyPost_ret (v := .tuple #[.slice A9 R c7, .agg #[.int .i64 y7.i, .string (bst y7.b), .bool y7.d], .bool true]) (by simp [results, Try.results9, go_sem, *]) rfl ?_
          exact ⟨by unfold PutGot; rw [HNO.out]; exact ⟨A9, R, c7, rfl, ⟨HE9.out, by rw [List.length_take]; have := HM7.out; omega, by omega, by omega, Nat.le_refl _⟩, HI9.out⟩, HB9.out⟩
        · have hRm' : ¬ (R : Int) < (m7 : Int) := by omega
          have HNO := hid (show O[R]? = none from List.getElem?_eq_none (by have := HM7.out; omega))
          have x0 := HZ7.out.cell 0
          have x1 := HZ7.out.cell 1
          have x2 := HZ7.out.cell 2
          have f0 := HZ7.out.free 0
          have f1 := HZ7.out.free 1
          have f2 := HZ7.out.free 2
          go_wp2_with fail
          have HZ9 := hid (show Blk (((w7.setCell ⟨g, 0, none⟩ (.int .i64 0)).setCell ⟨g, 1, none⟩ (.string ⟨#[]⟩)).setCell ⟨g, 2, none⟩ (.bool false)) g 32 #[.int .i64 0, .string ⟨#[]⟩, .bool false] from ((HZ7.out.set 0 _).set 1 _).set 2 _)
          have HR9 := hid (show GRow eEn 32 (((w7.setCell ⟨g, 0, none⟩ (.int .i64 0)).setCell ⟨g, 1, none⟩ (.string ⟨#[]⟩)).setCell ⟨g, 2, none⟩ (.bool false)) w3.heap.size A7 m7 c7 O from ((HR8.out.set (p := ⟨g, 0, none⟩) HG7.out _).set (p := ⟨g, 1, none⟩) HG7.out _).set (p := ⟨g, 2, none⟩) HG7.out _)
          have HB9 := hid (show Below w.heap.size w (((w7.setCell ⟨g, 0, none⟩ (.int .i64 0)).setCell ⟨g, 1, none⟩ (.string ⟨#[]⟩)).setCell ⟨g, 2, none⟩ (.bool false)) from ((HB7.out.setCell (p := ⟨g, 0, none⟩) (Nat.le_of_eq HGE.out) _).setCell (p := ⟨g, 1, none⟩) (Nat.le_of_eq HGE.out) _).setCell (p := ⟨g, 2, none⟩) (Nat.le_of_eq HGE.out) _)
          clear x0 x1 x2 f0 f1 f2
          generalize ((w7.setCell ⟨g, 0, none⟩ (.int .i64 0)).setCell ⟨g, 1, none⟩ (.string ⟨#[]⟩)).setCell ⟨g, 2, none⟩ (.bool false) = w9 at *
          have t0 := HZ9.out.cell 0
          have t1 := HZ9.out.cell 1
          have t2 := HZ9.out.cell 2
          refine bodyPost_ret (v := .tuple #[.slice A7 m7 c7, .agg #[.int .i64 0, .string ⟨#[]⟩, .bool false], .bool false]) (by simp [results, Try.results9, go_sem, *]) rfl ?_
          exact ⟨by unfold PutGot; rw [HNO.out]; exact ⟨A7, m7, c7, rfl, ES.row HR9.out (by have := HM7.out; omega), In.weak (GRow.in_ HR9.out) (fun q hq => Nat.le_trans HB3.out.size hq)⟩, HB9.out⟩
    | false =>
      obtain ⟨D, hD⟩ : ∃ D, y'.d = D := ⟨_, rfl⟩
      rw [hD] at HC2
      obtain ⟨O, hO⟩ : ∃ O, (⟨k, b, D⟩ :: outE J l : List En) = O := ⟨_, rfl⟩
      have HON := hid (show O.length ≤ 1000001 by rw [← hO, List.length_cons]; have := HOL.out; omega)
      rw [Bool.false_or, hD, hO]
      have HOO := hid hO
      clear hb1 h hp hd0 hfi hO hJ hy hy' hbb c2 hk hD
      go_enter Try.func9, Try.ntmps9
      go_wp2_with fail
      generalize w.alloc (.cells #[.int .i64 0, .string ⟨#[]⟩, .bool false] 32) = w1 at *
      obtain ⟨g, hg⟩ : ∃ g, w.heap.size = g := ⟨_, rfl⟩
      rw [hg] at HZ1 ⊢
      have HGE := hid hg
      clear hg
      go_fit HF.out
      rintro e w' ⟨rfl, hw⟩
      rw [hw]
      clear hw w'
      have zc : (w1.alloc (.cells #[.int .i64 k, .string (bst b), .bool false] 32)).cell? ⟨bb, off + J * 3 + 2, none⟩ = some (.bool D) := (Below.cell ((Below.refl w1.heap.size w1).alloc (Nat.le_refl _) _) HBB.out).trans HC2.out
      have hb3 := (Below.refl w1.heap.size w1).alloc (Nat.le_refl _) (.cells #[.int .i64 k, .string (bst b), .bool D] 32)
      have HB3 := hid (below_step HB1.out hb3)
      have HE3 := hid (Blk.new w1 32 #[.int .i64 k, .string (bst b), .bool D])
      have HZ3 := hid (HZ1.out.below hb3 HZ1.out.lt)
      have HA3 := hid (HA1.out.step hb3)
      clear hb3
      go_upto_region 5 with fail
      generalize w1.alloc (.cells #[.int .i64 k, .string (bst b), .bool D] 32) = w3 at *
      obtain ⟨g3, hg3⟩ : ∃ g, w1.heap.size = g := ⟨_, rfl⟩
      rw [hg3] at HE3 ⊢
      clear hg3
      have HWO := hid (fun (W : World) (hW : Beyond w3 W) => refWithout_any (j := (J : Int)) (J := J) (HA3.out.step hW) HJJ.out)
      have z0 : ∀ W, Beyond w3 W → W.cell? ⟨g3, 0, none⟩ = some (.int .i64 k) := fun W hW => (HE3.out.below hW HE3.out.lt).cell 0
      have z1 : ∀ W, Beyond w3 W → W.cell? ⟨g3, 1, none⟩ = some (.string (bst b)) := fun W hW => (HE3.out.below hW HE3.out.lt).cell 1
      have z2 : ∀ W, Beyond w3 W → W.cell? ⟨g3, 2, none⟩ = some (.bool D) := fun W hW => (HE3.out.below hW HE3.out.lt).cell 2
      refine wp_region_held_drew (S := Beyond w3) (by kernel_rfl) (Beyond.drew _) (fun hS => ?_)
      refine stT 0 hS ?_
      try simp only [putr]
      refine stT 2 hS ?_
      try simp only [putr]
      refine stT 3 hS ?_
      try simp only [putr]
      refine rdH [1, 4] ?_
      refine rcH (fun K hK => ?_) ?_
      · skip
        go_simp
        refine hK.out _ _ ((Beyond.alloc hS _)) (fun hS1 => ?_)
        have HRB := hid (GRow.single (E := eEn) (e := 32) (x := (⟨k, b, D⟩ : En)) (base := w3.heap.size) w3.drew rfl (Nat.le_refl _))
        clear hK K hS
        have hS := hS1
        try simp only [putr]
        refine rdH [4] ?_
        refine rcH (fun K hK => ?_) AllReadyH.nil
        go_simp
        go_fit (HWO.out _ hS)
        rintro e wa ⟨A5, m5, c5, rfl, hr5, hba⟩
        have hS4 := Beyond.step hS hba
        have HRC := hid hr5
        have HRB := hid (HRB.out.below hba)
        clear hr5 hba
        refine hK.out _ _ (by assumption) (fun _ => ?_)
        clear hK K hS
        have hS := hS4
        try simp only [putr]
        refine rdH [5] ?_
        refine rcH (fun K hK => ?_) AllReadyH.nil
        refine wp_append_g _ (.tmp 35) (.tmp 38) eEn gi_en (by decide) rfl w3.heap.size rfl HRB.out rfl HRC.out.1 HRC.out.at_ (by have := HOL.out; simp only [List.length_singleton]; omega) (Below.size hS) ?_
        intro A7 m7 c7 w7 hr7 hc7 hb7 hg7
        refine hK.out _ _ (Below.trans hS hb7) (fun hS5 => ?_)
        have HR7 := hid hr7
        have HC7 := hid hc7
        clear hr7 hc7 hb7 hg7
        clear hK K hS
        have hS := hS5
        try simp only [putr]
        refine stT 6 hS ?_
        try simp only [putr]
        refine wpAnyH_done (by kernel_rfl) ?_ _
        clear z0 z1 z2 HRB HRC HWO
        have HB7 := hid (show Below w.heap.size w w7 from HB3.out.trans (Below.mono hS HB3.out.size))
        have HZ7 := hid (HZ3.out.below hS HZ3.out.lt)
        have HG7 := hid (show g < w3.heap.size from HZ3.out.lt)
        have HR8 := hid (show GRow eEn 32 w7 w3.heap.size A7 m7 c7 O by rw [← HOO.out]; exact HR7.out)
        have HM7 := hid (show m7 = O.length from HR8.out.1)
        have hc7 := HC7.out
        have hol := HON.out
        clear hS hS1 hS4 hS5 HR7 HC7
        have hm9 : m7 ≤ 1000001 := by have := HM7.out; omega
        by_cases hRm : R < m7
        · have hRm' : (R : Int) < (m7 : Int) := by omega
          obtain ⟨b7, o7, y7, rfl, hb7, hy7, c0, c1, c2⟩ := EAt.get HR8.out.at_ (i := R) (by rw [← HM7.out]; exact hRm)
          have hb7' : w3.heap.size ≤ b7 := HR8.out.in_ b7 o7 rfl (by have := HM7.out; omega)
          have HNO := hid hy7
          have HBF7 := hid (And.intro hb7 hb7')
          have HC7 := hid (And.intro c0 (And.intro c1 c2))
          have HK7 := hid (fun (W : World) (hW : Only g w7 W) (i : Nat) => show W.cell? ⟨b7, i, none⟩ = w7.cell? ⟨b7, i, none⟩ from World.cell?_of_block (a := ⟨b7, i, none⟩) (hW.block b7 HBF7.out.1 (fun e => by injection e with e; have := HBF7.out.2; have := HG7.out; omega)))
          have z70 : ∀ W, Only g w7 W → W.cell? ⟨b7, o7 + R * 3, none⟩ = some (.int .i64 y7.i) := fun W hW => (HK7.out W hW _).trans HC7.out.1
          have z71 : ∀ W, Only g w7 W → W.cell? ⟨b7, o7 + R * 3 + 1, none⟩ = some (.string (bst y7.b)) := fun W hW => (HK7.out W hW _).trans HC7.out.2.1
          have z72 : ∀ W, Only g w7 W → W.cell? ⟨b7, o7 + R * 3 + 2, none⟩ = some (.bool y7.d) := fun W hW => (HK7.out W hW _).trans HC7.out.2.2
          have hr9 : GRow eEn 32 ((((w7.setCell ⟨g, 0, none⟩ (.int .i64 y7.i)).setCell ⟨g, 1, none⟩ (.string (bst y7.b))).setCell ⟨g, 2, none⟩ (.bool y7.d)).drew) w3.heap.size (some ⟨b7, o7, none⟩) m7 c7 O := (((HR8.out.set (p := ⟨g, 0, none⟩) HG7.out (.int .i64 y7.i)).set (p := ⟨g, 1, none⟩) HG7.out (.string (bst y7.b))).set (p := ⟨g, 2, none⟩) HG7.out (.bool y7.d)).below ((Below.refl _ _).drew)
          obtain ⟨A9, hs9, ha9, hi9⟩ := eslice_to (n := R) hr9.at_ HM7.out hc7 (Nat.le_of_lt hRm)
          clear hr9
          have x0 := HZ7.out.cell 0
          have x1 := HZ7.out.cell 1
          have x2 := HZ7.out.cell 2
          have f0 := HZ7.out.free 0
          have f1 := HZ7.out.free 1
          have f2 := HZ7.out.free 2
          have HT9 := hid ha9
          have HI9 := hid (show In (fun k => w.heap.size ≤ k) A9 (O.take R) by rw [hi9]; intro bb oo ee _; have q := congrArg Addr.block (Option.some.inj ee); dsimp only at q; rw [← q]; exact Nat.le_trans HB3.out.size hb7')
          clear hi9
          have HBF := hid (show Below w.heap.size w ((((w7.setCell ⟨g, 0, none⟩ (.int .i64 y7.i)).setCell ⟨g, 1, none⟩ (.string (bst y7.b))).setCell ⟨g, 2, none⟩ (.bool y7.d)).drew) from (((HB7.out.setCell (p := ⟨g, 0, none⟩) (Nat.le_of_eq HGE.out) _).setCell (p := ⟨g, 1, none⟩) (Nat.le_of_eq HGE.out) _).setCell (p := ⟨g, 2, none⟩) (Nat.le_of_eq HGE.out) _).drew)
          clear hb7 hb7' hy7 c0 c1 c2 ha9
          go_upto_region 7 with fail
          refine wp_region_held_drew (S := Only g w7) (by kernel_rfl) (Only.refl g w7).drew (fun hS => ?_)
          refine stT 0 hS ?_
          try simp only [putr]
          refine stT 1 hS ?_
          try simp only [putr]
          refine stT 2 hS ?_
          try simp only [putr]
          refine stT 3 hS ?_
          try simp only [putr]
          refine stT 4 hS ?_
          try simp only [putr]
          refine stT 5 hS ?_
          try simp only [putr]
          refine stT 6 hS ?_
          try simp only [putr]
          refine stT 7 hS ?_
          try simp only [putr]
          refine rdH [8] ?_
          refine rcH (fun K hK => ?_) AllReadyH.nil
          go_simp
          refine hK.out _ _ ((by have hz := Only.set (i := 2) (Only.set (i := 1) (Only.set (i := 0) hS (.int .i64 y7.i)) (.string (bst y7.b))) (.bool y7.d); simpa only [drew_setE] using hz)) (fun hS8 => ?_)
          skip
          clear hK K hS
          have hS := hS8
          try simp only [Act.put]
          refine stT 9 hS ?_
          try simp only [putr]
          refine wpAnyH_done (by kernel_rfl) ?_ _
          have HZ9 := hid (show Blk ((((w7.setCell ⟨g, 0, none⟩ (.int .i64 y7.i)).setCell ⟨g, 1, none⟩ (.string (bst y7.b))).setCell ⟨g, 2, none⟩ (.bool y7.d)).drew) g 32 #[.int .i64 y7.i, .string (bst y7.b), .bool y7.d] from (((HZ7.out.set 0 _).set 1 _).set 2 _).drew)
          have HE9 := hid (show EAt ((((w7.setCell ⟨g, 0, none⟩ (.int .i64 y7.i)).setCell ⟨g, 1, none⟩ (.string (bst y7.b))).setCell ⟨g, 2, none⟩ (.bool y7.d)).drew) ((((w7.setCell ⟨g, 0, none⟩ (.int .i64 y7.i)).setCell ⟨g, 1, none⟩ (.string (bst y7.b))).setCell ⟨g, 2, none⟩ (.bool y7.d)).drew).heap.size A9 (O.take R) from HT9.out)
          have HB9 := hid (show Below w.heap.size w ((((w7.setCell ⟨g, 0, none⟩ (.int .i64 y7.i)).setCell ⟨g, 1, none⟩ (.string (bst y7.b))).setCell ⟨g, 2, none⟩ (.bool y7.d)).drew) from HBF.out)
          clear hS hS8 z70 z71 z72 HBF HT9
          generalize (((w7.setCell ⟨g, 0, none⟩ (.int .i64 y7.i)).setCell ⟨g, 1, none⟩ (.string (bst y7.b))).setCell ⟨g, 2, none⟩ (.bool y7.d)).drew = w9 at *
          have t0 := HZ9.out.cell 0
          have t1 := HZ9.out.cell 1
          have t2 := HZ9.out.cell 2
          go_wp2_with fail
          refine bodyPost_ret (v := .tuple #[.slice A9 R c7, .agg #[.int .i64 y7.i, .string (bst y7.b), .bool y7.d], .bool true]) (by simp [results, Try.results9, go_sem, *]) rfl ?_
          exact ⟨by unfold PutGot; rw [HNO.out]; exact ⟨A9, R, c7, rfl, ⟨HE9.out, by rw [List.length_take]; have := HM7.out; omega, by omega, by omega, Nat.le_refl _⟩, HI9.out⟩, HB9.out⟩
        · have hRm' : ¬ (R : Int) < (m7 : Int) := by omega
          have HNO := hid (show O[R]? = none from List.getElem?_eq_none (by have := HM7.out; omega))
          have x0 := HZ7.out.cell 0
          have x1 := HZ7.out.cell 1
          have x2 := HZ7.out.cell 2
          have f0 := HZ7.out.free 0
          have f1 := HZ7.out.free 1
          have f2 := HZ7.out.free 2
          go_wp2_with fail
          have HZ9 := hid (show Blk (((w7.setCell ⟨g, 0, none⟩ (.int .i64 0)).setCell ⟨g, 1, none⟩ (.string ⟨#[]⟩)).setCell ⟨g, 2, none⟩ (.bool false)) g 32 #[.int .i64 0, .string ⟨#[]⟩, .bool false] from ((HZ7.out.set 0 _).set 1 _).set 2 _)
          have HR9 := hid (show GRow eEn 32 (((w7.setCell ⟨g, 0, none⟩ (.int .i64 0)).setCell ⟨g, 1, none⟩ (.string ⟨#[]⟩)).setCell ⟨g, 2, none⟩ (.bool false)) w3.heap.size A7 m7 c7 O from ((HR8.out.set (p := ⟨g, 0, none⟩) HG7.out _).set (p := ⟨g, 1, none⟩) HG7.out _).set (p := ⟨g, 2, none⟩) HG7.out _)
          have HB9 := hid (show Below w.heap.size w (((w7.setCell ⟨g, 0, none⟩ (.int .i64 0)).setCell ⟨g, 1, none⟩ (.string ⟨#[]⟩)).setCell ⟨g, 2, none⟩ (.bool false)) from ((HB7.out.setCell (p := ⟨g, 0, none⟩) (Nat.le_of_eq HGE.out) _).setCell (p := ⟨g, 1, none⟩) (Nat.le_of_eq HGE.out) _).setCell (p := ⟨g, 2, none⟩) (Nat.le_of_eq HGE.out) _)
          clear x0 x1 x2 f0 f1 f2
          generalize ((w7.setCell ⟨g, 0, none⟩ (.int .i64 0)).setCell ⟨g, 1, none⟩ (.string ⟨#[]⟩)).setCell ⟨g, 2, none⟩ (.bool false) = w9 at *
          have t0 := HZ9.out.cell 0
          have t1 := HZ9.out.cell 1
          have t2 := HZ9.out.cell 2
          refine bodyPost_ret (v := .tuple #[.slice A7 m7 c7, .agg #[.int .i64 0, .string ⟨#[]⟩, .bool false], .bool false]) (by simp [results, Try.results9, go_sem, *]) rfl ?_
          exact ⟨by unfold PutGot; rw [HNO.out]; exact ⟨A7, m7, c7, rfl, ES.row HR9.out (by have := HM7.out; omega), In.weak (GRow.in_ HR9.out) (fun q hq => Nat.le_trans HB3.out.size hq)⟩, HB9.out⟩
      refine rcH (fun K hK => ?_) AllReadyH.nil
      · skip
        go_simp
        go_fit (HWO.out _ hS)
        rintro e wa ⟨A5, m5, c5, rfl, hr5, hba⟩
        have hS4 := Beyond.step hS hba
        have HRC := hid hr5
        clear hr5 hba
        refine hK.out _ _ (by assumption) (fun _ => ?_)
        clear hK K hS
        have hS := hS4
        try simp only [putr]
        refine rdH [1] ?_
        refine rcH (fun K hK => ?_) AllReadyH.nil
        go_simp
        refine hK.out _ _ ((Beyond.alloc hS _)) (fun hS1 => ?_)
        have HRB := hid (GRow.single (E := eEn) (e := 32) (x := (⟨k, b, D⟩ : En)) (base := w3.heap.size) wa rfl (Below.size hS))
        have HRC := hid (HRC.out.alloc (.cells #[.int .i64 k, .string (bst b), .bool D] 32))
        clear hK K hS
        have hS := hS1
        try simp only [putr]
        refine rdH [5] ?_
        refine rcH (fun K hK => ?_) AllReadyH.nil
        refine wp_append_g _ (.tmp 35) (.tmp 38) eEn gi_en (by decide) rfl w3.heap.size rfl HRB.out rfl HRC.out.1 HRC.out.at_ (by have := HOL.out; simp only [List.length_singleton]; omega) (Below.size hS) ?_
        intro A7 m7 c7 w7 hr7 hc7 hb7 hg7
        refine hK.out _ _ (Below.trans hS hb7) (fun hS5 => ?_)
        have HR7 := hid hr7
        have HC7 := hid hc7
        clear hr7 hc7 hb7 hg7
        clear hK K hS
        have hS := hS5
        try simp only [putr]
        refine stT 6 hS ?_
        try simp only [putr]
        refine wpAnyH_done (by kernel_rfl) ?_ _
        clear z0 z1 z2 HRB HRC HWO
        have HB7 := hid (show Below w.heap.size w w7 from HB3.out.trans (Below.mono hS HB3.out.size))
        have HZ7 := hid (HZ3.out.below hS HZ3.out.lt)
        have HG7 := hid (show g < w3.heap.size from HZ3.out.lt)
        have HR8 := hid (show GRow eEn 32 w7 w3.heap.size A7 m7 c7 O by rw [← HOO.out]; exact HR7.out)
        have HM7 := hid (show m7 = O.length from HR8.out.1)
        have hc7 := HC7.out
        have hol := HON.out
        clear hS hS1 hS4 hS5 HR7 HC7
        have hm9 : m7 ≤ 1000001 := by have := HM7.out; omega
        by_cases hRm : R < m7
        · have hRm' : (R : Int) < (m7 : Int) := by omega
          obtain ⟨b7, o7, y7, rfl, hb7, hy7, c0, c1, c2⟩ := EAt.get HR8.out.at_ (i := R) (by rw [← HM7.out]; exact hRm)
          have hb7' : w3.heap.size ≤ b7 := HR8.out.in_ b7 o7 rfl (by have := HM7.out; omega)
          have HNO := hid hy7
          have HBF7 := hid (And.intro hb7 hb7')
          have HC7 := hid (And.intro c0 (And.intro c1 c2))
          have HK7 := hid (fun (W : World) (hW : Only g w7 W) (i : Nat) => show W.cell? ⟨b7, i, none⟩ = w7.cell? ⟨b7, i, none⟩ from World.cell?_of_block (a := ⟨b7, i, none⟩) (hW.block b7 HBF7.out.1 (fun e => by injection e with e; have := HBF7.out.2; have := HG7.out; omega)))
          have z70 : ∀ W, Only g w7 W → W.cell? ⟨b7, o7 + R * 3, none⟩ = some (.int .i64 y7.i) := fun W hW => (HK7.out W hW _).trans HC7.out.1
          have z71 : ∀ W, Only g w7 W → W.cell? ⟨b7, o7 + R * 3 + 1, none⟩ = some (.string (bst y7.b)) := fun W hW => (HK7.out W hW _).trans HC7.out.2.1
          have z72 : ∀ W, Only g w7 W → W.cell? ⟨b7, o7 + R * 3 + 2, none⟩ = some (.bool y7.d) := fun W hW => (HK7.out W hW _).trans HC7.out.2.2
          have hr9 : GRow eEn 32 ((((w7.setCell ⟨g, 0, none⟩ (.int .i64 y7.i)).setCell ⟨g, 1, none⟩ (.string (bst y7.b))).setCell ⟨g, 2, none⟩ (.bool y7.d)).drew) w3.heap.size (some ⟨b7, o7, none⟩) m7 c7 O := (((HR8.out.set (p := ⟨g, 0, none⟩) HG7.out (.int .i64 y7.i)).set (p := ⟨g, 1, none⟩) HG7.out (.string (bst y7.b))).set (p := ⟨g, 2, none⟩) HG7.out (.bool y7.d)).below ((Below.refl _ _).drew)
          obtain ⟨A9, hs9, ha9, hi9⟩ := eslice_to (n := R) hr9.at_ HM7.out hc7 (Nat.le_of_lt hRm)
          clear hr9
          have x0 := HZ7.out.cell 0
          have x1 := HZ7.out.cell 1
          have x2 := HZ7.out.cell 2
          have f0 := HZ7.out.free 0
          have f1 := HZ7.out.free 1
          have f2 := HZ7.out.free 2
          have HT9 := hid ha9
          have HI9 := hid (show In (fun k => w.heap.size ≤ k) A9 (O.take R) by rw [hi9]; intro bb oo ee _; have q := congrArg Addr.block (Option.some.inj ee); dsimp only at q; rw [← q]; exact Nat.le_trans HB3.out.size hb7')
          clear hi9
          have HBF := hid (show Below w.heap.size w ((((w7.setCell ⟨g, 0, none⟩ (.int .i64 y7.i)).setCell ⟨g, 1, none⟩ (.string (bst y7.b))).setCell ⟨g, 2, none⟩ (.bool y7.d)).drew) from (((HB7.out.setCell (p := ⟨g, 0, none⟩) (Nat.le_of_eq HGE.out) _).setCell (p := ⟨g, 1, none⟩) (Nat.le_of_eq HGE.out) _).setCell (p := ⟨g, 2, none⟩) (Nat.le_of_eq HGE.out) _).drew)
          clear hb7 hb7' hy7 c0 c1 c2 ha9
          go_upto_region 7 with fail
          refine wp_region_held_drew (S := Only g w7) (by kernel_rfl) (Only.refl g w7).drew (fun hS => ?_)
          refine stT 0 hS ?_
          try simp only [putr]
          refine stT 1 hS ?_
          try simp only [putr]
          refine stT 2 hS ?_
          try simp only [putr]
          refine stT 3 hS ?_
          try simp only [putr]
          refine stT 4 hS ?_
          try simp only [putr]
          refine stT 5 hS ?_
          try simp only [putr]
          refine stT 6 hS ?_
          try simp only [putr]
          refine stT 7 hS ?_
          try simp only [putr]
          refine rdH [8] ?_
          refine rcH (fun K hK => ?_) AllReadyH.nil
          go_simp
          refine hK.out _ _ ((by have hz := Only.set (i := 2) (Only.set (i := 1) (Only.set (i := 0) hS (.int .i64 y7.i)) (.string (bst y7.b))) (.bool y7.d); simpa only [drew_setE] using hz)) (fun hS8 => ?_)
          skip
          clear hK K hS
          have hS := hS8
          try simp only [Act.put]
          refine stT 9 hS ?_
          try simp only [putr]
          refine wpAnyH_done (by kernel_rfl) ?_ _
          have HZ9 := hid (show Blk ((((w7.setCell ⟨g, 0, none⟩ (.int .i64 y7.i)).setCell ⟨g, 1, none⟩ (.string (bst y7.b))).setCell ⟨g, 2, none⟩ (.bool y7.d)).drew) g 32 #[.int .i64 y7.i, .string (bst y7.b), .bool y7.d] from (((HZ7.out.set 0 _).set 1 _).set 2 _).drew)
          have HE9 := hid (show EAt ((((w7.setCell ⟨g, 0, none⟩ (.int .i64 y7.i)).setCell ⟨g, 1, none⟩ (.string (bst y7.b))).setCell ⟨g, 2, none⟩ (.bool y7.d)).drew) ((((w7.setCell ⟨g, 0, none⟩ (.int .i64 y7.i)).setCell ⟨g, 1, none⟩ (.string (bst y7.b))).setCell ⟨g, 2, none⟩ (.bool y7.d)).drew).heap.size A9 (O.take R) from HT9.out)
          have HB9 := hid (show Below w.heap.size w ((((w7.setCell ⟨g, 0, none⟩ (.int .i64 y7.i)).setCell ⟨g, 1, none⟩ (.string (bst y7.b))).setCell ⟨g, 2, none⟩ (.bool y7.d)).drew) from HBF.out)
          clear hS hS8 z70 z71 z72 HBF HT9
          generalize (((w7.setCell ⟨g, 0, none⟩ (.int .i64 y7.i)).setCell ⟨g, 1, none⟩ (.string (bst y7.b))).setCell ⟨g, 2, none⟩ (.bool y7.d)).drew = w9 at *
          have t0 := HZ9.out.cell 0
          have t1 := HZ9.out.cell 1
          have t2 := HZ9.out.cell 2
          go_wp2_with fail
          refine bodyPost_ret (v := .tuple #[.slice A9 R c7, .agg #[.int .i64 y7.i, .string (bst y7.b), .bool y7.d], .bool true]) (by simp [results, Try.results9, go_sem, *]) rfl ?_
          exact ⟨by unfold PutGot; rw [HNO.out]; exact ⟨A9, R, c7, rfl, ⟨HE9.out, by rw [List.length_take]; have := HM7.out; omega, by omega, by omega, Nat.le_refl _⟩, HI9.out⟩, HB9.out⟩
        · have hRm' : ¬ (R : Int) < (m7 : Int) := by omega
          have HNO := hid (show O[R]? = none from List.getElem?_eq_none (by have := HM7.out; omega))
          have x0 := HZ7.out.cell 0
          have x1 := HZ7.out.cell 1
          have x2 := HZ7.out.cell 2
          have f0 := HZ7.out.free 0
          have f1 := HZ7.out.free 1
          have f2 := HZ7.out.free 2
          go_wp2_with fail
          have HZ9 := hid (show Blk (((w7.setCell ⟨g, 0, none⟩ (.int .i64 0)).setCell ⟨g, 1, none⟩ (.string ⟨#[]⟩)).setCell ⟨g, 2, none⟩ (.bool false)) g 32 #[.int .i64 0, .string ⟨#[]⟩, .bool false] from ((HZ7.out.set 0 _).set 1 _).set 2 _)
          have HR9 := hid (show GRow eEn 32 (((w7.setCell ⟨g, 0, none⟩ (.int .i64 0)).setCell ⟨g, 1, none⟩ (.string ⟨#[]⟩)).setCell ⟨g, 2, none⟩ (.bool false)) w3.heap.size A7 m7 c7 O from ((HR8.out.set (p := ⟨g, 0, none⟩) HG7.out _).set (p := ⟨g, 1, none⟩) HG7.out _).set (p := ⟨g, 2, none⟩) HG7.out _)
          have HB9 := hid (show Below w.heap.size w (((w7.setCell ⟨g, 0, none⟩ (.int .i64 0)).setCell ⟨g, 1, none⟩ (.string ⟨#[]⟩)).setCell ⟨g, 2, none⟩ (.bool false)) from ((HB7.out.setCell (p := ⟨g, 0, none⟩) (Nat.le_of_eq HGE.out) _).setCell (p := ⟨g, 1, none⟩) (Nat.le_of_eq HGE.out) _).setCell (p := ⟨g, 2, none⟩) (Nat.le_of_eq HGE.out) _)
          clear x0 x1 x2 f0 f1 f2
          generalize ((w7.setCell ⟨g, 0, none⟩ (.int .i64 0)).setCell ⟨g, 1, none⟩ (.string ⟨#[]⟩)).setCell ⟨g, 2, none⟩ (.bool false) = w9 at *
          have t0 := HZ9.out.cell 0
          have t1 := HZ9.out.cell 1
          have t2 := HZ9.out.cell 2
          refine bodyPost_ret (v := .tuple #[.slice A7 m7 c7, .agg #[.int .i64 0, .string ⟨#[]⟩, .bool false], .bool false]) (by simp [results, Try.results9, go_sem, *]) rfl ?_
          exact ⟨by unfold PutGot; rw [HNO.out]; exact ⟨A7, m7, c7, rfl, ES.row HR9.out (by have := HM7.out; omega), In.weak (GRow.in_ HR9.out) (fun q hq => Nat.le_trans HB3.out.size hq)⟩, HB9.out⟩
  · have hfi : findI k l = -1 := if_neg hp
    have hd0 : inE k b d l = ⟨k, b, d⟩ :: outE (posE k l) l := by unfold inE dE; rw [List.getElem?_eq_none (by omega)]; simp
    rw [hd0]
    obtain ⟨FI, hFI⟩ : ∃ F, findI k l = F := ⟨_, rfl⟩
    rw [hFI] at HF HJJ
    rw [hfi] at hFI
    have HFI := hid hFI
    obtain ⟨O, hO⟩ : ∃ O, (⟨k, b, d⟩ :: outE (posE k l) l : List En) = O := ⟨_, rfl⟩
    have HON := hid (show O.length ≤ 1000001 by rw [← hO, List.length_cons]; have := HOL.out; omega)
    rw [hO]
    have HOO := hid hO
    subst hFI
    clear hb1 h hp hd0 hfi hO HFI
    go_enter Try.func9, Try.ntmps9
    go_wp2_with fail
    generalize w.alloc (.cells #[.int .i64 0, .string ⟨#[]⟩, .bool false] 32) = w1 at *
    obtain ⟨g, hg⟩ : ∃ g, w.heap.size = g := ⟨_, rfl⟩
    rw [hg] at HZ1 ⊢
    have HGE := hid hg
    clear hg
    go_fit HF.out
    rintro e w' ⟨rfl, hw⟩
    rw [hw]
    clear hw w'
    have hb3 := (Below.refl w1.heap.size w1).alloc (Nat.le_refl _) (.cells #[.int .i64 k, .string (bst b), .bool d] 32)
    have HB3 := hid (below_step HB1.out hb3)
    have HE3 := hid (Blk.new w1 32 #[.int .i64 k, .string (bst b), .bool d])
    have HZ3 := hid (HZ1.out.below hb3 HZ1.out.lt)
    have HA3 := hid (HA1.out.step hb3)
    clear hb3
    go_upto_region 5 with fail
    generalize w1.alloc (.cells #[.int .i64 k, .string (bst b), .bool d] 32) = w3 at *
    obtain ⟨g3, hg3⟩ : ∃ g, w1.heap.size = g := ⟨_, rfl⟩
    rw [hg3] at HE3 ⊢
    clear hg3
    have HWO := hid (fun (W : World) (hW : Beyond w3 W) => refWithout_any (j := -1) (J := posE k l) (HA3.out.step hW) HJJ.out)
    have z0 : ∀ W, Beyond w3 W → W.cell? ⟨g3, 0, none⟩ = some (.int .i64 k) := fun W hW => (HE3.out.below hW HE3.out.lt).cell 0
    have z1 : ∀ W, Beyond w3 W → W.cell? ⟨g3, 1, none⟩ = some (.string (bst b)) := fun W hW => (HE3.out.below hW HE3.out.lt).cell 1
    have z2 : ∀ W, Beyond w3 W → W.cell? ⟨g3, 2, none⟩ = some (.bool d) := fun W hW => (HE3.out.below hW HE3.out.lt).cell 2
    refine wp_region_held_drew (S := Beyond w3) (by kernel_rfl) (Beyond.drew _) (fun hS => ?_)
    refine stT 0 hS ?_
    try simp only [putr]
    refine stT 2 hS ?_
    try simp only [putr]
    refine stT 3 hS ?_
    try simp only [putr]
    refine rdH [1, 4] ?_
    refine rcH (fun K hK => ?_) ?_
    · skip
      go_simp
      refine hK.out _ _ ((Beyond.alloc hS _)) (fun hS1 => ?_)
      have HRB := hid (GRow.single (E := eEn) (e := 32) (x := (⟨k, b, d⟩ : En)) (base := w3.heap.size) w3.drew rfl (Nat.le_refl _))
      clear hK K hS
      have hS := hS1
      try simp only [putr]
      refine rdH [4] ?_
      refine rcH (fun K hK => ?_) AllReadyH.nil
      go_simp
      go_fit (HWO.out _ hS)
      rintro e wa ⟨A5, m5, c5, rfl, hr5, hba⟩
      have hS4 := Beyond.step hS hba
      have HRC := hid hr5
      have HRB := hid (HRB.out.below hba)
      clear hr5 hba
      refine hK.out _ _ (by assumption) (fun _ => ?_)
      clear hK K hS
      have hS := hS4
      try simp only [putr]
      refine rdH [5] ?_
      refine rcH (fun K hK => ?_) AllReadyH.nil
      refine wp_append_g _ (.tmp 35) (.tmp 38) eEn gi_en (by decide) rfl w3.heap.size rfl HRB.out rfl HRC.out.1 HRC.out.at_ (by have := HOL.out; simp only [List.length_singleton]; omega) (Below.size hS) ?_
      intro A7 m7 c7 w7 hr7 hc7 hb7 hg7
      refine hK.out _ _ (Below.trans hS hb7) (fun hS5 => ?_)
      have HR7 := hid hr7
      have HC7 := hid hc7
      clear hr7 hc7 hb7 hg7
      clear hK K hS
      have hS := hS5
      try simp only [putr]
      refine stT 6 hS ?_
      try simp only [putr]
      refine wpAnyH_done (by kernel_rfl) ?_ _
      clear z0 z1 z2 HRB HRC HWO
      have HB7 := hid (show Below w.heap.size w w7 from HB3.out.trans (Below.mono hS HB3.out.size))
      have HZ7 := hid (HZ3.out.below hS HZ3.out.lt)
      have HG7 := hid (show g < w3.heap.size from HZ3.out.lt)
      have HR8 := hid (show GRow eEn 32 w7 w3.heap.size A7 m7 c7 O by rw [← HOO.out]; exact HR7.out)
      have HM7 := hid (show m7 = O.length from HR8.out.1)
      have hc7 := HC7.out
      have hol := HON.out
      clear hS hS1 hS4 hS5 HR7 HC7
      have hm9 : m7 ≤ 1000001 := by have := HM7.out; omega
      by_cases hRm : R < m7
      · have hRm' : (R : Int) < (m7 : Int) := by omega
        obtain ⟨b7, o7, y7, rfl, hb7, hy7, c0, c1, c2⟩ := EAt.get HR8.out.at_ (i := R) (by rw [← HM7.out]; exact hRm)
        have hb7' : w3.heap.size ≤ b7 := HR8.out.in_ b7 o7 rfl (by have := HM7.out; omega)
        have HNO := hid hy7
        have HBF7 := hid (And.intro hb7 hb7')
        have HC7 := hid (And.intro c0 (And.intro c1 c2))
        have HK7 := hid (fun (W : World) (hW : Only g w7 W) (i : Nat) => show W.cell? ⟨b7, i, none⟩ = w7.cell? ⟨b7, i, none⟩ from World.cell?_of_block (a := ⟨b7, i, none⟩) (hW.block b7 HBF7.out.1 (fun e => by injection e with e; have := HBF7.out.2; have := HG7.out; omega)))
        have z70 : ∀ W, Only g w7 W → W.cell? ⟨b7, o7 + R * 3, none⟩ = some (.int .i64 y7.i) := fun W hW => (HK7.out W hW _).trans HC7.out.1
        have z71 : ∀ W, Only g w7 W → W.cell? ⟨b7, o7 + R * 3 + 1, none⟩ = some (.string (bst y7.b)) := fun W hW => (HK7.out W hW _).trans HC7.out.2.1
        have z72 : ∀ W, Only g w7 W → W.cell? ⟨b7, o7 + R * 3 + 2, none⟩ = some (.bool y7.d) := fun W hW => (HK7.out W hW _).trans HC7.out.2.2
        have hr9 : GRow eEn 32 ((((w7.setCell ⟨g, 0, none⟩ (.int .i64 y7.i)).setCell ⟨g, 1, none⟩ (.string (bst y7.b))).setCell ⟨g, 2, none⟩ (.bool y7.d)).drew) w3.heap.size (some ⟨b7, o7, none⟩) m7 c7 O := (((HR8.out.set (p := ⟨g, 0, none⟩) HG7.out (.int .i64 y7.i)).set (p := ⟨g, 1, none⟩) HG7.out (.string (bst y7.b))).set (p := ⟨g, 2, none⟩) HG7.out (.bool y7.d)).below ((Below.refl _ _).drew)
        obtain ⟨A9, hs9, ha9, hi9⟩ := eslice_to (n := R) hr9.at_ HM7.out hc7 (Nat.le_of_lt hRm)
        clear hr9
        have x0 := HZ7.out.cell 0
        have x1 := HZ7.out.cell 1
        have x2 := HZ7.out.cell 2
        have f0 := HZ7.out.free 0
        have f1 := HZ7.out.free 1
        have f2 := HZ7.out.free 2
        have HT9 := hid ha9
        have HI9 := hid (show In (fun k => w.heap.size ≤ k) A9 (O.take R) by rw [hi9]; intro bb oo ee _; have q := congrArg Addr.block (Option.some.inj ee); dsimp only at q; rw [← q]; exact Nat.le_trans HB3.out.size hb7')
        clear hi9
        have HBF := hid (show Below w.heap.size w ((((w7.setCell ⟨g, 0, none⟩ (.int .i64 y7.i)).setCell ⟨g, 1, none⟩ (.string (bst y7.b))).setCell ⟨g, 2, none⟩ (.bool y7.d)).drew) from (((HB7.out.setCell (p := ⟨g, 0, none⟩) (Nat.le_of_eq HGE.out) _).setCell (p := ⟨g, 1, none⟩) (Nat.le_of_eq HGE.out) _).setCell (p := ⟨g, 2, none⟩) (Nat.le_of_eq HGE.out) _).drew)
        clear hb7 hb7' hy7 c0 c1 c2 ha9
        go_upto_region 7 with fail
        refine wp_region_held_drew (S := Only g w7) (by kernel_rfl) (Only.refl g w7).drew (fun hS => ?_)
        refine stT 0 hS ?_
        try simp only [putr]
        refine stT 1 hS ?_
        try simp only [putr]
        refine stT 2 hS ?_
        try simp only [putr]
        refine stT 3 hS ?_
        try simp only [putr]
        refine stT 4 hS ?_
        try simp only [putr]
        refine stT 5 hS ?_
        try simp only [putr]
        refine stT 6 hS ?_
        try simp only [putr]
        refine stT 7 hS ?_
        try simp only [putr]
        refine rdH [8] ?_
        refine rcH (fun K hK => ?_) AllReadyH.nil
        go_simp
        refine hK.out _ _ ((by have hz := Only.set (i := 2) (Only.set (i := 1) (Only.set (i := 0) hS (.int .i64 y7.i)) (.string (bst y7.b))) (.bool y7.d); simpa only [drew_setE] using hz)) (fun hS8 => ?_)
        skip
        clear hK K hS
        have hS := hS8
        try simp only [Act.put]
        refine stT 9 hS ?_
        try simp only [putr]
        refine wpAnyH_done (by kernel_rfl) ?_ _
        have HZ9 := hid (show Blk ((((w7.setCell ⟨g, 0, none⟩ (.int .i64 y7.i)).setCell ⟨g, 1, none⟩ (.string (bst y7.b))).setCell ⟨g, 2, none⟩ (.bool y7.d)).drew) g 32 #[.int .i64 y7.i, .string (bst y7.b), .bool y7.d] from (((HZ7.out.set 0 _).set 1 _).set 2 _).drew)
        have HE9 := hid (show EAt ((((w7.setCell ⟨g, 0, none⟩ (.int .i64 y7.i)).setCell ⟨g, 1, none⟩ (.string (bst y7.b))).setCell ⟨g, 2, none⟩ (.bool y7.d)).drew) ((((w7.setCell ⟨g, 0, none⟩ (.int .i64 y7.i)).setCell ⟨g, 1, none⟩ (.string (bst y7.b))).setCell ⟨g, 2, none⟩ (.bool y7.d)).drew).heap.size A9 (O.take R) from HT9.out)
        have HB9 := hid (show Below w.heap.size w ((((w7.setCell ⟨g, 0, none⟩ (.int .i64 y7.i)).setCell ⟨g, 1, none⟩ (.string (bst y7.b))).setCell ⟨g, 2, none⟩ (.bool y7.d)).drew) from HBF.out)
        clear hS hS8 z70 z71 z72 HBF HT9
        generalize (((w7.setCell ⟨g, 0, none⟩ (.int .i64 y7.i)).setCell ⟨g, 1, none⟩ (.string (bst y7.b))).setCell ⟨g, 2, none⟩ (.bool y7.d)).drew = w9 at *
        have t0 := HZ9.out.cell 0
        have t1 := HZ9.out.cell 1
        have t2 := HZ9.out.cell 2
        go_wp2_with fail
        refine bodyPost_ret (v := .tuple #[.slice A9 R c7, .agg #[.int .i64 y7.i, .string (bst y7.b), .bool y7.d], .bool true]) (by simp [results, Try.results9, go_sem, *]) rfl ?_
        exact ⟨by unfold PutGot; rw [HNO.out]; exact ⟨A9, R, c7, rfl, ⟨HE9.out, by rw [List.length_take]; have := HM7.out; omega, by omega, by omega, Nat.le_refl _⟩, HI9.out⟩, HB9.out⟩
      · have hRm' : ¬ (R : Int) < (m7 : Int) := by omega
        have HNO := hid (show O[R]? = none from List.getElem?_eq_none (by have := HM7.out; omega))
        have x0 := HZ7.out.cell 0
        have x1 := HZ7.out.cell 1
        have x2 := HZ7.out.cell 2
        have f0 := HZ7.out.free 0
        have f1 := HZ7.out.free 1
        have f2 := HZ7.out.free 2
        go_wp2_with fail
        have HZ9 := hid (show Blk (((w7.setCell ⟨g, 0, none⟩ (.int .i64 0)).setCell ⟨g, 1, none⟩ (.string ⟨#[]⟩)).setCell ⟨g, 2, none⟩ (.bool false)) g 32 #[.int .i64 0, .string ⟨#[]⟩, .bool false] from ((HZ7.out.set 0 _).set 1 _).set 2 _)
        have HR9 := hid (show GRow eEn 32 (((w7.setCell ⟨g, 0, none⟩ (.int .i64 0)).setCell ⟨g, 1, none⟩ (.string ⟨#[]⟩)).setCell ⟨g, 2, none⟩ (.bool false)) w3.heap.size A7 m7 c7 O from ((HR8.out.set (p := ⟨g, 0, none⟩) HG7.out _).set (p := ⟨g, 1, none⟩) HG7.out _).set (p := ⟨g, 2, none⟩) HG7.out _)
        have HB9 := hid (show Below w.heap.size w (((w7.setCell ⟨g, 0, none⟩ (.int .i64 0)).setCell ⟨g, 1, none⟩ (.string ⟨#[]⟩)).setCell ⟨g, 2, none⟩ (.bool false)) from ((HB7.out.setCell (p := ⟨g, 0, none⟩) (Nat.le_of_eq HGE.out) _).setCell (p := ⟨g, 1, none⟩) (Nat.le_of_eq HGE.out) _).setCell (p := ⟨g, 2, none⟩) (Nat.le_of_eq HGE.out) _)
        clear x0 x1 x2 f0 f1 f2
        generalize ((w7.setCell ⟨g, 0, none⟩ (.int .i64 0)).setCell ⟨g, 1, none⟩ (.string ⟨#[]⟩)).setCell ⟨g, 2, none⟩ (.bool false) = w9 at *
        have t0 := HZ9.out.cell 0
        have t1 := HZ9.out.cell 1
        have t2 := HZ9.out.cell 2
        refine bodyPost_ret (v := .tuple #[.slice A7 m7 c7, .agg #[.int .i64 0, .string ⟨#[]⟩, .bool false], .bool false]) (by simp [results, Try.results9, go_sem, *]) rfl ?_
        exact ⟨by unfold PutGot; rw [HNO.out]; exact ⟨A7, m7, c7, rfl, ES.row HR9.out (by have := HM7.out; omega), In.weak (GRow.in_ HR9.out) (fun q hq => Nat.le_trans HB3.out.size hq)⟩, HB9.out⟩
    refine rcH (fun K hK => ?_) AllReadyH.nil
    · skip
      go_simp
      go_fit (HWO.out _ hS)
      rintro e wa ⟨A5, m5, c5, rfl, hr5, hba⟩
      have hS4 := Beyond.step hS hba
      have HRC := hid hr5
      clear hr5 hba
      refine hK.out _ _ (by assumption) (fun _ => ?_)
      clear hK K hS
      have hS := hS4
      try simp only [putr]
      refine rdH [1] ?_
      refine rcH (fun K hK => ?_) AllReadyH.nil
      go_simp
      refine hK.out _ _ ((Beyond.alloc hS _)) (fun hS1 => ?_)
      have HRB := hid (GRow.single (E := eEn) (e := 32) (x := (⟨k, b, d⟩ : En)) (base := w3.heap.size) wa rfl (Below.size hS))
      have HRC := hid (HRC.out.alloc (.cells #[.int .i64 k, .string (bst b), .bool d] 32))
      clear hK K hS
      have hS := hS1
      try simp only [putr]
      refine rdH [5] ?_
      refine rcH (fun K hK => ?_) AllReadyH.nil
      refine wp_append_g _ (.tmp 35) (.tmp 38) eEn gi_en (by decide) rfl w3.heap.size rfl HRB.out rfl HRC.out.1 HRC.out.at_ (by have := HOL.out; simp only [List.length_singleton]; omega) (Below.size hS) ?_
      intro A7 m7 c7 w7 hr7 hc7 hb7 hg7
      refine hK.out _ _ (Below.trans hS hb7) (fun hS5 => ?_)
      have HR7 := hid hr7
      have HC7 := hid hc7
      clear hr7 hc7 hb7 hg7
      clear hK K hS
      have hS := hS5
      try simp only [putr]
      refine stT 6 hS ?_
      try simp only [putr]
      refine wpAnyH_done (by kernel_rfl) ?_ _
      clear z0 z1 z2 HRB HRC HWO
      have HB7 := hid (show Below w.heap.size w w7 from HB3.out.trans (Below.mono hS HB3.out.size))
      have HZ7 := hid (HZ3.out.below hS HZ3.out.lt)
      have HG7 := hid (show g < w3.heap.size from HZ3.out.lt)
      have HR8 := hid (show GRow eEn 32 w7 w3.heap.size A7 m7 c7 O by rw [← HOO.out]; exact HR7.out)
      have HM7 := hid (show m7 = O.length from HR8.out.1)
      have hc7 := HC7.out
      have hol := HON.out
      clear hS hS1 hS4 hS5 HR7 HC7
      have hm9 : m7 ≤ 1000001 := by have := HM7.out; omega
      by_cases hRm : R < m7
      · have hRm' : (R : Int) < (m7 : Int) := by omega
        obtain ⟨b7, o7, y7, rfl, hb7, hy7, c0, c1, c2⟩ := EAt.get HR8.out.at_ (i := R) (by rw [← HM7.out]; exact hRm)
        have hb7' : w3.heap.size ≤ b7 := HR8.out.in_ b7 o7 rfl (by have := HM7.out; omega)
        have HNO := hid hy7
        have HBF7 := hid (And.intro hb7 hb7')
        have HC7 := hid (And.intro c0 (And.intro c1 c2))
        have HK7 := hid (fun (W : World) (hW : Only g w7 W) (i : Nat) => show W.cell? ⟨b7, i, none⟩ = w7.cell? ⟨b7, i, none⟩ from World.cell?_of_block (a := ⟨b7, i, none⟩) (hW.block b7 HBF7.out.1 (fun e => by injection e with e; have := HBF7.out.2; have := HG7.out; omega)))
        have z70 : ∀ W, Only g w7 W → W.cell? ⟨b7, o7 + R * 3, none⟩ = some (.int .i64 y7.i) := fun W hW => (HK7.out W hW _).trans HC7.out.1
        have z71 : ∀ W, Only g w7 W → W.cell? ⟨b7, o7 + R * 3 + 1, none⟩ = some (.string (bst y7.b)) := fun W hW => (HK7.out W hW _).trans HC7.out.2.1
        have z72 : ∀ W, Only g w7 W → W.cell? ⟨b7, o7 + R * 3 + 2, none⟩ = some (.bool y7.d) := fun W hW => (HK7.out W hW _).trans HC7.out.2.2
        have hr9 : GRow eEn 32 ((((w7.setCell ⟨g, 0, none⟩ (.int .i64 y7.i)).setCell ⟨g, 1, none⟩ (.string (bst y7.b))).setCell ⟨g, 2, none⟩ (.bool y7.d)).drew) w3.heap.size (some ⟨b7, o7, none⟩) m7 c7 O := (((HR8.out.set (p := ⟨g, 0, none⟩) HG7.out (.int .i64 y7.i)).set (p := ⟨g, 1, none⟩) HG7.out (.string (bst y7.b))).set (p := ⟨g, 2, none⟩) HG7.out (.bool y7.d)).below ((Below.refl _ _).drew)
        obtain ⟨A9, hs9, ha9, hi9⟩ := eslice_to (n := R) hr9.at_ HM7.out hc7 (Nat.le_of_lt hRm)
        clear hr9
        have x0 := HZ7.out.cell 0
        have x1 := HZ7.out.cell 1
        have x2 := HZ7.out.cell 2
        have f0 := HZ7.out.free 0
        have f1 := HZ7.out.free 1
        have f2 := HZ7.out.free 2
        have HT9 := hid ha9
        have HI9 := hid (show In (fun k => w.heap.size ≤ k) A9 (O.take R) by rw [hi9]; intro bb oo ee _; have q := congrArg Addr.block (Option.some.inj ee); dsimp only at q; rw [← q]; exact Nat.le_trans HB3.out.size hb7')
        clear hi9
        have HBF := hid (show Below w.heap.size w ((((w7.setCell ⟨g, 0, none⟩ (.int .i64 y7.i)).setCell ⟨g, 1, none⟩ (.string (bst y7.b))).setCell ⟨g, 2, none⟩ (.bool y7.d)).drew) from (((HB7.out.setCell (p := ⟨g, 0, none⟩) (Nat.le_of_eq HGE.out) _).setCell (p := ⟨g, 1, none⟩) (Nat.le_of_eq HGE.out) _).setCell (p := ⟨g, 2, none⟩) (Nat.le_of_eq HGE.out) _).drew)
        clear hb7 hb7' hy7 c0 c1 c2 ha9
        go_upto_region 7 with fail
        refine wp_region_held_drew (S := Only g w7) (by kernel_rfl) (Only.refl g w7).drew (fun hS => ?_)
        refine stT 0 hS ?_
        try simp only [putr]
        refine stT 1 hS ?_
        try simp only [putr]
        refine stT 2 hS ?_
        try simp only [putr]
        refine stT 3 hS ?_
        try simp only [putr]
        refine stT 4 hS ?_
        try simp only [putr]
        refine stT 5 hS ?_
        try simp only [putr]
        refine stT 6 hS ?_
        try simp only [putr]
        refine stT 7 hS ?_
        try simp only [putr]
        refine rdH [8] ?_
        refine rcH (fun K hK => ?_) AllReadyH.nil
        go_simp
        refine hK.out _ _ ((by have hz := Only.set (i := 2) (Only.set (i := 1) (Only.set (i := 0) hS (.int .i64 y7.i)) (.string (bst y7.b))) (.bool y7.d); simpa only [drew_setE] using hz)) (fun hS8 => ?_)
        skip
        clear hK K hS
        have hS := hS8
        try simp only [Act.put]
        refine stT 9 hS ?_
        try simp only [putr]
        refine wpAnyH_done (by kernel_rfl) ?_ _
        have HZ9 := hid (show Blk ((((w7.setCell ⟨g, 0, none⟩ (.int .i64 y7.i)).setCell ⟨g, 1, none⟩ (.string (bst y7.b))).setCell ⟨g, 2, none⟩ (.bool y7.d)).drew) g 32 #[.int .i64 y7.i, .string (bst y7.b), .bool y7.d] from (((HZ7.out.set 0 _).set 1 _).set 2 _).drew)
        have HE9 := hid (show EAt ((((w7.setCell ⟨g, 0, none⟩ (.int .i64 y7.i)).setCell ⟨g, 1, none⟩ (.string (bst y7.b))).setCell ⟨g, 2, none⟩ (.bool y7.d)).drew) ((((w7.setCell ⟨g, 0, none⟩ (.int .i64 y7.i)).setCell ⟨g, 1, none⟩ (.string (bst y7.b))).setCell ⟨g, 2, none⟩ (.bool y7.d)).drew).heap.size A9 (O.take R) from HT9.out)
        have HB9 := hid (show Below w.heap.size w ((((w7.setCell ⟨g, 0, none⟩ (.int .i64 y7.i)).setCell ⟨g, 1, none⟩ (.string (bst y7.b))).setCell ⟨g, 2, none⟩ (.bool y7.d)).drew) from HBF.out)
        clear hS hS8 z70 z71 z72 HBF HT9
        generalize (((w7.setCell ⟨g, 0, none⟩ (.int .i64 y7.i)).setCell ⟨g, 1, none⟩ (.string (bst y7.b))).setCell ⟨g, 2, none⟩ (.bool y7.d)).drew = w9 at *
        have t0 := HZ9.out.cell 0
        have t1 := HZ9.out.cell 1
        have t2 := HZ9.out.cell 2
        go_wp2_with fail
        refine bodyPost_ret (v := .tuple #[.slice A9 R c7, .agg #[.int .i64 y7.i, .string (bst y7.b), .bool y7.d], .bool true]) (by simp [results, Try.results9, go_sem, *]) rfl ?_
        exact ⟨by unfold PutGot; rw [HNO.out]; exact ⟨A9, R, c7, rfl, ⟨HE9.out, by rw [List.length_take]; have := HM7.out; omega, by omega, by omega, Nat.le_refl _⟩, HI9.out⟩, HB9.out⟩
      · have hRm' : ¬ (R : Int) < (m7 : Int) := by omega
        have HNO := hid (show O[R]? = none from List.getElem?_eq_none (by have := HM7.out; omega))
        have x0 := HZ7.out.cell 0
        have x1 := HZ7.out.cell 1
        have x2 := HZ7.out.cell 2
        have f0 := HZ7.out.free 0
        have f1 := HZ7.out.free 1
        have f2 := HZ7.out.free 2
        go_wp2_with fail
        have HZ9 := hid (show Blk (((w7.setCell ⟨g, 0, none⟩ (.int .i64 0)).setCell ⟨g, 1, none⟩ (.string ⟨#[]⟩)).setCell ⟨g, 2, none⟩ (.bool false)) g 32 #[.int .i64 0, .string ⟨#[]⟩, .bool false] from ((HZ7.out.set 0 _).set 1 _).set 2 _)
        have HR9 := hid (show GRow eEn 32 (((w7.setCell ⟨g, 0, none⟩ (.int .i64 0)).setCell ⟨g, 1, none⟩ (.string ⟨#[]⟩)).setCell ⟨g, 2, none⟩ (.bool false)) w3.heap.size A7 m7 c7 O from ((HR8.out.set (p := ⟨g, 0, none⟩) HG7.out _).set (p := ⟨g, 1, none⟩) HG7.out _).set (p := ⟨g, 2, none⟩) HG7.out _)
        have HB9 := hid (show Below w.heap.size w (((w7.setCell ⟨g, 0, none⟩ (.int .i64 0)).setCell ⟨g, 1, none⟩ (.string ⟨#[]⟩)).setCell ⟨g, 2, none⟩ (.bool false)) from ((HB7.out.setCell (p := ⟨g, 0, none⟩) (Nat.le_of_eq HGE.out) _).setCell (p := ⟨g, 1, none⟩) (Nat.le_of_eq HGE.out) _).setCell (p := ⟨g, 2, none⟩) (Nat.le_of_eq HGE.out) _)
        clear x0 x1 x2 f0 f1 f2
        generalize ((w7.setCell ⟨g, 0, none⟩ (.int .i64 0)).setCell ⟨g, 1, none⟩ (.string ⟨#[]⟩)).setCell ⟨g, 2, none⟩ (.bool false) = w9 at *
        have t0 := HZ9.out.cell 0
        have t1 := HZ9.out.cell 1
        have t2 := HZ9.out.cell 2
        refine bodyPost_ret (v := .tuple #[.slice A7 m7 c7, .agg #[.int .i64 0, .string ⟨#[]⟩, .bool false], .bool false]) (by simp [results, Try.results9, go_sem, *]) rfl ?_
        exact ⟨by unfold PutGot; rw [HNO.out]; exact ⟨A7, m7, c7, rfl, ES.row HR9.out (by have := HM7.out; omega), In.weak (GRow.in_ HR9.out) (fun q hq => Nat.le_trans HB3.out.size hq)⟩, HB9.out⟩

end Go.Proofs.Ytdhjjjagjkencaa
