/-
  WalAgain: the walk.
-/
import Derived.Test.YtefnmifogmeaeaaDoorWAwake
import Derived.Test.YtefnmifogmeaeaaDoorSAt
namespace Go.Proofs.YtefnmifogmeaeaaDoor
open Go Go.RowKit

theorem WA.keep {w w' : World} {b d : Nat} {N M R : Nat → Prop} {s : Dk} {l : Wl} (h : WA w b d N M R s l) (hs : w.heap.size ≤ w'.heap.size) (hk : ∀ k, k < w.heap.size → N k ∨ M k ∨ R k → w'.heap[k]? = w.heap[k]?) : WA w' b d N M R s l := by
  obtain ⟨⟨A, c, C, cc, h1⟩, h2, h3⟩ := h
  exact ⟨⟨A, c, C, cc, h1.keep hs fun k hn => hk k (h1.lt k hn) (.inl hn)⟩, h2.keep hs fun k hm => hk k (h2.lt k hm) (.inr hm), h3⟩
theorem GAt.dropG {α : Type} {E : Enc α} {w : World} {B k : Nat} {b off : Nat} {l : List α} (h : GAt E w B (some ⟨b, off, none⟩) l) : GAt E w B (some ⟨b, off + k * E.k, none⟩) (l.drop k) := fun hl => by
  obtain ⟨b', off', e, hb, hc⟩ := h (by rw [List.length_drop] at hl; omega)
  injection e with e
  injection e with e1 e2 _
  subst e1 e2
  refine ⟨b, off + k * E.k, rfl, hb, fun i x j u hi hu => ?_⟩
  rw [List.getElem?_drop] at hi
  have := hc (k + i) x j u hi hu
  rw [Nat.add_mul] at this
  rw [show off + k * E.k + i * E.k + j = off + (k * E.k + i * E.k) + j by omega]
  exact this
/-- want[k:] -/
theorem want_from {w : World} {B m c k : Nat} {A : Option Addr} {l : List Rc} (hA : GAt eRc w B A l) (hm : m = l.length) (hc : m ≤ c) (hk : k ≤ m) :
    ∃ A' m' c', (∀ (i : IntKind) (W : World), (Instr.slice 29 (.slice A m c) (some (.int i (k : Int))) none none).run Tryd.prog W = .ok (.slice A' m' c') W) ∧ GAt eRc w B A' (l.drop k) ∧ m' = (l.drop k).length := by
  obtain ⟨i0, hi, hz0, hz1, hz2⟩ := info_parts info_rc
  have e : Tryd.prog.elem 29 = 36 := by kernel_rfl
  refine ⟨if c = k then A else A.map (·.add (k * 2)), m - k, c - k, fun i W => ?_, ?_, by rw [List.length_drop, hm]⟩
  · rw [run_slice_l (P := Tryd.prog) W 29 A m c (by rw [e]; exact Tryd.underlying29) i k (by omega) (by omega), e]
    simp [sizeOf, typeInfo, hi, hz1, sliced]
  · by_cases h0 : k = l.length
    · rw [h0, List.drop_length]
      exact GAt.nil
    · obtain ⟨b, off, eA, hb, hcc⟩ := hA (by omega)
      subst eA
      rw [if_neg (by omega)]
      have ea : (⟨b, off, none⟩ : Addr).add (k * 2) = ⟨b, off + k * 2, none⟩ := by unfold Addr.add; split <;> simp_all
      rw [Option.map_some, ea]
      exact GAt.dropG (E := eRc) hA
/-- appends under way -/
structure Ag (w0 wr : World) (b d : Nat) (N M R : Nat → Prop) (s : Dk) (l : Wl) (its : List It) (nn sz : Nat) (Aw : Option Addr) (mw cw i : Nat) : Prop where
  st : St8 w0 wr b d N M R s l
  full : Full s l its
  sh : l.at_ = 0 ∧ l.n = nn ∧ l.size = sz
  want : GRow eRc 36 wr w0.heap.size Aw mw cw (rnumbered 1 (its.flatMap (·.bs)))
  apart : ∀ g, (Value.slice Aw mw cw).ownBlock = some g → ¬ N g ∧ ¬ M g ∧ ¬ R g
  pend : s.pend.length ≤ 100 * i
  last : l.last ≤ i
section
variable {w0 wr w' : World} {b d : Nat} {N M R N' M' R' : Nat → Prop} {s s' : Dk} {l l' : Wl} {its its' : List It} {nn sz : Nat} {Aw : Option Addr} {mw cw i : Nat}
theorem Ag.step (h : Ag w0 wr b d N M R s l its nn sz Aw mw cw i) (hb : Below wr.heap.size wr w') : Ag w0 w' b d N M R s l its nn sz Aw mw cw i :=
  ⟨h.st.step hb, h.full, h.sh, h.want.below hb, h.apart, h.pend, h.last⟩
theorem Ag.count (h : Ag w0 wr b d N M R s l its nn sz Aw mw cw i) : mw = l.last := by
  have := (h.full.link.all (by have := h.full.few; omega)).2
  rw [h.want.1, rnumbered_length]
  omega
/-- an append that has turned the log and the disk -/
theorem Ag.turn (h : Ag w0 wr b d N M R s l its nn sz Aw mw cw i) (hw : WA w' b d N' M' R' s' l') (ht : LTurns N M R wr N' M' R' w') (hsh : l'.at_ = l.at_ ∧ l'.n = l.n ∧ l'.size = l.size) (hp : s'.pend.length ≤ s.pend.length + 64) (hl : l'.last ≤ l.last + 1) :
    St8 w0 w' b d N' M' R' s' l' ∧ (l'.at_ = 0 ∧ l'.n = nn ∧ l'.size = sz) ∧ GRow eRc 36 w' w0.heap.size Aw mw cw (rnumbered 1 (its.flatMap (·.bs))) ∧ (∀ g, (Value.slice Aw mw cw).ownBlock = some g → ¬ N' g ∧ ¬ M' g ∧ ¬ R' g) ∧ s'.pend.length ≤ 100 * (i + 1) ∧ l'.last ≤ i + 1 := by
  have ho : ∀ g, (Value.slice Aw mw cw).ownBlock = some g → g < wr.heap.size := fun g hg => (h.want.2.lt g hg).2
  refine ⟨h.st.turns hw ht, ⟨hsh.1.trans h.sh.1, hsh.2.1.trans h.sh.2.1, hsh.2.2.trans h.sh.2.2⟩, ?_, fun g hg => ?_, by have := h.pend; omega, by have := h.last; omega⟩
  · exact grow_of (N := fun g => (Value.slice Aw mw cw).ownBlock = some g) h.want (fun g hg => hg) (fun g hg => ht.within.block g (ho g hg) (fun x => x.elim (h.apart g hg).1 (h.apart g hg).2.1))
  · have h1 := ho g hg
    have h2 := h.apart g hg
    refine ⟨fun x => ?_, fun x => ?_, fun x => ?_⟩
    · rcases ht.own g (.inl x) with (y | y) | y
      · exact h2.1 y
      · exact h2.2.1 y
      · omega
    · rcases ht.own g (.inr x) with (y | y) | y
      · exact h2.1 y
      · exact h2.2.1 y
      · omega
    · rcases ht.held g x with y | y
      · exact h2.2.2 y
      · omega
/-- a record is put behind those wanted -/
theorem Ag.push {w5 w6 : World} {A6 : Option Addr} {m6 c6 : Nat} {o : Obj} {q : Nat} {x : List UInt8} (h5 : St8 w0 w5 b d N M R s l) (hf : Full s l its') (hsh : l.at_ = 0 ∧ l.n = nn ∧ l.size = sz) (hap : ∀ g, (Value.slice Aw mw cw).ownBlock = some g → ¬ N g ∧ ¬ M g ∧ ¬ R g) (hp : s.pend.length ≤ 100 * i) (hla : l.last ≤ i)
    (hr : GRow eRc 36 w6 w0.heap.size A6 m6 c6 (rnumbered 1 (its.flatMap (·.bs)) ++ [(q, x)])) (hw : (w5.alloc o).grownBy w6 (Value.slice Aw mw cw).ownBlock) (hb : Below w0.heap.size (w5.alloc o) w6) (ho : (Value.slice A6 m6 c6).ownBlock = (Value.slice Aw mw cw).ownBlock ∨ (Value.slice A6 m6 c6).ownBlock = some (w5.heap.size + 1))
    (hq : q = 1 + (its.flatMap (·.bs)).length) (hi : its'.flatMap (·.bs) = its.flatMap (·.bs) ++ [x]) (hsm : (its.flatMap (·.bs)).length ≤ 1000000) : Ag w0 w6 b d N M R s l its' nn sz A6 m6 c6 i := by
  have hsz : w5.heap.size ≤ w6.heap.size := Nat.le_trans (by simp) hw.size
  have hlt : ∀ g, N g ∨ M g ∨ R g → g < w5.heap.size := fun g hg => by
    obtain ⟨⟨_, _, _, _, h1⟩, h2, _⟩ := h5.wa
    exact hg.elim (h1.lt g) (h2.lt g)
  refine ⟨⟨h5.wa.keep hsz fun k hk hn => ?_, h5.new, (h5.below.alloc h5.below.size o).trans hb⟩, hf, hsh, ?_, fun g hg => ?_, hp, hla⟩
  · refine (hw.block k (Nat.lt_of_lt_of_le hk (by simp)) (fun e => ?_)).trans (Below.heap_alloc _ _ _ hk)
    have := hap k e.symm
    rcases hn with hn | hn | hn
    · exact this.1 hn
    · exact this.2.1 hn
    · exact this.2.2 hn
  · rw [hi, rnumbered_append _ _ _ (by have : [x].length = 1 := rfl; omega), ← hq]
    exact hr
  · rcases ho with ho | ho
    · exact hap g (ho ▸ hg)
    · rw [ho] at hg
      injection hg with hg
      exact ⟨fun y => by have := hlt g (.inl y); omega, fun y => by have := hlt g (.inr (.inl y)); omega, fun y => by have := hlt g (.inr (.inr y)); omega⟩
end

set_option maxHeartbeats 8000000 in
set_option maxRecDepth 100000 in
theorem wagain_walk (sa sb : Nat) (A1 : Option Addr) (c1 : Nat) (L : List (List UInt8)) (w : World) (hsa : sa < 256) (hsb : sb < 256) (hA : SAt w w.heap.size A1 L) (hT : Table w) :
    Calls Tryd.prog 3 #[.int .u8 (sa : Int), .int .u8 (sb : Int), .slice A1 L.length c1] w fun e w' => e = .returned (.bool true) ∧ Below w.heap.size w w' := by
  have HT := hid hT
  have HA := hid hA
  obtain ⟨n, hn⟩ : ∃ n, n = L.length := ⟨_, rfl⟩
  have HN := hid hn
  rw [← hn]
  have HNew := hid (face.newYes (n := 200) (w := w) (by decide) (by decide))
  obtain ⟨nn, hnn⟩ : ∃ n, n = 2 + sa % 6 := ⟨_, rfl⟩
  obtain ⟨sz, hsz⟩ : ∃ n, n = 1 + sb % 4 := ⟨_, rfl⟩
  have hk1 : IntKind.i64.wrap (sa : Int) = (sa : Int) := by rw [IntKind.wrap_i64]; omega
  have hk2 : IntKind.i64.wrap (sb : Int) = (sb : Int) := by rw [IntKind.wrap_i64]; omega
  have HNN := hid (show (2 : Int) + (sa : Int) % 6 = (nn : Int) ∧ 2 ≤ nn ∧ nn ≤ 7 by omega)
  have HSZ := hid (show (1 : Int) + (sb : Int) % 4 = (sz : Int) ∧ 1 ≤ sz ∧ sz ≤ 4 by omega)
  clear hT hA hn hnn hsz
  by_cases h40 : n ≤ 40
  case neg =>
    have h40i : (n : Int) > 40 := by omega
    go_enter Tryd.func3, Tryd.ntmps3
    go_wp2_with fail
    go_fit HNew.out
    rintro e w1 ⟨d, M, R, rfl, hd, hnew, hb1⟩
    have HB1 := hid hb1
    clear hd hnew hb1
    go_wp2_with fail
    go_fit (wawake_yes w1 (HT.out.step HB1.out))
    rintro e w2 ⟨rfl, hb2⟩
    have HB2 := hid (HB1.out.trans (hb2.mono HB1.out.size))
    clear hb2
    go_wp2_with fail
    go_fit (wawake_yes w2 (HT.out.step HB2.out))
    rintro e w3 ⟨rfl, hb3⟩
    have HB3 := hid (HB2.out.trans (hb3.mono HB2.out.size))
    clear hb3
    go_wp2_with fail
    go_ret
    exact ⟨rfl, HB3.out⟩
  have h40i : ¬ (n : Int) > 40 := by omega
  go_enter Tryd.func3, Tryd.ntmps3
  go_wp2_with fail
  go_fit HNew.out
  rintro e w1 ⟨d, M, R, rfl, hd, hnew, hb1⟩
  have HD1 := hid hd
  have HN1 := hid hnew
  have HB1 := hid hb1
  clear hd hnew hb1
  go_wp2_with fail
  go_fit (wawake_yes w1 (HT.out.step HB1.out))
  rintro e w2 ⟨rfl, hb2⟩
  have HD2 := hid (HD1.out.step hb2)
  have HB2 := hid (HB1.out.trans (hb2.mono HB1.out.size))
  clear hb2
  have hem : ∀ i, (Dk.new 200).view i = none := fun _ => rfl
  obtain ⟨o1, o2, o3⟩ := open_empty hem 0 nn sz 0
  have hmul : nn * sz ≤ 7 * 4 := Nat.mul_le_mul HNN.out.2.2 HSZ.out.2.2
  have h9 := open_yes (at_ := 0) (n := nn) (size := sz) (fr := 0) HD2.out (by have := HNN.out; omega) (by have := HNN.out; omega) (by have := HSZ.out; omega) (by have := HSZ.out; omega) (by omega) (by decide) (by decide) (fun i _ => seg_empty hem _ _)
  rw [o1, o2, o3, show ((0 : Nat) : Int) = 0 from rfl] at h9
  have HO := hid h9
  have HF0 := hid (Full.empty (s := (Dk.new 200).sync) (at_ := 0) (n := nn) (size := sz) hem (by have := HNN.out; omega) (by have := HNN.out; omega) (by have := HSZ.out; omega) (by have := HSZ.out; omega) (by omega) (by show 0 + nn * sz ≤ 200; omega) rfl)
  clear o1 o2 o3 h9 hem hmul
  go_upto_region 5 with fail
  rw [HNN.out.1, HSZ.out.1]
  clear hk1 hk2
  go_wp2_with fail
  go_fit HO.out
  rintro e w3 ⟨b, A2, m2, c2, N, M2, R2, rfl, hwa, _, hm2, _, ht⟩
  obtain rfl : m2 = 0 := hm2
  have HS3 := hid (show St8 w w3 b d N M2 R2 _ _ from ⟨hwa, fun k hk => (ht.own k hk).elim (fun x => x.elim False.elim (fun y => HN1.out k (.inl y))) (fun y => Nat.le_trans HB2.out.size y), ht.within.below0 HB2.out (fun k x => x.elim False.elim (fun y => HN1.out k (.inl y)))⟩)
  clear hwa ht HO
  have HB4 := hid (show Below w3.heap.size w3 (w3.alloc (.cells #[] 36)) from (Below.refl _ _).alloc (Nat.le_refl _) _)
  have HG4 := hid (show Ag w (w3.alloc (.cells #[] 36)) b d N M2 R2 (Dk.new 200).sync ⟨0, nn, sz, [], [], 0, 0⟩ [] nn sz (some ⟨w3.heap.size, 0, none⟩) 0 0 0 from
    ⟨HS3.out.step HB4.out, HF0.out, ⟨rfl, rfl, rfl⟩, GRow.empty w3 rfl HS3.out.below.size, fun g hg => by
      injection hg with hg
      have hg : w3.heap.size = g := hg
      obtain ⟨⟨_, _, _, _, h1⟩, h2, _⟩ := HS3.out.wa
      exact ⟨fun y => by have := h1.lt g y; omega, fun y => by have := h2.lt g (.inl y); omega, fun y => by have := h2.lt g (.inr y); omega⟩, Nat.zero_le _, Nat.zero_le _⟩)
  go_wp2_with fail
  generalize w3.alloc (.cells #[] 36) = w4 at *
  go_loopw [14, 15] (fun x14 x15 wr => ∃ (i : Nat) (N M R : Nat → Prop) (s : Dk) (l : Wl) (its : List It) (Aw : Option Addr) (mw cw : Nat), i ≤ n ∧ x14 = .slice Aw mw cw ∧ x15 = .int .i64 (i : Int) ∧ Kept (Ag w wr b d N M R s l its nn sz Aw mw cw i)) (fun _ x _ => n - (intOf x).toNat)
  case atStart => exact ⟨0, N, M2, R2, _, _, [], _, 0, 0, Nat.zero_le _, rfl, rfl, HG4⟩
  case round =>
    clear HG4 HB4 HS3 HF0 HD1 HN1 HB1 HD2 HB2
    obtain ⟨i, N, M, R, s, l, its, Aw, mw, cw, hi, rfl, rfl, HG⟩ := hrel
    by_cases hlt : i < n
    · obtain ⟨bA, oA, rfl, hcell⟩ := HA.out.get HG.out.st.below (k := i) (by rw [← HN.out]; exact hlt)
      obtain ⟨x, hx⟩ : ∃ x, x = L[i]'(by rw [← HN.out]; exact hlt) := ⟨_, rfl⟩
      rw [← hx] at hcell
      have HX := hid hx
      have zx := bst_size x
      clear hx
      by_cases hxl : 1500 < x.length
      · have hxi : (x.length : Int) > 1500 := by omega
        clear hxl
        go_wp2_with fail
        go_ret
        exact ⟨rfl, HG.out.st.below⟩
      · have hxi : ¬ (x.length : Int) > 1500 := by omega
        have h9 := append_log HG.out.st.wa (HG.out.st.table HT.out) (body := x) (by omega) (by have := HG.out.pend; omega)
        have hke := app_keeps l x s
        rcases HG.out.full.grow (body := x) (by omega) (by have := HG.out.last; omega) with ⟨_, e1, e2, e3⟩ | hgr
        · rw [e2, e3] at h9
          generalize l.appWhy x s = e at *
          generalize l.appN x s = q at *
          have hne : ((e : Int) == 0) = false := by simp; omega
          have HAP := hid h9
          clear h9 e1 e2 e3 hke hxl
          go_wp2_with fail
          go_fit HAP.out
          rintro e5 w5 ⟨rfl, N5, M5, R5, hwa, ht⟩
          have HG5 := hid (show Ag w w5 b d N5 M5 R5 s l its nn sz Aw mw cw (i + 1) from by
            obtain ⟨a1, a2, a3, a4, a5, a6⟩ := HG.out.turn hwa ht ⟨rfl, rfl, rfl⟩ (by omega) (by omega)
            exact ⟨a1, HG.out.full, a2, a3, a4, a5, a6⟩)
          clear hwa ht HAP
          go_wp2_with fail
          go_roundw
          case rel => exact ⟨i + 1, N5, M5, R5, s, l, its, Aw, mw, cw, by omega, rfl, by go_num, HG5⟩
          case measure => simp [intOf]; omega
        · obtain ⟨its', hgr⟩ : ∃ its', Grew s l its its' x := by
            rcases hgr with ⟨_, j, hg⟩ | ⟨_, A, t, _, hg⟩
            · exact ⟨_, hg⟩
            · exact ⟨_, hg⟩
          obtain ⟨e1, e2, e3, e4, e5, e6⟩ := hgr
          rw [e1, e2] at h9
          generalize l.app x s = l' at *
          generalize l.appD x s = s' at *
          obtain ⟨q, hq⟩ : ∃ q, q = l.last + 1 := ⟨_, rfl⟩
          rw [← hq] at h9
          rw [show ((0 : Nat) : Int) = 0 from rfl] at h9
          have HAP := hid h9
          have HQ := hid (show q = 1 + (its.flatMap (·.bs)).length from by
            have := HG.out.count
            rw [HG.out.want.1, rnumbered_length] at this
            omega)
          have HF' := hid e4
          have HE5 := hid e5
          have HTU := hid (fun (w5 : World) (N5 M5 R5 : Nat → Prop) (hwa : WA w5 b d N5 M5 R5 s' l') (ht : LTurns N M R wr N5 M5 R5 w5) => HG.out.turn hwa ht hke e6 (by omega))
          have HSM := hid (show (its.flatMap (·.bs)).length ≤ 1000000 from by have := HG.out.last; have := HQ.out; omega)
          clear h9 e1 e2 e3 e4 e5 e6 hke hxl hq
          go_wp2_with fail
          go_fit HAP.out
          rintro e5 w5 ⟨rfl, N5, M5, R5, hwa, ht⟩
          obtain ⟨a1, a2, a3, a4, a5, a6⟩ := HTU.out w5 N5 M5 R5 hwa ht
          have HS5 := hid a1
          have HH5 := hid a2
          have HR5 := hid a3
          have HA5 := hid a4
          have HP5 := hid a5
          have HL5 := hid a6
          obtain ⟨bA2, oA2, eA, hcell2⟩ := HA.out.get a1.below (k := i) (by rw [← HN.out]; exact hlt)
          injection eA with eA
          injection eA with eA1 eA2 _
          subst eA1 eA2
          rw [← HX.out] at hcell2
          have HLE := hid (show (rnumbered 1 (its.flatMap (·.bs))).length + 1 ≤ 1099511627776 from by rw [rnumbered_length]; have := HSM.out; omega)
          have HSZ5 := hid (show w.heap.size ≤ (w5.alloc (.cells #[.int .u64 (q : Int), .string (bst x)] 36)).heap.size from Nat.le_trans a1.below.size (by simp))
          clear a1 a2 a3 a4 a5 a6 hwa ht HAP HTU hcell
          go_wp2_with (at_builtin; go_must (refine wpList_append_own _ rfl _ _ eRc gi_rc (by decide) rfl w.heap.size rfl (HR5.out.alloc _) rfl rfl (GAt.one_at (w := w5) (x := ((q, x) : Rc)) rfl rfl) HLE.out HSZ5.out ?_))
          intro A6 m6 c6 w6 hr6 hc6 hb6 hw6 ho6
          have HG6 := hid (Ag.push HS5.out HF'.out HH5.out HA5.out HP5.out HL5.out hr6 hw6 hb6 ho6 HQ.out HE5.out HSM.out)
          clear hr6 hc6 hb6 hw6 ho6 hcell2
          go_wp2_with fail
          go_roundw
          case rel => exact ⟨i + 1, N5, M5, R5, s', l', its', A6, m6, c6, by omega, rfl, by go_num, HG6⟩
          case measure => simp [intOf]; omega
    · obtain rfl : i = n := by omega
      have HCO := hid HG.out.count
      have hmw : mw ≤ 40 := by rw [HCO.out]; have := HG.out.last; omega
      have hwk : IntKind.u64.wrap (mw : Int) = (mw : Int) := by rw [IntKind.wrap_u64]; omega
      obtain ⟨wz, rfl⟩ : ∃ wz, wz = wr := ⟨_, rfl⟩
      go_wp2_with fail
      go_loopw [18] (fun x wr => ∃ k : Nat, k ≤ mw + 1 ∧ x = .int .i64 (k : Int) ∧ Kept (Below wz.heap.size wz wr)) (fun x _ => mw + 1 - (intOf x).toNat)
      case atStart => exact ⟨0, Nat.zero_le _, rfl, hid (Below.refl _ _)⟩
      case round =>
        obtain ⟨k, hk, rfl, HB⟩ := hrel
        by_cases hle : k ≤ mw
        · have hlei : (k : Int) ≤ (mw : Int) := by omega
          have HGk := hid (HG.out.step HB.out)
          have HCP := hid (face.copy HGk.out.st.wa.disk (by have := HG.out.pend; omega))
          have hku : IntKind.u64.wrap (k : Int) = (k : Int) := by rw [IntKind.wrap_u64]; omega
          have HKL := hid (show k ≤ l.last by rw [← HCO.out]; exact hle)
          go_wp2_with fail
          go_fit HCP.out
          rintro e w5 ⟨d2, M2, R2, rfl, hd2, hm2, hr2, hb5⟩
          have HB5 := hid (HB.out.trans (hb5.mono HB.out.size))
          have HM2 := hid hm2
          have hmul : nn * sz ≤ 7 * 4 := Nat.mul_le_mul HNN.out.2.2 HSZ.out.2.2
          have h9 := open_yes (at_ := 0) (n := nn) (size := sz) (fr := k) hd2 (by have := HNN.out; omega) (by have := HNN.out; omega) (by have := HSZ.out; omega) (by have := HSZ.out; omega) (by omega) (by omega) (by have := HG.out.pend; omega) (fun j hj => by
            have h1 := HG.out.full.segs (i := j) (by rw [HG.out.sh.2.1]; exact hj)
            have h2 : l.place j = (wl0 0 nn sz k).place j := by unfold Wl.place wl0; rw [HG.out.sh.1, HG.out.sh.2.2]
            rw [HG.out.sh.2.2, h2] at h1
            have := HSZ.out.2.2
            omega)
          have h8 := HG.out.full.opened HKL.out
          rw [HG.out.sh.1, HG.out.sh.2.1, HG.out.sh.2.2] at h8
          obtain ⟨p1, p2, _, _⟩ := h8
          rw [p2, show ((0 : Nat) : Int) = 0 from rfl] at h9
          generalize openD s 0 nn sz k = s7 at *
          generalize openW s 0 nn sz k = l7 at *
          have HP1 := hid p1
          have HO := hid h9
          clear hd2 hm2 hr2 hb5 h9 p1 p2 hmul
          go_wp2_with fail
          go_fit HO.out
          rintro e w7 ⟨b7, A7, m7, c7, N7, M7, R7, rfl, hwa, hA7, hm7, hc7, ht⟩
          have HB7 := hid (show Below wz.heap.size wz w7 from ht.within.below0 HB5.out (fun j x => x.elim False.elim (fun y => Nat.le_trans HB.out.size (HM2.out j y))))
          have HA7 := hid hA7
          have HM7 := hid hm7
          obtain ⟨Aq, cq, Cq, ccq, hlq⟩ := hwa.log
          have h9 := last_is hlq
          rw [HP1.out, ← HCO.out] at h9
          have HLA := hid h9
          have hwt := (HG.out.step HB7.out).want
          obtain ⟨A8, m8, c8, hsl, hA8, hm8⟩ := want_from (k := k) hwt.at_ hwt.1 hwt.cap hle
          have HSM := hid (refRSame_any (A := A7) (A' := A8) (n := m7) (n' := m8) (cap := c7) (cap' := c8) (B := w7.heap.size) (w := w7) HA7.out.rcAt hA8.rcAt HM7.out hm8 (Nat.le_refl _) (by rw [hm7, List.length_drop, rnumbered_length]; have := HG.out.last; have := (HG.out.full.link.all (by have := HG.out.full.few; omega)).2; omega))
          rw [decide_eq_true rfl] at HSM
          clear hwa hA7 hm7 hc7 ht hlq h9 hwt hA8 hm8 HO
          go_wp2_with fail
          go_fit HLA.out
          rintro e w8 ⟨rfl, hw⟩
          obtain rfl : w7 = w8 := hw.symm
          go_wp2_with fail
          go_fit HSM.out
          rintro e w9 ⟨rfl, hb9⟩
          have HB9 := hid (HB7.out.trans (hb9.mono HB7.out.size))
          clear hb9 hsl
          go_wp2_with fail
          go_roundw
          case rel => exact ⟨k + 1, by omega, by go_num, HB9⟩
          case measure => simp [intOf]; omega
        · have hlei : ¬ (k : Int) ≤ (mw : Int) := by omega
          have HGk := hid (HG.out.step HB.out)
          obtain ⟨Aq, cq, Cq, ccq, hlq⟩ := HGk.out.st.wa.log
          have h9 := last_is hlq
          rw [← HCO.out] at h9
          have HLA := hid h9
          have HLV := hid (live_is hlq)
          have hll : (l.live.length : Int) ≤ (nn : Int) := by
            have := nodup_le hlq.pl.nodup (n := l.n) (fun x hx => by obtain ⟨y, hy, rfl⟩ := List.mem_map.1 hx; exact (hlq.pl.lt y hy).1)
            rw [List.length_map, HG.out.sh.2.1] at this
            omega
          clear hlq h9
          go_wp2_with fail
          go_fit HLA.out
          rintro e w8 ⟨rfl, hw⟩
          obtain rfl : wr = w8 := hw.symm
          go_wp2_with fail
          go_fit HLV.out
          rintro e w8 ⟨rfl, hw⟩
          obtain rfl : wr = w8 := hw.symm
          go_wp2_with fail
          go_ret
          exact ⟨rfl, HGk.out.st.below⟩

theorem wagain_int (a0 a1 : Int) (A1 : Option Addr) (c1 : Nat) (L : List (List UInt8)) (w : World) (h0 : 0 ≤ a0 ∧ a0 < 256) (h1 : 0 ≤ a1 ∧ a1 < 256) (hA : SAt w w.heap.size A1 L) (hT : Table w) :
    Calls Tryd.prog 3 #[.int .u8 a0, .int .u8 a1, .slice A1 L.length c1] w fun e w' => e = .returned (.bool true) ∧ Below w.heap.size w w' := by
  obtain ⟨n, rfl⟩ : ∃ n : Nat, a0 = n := ⟨a0.toNat, by omega⟩
  obtain ⟨m, rfl⟩ : ∃ m : Nat, a1 = m := ⟨a1.toNat, by omega⟩
  exact wagain_walk n m A1 c1 L w (by omega) (by omega) hA hT

end Go.Proofs.YtefnmifogmeaeaaDoor
