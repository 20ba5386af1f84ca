/-
  Crash: what survives is done to the ground.
-/
import Derived.Test.YtlemoaigcakmcaaDSync
namespace Go.Proofs.Ytlemoaigcakmcaa
open Go Go.RowKit

/-! ### plain -/
/-- the first element of each operation -/
def sT (l : List (Int × Int)) : TabF := fun i => ((l.find? fun s => s.1 == i).map (·.2)).map fun n => .int .i64 n
theorem sT_nil : sT [] = fun _ => none := rfl
theorem sT_old {l : List (Int × Int)} {x : Int × Int} (h : (sT l x.1).isSome = true) : sT (l ++ [x]) = sT l := by
  funext i
  unfold sT at h ⊢
  rw [List.find?_append]
  by_cases hi : i = x.1
  · subst hi
    cases hf : l.find? (fun s => s.1 == x.1) with
    | none => rw [hf] at h; cases h
    | some y => rfl
  · have : [x].find? (fun s => s.1 == i) = none := by simp; exact fun e => hi e.symm
    rw [this]
    cases l.find? (fun s => s.1 == i) <;> rfl
theorem sT_new {l : List (Int × Int)} {x : Int × Int} (h : (sT l x.1).isSome = false) : updT (sT l) x.1 (some (.int .i64 x.2)) = sT (l ++ [x]) := by
  funext i
  unfold updT
  unfold sT at h ⊢
  rw [List.find?_append]
  by_cases hi : i = x.1
  · subst hi
    cases hf : l.find? (fun s => s.1 == x.1) with
    | none => simp
    | some y => rw [hf] at h; cases h
  · have : [x].find? (fun s => s.1 == i) = none := by simp; exact fun e => hi e.symm
    rw [this, if_neg hi]
    cases l.find? (fun s => s.1 == i) <;> rfl
theorem sT_survive (l : List (Int × Int)) (k : Nat) : sT l (k : Int) = (survive l k).map fun n => .int .i64 n := rfl
theorem crashG_snoc (l : List (Int × Int)) (o : POp) : ∀ (os : List POp) (j : Nat) (g : Secs), crashG l j g (os ++ [o]) = match survive l (j + os.length) with
    | some n => applyOp (crashG l j g os) o n
    | none => crashG l j g os
  | [], j, g => by
    simp only [List.nil_append, List.length_nil, Nat.add_zero]
    unfold crashG
    cases survive l j <;> rfl
  | p :: os, j, g => by
    rw [List.cons_append, List.length_cons]
    unfold crashG
    rw [crashG_snoc l o os (j + 1)]
    rw [show j + 1 + os.length = j + (os.length + 1) by omega]
/-- the ground behind the first k operations -/
def cG (l : List (Int × Int)) (s : Dk) (k : Nat) : Secs := crashG l 0 s.ground (s.pend.take k)
theorem cG_zero (l : List (Int × Int)) (s : Dk) : cG l s 0 = s.ground := by unfold cG; rw [List.take_zero]; rfl
theorem cG_all (l : List (Int × Int)) (s : Dk) {k : Nat} (hk : s.pend.length ≤ k) : cG l s k = crashG l 0 s.ground s.pend := by unfold cG; rw [List.take_of_length_le hk]
theorem cG_step {l : List (Int × Int)} {s : Dk} {k : Nat} {o : POp} (ho : s.pend[k]? = some o) : cG l s (k + 1) = match survive l k with
    | some n => applyOp (cG l s k) o n
    | none => cG l s k := by
  have hk := (List.getElem?_eq_some_iff.1 ho).1
  unfold cG
  rw [List.take_add_one, ho, Option.toList_some, crashG_snoc, List.length_take, Nat.min_eq_left (Nat.le_of_lt hk), Nat.zero_add]
/-- what holds of the ground on the way -/
structure GOk (s : Dk) (G : Secs) : Prop where
  inG : ∀ i, G i ≠ none → 0 ≤ i ∧ i < (s.size : Int)
  lenG : ∀ i b, G i = some b → b.length ≤ 512
theorem GOk.apply {s : Dk} {G : Secs} (h : GOk s G) {o : POp} (h0 : 0 ≤ o.i ∧ o.i < (s.size : Int)) (hb : ∀ b, o.b = some b → b.length ≤ 512) (n : Int) : GOk s (applyOp G o n) := by
  unfold applyOp
  refine ⟨fun i hi => ?_, fun i b hi => ?_⟩
  · by_cases e : i = o.i
    · subst e; exact h0
    · rw [upd_other _ _ e] at hi; exact h.inG i hi
  · by_cases e : i = o.i
    · subst e
      rw [upd_same] at hi
      cases hob : o.b with
      | none => rw [hob] at hi; cases hi
      | some x =>
        rw [hob] at hi
        injection hi with hi
        rw [← hi]
        exact torn_len (hb x hob) (fun y hy => h.lenG _ y hy)
    · rw [upd_other _ _ e] at hi; exact h.lenG i b hi
theorem cG_ok {s : Dk} {ch : Chg} (h : DPl s ch) (l : List (Int × Int)) : ∀ k, k ≤ s.pend.length → GOk s (cG l s k)
  | 0, _ => by rw [cG_zero]; exact ⟨h.inG, h.lenG⟩
  | k + 1, hk => by
    have ih := cG_ok h l k (by omega)
    have ho : s.pend[k]? = some (s.pend[k]'(by omega)) := List.getElem?_eq_getElem _
    have hm := List.mem_of_getElem? ho
    rw [cG_step ho]
    cases survive l k with
    | none => exact ih
    | some n => exact ih.apply (h.inP _ hm) (h.lenP _ hm) n

/-- the second loop of Crash under way: sb is the block of what survives -/
structure CrL (w1 wr : World) (g sb : Nat) (l : List (Int × Int)) (ns : Nat) (s : Dk) (k : Nat) : Prop where
  gt : Tab wr g (gT (cG l s k)) (cnt s.size (cG l s k))
  sv : Tab wr sb (sT l) ns
  wi : Within (fun k => k = g) w1 wr
theorem Within.row {w w' : World} {M : Nat → Prop} {A : Option Addr} {n c g k : Nat} {T : TabF} {fs : List Value} (h : Within (fun k => k = g) w w') (hr : PRow w M A n c fs) (hg : Tab w g T k) : PRow w' M A n c fs :=
  hr.of_block fun q hq => h.block q (hr.lt q hq) (fun e => (hr.ne_tab hg) q hq e)
theorem CrL.step {w1 wr w' : World} {g sb ns k : Nat} {l : List (Int × Int)} {s : Dk} (h : CrL w1 wr g sb l ns s k) {G : Secs} (hG : cG l s (k + 1) = G) (ht : Tab w' g (gT G) (cnt s.size G)) (hw : Within (fun k => k = g) wr w') (hsb : sb ≠ g) : CrL w1 w' g sb l ns s (k + 1) :=
  ⟨by rw [hG]; exact ht, h.sv.of_block (hw.block sb h.sv.lt hsb), h.wi.trans hw⟩
theorem CrL.stay {w1 wr : World} {g sb ns k : Nat} {l : List (Int × Int)} {s : Dk} (h : CrL w1 wr g sb l ns s k) (hG : cG l s (k + 1) = cG l s k) : CrL w1 wr g sb l ns s (k + 1) := ⟨by rw [hG]; exact h.gt, h.sv, h.wi⟩

theorem PRow.wrap {w : World} {M : Nat → Prop} {A : Option Addr} {n c : Nat} {fs : List Value} (h : PRow w M A n c fs) {j : Nat} (hj : j < n) : wrap64 ((j : Int) + 1) = (j : Int) + 1 := by
  rcases h.own.2 with ⟨_, h0⟩ | ⟨g, cap, cur, hv, _, _, h1, h2, _⟩
  · omega
  · have h3 : ((cap : Nat) : Int) ≤ 9223372036854775807 := by unfold maxLen at h2; omega
    unfold wrap64
    omega

theorem less_left {n j : Nat} (hj : j < n) (hw : wrap64 ((j : Int) + 1) = (j : Int) + 1) : n - (intOf (.int .i64 (wrap64 ((j : Int) + 1)))).toNat < n - (intOf (.int .i64 (j : Int))).toNat := by
  rw [hw]; simp [intOf]; omega

set_option maxHeartbeats 8000000 in
set_option maxRecDepth 100000 in
theorem crash_is {w : World} {d g c n cap nc : Nat} {A : Option Addr} {ch : Chg} {fs : List Value} {M R : Nat → Prop} {s : Dk} (h : DIn w d g c A n cap ch nc fs M R s) {Al : Option Addr} {m cl B : Nat} {l : List (Int × Int)} (hA : SvAt w B Al l) (hm : m = l.length) (hB : B ≤ w.heap.size) (hml : m ≤ 70368744177664) :
    Calls Try.prog 12 #[.pointer (some ⟨d, 0, none⟩), .slice Al m cl] w fun e w' => e = .returned (.tuple #[]) ∧ ∃ M' R', DA6 w' d M' R' (s.crash l) ∧ Turns M R w M' R' w' := by
  have HH := hid h
  have HA := hid (hA.more hB)
  have HM := hid hm
  have HNL := hid (show n = s.pend.length from h.row.len.trans h.ops.len)
  have HL := hid (show g < w.heap.size ∧ d < w.heap.size ∧ g ≠ d ∧ g ≠ c from ⟨h.lt g (.inl h.mg), h.lt d (.inl h.md), h.gt.ne_blk h.blk, h.gc⟩)
  have hmm := @run_makeMap Try.prog
  have HT0 := hid (show Tab (w.alloc (.map #[] 0)) w.heap.size (sT (l.take 0)) 0 from Tab.made w)
  have HB0 := hid (show Below w.heap.size w (w.alloc (.map #[] 0)) from (Below.refl _ _).alloc (Nat.le_refl _) _)
  clear h hA hm hB
  go_enter Try.func12, Try.ntmps12
  go_wp2_with fail
  go_loopw [16] (fun i wr => ∃ k nk : Nat, k ≤ m ∧ i = .int .i64 (k : Int) ∧ Kept (Tab wr w.heap.size (sT (l.take k)) nk) ∧ Kept (Below w.heap.size w wr)) (fun i _ => m - (intOf i).toNat)
  case atStart => exact ⟨0, 0, Nat.zero_le _, rfl, HT0, HB0⟩
  case round =>
    clear HT0 HB0
    obtain ⟨k, nk, hk, rfl, HT, HB⟩ := hrel
    by_cases hlt : k < m
    · have hx : l[k]? = some (l[k]'(by have := HM.out; omega)) := List.getElem?_eq_getElem _
      obtain ⟨x, hxe⟩ : ∃ x, x = l[k]'(by have := HM.out; omega) := ⟨_, rfl⟩
      rw [← hxe] at hx
      obtain ⟨b, off, rfl, hbl, hc⟩ := (HA.out.below HB.out) (by have := HM.out; omega)
      obtain ⟨c0, c1⟩ := hc k x hx
      have HTK := hid (show l.take (k + 1) = l.take k ++ [x] by rw [List.take_add_one, hx]; rfl)
      clear hc hx hxe hbl
      cases hs : sT (l.take k) x.1 with
      | some v =>
        have HS := hid (show ∃ q, (sT (l.take k) x.1).getD (.int .i64 0) = .int .i64 q by
          unfold sT
          cases (l.take k).find? (fun s => s.1 == x.1) with
          | none => exact ⟨0, rfl⟩
          | some y => exact ⟨y.2, rfl⟩)
        have HS2 := hid (show (sT (l.take k) x.1).isSome = true by rw [hs]; rfl)
        clear hs
        obtain ⟨q, hq⟩ := HS.out
        have HQ := hid hq
        clear hq
        go_wp2_with (at_lookup; refine wpList_lookOk _ rfl _ _ 57 rfl 3 3 Try.underlying57 Try.underlying3 (zero_int _) rfl (HT.out.alloc _) x.1 rfl HQ.out HS2.out ?_)
        go_roundw
        case rel => exact ⟨k + 1, nk, by omega, by go_num, hid (by rw [HTK.out, sT_old HS2.out]; exact HT.out.alloc _), hid (HB.out.alloc HB.out.size _)⟩
        case measure => simp [intOf]; omega
      | none =>
        have HS := hid (show (sT (l.take k) x.1).getD (.int .i64 0) = .int .i64 0 ∧ (sT (l.take k) x.1).isSome = false by rw [hs]; exact ⟨rfl, rfl⟩)
        clear hs
        go_wp2_with (first
          | (at_lookup; refine wpList_lookOk _ rfl _ _ 57 rfl 3 3 Try.underlying57 Try.underlying3 (zero_int _) rfl (HT.out.alloc _) x.1 rfl HS.out.1 HS.out.2 ?_)
          | (at_mapUpdate; refine wpList_put _ rfl _ _ _ 57 rfl 3 3 Try.underlying57 Try.underlying3 rfl (HT.out.alloc _) x.1 rfl (.int .i64 x.2) rfl ?_; intro w4 ht4 ho4 hs4; rw [sT_new HS.out.2, ← HTK.out] at ht4; have HX4 := hid (And.intro ht4 ho4); clear ht4 ho4 hs4; go_frame))
        have HB4 := hid (show Below w.heap.size w w4 from (HB.out.alloc HB.out.size (.cells #[.int .i64 x.1, .int .i64 x.2] 44)).trans (HX4.out.2.below (Nat.le_refl _) (by have := HB.out.size; simp; omega)))
        refine ⟨⟨k + 1, _, by omega, by go_num, hid HX4.out.1, HB4⟩, by simp [intOf]; omega⟩
    · obtain rfl : k = m := by omega
      obtain ⟨w1, hw1⟩ : ∃ w1, w1 = wr := ⟨_, rfl⟩
      subst hw1
      have HS1 := hid (show Tab w1 w.heap.size (sT l) nk by rw [← List.take_of_length_le (l := l) (i := k) (by have := HM.out; omega)]; exact HT.out)
      have HD1 := hid (HH.out.below HB.out)
      have HSZ := hid (show g < w1.heap.size ∧ w.heap.size ≠ g from ⟨Nat.lt_of_lt_of_le HL.out.1 HB.out.size, by have := HL.out.1; omega⟩)
      obtain ⟨e0, e1, e2, e3, e4, e5, _, _, _, _⟩ := six HD1.out.blk
      have HC0 := hid (show CrL w1 w1 g w.heap.size l nk s 0 from ⟨by rw [cG_zero]; exact HD1.out.gt, HS1.out, Within.refl _ _⟩)
      clear hlt HT hml
      go_wp2_with fail
      go_loopw [40] (fun i wq => ∃ j : Nat, j ≤ n ∧ i = .int .i64 (j : Int) ∧ Kept (CrL w1 wq g w.heap.size l nk s j)) (fun i _ => n - (intOf i).toNat)
      case atStart => exact ⟨0, Nat.zero_le _, rfl, HC0⟩
      case round =>
        clear HC0
        obtain ⟨j, hj, rfl, HC⟩ := hrel
        have HBq := hid (show Blk wr d _ _ from (HC.out.wi.block d HD1.out.blk.lt (fun e => HL.out.2.2.1 e.symm)).trans HD1.out.blk)
        obtain ⟨q0, q1, q2, q3, q4, q5, _, _, _, _⟩ := six HBq.out
        by_cases hjn : j < n
        · obtain ⟨gq, f, rfl, _, hf, hcell⟩ := (HC.out.wi.row HD1.out.row HD1.out.gt).get hjn
          have hwr : wrap64 ((j : Int) + 1) = (j : Int) + 1 := HD1.out.row.wrap hjn
          have HME := hid (less_left hjn hwr)
          have hjp : j < s.pend.length := by rw [← HNL.out]; exact hjn
          obtain ⟨o, ho⟩ : ∃ o, s.pend[j]? = some o := ⟨_, List.getElem?_eq_getElem hjp⟩
          have HO := hid ho
          have HOM := hid (List.mem_of_getElem? ho)
          have HOK := hid (cG_ok HH.out.pl l j (Nat.le_of_lt hjp))
          have hop : OpV wr R o f := (HD1.out.ops.at_ j o f ho hf).keep (fun k hk => HC.out.wi.block k (HD1.out.lt k (.inr hk)) (fun e => HD1.out.mr g HD1.out.mg (by rw [← show k = g from e]; exact hk)))
          clear ho hjp hf
          cases hsv : survive l j with
          | none =>
            have HST := hid (HC.out.stay (by rw [cG_step HO.out, hsv]))
            have HS := hid (show (sT l (j : Int)).getD (.int .i64 0) = .int .i64 0 ∧ (sT l (j : Int)).isSome = false by rw [sT_survive, hsv]; exact ⟨rfl, rfl⟩)
            clear hsv hop
            go_wp2_with (at_lookup; refine wpList_lookOk _ rfl _ _ 57 rfl 3 3 Try.underlying57 Try.underlying3 (zero_int _) rfl HC.out.sv (j : Int) rfl HS.out.1 HS.out.2 ?_)
            go_roundw
            case rel => exact ⟨j + 1, by omega, by go_num, HST⟩
            case measure => exact HME.out
          | some q =>
            have HS := hid (show (sT l (j : Int)).getD (.int .i64 0) = .int .i64 q ∧ (sT l (j : Int)).isSome = true by rw [sT_survive, hsv]; exact ⟨rfl, rfl⟩)
            have HG := hid (show cG l s (j + 1) = applyOp (cG l s j) o q by rw [cG_step HO.out, hsv])
            have HIN := hid (HH.out.pl.inP o HOM.out)
            clear hsv
            obtain ⟨bi, _, hbi, hm⟩ := hop
            have HBI := hid hbi
            clear hbi
            cases hob : o.b with
            | none =>
              rw [hob] at hm
              obtain rfl := hm
              have HCL := hid (freed_is HC.out.gt HBI.out q (ground_del HIN.out.1 HIN.out.2))
              have HAP := hid (show applyOp (cG l s j) o q = upd (cG l s j) o.i none by unfold applyOp; rw [hob]; rfl)
              clear hob
              go_wp2_with (at_lookup; refine wpList_lookOk _ rfl _ _ 57 rfl 3 3 Try.underlying57 Try.underlying3 (zero_int _) rfl HC.out.sv (j : Int) rfl HS.out.1 HS.out.2 ?_)
              go_fit HCL.out
              rintro e w5 ⟨rfl, ht5, hw5⟩
              rw [gT_del] at ht5
              have HST := hid (HC.out.step (HG.out.trans HAP.out) ht5 hw5 HSZ.out.2)
              clear ht5 hw5
              go_wp2_with fail
              go_roundw
              case rel => exact ⟨j + 1, by omega, by go_num, HST⟩
              case measure => exact HME.out
            | some b =>
              rw [hob] at hm
              obtain ⟨bb, _, hbb, rfl⟩ := hm
              have HCL := hid (wrote_is HC.out.gt HBI.out hbb q (HH.out.pl.lenP o HOM.out b hob) (fun x hx => HOK.out.lenG _ x hx) (ground_put HIN.out.1 HIN.out.2 (torn b (cG l s j o.i) q)))
              have HAP := hid (show applyOp (cG l s j) o q = upd (cG l s j) o.i (some (torn b (cG l s j o.i) q)) by unfold applyOp; rw [hob]; rfl)
              clear hob hbb
              go_wp2_with (at_lookup; refine wpList_lookOk _ rfl _ _ 57 rfl 3 3 Try.underlying57 Try.underlying3 (zero_int _) rfl HC.out.sv (j : Int) rfl HS.out.1 HS.out.2 ?_)
              go_fit HCL.out
              rintro e w5 ⟨rfl, ht5, hw5⟩
              rw [gT_upd] at ht5
              have HST := hid (HC.out.step (HG.out.trans HAP.out) ht5 hw5 HSZ.out.2)
              clear ht5 hw5
              go_wp2_with fail
              go_roundw
              case rel => exact ⟨j + 1, by omega, by go_num, HST⟩
              case measure => exact HME.out
        · obtain rfl : j = n := by omega
          have HG := hid (show cG l s j = crashG l 0 s.ground s.pend from cG_all l s (by rw [← HNL.out]; exact Nat.le_refl _))
          have HOK := hid (cG_ok HH.out.pl l j (by rw [← HNL.out]; exact Nat.le_refl _))
          go_wp2_with fail
          go_fit (settle_is HBq.out HC.out.gt)
          rintro e w2 ⟨rfl, hb2, ht2, ho2⟩
          obtain ⟨M', R', h1, h2⟩ := settled_da HD1.out HC.out.wi HC.out.gt HOK.out.inG HOK.out.lenG hb2 ht2 ho2
          rw [HG.out] at h1
          have HX := hid (And.intro h1 (Turns.behind HB.out h2))
          clear hb2 ht2 ho2 h1 h2
          go_wp2_with fail
          go_end0
          exact ⟨rfl, M', R', HX.out.1, HX.out.2⟩

end Go.Proofs.Ytlemoaigcakmcaa
