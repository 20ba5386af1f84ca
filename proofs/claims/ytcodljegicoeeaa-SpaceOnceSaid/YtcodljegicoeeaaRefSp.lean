/-
  The document's space: a list of flags, its acts.
-/
import Derived.Test.YtcodljegicoeeaaSpTake
import Derived.Test.YtcodljegicoeeaaGen
namespace Go.Proofs.Ytcodljegicoeeaa
open Go Go.RowKit

/-- flags, a bool each -/
def eBool : Enc Bool := ⟨1, fun x => [.bool x], fun _ => rfl, fun x u hu => by simp at hu; subst hu; rfl, by decide⟩
theorem info_bool : (Try.prog.info? 4).map (fun i => (i.zero, i.size, i.bytes)) = some (some (.bool false), 1, 1) := by kernel_rfl
theorem gi_bool : GInfo eBool Try.prog 27 4 1 := by
  obtain ⟨i0, hi, hz0, hz1, hz2⟩ := info_parts info_bool
  exact ⟨Try.underlying27, i0, _, hi, hz0, hz1, hz2, rfl⟩
/-- these flags in memory -/
structure FL (w : World) (A : Option Addr) (n c : Nat) (l : List Bool) : Prop where
  at_ : GAt eBool w w.heap.size A l
  len : n = l.length
  cap : n ≤ c
theorem FL.step {w w' : World} {A : Option Addr} {n c : Nat} {l : List Bool} (h : FL w A n c l) (hb : Below w.heap.size w w') : FL w' A n c l := ⟨(h.at_.below hb).more hb.size, h.len, h.cap⟩
theorem FL.get {w : World} {A : Option Addr} {n c i : Nat} {l : List Bool} (h : FL w A n c l) (hi : i < n) : ∃ b off, A = some ⟨b, off, none⟩ ∧ w.cell? ⟨b, off + i, none⟩ = some (.bool (l.getD i false)) := by
  obtain ⟨b, off, x, e, _, hx, hc⟩ := h.at_.get (i := i) (by rw [← h.len]; exact hi)
  refine ⟨b, off, e, ?_⟩
  have h1 := hc 0 _ rfl
  rw [List.getD_eq_getElem?_getD, hx]
  simpa [eBool] using h1
theorem GAt.setB {w : World} {B bb off i : Nat} {l : List Bool} (h : GAt eBool w B (some ⟨bb, off, none⟩) l) (hi : i < l.length) (v : Bool) : GAt eBool (w.setCell ⟨bb, off + i, none⟩ (.bool v)) B (some ⟨bb, off, none⟩) (l.set i v) := by
  intro _
  obtain ⟨b, o, he, hb, hc⟩ := h (by omega)
  injection he with he
  injection he with e1 e2
  subst e1 e2
  refine ⟨bb, off, rfl, hb, fun k x j u hx hu => ?_⟩
  have hj : j = 0 := by
    have := (List.getElem?_eq_some_iff.1 hu).1
    simp [eBool] at this
    exact this
  subst hj
  obtain rfl : u = .bool x := by simpa [eBool] using hu.symm
  show (w.setCell ⟨bb, off + i, none⟩ _).cell? ⟨bb, off + k * 1 + 0, none⟩ = some _
  rw [Nat.mul_one, Nat.add_zero]
  rw [List.getElem?_set] at hx
  by_cases hik : i = k
  · subst hik
    rw [if_pos rfl, if_pos hi] at hx
    injection hx with hx
    subst hx
    have h0 := hc i _ 0 _ (List.getElem?_eq_getElem hi) rfl
    have h1 : w.cell? ⟨bb, off + i, none⟩ = some (.bool l[i]) := by simpa [eBool] using h0
    exact World.cell?_setCell_same w _ _ h1
  · rw [if_neg hik] at hx
    have h0 := hc k _ 0 _ hx rfl
    have h1 : w.cell? ⟨bb, off + k, none⟩ = some (.bool x) := by simpa [eBool] using h0
    rw [World.cell?_setCell_other w _ _ _ (fun e => by injection e with _ e _; omega)]
    exact h1
theorem GRow.freeCell {α : Type} {E : Enc α} {e : TypeId} {w : World} {base m c bb : Nat} {l : List α} (h : GRow E e w base (some ⟨bb, 0, none⟩) m c l) (k : Nat) (hm : 0 < m) : w.frozen? ⟨bb, k, none⟩ = false := by
  rcases h.2.2 with ⟨_, h0⟩ | ⟨g, cap, cur, hv, _, hg, _⟩
  · omega
  · injection hv with hA
    injection hA with hA
    injection hA with hA
    subst hA
    simp [World.frozen?, hg]
theorem GRow.addr {α : Type} {E : Enc α} {e : TypeId} {w : World} {base m c : Nat} {A : Option Addr} {l : List α} (h : GRow E e w base A m c l) (hm : 0 < m) : ∃ bb, A = some ⟨bb, 0, none⟩ ∧ base ≤ bb := by
  rcases h.2.2 with ⟨_, h0⟩ | ⟨g, cap, cur, hv, hb, _⟩
  · omega
  · injection hv with hA
    exact ⟨g, hA, hb⟩

set_option maxHeartbeats 2000000 in
set_option maxRecDepth 100000 in
theorem refHas_any {w : World} {A : Option Addr} {n c : Nat} {l : List Bool} (h : FL w A n c l) (i : Int) :
    Calls Try.prog 23 #[.slice A n c, .int .i64 i] w fun e w' => e = .returned (.bool (hasB l i)) ∧ w = w' := by
  have hlen := h.len
  by_cases h0 : i < 0
  · rw [hasB_neg h0]
    clear h
    go_enter Try.func23, Try.ntmps23
    go_wp2_with fail
    go_ret
    exact ⟨rfl, rfl⟩
  · by_cases h1 : (n : Int) ≤ i
    · rw [hasB_far (by omega)]
      have h2 : ¬ i < (n : Int) := by omega
      have h3 : (0 : Int) ≤ i := by omega
      clear h
      go_enter Try.func23, Try.ntmps23
      go_wp2_with fail
      go_ret
      exact ⟨rfl, rfl⟩
    · obtain ⟨k, rfl⟩ : ∃ k : Nat, i = (k : Int) := ⟨i.toNat, by omega⟩
      have hk : k < n := by omega
      obtain ⟨b, off, rfl, hc⟩ := h.get hk
      rw [hasB_nat]
      have hcap := h.cap
      clear h
      go_enter Try.func23, Try.ntmps23
      go_wp2_with fail
      go_ret
      exact ⟨rfl, rfl⟩

set_option maxHeartbeats 2000000 in
set_option maxRecDepth 100000 in
theorem refSet_any {w : World} {A : Option Addr} {n c i : Nat} {l : List Bool} (h : FL w A n c l) (hn : n ≤ 256) (hi : i < n) (v : Bool) :
    Calls Try.prog 22 #[.slice A n c, .int .i64 (i : Int), .bool v] w fun e w' => ∃ A' c', e = .returned (.slice A' n c') ∧ FL w' A' n c' (l.set i v) ∧ Below w.heap.size w w' := by
  have H := hid h
  clear h
  go_enter Try.func22, Try.ntmps22
  go_upto_region 2 with (at_builtin; go_must (refine wpList_append_g _ rfl _ _ eBool gi_bool (by decide) rfl w.heap.size rfl (GRow.empty w rfl (Nat.le_refl _)) rfl H.out.len (H.out.step ((Below.refl _ _).alloc (Nat.le_refl _) _)).at_ (by have := H.out.len; simp only [List.length_nil]; omega) (by simp) ?_); intro A2 m2 c2 w2 hr2 hc2 hb2 hg2)
  rw [List.nil_append] at hr2
  obtain rfl : m2 = n := hr2.1.trans H.out.len.symm
  obtain ⟨bb, rfl, hbb⟩ := hr2.addr (by omega)
  have hfz := hr2.freeCell i (by omega)
  obtain ⟨x, hx⟩ : ∃ x, w2.cell? ⟨bb, i, none⟩ = some (.bool x) := by
    obtain ⟨b, off, e, hc⟩ := FL.get ⟨hr2.at_, hr2.1, hc2⟩ hi
    injection e with e
    injection e with e1 e2
    subst e1 e2
    rw [Nat.zero_add] at hc
    exact ⟨_, hc⟩
  have HS := hid (hr2.at_.setB (i := i) (by have := hr2.1; omega) v)
  rw [Nat.zero_add] at HS
  have HB2 := hid ((((Below.refl w.heap.size w).alloc (Nat.le_refl _) (.cells #[] 4)).trans hb2).setCell (p := ⟨bb, i, none⟩) hbb (.bool v))
  have HL := hid hr2.1
  clear hr2 hb2 hg2 hbb
  go_wp2_with fail
  go_ret
  exact ⟨_, _, rfl, ⟨by simpa [World.setCell] using HS.out, by rw [List.length_set]; exact HL.out, hc2⟩, HB2.out⟩

theorem hasB_in {l : List Bool} {i : Int} (h : hasB l i = true) : inB l i = true := by
  cases hi : inB l i with
  | true => rfl
  | false => rw [hasB_out hi] at h; cases h
theorem turn_len (l : List Bool) (i : Int) (b : Bool) : (turnB l i b).1.length = l.length := by unfold turnB; split <;> simp
theorem take_len (l : List Bool) : (takeB l).1.length = l.length := by unfold takeB; split <;> simp
/-- what an act makes of a space, and its answer -/
def actB (l : List Bool) (k pg : Int) : List Bool × Nat × Nat :=
  if k = 0 then takeB l else if k = 1 then ((turnB l pg true).1, 0, (turnB l pg true).2) else if k = 2 then ((turnB l pg false).1, 0, (turnB l pg false).2) else (l, 0, 0)
theorem act_len (l : List Bool) (k pg : Int) : (actB l k pg).1.length = l.length := by
  unfold actB
  split
  · exact take_len l
  · split
    · exact turn_len _ _ _
    · split
      · exact turn_len _ _ _
      · rfl
set_option maxHeartbeats 2000000 in
set_option maxRecDepth 100000 in
theorem refDo_any {w : World} {A : Option Addr} {n c : Nat} {l : List Bool} (h : FL w A n c l) (hn : n ≤ 256) (k pg : Int) :
    Calls Try.prog 11 #[.slice A n c, .agg #[.int .i64 k, .int .i64 pg]] w fun e w' => ∃ A' c', e = .returned (.tuple #[.slice A' n c', .int .i64 ((actB l k pg).2.1 : Int), .int .i64 ((actB l k pg).2.2 : Int)]) ∧ FL w' A' n c' (actB l k pg).1 ∧ Below w.heap.size w w' := by
  have hb1 : Below w.heap.size w (w.alloc (.cells #[.int .i64 k, .int .i64 pg] 34)) := (Below.refl _ _).alloc (Nat.le_refl _) _
  have HB1 := hid hb1
  have H := hid (h.step hb1)
  have HX := hid (Blk.new w 34 #[.int .i64 k, .int .i64 pg])
  have x0 := HX.out.cell 0
  have x1 := HX.out.cell 1
  clear h hb1
  by_cases hk0 : k = 0
  · subst hk0
    have HA := hid (show actB l 0 pg = takeB l from rfl)
    rw [HA.out]
    clear HA
    go_enter Try.func11, Try.ntmps11
    go_wp2_with fail
    generalize w.alloc (.cells #[.int .i64 0, .int .i64 pg] 34) = w1 at *
    go_loopw [7] (fun i wr => ∃ j : Nat, i = .int .i64 (j : Int) ∧ j ≤ n ∧ Kept (∀ q, q < j → l.getD q false = true) ∧ wr = w1) (fun i _ => n - (intOf i).toNat)
    case atStart => exact ⟨0, rfl, Nat.zero_le _, hid (fun j hj => absurd hj (by omega)), rfl⟩
    case round =>
      obtain ⟨j, rfl, hj, HK, rfl⟩ := hrel
      have hcap := H.out.cap
      by_cases hlt : j < n
      · obtain ⟨b, off, rfl, hc⟩ := H.out.get hlt
        cases hb : l.getD j false with
        | true =>
          rw [hb] at hc
          have HK2 := hid (show ∀ q, q < j + 1 → l.getD q false = true from fun q hq => (Nat.lt_succ_iff_lt_or_eq.1 hq).elim (HK.out q) (fun e => e ▸ hb))
          clear hb HK
          go_wp2_with fail
          go_roundw
          case rel => exact ⟨j + 1, by go_num, by omega, HK2, trivial⟩
          case measure => simp [intOf]; omega
        | false =>
          rw [hb] at hc
          have hf : fstF l = j := fstF_is (by have := H.out.len; omega) hb HK.out
          have HTB := hid (show takeB l = (l.set j true, j, 0) by unfold takeB; rw [hf, if_pos (by have := H.out.len; omega)])
          have HST := hid (refSet_any H.out hn hlt true)
          clear hb HK hf
          go_wp2_with fail
          go_fit HST.out
          rintro e w2 ⟨A2, c2, rfl, h2, hb2⟩
          have HB2 := hid (below_step HB1.out hb2)
          have H2 := hid h2
          clear h2 hb2
          go_wp2_with fail
          go_ret3
          rw [HTB.out]
          exact ⟨A2, c2, rfl, H2.out, HB2.out⟩
      · have hf : fstF l = l.length := fstF_none (by have := H.out.len; have h9 := HK.out; intro q hq; exact h9 q (by omega))
        have HTB := hid (show takeB l = (l, 0, 91) by unfold takeB; rw [hf, if_neg (by omega)])
        clear hf HK
        go_wp2_with fail
        go_ret3
        rw [HTB.out]
        exact ⟨A, c, rfl, H.out, HB1.out⟩
  · by_cases hk1 : k = 1
    · subst hk1
      rw [show actB l 1 pg = ((turnB l pg true).1, 0, (turnB l pg true).2) from rfl]
      dsimp only
      have hcap := H.out.cap
      have hlen := H.out.len
      by_cases hin : inB l pg = true
      · obtain ⟨j, rfl, hj⟩ := inB_true hin
        obtain ⟨b, off, rfl, hc⟩ := H.out.get (i := j) (by omega)
        have hjn : j < n := by omega
        clear hlen
        cases hb : l.getD j false with
        | true =>
          rw [hb] at hc
          have HT := hid (show turnB l (j : Int) true = (l, 92) by unfold turnB; rw [if_neg (by rw [hasB_nat, hb]; simp)])
          rw [HT.out]
          clear hb HT hin hj
          go_enter Try.func11, Try.ntmps11
          go_wp2_with fail
          go_ret3
          exact ⟨_, c, rfl, H.out, HB1.out⟩
        | false =>
          rw [hb] at hc
          have HT := hid (show turnB l (j : Int) true = (l.set j true, 0) by unfold turnB; rw [if_pos ⟨hin, by rw [hasB_nat, hb]; decide⟩]; simp)
          rw [HT.out]
          have HST := hid (refSet_any H.out hn hjn true)
          clear hb HT hin hj
          go_enter Try.func11, Try.ntmps11
          go_wp2_with fail
          go_fit HST.out
          rintro e w2 ⟨A2, c2, rfl, h2, hb2⟩
          have HB2 := hid (below_step HB1.out hb2)
          have H2 := hid h2
          clear h2 hb2
          go_wp2_with fail
          go_ret3
          exact ⟨A2, c2, rfl, H2.out, HB2.out⟩
      · have HT := hid (show turnB l pg true = (l, 92) by unfold turnB; rw [if_neg (fun h => hin h.1)])
        rw [HT.out]
        have hor : pg < 0 ∨ ¬ pg < 0 ∧ (n : Int) ≤ pg := by
          unfold inB at hin
          simp at hin
          omega
        clear HT hin hlen
        rcases hor with h0 | ⟨h0, h1⟩
        · go_enter Try.func11, Try.ntmps11
          go_wp2_with fail
          go_ret3
          exact ⟨A, c, rfl, H.out, HB1.out⟩
        · go_enter Try.func11, Try.ntmps11
          go_wp2_with fail
          go_ret3
          exact ⟨A, c, rfl, H.out, HB1.out⟩
    · by_cases hk2 : k = 2
      · subst hk2
        rw [show actB l 2 pg = ((turnB l pg false).1, 0, (turnB l pg false).2) from rfl]
        dsimp only
        have HH := hid (refHas_any H.out pg)
        cases hb : hasB l pg with
        | false =>
          rw [hb] at HH
          have HT := hid (show turnB l pg false = (l, 92) by unfold turnB; rw [if_neg (by rw [hb]; simp)])
          rw [HT.out]
          clear hb HT
          go_enter Try.func11, Try.ntmps11
          go_wp2_with fail
          go_fit HH.out
          rintro e w2 ⟨rfl, rfl⟩
          go_wp2_with fail
          go_ret3
          exact ⟨A, c, rfl, H.out, HB1.out⟩
        | true =>
          obtain ⟨j, rfl, hj⟩ := inB_true (hasB_in hb)
          have hjn : j < n := by have := H.out.len; omega
          rw [hb] at HH
          have HT := hid (show turnB l (j : Int) false = (l.set j false, 0) by unfold turnB; rw [if_pos ⟨hasB_in hb, by rw [hb]; decide⟩]; simp)
          rw [HT.out]
          have HST := hid (refSet_any H.out hn hjn false)
          clear hb HT hj
          go_enter Try.func11, Try.ntmps11
          go_wp2_with fail
          go_fit HH.out
          rintro e w2 ⟨rfl, rfl⟩
          go_wp2_with fail
          go_fit HST.out
          rintro e w2 ⟨A2, c2, rfl, h2, hb2⟩
          have HB2 := hid (below_step HB1.out hb2)
          have H2 := hid h2
          clear h2 hb2
          go_wp2_with fail
          go_ret3
          exact ⟨A2, c2, rfl, H2.out, HB2.out⟩
      · rw [show actB l k pg = (l, 0, 0) by unfold actB; rw [if_neg hk0, if_neg hk1, if_neg hk2]]
        dsimp only
        have hk0' : (k == 0) = false := by simpa using hk0
        have hk1' : (k == 1) = false := by simpa using hk1
        have hk2' : (k == 2) = false := by simpa using hk2
        clear hk0 hk1 hk2
        go_enter Try.func11, Try.ntmps11
        go_wp2_with fail
        go_ret3
        exact ⟨A, c, rfl, H.out, HB1.out⟩

end Go.Proofs.Ytcodljegicoeeaa
