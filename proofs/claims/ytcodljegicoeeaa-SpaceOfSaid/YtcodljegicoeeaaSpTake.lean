/-
  New, Take, Taken, Left.
-/
import Derived.Test.YtcodljegicoeeaaSpHas
import Derived.Test.YtcodljegicoeeaaGen
import Derived.Test.YtcodljegicoeeaaRegion
namespace Go.Proofs.Ytcodljegicoeeaa
open Go Go.RowKit

/-- the least free page; the space's length if there is none -/
def fstF (l : List Bool) : Nat := l.findIdx (fun b => !b)
theorem fstF_le (l : List Bool) : fstF l ≤ l.length := List.findIdx_le_length
theorem fstF_free {l : List Bool} (h : fstF l < l.length) : l.getD (fstF l) false = false := by
  have := List.findIdx_getElem (p := fun b => !b) (xs := l) (w := h)
  rw [List.getD_eq_getElem?_getD, List.getElem?_eq_getElem h]
  unfold fstF
  simpa using this
theorem fstF_taken {l : List Bool} {j : Nat} (h : j < fstF l) : l.getD j false = true := by
  have h1 := List.not_of_lt_findIdx h
  have hl : j < l.length := Nat.lt_of_lt_of_le h (fstF_le l)
  rw [List.getD_eq_getElem?_getD, List.getElem?_eq_getElem hl]
  simpa using h1
theorem fstF_is {l : List Bool} {k : Nat} (hk : k < l.length) (h0 : l.getD k false = false) (h1 : ∀ j, j < k → l.getD j false = true) : fstF l = k := by
  rcases Nat.lt_trichotomy (fstF l) k with h | h | h
  · have a := fstF_free (l := l) (by omega)
    rw [h1 _ h] at a
    cases a
  · exact h
  · rw [fstF_taken h] at h0
    cases h0
theorem fstF_none {l : List Bool} (h1 : ∀ j, j < l.length → l.getD j false = true) : fstF l = l.length := by
  rcases Nat.lt_or_ge (fstF l) l.length with h | h
  · have a := fstF_free h
    rw [h1 _ h] at a
    cases a
  · exact Nat.le_antisymm (fstF_le l) h
/-- what Take makes of a space -/
def takeB (l : List Bool) : List Bool × Nat × Nat := if fstF l < l.length then (l.set (fstF l) true, fstF l, 0) else (l, 0, 91)

set_option maxHeartbeats 2000000 in
set_option maxRecDepth 100000 in
theorem take_any {p : Nat} {l : List Bool} {w : World} (h : SpIn w p l) :
    Calls Try.prog 18 #[.pointer (some ⟨p, 0, none⟩)] w fun e w' => e = .returned (.tuple #[.int .i64 ((takeB l).2.1 : Int), .int .i64 ((takeB l).2.2 : Int)]) ∧ SpIn w' p (takeB l).1 ∧ Only p w w' := by
  have hfew := h.few
  have c0 := h.c0
  have H := hid h
  obtain ⟨n, hn⟩ : ∃ n, l.length = n := ⟨_, rfl⟩
  rw [hn] at c0
  have HN := hid hn
  have hn2 : n ≤ 256 := by omega
  clear h hn hfew
  go_enter Try.func18, Try.ntmps18
  go_wp2_with fail
  go_loopw [9] (fun i wr => ∃ k : Nat, i = .int .i64 (k : Int) ∧ k ≤ n ∧ Kept (∀ j, j < k → l.getD j false = true) ∧ wr = w) (fun i _ => n - (intOf i).toNat)
  case atStart => exact ⟨0, rfl, Nat.zero_le _, hid (fun j hj => absurd hj (by omega)), rfl⟩
  case round =>
    obtain ⟨k, rfl, hk, HK, rfl⟩ := hrel
    by_cases hlt : k < n
    · cases hb : l.getD k false with
      | true =>
        have HC := hid (claim_no H.out (k : Int) (by rw [hasB_nat, hb]; simp))
        have HK2 := hid (show ∀ j, j < k + 1 → l.getD j false = true from fun j hj => (Nat.lt_succ_iff_lt_or_eq.1 hj).elim (HK.out j) (fun e => e ▸ hb))
        clear hb HK
        go_wp2_with fail
        go_fit HC.out
        rintro e w2 ⟨rfl, rfl⟩
        go_wp2_with fail
        go_roundw
        case rel => exact ⟨k + 1, by go_num, by omega, HK2, trivial⟩
        case measure => simp [intOf]; omega
      | false =>
        have HC := hid (claim_any H.out (k : Int))
        have hin : inB l (k : Int) = true := by unfold inB; have := HN.out; simp; omega
        have ht : turnB l (k : Int) true = (l.set k true, 0) := by unfold turnB; rw [if_pos ⟨hin, by rw [hasB_nat, hb]; decide⟩]; simp
        rw [ht] at HC
        have hf : fstF l = k := fstF_is (by have := HN.out; omega) hb HK.out
        have HTB := hid (show takeB l = (l.set k true, k, 0) by unfold takeB; rw [hf, if_pos (by have := HN.out; omega)])
        clear hb hin ht hf HK
        go_wp2_with fail
        go_fit HC.out
        rintro e w2 ⟨rfl, h1, h2⟩
        go_wp2_with fail
        go_ret2
        rw [HTB.out]
        exact ⟨rfl, h1, h2⟩
    · have hf : fstF l = l.length := fstF_none (by have := HN.out; have h9 := HK.out; intro j hj; exact h9 j (by omega))
      have HTB := hid (show takeB l = (l, 0, 91) by unfold takeB; rw [hf, if_neg (by omega)])
      clear hf HK
      go_wp2_with fail
      go_ret2
      rw [HTB.out]
      exact ⟨rfl, H.out, Only.refl _ _⟩

/-- numbers, an int each -/
def eInt : Enc Nat := ⟨1, fun x => [.int .i64 (x : Int)], fun _ => rfl, fun x u hu => by simp at hu; subst hu; rfl, by decide⟩
theorem info_int : (Try.prog.info? 3).map (fun i => (i.zero, i.size, i.bytes)) = some (some (.int .i64 0), 1, 8) := by kernel_rfl
theorem gi_int : GInfo eInt Try.prog 58 3 8 := by
  obtain ⟨i0, hi, hz0, hz1, hz2⟩ := info_parts info_int
  exact ⟨Try.underlying58, i0, _, hi, hz0, hz1, hz2, rfl⟩
/-- the pages from the first ones that are taken -/
def tknB (l : List Bool) (k : Nat) : List Nat := (List.range k).filter fun i => l.getD i false
theorem tknB_succ (l : List Bool) (k : Nat) : tknB l (k + 1) = tknB l k ++ (if l.getD k false then [k] else []) := by
  unfold tknB
  rw [List.range_succ, List.filter_append]
  rw [List.filter_cons, List.filter_nil]
theorem tknB_le (l : List Bool) (k : Nat) : (tknB l k).length ≤ k := by
  unfold tknB
  exact Nat.le_trans (List.length_filter_le _ _) (by simp)
set_option maxHeartbeats 2000000 in
set_option maxRecDepth 100000 in
theorem taken_any {p : Nat} {l : List Bool} {w : World} (h : SpIn w p l) :
    Calls Try.prog 24 #[.pointer (some ⟨p, 0, none⟩)] w fun e w' => ∃ A m c, e = .returned (.slice A m c) ∧ GRow eInt 3 w' w.heap.size A m c (tknB l l.length) ∧ Below w.heap.size w w' := by
  have hfew := h.few
  have c0 := h.c0
  have H := hid h
  have HLT := hid h.lt
  obtain ⟨n, hn⟩ : ∃ n, l.length = n := ⟨_, rfl⟩
  rw [hn] at c0
  have HN := hid hn
  have hn2 : n ≤ 256 := by omega
  rw [hn]
  clear h hn hfew
  go_enter Try.func24, Try.ntmps24
  go_wp2_with fail
  go_loopw [3, 9] (fun v i wr => ∃ (k m c : Nat) (A : Option Addr), i = .int .i64 (k : Int) ∧ v = .slice A m c ∧ k ≤ n ∧ Kept (GRow eInt 3 wr w.heap.size A m c (tknB l k)) ∧ Kept (Below w.heap.size w wr)) (fun _ i _ => n - (intOf i).toNat)
  case atStart => exact ⟨0, 0, 0, none, rfl, rfl, Nat.zero_le _, hid GRow.nil, hid (Below.refl _ _)⟩
  case round =>
    obtain ⟨k, m, c, A, rfl, rfl, hk, HR, HB⟩ := hrel
    by_cases hlt : k < n
    · have HH := hid (has_in (H.out.step HB.out) (i := k) (by have := HN.out; omega))
      cases hb : l.getD k false with
      | false =>
        rw [hb] at HH
        have HR2 := hid (show GRow eInt 3 wr w.heap.size A m c (tknB l (k + 1)) by rw [tknB_succ, hb, if_neg (by decide), List.append_nil]; exact HR.out)
        clear hb HR
        go_wp2_with fail
        go_fit HH.out
        rintro e w2 ⟨rfl, rfl⟩
        go_wp2_with fail
        go_roundw
        case rel => exact ⟨k + 1, m, c, A, by go_num, rfl, by omega, HR2, HB⟩
        case measure => simp [intOf]; omega
      | true =>
        rw [hb] at HH
        have HE := hid (show tknB l (k + 1) = tknB l k ++ [k] by rw [tknB_succ, hb, if_pos rfl])
        have HL := hid (tknB_le l k)
        clear hb
        go_wp2_with fail
        go_fit HH.out
        rintro e w2 ⟨rfl, rfl⟩
        go_wp2_with (at_builtin; go_must (refine wpList_append_g _ rfl _ _ eInt gi_int (by decide) rfl w.heap.size rfl (HR.out.alloc _) rfl rfl (GAt.one _ k 3 rfl) (by have := HL.out; simp only [List.length_singleton]; omega) (HB.out.alloc HB.out.size _).size ?_); intro A2 m2 c2 w2 hr2 hc2 hb2 hg2)
        have HR2 := hid hr2
        rw [← HE.out] at HR2
        have HB2 := hid ((HB.out.alloc HB.out.size (.cells #[.int .i64 (k : Int)] 3)).trans hb2)
        clear hr2 hb2 hg2
        go_roundw
        case rel => exact ⟨k + 1, m2, c2, A2, by go_num, rfl, by omega, HR2, HB2⟩
        case measure => simp [intOf]; omega
    · obtain rfl : k = n := by omega
      go_wp2_with fail
      go_ret
      exact ⟨A, m, c, rfl, HR.out, HB.out⟩

/-- how many pages are free -/
def leftB (l : List Bool) : Nat := l.length - (tknB l l.length).length
set_option maxHeartbeats 2000000 in
set_option maxRecDepth 100000 in
theorem left_any {p : Nat} {l : List Bool} {w : World} (h : SpIn w p l) :
    Calls Try.prog 17 #[.pointer (some ⟨p, 0, none⟩)] w fun e w' => e = .returned (.int .i64 (leftB l : Int)) ∧ Below w.heap.size w w' := by
  have hfew := h.few
  have c0 := h.c0
  have HT := hid (fun (W : World) (hW : Beyond w W) => taken_any (h.step hW))
  have HLE := hid (tknB_le l l.length)
  obtain ⟨n, hn⟩ : ∃ n, l.length = n := ⟨_, rfl⟩
  obtain ⟨t, ht⟩ : ∃ t, (tknB l l.length).length = t := ⟨_, rfl⟩
  have HV := hid (show ((leftB l : Nat) : Int) = (n : Int) - (t : Int) by unfold leftB; have := HLE.out; omega)
  have HTN := hid ht
  rw [hn] at c0 HLE HTN
  have hn2 : n ≤ 256 := by omega
  have htn : t ≤ n := by have := HLE.out; have := HTN.out; omega
  rw [hn] at HT
  have hc0 := fun (W : World) (hW : Beyond w W) => (World.cell?_of_block (a := ⟨p, 0, none⟩) (hW.block p h.lt)).trans c0
  have hwt : IntKind.i64.wrap ((n : Int) - (t : Int)) = (n : Int) - (t : Int) := IntWalk.i64_in _ ⟨by omega, by omega⟩
  clear h hn hfew ht
  go_enter Try.func17, Try.ntmps17
  go_upto_region 1 with fail
  refine wp_region_held_drew (S := Beyond w) (by kernel_rfl) (Beyond.drew _) (fun hS => ?_)
  refine take_step (i := 0) (by simp only [List.getElem?_toArray, List.getElem?_cons_zero]; rfl) (by kernel_rfl) (by kernel_rfl) (by kernel_rfl) (by intro _ _ _ h; exact h) (by rfl) (fun W hW => by go_simp; first | done | with_reducible rfl) hS ?_
  try simp only [Act.put, List.setIfInBounds_toArray, List.set_cons_zero, List.set_cons_succ]
  refine take_step (i := 1) (by simp only [List.getElem?_toArray, List.getElem?_cons_succ, List.getElem?_cons_zero]; rfl) (by kernel_rfl) (by kernel_rfl) (by kernel_rfl) (by intro _ _ _ h; exact h) (by rfl) (fun W hW => by go_simp; first | done | with_reducible rfl) hS ?_
  try simp only [Act.put, List.setIfInBounds_toArray, List.set_cons_zero, List.set_cons_succ]
  refine take_step (i := 2) (by simp only [List.getElem?_toArray, List.getElem?_cons_succ, List.getElem?_cons_zero]; rfl) (by kernel_rfl) (by kernel_rfl) (by kernel_rfl) (by intro _ _ _ h; exact h) (by rfl) (fun W hW => by go_simp; first | done | with_reducible rfl) hS ?_
  try simp only [Act.put, List.setIfInBounds_toArray, List.set_cons_zero, List.set_cons_succ]
  refine take_step (i := 3) (by simp only [List.getElem?_toArray, List.getElem?_cons_succ, List.getElem?_cons_zero]; rfl) (by kernel_rfl) (by kernel_rfl) (by kernel_rfl) (by intro _ _ _ h; exact h) (by rfl) (fun W hW => by go_simp; first | done | with_reducible rfl) hS ?_
  try simp only [Act.put, List.setIfInBounds_toArray, List.set_cons_zero, List.set_cons_succ]
  refine take_step (i := 4) (by simp only [List.getElem?_toArray, List.getElem?_cons_succ, List.getElem?_cons_zero]; rfl) (by kernel_rfl) (by kernel_rfl) (by kernel_rfl) (by intro _ _ _ h; exact h) (by rfl) (fun W hW => by go_simp; first | done | with_reducible rfl) hS ?_
  try simp only [Act.put, List.setIfInBounds_toArray, List.set_cons_zero, List.set_cons_succ]
  refine wpAnyH_ready (rs := [5]) (by kernel_rfl) (by simp) ?_
  refine AllReadyH.cons (by simp only [List.getElem?_toArray, List.getElem?_cons_succ, List.getElem?_cons_zero]; rfl) (fun K hK => ?_) AllReadyH.nil
  go_simp
  go_fit (HT.out _ hS)
  rintro e w6 ⟨A6, m6, c6, rfl, hr6, hb6⟩
  have hS5 := Beyond.step hS hb6
  obtain rfl : m6 = t := hr6.1.trans HTN.out
  clear hr6 hb6
  refine hK.out _ _ (by assumption) (fun _ => ?_)
  clear hK K hS
  have hS := hS5
  try simp only [Act.put, List.setIfInBounds_toArray, List.set_cons_zero, List.set_cons_succ]
  refine take_step (i := 6) (by simp only [List.getElem?_toArray, List.getElem?_cons_succ, List.getElem?_cons_zero]; rfl) (by kernel_rfl) (by kernel_rfl) (by kernel_rfl) (by intro _ _ _ h; exact h) (by rfl) (fun W hW => by go_simp; first | done | with_reducible rfl) hS ?_
  try simp only [Act.put, List.setIfInBounds_toArray, List.set_cons_zero, List.set_cons_succ]
  refine take_step (i := 7) (by simp only [List.getElem?_toArray, List.getElem?_cons_succ, List.getElem?_cons_zero]; rfl) (by kernel_rfl) (by kernel_rfl) (by kernel_rfl) (by intro _ _ _ h; exact h) (by rfl) (fun W hW => by go_simp; first | done | with_reducible rfl) hS ?_
  try simp only [Act.put, List.setIfInBounds_toArray, List.set_cons_zero, List.set_cons_succ]
  refine take_step (i := 8) (by simp only [List.getElem?_toArray, List.getElem?_cons_succ, List.getElem?_cons_zero]; rfl) (by kernel_rfl) (by kernel_rfl) (by kernel_rfl) (by intro _ _ _ h; exact h) (by rfl) (fun W hW => by go_simp; first | done | with_reducible rfl) hS ?_
  try simp only [Act.put, List.setIfInBounds_toArray, List.set_cons_zero, List.set_cons_succ]
  refine wpAnyH_done (by kernel_rfl) ?_ _
  have HS := hid hS
  clear hS
  go_wp2_with fail
  go_ret
  rw [HV.out]
  exact ⟨rfl, HS.out⟩

set_option maxHeartbeats 2000000 in
set_option maxRecDepth 100000 in
theorem new_yes {n : Nat} {w : World} (h1 : 1 ≤ n) (h2 : n ≤ 256) :
    Calls Try.prog 8 #[.int .i64 (n : Int)] w fun e w' => e = .returned (.tuple #[.pointer (some ⟨w.heap.size, 0, none⟩), .int .i64 0]) ∧ SpIn w' w.heap.size (List.replicate n false) ∧ Below w.heap.size w w' := by
  have hn1 : ¬ (n : Int) < 1 := by omega
  have hn2 : ¬ (256 : Int) < (n : Int) := by omega
  go_enter Try.func8, Try.ntmps8
  go_wp2_with fail
  go_ret2
  refine ⟨rfl, ⟨fun _ => 0#64, ?_, Bits.zero n, by simpa using h1, by simpa using h2⟩, (Below.refl _ _).alloc (Nat.le_refl _) _⟩
  rw [List.length_replicate]
  exact Blk.new w _ _
set_option maxHeartbeats 2000000 in
set_option maxRecDepth 100000 in
theorem new_no {n : Int} {w : World} (h : n < 1 ∨ 256 < n) :
    Calls Try.prog 8 #[.int .i64 n] w fun e w' => e = .returned (.tuple #[.pointer none, .int .i64 90]) ∧ w = w' := by
  by_cases h1 : n < 1
  · clear h
    go_enter Try.func8, Try.ntmps8
    go_wp2_with fail
    go_ret2
    exact ⟨rfl, rfl⟩
  · have h2 : 256 < n := by omega
    clear h
    go_enter Try.func8, Try.ntmps8
    go_wp2_with fail
    go_ret2
    exact ⟨rfl, rfl⟩

end Go.Proofs.Ytcodljegicoeeaa
