/-
  A field, and what stands first as one: plain functions. The document's reading of a varint, by its contract. The document's Num: by its contract. The document's Take: by its contract.
-/
import Derived.Test.YtikggbopoajcbaaDoorJCode
import Derived.Test.YtikggbopoajcbaaDoorJVars
import Derived.BigQuiet
import Derived.Deep.QuietTactic
namespace Go.Proofs.YtikggbopoajcbaaDoor
open Go Go.RowKit

/-- a field: its kind, its number, its text, its flag, the most -/
structure Fd where
  k : Int
  v : Nat
  s : List UInt8
  y : Bool
  m : Int
def Fd.val (f : Fd) : Value := .agg #[.int .i64 f.k, .int .u64 (f.v : Int), .string (bst f.s), .bool f.y, .int .i64 f.m]

/-- a field of a kind that stands first: it, what is left, what is wrong -/
def tk (k : Nat) (most : Int) (l : List UInt8) : Fd × List UInt8 × Nat :=
  if k = 0 then (⟨0, (rnum l).1, [], false, 0⟩, (rnum l).2)
  else if k = 1 then (⟨1, 0, (rtext l).1, false, 0⟩, (rtext l).2)
  else if k = 2 then (⟨2, 0, [], (rflag l).1, 0⟩, (rflag l).2)
  else (⟨3, (rcount most l).1, [], false, 0⟩, (rcount most l).2)
def zeroFd (k : Nat) : Fd := ⟨k, 0, [], false, 0⟩

theorem five {w : World} {b : Nat} {t : TypeId} {a0 a1 a2 a3 a4 : Value} (h : Blk w b t #[a0, a1, a2, a3, a4]) :
    w.cell? ⟨b, 0, none⟩ = some a0 ∧ w.cell? ⟨b, 1, none⟩ = some a1 ∧ w.cell? ⟨b, 2, none⟩ = some a2 ∧ w.cell? ⟨b, 3, none⟩ = some a3 ∧ w.cell? ⟨b, 4, none⟩ = some a4 ∧
      w.frozen? ⟨b, 0, none⟩ = false ∧ w.frozen? ⟨b, 1, none⟩ = false ∧ w.frozen? ⟨b, 2, none⟩ = false ∧ w.frozen? ⟨b, 3, none⟩ = false ∧ w.frozen? ⟨b, 4, none⟩ = false :=
  ⟨h.cell 0, h.cell 1, h.cell 2, h.cell 3, h.cell 4, h.free 0, h.free 1, h.free 2, h.free 3, h.free 4⟩

/-- a field's bytes -/
def enc (f : Fd) : List UInt8 := if f.k = 1 then vbytes f.s.length ++ f.s else if f.k = 2 then [if f.y then 1 else 0] else vbytes f.v
theorem enc_num {f : Fd} (h1 : f.k ≠ 1) (h2 : f.k ≠ 2) : enc f = vbytes f.v := by unfold enc; rw [if_neg h1, if_neg h2]
theorem enc_text {f : Fd} (h1 : f.k = 1) : enc f = vbytes f.s.length ++ f.s := by unfold enc; rw [if_pos h1]
theorem enc_flag {f : Fd} (h2 : f.k = 2) : enc f = [if f.y then 1 else 0] := by unfold enc; rw [if_neg (by omega), if_pos h2]
theorem enc_len (f : Fd) : (enc f).length ≤ 20 + f.s.length := by
  unfold enc
  split
  · rw [List.length_append, vbytes_length]; have := vlen_le f.s.length; omega
  · split
    · simp; omega
    · rw [vbytes_length]; have := vlen_le f.v; omega

end Go.Proofs.YtikggbopoajcbaaDoor

namespace Go.Proofs.YtikggbopoajcbaaDoor
open Go Go.RowKit

theorem sum_wrap {q k p : Nat} {x : UInt8} (hp : p = 128 ^ k) (hq : q < 128 ^ k) (hk : k ≤ 8 ∨ k ≤ 9 ∧ x.toNat ≤ 1) :
    IntKind.u64.wrap ((q : Int) + IntKind.u64.wrap ((x.toNat : Int) % 128 * (p : Int))) = ((q + x.toNat % 128 * 128 ^ k : Nat) : Int) := by
  rw [← hp] at hq ⊢
  have hm : x.toNat % 128 * p ≤ 9223372036854775808 := by
    rcases hk with h | ⟨h, h1⟩
    · have h8 : p ≤ 128 ^ 8 := by rw [hp]; exact Nat.pow_le_pow_right (by decide) h
      have : x.toNat % 128 * p ≤ 127 * 128 ^ 8 := Nat.mul_le_mul (by omega) h8
      omega
    · have h8 : p ≤ 128 ^ 9 := by rw [hp]; exact Nat.pow_le_pow_right (by decide) h
      have : x.toNat % 128 * p ≤ 1 * 128 ^ 9 := Nat.mul_le_mul (by omega) h8
      omega
  have h9 : p ≤ 9223372036854775808 := by
    have : p ≤ 128 ^ 9 := by rw [hp]; exact Nat.pow_le_pow_right (by decide) (by omega)
    omega
  have e : (x.toNat : Int) % 128 * (p : Int) = ((x.toNat % 128 * p : Nat) : Int) := by simp
  rw [e, IntKind.wrap_u64, IntKind.wrap_u64]
  omega
theorem power_wrap {k p : Nat} (hp : p = 128 ^ k) (hk : k ≤ 8) : IntKind.u64.wrap ((p : Int) * 128) = ((128 ^ (k + 1) : Nat) : Int) := by
  have h8 : p ≤ 128 ^ 8 := by rw [hp]; exact Nat.pow_le_pow_right (by decide) hk
  rw [Nat.pow_succ, ← hp, IntKind.wrap_u64]
  omega
theorem ret3i {a b c d : Int} {e : Value} (h : a = b) (h2 : c = d) : Ending.returned (.tuple #[.int .u64 a, .int .i64 c, e]) = Ending.returned (.tuple #[.int .u64 b, .int .i64 d, e]) := by rw [h, h2]

set_option maxRecDepth 100000 in
set_option maxHeartbeats 1000000 in
theorem refGetVar_any (l : List UInt8) (w : World) (hl : l.length ≤ 70000) :
    Calls Tryd.prog 91 #[.string (bst l)] w fun e w' =>
      e = .returned (.tuple #[.int .u64 ((rdv 0 0 l).1 : Int), .int .i64 ((rdv 0 0 l).2.1 : Int), .int .i64 ((rdv 0 0 l).2.2 : Int)]) ∧ w = w' := by
  obtain ⟨o, ho⟩ : ∃ o, o = rdv 0 0 l := ⟨_, rfl⟩
  rw [← ho]
  have HR := hid ho
  clear ho
  obtain ⟨s, hs⟩ : ∃ s, s = bst l := ⟨_, rfl⟩
  have hsz : s.size = l.length := by rw [hs, bst_size]
  have hle : s.size ≤ 70000 := by omega
  have HS := hid hs
  have HZ := hid hsz
  rw [← hs]
  clear hs hsz
  go_enter Tryd.func91, Tryd.ntmps91
  go_wp2_with fail
  go_loop [5, 6, 7] (fun u p i => ∃ k q : Nat, k ≤ 9 ∧ k ≤ s.size ∧ q < 128 ^ k ∧ o = rdv k q (l.drop k) ∧ u = .int .u64 (q : Int) ∧ p = .int .u64 ((128 ^ k : Nat) : Int) ∧ i = .int .i64 (k : Int)) (fun _ _ i => 20 - (intOf i).toNat)
  case atStart => exact ⟨0, 0, by omega, by omega, by simp, by simpa using HR.out, rfl, rfl, rfl⟩
  case round =>
    obtain ⟨k, q, hk9, hk, hq, hrd, rfl, rfl, rfl⟩ := hrel
    have HQ := hid hq
    have HD := hid hrd
    clear hq hrd
    obtain ⟨p, hp⟩ : ∃ p, p = 128 ^ k := ⟨_, rfl⟩
    rw [← hp]
    have HP := hid hp
    clear hp
    by_cases hlt : k < s.size
    · have hex : ∃ x, l[k]? = some x := ⟨_, List.getElem?_eq_getElem (by rw [← HZ.out]; exact hlt)⟩
      obtain ⟨x, hx⟩ := hex
      have hsk := bst_get HS.out hx hlt
      have hdrop := hid (drop_cons hx)
      clear hx
      by_cases h128 : x.toNat < 128
      · by_cases hf : k = 9 ∧ 1 < x.toNat ∨ x.toNat = 0 ∧ 0 < k
        · have HF := hid (HD.out.trans (by rw [hdrop.out, rdv_form hf]))
          have hways : (9 ≤ k ∧ 2 ≤ x.toNat) ∨ (k ≤ 8 ∧ 1 ≤ k ∧ x.toNat ≤ 0) ∨ (9 ≤ k ∧ x.toNat ≤ 0) := by omega
          clear hf
          rcases hways with ⟨h1, h2⟩ | ⟨h1, h2, h3⟩ | ⟨h1, h2⟩
          · have hx0 : ((x.toNat : Int) == 0) = false := by simp; omega
            go_wp2_with fail
            go_ret3
            exact ⟨by rw [HF.out]; rfl, rfl⟩
          · have hx0 : ((x.toNat : Int) == 0) = true := by simp; omega
            go_wp2_with fail
            go_ret3
            exact ⟨by rw [HF.out]; rfl, rfl⟩
          · have hx0 : ((x.toNat : Int) == 0) = true := by simp; omega
            go_wp2_with fail
            go_ret3
            exact ⟨by rw [HF.out]; rfl, rfl⟩
        · have HV := hid (HD.out.trans (by rw [hdrop.out, rdv_last hf h128]))
          have hways : (9 ≤ k ∧ 1 ≤ x.toNat ∧ x.toNat ≤ 1) ∨ (k ≤ 0 ∧ x.toNat ≤ 0) ∨ (k ≤ 8 ∧ 1 ≤ x.toNat) := by omega
          clear hf
          rcases hways with ⟨h1, h2, h3⟩ | ⟨h1, h2⟩ | ⟨h1, h2⟩
          · have hx0 : ((x.toNat : Int) == 0) = false := by simp; omega
            have hval := hid (sum_wrap (x := x) HP.out HQ.out (by omega))
            rw [Nat.mod_eq_of_lt h128] at hval
            have hk10 : (10 : Int) = ((k + 1 : Nat) : Int) := by omega
            have HK := hid hk10
            clear hk10
            go_wp2_with fail
            all_goals
              go_ret3
              refine ⟨?_, rfl⟩
              rw [HV.out]
              exact ret3i hval.out HK.out
          · have hx0 : ((x.toNat : Int) == 0) = true := by simp; omega
            have hval := hid (sum_wrap (x := x) HP.out HQ.out (by omega))
            rw [Nat.mod_eq_of_lt h128] at hval
            have hk10 : ((k : Int) + 1 : Int) = ((k + 1 : Nat) : Int) := by omega
            have HK := hid hk10
            clear hk10
            go_wp2_with fail
            all_goals
              go_ret3
              refine ⟨?_, rfl⟩
              rw [HV.out]
              exact ret3i hval.out HK.out
          · have hx0 : ((x.toNat : Int) == 0) = false := by simp; omega
            have hval := hid (sum_wrap (x := x) HP.out HQ.out (by omega))
            rw [Nat.mod_eq_of_lt h128] at hval
            have hk10 : ((k : Int) + 1 : Int) = ((k + 1 : Nat) : Int) := by omega
            have HK := hid hk10
            clear hk10
            go_wp2_with fail
            all_goals
              go_ret3
              refine ⟨?_, rfl⟩
              rw [HV.out]
              exact ret3i hval.out HK.out
      · by_cases h9 : 9 ≤ k
        · have HF := hid (HD.out.trans (by rw [hdrop.out, rdv_form (by omega)]))
          go_wp2_with fail
          go_ret3
          exact ⟨by rw [HF.out]; rfl, rfl⟩
        · have HF := hid (HD.out.trans (by rw [hdrop.out, rdv_more (by omega) h128]))
          have hval := hid (sum_wrap (x := x) HP.out HQ.out (by omega))
          have hx := x.toNat_lt
          rw [show x.toNat % 128 = x.toNat - 128 by omega] at hval
          clear hx
          have hx0 : ((x.toNat : Int) == 0) = false := by simp; omega
          go_wp2_with fail
          all_goals
            go_round
            case rel => exact ⟨k + 1, _, by omega, by omega, more_lt HQ.out, HF.out, congrArg (Value.int .u64) hval.out, congrArg (Value.int .u64) (power_wrap HP.out (by omega)), by go_num⟩
            case measure => simp [intOf]; omega
    · have HF := hid (HD.out.trans (by rw [List.drop_eq_nil_of_le (by rw [← HZ.out]; omega)]))
      go_wp2_with fail
      go_ret3
      exact ⟨by rw [HF.out]; rfl, rfl⟩

theorem refGetVar_is {s : List UInt8} {v n e0 : Nat} {w : World} (hr : rdv 0 0 s = (v, n, e0)) (hl : s.length ≤ 70000) :
    Calls Tryd.prog 91 #[.string (bst s)] w fun e w' => e = .returned (.tuple #[.int .u64 (v : Int), .int .i64 (n : Int), .int .i64 (e0 : Int)]) ∧ w = w' := by
  have h := refGetVar_any s w hl
  rw [hr] at h
  exact h

end Go.Proofs.YtikggbopoajcbaaDoor

namespace Go.Proofs.YtikggbopoajcbaaDoor
open Go Go.RowKit

set_option maxHeartbeats 1000000 in
theorem refNum_any (l : List UInt8) (w : World) (hl : l.length ≤ 70000) :
    Calls Tryd.prog 75 #[.string (bst l)] w fun e w' =>
      e = .returned (.tuple #[.int .u64 ((rnum l).1 : Int), .string (bst (rnum l).2.1), .int .i64 ((rnum l).2.2 : Int)]) ∧ Below w.heap.size w w' := by
  have hN := rnum_all l
  generalize rnum l = o at hN ⊢
  have HL := hid hl
  have hz := bst_size l
  clear hl
  cases hN with
  | good v n h hn hl' hv hb =>
    have Hh := hid h
    have hex := bst_drop l n
    have h0 : (n : Int) ≤ (l.length : Int) := by omega
    have h00 : (0 : Int) ≤ (n : Int) := by omega
    clear h hn hb hl'
    go_enter Tryd.func75, Tryd.ntmps75
    go_wp2_with fail
    go_fit (refGetVar_is Hh.out HL.out)
    rintro e w' ⟨rfl, rfl⟩
    go_wp2_with fail
    go_quiet (fail)
    go_wp2_with fail
    go_ret3
    exact ⟨rfl, below_drewN (Below.refl _ _) _⟩
  | short h =>
    have Hh := hid h
    clear h
    go_enter Tryd.func75, Tryd.ntmps75
    go_wp2_with fail
    go_fit (refGetVar_is Hh.out HL.out)
    rintro e w' ⟨rfl, rfl⟩
    go_wp2_with fail
    go_ret3
    exact ⟨rfl, Below.refl _ _⟩
  | form h =>
    have Hh := hid h
    clear h
    go_enter Tryd.func75, Tryd.ntmps75
    go_wp2_with fail
    go_fit (refGetVar_is Hh.out HL.out)
    rintro e w' ⟨rfl, rfl⟩
    go_wp2_with fail
    go_ret3
    exact ⟨rfl, Below.refl _ _⟩

end Go.Proofs.YtikggbopoajcbaaDoor

namespace Go.Proofs.YtikggbopoajcbaaDoor
open Go Go.RowKit

theorem two_below {w w2 : World} {c0 c1 : Array Value} {t : TypeId} (h : Below ((w.alloc (.cells c0 t)).alloc (.cells c1 t)).heap.size ((w.alloc (.cells c0 t)).alloc (.cells c1 t)) w2) : Blk w2 w.heap.size t c0 ∧ Blk w2 (w.heap.size + 1) t c1 := by
  refine ⟨Blk.below (Blk.alloc (Blk.new w _ _) _) h (by simp; omega), ?_⟩
  have h1 := Blk.new (w.alloc (.cells c0 t)) t c1
  rw [show (w.alloc (.cells c0 t)).heap.size = w.heap.size + 1 by simp] at h1
  exact Blk.below h1 h (by simp)

theorem bst_ne (x : UInt8) (l : List UInt8) : (bst (x :: l)).toList ≠ [] := by rw [bst_toList]; simp

set_option maxHeartbeats 4000000 in
theorem refTake_flag (most : Int) (l : List UInt8) (w : World) (hl : l.length ≤ 70000) :
    Calls Tryd.prog 53 #[.int .i64 2, .int .i64 most, .string (bst l)] w fun e w' =>
      e = .returned (.tuple #[(tk 2 most l).1.val, .string (bst (tk 2 most l).2.1), .int .i64 ((tk 2 most l).2.2 : Int)]) ∧ Below w.heap.size w w' := by
  have HW := hid (show Below w.heap.size w ((w.alloc (.cells #[.int .i64 0, .int .u64 0, .string ⟨#[]⟩, .bool false, .int .i64 0] 78)).alloc (.cells #[.int .i64 2, .int .u64 0, .string ⟨#[]⟩, .bool false, .int .i64 0] 78)) from ((Below.refl _ _).alloc (Nat.le_refl _) _).alloc (by simp) _)
  have e0 : tk 2 most l = (⟨2, 0, [], (rflag l).1, 0⟩, (rflag l).2) := rfl
  rw [e0]
  have hz := bst_size l
  have htl := bst_toList l
  clear e0
  rcases l with _ | ⟨x, l⟩
  · have e : rflag [] = (false, [], 30) := rfl
    rw [e]
    go_enter Tryd.func53, Tryd.ntmps53
    go_wp2_with fail
    refine bodyPost_ret (v := .tuple #[(Fd.mk 2 0 [] false 0).val, .string (bst ([])), .int .i64 (30)]) (by simp [results, Tryd.results53, go_sem, Fd.val, bst, *]) rfl ⟨rfl, ?_⟩
    try refine Below.drew ?_
    exact ((Below.refl _ _).alloc (Nat.le_refl _) _).alloc (by simp) _
  · obtain ⟨s, hs⟩ : ∃ s, s = bst (x :: l) := ⟨_, rfl⟩
    rw [← hs] at hz htl
    have HS := hid hs
    have hk : 0 < s.size := by rw [hz]; simp
    have hsk := bst_get (k := 0) hs rfl hk
    have hki : (0 : Int) < (s.size : Int) := by omega
    have hk1 : (1 : Int) ≤ (s.size : Int) := by omega
    have hemp : (s.toList == []) = false := by rw [htl]; rfl
    have hex : s.extract 1 s.size = bst l := by rw [hz, hs]; exact bst_drop (x :: l) 1
    rw [← hs]
    clear hs htl
    have HZ := hid hz
    clear hz hl
    by_cases h1 : 1 < x.toNat
    · have e : rflag (x :: l) = (false, x :: l, 33) := by simp only [rflag]; rw [if_pos h1]
      rw [e]
      have hx : (1 : Int) < (x.toNat : Int) := by omega
      clear h1
      go_enter Tryd.func53, Tryd.ntmps53
      go_wp2_with fail
      rw [HS.out]
      refine bodyPost_ret (v := .tuple #[(Fd.mk 2 0 [] false 0).val, .string (bst (x :: l)), .int .i64 (33)]) (by simp [results, Tryd.results53, go_sem, Fd.val, bst, *]) rfl ⟨rfl, ?_⟩
      try refine Below.drew ?_
      exact ((Below.refl _ _).alloc (Nat.le_refl _) _).alloc (by simp) _
    · have e : rflag (x :: l) = (x.toNat == 1, l, 0) := by simp only [rflag]; rw [if_neg h1]
      rw [e]
      have hx : ¬ (1 : Int) < (x.toNat : Int) := by omega
      have hx1 : ((x.toNat : Int) == 1) = (x.toNat == 1) := by rw [Bool.eq_iff_iff]; simp; omega
      clear h1
      go_enter Tryd.func53, Tryd.ntmps53
      go_wp2_with fail
      go_region
      go_wp2_with fail
      refine bodyPost_ret (v := .tuple #[(Fd.mk 2 0 [] (x.toNat == 1) 0).val, .string (bst (l)), .int .i64 (0)]) (by simp [results, Tryd.results53, go_sem, Fd.val, bst, *]) rfl ⟨rfl, ?_⟩
      try refine Below.drew ?_
      exact ((Below.refl _ _).alloc (Nat.le_refl _) _).alloc (by simp) _

/-- the document's Take, but for flags: what comes of the number that stands first -/
def TookRef (k : Nat) (most : Int) (l : List UInt8) (w : World) (e : Ending) (w' : World) : Prop :=
  e = .returned (.tuple #[(tk k most l).1.val, .string (bst (tk k most l).2.1), .int .i64 ((tk k most l).2.2 : Int)]) ∧ Below w.heap.size w w'

set_option maxHeartbeats 4000000 in
theorem refTake_num (most : Int) (l : List UInt8) (w : World) (hl : l.length ≤ 70000) :
    Calls Tryd.prog 53 #[.int .i64 0, .int .i64 most, .string (bst l)] w (TookRef 0 most l w) := by
  have HW := hid (show Below w.heap.size w ((w.alloc (.cells #[.int .i64 0, .int .u64 0, .string ⟨#[]⟩, .bool false, .int .i64 0] 78)).alloc (.cells #[.int .i64 0, .int .u64 0, .string ⟨#[]⟩, .bool false, .int .i64 0] 78)) from ((Below.refl _ _).alloc (Nat.le_refl _) _).alloc (by simp) _)
  have e0 : tk 0 most l = (⟨0, (rnum l).1, [], false, 0⟩, (rnum l).2) := rfl
  unfold TookRef
  rw [e0]
  have hG := refNum_any l ((w.alloc (.cells #[.int .i64 0, .int .u64 0, .string ⟨#[]⟩, .bool false, .int .i64 0] 78)).alloc (.cells #[.int .i64 0, .int .u64 0, .string ⟨#[]⟩, .bool false, .int .i64 0] 78)) hl
  have hbad := rnum_bad l
  obtain ⟨⟨n, l1, e1⟩, ho⟩ : ∃ o, rnum l = o := ⟨_, rfl⟩
  rw [ho] at hG hbad ⊢
  have HG := hid hG
  clear hG ho e0
  by_cases hE : e1 = 0
  · subst hE
    clear hbad hl
    go_enter Tryd.func53, Tryd.ntmps53
    go_wp2_with fail
    go_fit HG.out
    rintro e w2 ⟨rfl, h1⟩
    obtain ⟨b0, b1⟩ := two_below h1
    have H1 := hid (below_step HW.out h1)
    obtain ⟨x0, x1, x2, x3, x4, g0, g1, g2, g3, g4⟩ := five b0
    obtain ⟨y0, y1, y2, y3, y4, k0, k1, k2, k3, k4⟩ := five b1
    clear h1 b0 b1
    go_wp2_with fail
    refine bodyPost_ret (v := .tuple #[(Fd.mk 0 n [] false 0).val, .string (bst (l1)), .int .i64 (0)]) (by simp [results, Tryd.results53, go_sem, Fd.val, bst, *]) rfl ⟨rfl, ?_⟩
    try refine Below.drew ?_
    repeat' (refine Below.setCell ?_ (by simp) _)
    exact H1.out
  · have hE1 : ((e1 : Int) != 0) = true := by simpa using hE
    obtain ⟨hb1, hb2⟩ := hbad hE
    simp only at hb1 hb2
    subst hb1 hb2
    clear hbad hE hl
    go_enter Tryd.func53, Tryd.ntmps53
    go_wp2_with fail
    go_fit HG.out
    rintro e w2 ⟨rfl, h1⟩
    obtain ⟨b0, b1⟩ := two_below h1
    have H1 := hid (below_step HW.out h1)
    obtain ⟨x0, x1, x2, x3, x4, g0, g1, g2, g3, g4⟩ := five b0
    obtain ⟨y0, y1, y2, y3, y4, k0, k1, k2, k3, k4⟩ := five b1
    clear h1 b0 b1
    go_wp2_with fail
    refine bodyPost_ret (v := .tuple #[(Fd.mk 0 0 [] false 0).val, .string (bst (l1)), .int .i64 ((e1 : Int))]) (by simp [results, Tryd.results53, go_sem, Fd.val, bst, *]) rfl ⟨rfl, ?_⟩
    try refine Below.drew ?_
    repeat' (refine Below.setCell ?_ (by simp) _)
    exact H1.out

set_option maxHeartbeats 4000000 in
theorem refTake_text (most : Int) (l : List UInt8) (w : World) (hl : l.length ≤ 70000) :
    Calls Tryd.prog 53 #[.int .i64 1, .int .i64 most, .string (bst l)] w (TookRef 1 most l w) := by
  have HW := hid (show Below w.heap.size w ((w.alloc (.cells #[.int .i64 0, .int .u64 0, .string ⟨#[]⟩, .bool false, .int .i64 0] 78)).alloc (.cells #[.int .i64 1, .int .u64 0, .string ⟨#[]⟩, .bool false, .int .i64 0] 78)) from ((Below.refl _ _).alloc (Nat.le_refl _) _).alloc (by simp) _)
  have e0 : tk 1 most l = (⟨1, 0, (rtext l).1, false, 0⟩, (rtext l).2) := rfl
  unfold TookRef
  rw [e0]
  have hG := refNum_any l ((w.alloc (.cells #[.int .i64 0, .int .u64 0, .string ⟨#[]⟩, .bool false, .int .i64 0] 78)).alloc (.cells #[.int .i64 1, .int .u64 0, .string ⟨#[]⟩, .bool false, .int .i64 0] 78)) hl
  have hbad := rnum_bad l
  have htx : rtext l = if (rnum l).2.2 ≠ 0 then ([], l, (rnum l).2.2) else if 65536 < (rnum l).1 then ([], l, 32) else if (rnum l).2.1.length < (rnum l).1 then ([], l, 30) else ((rnum l).2.1.take (rnum l).1, (rnum l).2.1.drop (rnum l).1, 0) := rfl
  have hlen := rnum_len l
  obtain ⟨⟨n, l1, e1⟩, ho⟩ : ∃ o, rnum l = o := ⟨_, rfl⟩
  rw [ho] at hG hbad htx hlen
  dsimp only at hG hbad htx hlen
  have HG := hid hG
  have hz1 := bst_size l1
  have hl1 : l1.length ≤ 70000 := by omega
  clear hG ho e0 hl hlen
  by_cases hE : e1 = 0
  · subst hE
    rw [if_neg (by simp)] at htx
    by_cases h1 : 65536 < n
    · rw [if_pos h1] at htx
      rw [htx]
      clear htx hbad
      have hi : (65536 : Int) < (n : Int) := by omega
      go_enter Tryd.func53, Tryd.ntmps53
      go_wp2_with fail
      go_fit HG.out
      rintro e w2 ⟨rfl, h1⟩
      obtain ⟨b0, b1⟩ := two_below h1
      have H1 := hid (below_step HW.out h1)
      obtain ⟨x0, x1, x2, x3, x4, g0, g1, g2, g3, g4⟩ := five b0
      obtain ⟨y0, y1, y2, y3, y4, k0, k1, k2, k3, k4⟩ := five b1
      clear h1 b0 b1
      go_wp2_with fail
      refine bodyPost_ret (v := .tuple #[(Fd.mk 1 0 [] false 0).val, .string (bst (l)), .int .i64 (32)]) (by simp [results, Tryd.results53, go_sem, Fd.val, bst, *]) rfl ⟨rfl, ?_⟩
      try refine Below.drew ?_
      repeat' (refine Below.setCell ?_ (by simp) _)
      exact H1.out
    · rw [if_neg h1] at htx
      have hi : ¬ (65536 : Int) < (n : Int) := by omega
      by_cases h2 : l1.length < n
      · rw [if_pos h2] at htx
        rw [htx]
        have hi2 : (l1.length : Int) < (n : Int) := by omega
        clear htx hbad h1 h2
        go_enter Tryd.func53, Tryd.ntmps53
        go_wp2_with fail
        go_fit HG.out
        rintro e w2 ⟨rfl, h1⟩
        obtain ⟨b0, b1⟩ := two_below h1
        have H1 := hid (below_step HW.out h1)
        obtain ⟨x0, x1, x2, x3, x4, g0, g1, g2, g3, g4⟩ := five b0
        obtain ⟨y0, y1, y2, y3, y4, k0, k1, k2, k3, k4⟩ := five b1
        clear h1 b0 b1
        go_wp2_with fail
        refine bodyPost_ret (v := .tuple #[(Fd.mk 1 0 [] false 0).val, .string (bst (l)), .int .i64 (30)]) (by simp [results, Tryd.results53, go_sem, Fd.val, bst, *]) rfl ⟨rfl, ?_⟩
        try refine Below.drew ?_
        repeat' (refine Below.setCell ?_ (by simp) _)
        exact H1.out
      · rw [if_neg h2] at htx
        rw [htx]
        have hi2 : ¬ (l1.length : Int) < (n : Int) := by omega
        have hi3 : (n : Int) ≤ (l1.length : Int) := by omega
        have hex1 := bst_take l1 n
        have hex2 := bst_drop l1 n
        clear htx hbad h1 h2
        go_enter Tryd.func53, Tryd.ntmps53
        go_wp2_with fail
        go_fit HG.out
        rintro e w2 ⟨rfl, h1⟩
        obtain ⟨b0, b1⟩ := two_below h1
        have H1 := hid (below_step HW.out h1)
        obtain ⟨x0, x1, x2, x3, x4, g0, g1, g2, g3, g4⟩ := five b0
        obtain ⟨y0, y1, y2, y3, y4, k0, k1, k2, k3, k4⟩ := five b1
        clear h1 b0 b1
        go_wp2_with fail
        go_region
        go_wp2_with fail
        refine bodyPost_ret (v := .tuple #[(Fd.mk 1 0 (l1.take n) false 0).val, .string (bst (l1.drop n)), .int .i64 (0)]) (by simp [results, Tryd.results53, go_sem, Fd.val, bst, *]) rfl ⟨rfl, ?_⟩
        try refine Below.drew ?_
        repeat' (refine Below.setCell ?_ (by simp) _)
        exact H1.out
  · rw [if_pos (by simpa using hE)] at htx
    rw [htx]
    have hE1 : ((e1 : Int) != 0) = true := by simpa using hE
    clear hbad hE htx
    go_enter Tryd.func53, Tryd.ntmps53
    go_wp2_with fail
    go_fit HG.out
    rintro e w2 ⟨rfl, h1⟩
    obtain ⟨b0, b1⟩ := two_below h1
    have H1 := hid (below_step HW.out h1)
    obtain ⟨x0, x1, x2, x3, x4, g0, g1, g2, g3, g4⟩ := five b0
    obtain ⟨y0, y1, y2, y3, y4, k0, k1, k2, k3, k4⟩ := five b1
    clear h1 b0 b1
    go_wp2_with fail
    refine bodyPost_ret (v := .tuple #[(Fd.mk 1 0 [] false 0).val, .string (bst (l)), .int .i64 ((e1 : Int))]) (by simp [results, Tryd.results53, go_sem, Fd.val, bst, *]) rfl ⟨rfl, ?_⟩
    try refine Below.drew ?_
    repeat' (refine Below.setCell ?_ (by simp) _)
    exact H1.out

set_option maxHeartbeats 4000000 in
theorem refTake_count (most : Int) (hmost : -9223372036854775808 ≤ most ∧ most ≤ 9223372036854775807) (l : List UInt8) (w : World) (hl : l.length ≤ 70000) :
    Calls Tryd.prog 53 #[.int .i64 3, .int .i64 most, .string (bst l)] w (TookRef 3 most l w) := by
  have HW := hid (show Below w.heap.size w ((w.alloc (.cells #[.int .i64 0, .int .u64 0, .string ⟨#[]⟩, .bool false, .int .i64 0] 78)).alloc (.cells #[.int .i64 3, .int .u64 0, .string ⟨#[]⟩, .bool false, .int .i64 0] 78)) from ((Below.refl _ _).alloc (Nat.le_refl _) _).alloc (by simp) _)
  have e0 : tk 3 most l = (⟨3, (rcount most l).1, [], false, 0⟩, (rcount most l).2) := rfl
  unfold TookRef
  rw [e0]
  have hG := refNum_any l ((w.alloc (.cells #[.int .i64 0, .int .u64 0, .string ⟨#[]⟩, .bool false, .int .i64 0] 78)).alloc (.cells #[.int .i64 3, .int .u64 0, .string ⟨#[]⟩, .bool false, .int .i64 0] 78)) hl
  have htx : rcount most l = if (rnum l).2.2 ≠ 0 then (0, l, (rnum l).2.2) else if most < 0 ∨ most < ((rnum l).1 : Int) then (0, l, 32) else ((rnum l).1, (rnum l).2.1, 0) := rfl
  obtain ⟨⟨n, l1, e1⟩, ho⟩ : ∃ o, rnum l = o := ⟨_, rfl⟩
  rw [ho] at hG htx
  dsimp only at hG htx
  have HG := hid hG
  have hw : most < 0 ∨ IntKind.u64.wrap most = most := by rw [IntKind.wrap_u64]; omega
  have HWR := hid hw
  clear hG ho e0 hl hmost hw
  by_cases hE : e1 = 0
  · subst hE
    rw [if_neg (by simp)] at htx
    by_cases h1 : most < 0
    · rw [if_pos (.inl h1)] at htx
      rw [htx]
      clear htx
      go_enter Tryd.func53, Tryd.ntmps53
      go_wp2_with fail
      go_fit HG.out
      rintro e w2 ⟨rfl, h1⟩
      obtain ⟨b0, b1⟩ := two_below h1
      have H1 := hid (below_step HW.out h1)
      obtain ⟨x0, x1, x2, x3, x4, g0, g1, g2, g3, g4⟩ := five b0
      obtain ⟨y0, y1, y2, y3, y4, k0, k1, k2, k3, k4⟩ := five b1
      clear h1 b0 b1
      go_wp2_with fail
      refine bodyPost_ret (v := .tuple #[(Fd.mk 3 0 [] false 0).val, .string (bst (l)), .int .i64 (32)]) (by simp [results, Tryd.results53, go_sem, Fd.val, bst, *]) rfl ⟨rfl, ?_⟩
      try refine Below.drew ?_
      repeat' (refine Below.setCell ?_ (by simp) _)
      exact H1.out
    · have hwr : IntKind.u64.wrap most = most := HWR.out.resolve_left h1
      have h0 : (0 : Int) ≤ most := by omega
      by_cases h2 : most < (n : Int)
      · rw [if_pos (.inr h2)] at htx
        rw [htx]
        clear htx
        go_enter Tryd.func53, Tryd.ntmps53
        go_wp2_with fail
        go_fit HG.out
        rintro e w2 ⟨rfl, h1⟩
        obtain ⟨b0, b1⟩ := two_below h1
        have H1 := hid (below_step HW.out h1)
        obtain ⟨x0, x1, x2, x3, x4, g0, g1, g2, g3, g4⟩ := five b0
        obtain ⟨y0, y1, y2, y3, y4, k0, k1, k2, k3, k4⟩ := five b1
        clear h1 b0 b1
        go_wp2_with fail
        refine bodyPost_ret (v := .tuple #[(Fd.mk 3 0 [] false 0).val, .string (bst (l)), .int .i64 (32)]) (by simp [results, Tryd.results53, go_sem, Fd.val, bst, *]) rfl ⟨rfl, ?_⟩
        try refine Below.drew ?_
        repeat' (refine Below.setCell ?_ (by simp) _)
        exact H1.out
      · rw [if_neg (by omega)] at htx
        rw [htx]
        clear htx
        go_enter Tryd.func53, Tryd.ntmps53
        go_wp2_with fail
        go_fit HG.out
        rintro e w2 ⟨rfl, h1⟩
        obtain ⟨b0, b1⟩ := two_below h1
        have H1 := hid (below_step HW.out h1)
        obtain ⟨x0, x1, x2, x3, x4, g0, g1, g2, g3, g4⟩ := five b0
        obtain ⟨y0, y1, y2, y3, y4, k0, k1, k2, k3, k4⟩ := five b1
        clear h1 b0 b1
        go_wp2_with fail
        refine bodyPost_ret (v := .tuple #[(Fd.mk 3 n [] false 0).val, .string (bst (l1)), .int .i64 (0)]) (by simp [results, Tryd.results53, go_sem, Fd.val, bst, *]) rfl ⟨rfl, ?_⟩
        try refine Below.drew ?_
        repeat' (refine Below.setCell ?_ (by simp) _)
        exact H1.out
  · rw [if_pos (by simpa using hE)] at htx
    rw [htx]
    have hE1 : ((e1 : Int) != 0) = true := by simpa using hE
    clear hE htx
    go_enter Tryd.func53, Tryd.ntmps53
    go_wp2_with fail
    go_fit HG.out
    rintro e w2 ⟨rfl, h1⟩
    obtain ⟨b0, b1⟩ := two_below h1
    have H1 := hid (below_step HW.out h1)
    obtain ⟨x0, x1, x2, x3, x4, g0, g1, g2, g3, g4⟩ := five b0
    obtain ⟨y0, y1, y2, y3, y4, k0, k1, k2, k3, k4⟩ := five b1
    clear h1 b0 b1
    go_wp2_with fail
    refine bodyPost_ret (v := .tuple #[(Fd.mk 3 0 [] false 0).val, .string (bst (l)), .int .i64 ((e1 : Int))]) (by simp [results, Tryd.results53, go_sem, Fd.val, bst, *]) rfl ⟨rfl, ?_⟩
    try refine Below.drew ?_
    repeat' (refine Below.setCell ?_ (by simp) _)
    exact H1.out

end Go.Proofs.YtikggbopoajcbaaDoor
