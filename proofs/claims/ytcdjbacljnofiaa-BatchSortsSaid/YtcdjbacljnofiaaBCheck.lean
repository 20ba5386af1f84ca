/-
  The landed Check, by its contract.
-/
import Derived.Test.YtcdjbacljnofiaaRefBCheck
import Derived.Test.YtcdjbacljnofiaaSort
import Derived.Test.YtcdjbacljnofiaaJBytes
namespace Go.Proofs.Ytcdjbacljnofiaa
open Go Go.RowKit

theorem chk1_split (p : Option (List UInt8)) (x : Wt) : chk1 p x = if chk1 none x = 0 then (match p with | some q => if leK x.k q then 54 else 0 | none => 0) else chk1 none x := by
  unfold chk1
  by_cases h1 : x.k.length < 1 ∨ 64 < x.k.length
  · simp only [if_pos h1]; rfl
  · by_cases h2 : 256 < x.v.length ∨ (x.g = true ∧ 0 < x.v.length)
    · simp only [if_neg h1, if_pos h2]; rfl
    · simp only [if_neg h1, if_neg h2]; rfl
theorem less_leK (q k : List UInt8) : Op.bytesLess q k = !leK k q := by
  rw [leK_cmp, bytesLess_cmpL]
  have h := cmpL_neg q k
  rcases cmpL_three q k with e | e | e <;> rw [e] at h <;> simp [e, h]

theorem box3 (w : World) (t : TypeId) (a b c : Value) : Blk (w.alloc (.cells #[a, b, c] t)) w.heap.size t #[a, b, c] := Blk.new w t _

set_option maxHeartbeats 1000000 in
set_option maxRecDepth 100000 in
theorem checkWrite_any (x : Wt) (w : World) : Calls Try.prog 27 #[x.val] w fun e w' => e = .returned (.int .i64 (chk1 none x : Int)) ∧ Below w.heap.size w w' := by
  have hb : Below w.heap.size w (w.alloc (.cells #[.string (bst x.k), .string (bst x.v), .bool x.g] 43)) := (Below.refl _ _).alloc (Nat.le_refl _) _
  have HB := hid hb
  have z1 := bst_size x.k
  have z2 := bst_size x.v
  have t1 := bst_toList x.k
  have t2 := bst_toList x.v
  obtain ⟨D, hD⟩ : ∃ D, D = chk1 none x := ⟨_, rfl⟩
  rw [← hD]
  have HD := hid hD
  obtain ⟨k, v, g⟩ := x
  unfold Wt.val
  dsimp only at z1 z2 t1 t2 ⊢
  obtain ⟨KB, hKB⟩ : ∃ KB, KB = bst k := ⟨_, rfl⟩
  obtain ⟨VB, hVB⟩ : ∃ KB, KB = bst v := ⟨_, rfl⟩
  rw [← hKB] at z1 t1 HB ⊢
  rw [← hVB] at z2 t2 HB ⊢
  clear hD hb hKB hVB
  by_cases h1 : k = []
  · obtain rfl : D = 52 := by rw [HD.out, chk1_key (.inl (by simp [h1]))]
    have hq : (k == []) = true := by simp [h1]
    clear h1
    go_enter Try.func27, Try.ntmps27
    go_wp2_with fail
    go_ret
    exact ⟨rfl, HB.out⟩
  have hq : (k == []) = false := by simpa using h1
  have hl1 : ¬ k.length < 1 := fun h => h1 (List.eq_nil_of_length_eq_zero (by omega))
  clear h1
  by_cases h64 : 64 < k.length
  · obtain rfl : D = 52 := by rw [HD.out, chk1_key (.inr h64)]
    go_enter Try.func27, Try.ntmps27
    go_wp2_with fail
    go_ret
    exact ⟨rfl, HB.out⟩
  by_cases h256 : 256 < v.length
  · obtain rfl : D = 53 := by rw [HD.out, chk1_val hl1 h64 (.inl h256)]
    go_enter Try.func27, Try.ntmps27
    go_wp2_with fail
    go_ret
    exact ⟨rfl, HB.out⟩
  cases g with
  | false =>
    obtain rfl : D = 0 := by rw [HD.out, chk1_first hl1 h64 h256 (by simp)]
    go_enter Try.func27, Try.ntmps27
    go_wp2_with fail
    go_ret
    exact ⟨rfl, HB.out⟩
  | true =>
    by_cases hv : v = []
    · obtain rfl : D = 0 := by rw [HD.out, chk1_first hl1 h64 h256 (by simp [hv])]
      have hqv : (v == []) = true := by simp [hv]
      have hqn : (v != []) = false := by simp [hv]
      clear hv
      go_enter Try.func27, Try.ntmps27
      go_wp2_with fail
      go_ret
      exact ⟨rfl, HB.out⟩
    · have hpos : 0 < v.length := List.length_pos_iff.2 hv
      obtain rfl : D = 53 := by rw [HD.out, chk1_val hl1 h64 (.inr ⟨rfl, hpos⟩)]
      have hqv : (v == []) = false := by simpa using hv
      have hqn : (v != []) = true := by simpa using hv
      clear hv
      go_enter Try.func27, Try.ntmps27
      go_wp2_with fail
      go_ret
      exact ⟨rfl, HB.out⟩

set_option maxHeartbeats 2000000 in
set_option maxRecDepth 100000 in
/-- does the i-th key rise? -/
theorem rises_any {c r s : Int} {A : Option Addr} {n cap B g i : Nat} {ws : List Wt} {x : Wt} {w : World} (hb : Blk w g 25 #[.int .u64 c, .int .u64 r, .int .u64 s, .slice A n cap]) (hA : WAt w B A ws) (hn : n = ws.length) (hx : ws[i]? = some x) (hl : n ≤ 70368744177664) :
    Calls Try.prog 26 #[.int .i64 (i : Int), .pointer (some ⟨g, 0, none⟩)] w fun e w' => e = .returned (.bool (match prevK ws i with | some q => !leK x.k q | none => true)) ∧ Below w.heap.size w w' := by
  have HN := hid hn
  obtain ⟨b0, b1, b2, b3, f0, f1, f2, f3⟩ := four hb
  have hil : i < ws.length := (List.getElem?_eq_some_iff.1 hx).1
  have hin : i < n := by omega
  clear hb hn
  by_cases h0 : i = 0
  · subst h0
    go_enter Try.func26, Try.ntmps26
    go_wp2_with fail
    go_quiet (fail)
    go_wp2_with fail
    go_ret
    exact ⟨rfl, below_drewN (Below.refl _ _) _⟩
  · obtain ⟨b, off, y, rfl, hb, hy, d0, d1, d2⟩ := hA.get (k := i) hil
    obtain ⟨b', off', z, he, _, hz, p0, p1, p2⟩ := hA.get (k := i - 1) (by omega)
    injection he with he
    injection he with e1 e2 _
    subst e1 e2
    have hyx : y = x := by rw [hx] at hy; injection hy with hy; exact hy.symm
    subst hyx
    have hpk : prevK ws i = some z.k := by
      have := prevK_succ hz
      rwa [show i - 1 + 1 = i by omega] at this
    rw [hpk]
    have HL := hid (less_leK z.k y.k)
    have t1 := bst_toList y.k
    have t2 := bst_toList z.k
    obtain ⟨YB, hY⟩ : ∃ K, K = bst y.k := ⟨_, rfl⟩
    obtain ⟨ZB, hZ⟩ : ∃ K, K = bst z.k := ⟨_, rfl⟩
    rw [← hY] at d0 t1
    rw [← hZ] at p0 t2
    clear hx hz hA hpk hY hZ d1 d2 p1 p2 hy
    have h0z : ((i : Int) == 0) = false := by simp; omega
    have hidx : (i : Int) - 1 = ((i - 1 : Nat) : Int) := by omega
    go_enter Try.func26, Try.ntmps26
    go_wp2_with fail
    go_quiet (fail)
    go_wp2_with fail
    go_ret
    exact ⟨by rw [← HL.out]; rfl, below_drewN (Below.refl _ _) _⟩

theorem chks_step {p : Option (List UInt8)} {x : Wt} {l : List Wt} {C : Nat} {R : Bool} (hC : C = chk1 none x) (hR : R = match p with | some q => !leK x.k q | none => true) :
    (if chk1 p x = 0 then chks (some x.k) l else chk1 p x) = if C ≠ 0 then C else if R = false then 54 else chks (some x.k) l := by
  have e := chk1_split p x
  rw [← hC] at e
  by_cases h : C = 0
  · rw [if_pos h] at e
    cases p with
    | none =>
      dsimp only at hR e
      rw [e, hR]
      simp [h]
    | some q =>
      dsimp only at hR e
      cases hk : leK x.k q with
      | true =>
        rw [hk] at hR e
        rw [e, hR]
        simp [h]
      | false =>
        rw [hk] at hR e
        rw [e, hR]
        simp [h]
  · rw [if_neg h] at e
    rw [e, if_neg h, if_pos h]

set_option maxHeartbeats 4000000 in
set_option maxRecDepth 100000 in
theorem check_any {c r s : Int} {A : Option Addr} {n cap B : Nat} {ws : List Wt} {w : World} (hA : WAt w B A ws) (hn : n = ws.length) (hB : B ≤ w.heap.size) :
    Calls Try.prog 12 #[.agg #[.int .u64 c, .int .u64 r, .int .u64 s, .slice A n cap]] w fun e w' => e = .returned (.int .i64 (chk ws : Int)) ∧ Below w.heap.size w w' := by
  obtain ⟨D, hD⟩ : ∃ D, D = chk ws := ⟨_, rfl⟩
  rw [← hD]
  have HD := hid hD
  have HN := hid hn
  have hb1 : Below w.heap.size w (w.alloc (.cells #[.int .u64 c, .int .u64 r, .int .u64 s, .slice A n cap] 25)) := (Below.refl _ _).alloc (Nat.le_refl _) _
  have HC3 := hid (Blk.new w 25 #[.int .u64 c, .int .u64 r, .int .u64 s, .slice A n cap])
  have HB1 := hid hb1
  have HSZ := hid (show (w.alloc (.cells #[.int .u64 c, .int .u64 r, .int .u64 s, .slice A n cap] 25)).heap.size = w.heap.size + 1 by simp)
  have HA := hid (hA.below (hb1.mono hB))
  have HBX := hid hB
  clear hD hn hb1 hA hB
  by_cases h0 : n = 0
  · obtain rfl : D = 50 := by rw [HD.out, chk, if_pos (by rw [← HN.out]; exact h0)]
    subst h0
    go_enter Try.func12, Try.ntmps12
    go_wp2_with fail
    go_ret
    exact ⟨rfl, HB1.out⟩
  have hn0 : ((n : Int) == 0) = false := by simp; omega
  by_cases h8 : 8 < n
  · obtain rfl : D = 51 := by rw [HD.out, chk, if_neg (by rw [← HN.out]; exact h0), if_pos (by rw [← HN.out]; exact h8)]
    go_enter Try.func12, Try.ntmps12
    go_wp2_with fail
    go_ret
    exact ⟨rfl, HB1.out⟩
  have HD2 := hid (show D = chks none ws by rw [HD.out, chk, if_neg (by rw [← HN.out]; exact h0), if_neg (by rw [← HN.out]; exact h8)])
  go_enter Try.func12, Try.ntmps12
  go_wp2_with fail
  generalize (w.alloc (.cells #[.int .u64 c, .int .u64 r, .int .u64 s, .slice A n cap] 25)) = w1 at *
  go_loopw [20] (fun i wr => ∃ k : Nat, k ≤ n ∧ i = .int .i64 (k : Int) ∧ D = chks (prevK ws k) (ws.drop k) ∧ Below w1.heap.size w1 wr) (fun i _ => n - (intOf i).toNat)
  case atStart => exact ⟨0, Nat.zero_le _, rfl, HD2.out, Below.refl _ _⟩
  case round =>
    obtain ⟨k, hk, rfl, hd, hbw⟩ := hrel
    have HDK := hid hd
    have HBW := hid hbw
    have HEND := hid (below_step HB1.out hbw)
    have HBK := hid (HC3.out.below hbw (by rw [HSZ.out]; omega))
    have HAW := hid (HA.out.below (hbw.mono (by rw [HSZ.out]; have := HBX.out; omega)))
    clear hd hbw
    obtain ⟨b0, b1, b2, b3, f0, f1, f2, f3⟩ := four HBK.out
    by_cases hlt : k < n
    · obtain ⟨b, off, x, rfl, hb, hx, d0, d1, d2⟩ := HAW.out.get (k := k) (by rw [← HN.out]; exact hlt)
      have HXX := hid hx
      obtain ⟨C, hC⟩ : ∃ C, C = chk1 none x := ⟨_, rfl⟩
      obtain ⟨R, hR⟩ : ∃ R, R = (match prevK ws k with | some q => !leK x.k q | none => true) := ⟨_, rfl⟩
      have HX := hid (show D = if C ≠ 0 then C else if R = false then 54 else chks (some x.k) (ws.drop (k + 1)) by rw [HDK.out, chks_drop hx, chks_step hC hR])
      have HCW := hid (checkWrite_any x wr)
      unfold Wt.val at HCW
      rw [← hC] at HCW
      have HRI := hid (fun (w' : World) (hb' : Below wr.heap.size wr w') => rises_any (w := w') (cap := cap) (HBK.out.below hb' HBK.out.lt) (HAW.out.below (hb'.mono (by have := HEND.out.size; have := HBX.out; omega))) HN.out hx (by omega))
      rw [← hR] at HRI
      have HCC := hid hC
      clear hx hC hR
      by_cases hC0 : C = 0
      · subst hC0
        cases R with
        | true =>
          have HX2 := hid (show D = chks (prevK ws (k + 1)) (ws.drop (k + 1)) by rw [prevK_succ HXX.out]; exact HX.out)
          go_wp2_with fail
          go_fit HCW.out
          rintro e w2 ⟨rfl, hb2⟩
          have HB2 := hid hb2
          have HR2 := hid (HRI.out w2 hb2)
          clear hb2
          go_wp2_with fail
          go_fit HR2.out
          rintro e w3 ⟨rfl, hb3⟩
          have HB3 := hid (below_step (below_step HBW.out HB2.out) hb3)
          clear hb3
          go_wp2_with fail
          go_roundw
          case rel => exact ⟨k + 1, by omega, by go_num, HX2.out, HB3.out⟩
          case measure => simp [intOf]; omega
        | false =>
          obtain rfl : D = 54 := HX.out
          go_wp2_with fail
          go_fit HCW.out
          rintro e w2 ⟨rfl, hb2⟩
          have HB2 := hid hb2
          have HR2 := hid (HRI.out w2 hb2)
          clear hb2
          go_wp2_with fail
          go_fit HR2.out
          rintro e w3 ⟨rfl, hb3⟩
          have HB3 := hid (below_step (below_step HEND.out HB2.out) hb3)
          clear hb3
          go_wp2_with fail
          go_ret
          exact ⟨rfl, HB3.out⟩
      · obtain rfl : D = C := by rw [HX.out, if_pos hC0]
        have hcz : ((D : Int) != 0) = true := by simp; omega
        have hcz2 : ¬ ((D : Int) = 0) := by omega
        go_wp2_with fail
        go_fit HCW.out
        rintro e w2 ⟨rfl, hb2⟩
        have HB2 := hid (below_step HEND.out hb2)
        clear hb2
        go_wp2_with fail
        go_ret
        exact ⟨rfl, HB2.out⟩
    · obtain rfl : D = 0 := by rw [HDK.out, List.drop_of_length_le (by rw [← HN.out]; omega)]; rfl
      go_wp2_with fail
      go_ret
      exact ⟨rfl, HEND.out⟩

end Go.Proofs.Ytcdjbacljnofiaa
