/-
  The document's space: New, Bytes.
-/
import Derived.Test.YtcodljegicoeeaaRefSp
import Derived.Test.YtcodljegicoeeaaSpOf
import Derived.Test.YtcodljegicoeeaaRefVar
namespace Go.Proofs.Ytcodljegicoeeaa
open Go Go.RowKit

theorem make_falses {n : Nat} (hn : n ≤ 256) (W : World) :
    (Instr.makeSlice 27 (.int .i64 (n : Int)) (.int .i64 (n : Int))).run Try.prog W = .ok (.slice (some ⟨W.heap.size, 0, none⟩) n n) (W.alloc (.cells (List.replicate n (.bool false)).toArray 4)) := by
  obtain ⟨i0, hi, hz0, hz1, hz2⟩ := info_parts info_bool
  have hrun := run_make (P := Try.prog) W 27 4 i0 (.bool false) Try.underlying27 hi hz0 .i64 .i64 n n (by omega) (by omega) (by rw [hz2]; omega) (by omega)
  have e2 : (n : Int).toNat = n := by omega
  have e4 : madeCells (Value.bool false).cells n = (List.replicate n (Value.bool false)).toArray := by
    apply Array.toList_inj.1
    rw [show (Value.bool false).cells = #[Value.bool false] from rfl, toList_madeCells_one]
  rw [e2, hz1, Nat.mul_one, e4] at hrun
  exact hrun
theorem falses_at (n : Nat) (W : World) : FL (W.alloc (.cells (List.replicate n (.bool false)).toArray 4)) (some ⟨W.heap.size, 0, none⟩) n n (List.replicate n false) := by
  refine ⟨fun hl => ⟨W.heap.size, 0, rfl, by simp, fun i x j u hx hu => ?_⟩, by simp, Nat.le_refl _⟩
  have hj : j = 0 := by
    have := (List.getElem?_eq_some_iff.1 hu).1
    simp [eBool] at this
    exact this
  subst hj
  obtain rfl : u = .bool x := by simpa [eBool] using hu.symm
  have hi : i < n := by have := (List.getElem?_eq_some_iff.1 hx).1; simpa using this
  rw [List.getElem?_replicate, if_pos hi] at hx
  injection hx with hx
  subst hx
  show World.cell? _ ⟨W.heap.size, 0 + i * 1 + 0, none⟩ = _
  rw [Nat.zero_add, Nat.mul_one, Nat.add_zero, (Blk.new W _ _).cell]
  simp [hi]
set_option maxHeartbeats 4000000 in
set_option maxRecDepth 100000 in
theorem refNew_yes {n : Nat} {w : World} (h1 : 1 ≤ n) (h2 : n ≤ 256) :
    Calls Try.prog 9 #[.int .i64 (n : Int)] w fun e w' => ∃ A, e = .returned (.tuple #[.slice A n n, .int .i64 0]) ∧ FL w' A n n (List.replicate n false) ∧ Below w.heap.size w w' := by
  have hn1 : ¬ (n : Int) < 1 := by omega
  have hn2 : ¬ (256 : Int) < (n : Int) := by omega
  have hmk := make_falses h2 w
  have HF := hid (falses_at n w)
  have HB := hid (show Below w.heap.size w (w.alloc (.cells (List.replicate n (.bool false)).toArray 4)) from (Below.refl _ _).alloc (Nat.le_refl _) _)
  generalize (List.replicate n (Value.bool false)).toArray = Z at *
  go_enter Try.func9, Try.ntmps9
  go_wp2_with fail
  go_ret2
  exact ⟨_, rfl, HF.out, HB.out⟩
set_option maxHeartbeats 4000000 in
set_option maxRecDepth 100000 in
theorem refNew_no {n : Int} {w : World} (h : n < 1 ∨ 256 < n) :
    Calls Try.prog 9 #[.int .i64 n] w fun e w' => e = .returned (.tuple #[.slice none 0 0, .int .i64 90]) ∧ w = w' := by
  by_cases h1 : n < 1
  · clear h
    go_enter Try.func9, Try.ntmps9
    go_wp2_with fail
    go_ret2
    exact ⟨rfl, rfl⟩
  · have h2 : 256 < n := by omega
    clear h
    go_enter Try.func9, Try.ntmps9
    go_wp2_with fail
    go_ret2
    exact ⟨rfl, rfl⟩

theorem drop_getD {l : List Bool} {i : Nat} (h : i < l.length) : l.drop i = l.getD i false :: l.drop (i + 1) := by
  rw [List.drop_eq_getElem_cons h, List.getD_eq_getElem?_getD, List.getElem?_eq_getElem h]
  rfl
set_option maxHeartbeats 4000000 in
set_option maxRecDepth 100000 in
theorem refBytes_any {w : World} {A : Option Addr} {n c : Nat} {l : List Bool} (h : FL w A n c l) (h1 : 1 ≤ n) (hn : n ≤ 256) :
    Calls Try.prog 25 #[.slice A n c] w fun e w' => e = .returned (.string (bst (sbytes l))) ∧ Below w.heap.size w w' := by
  have H := hid h
  have hcap := h.cap
  have HL := hid h.len
  have HV := hid (fun (v : Nat) (W : World) (hv : v ≤ 256) => refVar_any v W (by omega))
  have HS := hid (show sbytes l = vbytes n ++ venc (runsF l false 0) by unfold sbytes; rw [h.len])
  clear h
  go_enter Try.func25, Try.ntmps25
  go_wp2_with fail
  go_fit (HV.out n w hn)
  rintro e w1 ⟨rfl, hb1⟩
  have HB1 := hid hb1
  clear hb1
  go_wp2_with fail
  go_loopw [3, 4, 5] (fun s i tv wr => ∃ (S : List UInt8) (k : Nat) (t : Bool), s = .string (bst S) ∧ i = .int .i64 (k : Int) ∧ tv = .bool t ∧ k ≤ n ∧ Kept (S.length ≤ 20 + 20 * k + (if t then 10 else 0)) ∧ Kept ((k < n ∧ sbytes l = S ++ venc (runsF (l.drop k) t 0) ∧ (0 < k ∨ t = true → l.getD k false = t)) ∨ (k = n ∧ sbytes l = S)) ∧ Kept (Below w.heap.size w wr)) (fun _ i tv _ => 2 * (n - (intOf i).toNat) + tOf tv)
  case atStart => exact ⟨vbytes n, 0, false, rfl, rfl, rfl, Nat.zero_le _, hid (by rw [vbytes_length]; have := vlen_le n; omega), hid (.inl ⟨by omega, HS.out, fun h => h.elim (fun h => absurd h (by omega)) (fun h => by cases h)⟩), HB1⟩
  case round =>
    obtain ⟨S, k, t, rfl, rfl, rfl, hk, HSL, HST, HB⟩ := hrel
    by_cases hlt : k < n
    · obtain ⟨_, hs1, hs2⟩ := HST.out.resolve_right (fun h => by omega)
      have HS1 := hid hs1
      have HS2 := hid hs2
      clear hs1 hs2 HST
      go_wp2_with fail
      go_loopw [4, 6] (fun i nn wq => ∃ q : Nat, i = .int .i64 ((k + q : Nat) : Int) ∧ nn = .int .i64 (q : Int) ∧ k + q ≤ n ∧ Kept (∀ j, j < q → l.getD (k + j) false = t) ∧ Kept (runsF (l.drop k) t 0 = runsF (l.drop (k + q)) t q) ∧ wq = wr) (fun i _ _ => n - (intOf i).toNat)
      case atStart => exact ⟨0, rfl, rfl, hk, hid (fun j hj => absurd hj (by omega)), hid rfl, rfl⟩
      case round =>
        obtain ⟨q, rfl, rfl, hq, HQ, HR, rfl⟩ := hrel
        by_cases hq1 : k + q < n
        · obtain ⟨b, off, rfl, hc⟩ := (H.out.step HB.out).get hq1
          by_cases hbt : l.getD (k + q) false = t
          · rw [hbt] at hc
            have HQ2 := hid (show ∀ j, j < q + 1 → l.getD (k + j) false = t from fun j hj => (Nat.lt_succ_iff_lt_or_eq.1 hj).elim (HQ.out j) (fun e => e ▸ hbt))
            have HR2 := hid (show runsF (l.drop k) t 0 = runsF (l.drop (k + (q + 1))) t (q + 1) by rw [HR.out, drop_getD (by have := HL.out; omega), hbt, runsF_same q rfl]; rfl)
            clear hbt HQ HR
            go_wp2_with fail
            go_roundw
            case rel => exact ⟨q + 1, by go_num, by go_num, by omega, HQ2, HR2, trivial⟩
            case measure => simp [intOf]; omega
          · have hbn : l.getD (k + q) false = !t := by cases t <;> simp_all
            rw [hbn] at hc
            have hbb : ((!t) == t) = false := by cases t <;> rfl
            have HS1' := hid (show sbytes l = (S ++ vbytes q) ++ venc (runsF (l.drop (k + q)) (!t) 0) by rw [HS1.out, HR.out, runsF_turn q (by rw [drop_getD (by have := HL.out; omega), hbn]; rfl), List.append_assoc]; rfl)
            have HS2' := hid (show 0 < k + q ∨ (!t) = true → l.getD (k + q) false = !t from fun _ => hbn)
            have HZ := hid (show q = 0 → t = false from fun e => by
              subst e
              cases t with
              | false => rfl
              | true => exact absurd (HS2.out (.inr rfl)) (by simpa using hbn))
            have HLL := hid (show (S ++ vbytes q).length ≤ 20 + 20 * (k + q) + (if (!t) then 10 else 0) by
              have h1 := HSL.out; have h2 := vlen_le q; have h3 := HZ.out
              rw [List.length_append, vbytes_length]
              by_cases hq0 : q = 0
              · have := h3 hq0
                subst this
                simp at h1 ⊢
                omega
              · cases t <;> simp at h1 ⊢ <;> omega)
            have hwq : IntKind.u64.wrap (q : Int) = (q : Int) := IntWalk.u64_in _ ⟨by omega, by omega⟩
            have HVq := hid (fun (W : World) => HV.out q W (by omega))
            have hsz : (bst S).size + (bst (vbytes q)).size ≤ 100000 := by have := HSL.out; have := vlen_le q; rw [bst_size, bst_size, vbytes_length]; cases t <;> simp at * <;> omega
            clear hbn hbt HQ HR HS1 HS2
            go_wp2_with fail
            go_fit (HVq.out _)
            rintro e w5 ⟨rfl, hb5⟩
            have HB5 := hid (HB.out.trans (hb5.mono HB.out.size))
            clear hb5
            go_wp2_with fail
            go_roundw
            case rel => exact ⟨S ++ vbytes q, k + q, !t, by rw [bst_append], rfl, rfl, by omega, HLL, hid (.inl ⟨hq1, HS1'.out, HS2'.out⟩), HB5⟩
            case measure =>
              have hz := HZ.out
              by_cases hq0 : q = 0
              · have := hz hq0
                subst this
                subst hq0
                simp [intOf, tOf]
              · cases t <;> simp [intOf, tOf] <;> omega
        · have hkq : k + q = n := by omega
          have HS1' := hid (show sbytes l = S ++ vbytes q by rw [HS1.out, HR.out, List.drop_eq_nil_of_le (by have := HL.out; omega)]; simp [runsF, venc])
          have HVq := hid (fun (W : World) => HV.out q W (by omega))
          have hsz : (bst S).size + (bst (vbytes q)).size ≤ 100000 := by have := HSL.out; have := vlen_le q; rw [bst_size, bst_size, vbytes_length]; cases t <;> simp at * <;> omega
          have hwq : IntKind.u64.wrap (q : Int) = (q : Int) := IntWalk.u64_in _ ⟨by omega, by omega⟩
          have HLL := hid (show (S ++ vbytes q).length ≤ 20 + 20 * (k + q) + (if (!t) then 10 else 0) by
              have h1 := HSL.out; have h2 := vlen_le q
              rw [List.length_append, vbytes_length]
              cases t <;> simp at h1 ⊢ <;> omega)
          clear HQ HR HS1 HS2
          go_wp2_with fail
          go_fit (HVq.out _)
          rintro e w5 ⟨rfl, hb5⟩
          have HB5 := hid (HB.out.trans (hb5.mono HB.out.size))
          clear hb5
          go_wp2_with fail
          go_roundw
          case rel => exact ⟨S ++ vbytes q, k + q, !t, by rw [bst_append], by rw [hkq], rfl, by omega, HLL, hid (.inr ⟨hkq, HS1'.out⟩), HB5⟩
          case measure => cases t <;> simp [intOf, tOf] <;> omega
    · have hs := (HST.out.resolve_left (fun h => hlt h.1)).2
      have HS1 := hid hs
      clear hs HST
      go_wp2_with fail
      go_ret
      rw [HS1.out]
      exact ⟨rfl, HB.out⟩

end Go.Proofs.Ytcodljegicoeeaa
