/-
  GetVar and PutVar, as a walk calls them; plain facts on what is read.
-/
import Derived.Test.YtcodljegicoeeaaPutVar
import Derived.Test.YtcodljegicoeeaaVarBack
namespace Go.Proofs.Ytcodljegicoeeaa
open Go Go.RowKit

theorem getVar_is {A : Option Addr} {m c B v n : Nat} {l : List UInt8} {w : World} (hm : m = l.length) (hr : rdv 0 0 l = (v, n, 0)) (hA : At w B A l) (hB : B ≤ w.heap.size) (hl : l.length ≤ 70368744177664) (hc : m ≤ c) :
    Calls Try.prog 45 #[.slice A m c] w fun e w' =>
      ∃ A' m' c', e = .returned (.tuple #[.int .u64 (v : Int), .slice A' m' c', .int .i64 0]) ∧ Row w' w.heap.size 5 A' m' c' (l.drop n) ∧ Below w.heap.size w w' := by
  subst hm
  refine (getVar_any A c B l w hA hB hl hc).mono fun e w' h => ?_
  rw [hr] at h
  exact h.1 rfl
theorem getVar_not {A : Option Addr} {m c B x : Nat} {l : List UInt8} {w : World} (hm : m = l.length) (hr : rdv 0 0 l = (0, 0, x)) (hx : x ≠ 0) (hA : At w B A l) (hB : B ≤ w.heap.size) (hl : l.length ≤ 70368744177664) (hc : m ≤ c) :
    Calls Try.prog 45 #[.slice A m c] w fun e w' =>
      e = .returned (.tuple #[.int .u64 0, .slice none 0 0, .int .i64 (x : Int)]) ∧ w = w' := by
  subst hm
  refine (getVar_any A c B l w hA hB hl hc).mono fun e w' h => ?_
  rw [hr] at h
  exact h.2 hx
theorem putVar_is {A : Option Addr} {m c B : Nat} {l : List UInt8} {v : Nat} {w : World} (hm : m = l.length) (hA : At w B A l) (hB : B ≤ w.heap.size) (hl : l.length ≤ 70368744177664) (hv : v < 18446744073709551616) :
    Calls Try.prog 43 #[.slice A m c, .int .u64 (v : Int)] w fun e w' =>
      ∃ A' m' c', e = .returned (.slice A' m' c') ∧ Row w' w.heap.size 5 A' m' c' (l ++ vbytes v) ∧ Below w.heap.size w w' := by
  subst hm
  exact putVar_any A c B l v w hA hB hl hv
theorem putVar_nil (v : Int) (w : World) (hv0 : 0 ≤ v) (hv : v < 18446744073709551616) :
    Calls Try.prog 43 #[.slice none 0 0, .int .u64 v] w fun e w' =>
      ∃ A' m' c', e = .returned (.slice A' m' c') ∧ Row w' w.heap.size 5 A' m' c' (vbytes v.toNat) ∧ Below w.heap.size w w' := by
  obtain ⟨V, rfl⟩ : ∃ V : Nat, v = V := ⟨v.toNat, by omega⟩
  exact putVar_is (A := none) (c := 0) (l := []) (v := V) rfl (At.nil w 0 _) (Nat.zero_le _) (by simp) (by omega)

theorem bst_drop (s : List UInt8) (n : Nat) : (bst s).extract n s.length = bst (s.drop n) := by
  apply ByteArray.ext
  apply Array.toList_inj.1
  simp [bst, List.take_of_length_le]
theorem bst_take (s : List UInt8) (n : Nat) : (bst s).extract 0 n = bst (s.take n) := by
  apply ByteArray.ext
  apply Array.toList_inj.1
  simp [bst]

theorem rdv_err {i acc : Nat} : ∀ {l : List UInt8} {v n e : Nat}, rdv i acc l = (v, n, e) → e ≠ 0 → v = 0 ∧ n = 0 ∧ (e = 10 ∨ e = 12) := by
  intro l
  induction l generalizing i acc with
  | nil => intro v n e h _; simp [rdv] at h; omega
  | cons x r ih =>
    intro v n e h he
    by_cases hf : i = 9 ∧ 1 < x.toNat ∨ x.toNat = 0 ∧ 0 < i
    · rw [rdv_form hf] at h; simp at h; omega
    · by_cases hx : x.toNat < 128
      · rw [rdv_last hf hx] at h; simp at h; omega
      · rw [rdv_more (by omega) hx] at h
        exact ih h he


theorem rdv_len {s : List UInt8} {v n : Nat} (h : rdv 0 0 s = (v, n, 0)) : n ≤ s.length := by
  obtain ⟨hb, hv⟩ := rdv_back h
  have h2 := rdv_vbytes hv (s.drop n)
  rw [hb, h] at h2
  simp only [Prod.mk.injEq, true_and, and_true] at h2
  have := congrArg List.length hb
  rw [List.length_append, vbytes_length] at this
  omega
theorem rdv_ok {l : List UInt8} {v n : Nat} (h : rdv 0 0 l = (v, n, 0)) : n = vlen v ∧ n ≤ l.length ∧ v < 18446744073709551616 ∧ l = vbytes v ++ l.drop n := by
  obtain ⟨hb, hv⟩ := rdv_back h
  have h2 := rdv_vbytes hv (l.drop n)
  rw [hb, h] at h2
  simp only [Prod.mk.injEq, true_and, and_true] at h2
  exact ⟨h2, rdv_len h, hv, hb.symm⟩
/-- ten bytes are enough -/
theorem rdv_ten : ∀ (l : List UInt8) (i acc : Nat), i ≤ 9 → rdv i acc (l.take (10 - i)) = rdv i acc l
  | [], i, acc, _ => by simp
  | x :: r, i, acc, h => by
    rw [show 10 - i = 10 - (i + 1) + 1 by omega, List.take_succ_cons]
    by_cases hf : i = 9 ∧ 1 < x.toNat ∨ x.toNat = 0 ∧ 0 < i
    · rw [rdv_form hf, rdv_form hf]
    · by_cases hx : x.toNat < 128
      · rw [rdv_last hf hx, rdv_last hf hx]
      · rw [rdv_more (by omega) hx, rdv_more (by omega) hx, rdv_ten r (i + 1) _ (by omega)]
theorem rdv_take (l : List UInt8) : rdv 0 0 (l.take 10) = rdv 0 0 l := rdv_ten l 0 0 (by omega)

end Go.Proofs.Ytcodljegicoeeaa
