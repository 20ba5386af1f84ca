/-
  Fields in memory: a slice of them that was handed in.
-/
import Derived.Test.YtamieogikmnpcaaTake
namespace Go.Proofs.Ytamieogikmnpcaa
open Go Go.RowKit

/-- what a value of the type can be -/
structure Fd.Ok (f : Fd) : Prop where
  v : f.v < 18446744073709551616
  k : -9223372036854775808 ≤ f.k ∧ f.k ≤ 9223372036854775807
  m : -9223372036854775808 ≤ f.m ∧ f.m ≤ 9223372036854775807
  s : f.s.length ≤ 9223372036854775807

/-- the five cells of a field -/
def FCells (w : World) (b o : Nat) (f : Fd) : Prop :=
  w.cell? ⟨b, o, none⟩ = some (.int .i64 f.k) ∧ w.cell? ⟨b, o + 1, none⟩ = some (.int .u64 (f.v : Int)) ∧ w.cell? ⟨b, o + 2, none⟩ = some (.string (bst f.s)) ∧ w.cell? ⟨b, o + 3, none⟩ = some (.bool f.y) ∧ w.cell? ⟨b, o + 4, none⟩ = some (.int .i64 f.m)
theorem FCells.keep {w w' : World} {b o : Nat} {f : Fd} (h : FCells w b o f) (hk : w'.heap[b]? = w.heap[b]?) : FCells w' b o f := by
  have e : ∀ i, w'.cell? ⟨b, i, none⟩ = w.cell? ⟨b, i, none⟩ := fun i => World.cell?_of_block (a := ⟨b, i, none⟩) hk
  unfold FCells
  rw [e, e, e, e, e]
  exact h
/-- 'A' leads to fields, below block B -/
structure FAt (w : World) (B : Nat) (A : Option Addr) (fs : List Fd) : Prop where
  out : 0 < fs.length → ∃ b off, A = some ⟨b, off, none⟩ ∧ b < B ∧ ∀ i f, fs[i]? = some f → f.Ok ∧ FCells w b (off + i * 5) f
theorem FAt.below {w w' : World} {B : Nat} {A : Option Addr} {fs : List Fd} (h : FAt w B A fs) (hb : Below B w w') : FAt w' B A fs := ⟨fun hl => by
  obtain ⟨b, off, e, hlt, hc⟩ := h.out hl
  exact ⟨b, off, e, hlt, fun i f hf => ⟨(hc i f hf).1, (hc i f hf).2.keep (hb.block b hlt)⟩⟩⟩
theorem FAt.more {w : World} {B B' : Nat} {A : Option Addr} {fs : List Fd} (h : FAt w B A fs) (hB : B ≤ B') : FAt w B' A fs := ⟨fun hl => by
  obtain ⟨b, off, e, hlt, hc⟩ := h.out hl
  exact ⟨b, off, e, by omega, hc⟩⟩
theorem FAt.get {w : World} {B k : Nat} {A : Option Addr} {fs : List Fd} (h : FAt w B A fs) (hk : k < fs.length) :
    ∃ b off f, A = some ⟨b, off, none⟩ ∧ b < B ∧ fs[k]? = some f ∧ f.Ok ∧ FCells w b (off + k * 5) f := by
  obtain ⟨b, off, e, hlt, hc⟩ := h.out (by omega)
  exact ⟨b, off, fs[k], e, hlt, List.getElem?_eq_getElem hk, hc k _ (List.getElem?_eq_getElem hk)⟩

/-- the field with one of the four kinds -/
def kd (f : Fd) : Fd := { f with k := (k3 f.k : Int) }
theorem kinds_fd (f : Fd) (w : World) :
    Calls Try.prog 10 #[.agg #[.int .i64 f.k, .int .u64 (f.v : Int), .string (bst f.s), .bool f.y, .int .i64 f.m]] w fun e w' => e = .returned (kd f).val ∧ Below w.heap.size w w' :=
  kinds_any _ _ _ _ _ w

/-- all fields' bytes -/
def encs (fs : List Fd) : List UInt8 := fs.flatMap fun f => enc (kd f)
theorem encs_snoc {fs : List Fd} {k : Nat} {f : Fd} (h : fs[k]? = some f) : encs (fs.take (k + 1)) = encs (fs.take k) ++ enc (kd f) := by
  obtain ⟨hk, hf⟩ := List.getElem?_eq_some_iff.1 h
  rw [List.take_succ_eq_append_getElem hk, hf]
  simp [encs]
theorem encs_drop {fs : List Fd} {k : Nat} {f : Fd} (h : fs[k]? = some f) : encs (fs.drop k) = enc (kd f) ++ encs (fs.drop (k + 1)) := by
  obtain ⟨hk, hf⟩ := List.getElem?_eq_some_iff.1 h
  rw [List.drop_eq_getElem_cons hk, hf]
  simp [encs]
theorem encs_len {fs : List Fd} {k : Nat} (h : ∀ i f, i < k → fs[i]? = some f → f.s.length ≤ 200) : (encs (fs.take k)).length ≤ 220 * k := by
  induction k with
  | zero => simp [encs]
  | succ k ih =>
    have h1 := ih fun i f hi hf => h i f (by omega) hf
    by_cases hk : k < fs.length
    · have hf : fs[k]? = some fs[k] := List.getElem?_eq_getElem hk
      rw [encs_snoc hf, List.length_append]
      have h2 := enc_len (kd fs[k])
      have h3 : (kd fs[k]).s.length ≤ 200 := h k fs[k] (by omega) hf
      omega
    · rw [List.take_of_length_le (by omega)] at h1 ⊢
      omega

/-- what is written is taken -/
theorem rnum_vb {v : Nat} (hv : v < 18446744073709551616) (t : List UInt8) : rnum (vbytes v ++ t) = (v, t, 0) := by
  rw [rnum_ok (rdv_vbytes hv t), ← vbytes_length, List.drop_left]
theorem rtext_vb {s : List UInt8} (hs : s.length ≤ 65536) (t : List UInt8) : rtext (vbytes s.length ++ s ++ t) = (s, t, 0) := by
  have h := rnum_vb (v := s.length) (by omega) (s ++ t)
  rw [← List.append_assoc] at h
  unfold rtext
  rw [h]
  rw [if_neg (by simp), if_neg (by simp; omega), if_neg (by simp)]
  simp
theorem rflag_vb (y : Bool) (t : List UInt8) : rflag ([if y then 1 else 0] ++ t) = (y, t, 0) := by
  cases y <;> rfl

theorem take_num_is {r v : Nat} {t : List UInt8} (hv : v < 18446744073709551616) {w : World} (hr : Rd w r (vbytes v ++ t) 0) :
    Calls Try.prog 16 #[.pointer (some ⟨r, 0, none⟩), .int .i64 0, .int .i64 0] w fun e w' =>
      e = .returned (.agg #[.int .i64 0, .int .u64 (v : Int), .string ⟨#[]⟩, .bool false, .int .i64 0]) ∧ Rd w' r t 0 ∧ Only r w w' := by
  have h := take_any r 0 0 (by decide) (by decide) _ w hr
  have e : tk 0 0 (vbytes v ++ t) = (⟨0, v, [], false, 0⟩, t, 0) := by show (_, (rnum (vbytes v ++ t)).2) = _; rw [rnum_vb hv]
  rw [e] at h
  exact h
theorem take_text_is {r : Nat} {s t : List UInt8} (hs : s.length ≤ 65536) {w : World} (hr : Rd w r (vbytes s.length ++ s ++ t) 0) :
    Calls Try.prog 16 #[.pointer (some ⟨r, 0, none⟩), .int .i64 1, .int .i64 0] w fun e w' =>
      e = .returned (.agg #[.int .i64 1, .int .u64 0, .string (bst s), .bool false, .int .i64 0]) ∧ Rd w' r t 0 ∧ Only r w w' := by
  have h := take_any r 1 0 (by decide) (by decide) _ w hr
  have e : tk 1 0 (vbytes s.length ++ s ++ t) = (⟨1, 0, s, false, 0⟩, t, 0) := by show (_, (rtext (vbytes s.length ++ s ++ t)).2) = _; rw [rtext_vb hs]
  rw [e] at h
  exact h
theorem take_flag_is {r : Nat} {y : Bool} {t : List UInt8} {w : World} (hr : Rd w r ([if y then 1 else 0] ++ t) 0) :
    Calls Try.prog 16 #[.pointer (some ⟨r, 0, none⟩), .int .i64 2, .int .i64 0] w fun e w' =>
      e = .returned (.agg #[.int .i64 2, .int .u64 0, .string ⟨#[]⟩, .bool y, .int .i64 0]) ∧ Rd w' r t 0 ∧ Only r w w' := by
  have h := take_any r 2 0 (by decide) (by decide) _ w hr
  have e : tk 2 0 ([if y then 1 else 0] ++ t) = (⟨2, 0, [], y, 0⟩, t, 0) := by show (_, (rflag ([if y then 1 else 0] ++ t)).2) = _; rw [rflag_vb]
  rw [e] at h
  exact h

theorem kinds_is {q : Nat} (f : Fd) (w : World) (hq : k3 f.k = q) :
    Calls Try.prog 10 #[.agg #[.int .i64 f.k, .int .u64 (f.v : Int), .string (bst f.s), .bool f.y, .int .i64 f.m]] w fun e w' =>
      e = .returned (.agg #[.int .i64 (q : Int), .int .u64 (f.v : Int), .string (bst f.s), .bool f.y, .int .i64 f.m]) ∧ Below w.heap.size w w' := by
  subst hq
  exact kinds_any _ _ _ _ _ w
theorem encs_num {fs : List Fd} {j q : Nat} {f : Fd} (h : fs[j]? = some f) (hq : k3 f.k = q) (h0 : q ≠ 1) (h2 : q ≠ 2) : encs (fs.drop j) = vbytes f.v ++ encs (fs.drop (j + 1)) := by
  rw [encs_drop h, enc_num]
  · rfl
  · show (k3 f.k : Int) ≠ 1; omega
  · show (k3 f.k : Int) ≠ 2; omega
theorem encs_text {fs : List Fd} {j : Nat} {f : Fd} (h : fs[j]? = some f) (hq : k3 f.k = 1) : encs (fs.drop j) = vbytes f.s.length ++ f.s ++ encs (fs.drop (j + 1)) := by
  rw [encs_drop h, enc_text]
  · rfl
  · show (k3 f.k : Int) = 1; omega
theorem encs_flag {fs : List Fd} {j : Nat} {f : Fd} (h : fs[j]? = some f) (hq : k3 f.k = 2) : encs (fs.drop j) = [if f.y then 1 else 0] ++ encs (fs.drop (j + 1)) := by
  rw [encs_drop h, enc_flag]
  · rfl
  · show (k3 f.k : Int) = 2; omega
theorem k3_cases (k : Int) : k3 k = 0 ∨ k3 k = 1 ∨ k3 k = 2 ∨ k3 k = 3 := by have := (k3_spec k).2; omega
theorem one_blk {w w2 : World} {r : Nat} {c : Array Value} {t : TypeId} (hr : r < w.heap.size) (h : Only r (w.alloc (.cells c t)) w2) : Blk w2 w.heap.size t c := Blk.grown (Blk.new w _ _) h (fun e => by injection e; omega)

end Go.Proofs.Ytamieogikmnpcaa
