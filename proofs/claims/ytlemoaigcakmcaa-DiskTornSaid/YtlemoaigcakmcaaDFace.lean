/-
  What is to be shown of each function of package disk, so that the laws' walks stand: no proof here, the walks take it as a premise.
-/
import Derived.Test.YtlemoaigcakmcaaDk
import Derived.Test.YtlemoaigcakmcaaWords
namespace Go.Proofs.Ytlemoaigcakmcaa
open Go Go.RowKit

/-- survivors in memory -/
def SvAt (w : World) (B : Nat) (A : Option Addr) (l : List (Int × Int)) : Prop :=
  0 < l.length → ∃ b off, A = some ⟨b, off, none⟩ ∧ b < B ∧ ∀ i s, l[i]? = some s → w.cell? ⟨b, off + i * 2, none⟩ = some (.int .i64 s.1) ∧ w.cell? ⟨b, off + i * 2 + 1, none⟩ = some (.int .i64 s.2)
/-- in world w the disk that lies at block d is s: M are the blocks that its calls may turn, R those that they only read -/
abbrev DiskAt := World → Nat → (Nat → Prop) → (Nat → Prop) → Dk → Prop
/-- a block that is none of M -/
def Off (M : Nat → Prop) (A : Option Addr) : Prop := ∀ b off, A = some ⟨b, off, none⟩ → ¬ M b
/-- what a call on a disk leaves as it was: all but the disk's own blocks and new ones -/
structure Turns (M R : Nat → Prop) (w : World) (M' R' : Nat → Prop) (w' : World) : Prop where
  os : w'.os = w.os
  tape : w'.tape = w.tape
  output : w'.output = w.output
  size : w.heap.size ≤ w'.heap.size
  block : ∀ k, k < w.heap.size → ¬ M k → w'.heap[k]? = w.heap[k]?
  own : ∀ k, M' k → M k ∨ w.heap.size ≤ k
  held : ∀ k, R' k → R k ∨ w.heap.size ≤ k
theorem Turns.below {M R M' R' : Nat → Prop} {w w' : World} {B : Nat} (h : Turns M R w M' R' w') (hB : B ≤ w.heap.size) (hM : ∀ k, M k → B ≤ k) : Below B w w' :=
  ⟨h.os, h.tape, h.output, h.size, fun k hk => h.block k (by omega) (fun hm => by have := hM k hm; omega)⟩

structure Face (DA : DiskAt) : Prop where
  lt : ∀ {w d M R s}, DA w d M R s → ∀ k, M k ∨ R k → k < w.heap.size
  keep : ∀ {w w' : World} {d M R s}, DA w d M R s → w.heap.size ≤ w'.heap.size → (∀ k, M k ∨ R k → w'.heap[k]? = w.heap[k]?) → DA w' d M R s
  newYes : ∀ {n : Nat} {w : World}, 1 ≤ n → n ≤ 65536 → Calls Try.prog 6 #[.int .i64 (n : Int)] w fun e w' =>
    ∃ d M R, e = .returned (.tuple #[.pointer (some ⟨d, 0, none⟩), .int .i64 0]) ∧ DA w' d M R (Dk.new n) ∧ (∀ k, M k ∨ R k → w.heap.size ≤ k) ∧ Below w.heap.size w w'
  newNo : ∀ {n : Int} {w : World}, n < 1 ∨ 65536 < n → Calls Try.prog 6 #[.int .i64 n] w fun e w' => e = .returned (.tuple #[.pointer none, .int .i64 60]) ∧ Below w.heap.size w w'
  write : ∀ {w d M R s} {i : Int} {A : Option Addr} {n c B : Nat} {b : List UInt8}, DA w d M R s → At w B A b → n = b.length → B ≤ w.heap.size → Off M A → b.length ≤ 70368744177664 → s.pend.length ≤ 1000000 →
    Calls Try.prog 16 #[.pointer (some ⟨d, 0, none⟩), .int .i64 i, .slice A n c] w fun e w' =>
      e = .returned (.int .i64 (s.why i b : Int)) ∧ ∃ M' R', DA w' d M' R' (s.write i b) ∧ Turns M R w M' R' w'
  read : ∀ {w d M R s} {i : Int}, DA w d M R s → Calls Try.prog 11 #[.pointer (some ⟨d, 0, none⟩), .int .i64 i] w fun e w' =>
      (match s.view i with
        | some b => ∃ A n c, e = .returned (.tuple #[.slice A n c, .int .i64 0]) ∧ At w' w'.heap.size A b ∧ n = b.length ∧ n ≤ c
        | none => e = .returned (.tuple #[.slice none 0 0, .int .i64 61])) ∧ Below w.heap.size w w'
  free : ∀ {w d M R s} {i : Int}, DA w d M R s → s.pend.length ≤ 1000000 → Calls Try.prog 17 #[.pointer (some ⟨d, 0, none⟩), .int .i64 i] w fun e w' =>
      e = .returned (.int .i64 (s.fwhy i : Int)) ∧ ∃ M' R', DA w' d M' R' (s.free i) ∧ Turns M R w M' R' w'
  sync : ∀ {w d M R s}, DA w d M R s → Calls Try.prog 10 #[.pointer (some ⟨d, 0, none⟩)] w fun e w' =>
      e = .returned (.tuple #[]) ∧ ∃ M' R', DA w' d M' R' s.sync ∧ Turns M R w M' R' w'
  crash : ∀ {w d M R s} {A : Option Addr} {n c B : Nat} {l : List (Int × Int)}, DA w d M R s → SvAt w B A l → n = l.length → B ≤ w.heap.size → Off M A → n ≤ 70368744177664 →
    Calls Try.prog 12 #[.pointer (some ⟨d, 0, none⟩), .slice A n c] w fun e w' =>
      e = .returned (.tuple #[]) ∧ ∃ M' R', DA w' d M' R' (s.crash l) ∧ Turns M R w M' R' w'
  used : ∀ {w d M R s}, DA w d M R s → Calls Try.prog 15 #[.pointer (some ⟨d, 0, none⟩)] w fun e w' => e = .returned (.int .i64 (s.used : Int)) ∧ Below w.heap.size w w'
  limit : ∀ {w d M R s} {n : Int}, DA w d M R s → Calls Try.prog 18 #[.pointer (some ⟨d, 0, none⟩), .int .i64 n] w fun e w' =>
      e = .returned (.tuple #[]) ∧ ∃ M' R', DA w' d M' R' (s.lim n) ∧ Turns M R w M' R' w'
  pending : ∀ {w d M R s}, DA w d M R s → Calls Try.prog 13 #[.pointer (some ⟨d, 0, none⟩)] w fun e w' => e = .returned (.int .i64 (s.pend.length : Int)) ∧ Below w.heap.size w w'
  copy : ∀ {w d M R s}, DA w d M R s → s.pend.length ≤ 1000000 → Calls Try.prog 14 #[.pointer (some ⟨d, 0, none⟩)] w fun e w' =>
      ∃ d2 M2 R2, e = .returned (.pointer (some ⟨d2, 0, none⟩)) ∧ DA w' d2 M2 R2 s ∧ (∀ k, M2 k → w.heap.size ≤ k) ∧ (∀ k, R2 k → ¬ M k) ∧ Below w.heap.size w w'

theorem Face.step {DA : DiskAt} (hF : Face DA) {w w' : World} {d M R s} (h : DA w d M R s) (hb : Below w.heap.size w w') : DA w' d M R s :=
  hF.keep h hb.size fun k hk => hb.block k (hF.lt h k hk)
/-- a disk beside another one whose call has turned its own blocks -/
theorem Face.beside {DA : DiskAt} (hF : Face DA) {w w' : World} {d M R s} {M1 R1 M1' R1' : Nat → Prop} (h : DA w d M R s) (ht : Turns M1 R1 w M1' R1' w') (h1 : ∀ k, M k → ¬ M1 k) (h2 : ∀ k, R k → ¬ M1 k) : DA w' d M R s :=
  hF.keep h ht.size fun k hk => ht.block k (hF.lt h k hk) (hk.elim (h1 k) (h2 k))

end Go.Proofs.Ytlemoaigcakmcaa
