/-
  Entries in memory.
-/
import Derived.Test.YtdhjjjagjkencaaCa
import Derived.Test.YtdhjjjagjkencaaGen
import Derived.Test.YtdhjjjagjkencaaWords
namespace Go.Proofs.Ytdhjjjagjkencaa
open Go Go.RowKit

def eEn : Enc En := ⟨3, fun x => [.int .i64 x.i, .string (bst x.b), .bool x.d], fun _ => rfl, fun x u hu => by simp at hu; rcases hu with rfl | rfl | rfl <;> rfl, by decide⟩
theorem gi_en : GInfo eEn Try.prog 28 32 32 := ⟨Try.underlying28, by
  have h : (Try.prog.info? 32).map (fun i => (i.zero, i.size, i.bytes)) = some (some (.agg #[.int .i64 0, .string ByteArray.empty, .bool false]), 3, 32) := by kernel_rfl
  cases hi : Try.prog.info? 32 with
  | none => rw [hi] at h; cases h
  | some i =>
    rw [hi] at h
    injection h with h
    injection h with h1 h2
    injection h2 with h2 h3
    exact ⟨i, _, rfl, h1, h2, h3, rfl⟩⟩

abbrev EAt (w : World) (B : Nat) (A : Option Addr) (l : List En) : Prop := GAt eEn w B A l
def En.val (x : En) : Value := .agg #[.int .i64 x.i, .string (bst x.b), .bool x.d]
theorem EAt.at {w : World} {B b off i : Nat} {l : List En} {x : En} (h : EAt w B (some ⟨b, off, none⟩) l) (hx : l[i]? = some x) :
    w.cell? ⟨b, off + i * 3, none⟩ = some (.int .i64 x.i) ∧ w.cell? ⟨b, off + i * 3 + 1, none⟩ = some (.string (bst x.b)) ∧ w.cell? ⟨b, off + i * 3 + 2, none⟩ = some (.bool x.d) := by
  obtain ⟨b', off', e, _, hc⟩ := h (by have := (List.getElem?_eq_some_iff.1 hx).1; omega)
  injection e with e
  injection e with e1 e2
  subst e1 e2
  exact ⟨hc i x 0 _ hx rfl, hc i x 1 _ hx rfl, hc i x 2 _ hx rfl⟩
theorem EAt.get {w : World} {B i : Nat} {A : Option Addr} {l : List En} (h : EAt w B A l) (hi : i < l.length) : ∃ b off x, A = some ⟨b, off, none⟩ ∧ b < B ∧ l[i]? = some x ∧
    w.cell? ⟨b, off + i * 3, none⟩ = some (.int .i64 x.i) ∧ w.cell? ⟨b, off + i * 3 + 1, none⟩ = some (.string (bst x.b)) ∧ w.cell? ⟨b, off + i * 3 + 2, none⟩ = some (.bool x.d) := by
  obtain ⟨b, off, x, rfl, hb, hx, _⟩ := GAt.get h hi
  have := EAt.at h hx
  exact ⟨b, off, x, rfl, hb, hx, this⟩
theorem EAt.step {w w' : World} {B : Nat} {A : Option Addr} {l : List En} (h : EAt w B A l) (hB : B ≤ w.heap.size) (hb : Below w.heap.size w w') : EAt w' B A l := GAt.below h (hb.mono hB)

/-- entries handed in: in memory below B, so many, with that capacity -/
structure ES (w : World) (B : Nat) (A : Option Addr) (n c : Nat) (l : List En) : Prop where
  at_ : EAt w B A l
  len : n = l.length
  cap : n ≤ c
  most : n ≤ 549755813888
  low : B ≤ w.heap.size
theorem ES.step {w w' : World} {B n c : Nat} {A : Option Addr} {l : List En} (h : ES w B A n c l) (hb : Below w.heap.size w w') : ES w' B A n c l := ⟨h.at_.step h.low hb, h.len, h.cap, h.most, Nat.le_trans h.low hb.size⟩
theorem ES.below {w w' : World} {B B' n c : Nat} {A : Option Addr} {l : List En} (h : ES w B A n c l) (hb : Below B' w w') (hB : B ≤ B') : ES w' B A n c l := ⟨GAt.below h.at_ (hb.mono hB), h.len, h.cap, h.most, Nat.le_trans h.low hb.size⟩
theorem ES.nil {w : World} {c : Nat} : ES w 0 none 0 c [] := ⟨GAt.nil, rfl, Nat.zero_le _, Nat.zero_le _, Nat.zero_le _⟩
theorem ES.more {w : World} {B B' n c : Nat} {A : Option Addr} {l : List En} (h : ES w B A n c l) (hB : B ≤ B') (hw : B' ≤ w.heap.size) : ES w B' A n c l := ⟨GAt.more h.at_ hB, h.len, h.cap, h.most, hw⟩
theorem ES.row {w : World} {base m c : Nat} {A : Option Addr} {l : List En} (h : GRow eEn 32 w base A m c l) (hl : l.length ≤ 549755813888) : ES w w.heap.size A m c l := ⟨h.at_, h.1, h.cap, by rw [h.1]; exact hl, Nat.le_refl _⟩
/-- a variable that holds an entry -/
abbrev EBlk (w : World) (g : Nat) (x : En) : Prop := Blk w g 32 #[.int .i64 x.i, .string (bst x.b), .bool x.d]

end Go.Proofs.Ytdhjjjagjkencaa
