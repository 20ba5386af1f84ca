/-
  The landed cache beside the document's list.
-/
import Derived.Test.YtdhjjjagjkencaaCaCo
import Derived.Test.YtdhjjjagjkencaaRefCaE
import Derived.Test.YtdhjjjagjkencaaRefCaD
namespace Go.Proofs.Ytdhjjjagjkencaa
open Go Go.RowKit

/-- an act -/
structure Ac where
  k : Int
  i : Int
  m : Int
  b : List UInt8
  d : Bool
def eAct : Enc Ac := ⟨5, fun x => [.int .i64 x.k, .int .i64 x.i, .int .i64 x.m, .string (bst x.b), .bool x.d], fun _ => rfl, fun x u hu => by simp at hu; rcases hu with rfl | rfl | rfl | rfl | rfl <;> rfl, by decide⟩
abbrev XBlk (w : World) (g : Nat) (x : Ac) : Prop := Blk w g 30 #[.int .i64 x.k, .int .i64 x.i, .int .i64 x.m, .string (bst x.b), .bool x.d]
theorem act_get {w : World} {B i : Nat} {A : Option Addr} {l : List Ac} (h : GAt eAct w B A l) (hi : i < l.length) : ∃ b off x, A = some ⟨b, off, none⟩ ∧ b < B ∧ l[i]? = some x ∧ w.cell? ⟨b, off + i * 5, none⟩ = some (.int .i64 x.k) ∧ w.cell? ⟨b, off + i * 5 + 1, none⟩ = some (.int .i64 x.i) ∧
    w.cell? ⟨b, off + i * 5 + 2, none⟩ = some (.int .i64 x.m) ∧ w.cell? ⟨b, off + i * 5 + 3, none⟩ = some (.string (bst x.b)) ∧ w.cell? ⟨b, off + i * 5 + 4, none⟩ = some (.bool x.d) := by
  obtain ⟨b, off, x, rfl, hb, hx, hc⟩ := GAt.get h hi
  exact ⟨b, off, x, rfl, hb, hx, hc 0 _ rfl, hc 1 _ rfl, hc 2 _ rfl, hc 3 _ rfl, hc 4 _ rfl⟩

/-- a cache on blocks of S, and a list that lies elsewhere: they hold the same -/
structure PS (w0 w : World) (S : Nat → Prop) (cb R : Nat) (A : Option Addr) (n c : Nat) (l : List En) : Prop where
  ca : CA S w cb R l
  own : ∀ k, S k → w0.heap.size ≤ k
  es : ES w w.heap.size A n c l
  off : In (fun k => ¬ S k) A l
  below : Below w0.heap.size w0 w
  few : l.length ≤ R
section
variable {w0 w w' : World} {S : Nat → Prop} {cb R n c : Nat} {A : Option Addr} {l : List En}
theorem PS.step (h : PS w0 w S cb R A n c l) (hb : Below w.heap.size w w') : PS w0 w' S cb R A n c l :=
  ⟨h.ca.step hb, h.own, (h.es.below hb (Nat.le_refl _)).more hb.size (Nat.le_refl _), h.off, below_step h.below hb, h.few⟩
theorem PS.set (h : PS w0 w S cb R A n c l) {g i : Nat} (hg : w0.heap.size ≤ g) (hS : ¬ S g) (hA : In (fun k => k ≠ g) A l) (u : Value) : PS w0 (w.setCell ⟨g, i, none⟩ u) S cb R A n c l := by
  have hs : (w.setCell ⟨g, i, none⟩ u).heap.size = w.heap.size := by simp [World.setCell]
  refine ⟨h.ca.keep (fun k hk => Below.heap_setCell w _ u k (fun e => hS (by have e2 : k = g := e; rw [← e2]; exact hk))) (Nat.le_of_eq hs.symm), h.own, ⟨?_, h.es.len, h.es.cap, h.es.most, Nat.le_refl _⟩, h.off, h.below.setCell (p := ⟨g, i, none⟩) hg u, h.few⟩
  exact GAt.kept (P := fun k => k ≠ g) h.es.at_ hA (Nat.le_of_eq hs.symm) (fun k hk => Below.heap_setCell w _ u k hk)
/-- the document's call, then the cache's: what its list is behind both -/
theorem PS.doc {A' : Option Addr} {n' c' : Nat} {l' : List En} (h : PS w0 w S cb R A n c l) (hb : Below w.heap.size w w') (he : ES w' w'.heap.size A' n' c' l') (hi : In (fun k => ¬ S k) A' l') :
    CA S w' cb R l ∧ (∀ k, S k → w0.heap.size ≤ k) ∧ ES w' w'.heap.size A' n' c' l' ∧ In (fun k => ¬ S k) A' l' ∧ Below w0.heap.size w0 w' := ⟨h.ca.step hb, h.own, he, hi, below_step h.below hb⟩
theorem es_off {S : Nat → Prop} (h : ES w w.heap.size A n c l) (hi : In (fun k => ¬ S k) A l) (hw : Within S w w') : ES w' w'.heap.size A n c l := ⟨gat_off h.at_ hi hw, h.len, h.cap, h.most, Nat.le_refl _⟩
end
def goV (R : Nat) (O : List En) : En := (O[R]?).getD ⟨0, [], false⟩
theorem putGot_uni {B0 R : Nat} {O : List En} {e : Ending} {w' : World} (h : PutGot B0 R O e w') : ∃ A' m' c', e = .returned (.tuple #[.slice A' m' c', (goV R O).val, .bool (O[R]?).isSome]) ∧ ES w' w'.heap.size A' m' c' (O.take R) ∧ In (fun k => B0 ≤ k) A' (O.take R) := by
  unfold PutGot at h
  unfold goV
  cases ho : O[R]? with
  | none =>
    rw [ho] at h
    obtain ⟨A', m', c', h1, h2, h3⟩ := h
    have ht : O.take R = O := List.take_of_length_le (List.getElem?_eq_none_iff.1 ho)
    exact ⟨A', m', c', h1, by rw [ht]; exact h2, by rw [ht]; exact h3⟩
  | some y => rw [ho] at h; exact h
theorem putA_uni {R : Nat} {O : List En} {e : Ending} (h : PutA R O e) : e = .returned (.tuple #[(goV R O).val, .bool (O[R]?).isSome]) := by
  unfold PutA at h
  unfold goV
  cases ho : O[R]? with
  | none => rw [ho] at h; exact h
  | some y => rw [ho] at h; exact h
def geB (k : Int) (l : List En) : List UInt8 := ((l[posE k l]?).map (·.b)).getD []
def geI (k : Int) (l : List En) : Int := if (l[posE k l]?).isSome then 0 else 111
theorem gotA_uni {k : Int} {l : List En} {e : Ending} (h : GotA k l e) : e = .returned (.tuple #[.string (bst (geB k l)), .int .i64 (geI k l)]) := by
  unfold GotA at h
  unfold geB geI
  cases ho : l[posE k l]? with
  | none => rw [ho] at h; exact h
  | some x => rw [ho] at h; exact h
theorem gotE_uni {S : Nat → Prop} {w w' : World} {k : Int} {A : Option Addr} {n c : Nat} {l : List En} {e : Ending} (h : GotE w.heap.size k A n c l e w') (hb : Below w.heap.size w w') (he : ES w w.heap.size A n c l) (hi : In (fun k => ¬ S k) A l) (hlow : ∀ k, S k → k < w.heap.size) :
    ∃ A' m' c', e = .returned (.tuple #[.slice A' m' c', .string (bst (geB k l)), .int .i64 (geI k l)]) ∧ ES w' w'.heap.size A' m' c' (getE k l) ∧ In (fun k => ¬ S k) A' (getE k l) := by
  unfold GotE at h
  unfold geB geI getE
  cases ho : l[posE k l]? with
  | none =>
    rw [ho] at h
    exact ⟨A, n, c, h, (he.below hb (Nat.le_refl _)).more hb.size (Nat.le_refl _), hi⟩
  | some x =>
    rw [ho] at h
    obtain ⟨A', m', c', h1, h2, h3⟩ := h
    exact ⟨A', m', c', h1, h2, In.weak h3 (fun k hk hs => by have := hlow k hs; omega)⟩

end Go.Proofs.Ytdhjjjagjkencaa
