/-
  The landed cache as the laws use it: on blocks of the call's own.
-/
import Derived.Test.YtdhjjjagjkencaaCaPut
import Derived.Test.YtdhjjjagjkencaaCaList
import Derived.Test.YtdhjjjagjkencaaCaDirty
import Derived.Test.YtdhjjjagjkencaaCaDrop
namespace Go.Proofs.Ytdhjjjagjkencaa
open Go Go.RowKit

theorem eql_en (x y : En) (W : World) : (binOp .eql 32 (.agg #[.int .i64 x.i, .string (bst x.b), .bool x.d]) (.agg #[.int .i64 y.i, .string (bst y.b), .bool y.d])).run Try.prog W = .ok (.bool (decide (x = y))) W := by
  have e : decide (x = y) = (x.i == y.i && x.b == y.b && x.d == y.d) := by
    rw [Bool.eq_iff_iff]
    obtain ⟨k, v, d⟩ := x
    obtain ⟨k', v', d'⟩ := y
    simp [and_assoc]
  rw [e]
  have h1 := bst_toList x.b
  have h3 := bst_toList y.b
  cases e1 : x.i == y.i <;> cases e2 : x.b == y.b <;> cases e3 : x.d == y.d <;> go_simp
theorem len_ca {S : Nat → Prop} {w : World} {cb room : Nat} {l : List En} (h : CA S w cb room l) :
    Calls Try.prog 19 #[(.pointer (some ⟨cb, 0, none⟩))] w fun e w' => e = .returned (.int .i64 (l.length : Int)) ∧ w' = w := by
  obtain ⟨mb, eb, ps, vl, pv, nx, m, hc, hll, _⟩ := h.out
  have := len_any hc
  rw [hll, List.length_map]
  exact this
theorem putA_no {R : Nat} {O : List En} {e : Ending} (h : PutA R O e) (ho : O[R]? = none) : e = .returned (.tuple #[.agg #[.int .i64 0, .string ⟨#[]⟩, .bool false], .bool false]) := by
  unfold PutA at h; rw [ho] at h; exact h
theorem putA_yes {R : Nat} {O : List En} {e : Ending} {y : En} (h : PutA R O e) (ho : O[R]? = some y) : e = .returned (.tuple #[y.val, .bool true]) := by
  unfold PutA at h; rw [ho] at h; exact h
theorem CA.within {S M : Nat → Prop} {w w' : World} {cb room : Nat} {l : List En} (h : CA S w cb room l) (hw : Within M w w') (hn : ∀ k, S k → ¬ M k) : CA S w' cb room l := h.keep (fun k hk => hw.block k (h.low k hk) (hn k hk)) hw.size

/-- a cache whose blocks are the call's own -/
def CO (base : Nat) (w : World) (cb R : Nat) (l : List En) : Prop := ∃ S, CA S w cb R l ∧ ∀ k, S k → base ≤ k
section
variable {base : Nat} {w w' : World} {cb R : Nat} {l : List En}
theorem CO.step (h : CO base w cb R l) (hb : Below w.heap.size w w') : CO base w' cb R l := by
  obtain ⟨S, h1, h2⟩ := h
  exact ⟨S, h1.step hb, h2⟩
theorem CO.drew (h : CO base w cb R l) : CO base w.drew cb R l := h.step ((Below.refl _ _).drew)
theorem co_new (r : Int) (hB : base ≤ w.heap.size) (hr : ¬ (r < 1 ∨ 1024 < r)) : Calls Try.prog 7 #[.int .i64 r] w fun e w' => ∃ cb, e = .returned (.tuple #[.pointer (some ⟨cb, 0, none⟩), .int .i64 0]) ∧ CO base w' cb r.toNat [] ∧ Below base w w' := (new_any r w).mono fun e w' h => by
  unfold NewA at h
  rw [if_neg hr] at h
  obtain ⟨cb, h1, h2, h3⟩ := h
  exact ⟨cb, h1, ⟨_, h2, fun k hk => Nat.le_trans hB hk.1⟩, h3.mono hB⟩
theorem co_put (k : Int) (b : List UInt8) (d : Bool) (h : CO base w cb R l) (hB : base ≤ w.heap.size) (hl : l.length ≤ R) :
    Calls Try.prog 10 #[.pointer (some ⟨cb, 0, none⟩), .int .i64 k, .string (bst b), .bool d] w fun e w' => PutA R (inE k b d l) e ∧ CO base w' cb R (putE R k b d l) ∧ Below base w w' := by
  obtain ⟨S, h1, h2⟩ := h
  exact (put_any k b d h1 hl).mono fun e w' ⟨q1, q2, q3⟩ => ⟨q1, ⟨_, q2, fun c hc => hc.elim (h2 c) (fun x => Nat.le_trans hB x.1)⟩, q3.below h2 hB⟩
theorem co_get (k : Int) (h : CO base w cb R l) (hB : base ≤ w.heap.size) :
    Calls Try.prog 12 #[.pointer (some ⟨cb, 0, none⟩), .int .i64 k] w fun e w' => GotA k l e ∧ CO base w' cb R (getE k l) ∧ Below base w w' := by
  obtain ⟨S, h1, h2⟩ := h
  exact (get_any k h1).mono fun e w' ⟨q1, q2, q3⟩ => ⟨q1, ⟨S, q2, h2⟩, q3.below h2 hB⟩
theorem co_drop {n c : Nat} {A : Option Addr} {ks : List Int} (h : CO base w cb R l) (hB : base ≤ w.heap.size) (hl : l.length ≤ 1000000) (hK : GAt eI64 w w.heap.size A ks) (hn : n = ks.length) (hm : n ≤ 1000000) (hoff : ∀ S, CA S w cb R l → (∀ k, S k → base ≤ k) → In (fun k => ¬ S k) A ks) :
    Calls Try.prog 14 #[.pointer (some ⟨cb, 0, none⟩), .slice A n c] w fun e w' => e = .returned (.int .i64 (dropN ks l : Int)) ∧ CO base w' cb R (dropE ks l) ∧ Below base w w' := by
  obtain ⟨S, h1, h2⟩ := h
  exact (drop_any h1 hl hK hn hm (hoff S h1 h2)).mono fun e w' ⟨q1, q2, q3⟩ => ⟨q1, ⟨S, q2, h2⟩, q3.below h2 hB⟩
theorem co_dirty (h : CO base w cb R l) (hB : base ≤ w.heap.size) (hl : l.length ≤ 100000) :
    Calls Try.prog 17 #[.pointer (some ⟨cb, 0, none⟩)] w fun e w' => ∃ A m c, e = .returned (.slice A m c) ∧ ES w' w'.heap.size A m c (dirtyE [] l) ∧ CO base w' cb R (cleanE l) ∧ Below base w w' := by
  obtain ⟨S, h1, h2⟩ := h
  exact (dirty_any h1 hl).mono fun e w' ⟨A, m, c, q1, q2, q3, q4⟩ => ⟨A, m, c, q1, q2, ⟨S, q3, h2⟩, q4.below h2 hB⟩
theorem co_list (h : CO base w cb R l) (hl : l.length ≤ 100000) :
    Calls Try.prog 18 #[.pointer (some ⟨cb, 0, none⟩)] w fun e w' => ∃ A m c, e = .returned (.slice A m c) ∧ ES w' w'.heap.size A m c l ∧ Below w.heap.size w w' := by
  obtain ⟨S, h1, h2⟩ := h
  exact (list_any h1 hl).mono fun e w' ⟨A, m, c, q1, q2, q3⟩ => ⟨A, m, c, q1, ES.row q2 (Nat.le_trans hl (by decide)), q3⟩
theorem co_len (h : CO base w cb R l) : Calls Try.prog 19 #[.pointer (some ⟨cb, 0, none⟩)] w fun e w' => e = .returned (.int .i64 (l.length : Int)) ∧ w' = w := by
  obtain ⟨S, h1, h2⟩ := h
  exact len_ca h1
end
theorem putE_len {R : Nat} {k : Int} {b : List UInt8} {d : Bool} {l : List En} : (putE R k b d l).length ≤ R := by
  unfold putE; exact List.length_take_le _ _
theorem getE_len {k : Int} {l : List En} : (getE k l).length = l.length := by
  unfold getE
  cases h : l[posE k l]? with
  | none => rfl
  | some x => show (outE (posE k l) l).length + 1 = _; exact outE_len (List.getElem?_eq_some_iff.1 h).1
theorem cleanE_len {l : List En} : (cleanE l).length = l.length := by unfold cleanE; simp

end Go.Proofs.Ytdhjjjagjkencaa
