/-
  What is to be shown of each function of package batch, so that the laws' walks stand: no proof here, the walks take it as a premise.
-/
import Derived.Test.YtcdjbacljnofiaaRefBGet
import Derived.Test.YtcdjbacljnofiaaSort
import Derived.Test.YtcdjbacljnofiaaFew
import Derived.Test.YtcdjbacljnofiaaBSame
import Derived.Test.YtcdjbacljnofiaaExample
namespace Go.Proofs.Ytcdjbacljnofiaa
open Go Go.RowKit

/-- a batch in memory, not too great -/
structure BAt (w : World) (B : Nat) (A : Option Addr) (n cap : Nat) (ws : List Wt) : Prop where
  at_ : WAt w B A ws
  len : n = ws.length
  cap : n ≤ cap
  few : isFew ws = true
  below : B ≤ w.heap.size
theorem BAt.step {w w' : World} {B n cap : Nat} {A : Option Addr} {ws : List Wt} (h : BAt w B A n cap ws) (hb : Below w.heap.size w w') : BAt w' B A n cap ws :=
  ⟨h.at_.step h.below hb, h.len, h.cap, h.few, Nat.le_trans h.below hb.size⟩
theorem BAt.row {w : World} {base n cap : Nat} {A : Option Addr} {ws : List Wt} (h : WRow w base A n cap ws) (hf : isFew ws = true) : BAt w w.heap.size A n cap ws := ⟨h.at_, h.1, h.cap, hf, Nat.le_refl _⟩
theorem BAt.small {w : World} {B n cap : Nat} {A : Option Addr} {ws : List Wt} (h : BAt w B A n cap ws) : n ≤ 80 := by
  have := h.few
  unfold isFew at this
  simp only [Bool.and_eq_true, decide_eq_true_eq] at this
  rw [h.len]; exact this.1
theorem few_mem {ws : List Wt} (h : isFew ws = true) {x : Wt} (hx : x ∈ ws) : x.k.length ≤ 5000 ∧ x.v.length ≤ 5000 := by
  unfold isFew at h
  simp only [Bool.and_eq_true, decide_eq_true_eq, List.all_eq_true] at h
  exact h.2 x hx
theorem few_of {ws : List Wt} (h : ws.length ≤ 80) (hx : ∀ x ∈ ws, x.k.length ≤ 5000 ∧ x.v.length ≤ 5000) : isFew ws = true := by
  unfold isFew
  simp only [Bool.and_eq_true, decide_eq_true_eq, List.all_eq_true]
  exact ⟨h, hx⟩
theorem few_chk {ws : List Wt} (h : chk ws = 0) : isFew ws = true := by
  obtain ⟨_, h1, h2⟩ := chk_ok h
  exact few_of (by omega) fun x hx => by have := h2 x hx; omega
theorem few_sort {ws : List Wt} (h : isFew ws = true) : isFew (sortW ws) = true := by
  have hl : (sortW ws).length = ws.length := by
    have : ∀ (l acc : List Wt), (l.foldl ins acc).length = acc.length + l.length := by
      intro l
      induction l with
      | nil => intro acc; simp
      | cons x l ih => intro acc; rw [List.foldl_cons, ih, ins_length, List.length_cons]; omega
    have := this ws []
    simpa [sortW] using this
  unfold isFew at h
  simp only [Bool.and_eq_true, decide_eq_true_eq, List.all_eq_true] at h
  exact few_of (by rw [hl]; exact h.1) fun x hx => h.2 x ((sortW_stb ws).mem hx)

/-- what is to be shown of the landed code -/
structure Face : Prop where
  check : ∀ {c r s : Int} {A : Option Addr} {n cap B : Nat} {ws : List Wt} {w : World}, BAt w B A n cap ws →
    Calls Try.prog 12 #[.agg #[.int .u64 c, .int .u64 r, .int .u64 s, .slice A n cap]] w fun e w' => e = .returned (.int .i64 (chk ws : Int)) ∧ Below w.heap.size w w'
  sorted : ∀ {c r s : Int} {A : Option Addr} {n cap B : Nat} {ws : List Wt} {w : World}, BAt w B A n cap ws →
    Calls Try.prog 15 #[.agg #[.int .u64 c, .int .u64 r, .int .u64 s, .slice A n cap]] w fun e w' =>
      ∃ A' m' c', e = .returned (.agg #[.int .u64 c, .int .u64 r, .int .u64 s, .slice A' m' c']) ∧ WRow w' w.heap.size A' m' c' (sortW ws) ∧ Below w.heap.size w w'
  putNo : ∀ {c r s : Nat} {C : Nat} {A : Option Addr} {n cap B : Nat} {ws : List Wt} {w : World}, chk ws = C → C ≠ 0 → BAt w B A n cap ws →
    Calls Try.prog 17 #[.agg #[.int .u64 (c : Int), .int .u64 (r : Int), .int .u64 (s : Int), .slice A n cap]] w fun e w' => e = .returned (.tuple #[.slice none 0 0, .int .i64 (C : Int)]) ∧ Below w.heap.size w w'
  putYes : ∀ {c r s : Nat} {A : Option Addr} {n cap B : Nat} {ws : List Wt} {w : World}, chk ws = 0 → BAt w B A n cap ws → c < 18446744073709551616 → r < 18446744073709551616 → s < 18446744073709551616 →
    Calls Try.prog 17 #[.agg #[.int .u64 (c : Int), .int .u64 (r : Int), .int .u64 (s : Int), .slice A n cap]] w fun e w' =>
      ∃ A' m' c', e = .returned (.tuple #[.slice A' m' c', .int .i64 0]) ∧ Row w' w.heap.size 5 A' m' c' (benc ⟨c, r, s, ws⟩) ∧ Below w.heap.size w w'
  get : ∀ {A : Option Addr} {m c B : Nat} {l : List UInt8} {w : World}, At w B A l → m = l.length → m ≤ c → B ≤ w.heap.size → l.length ≤ 5000 →
    Calls Try.prog 19 #[.slice A m c] w (GotB w (bget l))
  meets : ∀ {c r s c' r' s' : Int} {A A' : Option Addr} {n n' cap cap' B B' : Nat} {ws ws' : List Wt} {w : World}, BAt w B A n cap ws → BAt w B' A' n' cap' ws' →
    Calls Try.prog 21 #[.agg #[.int .u64 c, .int .u64 r, .int .u64 s, .slice A n cap], .agg #[.int .u64 c', .int .u64 r', .int .u64 s', .slice A' n' cap']] w fun e w' =>
      e = .returned (.bool (meets ws ws')) ∧ Below w.heap.size w w'
  find : ∀ {c r s : Int} {A : Option Addr} {n cap B : Nat} {ws : List Wt} {w : World} (k : List UInt8), BAt w B A n cap ws →
    Calls Try.prog 24 #[.agg #[.int .u64 c, .int .u64 r, .int .u64 s, .slice A n cap], .string (bst k)] w fun e w' => e = .returned (findV (findW ws k)) ∧ Below w.heap.size w w'
  same : ∀ {c r s c' r' s' : Int} {A A' : Option Addr} {n n' cap cap' B B' : Nat} {ws ws' : List Wt} {w : World}, BAt w B A n cap ws → BAt w B' A' n' cap' ws' →
    Calls Try.prog 23 #[.agg #[.int .u64 c, .int .u64 r, .int .u64 s, .slice A n cap], .agg #[.int .u64 c', .int .u64 r', .int .u64 s', .slice A' n' cap']] w fun e w' =>
      e = .returned (.bool (decide (c = c' ∧ r = r' ∧ s = s' ∧ ws = ws'))) ∧ Below w.heap.size w w'

/-- the document's Same and Meets of two batches, wherever they lie -/
theorem rSame {c r s c' r' s' : Int} {A A' : Option Addr} {n n' cap cap' B B' : Nat} {ws ws' : List Wt} {w : World} (h : BAt w B A n cap ws) (h' : BAt w B' A' n' cap' ws') :
    Calls Try.prog 14 #[.agg #[.int .u64 c, .int .u64 r, .int .u64 s, .slice A n cap], .agg #[.int .u64 c', .int .u64 r', .int .u64 s', .slice A' n' cap']] w fun e w' =>
      e = .returned (.bool (decide (c = c' ∧ r = r' ∧ s = s' ∧ ws = ws'))) ∧ Below w.heap.size w w' :=
  refSame_any (h.at_.more h.below) (h'.at_.more h'.below) h.len h'.len (Nat.le_refl _) (by have := h.small; omega) (by have := h'.small; omega)
theorem rMeets {c r s c' r' s' : Int} {A A' : Option Addr} {n n' cap cap' B B' : Nat} {ws ws' : List Wt} {w : World} (h : BAt w B A n cap ws) (h' : BAt w B' A' n' cap' ws') :
    Calls Try.prog 22 #[.agg #[.int .u64 c, .int .u64 r, .int .u64 s, .slice A n cap], .agg #[.int .u64 c', .int .u64 r', .int .u64 s', .slice A' n' cap']] w fun e w' =>
      e = .returned (.bool (Go.Proofs.Ytcdjbacljnofiaa.meets ws ws')) ∧ Below w.heap.size w w' :=
  refMeets_any (h.at_.more h.below) (h'.at_.more h'.below) h.len h'.len (Nat.le_refl _) (by have := h.small; omega) (by have := h'.small; omega)

theorem rSame_yes {c r s : Int} {A A' : Option Addr} {n n' cap cap' B B' : Nat} {ws : List Wt} {w : World} (h : BAt w B A n cap ws) (h' : BAt w B' A' n' cap' ws) :
    Calls Try.prog 14 #[.agg #[.int .u64 c, .int .u64 r, .int .u64 s, .slice A n cap], .agg #[.int .u64 c, .int .u64 r, .int .u64 s, .slice A' n' cap']] w fun e w' =>
      e = .returned (.bool true) ∧ Below w.heap.size w w' := by
  have := rSame (c := c) (r := r) (s := s) (c' := c) (r' := r) (s' := s) h h'
  rwa [decide_eq_true ⟨rfl, rfl, rfl, rfl⟩] at this
theorem Face.same_yes (hF : Face) {c r s : Int} {A A' : Option Addr} {n n' cap cap' B B' : Nat} {ws : List Wt} {w : World} (h : BAt w B A n cap ws) (h' : BAt w B' A' n' cap' ws) :
    Calls Try.prog 23 #[.agg #[.int .u64 c, .int .u64 r, .int .u64 s, .slice A n cap], .agg #[.int .u64 c, .int .u64 r, .int .u64 s, .slice A' n' cap']] w fun e w' =>
      e = .returned (.bool true) ∧ Below w.heap.size w w' := by
  have := hF.same (c := c) (r := r) (s := s) (c' := c) (r' := r) (s' := s) h h'
  rwa [decide_eq_true ⟨rfl, rfl, rfl, rfl⟩] at this

end Go.Proofs.Ytcdjbacljnofiaa
