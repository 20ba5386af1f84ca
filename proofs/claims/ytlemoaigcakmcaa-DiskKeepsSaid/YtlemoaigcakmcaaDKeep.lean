/-
  What a crash leaves of sectors that nothing has touched: plain; and rows of the law's own beside a disk.
-/
import Derived.Test.YtlemoaigcakmcaaDInv
import Derived.Deep.OwnRows
namespace Go.Proofs.Ytlemoaigcakmcaa
open Go Go.RowKit

/-- no sector lies below 0 -/
structure Pos (s : Dk) : Prop where
  view : ∀ i : Int, i < 0 → s.view i = none
  ground : ∀ i : Int, i < 0 → s.ground i = none
  pend : ∀ o ∈ s.pend, 0 ≤ o.i
theorem new_pos (n : Nat) : Pos (Dk.new n) := ⟨fun _ _ => rfl, fun _ _ => rfl, fun _ h => by simp [Dk.new] at h⟩
theorem upd_neg {m : Secs} {i : Int} {v : Option (List UInt8)} (hm : ∀ i : Int, i < 0 → m i = none) (hi : 0 ≤ i) : ∀ j : Int, j < 0 → upd m i v j = none := fun j hj => by
  rw [upd_other _ _ (by omega)]; exact hm j hj
theorem crashG_neg : ∀ (os : List POp) (l : List (Int × Int)) (i : Nat) (g : Secs), (∀ i : Int, i < 0 → g i = none) → (∀ o ∈ os, 0 ≤ o.i) → ∀ j : Int, j < 0 → crashG l i g os j = none
  | [], _, _, _, hg, _ => hg
  | o :: os, l, i, g, hg, ho => by
    unfold crashG
    refine crashG_neg os l (i + 1) _ ?_ (fun o' h' => ho o' (by simp [h']))
    cases survive l i with
    | none => exact hg
    | some n => exact upd_neg hg (ho o (by simp))
theorem why_pos {s : Dk} {i : Int} {b : List UInt8} (h : s.why i b = 0) : 0 ≤ i := by
  unfold Dk.why at h
  split at h
  · cases h
  · omega
theorem doS_pos {s : Dk} (h : Pos s) (x : Act6) : Pos (doS s x) := by
  unfold doS
  split
  · unfold Dk.write
    split
    · rename_i hw
      have hi := why_pos hw
      exact ⟨upd_neg h.view hi, h.ground, fun o ho => (List.mem_append.1 ho).elim (h.pend o) (fun ho => by rw [List.mem_singleton.1 ho]; exact hi)⟩
    · exact h
  · split
    · unfold Dk.free
      split
      · exact h
      · rename_i hv
        have hi : 0 ≤ x.i := by
          refine Classical.byContradiction fun hn => hv (h.view x.i (by omega))
        exact ⟨upd_neg h.view hi, h.ground, fun o ho => (List.mem_append.1 ho).elim (h.pend o) (fun ho => by rw [List.mem_singleton.1 ho]; exact hi)⟩
    · split
      · exact ⟨h.view, h.view, fun _ ho => by simp [Dk.sync] at ho⟩
      · split
        · exact ⟨crashG_neg _ _ _ _ h.ground h.pend, crashG_neg _ _ _ _ h.ground h.pend, fun _ ho => by simp [Dk.crash] at ho⟩
        · split
          · exact ⟨h.view, h.ground, h.pend⟩
          · exact h
theorem sync_pos {s : Dk} (h : Pos s) : Pos s.sync := ⟨h.view, h.view, fun _ ho => by simp [Dk.sync] at ho⟩

structure PosN (s : Dk) (k : Nat) : Prop where
  pos : Pos s
  len : s.pend.length ≤ k
theorem doS_posN {s : Dk} {k : Nat} (h : PosN s k) (x : Act6) : PosN (doS s x) (k + 1) := ⟨doS_pos h.pos x, doS_len h.len x⟩

/-- the ground is G, and what is pending is among the sectors that T tells -/
structure Keep (s : Dk) (G : Secs) (T : Nat → Bool) : Prop where
  pos : Pos s
  ground : s.ground = G
  pend : ∀ o ∈ s.pend, ∀ j : Nat, o.i = (j : Int) → j < 21 → T j = true
theorem sync_keep {s : Dk} (h : Pos s) : Keep s.sync s.view (fun _ => false) := ⟨sync_pos h, rfl, fun _ ho => by simp [Dk.sync] at ho⟩
theorem crashG_at : ∀ (os : List POp) (l : List (Int × Int)) (i : Nat) (g : Secs) (j : Int), (∀ o ∈ os, o.i ≠ j) → crashG l i g os j = g j
  | [], _, _, _, _, _ => rfl
  | o :: os, l, i, g, j, ho => by
    unfold crashG
    rw [crashG_at os l (i + 1) _ j (fun o' h' => ho o' (by simp [h']))]
    cases survive l i with
    | none => rfl
    | some n => exact upd_other _ _ (fun e => ho o (by simp) e.symm)
theorem Keep.crash {s : Dk} {G : Secs} {T : Nat → Bool} (h : Keep s G T) (l : List (Int × Int)) {j : Nat} (hj : j < 21) (hT : T j = false) : (s.crash l).view (j : Int) = G (j : Int) := by
  show crashG l 0 s.ground s.pend (j : Int) = _
  rw [crashG_at _ _ _ _ _ (fun o ho e => by have := h.pend o ho j e hj; rw [hT] at this; cases this), h.ground]
/-- a write or a free: nothing, if it is refused; its sector is touched, if it isn't -/
theorem Keep.no {s : Dk} {G : Secs} {T : Nat → Bool} (_h : Keep s G T) {x : Act6} (hk : x.k = 0 ∨ x.k = 1) (he : doE s x ≠ 0) : doS s x = s := by
  unfold doE at he
  unfold doS
  rcases hk with hk | hk
  · rw [if_pos hk] at he ⊢
    unfold Dk.write; rw [if_neg he]
  · rw [if_neg (by omega), if_pos hk] at he ⊢
    unfold Dk.fwhy at he
    unfold Dk.free
    by_cases hv : s.view x.i = none
    · rw [if_pos hv]
    · rw [if_neg hv] at he; exact absurd rfl he
theorem Keep.yes {s : Dk} {G : Secs} {T : Nat → Bool} (h : Keep s G T) {x : Act6} (hk : x.k = 0 ∨ x.k = 1) (he : doE s x = 0) : 0 ≤ x.i ∧ Keep (doS s x) G (fun j => T j || decide ((j : Int) = x.i)) := by
  have hp := doS_pos h.pos x
  have key : 0 ≤ x.i ∧ ∃ v, doS s x = { s with view := upd s.view x.i v, pend := s.pend ++ [⟨x.i, v⟩] } := by
    unfold doE at he
    unfold doS
    rcases hk with hk | hk
    · rw [if_pos hk] at he ⊢
      exact ⟨why_pos he, some x.b, Dk.write_ok he⟩
    · rw [if_neg (by omega), if_pos hk] at he ⊢
      unfold Dk.fwhy at he
      unfold Dk.free
      by_cases hv : s.view x.i = none
      · rw [if_pos hv] at he; cases he
      · rw [if_neg hv]
        exact ⟨Classical.byContradiction fun hn => hv (h.pos.view x.i (by omega)), none, rfl⟩
  obtain ⟨hi, v, hv⟩ := key
  refine ⟨hi, hp, by rw [hv]; exact h.ground, fun o ho j hj hj2 => ?_⟩
  rw [hv] at ho
  rcases List.mem_append.1 ho with ho | ho
  · rw [h.pend o ho j hj hj2]; rfl
  · rw [List.mem_singleton.1 ho] at hj
    simp [← hj]
theorem Keep.far {s : Dk} {G : Secs} {T : Nat → Bool} {i : Int} (h : Keep s G (fun j => T j || decide ((j : Int) = i))) (hi : 21 ≤ i) : Keep s G T :=
  ⟨h.pos, h.ground, fun o ho j hj hj2 => by
    have := h.pend o ho j hj hj2
    simp at this
    rcases this with h | h
    · exact h
    · omega⟩

/-- a block that a disk has nothing to do with -/
def Free6 (M R : Nat → Prop) (b : Nat) : Prop := ¬ M b ∧ ¬ R b
theorem Free6.turn {M R M' R' : Nat → Prop} {w w' : World} {b : Nat} (h : Free6 M R b) (ht : Turns M R w M' R' w') (hb : b < w.heap.size) : Free6 M' R' b :=
  ⟨fun hm => (ht.own b hm).elim h.1 (fun h => by omega), fun hr => (ht.held b hr).elim h.2 (fun h => by omega)⟩

end Go.Proofs.Ytlemoaigcakmcaa
