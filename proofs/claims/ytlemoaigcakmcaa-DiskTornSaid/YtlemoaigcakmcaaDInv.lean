/-
  What holds of a disk behind any acts: plain.
-/
import Derived.Test.YtlemoaigcakmcaaDDo
namespace Go.Proofs.Ytlemoaigcakmcaa
open Go Go.RowKit

def applyAll (g : Secs) (p : List POp) : Secs := p.foldl (fun g o => upd g o.i o.b) g
structure Dk.Inv (s : Dk) (m : Nat) : Prop where
  len : s.pend.length ≤ m
  all : applyAll s.ground s.pend = s.view
  small : ∀ o ∈ s.pend, ∀ b, o.b = some b → b.length ≤ 512
theorem Dk.new_inv (n : Nat) : (Dk.new n).Inv 0 := ⟨Nat.le_refl _, rfl, fun _ h => by simp [Dk.new] at h⟩
theorem applyAll_snoc (g : Secs) (p : List POp) (o : POp) : applyAll g (p ++ [o]) = upd (applyAll g p) o.i o.b := by unfold applyAll; rw [List.foldl_append]; rfl
theorem Dk.Inv.snoc {s : Dk} {m : Nat} (h : s.Inv m) (o : POp) (hs : ∀ b, o.b = some b → b.length ≤ 512) : Dk.Inv { s with view := upd s.view o.i o.b, pend := s.pend ++ [o] } (m + 1) := by
  refine ⟨by have := h.len; simp; omega, ?_, fun p hp b hb => ?_⟩
  · show applyAll s.ground (s.pend ++ [o]) = _
    rw [applyAll_snoc, h.all]
  · rcases List.mem_append.1 hp with hp | hp
    · exact h.small p hp b hb
    · rw [List.mem_singleton.1 hp] at hb
      exact hs b hb
theorem Dk.Inv.more {s : Dk} {m m' : Nat} (h : s.Inv m) (hm : m ≤ m') : s.Inv m' := ⟨Nat.le_trans h.len hm, h.all, h.small⟩
theorem why_len {s : Dk} {i : Int} {b : List UInt8} (h : s.why i b = 0) : b.length ≤ 512 := by
  unfold Dk.why at h
  split at h
  · cases h
  · split at h
    · cases h
    · omega
theorem doS_inv {s : Dk} {m : Nat} (h : s.Inv m) (x : Act6) : (doS s x).Inv (m + 1) := by
  unfold doS
  split
  · unfold Dk.write
    split
    · rename_i hw
      exact h.snoc ⟨x.i, some x.b⟩ (fun b hb => by injection hb with hb; rw [← hb]; exact why_len hw)
    · exact h.more (Nat.le_succ _)
  · split
    · unfold Dk.free
      split
      · exact h.more (Nat.le_succ _)
      · exact h.snoc ⟨x.i, none⟩ (fun b hb => by cases hb)
    · split
      · exact ⟨Nat.zero_le _, rfl, fun _ h => by simp [Dk.sync] at h⟩
      · split
        · exact ⟨Nat.zero_le _, rfl, fun _ h => by simp [Dk.crash] at h⟩
        · split
          · exact ⟨Nat.le_succ_of_le h.len, h.all, h.small⟩
          · exact h.more (Nat.le_succ _)

/-- an act lays one operation at most -/
theorem doS_len {s : Dk} {m : Nat} (h : s.pend.length ≤ m) (x : Act6) : (doS s x).pend.length ≤ m + 1 := by
  unfold doS
  split
  · unfold Dk.write
    split
    · simp; omega
    · omega
  · split
    · unfold Dk.free
      split
      · omega
      · simp; omega
    · split
      · simp [Dk.sync]
      · split
        · simp [Dk.crash]
        · split
          · show s.pend.length ≤ _; omega
          · omega

/-- all survivors -/
def svs (p : Nat) : List (Int × Int) := (List.range p).map fun (i : Nat) => ((i : Int), (600 : Int))
theorem svs_succ (p : Nat) : svs (p + 1) = svs p ++ [((p : Int), (600 : Int))] := by unfold svs; rw [List.range_succ, List.map_append]; rfl
theorem svs_length (p : Nat) : (svs p).length = p := by unfold svs; simp
theorem survive_svs {p i : Nat} (h : i < p) : survive (svs p) i = some 600 := by
  unfold survive
  have : (svs p).find? (fun s => s.1 == (i : Int)) = some ((i : Int), (600 : Int)) := by
    induction p with
    | zero => omega
    | succ p ih =>
      rw [svs_succ, List.find?_append]
      by_cases hi : i < p
      · rw [ih hi]; rfl
      · obtain rfl : i = p := by omega
        have hn : (svs i).find? (fun s => s.1 == (i : Int)) = none := by
          rw [List.find?_eq_none]
          intro s hs
          unfold svs at hs
          obtain ⟨j, hj, rfl⟩ := List.mem_map.1 hs
          have := List.mem_range.1 hj
          simp; omega
        rw [hn]
        simp
  rw [this]; rfl
theorem crashG_svs {p : Nat} : ∀ (os : List POp) (i : Nat) (g : Secs), i + os.length ≤ p → (∀ o ∈ os, ∀ b, o.b = some b → b.length ≤ 512) → crashG (svs p) i g os = applyAll g os
  | [], _, _, _, _ => rfl
  | o :: os, i, g, h, hs => by
    rw [List.length_cons] at h
    unfold crashG
    rw [survive_svs (by omega)]
    dsimp only
    have e : applyOp g o 600 = upd g o.i o.b := by
      unfold applyOp
      cases hb : o.b with
      | none => rfl
      | some b =>
        have := hs o (by simp) b hb
        unfold torn
        simp only [Option.map_some]
        rw [if_pos (by omega)]
    rw [e, crashG_svs os (i + 1) _ (by omega) (fun o ho => hs o (by simp [ho]))]
    rfl
theorem crashG_nil : ∀ (os : List POp) (i : Nat) (g : Secs), crashG [] i g os = g
  | [], _, _ => rfl
  | o :: os, i, g => by
    unfold crashG
    have : survive [] i = none := rfl
    rw [this]
    exact crashG_nil os (i + 1) g
theorem crash_all {s : Dk} {m : Nat} (h : s.Inv m) : s.crash (svs s.pend.length) = s.sync := by
  unfold Dk.crash Dk.sync
  rw [crashG_svs s.pend 0 s.ground (by omega) h.small, h.all]
theorem sync_crash (s : Dk) : s.sync.crash [] = s.sync := by
  unfold Dk.crash Dk.sync
  rw [crashG_nil]

/-- two disks that have nothing to turn in common -/
structure Apart (M R M2 R2 : Nat → Prop) : Prop where
  a : ∀ k, M k → ¬ M2 k
  b : ∀ k, M k → ¬ R2 k
  c : ∀ k, R k → ¬ M2 k
theorem Apart.symm {M R M2 R2 : Nat → Prop} (h : Apart M R M2 R2) : Apart M2 R2 M R := ⟨fun k h2 h1 => h.a k h1 h2, fun k h2 h1 => h.c k h1 h2, fun k h2 h1 => h.b k h1 h2⟩
theorem Apart.turn {M R M2 R2 M' R' : Nat → Prop} {w w' : World} (h : Apart M R M2 R2) (ht : Turns M R w M' R' w') (hlt : ∀ k, M2 k ∨ R2 k → k < w.heap.size) : Apart M' R' M2 R2 :=
  ⟨fun k h1 h2 => (ht.own k h1).elim (fun h1 => h.a k h1 h2) (fun h1 => by have := hlt k (.inl h2); omega),
   fun k h1 h2 => (ht.own k h1).elim (fun h1 => h.b k h1 h2) (fun h1 => by have := hlt k (.inr h2); omega),
   fun k h1 h2 => (ht.held k h1).elim (fun h1 => h.c k h1 h2) (fun h1 => by have := hlt k (.inl h2); omega)⟩

/-! ### acts in memory -/
structure ActIn (w : World) (B b o : Nat) (x : Act6) : Prop where
  out : ∃ A n c, w.cell? ⟨b, o, none⟩ = some (.int .i64 x.k) ∧ w.cell? ⟨b, o + 1, none⟩ = some (.int .i64 x.i) ∧ w.cell? ⟨b, o + 2, none⟩ = some (.string (bst x.b)) ∧ w.cell? ⟨b, o + 3, none⟩ = some (.slice A n c) ∧
    SvAt w B A x.l ∧ n = x.l.length ∧ n ≤ c ∧ c ≤ 9223372036854775807 ∧ x.b.length ≤ 9223372036854775807
structure ActsAt (w : World) (B : Nat) (A : Option Addr) (xs : List Act6) : Prop where
  out : 0 < xs.length → ∃ b off, A = some ⟨b, off, none⟩ ∧ b < B ∧ ∀ i x, xs[i]? = some x → ActIn w B b (off + i * 4) x
theorem ActIn.below {w w' : World} {B b o : Nat} {x : Act6} (h : ActIn w B b o x) (hb : Below B w w') (hlt : b < B) : ActIn w' B b o x := by
  obtain ⟨A, n, c, h0, h1, h2, h3, h4, h5⟩ := h.out
  have hk : ∀ j, w'.cell? ⟨b, j, none⟩ = w.cell? ⟨b, j, none⟩ := fun j => World.cell?_of_block (a := ⟨b, j, none⟩) (hb.block b hlt)
  exact ⟨A, n, c, by rw [hk]; exact h0, by rw [hk]; exact h1, by rw [hk]; exact h2, by rw [hk]; exact h3, h4.below hb, h5⟩
theorem ActsAt.below {w w' : World} {B : Nat} {A : Option Addr} {xs : List Act6} (h : ActsAt w B A xs) (hb : Below B w w') : ActsAt w' B A xs := ⟨fun hl => by
  obtain ⟨b, off, e, hlt, hc⟩ := h.out hl
  exact ⟨b, off, e, hlt, fun i x hi => (hc i x hi).below hb hlt⟩⟩
theorem ActsAt.get {w : World} {B k : Nat} {A : Option Addr} {xs : List Act6} (h : ActsAt w B A xs) (hk : k < xs.length) : ∃ b off x, A = some ⟨b, off, none⟩ ∧ b < B ∧ xs[k]? = some x ∧ ActIn w B b (off + k * 4) x := by
  obtain ⟨b, off, e, hlt, hc⟩ := h.out (by omega)
  exact ⟨b, off, xs[k], e, hlt, List.getElem?_eq_getElem hk, hc k _ (List.getElem?_eq_getElem hk)⟩

end Go.Proofs.Ytlemoaigcakmcaa
