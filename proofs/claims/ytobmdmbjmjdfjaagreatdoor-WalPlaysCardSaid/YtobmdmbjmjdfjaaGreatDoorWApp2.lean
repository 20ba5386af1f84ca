/-
  Appending as plain functions: the sectors one by one, the last segment counted, the words way by way.
-/
import Derived.Test.YtobmdmbjmjdfjaaGreatDoorJWl
namespace Go.Proofs.YtobmdmbjmjdfjaaGreatDoor
open Go Go.RowKit

theorem Dk.write_len (s : Dk) (i : Int) (b : List UInt8) : (s.write i b).pend.length ≤ s.pend.length + 1 := by
  unfold Dk.write
  split
  · simp
  · omega
theorem wrSt_end {s : Dk} {p : Int} {st : List UInt8} {f k : Nat} (h : ¬ 512 * k < st.length) : wrSt s p st f k = (s, 0) := by
  cases f with
  | zero => rfl
  | succ f => unfold wrSt; rw [if_neg h]
theorem wrSt_go {s : Dk} {p : Int} {st : List UInt8} {f k : Nat} (h : 512 * k < st.length) (hf : st.length ≤ 512 * (k + f)) : ∃ g, f = g + 1 ∧ st.length ≤ 512 * (k + 1 + g) ∧
    wrSt s p st f k = if s.why (p + (k : Int)) ((st.drop (512 * k)).take 512) = 0 then wrSt (s.write (p + (k : Int)) ((st.drop (512 * k)).take 512)) p st g (k + 1) else (s, s.why (p + (k : Int)) ((st.drop (512 * k)).take 512)) := by
  cases f with
  | zero => omega
  | succ f =>
    refine ⟨f, rfl, by omega, ?_⟩
    rw [wrSt, if_pos h]
theorem bump_snoc : ∀ (l : List Sg) (x : Sg), Wl.bump (l ++ [x]) = l ++ [{ x with count := m64 (x.count + 1) }]
  | [], x => rfl
  | [y], x => rfl
  | y :: z :: l, x => by
    show y :: Wl.bump (z :: (l ++ [x])) = y :: (z :: l ++ [_])
    have := bump_snoc (z :: l) x
    rw [List.cons_append] at this
    rw [this]
section
variable {l : Wl} {body : List UInt8} {s : Dk}
theorem app_long (h : l.long body = true) : l.appWhy body s = 81 ∧ l.appD body s = s ∧ l.app body s = l ∧ l.appN body s = 0 := by
  have hw : l.appWhy body s = 81 := by unfold Wl.appWhy; rw [if_pos h]
  refine ⟨hw, ?_, ?_, ?_⟩
  · unfold Wl.appD; rw [if_pos (.inl h)]
  · unfold Wl.app; rw [if_pos (.inl h)]
  · unfold Wl.appN; rw [hw, if_neg (by decide)]
theorem app_full (h : ¬ l.long body = true) (h1 : l.wants body = true) (h2 : l.fresh < 0) : l.appWhy body s = 82 ∧ l.appD body s = s ∧ l.app body s = l ∧ l.appN body s = 0 := by
  have hw : l.appWhy body s = 82 := by unfold Wl.appWhy; rw [if_neg h, if_pos ⟨h1, h2⟩]
  refine ⟨hw, ?_, ?_, ?_⟩
  · unfold Wl.appD; rw [if_pos (.inr ⟨h1, h2⟩)]
  · unfold Wl.app; rw [if_pos (.inr ⟨h1, h2⟩)]
  · unfold Wl.appN; rw [hw, if_neg (by decide)]
theorem written_new (h1 : l.wants body = true) : l.written body s = wrSt s (l.place l.fresh.toNat) (l.head ++ l.rec_ body) l.size 0 := by
  unfold Wl.written Wl.grown Wl.first
  simp only [if_pos h1]
  simp [Wl.place]
theorem app_new (h : ¬ l.long body = true) (h1 : l.wants body = true) (h2 : ¬ l.fresh < 0) {s1 : Dk} {e1 : Nat} (hr : wrSt s (l.place l.fresh.toNat) (l.head ++ l.rec_ body) l.size 0 = (s1, e1)) :
    l.appWhy body s = e1 ∧ (e1 = 0 → l.appD body s = s1 ∧ l.app body s = { l with live := l.live ++ [⟨l.fresh.toNat, l.seq, m64 1⟩], stream := l.head ++ l.rec_ body, last := l.seq } ∧ l.appN body s = l.seq) ∧
      (e1 ≠ 0 → l.appD body s = (freeN s1 (l.place l.fresh.toNat) l.size).sync ∧ l.app body s = { l with stream := [], synced := l.last } ∧ l.appN body s = 0) := by
  have hn : ¬ (l.long body = true ∨ l.wants body = true ∧ l.fresh < 0) := fun x => x.elim h (fun y => h2 y.2)
  have hwr := written_new (s := s) h1
  rw [hr] at hwr
  have hw : l.appWhy body s = e1 := by unfold Wl.appWhy; rw [if_neg h, if_neg (fun y => h2 y.2), hwr]
  refine ⟨hw, fun he => ⟨?_, ?_, ?_⟩, fun he => ⟨?_, ?_, ?_⟩⟩
  · unfold Wl.appD; rw [if_neg hn, hwr, if_pos he]
  · unfold Wl.app; rw [if_neg hn, hwr, if_pos he]; unfold Wl.grown; simp only [if_pos h1]; rw [bump_snoc]
  · unfold Wl.appN; rw [hw, if_pos he]
  · unfold Wl.appD; rw [if_neg hn, hwr, if_neg he, if_pos h1]
  · unfold Wl.app; rw [if_neg hn, hwr, if_neg he, if_pos h1]
  · unfold Wl.appN; rw [hw, if_neg he]
theorem app_old (h : ¬ l.long body = true) (h1 : ¬ l.wants body = true) {x : Sg} (hx : l.live.getLast? = some x) {s1 : Dk} {e1 : Nat} (hr : wrSt s (l.place x.i) (l.stream ++ l.rec_ body) l.size (l.stream.length / 512) = (s1, e1)) :
    l.appWhy body s = e1 ∧ l.appD body s = s1 ∧ (e1 = 0 → l.app body s = { l with live := Wl.bump l.live, stream := l.stream ++ l.rec_ body, last := l.seq } ∧ l.appN body s = l.seq) ∧ (e1 ≠ 0 → l.app body s = { l with stream := [] } ∧ l.appN body s = 0) := by
  have hn : ¬ (l.long body = true ∨ l.wants body = true ∧ l.fresh < 0) := fun y => y.elim h (fun y => h1 y.1)
  have hwr : l.written body s = (s1, e1) := by
    rw [← hr]
    unfold Wl.written Wl.grown Wl.first
    simp only [if_neg h1]
    simp [Wl.place, hx]
  have hw : l.appWhy body s = e1 := by unfold Wl.appWhy; rw [if_neg h, if_neg (fun y => h1 y.1), hwr]
  refine ⟨hw, ?_, fun he => ⟨?_, ?_⟩, fun he => ⟨?_, ?_⟩⟩
  · unfold Wl.appD; rw [if_neg hn, hwr, if_neg h1]; simp
  · unfold Wl.app; rw [if_neg hn, hwr, if_pos he]; unfold Wl.grown; simp only [if_neg h1]
  · unfold Wl.appN; rw [hw, if_pos he]
  · unfold Wl.app; rw [if_neg hn, hwr, if_neg he, if_neg h1]
  · unfold Wl.appN; rw [hw, if_neg he]
end

end Go.Proofs.YtobmdmbjmjdfjaaGreatDoor
