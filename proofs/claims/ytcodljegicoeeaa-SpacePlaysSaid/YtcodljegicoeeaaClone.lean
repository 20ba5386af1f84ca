/-
  bytes.Clone; Read: by their contracts.
-/
import Derived.Test.YtcodljegicoeeaaReader
import Derived.WalkSpells
namespace Go.Proofs.Ytcodljegicoeeaa
open Go Go.RowKit

theorem row_nil (w : World) (base : Nat) (e : TypeId) (c : Nat) (h : c = 0) : Row w base e none 0 c [] := by subst h; exact ⟨rfl, rfl, .inl ⟨rfl, rfl⟩⟩

set_option maxHeartbeats 1000000 in
theorem clone_any {A : Option Addr} {m c B : Nat} {l : List UInt8} {w : World} (hA : At w B A l) (hm : m = l.length) (hB : B ≤ w.heap.size) (hl : l.length ≤ 140737488351232) :
    Calls Try.prog 37 #[.slice A m c] w fun e w' => ∃ A' m' c', e = .returned (.slice A' m' c') ∧ Row w' w.heap.size 5 A' m' c' l ∧ Below w.heap.size w w' := by
  obtain ⟨i0, hi, hz0, hz1, hz2⟩ := info_parts info_byte
  rcases A with _ | ad
  · have hn : l = [] := by
      rcases l with _ | ⟨x, l⟩
      · rfl
      · obtain ⟨_, _, h, _⟩ := hA (by simp)
        cases h
    subst hn
    have heq : ∀ W, (binOp .eql 40 (.slice none m c) (.slice none 0 0)).run Try.prog W = .ok (.bool true) W := fun W => Lib.run_eql_slice_nil (P := Try.prog) W 40 5 none m c 0 0 Try.underlying40
    clear hm hA
    go_enter Try.func37, Try.ntmps37
    go_wp2_with fail
    go_ret
    exact ⟨none, 0, 0, rfl, row_nil _ _ _ _ rfl, Below.refl _ _⟩
  · have heq : ∀ W, (binOp .eql 40 (.slice (some ad) m c) (.slice none 0 0)).run Try.prog W = .ok (.bool false) W := fun W => Lib.run_eql_slice_nil (P := Try.prog) W 40 5 (some ad) m c 0 0 Try.underlying40
    have HI := hid hi
    have HZ0 := hid hz0
    have HZ1 := hid hz1
    have HZ2 := hid hz2
    have HM := hid hm
    have HA := hid hA
    clear hi hz0 hz1 hz2 hm hA
    go_enter Try.func37, Try.ntmps37
    go_wp2_with (at_builtin; go_must (refine wpList_append_bs _ rfl _ _ _ rfl w.heap.size 5 i0 Try.underlying40 HI.out HZ0.out HZ1.out HZ2.out (.slice (some ⟨w.heap.size, 0, none⟩) 0 0) [] l rfl (own_empty w _) (some ad) m c rfl HM.out ?pos ?len ?base ?_))
    case pos => exact (HA.out.below ((Below.refl _ _).alloc hB _)).more (by simp; omega)
    case len => simp; omega
    case base => simp
    intro A' c' w' hown hg _
    have hb : Below w.heap.size w w' := ((Below.refl w.heap.size w).alloc (Nat.le_refl _) _).grown hg (by simp) (fun k hk => by simp [Value.ownBlock] at hk; omega)
    go_wp2_with fail
    go_ret
    exact ⟨_, _, _, rfl, ⟨rfl, hown⟩, hb⟩

structure IsRd (w : World) (l : List UInt8) (e : Ending) (w' : World) : Prop where
  out : ∃ r, e = .returned (.pointer (some ⟨r, 0, none⟩)) ∧ Rd w' r l 0 ∧ w.heap.size ≤ r ∧ Below w.heap.size w w'
set_option maxHeartbeats 1000000 in
theorem read_any {A : Option Addr} {m c B : Nat} {l : List UInt8} {w : World} (hA : At w B A l) (hm : m = l.length) (hB : B ≤ w.heap.size) (hl : l.length ≤ 140737488351232) :
    Calls Try.prog 26 #[.slice A m c] w (IsRd w l) := by
  have H := hid (clone_any (c := c) hA hm hB hl)
  have HL := hid hl
  clear hA hm hl
  go_enter Try.func26, Try.ntmps26
  go_wp2_with fail
  go_fit H.out
  rintro e w2 ⟨A', m', c', rfl, h1, h2⟩
  have HR := hid h1
  have HB := hid h2
  clear h1 h2
  go_wp2_with fail
  go_ret
  exact ⟨_, rfl, ⟨_, _, _, Blk.new w2 _ _, HR.out.1, row_cap HR.out, HL.out, HR.out.at_.keep fun p hp => World.cell?_alloc_lt w2 _ p hp⟩, HB.out.size, HB.out.alloc HB.out.size _⟩

end Go.Proofs.Ytcodljegicoeeaa
