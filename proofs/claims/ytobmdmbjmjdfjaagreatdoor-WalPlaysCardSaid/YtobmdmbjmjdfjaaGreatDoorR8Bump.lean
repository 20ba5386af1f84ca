/-
  A row's last segment is counted.
-/
import Derived.Test.YtobmdmbjmjdfjaaGreatDoorR8Trunc
import Derived.Test.YtobmdmbjmjdfjaaGreatDoorWApp2
namespace Go.Proofs.YtobmdmbjmjdfjaaGreatDoor
open Go Go.RowKit

theorem GAt.bump {w : World} {B K bb off : Nat} {L : List Sg} {z : Sg} (h : GAt eSg w B (some ⟨bb, off, none⟩) L) (hK : K + 1 = L.length) (hz : L[K]? = some z) :
    GAt eSg (w.setCell ⟨bb, off + K * 3 + 2, none⟩ (.int .u64 ((m64 (z.count + 1) : Nat) : Int))) B (some ⟨bb, off, none⟩) (Wl.bump L) := by
  intro _
  obtain ⟨b, o, he, hb, hc⟩ := h (by omega)
  injection he with he
  injection he with e1 e2
  subst e1 e2
  refine ⟨bb, off, rfl, hb, fun i x j u hx hu => ?_⟩
  have hL : L = L.take K ++ [z] := by
    conv => lhs; rw [← List.take_append_drop K L]
    congr 1
    rw [List.drop_eq_getElem_cons (by omega), List.drop_eq_nil_of_le (by omega)]
    have := List.getElem?_eq_some_iff.1 hz
    rw [this.2]
  have hj : j < 3 := by
    have := (List.getElem?_eq_some_iff.1 hu).1
    rw [eSg.len] at this
    exact this
  have hc2 := hc K z 2 _ hz rfl
  rw [hL, bump_snoc] at hx
  have hlk : (L.take K).length = K := by rw [List.length_take]; omega
  show (w.setCell ⟨bb, off + K * 3 + 2, none⟩ _).cell? ⟨bb, off + i * 3 + j, none⟩ = some u
  by_cases hi : i < K
  · rw [List.getElem?_append_left (by omega)] at hx
    have hx' : L[i]? = some x := by rw [hL, List.getElem?_append_left (by omega)]; exact hx
    have hcc : w.cell? ⟨bb, off + i * 3 + j, none⟩ = some u := hc i x j u hx' hu
    have hne : off + i * 3 + j ≠ off + K * 3 + 2 := by omega
    rw [World.cell?_setCell_other w _ _ _ (fun e => by injection e with _ e _; omega)]
    exact hcc
  · rw [List.getElem?_append_right (by omega), hlk] at hx
    have hik : i = K := by
      have := (List.getElem?_eq_some_iff.1 hx).1
      simp at this
      omega
    subst hik
    rw [Nat.sub_self] at hx
    simp at hx
    subst hx
    have hc2' : w.cell? ⟨bb, off + i * 3 + 2, none⟩ = some (.int .u64 (z.count : Int)) := hc2
    by_cases hj2 : j = 2
    · subst hj2
      have hu' : u = .int .u64 ((m64 (z.count + 1) : Nat) : Int) := by
        have h2 : some (Value.int .u64 ((m64 (z.count + 1) : Nat) : Int)) = some u := hu
        injection h2 with h2
        exact h2.symm
      rw [hu']
      exact World.cell?_setCell_same w _ _ hc2'
    · have hcc : w.cell? ⟨bb, off + i * 3 + j, none⟩ = some u := hc i z j u hz (by
        rcases j with _ | _ | j
        · exact hu
        · exact hu
        · omega)
      have hne : off + i * 3 + j ≠ off + i * 3 + 2 := by omega
      rw [World.cell?_setCell_other w _ _ _ (fun e => by injection e with _ e _; omega)]
      exact hcc

def ApTo (l : Wl) (body : List UInt8) (live' : List Sg) (st0 : List UInt8) (from_ : Nat) (fr : Int) : Prop :=
  (l.wants body = true ∧ ¬ l.fresh < 0 ∧ live' = l.live ++ [⟨l.fresh.toNat, l.seq, 0⟩] ∧ st0 = l.head ∧ from_ = 0 ∧ fr = l.fresh) ∨ (¬ l.wants body = true ∧ live' = l.live ∧ st0 = l.stream ∧ from_ = l.stream.length ∧ fr = -1)
section
variable {s s1 : Dk} {l : Wl} {body st0 st : List UInt8} {live' : List Sg} {from_ fs K : Nat} {fr : Int} {z : Sg} {p : Int} {e : Nat}
theorem ApTo.new_last (hz : (l.live ++ [(⟨l.fresh.toNat, l.seq, 0⟩ : Sg)])[K]? = some z) (hl : K + 1 = (l.live ++ [(⟨l.fresh.toNat, l.seq, 0⟩ : Sg)]).length) : z = ⟨l.fresh.toNat, l.seq, 0⟩ := by
  have hk9 : K = l.live.length := by rw [List.length_append, List.length_singleton] at hl; omega
  subst hk9
  rw [List.getElem?_append_right (Nat.le_refl _), Nat.sub_self] at hz
  simp at hz
  exact hz.symm
theorem ApTo.last (hz : live'[K]? = some z) (hl : K + 1 = live'.length) : live'.getLast? = some z := by
  rw [List.getLast?_eq_getElem?, show live'.length - 1 = K by omega]; exact hz
theorem ApTo.done (hd : ApTo l body live' st0 from_ fr) (hg : ¬ l.long body = true) (hz : live'[K]? = some z) (hl : K + 1 = live'.length) (hst : st = st0 ++ l.rec_ body) (hf : fs = from_ / 512) (hp : l.place z.i = p) (hw : wrSt s p st l.size fs = (s1, 0)) :
    l.appWhy body s = 0 ∧ l.appD body s = s1 ∧ l.app body s = { l with live := Wl.bump live', stream := st, last := l.seq } ∧ l.appN body s = l.seq := by
  rcases hd with ⟨h1, h2, rfl, rfl, rfl, _⟩ | ⟨h1, rfl, rfl, rfl, _⟩
  · have hzz := new_last hz hl
    subst hzz
    subst hst hf hp
    obtain ⟨a, b, _⟩ := app_new (s := s) hg h1 h2 hw
    obtain ⟨b1, b2, b3⟩ := b rfl
    exact ⟨a, b1, by rw [b2, bump_snoc], b3⟩
  · subst hst hf hp
    obtain ⟨a, b, c, _⟩ := app_old (s := s) hg h1 (last hz hl) hw
    obtain ⟨c1, c2⟩ := c rfl
    exact ⟨a, b, c1, c2⟩
theorem ApTo.bad (hd : ApTo l body live' st0 from_ fr) (hg : ¬ l.long body = true) (hz : live'[K]? = some z) (hl : K + 1 = live'.length) (hst : st = st0 ++ l.rec_ body) (hf : fs = from_ / 512) (hp : l.place z.i = p) (he : e ≠ 0) (hw : wrSt s p st l.size fs = (s1, e)) :
    l.appWhy body s = e ∧ l.appN body s = 0 ∧ ((0 ≤ fr ∧ fr = (z.i : Int) ∧ l.appD body s = (freeN s1 (l.place z.i) l.size).sync ∧ l.app body s = { l with stream := [], synced := l.last }) ∨ (fr = -1 ∧ l.appD body s = s1 ∧ l.app body s = { l with stream := [] })) := by
  rcases hd with ⟨h1, h2, rfl, rfl, rfl, rfl⟩ | ⟨h1, rfl, rfl, rfl, rfl⟩
  · have hzz := new_last hz hl
    subst hzz
    subst hst hf hp
    obtain ⟨a, _, b⟩ := app_new (s := s) hg h1 h2 hw
    obtain ⟨b1, b2, b3⟩ := b he
    exact ⟨a, b3, .inl ⟨by omega, by show l.fresh = ((l.fresh.toNat : Nat) : Int); omega, b1, b2⟩⟩
  · subst hst hf hp
    obtain ⟨a, b, _, c⟩ := app_old (s := s) hg h1 (last hz hl) hw
    obtain ⟨c1, c2⟩ := c he
    exact ⟨a, c2, .inr ⟨rfl, b, c1⟩⟩
end
theorem wrap_cnt {k : Nat} : IntKind.u64.wrap ((k : Int) + 1) = ((m64 (k + 1) : Nat) : Int) := by rw [IntKind.wrap_u64]; unfold m64; omega
theorem slice_own {α : Type} {E : Enc α} {e : TypeId} {w : World} {base bb off m c : Nat} {l : List α} (h : GRow E e w base (some ⟨bb, off, none⟩) m c l) : (Value.slice (some ⟨bb, off, none⟩) m c).ownBlock = some bb ∧ base ≤ bb ∧ bb < w.heap.size ∧ ∀ i, w.frozen? ⟨bb, i, none⟩ = false := by
  rcases h.2.2 with ⟨h0, _⟩ | ⟨g, cap, cur, hv, hb, hg, _⟩
  · cases h0
  · have hgb : bb = g := by injection hv with h1; injection h1 with h1; injection h1
    subst hgb
    exact ⟨rfl, hb, lt_of_block hg, fun i => by simp [World.frozen?, hg]⟩

end Go.Proofs.YtobmdmbjmjdfjaaGreatDoor
