/-
  A writer's calls: by their contracts.
-/
import Derived.Test.YtcodljegicoeeaaClone
namespace Go.Proofs.Ytcodljegicoeeaa
open Go Go.RowKit

/-- a writer: the bytes of its fields, in a row of its own, and what went wrong first -/
def WB (w : World) (p : Nat) (A : Option Addr) (m c : Nat) (e : Int) : Prop := Blk w p 84 #[.slice A m c, .int .i64 e]
structure Wr (w : World) (base p : Nat) (l : List UInt8) (e : Nat) : Prop where
  out : ∃ A m c, WB w p A m c (e : Int) ∧ Row w base 5 A m c l ∧ base ≤ p
theorem WB.c0 {w : World} {p m c : Nat} {A : Option Addr} {e : Int} (h : WB w p A m c e) : w.cell? ⟨p, 0, none⟩ = some (.slice A m c) := Blk.cell h 0
theorem WB.c1 {w : World} {p m c : Nat} {A : Option Addr} {e : Int} (h : WB w p A m c e) : w.cell? ⟨p, 1, none⟩ = some (.int .i64 e) := Blk.cell h 1
theorem WB.f0 {w : World} {p m c : Nat} {A : Option Addr} {e : Int} (h : WB w p A m c e) : w.frozen? ⟨p, 0, none⟩ = false := Blk.free h 0
theorem WB.f1 {w : World} {p m c : Nat} {A : Option Addr} {e : Int} (h : WB w p A m c e) : w.frozen? ⟨p, 1, none⟩ = false := Blk.free h 1
theorem WB.set0 {w : World} {p m c m' c' : Nat} {A A' : Option Addr} {e : Int} (h : WB w p A m c e) : WB (w.setCell ⟨p, 0, none⟩ (.slice A' m' c')) p A' m' c' e := Blk.set h 0 _
theorem WB.set1 {w : World} {p m c : Nat} {A : Option Addr} {e e' : Int} (h : WB w p A m c e) : WB (w.setCell ⟨p, 1, none⟩ (.int .i64 e')) p A m c e' := Blk.set h 1 _
theorem Wr.lt {w : World} {base p e : Nat} {l : List UInt8} (h : Wr w base p l e) : p < w.heap.size := by
  obtain ⟨A, m, c, h1, _⟩ := h.out
  exact Blk.lt h1
theorem Wr.base {w : World} {base p e : Nat} {l : List UInt8} (h : Wr w base p l e) : base ≤ w.heap.size := by
  have h1 := h.lt
  obtain ⟨A, m, c, _, _, h2⟩ := h.out
  omega
theorem own_ne_blk {w : World} {base n b : Nat} {e tv : TypeId} {v : Value} {xs : List Value} {cs : Array Value} (h : w.ownsRow base e 1 v n xs) (hb : Blk w b tv cs) (hne : e ≠ tv) : v.ownBlock ≠ some b := by
  rcases h.2 with ⟨rfl, _⟩ | ⟨g, cap, cur, rfl, _, hg, _⟩
  · simp [Value.ownBlock]
  · intro he
    have : g = b := by simpa [Value.ownBlock] using he
    subst this
    exact Blk.ne (t := e) hg hb hne rfl
theorem Wr.step {w w' : World} {base p e : Nat} {l : List UInt8} (h : Wr w base p l e) (hb : Below w.heap.size w w') : Wr w' base p l e := by
  obtain ⟨A, m, c, h1, h2, h3⟩ := h.out
  exact ⟨A, m, c, Blk.below h1 hb (Blk.lt h1), h2.below hb, h3⟩
/-- behind a turn of a block below its base alone -/
theorem Wr.only {w w' : World} {base p e r : Nat} {l : List UInt8} (h : Wr w base p l e) (hb : Only r w w') (hr : r < base) : Wr w' base p l e := by
  obtain ⟨A, m, c, h1, h2, h3⟩ := h.out
  refine ⟨A, m, c, Blk.grown h1 hb (fun e => by injection e with e; omega), ⟨h2.1, h2.2.1, ?_⟩, h3⟩
  rcases h2.2.2 with h4 | ⟨g, cap, cur, hv, hg, hh, h5⟩
  · exact .inl h4
  · exact .inr ⟨g, cap, cur, hv, hg, (hb.block g (lt_of_block hh) (fun e => by injection e with e; omega)).trans hh, h5⟩

/-- what a writer's call leaves as it was: what lies below its base, and each block that is neither bytes nor a writer -/
structure Keeps (base : Nat) (w w' : World) : Prop where
  below : Below base w w'
  kept : ∀ (g : Nat) (t : TypeId) (cs : Array Value), t ≠ 5 → t ≠ 84 → Blk w g t cs → Blk w' g t cs
theorem Keeps.refl (base : Nat) (w : World) : Keeps base w w := ⟨Below.refl _ _, fun _ _ _ _ _ h => h⟩
theorem Keeps.trans {base : Nat} {a b c : World} (h : Keeps base a b) (k : Keeps base b c) : Keeps base a c :=
  ⟨h.below.trans k.below, fun g t cs h1 h2 hb => k.kept g t cs h1 h2 (h.kept g t cs h1 h2 hb)⟩
theorem Keeps.of {base : Nat} {w w' : World} (h : Below w.heap.size w w') (hb : base ≤ w.heap.size) : Keeps base w w' :=
  ⟨h.mono hb, fun _ _ _ _ _ hk => Blk.below hk h hk.lt⟩
theorem Keeps.set {base : Nat} {a w : World} {p i m c : Nat} {A : Option Addr} {e : Int} (h : Keeps base a w) (hw : WB w p A m c e) (hp : base ≤ p) (u : Value) : Keeps base a (w.setCell ⟨p, i, none⟩ u) :=
  ⟨h.below.setCell hp u, fun g t cs h1 h2 hb => Blk.far (h.kept g t cs h1 h2 hb) (show g ≠ p from Blk.ne (h.kept g t cs h1 h2 hb) (show Blk w p 84 _ from hw) h2) u⟩

set_option maxHeartbeats 1000000 in
theorem write_any (w : World) :
    Calls Try.prog 30 #[] w fun e w' => e = .returned (.pointer (some ⟨w.heap.size, 0, none⟩)) ∧ Wr w' w.heap.size w.heap.size [] 0 ∧ Below w.heap.size w w' := by
  go_enter Try.func30, Try.ntmps30
  go_wp2_with fail
  go_ret
  exact ⟨rfl, ⟨_, _, _, Blk.new w _ _, row_nil _ _ _ _ rfl, Nat.le_refl _⟩, (Below.refl _ _).alloc (Nat.le_refl _) _⟩

set_option maxHeartbeats 1000000 in
theorem push_any {base p B n c' : Nat} {A' : Option Addr} {l news : List UInt8} {w : World} (h : Wr w base p l 0) (hA : At w B A' news) (hn : n = news.length) (hB : B ≤ w.heap.size) (hl : l.length + news.length ≤ 70368744177664) :
    Calls Try.prog 42 #[.pointer (some ⟨p, 0, none⟩), .slice A' n c'] w fun e w' => e = .returned (.tuple #[]) ∧ Wr w' base p (l ++ news) 0 ∧ Keeps base w w' := by
  obtain ⟨A, m, c, hb, hrow, hbp⟩ := h.out
  obtain ⟨i0, hi, hz0, hz1, hz2⟩ := info_parts info_byte
  have hbase := h.base
  obtain ⟨hm, hown⟩ := hrow
  subst hm
  have hne := own_ne_blk hown hb (by decide)
  have HNE := hid hne
  have HOWN := hid hown
  have HB := hid hb
  have HI := hid hi
  have HZ0 := hid hz0
  have HZ1 := hid hz1
  have HZ2 := hid hz2
  have HN := hid hn
  have HA := hid hA
  have HBA := hid hbase
  have HL := hid hl
  have HBP := hid hbp
  have c0 := WB.c0 hb
  have c1 := WB.c1 hb
  clear h hb hown hi hz0 hz1 hz2 hn hA hne hbase hl hbp
  go_enter Try.func42, Try.ntmps42
  go_wp2_with (at_builtin; go_must (refine wpList_append_bs _ rfl _ _ _ rfl base 5 i0 Try.underlying40 HI.out HZ0.out HZ1.out HZ2.out (.slice A l.length c) l news rfl HOWN.out A' n c' rfl HN.out (HA.out.more hB) ?len HBA.out ?_))
  case len => have := HL.out; omega
  intro A2 c2 w1 hown1 hg1 hat
  have hb1 : WB w1 p A l.length c 0 := Blk.grown HB.out hg1 (fun e => HNE.out e.symm)
  have HB1 := hid hb1
  have hbel := hid (show Keeps base w w1 from ⟨(Below.refl base w).grown hg1 HBA.out (fun k hk => (HOWN.out.lt k hk).1), fun g t cs h5 _ hb => Blk.grown hb hg1 (fun e => own_ne_blk HOWN.out hb (Ne.symm h5) e.symm)⟩)
  have d0 := WB.c0 HB1.out
  have f0 := WB.f0 HB1.out
  have HOWN1 := hid hown1
  have hne1 := own_ne_blk (b := p) hown1 (show Blk w1 p 84 _ from HB1.out) (by decide)
  have HNE1 := hid hne1
  clear hown1 hg1 hat hb1 hne1
  go_wp2_with fail
  go_end0
  exact ⟨rfl, ⟨_, _, _, HB1.out.set0, ⟨List.length_append.symm, ownsRow_setCell_other HOWN1.out HNE1.out _⟩, HBP.out⟩, hbel.out.set HB1.out HBP.out _⟩

set_option maxHeartbeats 1000000 in
theorem push_not {base p n c' e0 : Nat} {A' : Option Addr} {l : List UInt8} {w : World} (h : Wr w base p l e0) (he : e0 ≠ 0) :
    Calls Try.prog 42 #[.pointer (some ⟨p, 0, none⟩), .slice A' n c'] w fun e w' => e = .returned (.tuple #[]) ∧ w = w' := by
  obtain ⟨A, m, c, hb, hrow, hbp⟩ := h.out
  have c1 := WB.c1 hb
  have hE : ((e0 : Int) == 0) = false := by simpa using he
  clear h hb hrow he
  go_enter Try.func42, Try.ntmps42
  go_wp2_with fail
  go_end0
  exact ⟨rfl, rfl⟩

end Go.Proofs.Ytcodljegicoeeaa
