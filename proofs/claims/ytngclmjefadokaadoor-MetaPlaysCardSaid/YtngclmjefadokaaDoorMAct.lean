/-
  The landed meta page on a disk that has nothing else: what the laws take of it.
-/
import Derived.Test.YtngclmjefadokaaDoorMSteps
namespace Go.Proofs.YtngclmjefadokaaDoor
open Go Go.RowKit

/-- a page and its disk, all made since w0 -/
structure Mst (w0 w : World) (b d : Nat) (M R : Nat → Prop) (s : Dk) (a : Int) (m : Mo) : Prop where
  ma : MA w b d M R s a m.nx m.q
  new : ∀ k, k = b ∨ M k → w0.heap.size ≤ k
  below : Below w0.heap.size w0 w
theorem Within.below0 {Q : Nat → Prop} {w0 w w' : World} (h : Within Q w w') (hb : Below w0.heap.size w0 w) (hQ : ∀ k, Q k → w0.heap.size ≤ k) : Below w0.heap.size w0 w' :=
  ⟨h.os.trans hb.os, h.tape.trans hb.tape, h.output.trans hb.output, Nat.le_trans hb.size h.size, fun k hk => (h.block k (Nat.lt_of_lt_of_le hk hb.size) (fun x => by have := hQ k x; omega)).trans (hb.block k hk)⟩
section
variable {w0 w w' : World} {b d : Nat} {M R M' R' : Nat → Prop} {s s' : Dk} {a : Int} {m m' : Mo}
theorem Mst.step (h : Mst w0 w b d M R s a m) (hb : Below w.heap.size w w') : Mst w0 w' b d M R s a m := ⟨h.ma.step hb, h.new, h.below.trans (hb.mono h.below.size)⟩
theorem Mst.turns (h : Mst w0 w b d M R s a m) (hm : MA w' b d M' R' s' a m'.nx m'.q) (ht : MTurns b M R w M' R' w') : Mst w0 w' b d M' R' s' a m' :=
  ⟨hm, fun k hk => hk.elim (fun e => h.new k (.inl e)) (fun x => (ht.own k x).elim (fun y => h.new k (.inr y)) (fun y => Nat.le_trans h.below.size y)), ht.within.below0 h.below h.new⟩
/-- a call on the disk itself -/
theorem Mst.disk (h : Mst w0 w b d M R s a m) (hd : DA6 w' d M' R' s') (ht : Turns M R w M' R' w') : Mst w0 w' b d M' R' s' a m := h.turns (h.ma.disk' hd ht) (MTurns.of_turns ht)
theorem Mst.table (h : Mst w0 w b d M R s a m) (hT : Table w0) : Table w := hT.step h.below
theorem Mst.zero (h : Mst w0 w b d M R s a m) (hT : Table w0) : ¬ M 0 := fun x => by have := h.new 0 (.inr x); have := hT.pos; omega
/-- another page on the same disk, made by a call -/
theorem Mst.again {b' : Nat} (h : Mst w0 w b d M R s a m) (hm : MA w' b' d M R s a m'.nx m'.q) (hn : w.heap.size ≤ b') (hb : Below w.heap.size w w') : Mst w0 w' b' d M R s a m' :=
  ⟨hm, fun k hk => hk.elim (fun e => by have := h.below.size; omega) (fun x => h.new k (.inr x)), h.below.trans (hb.mono h.below.size)⟩
end
/-- a box beside a page and its disk -/
structure Kp (w : World) (g : Nat) (t : TypeId) (cs : Array Value) (b : Nat) (M : Nat → Prop) : Prop where
  blk : Blk w g t cs
  b : g ≠ b
  m : ¬ M g
theorem Kp.step {w w' : World} {g b : Nat} {t : TypeId} {cs : Array Value} {M : Nat → Prop} (h : Kp w g t cs b M) (hb : Below w.heap.size w w') : Kp w' g t cs b M := ⟨h.blk.below hb h.blk.lt, h.b, h.m⟩
theorem Kp.turns {w w' : World} {g b : Nat} {t : TypeId} {cs : Array Value} {M R M' R' : Nat → Prop} (h : Kp w g t cs b M) (ht : MTurns b M R w M' R' w') : Kp w' g t cs b M' :=
  ⟨(ht.within.block g h.blk.lt (fun x => x.elim h.b h.m)).trans h.blk, h.b, fun x => (ht.own g x).elim h.m (fun y => by have := h.blk.lt; omega)⟩
theorem Kp.new {w0 w w' : World} {b d g : Nat} {M R : Nat → Prop} {s : Dk} {a : Int} {m : Mo} {t : TypeId} {cs : Array Value} (h : Mst w0 w b d M R s a m) (hx : Blk w' g t cs) (hg : w.heap.size ≤ g) : Kp w' g t cs b M :=
  ⟨hx, fun e => by have := h.ma.blk.lt; omega, fun x => by have := h.ma.lt g (.inr x); omega⟩
theorem next64_of {q : Nat} (h : q + 1 < 18446744073709551616) : next64 q = q + 1 := Nat.mod_eq_of_lt h
set_option maxHeartbeats 4000000 in
set_option maxRecDepth 100000 in
theorem meta_write_long {w : World} {b : Nat} {body : List UInt8} (hb : 480 < body.length) : Calls Tryd.prog 20 #[.pointer (some ⟨b, 0, none⟩), .string (bst body)] w fun e w' => e = .returned (.int .i64 120) ∧ w' = w := by
  have HS := hid (msteps_long (w := w) (b := b) (body := body) (k := 4) hb)
  clear hb
  go_enter Tryd.func20, Tryd.ntmps20
  go_wp2_with fail
  go_fit HS.out
  rintro e w2 ⟨rfl, hw⟩
  obtain rfl : w = w2 := hw.symm
  go_wp2_with fail
  go_ret
  exact ⟨rfl, rfl⟩
section
variable {w0 w : World} {b d n : Nat} {M R : Nat → Prop} {s : Dk} {a : Int} {m : Mo} {body : List UInt8}
/-- THE STEPS, where there is room -/
theorem Mst.begin_ (h : Mst w0 w b d M R s a m) (hT : Table w0) (hk : MDk n s a) (hm : MOk s.view a m) (hn : 3 ≤ n) (ha : a + 1 < (n : Int)) (hq : m.q + 1 < 18446744073709551616) (hb : body.length ≤ 480) (k : Int) :
    Calls Tryd.prog 14 #[.pointer (some ⟨b, 0, none⟩), .string (bst body), .int .i64 k] w fun e w' => e = .returned (.tuple #[.bool (decide (4 ≤ k)), .int .i64 0]) ∧ ∃ M' R', Mst w0 w' b d M' R' (mdisk s (a + (m.nx : Int)) (renc (m.q + 1) body) k) a (if 4 ≤ k then m.next body else m) ∧ MTurns b M R w M' R' w' := by
  have h1 := msteps_is h.ma (h.zero hT) (h.table hT) hb (by rw [hk.pend]; decide) k
  obtain ⟨hw, -, -⟩ := hk.steps hm hn h.ma.a0 ha hq hb rfl
  rw [next64_of hq] at h1
  have hwy : mwhy s (a + (m.nx : Int)) (renc (m.q + 1) body) k = 0 := by
    by_cases h3 : k < 3
    · exact mwhy_low h3
    · rw [mwhy_high (by omega)]; exact hw
  have hdn : mdone s (a + (m.nx : Int)) (renc (m.q + 1) body) k = decide (4 ≤ k) := by
    unfold mdone
    rw [decide_eq_true hw, Bool.and_true]
  rw [hwy, hdn] at h1
  refine h1.mono fun e w' ⟨he, M', R', hma, ht⟩ => ⟨he, M', R', h.turns ?_ ht, ht⟩
  by_cases h4 : 4 ≤ k
  · rw [if_pos h4]
    rw [if_pos (by simpa using h4), if_pos (by simpa using h4)] at hma
    exact hma
  · rw [if_neg h4]
    rw [if_neg (by simpa using h4), if_neg (by simpa using h4)] at hma
    exact hma
set_option maxHeartbeats 4000000 in
set_option maxRecDepth 100000 in
theorem Mst.write (h : Mst w0 w b d M R s a m) (hT : Table w0) (hk : MDk n s a) (hm : MOk s.view a m) (hn : 3 ≤ n) (ha : a + 1 < (n : Int)) (hq : m.q + 1 < 18446744073709551616) (hb : body.length ≤ 480) :
    Calls Tryd.prog 20 #[.pointer (some ⟨b, 0, none⟩), .string (bst body)] w fun e w' => e = .returned (.int .i64 0) ∧ ∃ M' R' s', Mst w0 w' b d M' R' s' a (m.next body) ∧ MDk n s' a ∧ MOk s'.view a (m.next body) := by
  obtain ⟨hw, hd4, hm4⟩ := hk.steps hm hn h.ma.a0 ha hq hb rfl
  have hs := h.begin_ hT hk hm hn ha hq hb 4
  rw [mdisk_high (by decide) hw, if_pos (by decide), decide_eq_true (by decide)] at hs
  have HS := hid hs
  have HD := hid (And.intro hd4 hm4)
  clear h hT hk hm hn ha hq hb hw hd4 hm4 hs
  go_enter Tryd.func20, Tryd.ntmps20
  go_wp2_with fail
  go_fit HS.out
  rintro e w2 ⟨rfl, M2, R2, hst, -⟩
  have HST := hid hst
  clear hst
  go_wp2_with fail
  go_ret
  exact ⟨rfl, M2, R2, _, HST.out, HD.out.1, HD.out.2⟩
/-- OPENED -/
theorem Mst.open_ (h : Mst w0 w b d M R s a m) (hk : MDk n s a) {m' : Mo} (hm : MOk s.view a m') :
    Calls Tryd.prog 9 #[.pointer (some ⟨d, 0, none⟩), .int .i64 a] w fun e w' => ∃ b', e = .returned (.tuple #[.pointer (some ⟨b', 0, none⟩), .string (bst m'.b), .int .i64 (m'.e : Int)]) ∧ Mst w0 w' b' d M R s a m' ∧ Below w.heap.size w w' := by
  have h1 := meta_yes h.ma.disk (a := a) (by have := h.ma.a0; omega) (by have := h.ma.a1; omega) (fun i b hb => hk.len i b hb)
  rw [hm.opened] at h1
  exact h1.mono fun e w' ⟨b', he, hma, hn, hb⟩ => ⟨b', he, h.again hma hn hb, hb⟩
end
/-- opened for the first time -/
theorem meta_first {w0 w : World} {d n : Nat} {M R : Nat → Prop} {a : Int} (hd : DA6 w d M R (Dk.new n)) (hnew : ∀ k, M k ∨ R k → w0.heap.size ≤ k) (hb0 : Below w0.heap.size w0 w) (h0 : 0 ≤ a) (h1 : a ≤ 65534) :
    Calls Tryd.prog 9 #[.pointer (some ⟨d, 0, none⟩), .int .i64 a] w fun e w' => ∃ b', e = .returned (.tuple #[.pointer (some ⟨b', 0, none⟩), .string ⟨#[]⟩, .int .i64 121]) ∧ Mst w0 w' b' d M R (Dk.new n) a mo0 := by
  have h2 := meta_yes hd (a := a) (by omega) (by omega) (fun i b hb => (MDk.new (n := n) a).len i b hb)
  rw [(MOk.new (n := n) a).opened] at h2
  exact h2.mono fun e w' ⟨b', he, hma, hn, hb⟩ => ⟨b', he, hma, fun k hk => hk.elim (fun e => by have := hb0.size; omega) (fun x => hnew k (.inl x)), hb0.trans (hb.mono hb0.size)⟩

end Go.Proofs.YtngclmjefadokaaDoor
