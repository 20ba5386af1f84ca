/-
  The landed log in memory; its small calls.
-/
import Derived.Test.YtobmdmbjmjdfjaaGreatDoorDFaceIs
import Derived.Test.YtobmdmbjmjdfjaaGreatDoorJWl
namespace Go.Proofs.YtobmdmbjmjdfjaaGreatDoor
open Go Go.RowKit

abbrev En := Nat × Nat
def Sg.en (x : Sg) : En := (x.i, x.base)
def eEn : Enc En := ⟨2, fun x => [.int .i64 (x.1 : Int), .int .u64 (x.2 : Int)], fun _ => rfl, fun _ u h => by simp at h; rcases h with rfl | rfl <;> rfl, by decide⟩
def curE (l : Wl) : En := if l.stream = [] then (0, 0) else (l.live.getLast?.map (·.en)).getD (0, 0)
theorem curE_nil {l : Wl} (h : l.stream = []) : curE l = (0, 0) := if_pos h
structure LPl (l : Wl) : Prop where
  n2 : 2 ≤ l.n
  n : l.n ≤ 64
  s1 : 1 ≤ l.size
  size : l.size ≤ 64
  place : l.at_ + l.n * l.size ≤ 65536
  nodup : (l.live.map (·.i)).Nodup
  lt : ∀ x ∈ l.live, x.i < l.n ∧ x.base < 18446744073709551616
  last : l.last < 18446744073709551616
  synced : l.synced < 18446744073709551616
  stream : l.stream.length ≤ 512 * l.size
  cur : l.stream ≠ [] → l.live ≠ []
theorem LPl.live {l : Wl} (h : LPl l) : l.live.length ≤ 64 := by
  have := nodup_le h.nodup (n := l.n) (fun x hx => by obtain ⟨y, hy, rfl⟩ := List.mem_map.1 hx; exact (h.lt y hy).1)
  rw [List.length_map] at this
  exact Nat.le_trans this h.n
theorem LPl.at_ {l : Wl} (h : LPl l) {i : Nat} (hi : i ≤ l.n) : l.at_ + i * l.size ≤ 65536 := Nat.le_trans (Nat.add_le_add_left (Nat.mul_le_mul_right _ hi) _) h.place
structure LIn (w : World) (b d : Nat) (A : Option Addr) (c : Nat) (C : Option Addr) (cc : Nat) (N : Nat → Prop) (l : Wl) : Prop where
  blk : Blk w b 76 #[.pointer (some ⟨d, 0, none⟩), .int .i64 (l.at_ : Int), .int .i64 (l.n : Int), .int .i64 (l.size : Int), .slice A l.live.length c, .int .u64 (l.last : Int), .int .u64 (l.synced : Int), .int .i64 ((curE l).1 : Int), .int .u64 ((curE l).2 : Int), .slice C l.stream.length cc]
  used : GRow eEn 73 w 0 A l.live.length c (l.live.map (·.en))
  bytes : Row w 0 5 C l.stream.length cc l.stream
  nil : C = none ↔ l.stream = []
  mb : N b
  mu : ∀ g, (Value.slice A l.live.length c).ownBlock = some g → N g
  mc : ∀ g, (Value.slice C l.stream.length cc).ownBlock = some g → N g
  lt : ∀ k, N k → k < w.heap.size
  pl : LPl l
theorem own_off {w : World} {base n k b : Nat} {e t : TypeId} {v : Value} {xs : List Value} {cs : Array Value} (h : w.ownsRow base e k v n xs) (hb : Blk w b t cs) (hne : e ≠ t) : v.ownBlock ≠ some b := by
  rcases h.2 with ⟨rfl, _⟩ | ⟨g, cap, cur, rfl, _, hg, _⟩
  · simp [Value.ownBlock]
  · intro he
    have : g = b := by simpa [Value.ownBlock] using he
    subst this
    unfold Blk at hb
    rw [hg] at hb
    injection hb with hb
    injection hb with _ ht
    exact hne ht
theorem grow_of {α : Type} {E : Enc α} {e : TypeId} {w w' : World} {base m c : Nat} {A : Option Addr} {l : List α} {N : Nat → Prop} (h : GRow E e w base A m c l) (hm : ∀ g, (Value.slice A m c).ownBlock = some g → N g) (hk : ∀ k, N k → w'.heap[k]? = w.heap[k]?) : GRow E e w' base A m c l := by
  refine ⟨h.1, h.2.1, ?_⟩
  rcases h.2.2 with h0 | ⟨g, cap, cur, hv, hg, hc, r⟩
  · exact .inl h0
  · exact .inr ⟨g, cap, cur, hv, hg, (hk g (hm g (by rw [hv]; rfl))).trans hc, r⟩
theorem row_of {e : TypeId} {w w' : World} {base m c : Nat} {A : Option Addr} {l : List UInt8} {N : Nat → Prop} (h : Row w base e A m c l) (hm : ∀ g, (Value.slice A m c).ownBlock = some g → N g) (hk : ∀ k, N k → w'.heap[k]? = w.heap[k]?) : Row w' base e A m c l := by
  refine ⟨h.1, h.2.1, ?_⟩
  rcases h.2.2 with h0 | ⟨g, cap, cur, hv, hg, hc, r⟩
  · exact .inl h0
  · exact .inr ⟨g, cap, cur, hv, hg, (hk g (hm g (by rw [hv]; rfl))).trans hc, r⟩
section
variable {w w' : World} {b d c cc : Nat} {A C : Option Addr} {N N' : Nat → Prop} {l : Wl}
theorem LIn.keep (h : LIn w b d A c C cc N l) (hs : w.heap.size ≤ w'.heap.size) (hk : ∀ k, N k → w'.heap[k]? = w.heap[k]?) : LIn w' b d A c C cc N l :=
  ⟨(hk b h.mb).trans h.blk, grow_of h.used h.mu hk, row_of h.bytes h.mc hk, h.nil, h.mb, h.mu, h.mc, fun k hn => Nat.lt_of_lt_of_le (h.lt k hn) hs, h.pl⟩
theorem LIn.more (h : LIn w b d A c C cc N l) (hm : ∀ k, N k → N' k) (hl : ∀ k, N' k → k < w.heap.size) : LIn w b d A c C cc N' l := ⟨h.blk, h.used, h.bytes, h.nil, hm b h.mb, fun g hg => hm g (h.mu g hg), fun g hg => hm g (h.mc g hg), hl, h.pl⟩
theorem LIn.below (h : LIn w b d A c C cc N l) (hb : Below w.heap.size w w') : LIn w' b d A c C cc N l := h.keep hb.size fun k hk => hb.block k (h.lt k hk)
theorem LIn.within {M : Nat → Prop} (h : LIn w b d A c C cc N l) (ht : Within M w w') (ha : ∀ k, N k → ¬ M k) : LIn w' b d A c C cc N l := h.keep ht.size fun k hk => ht.block k (h.lt k hk) (ha k hk)
end
def LA (w : World) (b d : Nat) (N : Nat → Prop) (l : Wl) : Prop := ∃ A c C cc, LIn w b d A c C cc N l
structure WA (w : World) (b d : Nat) (N M R : Nat → Prop) (s : Dk) (l : Wl) : Prop where
  log : LA w b d N l
  disk : DA6 w d M R s
  apart : ∀ k, N k → ¬ M k ∧ ¬ R k
theorem DA6.lt {w : World} {d : Nat} {M R : Nat → Prop} {s : Dk} (h : DA6 w d M R s) : ∀ k, M k ∨ R k → k < w.heap.size := face.lt h
theorem DA6.keep {w w' : World} {d : Nat} {M R : Nat → Prop} {s : Dk} (h : DA6 w d M R s) (hs : w.heap.size ≤ w'.heap.size) (hk : ∀ k, M k ∨ R k → w'.heap[k]? = w.heap[k]?) : DA6 w' d M R s := face.keep h hs hk
theorem DA6.step {w w' : World} {d : Nat} {M R : Nat → Prop} {s : Dk} (h : DA6 w d M R s) (hb : Below w.heap.size w w') : DA6 w' d M R s := face.step h hb
structure LTurns (N M R : Nat → Prop) (w : World) (N' M' R' : Nat → Prop) (w' : World) : Prop where
  within : Within (fun k => N k ∨ M k) w w'
  own : ∀ k, N' k ∨ M' k → (N k ∨ M k) ∨ w.heap.size ≤ k
  held : ∀ k, R' k → R k ∨ w.heap.size ≤ k
theorem Within.mono {M M' : Nat → Prop} {w w' : World} (h : Within M w w') (hm : ∀ k, M k → M' k) : Within M' w w' := ⟨h.os, h.tape, h.output, h.size, fun k hk hn => h.block k hk fun x => hn (hm k x)⟩
theorem Within.drew (M : Nat → Prop) (w : World) : Within M w w.drew := Within.of_below (Beyond.drew w)
theorem Within.of_turns {M R M' R' : Nat → Prop} {w w' : World} (h : Turns M R w M' R' w') : Within M w w' := ⟨h.os, h.tape, h.output, h.size, h.block⟩
theorem Within.then {M M' : Nat → Prop} {a b c : World} (h : Within M a b) (k : Within M' b c) (hm : ∀ i, M' i → M i ∨ a.heap.size ≤ i) : Within M a c :=
  ⟨k.os.trans h.os, k.tape.trans h.tape, k.output.trans h.output, Nat.le_trans h.size k.size, fun i hi hn => (k.block i (Nat.lt_of_lt_of_le hi h.size) (fun x => (hm i x).elim hn (by omega))).trans (h.block i hi hn)⟩
theorem LTurns.refl (N M R : Nat → Prop) (w : World) : LTurns N M R w N M R w := ⟨Within.refl _ _, fun _ h => .inl h, fun _ h => .inl h⟩
theorem LTurns.of_below {N M R : Nat → Prop} {w w' : World} (h : Below w.heap.size w w') : LTurns N M R w N M R w' := ⟨Within.of_below h, fun _ h => .inl h, fun _ h => .inl h⟩
theorem LTurns.trans {N M R N' M' R' N2 M2 R2 : Nat → Prop} {a b c : World} (h : LTurns N M R a N' M' R' b) (k : LTurns N' M' R' b N2 M2 R2 c) : LTurns N M R a N2 M2 R2 c :=
  ⟨h.within.then k.within h.own, fun i hi => (k.own i hi).elim (h.own i) (fun x => .inr (Nat.le_trans h.within.size x)), fun i hi => (k.held i hi).elim (h.held i) (fun x => .inr (Nat.le_trans h.within.size x))⟩
theorem LTurns.of_turns {N M R M' R' : Nat → Prop} {w w' : World} (h : Turns M R w M' R' w') : LTurns N M R w N M' R' w' :=
  ⟨(Within.of_turns h).mono fun _ x => .inr x, fun k hk => hk.elim (fun x => .inl (.inl x)) (fun x => (h.own k x).imp .inr id), h.held⟩
theorem LTurns.of_only {N M R : Nat → Prop} {w w' : World} {b : Nat} (h : Only b w w') (hb : N b) : LTurns N M R w N M R w' := ⟨Within.of_only h (.inl (.inl hb)), fun _ x => .inl x, fun _ x => .inl x⟩
theorem LTurns.behind {N M R N' M' R' : Nat → Prop} {w0 w w' : World} (h : Below w0.heap.size w0 w) (k : LTurns N M R w N' M' R' w') : LTurns N M R w0 N' M' R' w' := (LTurns.of_below h).trans k
section
variable {w w' : World} {b d : Nat} {N M R M' R' : Nat → Prop} {s s' : Dk} {l l' : Wl}
theorem WA.step (h : WA w b d N M R s l) (hb : Below w.heap.size w w') : WA w' b d N M R s l := by
  obtain ⟨⟨A, c, C, cc, h1⟩, h2, h3⟩ := h
  exact ⟨⟨A, c, C, cc, h1.below hb⟩, h2.step hb, h3⟩
theorem WA.disk' (h : WA w b d N M R s l) (hd : DA6 w' d M' R' s') (ht : Turns M R w M' R' w') : WA w' b d N M' R' s' l := by
  obtain ⟨⟨A, c, C, cc, h1⟩, h2, h3⟩ := h
  exact ⟨⟨A, c, C, cc, h1.within (Within.of_turns ht) fun k hk => (h3 k hk).1⟩, hd, fun k hk => ⟨fun x => (ht.own k x).elim (h3 k hk).1 (fun y => by have := h1.lt k hk; omega), fun x => (ht.held k x).elim (h3 k hk).2 (fun y => by have := h1.lt k hk; omega)⟩⟩
theorem WA.log' (h : WA w b d N M R s l) (hl : LA w' b d N l') (ho : Only b w w') : WA w' b d N M R s l' := by
  obtain ⟨⟨A, c, C, cc, h1⟩, h2, h3⟩ := h
  exact ⟨hl, h2.keep ho.size fun k hk => ho.block k (h2.lt k hk) (fun e => by
    injection e with e
    subst e
    exact hk.elim (h3 _ h1.mb).1 (h3 _ h1.mb).2), h3⟩
end

set_option maxHeartbeats 4000000 in
set_option maxRecDepth 100000 in
theorem last_is {w : World} {b d c cc : Nat} {A C : Option Addr} {N : Nat → Prop} {l : Wl} (h : LIn w b d A c C cc N l) : Calls Tryz.prog 20 #[.pointer (some ⟨b, 0, none⟩)] w fun e w' => e = .returned (.int .u64 (l.last : Int)) ∧ w' = w := by
  have x0 := h.blk.cell 0
  have x1 := h.blk.cell 1
  have x2 := h.blk.cell 2
  have x3 := h.blk.cell 3
  have x4 := h.blk.cell 4
  have x5 := h.blk.cell 5
  have x6 := h.blk.cell 6
  have x7 := h.blk.cell 7
  have x8 := h.blk.cell 8
  have x9 := h.blk.cell 9
  clear h
  go_enter Tryz.func20, Tryz.ntmps20
  go_wp2_with fail
  go_ret
  exact ⟨rfl, rfl⟩

set_option maxHeartbeats 4000000 in
set_option maxRecDepth 100000 in
theorem live_is {w : World} {b d c cc : Nat} {A C : Option Addr} {N : Nat → Prop} {l : Wl} (h : LIn w b d A c C cc N l) : Calls Tryz.prog 21 #[.pointer (some ⟨b, 0, none⟩)] w fun e w' => e = .returned (.int .i64 (l.live.length : Int)) ∧ w' = w := by
  have x0 := h.blk.cell 0
  have x1 := h.blk.cell 1
  have x2 := h.blk.cell 2
  have x3 := h.blk.cell 3
  have x4 := h.blk.cell 4
  have x5 := h.blk.cell 5
  have x6 := h.blk.cell 6
  have x7 := h.blk.cell 7
  have x8 := h.blk.cell 8
  have x9 := h.blk.cell 9
  clear h
  go_enter Tryz.func21, Tryz.ntmps21
  go_wp2_with fail
  go_ret
  exact ⟨rfl, rfl⟩

set_option maxHeartbeats 4000000 in
set_option maxRecDepth 100000 in
theorem synced_is {w : World} {b d c cc : Nat} {A C : Option Addr} {N : Nat → Prop} {l : Wl} (h : LIn w b d A c C cc N l) : Calls Tryz.prog 22 #[.pointer (some ⟨b, 0, none⟩)] w fun e w' => e = .returned (.int .u64 (l.synced : Int)) ∧ w' = w := by
  have x0 := h.blk.cell 0
  have x1 := h.blk.cell 1
  have x2 := h.blk.cell 2
  have x3 := h.blk.cell 3
  have x4 := h.blk.cell 4
  have x5 := h.blk.cell 5
  have x6 := h.blk.cell 6
  have x7 := h.blk.cell 7
  have x8 := h.blk.cell 8
  have x9 := h.blk.cell 9
  clear h
  go_enter Tryz.func22, Tryz.ntmps22
  go_wp2_with fail
  go_ret
  exact ⟨rfl, rfl⟩

set_option maxHeartbeats 4000000 in
set_option maxRecDepth 100000 in
theorem size_is {w : World} {b d c cc : Nat} {A C : Option Addr} {N : Nat → Prop} {l : Wl} (h : LIn w b d A c C cc N l) : Calls Tryz.prog 36 #[.pointer (some ⟨b, 0, none⟩)] w fun e w' => e = .returned (.int .i64 ((512 * l.size : Nat) : Int)) ∧ w' = w := by
  have x0 := h.blk.cell 0
  have x1 := h.blk.cell 1
  have x2 := h.blk.cell 2
  have x3 := h.blk.cell 3
  have x4 := h.blk.cell 4
  have x5 := h.blk.cell 5
  have x6 := h.blk.cell 6
  have x7 := h.blk.cell 7
  have x8 := h.blk.cell 8
  have x9 := h.blk.cell 9
  have hw : IntKind.i64.wrap ((l.size : Int) * 512) = ((512 * l.size : Nat) : Int) := by rw [IntKind.wrap_i64]; have := h.pl.size; omega
  clear h
  go_enter Tryz.func36, Tryz.ntmps36
  go_wp2_with fail
  go_ret
  exact ⟨rfl, rfl⟩

set_option maxHeartbeats 4000000 in
set_option maxRecDepth 100000 in
theorem sector_is {w : World} {b d c cc : Nat} {A C : Option Addr} {N : Nat → Prop} {l : Wl} (h : LIn w b d A c C cc N l) {i : Nat} (hi : i ≤ l.n) : Calls Tryz.prog 53 #[.pointer (some ⟨b, 0, none⟩), .int .i64 (i : Int)] w fun e w' => e = .returned (.int .i64 (l.place i)) ∧ Below w.heap.size w w' := by
  have x0 := h.blk.cell 0
  have x1 := h.blk.cell 1
  have x2 := h.blk.cell 2
  have x3 := h.blk.cell 3
  have x4 := h.blk.cell 4
  have x5 := h.blk.cell 5
  have x6 := h.blk.cell 6
  have x7 := h.blk.cell 7
  have x8 := h.blk.cell 8
  have x9 := h.blk.cell 9
  have hp := h.pl.at_ hi
  have hm : (i : Int) * (l.size : Int) = ((i * l.size : Nat) : Int) := by simp
  have hw1 : IntKind.i64.wrap ((i : Int) * (l.size : Int)) = (i : Int) * (l.size : Int) := by rw [IntKind.wrap_i64]; omega
  have hw2 : IntKind.i64.wrap ((l.at_ : Int) + (i : Int) * (l.size : Int)) = (l.at_ : Int) + (i : Int) * (l.size : Int) := by rw [IntKind.wrap_i64]; omega
  have HPL := hid (show l.place i = (l.at_ : Int) + (i : Int) * (l.size : Int) by unfold Wl.place; simp)
  clear h hp hm
  go_enter Tryz.func53, Tryz.ntmps53
  go_wp2_with fail
  go_quiet (fail)
  generalize hw0 : World.drewN _ _ = w0
  go_wp2_with fail
  go_ret
  rw [HPL.out, ← hw0]
  exact ⟨rfl, below_drewN (Below.refl _ _) _⟩

set_option maxHeartbeats 4000000 in
set_option maxRecDepth 100000 in
theorem stop_is {w : World} {b d c cc : Nat} {A C : Option Addr} {N : Nat → Prop} {l : Wl} (h : LIn w b d A c C cc N l) : Calls Tryz.prog 40 #[.pointer (some ⟨b, 0, none⟩)] w fun e w' => e = .returned (.tuple #[]) ∧ LA w' b d N { l with stream := [] } ∧ Only b w w' := by
  have HH := hid h
  have x0 := h.blk.cell 0
  have xf0 := h.blk.free 0
  have x1 := h.blk.cell 1
  have xf1 := h.blk.free 1
  have x2 := h.blk.cell 2
  have xf2 := h.blk.free 2
  have x3 := h.blk.cell 3
  have xf3 := h.blk.free 3
  have x4 := h.blk.cell 4
  have xf4 := h.blk.free 4
  have x5 := h.blk.cell 5
  have xf5 := h.blk.free 5
  have x6 := h.blk.cell 6
  have xf6 := h.blk.free 6
  have x7 := h.blk.cell 7
  have xf7 := h.blk.free 7
  have x8 := h.blk.cell 8
  have xf8 := h.blk.free 8
  have x9 := h.blk.cell 9
  have xf9 := h.blk.free 9
  clear h
  go_enter Tryz.func40, Tryz.ntmps40
  go_wp2_with fail
  go_end0
  have h := HH.out
  have ho : Only b w (((w.setCell ⟨b, 7, none⟩ (.int .i64 0)).setCell ⟨b, 8, none⟩ (.int .u64 0)).setCell ⟨b, 9, none⟩ (.slice none 0 0)) := (((Only.refl _ _).set _).set _).set _
  have hl : ∀ k, N k → k < (((w.setCell ⟨b, 7, none⟩ (.int .i64 0)).setCell ⟨b, 8, none⟩ (.int .u64 0)).setCell ⟨b, 9, none⟩ (.slice none 0 0)).heap.size := fun k hk => Nat.lt_of_lt_of_le (h.lt k hk) ho.size
  have hp := h.pl
  refine ⟨rfl, ⟨A, c, none, 0, ?_, h.used.kept ho ?_, ⟨rfl, World.ownsRow_nil _ _ _ _⟩, ⟨fun _ => rfl, fun _ => rfl⟩, h.mb, h.mu, (fun g hg => by cases hg), hl,
    ⟨hp.n2, hp.n, hp.s1, hp.size, hp.place, hp.nodup, hp.lt, hp.last, hp.synced, Nat.zero_le _, fun x => absurd rfl x⟩⟩, ho⟩
  · have := ((h.blk.set 7 (.int .i64 0)).set 8 (.int .u64 0)).set 9 (.slice none 0 0)
    rw [curE_nil (l := { l with stream := [] }) rfl]
    simpa using this
  · exact own_off h.used.2 h.blk (by decide) |> .inr

set_option maxHeartbeats 4000000 in
set_option maxRecDepth 100000 in
theorem sync_log {w : World} {b d : Nat} {N M R : Nat → Prop} {s : Dk} {l : Wl} (h : WA w b d N M R s l) :
    Calls Tryz.prog 15 #[.pointer (some ⟨b, 0, none⟩)] w fun e w' => e = .returned (.tuple #[]) ∧ ∃ M' R', WA w' b d N M' R' s.sync { l with synced := l.last } ∧ LTurns N M R w N M' R' w' := by
  obtain ⟨A, c, C, cc, hl⟩ := h.log
  have HH := hid h
  have x0 := hl.blk.cell 0
  have x1 := hl.blk.cell 1
  have x2 := hl.blk.cell 2
  have x3 := hl.blk.cell 3
  have x4 := hl.blk.cell 4
  have x5 := hl.blk.cell 5
  have x6 := hl.blk.cell 6
  have x7 := hl.blk.cell 7
  have x8 := hl.blk.cell 8
  have x9 := hl.blk.cell 9
  have HS := hid (face.sync h.disk)
  clear h hl
  go_enter Tryz.func15, Tryz.ntmps15
  go_wp2_with fail
  go_fit HS.out
  rintro e w1 ⟨rfl, M', R', hd, ht⟩
  have HW := hid (HH.out.disk' hd ht)
  have HT := hid (LTurns.of_turns (N := N) ht)
  clear hd ht HS x0 x1 x2 x3 x4 x5 x6 x7 x8 x9
  obtain ⟨A, c, C, cc, hl⟩ := HW.out.log
  have x0 := hl.blk.cell 0
  have xf0 := hl.blk.free 0
  have x1 := hl.blk.cell 1
  have xf1 := hl.blk.free 1
  have x2 := hl.blk.cell 2
  have xf2 := hl.blk.free 2
  have x3 := hl.blk.cell 3
  have xf3 := hl.blk.free 3
  have x4 := hl.blk.cell 4
  have xf4 := hl.blk.free 4
  have x5 := hl.blk.cell 5
  have xf5 := hl.blk.free 5
  have x6 := hl.blk.cell 6
  have xf6 := hl.blk.free 6
  have x7 := hl.blk.cell 7
  have xf7 := hl.blk.free 7
  have x8 := hl.blk.cell 8
  have xf8 := hl.blk.free 8
  have x9 := hl.blk.cell 9
  have xf9 := hl.blk.free 9
  have HL := hid hl
  clear hl
  go_wp2_with fail
  go_end0
  have ho : Only b w1 (w1.setCell ⟨b, 6, none⟩ (.int .u64 (l.last : Int))) := (Only.refl _ _).set _
  have h := HL.out
  have hp := h.pl
  refine ⟨rfl, M', R', HW.out.log' ⟨A, c, C, cc, ?_, h.used.kept ho (.inr (own_off h.used.2 h.blk (by decide))), ⟨h.bytes.1, h.bytes.2.kept ho (.inr (own_off h.bytes.2 h.blk (by decide)))⟩, h.nil, h.mb, h.mu, h.mc, fun k hk => Nat.lt_of_lt_of_le (h.lt k hk) ho.size,
    ⟨hp.n2, hp.n, hp.s1, hp.size, hp.place, hp.nodup, hp.lt, hp.last, hp.last, hp.stream, hp.cur⟩⟩ ho, HT.out.trans (LTurns.of_only ho h.mb)⟩
  have := h.blk.set 6 (.int .u64 (l.last : Int))
  rw [show curE { l with synced := l.last } = curE l from rfl]
  simpa using this

end Go.Proofs.YtobmdmbjmjdfjaaGreatDoor
