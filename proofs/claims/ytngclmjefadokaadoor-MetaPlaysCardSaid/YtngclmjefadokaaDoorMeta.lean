/-
  The landed meta page in memory; its small calls; what is read of a sector.
-/
import Derived.Test.YtngclmjefadokaaDoorMt
import Derived.Test.YtngclmjefadokaaDoorDFaceIs
import Derived.Test.YtngclmjefadokaaDoorJRecF

namespace Go.Proofs.YtngclmjefadokaaDoor
open Go Go.RowKit

/-- the page at block b, over the disk at block d -/
structure MA (w : World) (b d : Nat) (M R : Nat → Prop) (s : Dk) (a : Int) (nx q : Nat) : Prop where
  blk : Blk w b 69 #[.pointer (some ⟨d, 0, none⟩), .int .i64 a, .int .i64 (nx : Int), .int .u64 (q : Int)]
  disk : DA6 w d M R s
  m : ¬ M b
  r : ¬ R b
  a0 : 0 ≤ a
  a1 : a ≤ 65534
  nx1 : nx ≤ 1
  q64 : q < 18446744073709551616
/-- what a call on a page turns: the page's block, the disk's own -/
structure MTurns (b : Nat) (M R : Nat → Prop) (w : World) (M' R' : Nat → Prop) (w' : World) : Prop where
  within : Within (fun k => k = b ∨ M k) w w'
  own : ∀ k, M' k → M k ∨ w.heap.size ≤ k
  held : ∀ k, R' k → R k ∨ w.heap.size ≤ k
theorem DA6.lt {w : World} {d : Nat} {M R : Nat → Prop} {s : Dk} (h : DA6 w d M R s) : ∀ k, M k ∨ R k → k < w.heap.size := face.lt h
theorem DA6.keep {w w' : World} {d : Nat} {M R : Nat → Prop} {s : Dk} (h : DA6 w d M R s) (hs : w.heap.size ≤ w'.heap.size) (hk : ∀ k, M k ∨ R k → w'.heap[k]? = w.heap[k]?) : DA6 w' d M R s := face.keep h hs hk
theorem DA6.step {w w' : World} {d : Nat} {M R : Nat → Prop} {s : Dk} (h : DA6 w d M R s) (hb : Below w.heap.size w w') : DA6 w' d M R s := face.step h hb
theorem Within.mono {M M' : Nat → Prop} {w w' : World} (h : Within M w w') (hm : ∀ k, M k → M' k) : Within M' w w' := ⟨h.os, h.tape, h.output, h.size, fun k hk hn => h.block k hk fun x => hn (hm k x)⟩
theorem Within.of_turns {M R M' R' : Nat → Prop} {w w' : World} (h : Turns M R w M' R' w') : Within M w w' := ⟨h.os, h.tape, h.output, h.size, h.block⟩
theorem Within.then {M M' : Nat → Prop} {a b c : World} (h : Within M a b) (k : Within M' b c) (hm : ∀ i, M' i → M i ∨ a.heap.size ≤ i) : Within M a c :=
  ⟨k.os.trans h.os, k.tape.trans h.tape, k.output.trans h.output, Nat.le_trans h.size k.size, fun i hi hn => (k.block i (Nat.lt_of_lt_of_le hi h.size) (fun x => (hm i x).elim hn (by omega))).trans (h.block i hi hn)⟩
section
variable {w w' w2 : World} {b d : Nat} {M R M' R' M2 R2 : Nat → Prop} {s s' : Dk} {a : Int} {nx q nx' q' : Nat}
theorem MTurns.refl (b : Nat) (M R : Nat → Prop) (w : World) : MTurns b M R w M R w := ⟨Within.refl _ _, fun _ h => .inl h, fun _ h => .inl h⟩
theorem MTurns.of_below (h : Below w.heap.size w w') : MTurns b M R w M R w' := ⟨Within.of_below h, fun _ h => .inl h, fun _ h => .inl h⟩
theorem MTurns.trans (h : MTurns b M R w M' R' w') (k : MTurns b M' R' w' M2 R2 w2) : MTurns b M R w M2 R2 w2 :=
  ⟨h.within.then k.within (fun i hi => hi.elim (fun x => .inl (.inl x)) (fun x => (h.own i x).imp .inr id)), fun i hi => (k.own i hi).elim (h.own i) (fun x => .inr (Nat.le_trans h.within.size x)), fun i hi => (k.held i hi).elim (h.held i) (fun x => .inr (Nat.le_trans h.within.size x))⟩
theorem MTurns.of_turns (h : Turns M R w M' R' w') : MTurns b M R w M' R' w' := ⟨(Within.of_turns h).mono fun _ x => .inr x, h.own, h.held⟩
theorem MTurns.of_only (h : Only b w w') : MTurns b M R w M R w' := ⟨Within.of_only h (.inl (.inl rfl)), fun _ x => .inl x, fun _ x => .inl x⟩
theorem MTurns.behind (h : Below w.heap.size w w') (k : MTurns b M R w' M' R' w2) : MTurns b M R w M' R' w2 := (MTurns.of_below h).trans k
theorem MA.step (h : MA w b d M R s a nx q) (hb : Below w.heap.size w w') : MA w' b d M R s a nx q := ⟨h.blk.below hb h.blk.lt, h.disk.step hb, h.m, h.r, h.a0, h.a1, h.nx1, h.q64⟩
/-- a call on the disk, beside the page -/
theorem MA.disk' (h : MA w b d M R s a nx q) (hd : DA6 w' d M' R' s') (ht : Turns M R w M' R' w') : MA w' b d M' R' s' a nx q :=
  ⟨(ht.block b h.blk.lt h.m).trans h.blk, hd, fun x => (ht.own b x).elim h.m (fun y => by have := h.blk.lt; omega), fun x => (ht.held b x).elim h.r (fun y => by have := h.blk.lt; omega), h.a0, h.a1, h.nx1, h.q64⟩
/-- the page's own block has turned -/
theorem MA.page (h : MA w b d M R s a nx q) (hl : Blk w' b 69 #[.pointer (some ⟨d, 0, none⟩), .int .i64 a, .int .i64 (nx' : Int), .int .u64 (q' : Int)]) (ho : Only b w w') (h1 : nx' ≤ 1) (h2 : q' < 18446744073709551616) : MA w' b d M R s a nx' q' :=
  ⟨hl, h.disk.keep ho.size fun k hk => ho.block k (h.disk.lt k hk) (fun e => by
    injection e with e
    subst e
    exact hk.elim h.m h.r), h.m, h.r, h.a0, h.a1, h1, h2⟩
theorem MA.lt (h : MA w b d M R s a nx q) : ∀ k, k = b ∨ M k → k < w.heap.size := fun k hk => hk.elim (fun e => e ▸ h.blk.lt) (fun x => h.disk.lt k (.inl x))
end

theorem Only.after_below {w wa wb : World} (ho : Only w.heap.size wa wb) (ha : Below w.heap.size w wa) : Below w.heap.size w wb :=
  ⟨ho.os.trans ha.os, ho.tape.trans ha.tape, ho.output.trans ha.output, Nat.le_trans ha.size ho.size, fun k hk => (ho.block k (Nat.lt_of_lt_of_le hk ha.size) (fun e => by injection e; omega)).trans (ha.block k hk)⟩

set_option maxHeartbeats 4000000 in
set_option maxRecDepth 100000 in
theorem complete_is {w : World} {b : Nat} {p x y z : Value} (h : Blk w b 69 #[p, x, y, z]) {i : Nat} (hi : i ≤ 1) (q : Nat) :
    Calls Tryd.prog 23 #[.pointer (some ⟨b, 0, none⟩), .int .i64 (i : Int), .int .u64 (q : Int)] w fun e w' => e = .returned (.tuple #[]) ∧ Blk w' b 69 #[p, x, .int .i64 ((1 - i : Nat) : Int), .int .u64 (q : Int)] ∧ Only b w w' := by
  have hc : i = 0 ∨ i = 1 := by omega
  have x2 := h.cell 2
  have x3 := h.cell 3
  have f2 := h.free 2
  have f3 := h.free 3
  have HX := hid h
  clear h
  rcases hc with rfl | rfl
  · go_enter Tryd.func23, Tryd.ntmps23
    go_wp2_with fail
    go_end0
    exact ⟨rfl, by simpa using (HX.out.set 2 _).set 3 _, ((Only.refl _ _).set _).set _⟩
  · go_enter Tryd.func23, Tryd.ntmps23
    go_wp2_with fail
    go_end0
    exact ⟨rfl, by simpa using (HX.out.set 2 _).set 3 _, ((Only.refl _ _).set _).set _⟩

set_option maxHeartbeats 4000000 in
set_option maxRecDepth 100000 in
theorem number_is {w : World} {b : Nat} {p x y z : Value} (h : Blk w b 69 #[p, x, y, z]) : Calls Tryd.prog 17 #[.pointer (some ⟨b, 0, none⟩)] w fun e w' => e = .returned z ∧ w' = w := by
  have x3 := h.cell 3
  clear h
  go_enter Tryd.func17, Tryd.ntmps17
  go_wp2_with fail
  go_ret
  exact ⟨rfl, rfl⟩

theorem rget_nil : rget [] = none := by unfold rget; rw [if_pos (.inl (by decide))]
theorem msec_hit {b x : List UInt8} {q : Nat} (hg : rget b = some (q, x, b.length)) (h : 1 ≤ q) : msec (some b) = some (q, x) := by
  unfold msec
  dsimp only
  rw [hg]
  dsimp only
  rw [if_pos ⟨rfl, h⟩]
theorem msec_miss {b x : List UInt8} {q k : Nat} (hg : rget b = some (q, x, k)) (h : ¬ (k = b.length ∧ 1 ≤ q)) : msec (some b) = none := by
  unfold msec
  dsimp only
  rw [hg]
  dsimp only
  rw [if_neg h]
theorem msec_not {b : List UInt8} (hg : rget b = none) : msec (some b) = none := by
  unfold msec
  dsimp only
  rw [hg]

theorem drew_setM (W : World) (p : Addr) (u : Value) : W.drew.setCell p u = (W.setCell p u).drew := rfl
/-- what is answered of a sector -/
def VAns (e : Ending) (v : Option (List UInt8)) : Prop := ∃ (q : Nat) (x : List UInt8) (ok : Bool), e = .returned (.tuple #[.agg #[.int .u64 (q : Int), .string (bst x)], .bool ok]) ∧ q < 18446744073709551616 ∧ (ok = true ∧ msec v = some (q, x) ∨ ok = false ∧ msec v = none)
set_option maxHeartbeats 4000000 in
set_option maxRecDepth 100000 in
theorem valid_is {w : World} {d : Nat} {M R : Nat → Prop} {s : Dk} {i : Int} (h : DA6 w d M R s) (hl : ∀ b, s.view i = some b → b.length ≤ 512) :
    Calls Tryd.prog 22 #[.pointer (some ⟨d, 0, none⟩), .int .i64 i] w fun e w' => VAns e (s.view i) ∧ Below w.heap.size w w' := by
  have HR := hid (fun (W : World) (hW : Below w.heap.size w W) => face.read (i := i) (h.step hW))
  have HB1 := hid (show Below w.heap.size w (w.alloc (.cells #[.int .u64 0, .string ⟨#[]⟩] 71)) from (Below.refl _ _).alloc (Nat.le_refl _) _)
  have HX1 := hid (Blk.new w 71 #[.int .u64 0, .string ⟨#[]⟩])
  have HE := hid (fun (wa wb : World) (ha : Below w.heap.size w wa) (ho : Only w.heap.size wa wb) => ho.after_below ha)
  obtain ⟨v, hv⟩ : ∃ v, v = s.view i := ⟨_, rfl⟩
  rw [← hv] at HR hl ⊢
  clear h hv
  cases v with
  | none =>
    have HG := hid (fun W => rget_any.get (A := none) (m := 0) (c := 0) (B := 0) (l := []) (w := W) (At.nil _ _ _) rfl (Nat.le_refl _) (Nat.zero_le _) (by decide))
    rw [rget_nil] at HG
    have HQ := hid (show 0 < 18446744073709551616 by decide)
    have HM := hid (show msec none = none from rfl)
    clear hl
    go_enter Tryd.func22, Tryd.ntmps22
    go_upto_region 1 with fail
    generalize w.alloc (.cells #[.int .u64 0, .string ⟨#[]⟩] 71) = w1 at *
    go_wp2_with fail
    go_fit (HR.out w1 HB1.out)
    rintro e w2 ⟨rfl, hb2⟩
    have HX2 := hid (HX1.out.below hb2 HX1.out.lt)
    have HB2 := hid (below_step HB1.out hb2)
    clear hb2
    go_wp2_with fail
    go_fit (HG.out w2)
    rintro e w3 ⟨rfl, hb3⟩
    unfold recV
    have HX3 := hid (HX2.out.below hb3 HX2.out.lt)
    have HB3 := hid (below_step HB2.out hb3)
    obtain ⟨a0, a1, fa0, fa1⟩ := twoc HX3.out
    clear hb3
    have HR4 := hid (Blk.new w3 71 #[.int .u64 0, .string ⟨#[]⟩])
    have hb4 := (Below.refl w3.heap.size w3).alloc (Nat.le_refl _) (.cells #[.int .u64 0, .string ⟨#[]⟩] 71)
    have HX4 := hid (HX3.out.below hb4 HX3.out.lt)
    have HB4 := hid (below_step HB3.out hb4)
    have HLT4 := hid (show w.heap.size < w3.heap.size from HX3.out.lt)
    clear hb4 a0 a1 fa0 fa1
    go_upto_region 3 with fail
    generalize w3.alloc (.cells #[.int .u64 0, .string ⟨#[]⟩] 71) = w4 at *
    generalize w3.heap.size = g4 at *
    generalize hge : w.heap.size = g at *
    have HGE := hid hge
    clear hge
    obtain ⟨a0, a1, fa0, fa1⟩ := twoc HX4.out
    have z0 : ∀ W, Only g w4 W → W.cell? ⟨g4, 0, none⟩ = some (.int .u64 0) := fun W ho => (HR4.out.grown ho (fun e => by injection e; have := HLT4.out; omega)).cell 0
    have z1 : ∀ W, Only g w4 W → W.cell? ⟨g4, 1, none⟩ = some (.string ⟨#[]⟩) := fun W ho => (HR4.out.grown ho (fun e => by injection e; have := HLT4.out; omega)).cell 1
    refine wp_region_held_drew (S := Only g w4) (by kernel_rfl) (Only.refl g w4).drew (fun hS => ?_)
    refine stT 0 hS ?_
    try simp only [putr]
    refine stT 1 hS ?_
    try simp only [putr]
    refine stT 2 hS ?_
    try simp only [putr]
    first | (refine stT 3 hS ?_) | (refine stK 3 hS ?_)
    try simp only [putr]
    first | (refine stT 4 hS ?_) | (refine stK 4 hS ?_)
    try simp only [putr]
    first | (refine stT 5 hS ?_) | (refine stK 5 hS ?_)
    try simp only [putr]
    first | (refine stT 6 hS ?_) | (refine stK 6 hS ?_)
    try simp only [putr]
    refine stT 7 hS ?_
    try simp only [putr]
    refine stT 8 hS ?_
    try simp only [putr]
    first | (refine stT 9 hS ?_) | (refine stK 9 hS ?_)
    try simp only [putr]
    first | (refine stT 10 hS ?_) | (refine stK 10 hS ?_)
    try simp only [putr]
    first | (refine stT 11 hS ?_) | (refine stK 11 hS ?_)
    try simp only [putr]
    refine stT 12 hS ?_
    try simp only [putr]
    refine rdH [13] ?_
    refine rcH (fun K hK => ?_) AllReadyH.nil
    go_simp
    refine hK.out _ _ ((by have hz := Only.set (i := 1) (Only.set (i := 0) hS (.int .u64 0)) (.string ⟨#[]⟩); simpa only [drew_setM] using hz)) (fun hS13 => ?_)
    skip
    clear hK K hS
    have hS := hS13
    try simp only [Act.put]
    refine stT 14 hS ?_
    try simp only [putr]
    refine wpAnyH_done (by kernel_rfl) ?_ _
    have x0 := ((HX4.out.set 0 (.int .u64 0)).set 1 (.string ⟨#[]⟩)).cell 0
    have x1 := ((HX4.out.set 0 (.int .u64 0)).set 1 (.string ⟨#[]⟩)).cell 1
    go_wp2_with fail
    refine bodyPost_ret (v := .tuple #[.agg #[.int .u64 0, .string ⟨#[]⟩], .bool false]) (by simp [results, Tryd.results22, go_sem, *]) rfl ?_
    exact ⟨⟨0, [], false, rfl, HQ.out, .inr ⟨rfl, HM.out⟩⟩, by rw [HGE.out]; exact HE.out _ _ HB4.out hS13⟩
  | some bb =>
    have hl' := hl bb rfl
    clear hl
    cases hg : rget bb with
    | none =>
      have HM := hid (msec_not hg)
      have HQ := hid (show 0 < 18446744073709551616 by decide)
      go_enter Tryd.func22, Tryd.ntmps22
      go_upto_region 1 with fail
      generalize w.alloc (.cells #[.int .u64 0, .string ⟨#[]⟩] 71) = w1 at *
      go_wp2_with fail
      go_fit (HR.out w1 HB1.out)
      rintro e w2 ⟨⟨A, n, c, rfl, hA, hn, hc⟩, hb2⟩
      have HG := hid (rget_any.get (m := n) (c := c) hA hn hc (Nat.le_refl _) (by omega))
      rw [hg] at HG
      clear hA hn hc hg
      have HX2 := hid (HX1.out.below hb2 HX1.out.lt)
      have HB2 := hid (below_step HB1.out hb2)
      clear hb2
      go_wp2_with fail
      go_fit HG.out
      rintro e w3 ⟨rfl, hb3⟩
      unfold recV
      have HX3 := hid (HX2.out.below hb3 HX2.out.lt)
      have HB3 := hid (below_step HB2.out hb3)
      obtain ⟨a0, a1, fa0, fa1⟩ := twoc HX3.out
      clear hb3
      have HR4 := hid (Blk.new w3 71 #[.int .u64 0, .string ⟨#[]⟩])
      have hb4 := (Below.refl w3.heap.size w3).alloc (Nat.le_refl _) (.cells #[.int .u64 0, .string ⟨#[]⟩] 71)
      have HX4 := hid (HX3.out.below hb4 HX3.out.lt)
      have HB4 := hid (below_step HB3.out hb4)
      have HLT4 := hid (show w.heap.size < w3.heap.size from HX3.out.lt)
      clear hb4 a0 a1 fa0 fa1
      go_upto_region 3 with fail
      generalize w3.alloc (.cells #[.int .u64 0, .string ⟨#[]⟩] 71) = w4 at *
      generalize w3.heap.size = g4 at *
      generalize hge : w.heap.size = g at *
      have HGE := hid hge
      clear hge
      obtain ⟨a0, a1, fa0, fa1⟩ := twoc HX4.out
      have z0 : ∀ W, Only g w4 W → W.cell? ⟨g4, 0, none⟩ = some (.int .u64 0) := fun W ho => (HR4.out.grown ho (fun e => by injection e; have := HLT4.out; omega)).cell 0
      have z1 : ∀ W, Only g w4 W → W.cell? ⟨g4, 1, none⟩ = some (.string ⟨#[]⟩) := fun W ho => (HR4.out.grown ho (fun e => by injection e; have := HLT4.out; omega)).cell 1
      refine wp_region_held_drew (S := Only g w4) (by kernel_rfl) (Only.refl g w4).drew (fun hS => ?_)
      refine stT 0 hS ?_
      try simp only [putr]
      refine stT 1 hS ?_
      try simp only [putr]
      refine stT 2 hS ?_
      try simp only [putr]
      first | (refine stT 3 hS ?_) | (refine stK 3 hS ?_)
      try simp only [putr]
      first | (refine stT 4 hS ?_) | (refine stK 4 hS ?_)
      try simp only [putr]
      first | (refine stT 5 hS ?_) | (refine stK 5 hS ?_)
      try simp only [putr]
      first | (refine stT 6 hS ?_) | (refine stK 6 hS ?_)
      try simp only [putr]
      refine stT 7 hS ?_
      try simp only [putr]
      refine stT 8 hS ?_
      try simp only [putr]
      first | (refine stT 9 hS ?_) | (refine stK 9 hS ?_)
      try simp only [putr]
      first | (refine stT 10 hS ?_) | (refine stK 10 hS ?_)
      try simp only [putr]
      first | (refine stT 11 hS ?_) | (refine stK 11 hS ?_)
      try simp only [putr]
      refine stT 12 hS ?_
      try simp only [putr]
      refine rdH [13] ?_
      refine rcH (fun K hK => ?_) AllReadyH.nil
      go_simp
      refine hK.out _ _ ((by have hz := Only.set (i := 1) (Only.set (i := 0) hS (.int .u64 0)) (.string ⟨#[]⟩); simpa only [drew_setM] using hz)) (fun hS13 => ?_)
      skip
      clear hK K hS
      have hS := hS13
      try simp only [Act.put]
      refine stT 14 hS ?_
      try simp only [putr]
      refine wpAnyH_done (by kernel_rfl) ?_ _
      have x0 := ((HX4.out.set 0 (.int .u64 0)).set 1 (.string ⟨#[]⟩)).cell 0
      have x1 := ((HX4.out.set 0 (.int .u64 0)).set 1 (.string ⟨#[]⟩)).cell 1
      go_wp2_with fail
      refine bodyPost_ret (v := .tuple #[.agg #[.int .u64 0, .string ⟨#[]⟩], .bool false]) (by simp [results, Tryd.results22, go_sem, *]) rfl ?_
      exact ⟨⟨0, [], false, rfl, HQ.out, .inr ⟨rfl, HM.out⟩⟩, by rw [HGE.out]; exact HE.out _ _ HB4.out hS13⟩
    | some y =>
      obtain ⟨q, x, k⟩ := y
      have HQ := hid (rget_some hg).1
      by_cases hk : k = bb.length
      · by_cases h1 : 1 ≤ q
        · have HM := hid (msec_hit (hk ▸ hg) h1)
          have h1i : decide ((q : Int) ≥ 1) = true := by simp; omega
          go_enter Tryd.func22, Tryd.ntmps22
          go_upto_region 1 with fail
          generalize w.alloc (.cells #[.int .u64 0, .string ⟨#[]⟩] 71) = w1 at *
          go_wp2_with fail
          go_fit (HR.out w1 HB1.out)
          rintro e w2 ⟨⟨A, n, c, rfl, hA, hn, hc⟩, hb2⟩
          have HG := hid (rget_any.get (m := n) (c := c) hA hn hc (Nat.le_refl _) (by omega))
          rw [hg] at HG
          have hkn : ((k : Int) == (n : Int)) = true := by simp; omega
          clear hA hn hc hg hk h1
          have HX2 := hid (HX1.out.below hb2 HX1.out.lt)
          have HB2 := hid (below_step HB1.out hb2)
          clear hb2
          go_wp2_with fail
          go_fit HG.out
          rintro e w3 ⟨rfl, hb3⟩
          unfold recV
          have HX3 := hid (HX2.out.below hb3 HX2.out.lt)
          have HB3 := hid (below_step HB2.out hb3)
          obtain ⟨a0, a1, fa0, fa1⟩ := twoc HX3.out
          clear hb3
          have HR4 := hid (Blk.new w3 71 #[.int .u64 (q : Int), .string (bst x)])
          have hb4 := (Below.refl w3.heap.size w3).alloc (Nat.le_refl _) (.cells #[.int .u64 (q : Int), .string (bst x)] 71)
          have HX4 := hid (HX3.out.below hb4 HX3.out.lt)
          have HB4 := hid (below_step HB3.out hb4)
          have HLT4 := hid (show w.heap.size < w3.heap.size from HX3.out.lt)
          clear hb4 a0 a1 fa0 fa1
          go_upto_region 3 with fail
          generalize w3.alloc (.cells #[.int .u64 (q : Int), .string (bst x)] 71) = w4 at *
          generalize w3.heap.size = g4 at *
          generalize hge : w.heap.size = g at *
          have HGE := hid hge
          clear hge
          obtain ⟨a0, a1, fa0, fa1⟩ := twoc HX4.out
          have z0 : ∀ W, Only g w4 W → W.cell? ⟨g4, 0, none⟩ = some (.int .u64 (q : Int)) := fun W ho => (HR4.out.grown ho (fun e => by injection e; have := HLT4.out; omega)).cell 0
          have z1 : ∀ W, Only g w4 W → W.cell? ⟨g4, 1, none⟩ = some (.string (bst x)) := fun W ho => (HR4.out.grown ho (fun e => by injection e; have := HLT4.out; omega)).cell 1
          refine wp_region_held_drew (S := Only g w4) (by kernel_rfl) (Only.refl g w4).drew (fun hS => ?_)
          refine stT 0 hS ?_
          try simp only [putr]
          refine stT 1 hS ?_
          try simp only [putr]
          refine stT 2 hS ?_
          try simp only [putr]
          first | (refine stT 3 hS ?_) | (refine stK 3 hS ?_)
          try simp only [putr]
          first | (refine stT 4 hS ?_) | (refine stK 4 hS ?_)
          try simp only [putr]
          first | (refine stT 5 hS ?_) | (refine stK 5 hS ?_)
          try simp only [putr]
          first | (refine stT 6 hS ?_) | (refine stK 6 hS ?_)
          try simp only [putr]
          refine stT 7 hS ?_
          try simp only [putr]
          refine stT 8 hS ?_
          try simp only [putr]
          first | (refine stT 9 hS ?_) | (refine stK 9 hS ?_)
          try simp only [putr]
          first | (refine stT 10 hS ?_) | (refine stK 10 hS ?_)
          try simp only [putr]
          first | (refine stT 11 hS ?_) | (refine stK 11 hS ?_)
          try simp only [putr]
          refine stT 12 hS ?_
          try simp only [putr]
          refine rdH [13] ?_
          refine rcH (fun K hK => ?_) AllReadyH.nil
          go_simp
          refine hK.out _ _ ((by have hz := Only.set (i := 1) (Only.set (i := 0) hS (.int .u64 (q : Int))) (.string (bst x)); simpa only [drew_setM] using hz)) (fun hS13 => ?_)
          skip
          clear hK K hS
          have hS := hS13
          try simp only [Act.put]
          refine stT 14 hS ?_
          try simp only [putr]
          refine wpAnyH_done (by kernel_rfl) ?_ _
          have x0 := ((HX4.out.set 0 (.int .u64 (q : Int))).set 1 (.string (bst x))).cell 0
          have x1 := ((HX4.out.set 0 (.int .u64 (q : Int))).set 1 (.string (bst x))).cell 1
          go_wp2_with fail
          refine bodyPost_ret (v := .tuple #[.agg #[.int .u64 (q : Int), .string (bst x)], .bool true]) (by simp [results, Tryd.results22, go_sem, *]) rfl ?_
          exact ⟨⟨q, x, true, rfl, HQ.out, .inl ⟨rfl, HM.out⟩⟩, by rw [HGE.out]; exact HE.out _ _ HB4.out hS13⟩
        · have HM := hid (msec_miss hg (fun e => h1 e.2))
          have h1i : decide ((q : Int) ≥ 1) = false := by simp; omega
          go_enter Tryd.func22, Tryd.ntmps22
          go_upto_region 1 with fail
          generalize w.alloc (.cells #[.int .u64 0, .string ⟨#[]⟩] 71) = w1 at *
          go_wp2_with fail
          go_fit (HR.out w1 HB1.out)
          rintro e w2 ⟨⟨A, n, c, rfl, hA, hn, hc⟩, hb2⟩
          have HG := hid (rget_any.get (m := n) (c := c) hA hn hc (Nat.le_refl _) (by omega))
          rw [hg] at HG
          have hkn : ((k : Int) == (n : Int)) = true := by simp; omega
          clear hA hn hc hg hk h1
          have HX2 := hid (HX1.out.below hb2 HX1.out.lt)
          have HB2 := hid (below_step HB1.out hb2)
          clear hb2
          go_wp2_with fail
          go_fit HG.out
          rintro e w3 ⟨rfl, hb3⟩
          unfold recV
          have HX3 := hid (HX2.out.below hb3 HX2.out.lt)
          have HB3 := hid (below_step HB2.out hb3)
          obtain ⟨a0, a1, fa0, fa1⟩ := twoc HX3.out
          clear hb3
          have HR4 := hid (Blk.new w3 71 #[.int .u64 (q : Int), .string (bst x)])
          have hb4 := (Below.refl w3.heap.size w3).alloc (Nat.le_refl _) (.cells #[.int .u64 (q : Int), .string (bst x)] 71)
          have HX4 := hid (HX3.out.below hb4 HX3.out.lt)
          have HB4 := hid (below_step HB3.out hb4)
          have HLT4 := hid (show w.heap.size < w3.heap.size from HX3.out.lt)
          clear hb4 a0 a1 fa0 fa1
          go_upto_region 3 with fail
          generalize w3.alloc (.cells #[.int .u64 (q : Int), .string (bst x)] 71) = w4 at *
          generalize w3.heap.size = g4 at *
          generalize hge : w.heap.size = g at *
          have HGE := hid hge
          clear hge
          obtain ⟨a0, a1, fa0, fa1⟩ := twoc HX4.out
          have z0 : ∀ W, Only g w4 W → W.cell? ⟨g4, 0, none⟩ = some (.int .u64 (q : Int)) := fun W ho => (HR4.out.grown ho (fun e => by injection e; have := HLT4.out; omega)).cell 0
          have z1 : ∀ W, Only g w4 W → W.cell? ⟨g4, 1, none⟩ = some (.string (bst x)) := fun W ho => (HR4.out.grown ho (fun e => by injection e; have := HLT4.out; omega)).cell 1
          refine wp_region_held_drew (S := Only g w4) (by kernel_rfl) (Only.refl g w4).drew (fun hS => ?_)
          refine stT 0 hS ?_
          try simp only [putr]
          refine stT 1 hS ?_
          try simp only [putr]
          refine stT 2 hS ?_
          try simp only [putr]
          first | (refine stT 3 hS ?_) | (refine stK 3 hS ?_)
          try simp only [putr]
          first | (refine stT 4 hS ?_) | (refine stK 4 hS ?_)
          try simp only [putr]
          first | (refine stT 5 hS ?_) | (refine stK 5 hS ?_)
          try simp only [putr]
          first | (refine stT 6 hS ?_) | (refine stK 6 hS ?_)
          try simp only [putr]
          refine stT 7 hS ?_
          try simp only [putr]
          refine stT 8 hS ?_
          try simp only [putr]
          first | (refine stT 9 hS ?_) | (refine stK 9 hS ?_)
          try simp only [putr]
          first | (refine stT 10 hS ?_) | (refine stK 10 hS ?_)
          try simp only [putr]
          first | (refine stT 11 hS ?_) | (refine stK 11 hS ?_)
          try simp only [putr]
          refine stT 12 hS ?_
          try simp only [putr]
          refine rdH [13] ?_
          refine rcH (fun K hK => ?_) AllReadyH.nil
          go_simp
          refine hK.out _ _ ((by have hz := Only.set (i := 1) (Only.set (i := 0) hS (.int .u64 (q : Int))) (.string (bst x)); simpa only [drew_setM] using hz)) (fun hS13 => ?_)
          skip
          clear hK K hS
          have hS := hS13
          try simp only [Act.put]
          refine stT 14 hS ?_
          try simp only [putr]
          refine wpAnyH_done (by kernel_rfl) ?_ _
          have x0 := ((HX4.out.set 0 (.int .u64 (q : Int))).set 1 (.string (bst x))).cell 0
          have x1 := ((HX4.out.set 0 (.int .u64 (q : Int))).set 1 (.string (bst x))).cell 1
          go_wp2_with fail
          refine bodyPost_ret (v := .tuple #[.agg #[.int .u64 (q : Int), .string (bst x)], .bool false]) (by simp [results, Tryd.results22, go_sem, *]) rfl ?_
          exact ⟨⟨q, x, false, rfl, HQ.out, .inr ⟨rfl, HM.out⟩⟩, by rw [HGE.out]; exact HE.out _ _ HB4.out hS13⟩
      · have HM := hid (msec_miss hg (fun e => hk e.1))
        go_enter Tryd.func22, Tryd.ntmps22
        go_upto_region 1 with fail
        generalize w.alloc (.cells #[.int .u64 0, .string ⟨#[]⟩] 71) = w1 at *
        go_wp2_with fail
        go_fit (HR.out w1 HB1.out)
        rintro e w2 ⟨⟨A, n, c, rfl, hA, hn, hc⟩, hb2⟩
        have HG := hid (rget_any.get (m := n) (c := c) hA hn hc (Nat.le_refl _) (by omega))
        rw [hg] at HG
        have hkn : ((k : Int) == (n : Int)) = false := by simp; omega
        clear hA hn hc hg hk
        have HX2 := hid (HX1.out.below hb2 HX1.out.lt)
        have HB2 := hid (below_step HB1.out hb2)
        clear hb2
        go_wp2_with fail
        go_fit HG.out
        rintro e w3 ⟨rfl, hb3⟩
        unfold recV
        have HX3 := hid (HX2.out.below hb3 HX2.out.lt)
        have HB3 := hid (below_step HB2.out hb3)
        obtain ⟨a0, a1, fa0, fa1⟩ := twoc HX3.out
        clear hb3
        have HR4 := hid (Blk.new w3 71 #[.int .u64 (q : Int), .string (bst x)])
        have hb4 := (Below.refl w3.heap.size w3).alloc (Nat.le_refl _) (.cells #[.int .u64 (q : Int), .string (bst x)] 71)
        have HX4 := hid (HX3.out.below hb4 HX3.out.lt)
        have HB4 := hid (below_step HB3.out hb4)
        have HLT4 := hid (show w.heap.size < w3.heap.size from HX3.out.lt)
        clear hb4 a0 a1 fa0 fa1
        go_upto_region 3 with fail
        generalize w3.alloc (.cells #[.int .u64 (q : Int), .string (bst x)] 71) = w4 at *
        generalize w3.heap.size = g4 at *
        generalize hge : w.heap.size = g at *
        have HGE := hid hge
        clear hge
        obtain ⟨a0, a1, fa0, fa1⟩ := twoc HX4.out
        have z0 : ∀ W, Only g w4 W → W.cell? ⟨g4, 0, none⟩ = some (.int .u64 (q : Int)) := fun W ho => (HR4.out.grown ho (fun e => by injection e; have := HLT4.out; omega)).cell 0
        have z1 : ∀ W, Only g w4 W → W.cell? ⟨g4, 1, none⟩ = some (.string (bst x)) := fun W ho => (HR4.out.grown ho (fun e => by injection e; have := HLT4.out; omega)).cell 1
        refine wp_region_held_drew (S := Only g w4) (by kernel_rfl) (Only.refl g w4).drew (fun hS => ?_)
        refine stT 0 hS ?_
        try simp only [putr]
        refine stT 1 hS ?_
        try simp only [putr]
        refine stT 2 hS ?_
        try simp only [putr]
        first | (refine stT 3 hS ?_) | (refine stK 3 hS ?_)
        try simp only [putr]
        first | (refine stT 4 hS ?_) | (refine stK 4 hS ?_)
        try simp only [putr]
        first | (refine stT 5 hS ?_) | (refine stK 5 hS ?_)
        try simp only [putr]
        first | (refine stT 6 hS ?_) | (refine stK 6 hS ?_)
        try simp only [putr]
        refine stT 7 hS ?_
        try simp only [putr]
        refine stT 8 hS ?_
        try simp only [putr]
        first | (refine stT 9 hS ?_) | (refine stK 9 hS ?_)
        try simp only [putr]
        first | (refine stT 10 hS ?_) | (refine stK 10 hS ?_)
        try simp only [putr]
        first | (refine stT 11 hS ?_) | (refine stK 11 hS ?_)
        try simp only [putr]
        refine stT 12 hS ?_
        try simp only [putr]
        refine rdH [13] ?_
        refine rcH (fun K hK => ?_) AllReadyH.nil
        go_simp
        refine hK.out _ _ ((by have hz := Only.set (i := 1) (Only.set (i := 0) hS (.int .u64 (q : Int))) (.string (bst x)); simpa only [drew_setM] using hz)) (fun hS13 => ?_)
        skip
        clear hK K hS
        have hS := hS13
        try simp only [Act.put]
        refine stT 14 hS ?_
        try simp only [putr]
        refine wpAnyH_done (by kernel_rfl) ?_ _
        have x0 := ((HX4.out.set 0 (.int .u64 (q : Int))).set 1 (.string (bst x))).cell 0
        have x1 := ((HX4.out.set 0 (.int .u64 (q : Int))).set 1 (.string (bst x))).cell 1
        go_wp2_with fail
        refine bodyPost_ret (v := .tuple #[.agg #[.int .u64 (q : Int), .string (bst x)], .bool false]) (by simp [results, Tryd.results22, go_sem, *]) rfl ?_
        exact ⟨⟨q, x, false, rfl, HQ.out, .inr ⟨rfl, HM.out⟩⟩, by rw [HGE.out]; exact HE.out _ _ HB4.out hS13⟩

end Go.Proofs.YtngclmjefadokaaDoor
