/-
  The landed cache: each, and the closure of List.
-/
import Derived.Test.YtdhjjjagjkencaaCaGet
import Derived.Test.YtdhjjjagjkencaaGen2
import Derived.Lib.Builder
namespace Go.Proofs.Ytdhjjjagjkencaa
open Go Go.RowKit

theorem enters_of {P : Program} {f : FuncId} {fn : Func} (hf : P.funcs[f]? = some fn) (hn : (fn.name == "runtime.NumGoroutine") = false) (hb : fn.body.isNone = false) (args : Array Value) (w : World) :
    (callFunc f args).run P w = .ok (.enter f args) w := by
  have h1 : fn.name ≠ "runtime.NumGoroutine" := by simpa using hn
  have h2 : ¬ fn.body = none := fun h => by rw [h] at hb; cases hb
  simp [callFunc, hf, h1, h2]
/-- a variable that holds a row of entries of the call's own, which lies behind it -/
def ESlot (w : World) (s : Nat) (ls : List En) : Prop := ∃ A m c, Blk w s 28 #[.slice A m c] ∧ GRow eEn 32 w (s + 1) A m c ls
theorem ESlot.lt {w : World} {s : Nat} {ls : List En} (h : ESlot w s ls) : s < w.heap.size := by
  obtain ⟨_, _, _, hb, _⟩ := h
  exact hb.lt
theorem ESlot.only {w w' : World} {s r : Nat} {ls : List En} (h : ESlot w s ls) (ho : Only r w w') (hr : r < s) : ESlot w' s ls := by
  obtain ⟨A, m, c, h1, h2⟩ := h
  refine ⟨A, m, c, h1.grown ho (fun e => by injection e; omega), h2.1, h2.2.kept ho (.inr fun e => ?_)⟩
  have := (h2.2.lt r e).1
  omega
theorem ESlot.made (w : World) : ESlot (w.alloc (.cells #[.slice none 0 0] 28)) w.heap.size [] := ⟨none, 0, 0, Blk.new w _ _, GRow.nil⟩

set_option maxHeartbeats 4000000 in
set_option maxRecDepth 100000 in
/-- List's closure -/
theorem keepL_is {w : World} {s p pp nn : Nat} {x : En} {ls : List En} (h : ESlot w s ls) (hP : PBlk w p x pp nn) (hl : ls.length ≤ 100000) :
    Calls Try.prog 30 #[(.pointer (some ⟨p, 0, none⟩)), (.pointer (some ⟨s, 0, none⟩))] w fun e w' => e = .returned (.tuple #[]) ∧ ESlot w' s (ls ++ [x]) ∧ Below s w w' := by
  obtain ⟨A, m, c, hb, hr⟩ := h
  have HLN := hid (show ls.length + [x].length ≤ 1099511627776 by simp; omega)
  have hlt := hb.lt
  have HLT := hid hlt
  have hb1 : Below w.heap.size w (w.drew.alloc (.cells #[.int .i64 x.i, .string (bst x.b), .bool x.d] 32)) := ((Below.refl _ _).drew).alloc (Nat.le_refl _) _
  have HB1 := hid hb1
  have HR1 := hid (GRow.below hr hb1)
  have HS1 := hid (hb.below hb1 hlt)
  have HO1 := hid (GAt.one w.drew x 32 (E := eEn) (cs := #[.int .i64 x.i, .string (bst x.b), .bool x.d]) rfl)
  have HSZ := hid (show s + 1 ≤ (w.drew.alloc (.cells #[.int .i64 x.i, .string (bst x.b), .bool x.d] 32)).heap.size by simp; omega)
  have c0 : w.drew.cell? ⟨s, 0, none⟩ = some (.slice A m c) := hb.cell 0
  have c0a : (w.drew.alloc (.cells #[.int .i64 x.i, .string (bst x.b), .bool x.d] 32)).cell? ⟨s, 0, none⟩ = some (.slice A m c) := HS1.out.cell 0
  have c0u : w.cell? ⟨s, 0, none⟩ = some (.slice A m c) := hb.cell 0
  have hf := five hP
  have p0 : w.drew.cell? ⟨p, 0, none⟩ = _ := hf.1
  have p1 : w.drew.cell? ⟨p, 1, none⟩ = _ := hf.2.1
  have p2 : w.drew.cell? ⟨p, 2, none⟩ = _ := hf.2.2.1
  clear hb1 hb hr hf hP
  go_enter Try.func30, Try.ntmps30
  refine wp_region_any (by kernel_rfl) ?_
  try (change wpAny _ _ _ _ _ _ _ (World.drew _))
  refine stA 1 ?_
  try simp only [putr]
  refine stA 2 ?_
  try simp only [putr]
  refine rdA [0, 3] ?_
  refine rcA (fun KK hKK => ?_) ?_
  · skip
    go_simp
    refine hKK _ _ ?_
    clear hKK KK
    try simp only [putr]
    refine rdA [3] ?_
    refine rcA (fun KK hKK => ?_) AllReady.nil
    go_simp
    refine hKK _ _ ?_
    clear hKK KK
    try simp only [putr]
    refine rdA [4] ?_
    refine rcA (fun KK hKK => ?_) AllReady.nil
    go_simp
    refine hKK _ _ ?_
    clear hKK KK
    try simp only [putr]
    refine rdA [5] ?_
    refine rcA (fun KK hKK => ?_) AllReady.nil
    refine wp_append_g _ (.tmp 3) (.tmp 7) eEn gi_en (by decide) rfl (s + 1) rfl HR1.out rfl rfl HO1.out HLN.out HSZ.out ?_
    intro A7 m7 c7 w7 hr7 hc7 hb7 hg7
    refine hKK _ _ ?_
    clear hKK KK
    have hs7 : Blk w7 s 28 #[.slice A m c] := HS1.out.below hb7 (Nat.lt_succ_self s)
    have f0 := hs7.free 0
    have d0 : w7.cell? ⟨s, 0, none⟩ = some (.slice A m c) := hs7.cell 0
    have HF := hid (And.intro hr7 (And.intro hb7 hs7))
    clear hr7 hb7 hg7 hc7 hs7
    try simp only [putr]
    refine rdA [6] ?_
    refine rcA (fun KK hKK => ?_) AllReady.nil
    go_simp
    refine hKK _ _ ?_
    clear hKK KK
    try simp only [Act.put]
    refine wpAny_done (by kernel_rfl) ?_ _
    go_wp2_with fail
    go_end0
    obtain ⟨hr7, hb7, hs7⟩ := HF.out
    have hne : (Value.slice A7 m7 c7).ownBlock ≠ some s := fun e => by have := (hr7.2.lt s e).1; omega
    have hsl : ESlot (w7.setCell ⟨s, 0, none⟩ (.slice A7 m7 c7)) s (ls ++ [x]) := ⟨A7, m7, c7, hs7.set 0 _, hr7.1, ownsRow_setCell_other hr7.2 hne _⟩
    have hbl : Below s w (w7.setCell ⟨s, 0, none⟩ (.slice A7 m7 c7)) := Below.setCell (p := ⟨s, 0, none⟩) ((HB1.out.mono (Nat.le_of_lt HLT.out)).trans (hb7.mono (Nat.le_succ s))) (Nat.le_refl _) _
    exact ⟨rfl, hsl, hbl⟩
  refine rcA (fun KK hKK => ?_) AllReady.nil
  · skip
    go_simp
    refine hKK _ _ ?_
    clear hKK KK
    try simp only [putr]
    refine rdA [0, 4] ?_
    refine rcA (fun KK hKK => ?_) ?_
    · skip
      go_simp
      refine hKK _ _ ?_
      clear hKK KK
      try simp only [putr]
      refine rdA [4] ?_
      refine rcA (fun KK hKK => ?_) AllReady.nil
      go_simp
      refine hKK _ _ ?_
      clear hKK KK
      try simp only [putr]
      refine rdA [5] ?_
      refine rcA (fun KK hKK => ?_) AllReady.nil
      refine wp_append_g _ (.tmp 3) (.tmp 7) eEn gi_en (by decide) rfl (s + 1) rfl HR1.out rfl rfl HO1.out HLN.out HSZ.out ?_
      intro A7 m7 c7 w7 hr7 hc7 hb7 hg7
      refine hKK _ _ ?_
      clear hKK KK
      have hs7 : Blk w7 s 28 #[.slice A m c] := HS1.out.below hb7 (Nat.lt_succ_self s)
      have f0 := hs7.free 0
      have d0 : w7.cell? ⟨s, 0, none⟩ = some (.slice A m c) := hs7.cell 0
      have HF := hid (And.intro hr7 (And.intro hb7 hs7))
      clear hr7 hb7 hg7 hc7 hs7
      try simp only [putr]
      refine rdA [6] ?_
      refine rcA (fun KK hKK => ?_) AllReady.nil
      go_simp
      refine hKK _ _ ?_
      clear hKK KK
      try simp only [Act.put]
      refine wpAny_done (by kernel_rfl) ?_ _
      go_wp2_with fail
      go_end0
      obtain ⟨hr7, hb7, hs7⟩ := HF.out
      have hne : (Value.slice A7 m7 c7).ownBlock ≠ some s := fun e => by have := (hr7.2.lt s e).1; omega
      have hsl : ESlot (w7.setCell ⟨s, 0, none⟩ (.slice A7 m7 c7)) s (ls ++ [x]) := ⟨A7, m7, c7, hs7.set 0 _, hr7.1, ownsRow_setCell_other hr7.2 hne _⟩
      have hbl : Below s w (w7.setCell ⟨s, 0, none⟩ (.slice A7 m7 c7)) := Below.setCell (p := ⟨s, 0, none⟩) ((HB1.out.mono (Nat.le_of_lt HLT.out)).trans (hb7.mono (Nat.le_succ s))) (Nat.le_refl _) _
      exact ⟨rfl, hsl, hbl⟩
    refine rcA (fun KK hKK => ?_) AllReady.nil
    · skip
      go_simp
      refine hKK _ _ ?_
      clear hKK KK
      try simp only [putr]
      refine rdA [0] ?_
      refine rcA (fun KK hKK => ?_) AllReady.nil
      go_simp
      refine hKK _ _ ?_
      clear hKK KK
      try simp only [putr]
      refine rdA [5] ?_
      refine rcA (fun KK hKK => ?_) AllReady.nil
      refine wp_append_g _ (.tmp 3) (.tmp 7) eEn gi_en (by decide) rfl (s + 1) rfl HR1.out rfl rfl HO1.out HLN.out HSZ.out ?_
      intro A7 m7 c7 w7 hr7 hc7 hb7 hg7
      refine hKK _ _ ?_
      clear hKK KK
      have hs7 : Blk w7 s 28 #[.slice A m c] := HS1.out.below hb7 (Nat.lt_succ_self s)
      have f0 := hs7.free 0
      have d0 : w7.cell? ⟨s, 0, none⟩ = some (.slice A m c) := hs7.cell 0
      have HF := hid (And.intro hr7 (And.intro hb7 hs7))
      clear hr7 hb7 hg7 hc7 hs7
      try simp only [putr]
      refine rdA [6] ?_
      refine rcA (fun KK hKK => ?_) AllReady.nil
      go_simp
      refine hKK _ _ ?_
      clear hKK KK
      try simp only [Act.put]
      refine wpAny_done (by kernel_rfl) ?_ _
      go_wp2_with fail
      go_end0
      obtain ⟨hr7, hb7, hs7⟩ := HF.out
      have hne : (Value.slice A7 m7 c7).ownBlock ≠ some s := fun e => by have := (hr7.2.lt s e).1; omega
      have hsl : ESlot (w7.setCell ⟨s, 0, none⟩ (.slice A7 m7 c7)) s (ls ++ [x]) := ⟨A7, m7, c7, hs7.set 0 _, hr7.1, ownsRow_setCell_other hr7.2 hne _⟩
      have hbl : Below s w (w7.setCell ⟨s, 0, none⟩ (.slice A7 m7 c7)) := Below.setCell (p := ⟨s, 0, none⟩) ((HB1.out.mono (Nat.le_of_lt HLT.out)).trans (hb7.mono (Nat.le_succ s))) (Nat.le_refl _) _
      exact ⟨rfl, hsl, hbl⟩

theorem Within.of_low {s : Nat} {w w' : World} (h : Below s w w') : Within (fun k => s ≤ k) w w' := ⟨h.os, h.tape, h.output, h.size, fun k _ hn => h.block k (Nat.lt_of_not_le hn)⟩
theorem ESlot.setFar {w : World} {s p i : Nat} {ls : List En} (h : ESlot w s ls) (hp : p < s) (u : Value) : ESlot (w.setCell ⟨p, i, none⟩ u) s ls := h.only ((Only.refl p w).set u) hp
set_option maxHeartbeats 4000000 in
set_option maxRecDepth 100000 in
/-- Dirty's closure -/
theorem keepD_is {w : World} {s p : Nat} {ls : List En} {L : Nat → Prop} {vl : Nat → En} {pv nx : Nat → Nat} (h : ESlot w s ls) (hN : Nodes w L vl pv nx) (hLp : L p) (hLs : ∀ k, L k → k < s) (hl : ls.length ≤ 100000) :
    Calls Try.prog 26 #[(.pointer (some ⟨p, 0, none⟩)), (.pointer (some ⟨s, 0, none⟩))] w fun e w' => e = .returned (.tuple #[]) ∧ ESlot w' s (if (vl p).d then ls ++ [vl p] else ls) ∧ Nodes w' L (updE vl p { vl p with d := false }) pv nx ∧ Within (fun k => L k ∨ s ≤ k) w w' := by
  have hps := hLs p hLp
  cases hd : (vl p).d with
  | false =>
    have hv : updE vl p { vl p with d := false } = vl := funext fun c => by
      by_cases e : c = p
      · subst e; rw [updE_eq]
        show (⟨(vl c).i, (vl c).b, false⟩ : En) = vl c
        rw [← hd]
      · rw [updE_ne e]
    have p2 := (five (hN.at_ p hLp)).2.2.1
    rw [hv]
    rw [hd] at p2
    have HN := hid hN
    have HS := hid h
    clear h hN hLp hLs hps hv hd
    go_enter Try.func26, Try.ntmps26
    go_wp2_with fail
    go_end0
    exact ⟨rfl, HS.out, HN.out, Within.refl _ _⟩
  | true =>
    obtain ⟨x, hx⟩ : ∃ x, vl p = x := ⟨_, rfl⟩
    obtain ⟨A, m, c, hb, hr⟩ := h
    have HLN := hid (show ls.length + [x].length ≤ 1099511627776 by simp; omega)
    have hlt := hb.lt
    have HLT := hid hlt
    have hb1 : Below w.heap.size w (w.drew.alloc (.cells #[.int .i64 x.i, .string (bst x.b), .bool x.d] 32)) := ((Below.refl _ _).drew).alloc (Nat.le_refl _) _
    have HB1 := hid hb1
    have HR1 := hid (GRow.below hr hb1)
    have HS1 := hid (hb.below hb1 hlt)
    have HO1 := hid (GAt.one w.drew x 32 (E := eEn) (cs := #[.int .i64 x.i, .string (bst x.b), .bool x.d]) rfl)
    have HSZ := hid (show s + 1 ≤ (w.drew.alloc (.cells #[.int .i64 x.i, .string (bst x.b), .bool x.d] 32)).heap.size by simp; omega)
    have c0 : w.drew.cell? ⟨s, 0, none⟩ = some (.slice A m c) := hb.cell 0
    have c0a : (w.drew.alloc (.cells #[.int .i64 x.i, .string (bst x.b), .bool x.d] 32)).cell? ⟨s, 0, none⟩ = some (.slice A m c) := HS1.out.cell 0
    have c0u : w.cell? ⟨s, 0, none⟩ = some (.slice A m c) := hb.cell 0
    have hf := five (hN.at_ p hLp)
    rw [hx] at hf hd ⊢
    have p2u : w.cell? ⟨p, 2, none⟩ = some (.bool true) := by rw [← hd]; exact hf.2.2.1
    have p0 : w.drew.cell? ⟨p, 0, none⟩ = _ := hf.1
    have p1 : w.drew.cell? ⟨p, 1, none⟩ = _ := hf.2.1
    have p2 : w.drew.cell? ⟨p, 2, none⟩ = some (.bool true) := p2u
    have HX := hid (And.intro hx hd)
    have HN := hid hN
    have HL := hid (And.intro hLp (And.intro hLs hps))
    obtain ⟨xi, xb, xd⟩ := x
    dsimp only at hd
    subst hd
    clear hb1 hb hr hf hN hLp hLs hps hx
    go_enter Try.func26, Try.ntmps26
    go_upto_region 1 with fail
    refine wp_region_any (by kernel_rfl) ?_
    try (change wpAny _ _ _ _ _ _ _ (World.drew _))
    refine stA 1 ?_
    try simp only [putr]
    refine stA 2 ?_
    try simp only [putr]
    refine rdA [0, 3] ?_
    refine rcA (fun KK hKK => ?_) ?_
    · skip
      go_simp
      refine hKK _ _ ?_
      clear hKK KK
      try simp only [putr]
      refine rdA [3] ?_
      refine rcA (fun KK hKK => ?_) AllReady.nil
      go_simp
      refine hKK _ _ ?_
      clear hKK KK
      try simp only [putr]
      refine rdA [4] ?_
      refine rcA (fun KK hKK => ?_) AllReady.nil
      go_simp
      refine hKK _ _ ?_
      clear hKK KK
      try simp only [putr]
      refine rdA [5] ?_
      refine rcA (fun KK hKK => ?_) AllReady.nil
      refine wp_append_g _ (.tmp 7) (.tmp 11) eEn gi_en (by decide) rfl (s + 1) rfl HR1.out rfl rfl HO1.out HLN.out HSZ.out ?_
      intro A7 m7 c7 w7 hr7 hc7 hb7 hg7
      refine hKK _ _ ?_
      clear hKK KK
      have hs7 : Blk w7 s 28 #[.slice A m c] := HS1.out.below hb7 (Nat.lt_succ_self s)
      have f0 := hs7.free 0
      have d0 : w7.cell? ⟨s, 0, none⟩ = some (.slice A m c) := hs7.cell 0
      have HF := hid (And.intro hr7 (And.intro hb7 hs7))
      clear hr7 hb7 hg7 hc7 hs7
      try simp only [putr]
      refine rdA [6] ?_
      refine rcA (fun KK hKK => ?_) AllReady.nil
      go_simp
      refine hKK _ _ ?_
      clear hKK KK
      try simp only [Act.put]
      refine wpAny_done (by kernel_rfl) ?_ _
      obtain ⟨hr7, hb7, hs7⟩ := HF.out
      have hne : (Value.slice A7 m7 c7).ownBlock ≠ some s := fun e => by have := (hr7.2.lt s e).1; omega
      have hsl : ESlot (w7.setCell ⟨s, 0, none⟩ (.slice A7 m7 c7)) s (ls ++ [⟨xi, xb, true⟩]) := ⟨A7, m7, c7, hs7.set 0 _, hr7.1, ownsRow_setCell_other hr7.2 hne _⟩
      have hbl : Below s w (w7.setCell ⟨s, 0, none⟩ (.slice A7 m7 c7)) := Below.setCell (p := ⟨s, 0, none⟩) ((HB1.out.mono (Nat.le_of_lt HLT.out)).trans (hb7.mono (Nat.le_succ s))) (Nat.le_refl _) _
      have HSL := hid hsl
      have HBL := hid hbl
      clear hne hr7 hb7 hs7 hsl hbl HF f0 d0
      generalize w7.setCell ⟨s, 0, none⟩ (.slice A7 m7 c7) = w8 at *
      have HN8 := hid (HN.out.keep fun k hk => HBL.out.block k (HL.out.2.1 k hk))
      have f2 := (HN8.out.at_ p HL.out.1).free 2
      have g2 := (HN8.out.at_ p HL.out.1).cell 2
      go_wp2_with fail
      go_end0
      have hn9 := HN8.out.setDirty p false
      rw [HX.out.1] at hn9
      exact ⟨rfl, HSL.out.setFar HL.out.2.2 _, hn9, ((Within.of_low HBL.out).mono (fun _ q => .inr q)).set (p := ⟨p, 2, none⟩) (.inl (.inl HL.out.1)) _⟩
    refine rcA (fun KK hKK => ?_) AllReady.nil
    · skip
      go_simp
      refine hKK _ _ ?_
      clear hKK KK
      try simp only [putr]
      refine rdA [0, 4] ?_
      refine rcA (fun KK hKK => ?_) ?_
      · skip
        go_simp
        refine hKK _ _ ?_
        clear hKK KK
        try simp only [putr]
        refine rdA [4] ?_
        refine rcA (fun KK hKK => ?_) AllReady.nil
        go_simp
        refine hKK _ _ ?_
        clear hKK KK
        try simp only [putr]
        refine rdA [5] ?_
        refine rcA (fun KK hKK => ?_) AllReady.nil
        refine wp_append_g _ (.tmp 7) (.tmp 11) eEn gi_en (by decide) rfl (s + 1) rfl HR1.out rfl rfl HO1.out HLN.out HSZ.out ?_
        intro A7 m7 c7 w7 hr7 hc7 hb7 hg7
        refine hKK _ _ ?_
        clear hKK KK
        have hs7 : Blk w7 s 28 #[.slice A m c] := HS1.out.below hb7 (Nat.lt_succ_self s)
        have f0 := hs7.free 0
        have d0 : w7.cell? ⟨s, 0, none⟩ = some (.slice A m c) := hs7.cell 0
        have HF := hid (And.intro hr7 (And.intro hb7 hs7))
        clear hr7 hb7 hg7 hc7 hs7
        try simp only [putr]
        refine rdA [6] ?_
        refine rcA (fun KK hKK => ?_) AllReady.nil
        go_simp
        refine hKK _ _ ?_
        clear hKK KK
        try simp only [Act.put]
        refine wpAny_done (by kernel_rfl) ?_ _
        obtain ⟨hr7, hb7, hs7⟩ := HF.out
        have hne : (Value.slice A7 m7 c7).ownBlock ≠ some s := fun e => by have := (hr7.2.lt s e).1; omega
        have hsl : ESlot (w7.setCell ⟨s, 0, none⟩ (.slice A7 m7 c7)) s (ls ++ [⟨xi, xb, true⟩]) := ⟨A7, m7, c7, hs7.set 0 _, hr7.1, ownsRow_setCell_other hr7.2 hne _⟩
        have hbl : Below s w (w7.setCell ⟨s, 0, none⟩ (.slice A7 m7 c7)) := Below.setCell (p := ⟨s, 0, none⟩) ((HB1.out.mono (Nat.le_of_lt HLT.out)).trans (hb7.mono (Nat.le_succ s))) (Nat.le_refl _) _
        have HSL := hid hsl
        have HBL := hid hbl
        clear hne hr7 hb7 hs7 hsl hbl HF f0 d0
        generalize w7.setCell ⟨s, 0, none⟩ (.slice A7 m7 c7) = w8 at *
        have HN8 := hid (HN.out.keep fun k hk => HBL.out.block k (HL.out.2.1 k hk))
        have f2 := (HN8.out.at_ p HL.out.1).free 2
        have g2 := (HN8.out.at_ p HL.out.1).cell 2
        go_wp2_with fail
        go_end0
        have hn9 := HN8.out.setDirty p false
        rw [HX.out.1] at hn9
        exact ⟨rfl, HSL.out.setFar HL.out.2.2 _, hn9, ((Within.of_low HBL.out).mono (fun _ q => .inr q)).set (p := ⟨p, 2, none⟩) (.inl (.inl HL.out.1)) _⟩
      refine rcA (fun KK hKK => ?_) AllReady.nil
      · skip
        go_simp
        refine hKK _ _ ?_
        clear hKK KK
        try simp only [putr]
        refine rdA [0] ?_
        refine rcA (fun KK hKK => ?_) AllReady.nil
        go_simp
        refine hKK _ _ ?_
        clear hKK KK
        try simp only [putr]
        refine rdA [5] ?_
        refine rcA (fun KK hKK => ?_) AllReady.nil
        refine wp_append_g _ (.tmp 7) (.tmp 11) eEn gi_en (by decide) rfl (s + 1) rfl HR1.out rfl rfl HO1.out HLN.out HSZ.out ?_
        intro A7 m7 c7 w7 hr7 hc7 hb7 hg7
        refine hKK _ _ ?_
        clear hKK KK
        have hs7 : Blk w7 s 28 #[.slice A m c] := HS1.out.below hb7 (Nat.lt_succ_self s)
        have f0 := hs7.free 0
        have d0 : w7.cell? ⟨s, 0, none⟩ = some (.slice A m c) := hs7.cell 0
        have HF := hid (And.intro hr7 (And.intro hb7 hs7))
        clear hr7 hb7 hg7 hc7 hs7
        try simp only [putr]
        refine rdA [6] ?_
        refine rcA (fun KK hKK => ?_) AllReady.nil
        go_simp
        refine hKK _ _ ?_
        clear hKK KK
        try simp only [Act.put]
        refine wpAny_done (by kernel_rfl) ?_ _
        obtain ⟨hr7, hb7, hs7⟩ := HF.out
        have hne : (Value.slice A7 m7 c7).ownBlock ≠ some s := fun e => by have := (hr7.2.lt s e).1; omega
        have hsl : ESlot (w7.setCell ⟨s, 0, none⟩ (.slice A7 m7 c7)) s (ls ++ [⟨xi, xb, true⟩]) := ⟨A7, m7, c7, hs7.set 0 _, hr7.1, ownsRow_setCell_other hr7.2 hne _⟩
        have hbl : Below s w (w7.setCell ⟨s, 0, none⟩ (.slice A7 m7 c7)) := Below.setCell (p := ⟨s, 0, none⟩) ((HB1.out.mono (Nat.le_of_lt HLT.out)).trans (hb7.mono (Nat.le_succ s))) (Nat.le_refl _) _
        have HSL := hid hsl
        have HBL := hid hbl
        clear hne hr7 hb7 hs7 hsl hbl HF f0 d0
        generalize w7.setCell ⟨s, 0, none⟩ (.slice A7 m7 c7) = w8 at *
        have HN8 := hid (HN.out.keep fun k hk => HBL.out.block k (HL.out.2.1 k hk))
        have f2 := (HN8.out.at_ p HL.out.1).free 2
        have g2 := (HN8.out.at_ p HL.out.1).cell 2
        go_wp2_with fail
        go_end0
        have hn9 := HN8.out.setDirty p false
        rw [HX.out.1] at hn9
        exact ⟨rfl, HSL.out.setFar HL.out.2.2 _, hn9, ((Within.of_low HBL.out).mono (fun _ q => .inr q)).set (p := ⟨p, 2, none⟩) (.inl (.inl HL.out.1)) _⟩

theorem info_pos : (Try.prog.info? 57).map (fun i => i.size) = some 5 := by kernel_rfl
theorem neq_pos_other {W : World} {q e : Nat} {cs cs' : Array Value} (hq : Blk W q 57 cs) (he : Blk W e 57 cs') (hne : q ≠ e) :
    (binOp .neq 55 (.pointer (some ⟨q, 0, none⟩)) (.pointer (some ⟨e, 0, none⟩))).run Try.prog W = .ok (.bool true) W := by
  have hi := info_pos
  cases hj : Try.prog.info? 57 with
  | none => rw [hj] at hi; cases hi
  | some j =>
    rw [hj] at hi
    have hsz : j.size = 5 := by injection hi
    have h : ∀ d : Nat, (Op.equalIn (d + 1) 55 (.pointer (some ⟨q, 0, none⟩)) (.pointer (some ⟨e, 0, none⟩))).run Try.prog W = .ok false W := fun d => by
      simp [Op.equalIn, run_underlying Try.underlying55, sizeOf, typeInfo, hj, hsz, run_sameAddr_other W (a := ⟨q, 0, none⟩) (b := ⟨e, 0, none⟩) (fun x => hne (by injection x)) hq he]
    simp only [binOp]
    simp [Op.equal, Op.maxDepth, h 9999]
theorem neq_pos_same (W : World) (q : Nat) : (binOp .neq 55 (.pointer (some ⟨q, 0, none⟩)) (.pointer (some ⟨q, 0, none⟩))).run Try.prog W = .ok (.bool false) W := by
  have hi := info_pos
  cases hj : Try.prog.info? 57 with
  | none => rw [hj] at hi; cases hi
  | some j => exact Lib.run_neq_ptr_same W _ Try.underlying55 hj
def vBlk : Value → Nat
  | .pointer (some a) => a.block
  | _ => 0
set_option maxHeartbeats 4000000 in
set_option maxRecDepth 100000 in
theorem each_any {f : FuncId} {cap : Nat} (eg : ∀ (args : Array Value) (w : World), (callFunc f args).run Try.prog w = .ok (.enter f args) w) {I : Nat → World → Prop} {cb room mb eb : Nat} {ps : List Nat} {w : World}
    (hI : ∀ j W, I j W → ∃ vl pv nx m, CaIn W cb room mb eb ps vl pv nx m)
    (hC : ∀ j W p, ps[j]? = some p → I j W → Calls Try.prog f #[(.pointer (some ⟨p, 0, none⟩)), (.pointer (some ⟨cap, 0, none⟩))] W fun e w' => e = .returned (.tuple #[]) ∧ I (j + 1) w') (h0 : I 0 w) :
    Calls Try.prog 25 #[(.pointer (some ⟨cb, 0, none⟩)), .func (.func f) #[] #[(.pointer (some ⟨cap, 0, none⟩))]] w fun e w' => e = .returned (.tuple #[]) ∧ I ps.length w' := by
  obtain ⟨vl, pv, nx, m, hc⟩ := hI 0 w h0
  have c2 := hc.blk.cell 2
  have e4 := (five (hc.nodes.at_ eb (.inl rfl))).2.2.2.2.1
  obtain ⟨q0, hq0⟩ : ∃ q, nx eb = q := ⟨_, rfl⟩
  rw [hq0] at e4
  have HQ0 := hid (show (ps ++ [eb])[0]? = some q0 by rw [← hq0]; exact hc.ring.first)
  have HND := hid hc.ring.nodup
  have HH0 := hid h0
  have HI := hid hI
  have HC := hid hC
  clear hc hq0 h0 hI hC
  go_enter Try.func25, Try.ntmps25
  go_wp2_with fail
  clear c2 e4
  go_loopw [4] (fun s wr => ∃ (j q : Nat), s = (.pointer (some ⟨q, 0, none⟩)) ∧ j ≤ ps.length ∧ Kept ((ps ++ [eb])[j]? = some q) ∧ Kept (I j wr)) (fun s _ => ps.length - (ps.idxOf (vBlk s)))
  case atStart => exact ⟨0, q0, rfl, Nat.zero_le _, HQ0, HH0⟩
  case round =>
    obtain ⟨j, q, rfl, hj, HQ, HJ⟩ := hrel
    obtain ⟨vl, pv, nx, m, hc⟩ := HI.out j wr HJ.out
    have c2 := hc.blk.cell 2
    by_cases hlt : j < ps.length
    · have hq : ps[j]? = some q := by have := HQ.out; rwa [List.getElem?_append_left hlt] at this
      have hqe : q ≠ eb := fun e => (List.nodup_cons.1 HND.out).1 (by rw [← e]; exact List.mem_of_getElem? hq)
      have HCC := hid (HC.out j wr q hq HJ.out)
      have HQJ := hid hq
      have hnq := neq_pos_other (hc.nodes.at_ q (.inr (List.mem_of_getElem? hq))) (hc.nodes.at_ eb (.inl rfl)) hqe
      have hcl := hc.blk.lt
      clear hc hq
      go_wp2_with fail
      go_fit HCC.out
      rintro e w2 ⟨rfl, hj2⟩
      obtain ⟨vl2, pv2, nx2, m2, hc2⟩ := HI.out (j + 1) w2 hj2
      have hx4 := (five (hc2.nodes.at_ q (.inr (List.mem_of_getElem? HQJ.out)))).2.2.2.2.1
      have hn : (ps ++ [eb])[j + 1]? = some (nx2 q) := by
        obtain ⟨hh, e2⟩ := List.getElem?_eq_some_iff.1 HQJ.out
        have hsp : ps = ps.take j ++ q :: ps.drop (j + 1) := by
          conv => lhs; rw [← List.take_append_drop j ps, List.drop_eq_getElem_cons hh, e2]
        have hri := hc2.ring
        rw [hsp] at hri
        have h3 := hri.at_.2
        have h4 : (ps.take j ++ q :: ps.drop (j + 1) ++ [eb])[j + 1]? = (ps.drop (j + 1) ++ [eb])[0]? := by
          rw [List.append_assoc, List.getElem?_append_right (by rw [List.length_take]; omega), List.length_take, Nat.min_eq_left (by omega), Nat.add_sub_cancel_left, List.cons_append, List.getElem?_cons_succ]
        rw [← hsp] at h4
        rw [h4, h3]
      obtain ⟨q2, hq2⟩ : ∃ q', nx2 q = q' := ⟨_, rfl⟩
      rw [hq2] at hx4 hn
      have HN := hid hn
      have HJ2 := hid hj2
      have hmeas : ps.length - ps.idxOf q2 < ps.length - ps.idxOf q := by
        have hnd := (List.nodup_cons.1 HND.out)
        have i1 : ps.idxOf q = j := by
          obtain ⟨hh, e2⟩ := List.getElem?_eq_some_iff.1 HQJ.out
          rw [← e2]; exact hnd.2.idxOf_getElem _ hh
        have i2 : ps.idxOf q2 = j + 1 := by
          by_cases hl2 : j + 1 < ps.length
          · have := HN.out
            rw [List.getElem?_append_left hl2] at this
            obtain ⟨hh, e2⟩ := List.getElem?_eq_some_iff.1 this
            rw [← e2]; exact hnd.2.idxOf_getElem _ hh
          · have := HN.out
            rw [List.getElem?_append_right (by omega), show j + 1 - ps.length = 0 by omega] at this
            have e : eb = q2 := by simpa using this
            rw [← e, List.idxOf_eq_length hnd.1]; omega
        omega
      have HM := hid hmeas
      clear hn hj2 hc2 hq2 c2 hmeas
      go_wp2_with fail
      go_roundw
      case rel => exact ⟨j + 1, q2, rfl, by omega, HN, HJ2⟩
      case measure => exact HM.out
    · have hje : j = ps.length := by omega
      subst hje
      obtain rfl : eb = q := by have := HQ.out; rw [List.getElem?_append_right (Nat.le_refl _), Nat.sub_self] at this; simpa using this
      have hnq := neq_pos_same wr eb
      clear hc
      go_wp2_with fail
      go_end0
      exact ⟨rfl, HJ.out⟩

end Go.Proofs.Ytdhjjjagjkencaa
