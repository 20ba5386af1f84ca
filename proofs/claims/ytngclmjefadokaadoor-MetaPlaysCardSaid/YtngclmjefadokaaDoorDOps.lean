/-
  What is pending, done: the closures of a write and of a free.
-/
import Derived.Test.YtngclmjefadokaaDoorJDisk
import Derived.Deep.RegionWith
namespace Go.Proofs.YtngclmjefadokaaDoor
open Go Go.RowKit

theorem torn_len {b : List UInt8} {old : Option (List UInt8)} {n : Int} (hb : b.length ≤ 512) (ho : ∀ x, old = some x → x.length ≤ 512) : (torn b old n).length ≤ 512 := by
  unfold torn
  split
  · exact hb
  · rw [List.length_append, List.length_take, List.length_drop]
    cases old with
    | none => simp; omega
    | some x => have := ho x rfl; simp; omega

section
variable {P : Program} (w : World) {o : Oper} {a : Act} {K : Act → World → Prop} {Q : Exit → Act → World → Prop}
theorem wp_look (m x : Operand) (t : TypeId) (hop : o.op = Op.lookup t m x false) (k e : TypeId) (ht : P.underlying t = some (.map k e)) (hk : P.underlying k = some (.int .i64)) {z : Value} (hz : (zeroValue e).run P w = .ok z w)
    {b n : Nat} {T : TabF} (hm : a.eval m = .map (some b)) (h : Tab w b T n) (i : Int) (hx : a.eval x = .int .i64 i) {v : Value} (hv : (T i).getD z = v)
    (hK : True → K (a.put o.dst v) w) : o.wp P a w K Q := by
  have hrun := h.look ht hk hz i false
  rw [hv] at hrun
  unfold Oper.wp
  simp [execOp, hop, hm, hx, hrun, Result.andThen]
  exact hK trivial
theorem wp_put (m x y : Operand) (t : TypeId) (hop : o.op = Op.mapUpdate t m x y) (k e : TypeId) (ht : P.underlying t = some (.map k e)) (hk : P.underlying k = some (.int .i64))
    {b n : Nat} {T : TabF} (hm : a.eval m = .map (some b)) (h : Tab w b T n) (i : Int) (hx : a.eval x = .int .i64 i) (v : Value) (hy : a.eval y = v)
    (hK : ∀ w', Tab w' b (updT T i (some v)) (if (T i).isSome then n else n + 1) → Only b w w' → w'.heap.size = w.heap.size → K (a.put o.dst undef) w') : o.wp P a w K Q := by
  obtain ⟨w', hrun, h1, h2, h3⟩ := h.store ht hk i v
  unfold Oper.wp
  simp [execOp, hop, hm, hx, hy, hrun, Result.andThen]
  exact hK w' h1 h2 h3
end

theorem field_used (a b : Value) (W : World) : (Instr.field 96 (.agg #[a, b]) 0).run Tryd.prog W = .ok a W := by kernel_rfl
theorem field_bytes (a b : Value) (W : World) : (Instr.field 96 (.agg #[a, b]) 1).run Tryd.prog W = .ok b W := by kernel_rfl

set_option maxHeartbeats 1000000 in
set_option maxRecDepth 100000 in
/-- the closure of a free -/
theorem freed_is {w : World} {g k k' bi : Nat} {T : TabF} {i : Int} (hg : Tab w g T k) (hi : Blk w bi 3 #[.int .i64 i]) (n : Int) (hk : (if (T i).isSome then k - 1 else k) = k') :
    Calls Tryd.prog 79 #[.map (some g), .int .i64 n, .pointer (some ⟨bi, 0, none⟩)] w fun e w' => e = .returned (.tuple #[]) ∧ Tab w' g (updT T i none) k' ∧ Within (fun k => k = g) w w' := by
  have c0 : w.cell? ⟨bi, 0, none⟩ = some (.int .i64 i) := hi.cell 0
  have HG := hid hg
  have HK := hid hk
  clear hg hi hk
  go_enter Tryd.func79, Tryd.ntmps79
  go_wp2_with (at_delete; refine wpList_drop _ rfl _ _ 61 3 rfl 96 Tryd.underlying61 Tryd.underlying3 rfl HG.out i rfl ?_; intro w1 ht ho hs; rw [HK.out] at ht; have HT := hid (And.intro ht ho); clear ht ho hs; go_frame)
  go_end0
  exact ⟨rfl, HT.out.1, Within.of_only HT.out.2 (.inl rfl)⟩

set_option maxHeartbeats 8000000 in
set_option maxRecDepth 100000 in
/-- the closure of a write -/
theorem wrote_is {w : World} {g k k' bi bb : Nat} {G : Secs} {i : Int} {b : List UInt8} (hg : Tab w g (gT G) k) (hi : Blk w bi 3 #[.int .i64 i]) (hbb : Blk w bb 9 #[.string (bst b)]) (n : Int) (hb : b.length ≤ 512) (hG : ∀ x, G i = some x → x.length ≤ 512)
    (hk : (if (gT G i).isSome then k else k + 1) = k') :
    Calls Tryd.prog 85 #[.map (some g), .int .i64 n, .pointer (some ⟨bb, 0, none⟩), .pointer (some ⟨bi, 0, none⟩)] w fun e w' =>
      e = .returned (.tuple #[]) ∧ Tab w' g (updT (gT G) i (some (stV (some (torn b (G i) n))))) k' ∧ Within (fun k => k = g) w w' := by
  have c0 : w.cell? ⟨bi, 0, none⟩ = some (.int .i64 i) := hi.cell 0
  have c1 : w.cell? ⟨bb, 0, none⟩ = some (.string (bst b)) := hbb.cell 0
  have c0d : w.drew.cell? ⟨bi, 0, none⟩ = some (.int .i64 i) := c0
  have c1d : w.drew.cell? ⟨bb, 0, none⟩ = some (.string (bst b)) := c1
  have HLT := hid (show (⟨bi, 0, none⟩ : Addr).block < w.drew.heap.size from hi.lt)
  have HG0 := hid (show Tab w.drew g (gT G) k from hg.of_block rfl)
  have HK2 := hid hk
  have HL := hid (show (gT G i).getD (stV none) = .agg #[.bool (G i).isSome, .string (bst ((G i).getD []))] by unfold gT; cases G i <;> rfl)
  have hlen : ((G i).getD []).length ≤ 512 := by
    cases hx : G i with
    | none => simp
    | some x => exact hG x hx
  have HTN := hid (fun (W : World) => torn_is b ((G i).getD []) n W hb hlen)
  have ht2 : torn b (some ((G i).getD [])) n = torn b (G i) n := by cases G i <;> rfl
  rw [ht2] at HTN
  rw [show stV (some (torn b (G i) n)) = .agg #[.bool true, .string (bst (torn b (G i) n))] from rfl]
  clear hg hi hbb hb hG hk hlen ht2
  have hfb := field_bytes
  generalize (G i).isSome = u at HL
  generalize (G i).getD [] = old at HL HTN
  generalize torn b (G i) n = res at HTN ⊢
  go_enter Tryd.func85, Tryd.ntmps85
  refine wp_region_any (by kernel_rfl) ?_
  try (change wpAny _ _ _ _ _ _ _ (World.drew _))
  refine stA 0 ?_
  try simp only [putr]
  refine stA 3 ?_
  try simp only [putr]
  refine stA 7 ?_
  try simp only [putr]
  refine rdA [1, 2, 4] ?_
  refine rcA (fun KK hKK => ?_) ?_
  · skip
    go_simp
    refine hKK _ _ ?_
    clear hKK KK
    try simp only [putr]
    refine rdA [2, 4] ?_
    refine rcA (fun KK hKK => ?_) ?_
    · skip
      go_simp
      refine hKK _ _ ?_
      clear hKK KK
      try simp only [putr]
      refine rdA [4] ?_
      refine rcA (fun KK hKK => ?_) AllReady.nil
      go_simp
      refine hKK _ _ ?_
      clear hKK KK
      try simp only [putr]
      refine rdA [5] ?_
      refine rcA (fun KK hKK => ?_) AllReady.nil
      refine wp_look _ _ _ 61 rfl 3 96 Tryd.underlying61 Tryd.underlying3 (zero_state _) rfl HG0.out i rfl HL.out ?_
      intro _
      refine hKK _ _ ?_
      clear hKK KK
      try simp only [putr]
      refine stA 6 ?_
      try simp only [putr]
      refine rdA [8] ?_
      refine rcA (fun KK hKK => ?_) AllReady.nil
      go_simp
      go_fit (HTN.out w.drew)
      rintro e w1 ⟨rfl, hb⟩
      refine hKK _ _ ?_
      clear hKK KK
      have c0e : w1.cell? ⟨bi, 0, none⟩ = some (.int .i64 i) := (hb.cell HLT.out).trans c0d
      have HG1 := hid (HG0.out.below hb)
      have HB1 := hid hb
      clear hb
      try simp only [putr]
      refine stA 9 ?_
      try simp only [putr]
      refine rdA [10] ?_
      refine rcA (fun KK hKK => ?_) AllReady.nil
      refine wp_put _ _ _ _ 61 rfl 3 96 Tryd.underlying61 Tryd.underlying3 rfl HG1.out i rfl _ rfl ?_
      intro w9 ht9 ho9 _
      refine hKK _ _ ?_
      clear hKK KK
      rw [HK2.out] at ht9
      have HT9 := hid (And.intro ht9 (((Within.of_below (M := fun k => k = g) ((Below.refl _ _).drew)).trans (Within.of_below HB1.out)).only ho9 (.inl rfl)))
      clear ht9 ho9
      try simp only [Act.put]
      refine wpAny_done (by kernel_rfl) ?_ _
      go_end0
      exact ⟨rfl, HT9.out⟩
    refine rcA (fun KK hKK => ?_) AllReady.nil
    · skip
      go_simp
      refine hKK _ _ ?_
      clear hKK KK
      try simp only [putr]
      refine rdA [2, 5] ?_
      refine rcA (fun KK hKK => ?_) ?_
      · skip
        go_simp
        refine hKK _ _ ?_
        clear hKK KK
        try simp only [putr]
        refine rdA [5] ?_
        refine rcA (fun KK hKK => ?_) AllReady.nil
        refine wp_look _ _ _ 61 rfl 3 96 Tryd.underlying61 Tryd.underlying3 (zero_state _) rfl HG0.out i rfl HL.out ?_
        intro _
        refine hKK _ _ ?_
        clear hKK KK
        try simp only [putr]
        refine stA 6 ?_
        try simp only [putr]
        refine rdA [8] ?_
        refine rcA (fun KK hKK => ?_) AllReady.nil
        go_simp
        go_fit (HTN.out w.drew)
        rintro e w1 ⟨rfl, hb⟩
        refine hKK _ _ ?_
        clear hKK KK
        have c0e : w1.cell? ⟨bi, 0, none⟩ = some (.int .i64 i) := (hb.cell HLT.out).trans c0d
        have HG1 := hid (HG0.out.below hb)
        have HB1 := hid hb
        clear hb
        try simp only [putr]
        refine stA 9 ?_
        try simp only [putr]
        refine rdA [10] ?_
        refine rcA (fun KK hKK => ?_) AllReady.nil
        refine wp_put _ _ _ _ 61 rfl 3 96 Tryd.underlying61 Tryd.underlying3 rfl HG1.out i rfl _ rfl ?_
        intro w9 ht9 ho9 _
        refine hKK _ _ ?_
        clear hKK KK
        rw [HK2.out] at ht9
        have HT9 := hid (And.intro ht9 (((Within.of_below (M := fun k => k = g) ((Below.refl _ _).drew)).trans (Within.of_below HB1.out)).only ho9 (.inl rfl)))
        clear ht9 ho9
        try simp only [Act.put]
        refine wpAny_done (by kernel_rfl) ?_ _
        go_end0
        exact ⟨rfl, HT9.out⟩
      refine rcA (fun KK hKK => ?_) AllReady.nil
      · skip
        refine wp_look _ _ _ 61 rfl 3 96 Tryd.underlying61 Tryd.underlying3 (zero_state _) rfl HG0.out i rfl HL.out ?_
        intro _
        refine hKK _ _ ?_
        clear hKK KK
        try simp only [putr]
        refine stA 6 ?_
        try simp only [putr]
        refine rdA [2] ?_
        refine rcA (fun KK hKK => ?_) AllReady.nil
        go_simp
        refine hKK _ _ ?_
        clear hKK KK
        try simp only [putr]
        refine rdA [8] ?_
        refine rcA (fun KK hKK => ?_) AllReady.nil
        go_simp
        go_fit (HTN.out w.drew)
        rintro e w1 ⟨rfl, hb⟩
        refine hKK _ _ ?_
        clear hKK KK
        have c0e : w1.cell? ⟨bi, 0, none⟩ = some (.int .i64 i) := (hb.cell HLT.out).trans c0d
        have HG1 := hid (HG0.out.below hb)
        have HB1 := hid hb
        clear hb
        try simp only [putr]
        refine stA 9 ?_
        try simp only [putr]
        refine rdA [10] ?_
        refine rcA (fun KK hKK => ?_) AllReady.nil
        refine wp_put _ _ _ _ 61 rfl 3 96 Tryd.underlying61 Tryd.underlying3 rfl HG1.out i rfl _ rfl ?_
        intro w9 ht9 ho9 _
        refine hKK _ _ ?_
        clear hKK KK
        rw [HK2.out] at ht9
        have HT9 := hid (And.intro ht9 (((Within.of_below (M := fun k => k = g) ((Below.refl _ _).drew)).trans (Within.of_below HB1.out)).only ho9 (.inl rfl)))
        clear ht9 ho9
        try simp only [Act.put]
        refine wpAny_done (by kernel_rfl) ?_ _
        go_end0
        exact ⟨rfl, HT9.out⟩
  refine rcA (fun KK hKK => ?_) ?_
  · skip
    go_simp
    refine hKK _ _ ?_
    clear hKK KK
    try simp only [putr]
    refine rdA [1, 4] ?_
    refine rcA (fun KK hKK => ?_) ?_
    · skip
      go_simp
      refine hKK _ _ ?_
      clear hKK KK
      try simp only [putr]
      refine rdA [4] ?_
      refine rcA (fun KK hKK => ?_) AllReady.nil
      go_simp
      refine hKK _ _ ?_
      clear hKK KK
      try simp only [putr]
      refine rdA [5] ?_
      refine rcA (fun KK hKK => ?_) AllReady.nil
      refine wp_look _ _ _ 61 rfl 3 96 Tryd.underlying61 Tryd.underlying3 (zero_state _) rfl HG0.out i rfl HL.out ?_
      intro _
      refine hKK _ _ ?_
      clear hKK KK
      try simp only [putr]
      refine stA 6 ?_
      try simp only [putr]
      refine rdA [8] ?_
      refine rcA (fun KK hKK => ?_) AllReady.nil
      go_simp
      go_fit (HTN.out w.drew)
      rintro e w1 ⟨rfl, hb⟩
      refine hKK _ _ ?_
      clear hKK KK
      have c0e : w1.cell? ⟨bi, 0, none⟩ = some (.int .i64 i) := (hb.cell HLT.out).trans c0d
      have HG1 := hid (HG0.out.below hb)
      have HB1 := hid hb
      clear hb
      try simp only [putr]
      refine stA 9 ?_
      try simp only [putr]
      refine rdA [10] ?_
      refine rcA (fun KK hKK => ?_) AllReady.nil
      refine wp_put _ _ _ _ 61 rfl 3 96 Tryd.underlying61 Tryd.underlying3 rfl HG1.out i rfl _ rfl ?_
      intro w9 ht9 ho9 _
      refine hKK _ _ ?_
      clear hKK KK
      rw [HK2.out] at ht9
      have HT9 := hid (And.intro ht9 (((Within.of_below (M := fun k => k = g) ((Below.refl _ _).drew)).trans (Within.of_below HB1.out)).only ho9 (.inl rfl)))
      clear ht9 ho9
      try simp only [Act.put]
      refine wpAny_done (by kernel_rfl) ?_ _
      go_end0
      exact ⟨rfl, HT9.out⟩
    refine rcA (fun KK hKK => ?_) AllReady.nil
    · skip
      go_simp
      refine hKK _ _ ?_
      clear hKK KK
      try simp only [putr]
      refine rdA [1, 5] ?_
      refine rcA (fun KK hKK => ?_) ?_
      · skip
        go_simp
        refine hKK _ _ ?_
        clear hKK KK
        try simp only [putr]
        refine rdA [5] ?_
        refine rcA (fun KK hKK => ?_) AllReady.nil
        refine wp_look _ _ _ 61 rfl 3 96 Tryd.underlying61 Tryd.underlying3 (zero_state _) rfl HG0.out i rfl HL.out ?_
        intro _
        refine hKK _ _ ?_
        clear hKK KK
        try simp only [putr]
        refine stA 6 ?_
        try simp only [putr]
        refine rdA [8] ?_
        refine rcA (fun KK hKK => ?_) AllReady.nil
        go_simp
        go_fit (HTN.out w.drew)
        rintro e w1 ⟨rfl, hb⟩
        refine hKK _ _ ?_
        clear hKK KK
        have c0e : w1.cell? ⟨bi, 0, none⟩ = some (.int .i64 i) := (hb.cell HLT.out).trans c0d
        have HG1 := hid (HG0.out.below hb)
        have HB1 := hid hb
        clear hb
        try simp only [putr]
        refine stA 9 ?_
        try simp only [putr]
        refine rdA [10] ?_
        refine rcA (fun KK hKK => ?_) AllReady.nil
        refine wp_put _ _ _ _ 61 rfl 3 96 Tryd.underlying61 Tryd.underlying3 rfl HG1.out i rfl _ rfl ?_
        intro w9 ht9 ho9 _
        refine hKK _ _ ?_
        clear hKK KK
        rw [HK2.out] at ht9
        have HT9 := hid (And.intro ht9 (((Within.of_below (M := fun k => k = g) ((Below.refl _ _).drew)).trans (Within.of_below HB1.out)).only ho9 (.inl rfl)))
        clear ht9 ho9
        try simp only [Act.put]
        refine wpAny_done (by kernel_rfl) ?_ _
        go_end0
        exact ⟨rfl, HT9.out⟩
      refine rcA (fun KK hKK => ?_) AllReady.nil
      · skip
        refine wp_look _ _ _ 61 rfl 3 96 Tryd.underlying61 Tryd.underlying3 (zero_state _) rfl HG0.out i rfl HL.out ?_
        intro _
        refine hKK _ _ ?_
        clear hKK KK
        try simp only [putr]
        refine stA 6 ?_
        try simp only [putr]
        refine rdA [1, 8] ?_
        refine rcA (fun KK hKK => ?_) ?_
        · skip
          go_simp
          refine hKK _ _ ?_
          clear hKK KK
          try simp only [putr]
          refine rdA [8] ?_
          refine rcA (fun KK hKK => ?_) AllReady.nil
          go_simp
          go_fit (HTN.out w.drew)
          rintro e w1 ⟨rfl, hb⟩
          refine hKK _ _ ?_
          clear hKK KK
          have c0e : w1.cell? ⟨bi, 0, none⟩ = some (.int .i64 i) := (hb.cell HLT.out).trans c0d
          have HG1 := hid (HG0.out.below hb)
          have HB1 := hid hb
          clear hb
          try simp only [putr]
          refine stA 9 ?_
          try simp only [putr]
          refine rdA [10] ?_
          refine rcA (fun KK hKK => ?_) AllReady.nil
          refine wp_put _ _ _ _ 61 rfl 3 96 Tryd.underlying61 Tryd.underlying3 rfl HG1.out i rfl _ rfl ?_
          intro w9 ht9 ho9 _
          refine hKK _ _ ?_
          clear hKK KK
          rw [HK2.out] at ht9
          have HT9 := hid (And.intro ht9 (((Within.of_below (M := fun k => k = g) ((Below.refl _ _).drew)).trans (Within.of_below HB1.out)).only ho9 (.inl rfl)))
          clear ht9 ho9
          try simp only [Act.put]
          refine wpAny_done (by kernel_rfl) ?_ _
          go_end0
          exact ⟨rfl, HT9.out⟩
        refine rcA (fun KK hKK => ?_) AllReady.nil
        · skip
          go_simp
          go_fit (HTN.out w.drew)
          rintro e w1 ⟨rfl, hb⟩
          refine hKK _ _ ?_
          clear hKK KK
          have c0e : w1.cell? ⟨bi, 0, none⟩ = some (.int .i64 i) := (hb.cell HLT.out).trans c0d
          have HG1 := hid (HG0.out.below hb)
          have HB1 := hid hb
          clear hb
          try simp only [putr]
          refine stA 9 ?_
          try simp only [putr]
          refine rdA [1] ?_
          refine rcA (fun KK hKK => ?_) AllReady.nil
          go_simp
          refine hKK _ _ ?_
          clear hKK KK
          try simp only [putr]
          refine rdA [10] ?_
          refine rcA (fun KK hKK => ?_) AllReady.nil
          refine wp_put _ _ _ _ 61 rfl 3 96 Tryd.underlying61 Tryd.underlying3 rfl HG1.out i rfl _ rfl ?_
          intro w9 ht9 ho9 _
          refine hKK _ _ ?_
          clear hKK KK
          rw [HK2.out] at ht9
          have HT9 := hid (And.intro ht9 (((Within.of_below (M := fun k => k = g) ((Below.refl _ _).drew)).trans (Within.of_below HB1.out)).only ho9 (.inl rfl)))
          clear ht9 ho9
          try simp only [Act.put]
          refine wpAny_done (by kernel_rfl) ?_ _
          go_end0
          exact ⟨rfl, HT9.out⟩
  refine rcA (fun KK hKK => ?_) AllReady.nil
  · skip
    go_simp
    refine hKK _ _ ?_
    clear hKK KK
    try simp only [putr]
    refine rdA [1, 2, 5] ?_
    refine rcA (fun KK hKK => ?_) ?_
    · skip
      go_simp
      refine hKK _ _ ?_
      clear hKK KK
      try simp only [putr]
      refine rdA [2, 5] ?_
      refine rcA (fun KK hKK => ?_) ?_
      · skip
        go_simp
        refine hKK _ _ ?_
        clear hKK KK
        try simp only [putr]
        refine rdA [5] ?_
        refine rcA (fun KK hKK => ?_) AllReady.nil
        refine wp_look _ _ _ 61 rfl 3 96 Tryd.underlying61 Tryd.underlying3 (zero_state _) rfl HG0.out i rfl HL.out ?_
        intro _
        refine hKK _ _ ?_
        clear hKK KK
        try simp only [putr]
        refine stA 6 ?_
        try simp only [putr]
        refine rdA [8] ?_
        refine rcA (fun KK hKK => ?_) AllReady.nil
        go_simp
        go_fit (HTN.out w.drew)
        rintro e w1 ⟨rfl, hb⟩
        refine hKK _ _ ?_
        clear hKK KK
        have c0e : w1.cell? ⟨bi, 0, none⟩ = some (.int .i64 i) := (hb.cell HLT.out).trans c0d
        have HG1 := hid (HG0.out.below hb)
        have HB1 := hid hb
        clear hb
        try simp only [putr]
        refine stA 9 ?_
        try simp only [putr]
        refine rdA [10] ?_
        refine rcA (fun KK hKK => ?_) AllReady.nil
        refine wp_put _ _ _ _ 61 rfl 3 96 Tryd.underlying61 Tryd.underlying3 rfl HG1.out i rfl _ rfl ?_
        intro w9 ht9 ho9 _
        refine hKK _ _ ?_
        clear hKK KK
        rw [HK2.out] at ht9
        have HT9 := hid (And.intro ht9 (((Within.of_below (M := fun k => k = g) ((Below.refl _ _).drew)).trans (Within.of_below HB1.out)).only ho9 (.inl rfl)))
        clear ht9 ho9
        try simp only [Act.put]
        refine wpAny_done (by kernel_rfl) ?_ _
        go_end0
        exact ⟨rfl, HT9.out⟩
      refine rcA (fun KK hKK => ?_) AllReady.nil
      · skip
        refine wp_look _ _ _ 61 rfl 3 96 Tryd.underlying61 Tryd.underlying3 (zero_state _) rfl HG0.out i rfl HL.out ?_
        intro _
        refine hKK _ _ ?_
        clear hKK KK
        try simp only [putr]
        refine stA 6 ?_
        try simp only [putr]
        refine rdA [2] ?_
        refine rcA (fun KK hKK => ?_) AllReady.nil
        go_simp
        refine hKK _ _ ?_
        clear hKK KK
        try simp only [putr]
        refine rdA [8] ?_
        refine rcA (fun KK hKK => ?_) AllReady.nil
        go_simp
        go_fit (HTN.out w.drew)
        rintro e w1 ⟨rfl, hb⟩
        refine hKK _ _ ?_
        clear hKK KK
        have c0e : w1.cell? ⟨bi, 0, none⟩ = some (.int .i64 i) := (hb.cell HLT.out).trans c0d
        have HG1 := hid (HG0.out.below hb)
        have HB1 := hid hb
        clear hb
        try simp only [putr]
        refine stA 9 ?_
        try simp only [putr]
        refine rdA [10] ?_
        refine rcA (fun KK hKK => ?_) AllReady.nil
        refine wp_put _ _ _ _ 61 rfl 3 96 Tryd.underlying61 Tryd.underlying3 rfl HG1.out i rfl _ rfl ?_
        intro w9 ht9 ho9 _
        refine hKK _ _ ?_
        clear hKK KK
        rw [HK2.out] at ht9
        have HT9 := hid (And.intro ht9 (((Within.of_below (M := fun k => k = g) ((Below.refl _ _).drew)).trans (Within.of_below HB1.out)).only ho9 (.inl rfl)))
        clear ht9 ho9
        try simp only [Act.put]
        refine wpAny_done (by kernel_rfl) ?_ _
        go_end0
        exact ⟨rfl, HT9.out⟩
    refine rcA (fun KK hKK => ?_) ?_
    · skip
      go_simp
      refine hKK _ _ ?_
      clear hKK KK
      try simp only [putr]
      refine rdA [1, 5] ?_
      refine rcA (fun KK hKK => ?_) ?_
      · skip
        go_simp
        refine hKK _ _ ?_
        clear hKK KK
        try simp only [putr]
        refine rdA [5] ?_
        refine rcA (fun KK hKK => ?_) AllReady.nil
        refine wp_look _ _ _ 61 rfl 3 96 Tryd.underlying61 Tryd.underlying3 (zero_state _) rfl HG0.out i rfl HL.out ?_
        intro _
        refine hKK _ _ ?_
        clear hKK KK
        try simp only [putr]
        refine stA 6 ?_
        try simp only [putr]
        refine rdA [8] ?_
        refine rcA (fun KK hKK => ?_) AllReady.nil
        go_simp
        go_fit (HTN.out w.drew)
        rintro e w1 ⟨rfl, hb⟩
        refine hKK _ _ ?_
        clear hKK KK
        have c0e : w1.cell? ⟨bi, 0, none⟩ = some (.int .i64 i) := (hb.cell HLT.out).trans c0d
        have HG1 := hid (HG0.out.below hb)
        have HB1 := hid hb
        clear hb
        try simp only [putr]
        refine stA 9 ?_
        try simp only [putr]
        refine rdA [10] ?_
        refine rcA (fun KK hKK => ?_) AllReady.nil
        refine wp_put _ _ _ _ 61 rfl 3 96 Tryd.underlying61 Tryd.underlying3 rfl HG1.out i rfl _ rfl ?_
        intro w9 ht9 ho9 _
        refine hKK _ _ ?_
        clear hKK KK
        rw [HK2.out] at ht9
        have HT9 := hid (And.intro ht9 (((Within.of_below (M := fun k => k = g) ((Below.refl _ _).drew)).trans (Within.of_below HB1.out)).only ho9 (.inl rfl)))
        clear ht9 ho9
        try simp only [Act.put]
        refine wpAny_done (by kernel_rfl) ?_ _
        go_end0
        exact ⟨rfl, HT9.out⟩
      refine rcA (fun KK hKK => ?_) AllReady.nil
      · skip
        refine wp_look _ _ _ 61 rfl 3 96 Tryd.underlying61 Tryd.underlying3 (zero_state _) rfl HG0.out i rfl HL.out ?_
        intro _
        refine hKK _ _ ?_
        clear hKK KK
        try simp only [putr]
        refine stA 6 ?_
        try simp only [putr]
        refine rdA [1, 8] ?_
        refine rcA (fun KK hKK => ?_) ?_
        · skip
          go_simp
          refine hKK _ _ ?_
          clear hKK KK
          try simp only [putr]
          refine rdA [8] ?_
          refine rcA (fun KK hKK => ?_) AllReady.nil
          go_simp
          go_fit (HTN.out w.drew)
          rintro e w1 ⟨rfl, hb⟩
          refine hKK _ _ ?_
          clear hKK KK
          have c0e : w1.cell? ⟨bi, 0, none⟩ = some (.int .i64 i) := (hb.cell HLT.out).trans c0d
          have HG1 := hid (HG0.out.below hb)
          have HB1 := hid hb
          clear hb
          try simp only [putr]
          refine stA 9 ?_
          try simp only [putr]
          refine rdA [10] ?_
          refine rcA (fun KK hKK => ?_) AllReady.nil
          refine wp_put _ _ _ _ 61 rfl 3 96 Tryd.underlying61 Tryd.underlying3 rfl HG1.out i rfl _ rfl ?_
          intro w9 ht9 ho9 _
          refine hKK _ _ ?_
          clear hKK KK
          rw [HK2.out] at ht9
          have HT9 := hid (And.intro ht9 (((Within.of_below (M := fun k => k = g) ((Below.refl _ _).drew)).trans (Within.of_below HB1.out)).only ho9 (.inl rfl)))
          clear ht9 ho9
          try simp only [Act.put]
          refine wpAny_done (by kernel_rfl) ?_ _
          go_end0
          exact ⟨rfl, HT9.out⟩
        refine rcA (fun KK hKK => ?_) AllReady.nil
        · skip
          go_simp
          go_fit (HTN.out w.drew)
          rintro e w1 ⟨rfl, hb⟩
          refine hKK _ _ ?_
          clear hKK KK
          have c0e : w1.cell? ⟨bi, 0, none⟩ = some (.int .i64 i) := (hb.cell HLT.out).trans c0d
          have HG1 := hid (HG0.out.below hb)
          have HB1 := hid hb
          clear hb
          try simp only [putr]
          refine stA 9 ?_
          try simp only [putr]
          refine rdA [1] ?_
          refine rcA (fun KK hKK => ?_) AllReady.nil
          go_simp
          refine hKK _ _ ?_
          clear hKK KK
          try simp only [putr]
          refine rdA [10] ?_
          refine rcA (fun KK hKK => ?_) AllReady.nil
          refine wp_put _ _ _ _ 61 rfl 3 96 Tryd.underlying61 Tryd.underlying3 rfl HG1.out i rfl _ rfl ?_
          intro w9 ht9 ho9 _
          refine hKK _ _ ?_
          clear hKK KK
          rw [HK2.out] at ht9
          have HT9 := hid (And.intro ht9 (((Within.of_below (M := fun k => k = g) ((Below.refl _ _).drew)).trans (Within.of_below HB1.out)).only ho9 (.inl rfl)))
          clear ht9 ho9
          try simp only [Act.put]
          refine wpAny_done (by kernel_rfl) ?_ _
          go_end0
          exact ⟨rfl, HT9.out⟩
    refine rcA (fun KK hKK => ?_) AllReady.nil
    · skip
      refine wp_look _ _ _ 61 rfl 3 96 Tryd.underlying61 Tryd.underlying3 (zero_state _) rfl HG0.out i rfl HL.out ?_
      intro _
      refine hKK _ _ ?_
      clear hKK KK
      try simp only [putr]
      refine stA 6 ?_
      try simp only [putr]
      refine rdA [1, 2] ?_
      refine rcA (fun KK hKK => ?_) ?_
      · skip
        go_simp
        refine hKK _ _ ?_
        clear hKK KK
        try simp only [putr]
        refine rdA [2] ?_
        refine rcA (fun KK hKK => ?_) AllReady.nil
        go_simp
        refine hKK _ _ ?_
        clear hKK KK
        try simp only [putr]
        refine rdA [8] ?_
        refine rcA (fun KK hKK => ?_) AllReady.nil
        go_simp
        go_fit (HTN.out w.drew)
        rintro e w1 ⟨rfl, hb⟩
        refine hKK _ _ ?_
        clear hKK KK
        have c0e : w1.cell? ⟨bi, 0, none⟩ = some (.int .i64 i) := (hb.cell HLT.out).trans c0d
        have HG1 := hid (HG0.out.below hb)
        have HB1 := hid hb
        clear hb
        try simp only [putr]
        refine stA 9 ?_
        try simp only [putr]
        refine rdA [10] ?_
        refine rcA (fun KK hKK => ?_) AllReady.nil
        refine wp_put _ _ _ _ 61 rfl 3 96 Tryd.underlying61 Tryd.underlying3 rfl HG1.out i rfl _ rfl ?_
        intro w9 ht9 ho9 _
        refine hKK _ _ ?_
        clear hKK KK
        rw [HK2.out] at ht9
        have HT9 := hid (And.intro ht9 (((Within.of_below (M := fun k => k = g) ((Below.refl _ _).drew)).trans (Within.of_below HB1.out)).only ho9 (.inl rfl)))
        clear ht9 ho9
        try simp only [Act.put]
        refine wpAny_done (by kernel_rfl) ?_ _
        go_end0
        exact ⟨rfl, HT9.out⟩
      refine rcA (fun KK hKK => ?_) AllReady.nil
      · skip
        go_simp
        refine hKK _ _ ?_
        clear hKK KK
        try simp only [putr]
        refine rdA [1, 8] ?_
        refine rcA (fun KK hKK => ?_) ?_
        · skip
          go_simp
          refine hKK _ _ ?_
          clear hKK KK
          try simp only [putr]
          refine rdA [8] ?_
          refine rcA (fun KK hKK => ?_) AllReady.nil
          go_simp
          go_fit (HTN.out w.drew)
          rintro e w1 ⟨rfl, hb⟩
          refine hKK _ _ ?_
          clear hKK KK
          have c0e : w1.cell? ⟨bi, 0, none⟩ = some (.int .i64 i) := (hb.cell HLT.out).trans c0d
          have HG1 := hid (HG0.out.below hb)
          have HB1 := hid hb
          clear hb
          try simp only [putr]
          refine stA 9 ?_
          try simp only [putr]
          refine rdA [10] ?_
          refine rcA (fun KK hKK => ?_) AllReady.nil
          refine wp_put _ _ _ _ 61 rfl 3 96 Tryd.underlying61 Tryd.underlying3 rfl HG1.out i rfl _ rfl ?_
          intro w9 ht9 ho9 _
          refine hKK _ _ ?_
          clear hKK KK
          rw [HK2.out] at ht9
          have HT9 := hid (And.intro ht9 (((Within.of_below (M := fun k => k = g) ((Below.refl _ _).drew)).trans (Within.of_below HB1.out)).only ho9 (.inl rfl)))
          clear ht9 ho9
          try simp only [Act.put]
          refine wpAny_done (by kernel_rfl) ?_ _
          go_end0
          exact ⟨rfl, HT9.out⟩
        refine rcA (fun KK hKK => ?_) AllReady.nil
        · skip
          go_simp
          go_fit (HTN.out w.drew)
          rintro e w1 ⟨rfl, hb⟩
          refine hKK _ _ ?_
          clear hKK KK
          have c0e : w1.cell? ⟨bi, 0, none⟩ = some (.int .i64 i) := (hb.cell HLT.out).trans c0d
          have HG1 := hid (HG0.out.below hb)
          have HB1 := hid hb
          clear hb
          try simp only [putr]
          refine stA 9 ?_
          try simp only [putr]
          refine rdA [1] ?_
          refine rcA (fun KK hKK => ?_) AllReady.nil
          go_simp
          refine hKK _ _ ?_
          clear hKK KK
          try simp only [putr]
          refine rdA [10] ?_
          refine rcA (fun KK hKK => ?_) AllReady.nil
          refine wp_put _ _ _ _ 61 rfl 3 96 Tryd.underlying61 Tryd.underlying3 rfl HG1.out i rfl _ rfl ?_
          intro w9 ht9 ho9 _
          refine hKK _ _ ?_
          clear hKK KK
          rw [HK2.out] at ht9
          have HT9 := hid (And.intro ht9 (((Within.of_below (M := fun k => k = g) ((Below.refl _ _).drew)).trans (Within.of_below HB1.out)).only ho9 (.inl rfl)))
          clear ht9 ho9
          try simp only [Act.put]
          refine wpAny_done (by kernel_rfl) ?_ _
          go_end0
          exact ⟨rfl, HT9.out⟩

end Go.Proofs.YtngclmjefadokaaDoor
