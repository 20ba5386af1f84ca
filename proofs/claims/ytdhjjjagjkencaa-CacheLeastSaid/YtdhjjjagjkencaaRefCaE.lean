/-
  The document's cache: Dirty.
-/
import Derived.Test.YtdhjjjagjkencaaRefCaP
import Derived.BigQuiet
import Derived.Deep.CutRange
import Derived.Deep.CutBlock
namespace Go.Proofs.Ytdhjjjagjkencaa
open Go Go.RowKit

/-- s[n:] -/
theorem eslice_from {w : World} {B m c n : Nat} {A : Option Addr} {l : List En} (hA : EAt w B A l) (hm : m = l.length) (hc : m ≤ c) (hn : n ≤ m) :
    ∃ A', (∀ (k : IntKind) (W : World), (Instr.slice 28 (.slice A m c) (some (.int k (n : Int))) none none).run Try.prog W = .ok (.slice A' (m - n) (c - n)) W) ∧ EAt w B A' (l.drop n) := by
  refine ⟨if c = n then A else A.map (·.add (n * 3)), fun k W => ?_, GAt.cut (c := c) (k := n) hA (by omega)⟩
  have e : Try.prog.elem 28 = 32 := by kernel_rfl
  rw [run_slice_l (P := Try.prog) W 28 A m c (by rw [e]; exact Try.underlying28) k n (by omega) (by omega), en_size]
  simp [sliced]
/-- two rows of the call's own that lie apart -/
structure DD (w wr : World) (Ao : Option Addr) (mo co : Nat) (Aw : Option Addr) (mw cw : Nat) (O W : List En) : Prop where
  out : GRow eEn 32 wr w.heap.size Ao mo co O
  was : GRow eEn 32 wr w.heap.size Aw mw cw W
  apart : (Value.slice Aw mw cw).ownBlock = none ∨ (Value.slice Aw mw cw).ownBlock ≠ (Value.slice Ao mo co).ownBlock
  below : Below w.heap.size w wr
section
variable {w wr w' : World} {Ao Aw : Option Addr} {mo co mw cw : Nat} {O W : List En}
theorem DD.step (h : DD w wr Ao mo co Aw mw cw O W) (hb : Below wr.heap.size wr w') : DD w w' Ao mo co Aw mw cw O W := ⟨GRow.below h.out hb, GRow.below h.was hb, h.apart, below_step h.below hb⟩
theorem DD.out' (h : DD w wr Ao mo co Aw mw cw O W) {A' : Option Addr} {m' c' : Nat} {O' : List En} (hr : GRow eEn 32 w' w.heap.size A' m' c' O') (hb : Below w.heap.size wr w') (hg : wr.grownBy w' (Value.slice Ao mo co).ownBlock)
    (hl : (Value.slice A' m' c').ownBlock = (Value.slice Ao mo co).ownBlock ∨ (Value.slice A' m' c').ownBlock = some wr.heap.size) : DD w w' A' m' c' Aw mw cw O' W := by
  refine ⟨hr, ⟨h.was.1, h.was.2.kept hg h.apart⟩, ?_, h.below.trans hb⟩
  rcases hl with e | e
  · rw [e]; exact h.apart
  · rw [e]
    cases hv : (Value.slice Aw mw cw).ownBlock with
    | none => exact .inl rfl
    | some k =>
      refine .inr fun q => ?_
      injection q with q
      have := (h.was.2.lt k hv).2
      omega
theorem DD.setFar (h : DD w wr Ao mo co Aw mw cw O W) {g i : Nat} (hg : w.heap.size ≤ g ∧ (Value.slice Ao mo co).ownBlock ≠ some g ∧ (Value.slice Aw mw cw).ownBlock ≠ some g) (u : Value) : DD w (wr.setCell ⟨g, i, none⟩ u) Ao mo co Aw mw cw O W :=
  ⟨⟨h.out.1, ownsRow_setCell_other h.out.2 hg.2.1 u⟩, ⟨h.was.1, ownsRow_setCell_other h.was.2 hg.2.2 u⟩, h.apart, h.below.setCell (p := ⟨g, i, none⟩) hg.1 u⟩
theorem DD.was' (h : DD w wr Ao mo co Aw mw cw O W) {A' : Option Addr} {m' c' : Nat} {W' : List En} (hr : GRow eEn 32 w' wr.heap.size A' m' c' W') (hb : Below wr.heap.size wr w') : DD w w' Ao mo co A' m' c' O W' := by
  refine ⟨GRow.below h.out hb, hr.le h.below.size, ?_, below_step h.below hb⟩
  cases hv : (Value.slice A' m' c').ownBlock with
  | none => exact .inl rfl
  | some k =>
    refine .inr fun q => ?_
    have h1 := (hr.2.lt k hv).1
    have h2 := (h.out.2.lt k q.symm).2
    omega
end
theorem take_nextE {α : Type} {l : List α} {j : Nat} {x : α} (h : l[j]? = some x) : l.take (j + 1) = l.take j ++ [x] := by
  obtain ⟨hh, e⟩ := List.getElem?_eq_some_iff.1 h
  rw [List.take_succ_eq_append_getElem hh, e]
set_option maxHeartbeats 4000000 in
set_option maxRecDepth 100000 in
theorem refDirtyE_any {A : Option Addr} {n c B : Nat} {l : List En} {w : World} (h : ES w B A n c l) (hn : n ≤ 1000000) :
    Calls Try.prog 15 #[.slice A n c] w fun e w' => ∃ A1 m1 c1 A2 m2 c2, e = .returned (.tuple #[.slice A1 m1 c1, .slice A2 m2 c2]) ∧ GRow eEn 32 w' w.heap.size A1 m1 c1 (cleanE l) ∧ GRow eEn 32 w' w.heap.size A2 m2 c2 (dirtyE [] l) ∧ Below w.heap.size w w' := by
  have HA := hid h
  have HLN := hid h.len
  have hmost := h.most
  have hd0 : DD w ((w.alloc (.cells #[] 32)).alloc (.cells #[] 32)) (some ⟨w.heap.size, 0, none⟩) 0 0 (some ⟨w.heap.size + 1, 0, none⟩) 0 0 [] [] :=
    ⟨(GRow.empty (E := eEn) (e := 32) w rfl (Nat.le_refl _)).alloc _, GRow.empty (E := eEn) (e := 32) (w.alloc (.cells #[] 32)) (by simp) (by simp), .inr (by simp [Value.ownBlock]), ((Below.refl _ _).alloc (Nat.le_refl _) _).alloc (by simp) _⟩
  have HD0 := hid hd0
  clear h hd0
  go_enter Try.func15, Try.ntmps15
  go_wp2_with fail
  go_loopw [4, 5, 6] (fun s4 s5 s6 wr => ∃ (j mo co mw cw : Nat) (Ao Aw : Option Addr), s4 = .slice Ao mo co ∧ s5 = .slice Aw mw cw ∧ s6 = .int .i64 (j : Int) ∧ j ≤ n ∧ Kept (DD w wr Ao mo co Aw mw cw (cleanE (l.take j)) (dirtyE [] (l.take j)))) (fun _ _ i _ => n - (intOf i).toNat)
  case atStart => exact ⟨0, 0, 0, 0, 0, _, _, rfl, rfl, rfl, Nat.zero_le _, hid (by simpa [cleanE, dirtyE] using HD0.out)⟩
  case round =>
    obtain ⟨j, mo, co, mw, cw, Ao, Aw, rfl, rfl, rfl, hj, HD⟩ := hrel
    clear HD0
    by_cases hlt : j < n
    · obtain ⟨b, off, x, rfl, hb, hx, c0, c1, c2⟩ := (HA.out.below HD.out.below HA.out.low).at_.get (i := j) (by rw [← HLN.out]; exact hlt)
      have HX := hid hx
      have hbl : b < wr.heap.size := Nat.lt_of_lt_of_le hb (Nat.le_trans HA.out.low HD.out.below.size)
      clear hx hb
      obtain ⟨xi, xb, xd⟩ := x
      dsimp only at c0 c1 c2
      have hb1 := (Below.refl wr.heap.size wr).alloc (Nat.le_refl _) (.cells #[.int .i64 xi, .string (bst xb), .bool xd] 32)
      have HD1 := hid (HD.out.step hb1)
      have HE1 := hid (Blk.new wr 32 #[.int .i64 xi, .string (bst xb), .bool xd])
      have HGN := hid (show w.heap.size ≤ wr.heap.size ∧ (Value.slice Ao mo co).ownBlock ≠ some wr.heap.size ∧ (Value.slice Aw mw cw).ownBlock ≠ some wr.heap.size from
        ⟨HD.out.below.size, fun e => by have := (HD.out.out.2.lt _ e).2; omega, fun e => by have := (HD.out.was.2.lt _ e).2; omega⟩)
      clear hb1 HD
      go_upto_region 6 with fail
      clear c0 c1 c2 hbl
      generalize wr.alloc (.cells #[.int .i64 xi, .string (bst xb), .bool xd] 32) = w1 at *
      obtain ⟨g, hg⟩ : ∃ g, wr.heap.size = g := ⟨_, rfl⟩
      rw [hg] at HE1 HGN ⊢
      clear hg
      have p0 := HE1.out.cell 0
      have p1 := HE1.out.cell 1
      have p2 := HE1.out.cell 2
      cases xd with
      | false =>
        have HE5 := HE1
        have HD5 := HD1
        obtain ⟨w5, rfl⟩ : ∃ w5, w5 = w1 := ⟨_, rfl⟩
        clear HE1 HD1
        go_upto_region 12 with fail
        have q0 := HE5.out.cell 0
        have q1 := HE5.out.cell 1
        have q2 := HE5.out.cell 2
        have q3 := HE5.out.free 2
        have he6 : EBlk (w5.setCell ⟨g, 2, none⟩ (.bool false)) g ⟨xi, xb, false⟩ := by
          have := HE5.out.set 2 (.bool false)
          simpa using this
        have hd6 := HD5.out.setFar (HGN.out) (i := 2) (.bool false)
        have HE6 := hid he6
        have HD6 := hid hd6
        clear he6 hd6
        go_upto_region 13 with fail
        clear q0 q1 q2 q3
        generalize w5.setCell ⟨g, 2, none⟩ (.bool false) = w6 at *
        have q0 := HE6.out.cell 0
        have q1 := HE6.out.cell 1
        have q2 := HE6.out.cell 2
        have hb7 := (Below.refl w6.heap.size w6).alloc (Nat.le_refl _) (.cells #[.int .i64 xi, .string (bst xb), .bool false] 32)
        have HD7 := hid (HD6.out.step hb7)
        have HX7 := hid (GAt.one w6 (⟨xi, xb, false⟩ : En) 32 (E := eEn) (cs := #[.int .i64 xi, .string (bst xb), .bool false]) rfl)
        have HN7 := hid (show (cleanE (l.take j)).length + [(⟨xi, xb, false⟩ : En)].length ≤ 1099511627776 by unfold cleanE; rw [List.length_map, List.length_take, List.length_singleton]; omega)
        have HS7 := hid (Nat.le_trans HD6.out.below.size hb7.size)
        clear hb7
        go_wp2_with (at_builtin; go_must (refine wpList_append_own _ rfl _ _ eEn gi_en (by decide) rfl w.heap.size rfl HD7.out.out rfl rfl HX7.out HN7.out HS7.out ?_); intro A8 m8 c8 w8 hr8 hc8 hb8 hg8 ho8; have HD8 := hid (HD7.out.out' hr8 hb8 hg8 ho8); clear hr8 hc8 hb8 hg8 ho8; go_frame)
        have HD9 := hid (show DD w w8 A8 m8 c8 Aw mw cw (cleanE (l.take (j + 1))) (dirtyE [] (l.take (j + 1))) by
          have e1 : cleanE (l.take (j + 1)) = cleanE (l.take j) ++ [⟨xi, xb, false⟩] := by unfold cleanE; rw [take_nextE HX.out, List.map_append]; rfl
          rw [e1, dirtyE_take HX.out]
          exact HD8.out)
        go_roundw
        case rel => exact ⟨j + 1, _, _, _, _, _, _, rfl, rfl, by go_num, by omega, HD9⟩
        case measure => simp [intOf]; omega
      | true =>
        have hwl := HD1.out.was.1
        have hwj := dirtyE_len [] (l.take j)
        rw [List.length_take, List.length_nil, Nat.zero_add] at hwj
        have HTK := hid (show (dirtyE [] (l.take j)).length ≤ 1000000 by omega)
        obtain ⟨W0, hW0⟩ : ∃ W0, dirtyE [] (l.take j) = W0 := ⟨_, rfl⟩
        rw [hW0] at hwl hwj HTK HD1
        have HW0 := hid hW0
        have HWL := hid hwl
        have HES := hid (show ES w1 w1.heap.size Aw mw cw W0 from ES.row HD1.out.was (Nat.le_trans HTK.out (by decide)))
        have hmw : mw ≤ 1000000 := by rw [hwl]; exact HTK.out
        clear hwl hwj hW0
        have HE1' := HE1
        go_upto_block 2 with fail
        go_cut [8] from 12 to 58 (fun s wx => ∃ a : Nat, s = .int .i64 (a : Int) ∧ a ≤ mw ∧ Kept (backE xi W0 mw = a) ∧ Kept (Below w1.heap.size w1 wx))
        case first =>
          go_wp2_with fail
          go_loopw [8] (fun s wr2 => ∃ a : Nat, s = .int .i64 (a : Int) ∧ a ≤ mw ∧ Kept (backE xi W0 mw = backE xi W0 a) ∧ Kept (Below w1.heap.size w1 wr2)) (fun s _ => (intOf s).toNat)
          case atStart => exact ⟨mw, rfl, Nat.le_refl _, hid rfl, hid (Below.refl _ _)⟩
          case round =>
            obtain ⟨a, rfl, ha, HBK, HB⟩ := hrel
            have he := HE1.out.below HB.out HE1.out.lt
            have p0 := he.cell 0
            clear he
            cases a with
            | zero =>
              have HK2 := hid (show backE xi W0 mw = 0 from HBK.out)
              go_wp2_with fail
              go_quiet (fail)
              go_wp2_with fail
              go_meet
              case rel => exact ⟨0, by go_num, Nat.zero_le _, HK2, hid (below_drewN HB.out _)⟩
            | succ a =>
              obtain ⟨b2, off2, y, rfl, hb2, hy, d0, _, _⟩ := (HES.out.below HB.out (Nat.le_refl _)).at_.get (i := a) (by rw [← HWL.out]; omega)
              have hbk : backE xi W0 (a + 1) = if xi < y.i then backE xi W0 a else a + 1 := by
                conv => lhs; unfold backE
                rw [hy]
              clear hb2 hy
              have hpos : (0 : Int) < ((a : Int) + 1) := by omega
              have hcast : ((a + 1 : Nat) : Int) = (a : Int) + 1 := by omega
              have hsub : (a : Int) + 1 - 1 = (a : Int) := by omega
              rw [hcast]
              by_cases hlt2 : xi < y.i
              · have HK2 := hid (show backE xi W0 mw = backE xi W0 a by rw [HBK.out, hbk, if_pos hlt2])
                clear hbk
                go_wp2_with fail
                go_quiet (fail)
                go_wp2_with fail
                go_roundw
                case rel => exact ⟨a, by go_num, by omega, HK2, hid (below_drewN HB.out _)⟩
                case measure => simp [intOf]
              · have HK2 := hid (show backE xi W0 mw = a + 1 by rw [HBK.out, hbk, if_neg hlt2])
                clear hbk
                go_wp2_with fail
                go_quiet (fail)
                go_wp2_with fail
                go_meet
                case rel => exact ⟨a + 1, by go_num, ha, HK2, hid (below_drewN HB.out _)⟩
        case rest =>
          obtain ⟨a, rfl, ha, HBK, HB⟩ := hcut
          obtain ⟨w3, rfl⟩ : ∃ w3, w3 = wc := ⟨_, rfl⟩
          have HD3 := hid (HD1.out.step HB.out)
          have he3 := HE1.out.below HB.out HE1.out.lt
          have HE3 := hid he3
          have HES3 := hid (show ES w3 w3.heap.size Aw mw cw W0 from (HES.out.below HB.out (Nat.le_refl _)).more HB.out.size (Nat.le_refl _))
          have HJL := hid (show a ≤ W0.length by rw [← HWL.out]; exact ha)
          obtain ⟨AT, hslt, hat, -⟩ := eslice_to (n := a) HES3.out.at_ HES3.out.len HES3.out.cap ha
          obtain ⟨AF, hslf, haf⟩ := eslice_from (n := a) HES3.out.at_ HES3.out.len HES3.out.cap ha
          have HT3 := hid (fun (W : World) (hW : Beyond w3 W) => show GAt eEn W w3.heap.size AT (W0.take a) from GAt.below hat hW)
          have HF3 := hid (fun (W : World) (hW : Beyond w3 W) => show GAt eEn W w3.heap.size AF (W0.drop a) from GAt.below haf hW)
          have HTL := hid (show (W0.take a).length ≤ 1000000 by rw [List.length_take]; have := HTK.out; omega)
          have z0 : ∀ W, Beyond w3 W → W.cell? ⟨g, 0, none⟩ = some (.int .i64 xi) := fun W hW => (HE3.out.below hW HE3.out.lt).cell 0
          have z1 : ∀ W, Beyond w3 W → W.cell? ⟨g, 1, none⟩ = some (.string (bst xb)) := fun W hW => (HE3.out.below hW HE3.out.lt).cell 1
          have z2 : ∀ W, Beyond w3 W → W.cell? ⟨g, 2, none⟩ = some (.bool true) := fun W hW => (HE3.out.below hW HE3.out.lt).cell 2
          clear he3 hat haf HES HD1 HE1 HB
          go_upto_region 10 with fail
          refine wp_region_held_drew (S := Beyond w3) (by kernel_rfl) (Beyond.drew _) (fun hS => ?_)
          refine stT 1 hS ?_
          try simp only [putr]
          refine stT 2 hS ?_
          try simp only [putr]
          refine stT 3 hS ?_
          try simp only [putr]
          refine stT 5 hS ?_
          try simp only [putr]
          refine rdH [0, 6] ?_
          refine rcH (fun K hK => ?_) ?_
          · skip
            go_simp
            refine hK.out _ _ ((Beyond.alloc hS _)) (fun hS0 => ?_)
            have HR0 := hid (GRow.empty (E := eEn) (e := 32) (g := w3.heap.size) w3.drew rfl (Below.size hS))
            clear hK K hS
            have hS := hS0
            try simp only [putr]
            refine rdH [4, 6] ?_
            refine rcH (fun K hK => ?_) ?_
            · skip
              refine wp_append_g _ (.tmp 41) (.tmp 44) eEn gi_en (by decide) rfl w3.heap.size rfl HR0.out rfl (by rw [List.length_take]; have := HJL.out; omega) (HT3.out _ hS) (by have := HTL.out; simp only [List.length_nil]; omega) (Below.size hS) ?_
              intro A4 m4 c4 w4 hr4 hc4 hb4 hg4
              refine hK.out _ _ (Below.trans hS hb4) (fun hS4 => ?_)
              have HR4 := hid hr4
              clear hr4 hc4 hb4 hg4
              clear hK K hS
              have hS := hS4
              try simp only [putr]
              refine rdH [6] ?_
              refine rcH (fun K hK => ?_) AllReadyH.nil
              go_simp
              refine hK.out _ _ ((Beyond.alloc hS _)) (fun hS6 => ?_)
              have HX1 := hid (GAt.one_at (w := w4) (x := (⟨xi, xb, true⟩ : En)) (t := 32) (E := eEn) (cs := #[.int .i64 xi, .string (bst xb), .bool true]) (g := w4.heap.size) rfl rfl)
              have HR4 := hid (HR4.out.alloc (.cells #[.int .i64 xi, .string (bst xb), .bool true] 32))
              clear hK K hS
              have hS := hS6
              try simp only [putr]
              refine rdH [7] ?_
              refine rcH (fun K hK => ?_) AllReadyH.nil
              refine wp_append_g _ (.tmp 45) (.tmp 47) eEn gi_en (by decide) rfl w3.heap.size rfl HR4.out rfl rfl (ns := [(⟨xi, xb, true⟩ : En)]) HX1.out (by have := HTL.out; simp only [List.length_append, List.length_nil, List.length_singleton]; omega) (Below.size hS) ?_
              intro A7 m7 c7 w7 hr7 hc7 hb7 hg7
              refine hK.out _ _ (Below.trans hS hb7) (fun hS7 => ?_)
              have HR7 := hid hr7
              clear hr7 hc7 hb7 hg7
              clear hK K hS
              have hS := hS7
              try simp only [putr]
              refine stT 8 hS ?_
              try simp only [putr]
              refine wpAnyH_done (by kernel_rfl) ?_ _
              clear z0 z1 z2 HT3 HR4 HX1 HR0 hslt
              have HB7 := hid (show Below w3.heap.size w3 w7 from hS)
              have HF7 := hid (HF3.out w7 hS)
              have HL7 := hid (show (([] ++ W0.take a) ++ [(⟨xi, xb, true⟩ : En)]).length + (W0.drop a).length ≤ 1099511627776 by simp only [List.length_append, List.length_nil, List.length_singleton, List.length_drop]; have := HTL.out; have := HTK.out; omega)
              have hma : mw - a = (W0.drop a).length := by rw [List.length_drop, HWL.out]
              have HMA := hid hma
              clear hS hS0 hS4 hS6 hS7 HF3 hma
              go_upto_region 12 with (at_builtin; go_must (refine wpList_append_g _ rfl _ _ eEn gi_en (by decide) rfl w3.heap.size rfl HR7.out rfl HMA.out HF7.out HL7.out HB7.out.size ?_); intro A9 m9 c9 w9 hr9 hc9 hb9 hg9; have HR9 := hid (And.intro hr9 hb9); clear hr9 hc9 hb9 hg9; go_frame)
              have hb39 : Below w3.heap.size w3 w9 := HB7.out.trans HR9.out.2
              have hr9 : GRow eEn 32 w9 w3.heap.size A9 m9 c9 (insE ⟨xi, xb, true⟩ W0) := by
                have h1 := HR9.out.1
                have h2 : ([] ++ W0.take a) ++ [(⟨xi, xb, true⟩ : En)] ++ W0.drop a = insE ⟨xi, xb, true⟩ W0 := by unfold insE; rw [← HWL.out, HBK.out]; simp
                rw [← h2]; exact h1
              have HD5 := hid (HD3.out.was' hr9 hb39)
              have HE5 := hid (show EBlk w9 g ⟨xi, xb, true⟩ from HE3.out.below hb39 HE3.out.lt)
              have HGN5 := hid (show w.heap.size ≤ g ∧ (Value.slice Ao mo co).ownBlock ≠ some g ∧ (Value.slice A9 m9 c9).ownBlock ≠ some g from ⟨HGN.out.1, HGN.out.2.1, fun e => by have h1 := (hr9.2.lt _ e).1; have h2 := HE3.out.lt; omega⟩)
              clear hb39 hr9 HR9 HR7 HD3 HE3 HGN
              have HGN := HGN5
              obtain ⟨w5, rfl⟩ : ∃ w5, w5 = w9 := ⟨_, rfl⟩
              go_upto_region 12 with fail
              have q0 := HE5.out.cell 0
              have q1 := HE5.out.cell 1
              have q2 := HE5.out.cell 2
              have q3 := HE5.out.free 2
              have he6 : EBlk (w5.setCell ⟨g, 2, none⟩ (.bool false)) g ⟨xi, xb, false⟩ := by
                have := HE5.out.set 2 (.bool false)
                simpa using this
              have hd6 := HD5.out.setFar (HGN.out) (i := 2) (.bool false)
              have HE6 := hid he6
              have HD6 := hid hd6
              clear he6 hd6
              go_upto_region 13 with fail
              clear q0 q1 q2 q3
              generalize w5.setCell ⟨g, 2, none⟩ (.bool false) = w6 at *
              have q0 := HE6.out.cell 0
              have q1 := HE6.out.cell 1
              have q2 := HE6.out.cell 2
              have hb7 := (Below.refl w6.heap.size w6).alloc (Nat.le_refl _) (.cells #[.int .i64 xi, .string (bst xb), .bool false] 32)
              have HD7 := hid (HD6.out.step hb7)
              have HX7 := hid (GAt.one w6 (⟨xi, xb, false⟩ : En) 32 (E := eEn) (cs := #[.int .i64 xi, .string (bst xb), .bool false]) rfl)
              have HN7 := hid (show (cleanE (l.take j)).length + [(⟨xi, xb, false⟩ : En)].length ≤ 1099511627776 by unfold cleanE; rw [List.length_map, List.length_take, List.length_singleton]; omega)
              have HS7 := hid (Nat.le_trans HD6.out.below.size hb7.size)
              clear hb7
              go_wp2_with (at_builtin; go_must (refine wpList_append_own _ rfl _ _ eEn gi_en (by decide) rfl w.heap.size rfl HD7.out.out rfl rfl HX7.out HN7.out HS7.out ?_); intro A8 m8 c8 w8 hr8 hc8 hb8 hg8 ho8; have HD8 := hid (HD7.out.out' hr8 hb8 hg8 ho8); clear hr8 hc8 hb8 hg8 ho8; go_frame)
              have HD9 := hid (show DD w w8 A8 m8 c8 A9 m9 c9 (cleanE (l.take (j + 1))) (dirtyE [] (l.take (j + 1))) by
                have e1 : cleanE (l.take (j + 1)) = cleanE (l.take j) ++ [⟨xi, xb, false⟩] := by unfold cleanE; rw [take_nextE HX.out, List.map_append]; rfl
                rw [e1, dirtyE_take HX.out, HW0.out]
                exact HD8.out)
              go_roundw
              case rel => exact ⟨j + 1, _, _, _, _, _, _, rfl, rfl, by go_num, by omega, HD9⟩
              case measure => simp [intOf]; omega
            refine rcH (fun K hK => ?_) AllReadyH.nil
            · skip
              go_simp
              refine hK.out _ _ ((Beyond.alloc hS _)) (fun hS6 => ?_)
              have HX1 := hid (GAt.one_at (w := (w3.drew.alloc (.cells #[] 32))) (x := (⟨xi, xb, true⟩ : En)) (t := 32) (E := eEn) (cs := #[.int .i64 xi, .string (bst xb), .bool true]) (g := w3.heap.size + 1) rfl (by simp))
              have HR0 := hid (HR0.out.alloc (.cells #[.int .i64 xi, .string (bst xb), .bool true] 32))
              clear hK K hS
              have hS := hS6
              try simp only [putr]
              refine rdH [4] ?_
              refine rcH (fun K hK => ?_) AllReadyH.nil
              refine wp_append_g _ (.tmp 41) (.tmp 44) eEn gi_en (by decide) rfl w3.heap.size rfl HR0.out rfl (by rw [List.length_take]; have := HJL.out; omega) (HT3.out _ hS) (by have := HTL.out; simp only [List.length_nil]; omega) (Below.size hS) ?_
              intro A4 m4 c4 w4 hr4 hc4 hb4 hg4
              refine hK.out _ _ (Below.trans hS hb4) (fun hS4 => ?_)
              have HR4 := hid hr4
              have HX1 := hid (GAt.grown HX1.out hg4 (by simp) (fun b off e q => by have e1 := congrArg Addr.block (Option.some.inj e); have e2 := Option.some.inj q; dsimp only at e1 e2; omega))
              clear hr4 hc4 hb4 hg4
              clear hK K hS
              have hS := hS4
              try simp only [putr]
              refine rdH [7] ?_
              refine rcH (fun K hK => ?_) AllReadyH.nil
              refine wp_append_g _ (.tmp 45) (.tmp 47) eEn gi_en (by decide) rfl w3.heap.size rfl HR4.out rfl rfl (ns := [(⟨xi, xb, true⟩ : En)]) HX1.out (by have := HTL.out; simp only [List.length_append, List.length_nil, List.length_singleton]; omega) (Below.size hS) ?_
              intro A7 m7 c7 w7 hr7 hc7 hb7 hg7
              refine hK.out _ _ (Below.trans hS hb7) (fun hS7 => ?_)
              have HR7 := hid hr7
              clear hr7 hc7 hb7 hg7
              clear hK K hS
              have hS := hS7
              try simp only [putr]
              refine stT 8 hS ?_
              try simp only [putr]
              refine wpAnyH_done (by kernel_rfl) ?_ _
              clear z0 z1 z2 HT3 HR4 HX1 HR0 hslt
              have HB7 := hid (show Below w3.heap.size w3 w7 from hS)
              have HF7 := hid (HF3.out w7 hS)
              have HL7 := hid (show (([] ++ W0.take a) ++ [(⟨xi, xb, true⟩ : En)]).length + (W0.drop a).length ≤ 1099511627776 by simp only [List.length_append, List.length_nil, List.length_singleton, List.length_drop]; have := HTL.out; have := HTK.out; omega)
              have hma : mw - a = (W0.drop a).length := by rw [List.length_drop, HWL.out]
              have HMA := hid hma
              clear hS hS0 hS4 hS6 hS7 HF3 hma
              go_upto_region 12 with (at_builtin; go_must (refine wpList_append_g _ rfl _ _ eEn gi_en (by decide) rfl w3.heap.size rfl HR7.out rfl HMA.out HF7.out HL7.out HB7.out.size ?_); intro A9 m9 c9 w9 hr9 hc9 hb9 hg9; have HR9 := hid (And.intro hr9 hb9); clear hr9 hc9 hb9 hg9; go_frame)
              have hb39 : Below w3.heap.size w3 w9 := HB7.out.trans HR9.out.2
              have hr9 : GRow eEn 32 w9 w3.heap.size A9 m9 c9 (insE ⟨xi, xb, true⟩ W0) := by
                have h1 := HR9.out.1
                have h2 : ([] ++ W0.take a) ++ [(⟨xi, xb, true⟩ : En)] ++ W0.drop a = insE ⟨xi, xb, true⟩ W0 := by unfold insE; rw [← HWL.out, HBK.out]; simp
                rw [← h2]; exact h1
              have HD5 := hid (HD3.out.was' hr9 hb39)
              have HE5 := hid (show EBlk w9 g ⟨xi, xb, true⟩ from HE3.out.below hb39 HE3.out.lt)
              have HGN5 := hid (show w.heap.size ≤ g ∧ (Value.slice Ao mo co).ownBlock ≠ some g ∧ (Value.slice A9 m9 c9).ownBlock ≠ some g from ⟨HGN.out.1, HGN.out.2.1, fun e => by have h1 := (hr9.2.lt _ e).1; have h2 := HE3.out.lt; omega⟩)
              clear hb39 hr9 HR9 HR7 HD3 HE3 HGN
              have HGN := HGN5
              obtain ⟨w5, rfl⟩ : ∃ w5, w5 = w9 := ⟨_, rfl⟩
              go_upto_region 12 with fail
              have q0 := HE5.out.cell 0
              have q1 := HE5.out.cell 1
              have q2 := HE5.out.cell 2
              have q3 := HE5.out.free 2
              have he6 : EBlk (w5.setCell ⟨g, 2, none⟩ (.bool false)) g ⟨xi, xb, false⟩ := by
                have := HE5.out.set 2 (.bool false)
                simpa using this
              have hd6 := HD5.out.setFar (HGN.out) (i := 2) (.bool false)
              have HE6 := hid he6
              have HD6 := hid hd6
              clear he6 hd6
              go_upto_region 13 with fail
              clear q0 q1 q2 q3
              generalize w5.setCell ⟨g, 2, none⟩ (.bool false) = w6 at *
              have q0 := HE6.out.cell 0
              have q1 := HE6.out.cell 1
              have q2 := HE6.out.cell 2
              have hb7 := (Below.refl w6.heap.size w6).alloc (Nat.le_refl _) (.cells #[.int .i64 xi, .string (bst xb), .bool false] 32)
              have HD7 := hid (HD6.out.step hb7)
              have HX7 := hid (GAt.one w6 (⟨xi, xb, false⟩ : En) 32 (E := eEn) (cs := #[.int .i64 xi, .string (bst xb), .bool false]) rfl)
              have HN7 := hid (show (cleanE (l.take j)).length + [(⟨xi, xb, false⟩ : En)].length ≤ 1099511627776 by unfold cleanE; rw [List.length_map, List.length_take, List.length_singleton]; omega)
              have HS7 := hid (Nat.le_trans HD6.out.below.size hb7.size)
              clear hb7
              go_wp2_with (at_builtin; go_must (refine wpList_append_own _ rfl _ _ eEn gi_en (by decide) rfl w.heap.size rfl HD7.out.out rfl rfl HX7.out HN7.out HS7.out ?_); intro A8 m8 c8 w8 hr8 hc8 hb8 hg8 ho8; have HD8 := hid (HD7.out.out' hr8 hb8 hg8 ho8); clear hr8 hc8 hb8 hg8 ho8; go_frame)
              have HD9 := hid (show DD w w8 A8 m8 c8 A9 m9 c9 (cleanE (l.take (j + 1))) (dirtyE [] (l.take (j + 1))) by
                have e1 : cleanE (l.take (j + 1)) = cleanE (l.take j) ++ [⟨xi, xb, false⟩] := by unfold cleanE; rw [take_nextE HX.out, List.map_append]; rfl
                rw [e1, dirtyE_take HX.out, HW0.out]
                exact HD8.out)
              go_roundw
              case rel => exact ⟨j + 1, _, _, _, _, _, _, rfl, rfl, by go_num, by omega, HD9⟩
              case measure => simp [intOf]; omega
          refine rcH (fun K hK => ?_) AllReadyH.nil
          · skip
            go_simp
            refine hK.out _ _ ((Beyond.alloc hS _)) (fun hS6 => ?_)
            have HX1 := hid (GAt.one_at (w := w3.drew) (x := (⟨xi, xb, true⟩ : En)) (t := 32) (E := eEn) (cs := #[.int .i64 xi, .string (bst xb), .bool true]) (g := w3.heap.size) rfl rfl)
            clear hK K hS
            have hS := hS6
            try simp only [putr]
            refine rdH [0] ?_
            refine rcH (fun K hK => ?_) AllReadyH.nil
            go_simp
            refine hK.out _ _ ((Beyond.alloc hS _)) (fun hS0 => ?_)
            have HR0 := hid (GRow.empty (E := eEn) (e := 32) (g := w3.heap.size + 1) (w3.drew.alloc (.cells #[.int .i64 xi, .string (bst xb), .bool true] 32)) (by simp) (Below.size hS))
            have HX1 := hid (GAt.below HX1.out ((Below.refl _ _).alloc (by simp) (.cells #[] 32)))
            clear hK K hS
            have hS := hS0
            try simp only [putr]
            refine rdH [4] ?_
            refine rcH (fun K hK => ?_) AllReadyH.nil
            refine wp_append_g _ (.tmp 41) (.tmp 44) eEn gi_en (by decide) rfl w3.heap.size rfl HR0.out rfl (by rw [List.length_take]; have := HJL.out; omega) (HT3.out _ hS) (by have := HTL.out; simp only [List.length_nil]; omega) (Below.size hS) ?_
            intro A4 m4 c4 w4 hr4 hc4 hb4 hg4
            refine hK.out _ _ (Below.trans hS hb4) (fun hS4 => ?_)
            have HR4 := hid hr4
            have HX1 := hid (GAt.grown HX1.out hg4 (by simp) (fun b off e q => by have e1 := congrArg Addr.block (Option.some.inj e); have e2 := Option.some.inj q; dsimp only at e1 e2; omega))
            clear hr4 hc4 hb4 hg4
            clear hK K hS
            have hS := hS4
            try simp only [putr]
            refine rdH [7] ?_
            refine rcH (fun K hK => ?_) AllReadyH.nil
            refine wp_append_g _ (.tmp 45) (.tmp 47) eEn gi_en (by decide) rfl w3.heap.size rfl HR4.out rfl rfl (ns := [(⟨xi, xb, true⟩ : En)]) HX1.out (by have := HTL.out; simp only [List.length_append, List.length_nil, List.length_singleton]; omega) (Below.size hS) ?_
            intro A7 m7 c7 w7 hr7 hc7 hb7 hg7
            refine hK.out _ _ (Below.trans hS hb7) (fun hS7 => ?_)
            have HR7 := hid hr7
            clear hr7 hc7 hb7 hg7
            clear hK K hS
            have hS := hS7
            try simp only [putr]
            refine stT 8 hS ?_
            try simp only [putr]
            refine wpAnyH_done (by kernel_rfl) ?_ _
            clear z0 z1 z2 HT3 HR4 HX1 HR0 hslt
            have HB7 := hid (show Below w3.heap.size w3 w7 from hS)
            have HF7 := hid (HF3.out w7 hS)
            have HL7 := hid (show (([] ++ W0.take a) ++ [(⟨xi, xb, true⟩ : En)]).length + (W0.drop a).length ≤ 1099511627776 by simp only [List.length_append, List.length_nil, List.length_singleton, List.length_drop]; have := HTL.out; have := HTK.out; omega)
            have hma : mw - a = (W0.drop a).length := by rw [List.length_drop, HWL.out]
            have HMA := hid hma
            clear hS hS0 hS4 hS6 hS7 HF3 hma
            go_upto_region 12 with (at_builtin; go_must (refine wpList_append_g _ rfl _ _ eEn gi_en (by decide) rfl w3.heap.size rfl HR7.out rfl HMA.out HF7.out HL7.out HB7.out.size ?_); intro A9 m9 c9 w9 hr9 hc9 hb9 hg9; have HR9 := hid (And.intro hr9 hb9); clear hr9 hc9 hb9 hg9; go_frame)
            have hb39 : Below w3.heap.size w3 w9 := HB7.out.trans HR9.out.2
            have hr9 : GRow eEn 32 w9 w3.heap.size A9 m9 c9 (insE ⟨xi, xb, true⟩ W0) := by
              have h1 := HR9.out.1
              have h2 : ([] ++ W0.take a) ++ [(⟨xi, xb, true⟩ : En)] ++ W0.drop a = insE ⟨xi, xb, true⟩ W0 := by unfold insE; rw [← HWL.out, HBK.out]; simp
              rw [← h2]; exact h1
            have HD5 := hid (HD3.out.was' hr9 hb39)
            have HE5 := hid (show EBlk w9 g ⟨xi, xb, true⟩ from HE3.out.below hb39 HE3.out.lt)
            have HGN5 := hid (show w.heap.size ≤ g ∧ (Value.slice Ao mo co).ownBlock ≠ some g ∧ (Value.slice A9 m9 c9).ownBlock ≠ some g from ⟨HGN.out.1, HGN.out.2.1, fun e => by have h1 := (hr9.2.lt _ e).1; have h2 := HE3.out.lt; omega⟩)
            clear hb39 hr9 HR9 HR7 HD3 HE3 HGN
            have HGN := HGN5
            obtain ⟨w5, rfl⟩ : ∃ w5, w5 = w9 := ⟨_, rfl⟩
            go_upto_region 12 with fail
            have q0 := HE5.out.cell 0
            have q1 := HE5.out.cell 1
            have q2 := HE5.out.cell 2
            have q3 := HE5.out.free 2
            have he6 : EBlk (w5.setCell ⟨g, 2, none⟩ (.bool false)) g ⟨xi, xb, false⟩ := by
              have := HE5.out.set 2 (.bool false)
              simpa using this
            have hd6 := HD5.out.setFar (HGN.out) (i := 2) (.bool false)
            have HE6 := hid he6
            have HD6 := hid hd6
            clear he6 hd6
            go_upto_region 13 with fail
            clear q0 q1 q2 q3
            generalize w5.setCell ⟨g, 2, none⟩ (.bool false) = w6 at *
            have q0 := HE6.out.cell 0
            have q1 := HE6.out.cell 1
            have q2 := HE6.out.cell 2
            have hb7 := (Below.refl w6.heap.size w6).alloc (Nat.le_refl _) (.cells #[.int .i64 xi, .string (bst xb), .bool false] 32)
            have HD7 := hid (HD6.out.step hb7)
            have HX7 := hid (GAt.one w6 (⟨xi, xb, false⟩ : En) 32 (E := eEn) (cs := #[.int .i64 xi, .string (bst xb), .bool false]) rfl)
            have HN7 := hid (show (cleanE (l.take j)).length + [(⟨xi, xb, false⟩ : En)].length ≤ 1099511627776 by unfold cleanE; rw [List.length_map, List.length_take, List.length_singleton]; omega)
            have HS7 := hid (Nat.le_trans HD6.out.below.size hb7.size)
            clear hb7
            go_wp2_with (at_builtin; go_must (refine wpList_append_own _ rfl _ _ eEn gi_en (by decide) rfl w.heap.size rfl HD7.out.out rfl rfl HX7.out HN7.out HS7.out ?_); intro A8 m8 c8 w8 hr8 hc8 hb8 hg8 ho8; have HD8 := hid (HD7.out.out' hr8 hb8 hg8 ho8); clear hr8 hc8 hb8 hg8 ho8; go_frame)
            have HD9 := hid (show DD w w8 A8 m8 c8 A9 m9 c9 (cleanE (l.take (j + 1))) (dirtyE [] (l.take (j + 1))) by
              have e1 : cleanE (l.take (j + 1)) = cleanE (l.take j) ++ [⟨xi, xb, false⟩] := by unfold cleanE; rw [take_nextE HX.out, List.map_append]; rfl
              rw [e1, dirtyE_take HX.out, HW0.out]
              exact HD8.out)
            go_roundw
            case rel => exact ⟨j + 1, _, _, _, _, _, _, rfl, rfl, by go_num, by omega, HD9⟩
            case measure => simp [intOf]; omega
    · obtain rfl : j = n := by omega
      have HD9 := hid HD.out
      rw [HLN.out, List.take_length] at HD9
      have hmw : Kept (DD w wr Ao mo co Aw mw cw (cleanE l) (dirtyE [] l)) := HD9
      go_wp2_with fail
      go_ret2
      exact ⟨_, _, _, _, _, _, rfl, HD9.out.out, HD9.out.was, HD9.out.below⟩

end Go.Proofs.Ytdhjjjagjkencaa
