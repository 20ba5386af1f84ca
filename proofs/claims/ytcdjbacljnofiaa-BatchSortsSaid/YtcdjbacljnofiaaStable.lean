/-
  The library's stableCmpFunc and SortStableFunc at writes: the row is in order, writes of one key as they were.
-/
import Derived.Test.YtcdjbacljnofiaaJSort
import Derived.Test.YtcdjbacljnofiaaSymIs
namespace Go.Proofs.Ytcdjbacljnofiaa
open Go Go.Shelf Go.RowKit Go.Sort Go.Lib

theorem ins_step {X Pf : List Wt} {d : Array Wt} {a s : Nat} (h0 : 0 < s) (hp : Pf.length = a) (hd : d.toList = Pf ++ X.drop a) (he : Pf ++ brows s (X.drop a) = brows s X) (hl : a + s ≤ X.length) :
    (Pf ++ sortW ((X.drop a).take s)).length = a + s ∧ (Sort.insertionSort (ltOf cfW) d a (a + s)).toList = (Pf ++ sortW ((X.drop a).take s)) ++ X.drop (a + s) ∧ (Pf ++ sortW ((X.drop a).take s)) ++ brows s (X.drop (a + s)) = brows s X := by
  have hlen : ((X.drop a).take s).length = s := by rw [List.length_take, List.length_drop]; omega
  refine ⟨by rw [List.length_append, sortW_length, hlen, hp], ?_, ?_⟩
  · have := insertion_is ((X.drop a).take s) Pf (X.drop (a + s)) d a (a + s) hp.symm (by rw [hlen]) (by rw [hd, List.append_assoc, ← List.drop_drop, List.take_append_drop])
    rw [this]
  · rw [← he, brows_step (X := X.drop a) h0 (by rw [List.length_drop]; omega), List.drop_drop, List.append_assoc]
theorem ins_last {X Pf : List Wt} {d : Array Wt} {a s : Nat} (hp : Pf.length = a) (hd : d.toList = Pf ++ X.drop a) (he : Pf ++ brows s (X.drop a) = brows s X) (ha : a ≤ X.length) (hl : X.length ≤ a + s) :
    (Sort.insertionSort (ltOf cfW) d a X.length).toList = brows s X := by
  have := insertion_is (X.drop a) Pf [] d a X.length hp.symm (by rw [List.length_drop]; omega) (by rw [hd, List.append_nil])
  rw [this, List.append_nil, ← he, brows_small (by rw [List.length_drop]; omega)]
theorem mrg_step {X Pf : List Wt} {d : Array Wt} {a s f : Nat} (h0 : 0 < s) (hp : Pf.length = a) (hd : d.toList = Pf ++ brows s (X.drop a)) (he : Pf ++ brows (2 * s) (X.drop a) = brows (2 * s) X) (hl : a + 2 * s ≤ X.length) (hf : 2 * s ≤ f) :
    (Pf ++ sortW ((X.drop a).take (2 * s))).length = a + 2 * s ∧ (symM cfW f d a (a + s) (a + 2 * s)).toList = (Pf ++ sortW ((X.drop a).take (2 * s))) ++ brows s (X.drop (a + 2 * s)) ∧ (Pf ++ sortW ((X.drop a).take (2 * s))) ++ brows (2 * s) (X.drop (a + 2 * s)) = brows (2 * s) X := by
  have hlen : ((X.drop a).take (2 * s)).length = 2 * s := by rw [List.length_take, List.length_drop]; omega
  refine ⟨by rw [List.length_append, sortW_length, hlen, hp], ?_, ?_⟩
  · obtain ⟨Y, hY⟩ : ∃ Y, Y = X.drop a := ⟨_, rfl⟩
    have hYl : Y.length = X.length - a := by rw [hY, List.length_drop]
    rw [← hY] at hd ⊢
    rw [← List.drop_drop, ← hY]
    have e1 : brows s Y = sortW (Y.take s) ++ (sortW ((Y.drop s).take s) ++ brows s (Y.drop (2 * s))) := by
      rw [brows_step h0 (by omega), brows_step (X := Y.drop s) h0 (by rw [List.length_drop]; omega), List.drop_drop, show s + s = 2 * s by omega]
    have e2 : Y.take (2 * s) = Y.take s ++ (Y.drop s).take s := by rw [show 2 * s = s + s by omega, List.take_add]
    have l1 : (Y.take s).length = s := by rw [List.length_take]; omega
    have l2 : ((Y.drop s).take s).length = s := by rw [List.length_take, List.length_drop]; omega
    have := symM_is f Pf (sortW (Y.take s)) (sortW ((Y.drop s).take s)) (brows s (Y.drop (2 * s))) d a (a + s) (a + 2 * s) (by omega) (by omega) (by omega) hp.symm (by rw [sortW_length, l1]) (by rw [sortW_length, l2]; omega) (sortW_srt _) (sortW_srt _) (by rw [hd, e1]; simp)
    rw [this, sortW_two, ← e2]
  · rw [← he, brows_step (X := X.drop a) (s := 2 * s) (by omega) (by rw [List.length_drop]; omega), List.drop_drop, List.append_assoc]
theorem mrg_last {X Pf : List Wt} {d : Array Wt} {a s f : Nat} (h0 : 0 < s) (hp : Pf.length = a) (hd : d.toList = Pf ++ brows s (X.drop a)) (he : Pf ++ brows (2 * s) (X.drop a) = brows (2 * s) X) (hl : a + s < X.length) (hl2 : X.length ≤ a + 2 * s) (hf : X.length ≤ f) :
    (symM cfW f d a (a + s) X.length).toList = brows (2 * s) X := by
  obtain ⟨Y, hY⟩ : ∃ Y, Y = X.drop a := ⟨_, rfl⟩
  have hYl : Y.length = X.length - a := by rw [hY, List.length_drop]
  rw [← hY] at hd he
  have e1 : brows s Y = sortW (Y.take s) ++ sortW (Y.drop s) := by
    rw [brows_step h0 (by omega), brows_small (X := Y.drop s) (by rw [List.length_drop]; omega)]
  have l1 : (Y.take s).length = s := by rw [List.length_take]; omega
  have l2 : (Y.drop s).length = X.length - a - s := by rw [List.length_drop, hYl]
  have := symM_is f Pf (sortW (Y.take s)) (sortW (Y.drop s)) [] d a (a + s) X.length (by omega) (by omega) (by omega) hp.symm (by rw [sortW_length, l1]) (by rw [sortW_length, l2]; omega) (sortW_srt _) (sortW_srt _) (by rw [hd, e1]; simp)
  rw [this, sortW_two, List.take_append_drop, ← he, brows_small (X := Y) (s := 2 * s) (by omega), List.append_nil]
theorem mrg_none {X Pf : List Wt} {d : Array Wt} {a s : Nat} (hd : d.toList = Pf ++ brows s (X.drop a)) (he : Pf ++ brows (2 * s) (X.drop a) = brows (2 * s) X) (hl : X.length ≤ a + s) : d.toList = brows (2 * s) X := by
  rw [hd, ← he, brows_small (X := X.drop a) (s := s) (by rw [List.length_drop]; omega), brows_small (X := X.drop a) (s := 2 * s) (by rw [List.length_drop]; omega)]

variable {P : Program} {enc : Wt → List Value} {k : Nat} {w0 : World} {blk off : Nat} {d0 : Array Wt}

set_option maxHeartbeats 8000000 in
set_option maxRecDepth 1000000 in
theorem stable_any (G : SRow P enc k w0 blk off d0) (g : Nat) (cb : Array Value) (eg : ∀ args w, (callFunc g args).run P w = .ok (.enter g args) w) (hcmp : CmpLays P g cb enc k cfW blk off d0.size w0) (cap : Nat) (w : World) (S : SWK enc k w0 blk off d0 w) :
    Calls P 48 #[.slice (some ⟨blk, off, none⟩) d0.size cap, .int .i64 (d0.size : Int), .func (.func g) #[] cb] w fun e w' =>
      e = .returned (.tuple #[]) ∧ ∃ d' : Array Wt, d'.toList = sortW d0.toList ∧ d'.size = d0.size ∧ SWK enc k w0 blk off d' w' := by
  have L := G.L
  have R := G.R
  have hsz := G.sz
  have aE := L.aE; have zE := L.zE
  have mixed := L.mixed; have t0 := L.t0; have a0 := L.a0; have z0 := L.z0; have v0 := L.v0; have t3 := L.t3; have a3 := L.a3; have z3 := L.z3; have v3 := L.v3; have t4 := L.t4; have a4 := L.a4; have z4 := L.z4; have v4 := L.v4; have t23 := L.t23; have a23 := L.a23; have z23 := L.z23; have v23 := L.v23; have t50 := L.t50; have a50 := L.a50; have z50 := L.z50; have v50 := L.v50; have t95 := L.t95; have a95 := L.a95; have z95 := L.z95; have v95 := L.v95
  have u0 := run_underlying L.t0; have u3 := run_underlying L.t3; have u4 := run_underlying L.t4; have u23 := run_underlying L.t23; have u95 := run_underlying L.t95
  have FG := L.stable
  have e1 : ∀ args w, (callFunc 62 args).run P w = .ok (.enter 62 args) w := enters_of L.insert (by kernel_rfl) rfl
  have e2 : ∀ args w, (callFunc 63 args).run P w = .ok (.enter 63 args) w := enters_of L.merge (by kernel_rfl) rfl
  clear L
  have INS := hid (fun a b d w h1 h2 h3 h4 => insert_any G cfW g cb eg hcmp cap a b d w h1 h2 h3 h4)
  have MRG := hid (fun a m b d w h1 h2 h3 h4 h5 h6 => symMerge_any G cfW g cb eg hcmp cap d0.size a m b d w h1 h2 h3 h4 h5 h6)
  have S0 : Aside (SWK enc k w0 blk off d0 w) := S
  obtain ⟨N, hN⟩ : ∃ N, N = d0.size := ⟨_, rfl⟩
  obtain ⟨X, hX⟩ : ∃ X, X = d0.toList := ⟨_, rfl⟩
  have hXN : X.length = N := by rw [hX, hN]; simp
  have XN := hid hXN
  have X0 := hid hX
  rw [← hX]
  rw [← hN] at INS MRG hsz ⊢
  have NN := hid hN
  clear S hcmp hXN hX hN
  go_enter FG, Try.ntmps48
  go_wp2
  go_loopg [7, 8] N (fun kx s7 s8 wr => ∃ (a : Nat) (dk : Array Wt) (Pf : List Wt), s7 = .int .i64 (a : Int) ∧ s8 = .int .i64 ((a : Int) + 20) ∧ a ≤ N ∧ N - a ≤ kx ∧ dk.size = N ∧ Aside (SWK enc k w0 blk off dk wr) ∧ Hid (Pf.length = a ∧ dk.toList = Pf ++ X.drop a ∧ Pf ++ brows 20 (X.drop a) = brows 20 X))
  case atStart => exact ⟨0, d0, [], rfl, rfl, Nat.zero_le _, Nat.le_refl _, NN.out.symm, S0, (show _ ∧ _ ∧ _ from ⟨rfl, X0.out.symm, rfl⟩)⟩
  case round =>
    clear S0
    obtain ⟨a, dk, Pf, rfl, rfl, ha, hkx, hds, S1, HE⟩ := hrel
    by_cases hlt : a + 20 ≤ N
    · have hltz : (a : Int) + 20 ≤ (N : Int) := by omega
      have hc := INS.out a (a + 20) dk wr hds S1.out (by omega) hlt
      rw [show ((a + 20 : Nat) : Int) = (a : Int) + 20 by omega] at hc
      have HCC := hid hc
      clear hc
      go_wp2_with fail
      go_at_fn 62
      refine HCC.out.mono ?_
      rintro e w' ⟨rfl, S2⟩
      have S2 : Aside _ := S2
      go_wp2
      go_roundg (N - (a + 20))
      case measure => omega
      case rel =>
        have hx := HE.out
        have := ins_step (s := 20) (by decide) hx.1 hx.2.1 hx.2.2 (by rw [XN.out]; exact hlt)
        exact ⟨a + 20, _, Pf ++ sortW ((X.drop a).take 20), by go_num, by go_num, hlt, Nat.le_refl _, by rw [insertionSort_size]; exact hds, S2, this⟩
    · have hltz : ¬ (a : Int) + 20 ≤ (N : Int) := by omega
      have hc := INS.out a N dk wr hds S1.out ha (Nat.le_refl _)
      have HCC := hid hc
      clear hc
      go_wp2_with fail
      go_at_fn 62
      refine HCC.out.mono ?_
      rintro e w5 ⟨rfl, S5⟩
      have S5 : Aside _ := S5
      have S6 : ∃ d5 : Array Wt, d5.size = N ∧ Aside (SWK enc k w0 blk off d5 w5) ∧ Hid (d5.toList = brows 20 X) := ⟨_, by rw [insertionSort_size]; exact hds, S5, (show _ = _ by
        have hx := HE.out
        have := ins_last (s := 20) (d := dk) hx.1 hx.2.1 hx.2.2 (by rw [XN.out]; exact ha) (by rw [XN.out]; omega)
        rw [XN.out] at this
        exact this)⟩
      clear S5 HE S1 hds hkx
      obtain ⟨d5, hd5, S5, HE5⟩ := S6
      go_wp2
      go_loopg [6, 7, 8, 9] N (fun kx s6 s7 s8 s9 wr => ∃ (s : Nat) (dk : Array Wt), s6 = .int .i64 (s : Int) ∧ 0 < s ∧ N - s ≤ kx ∧ dk.size = N ∧ Aside (SWK enc k w0 blk off dk wr) ∧ Hid (dk.toList = brows s X))
      case atStart => exact ⟨20, d5, rfl, by decide, Nat.sub_le _ _, hd5, S5, HE5⟩
      case round =>
        clear S5 HE5 hd5
        obtain ⟨s, dk, rfl, hs0, hkx, hds, S1, HE⟩ := hrel
        by_cases hsn : s < N
        · have hsnz : (s : Int) < (N : Int) := by omega
          go_wp2
          go_loopg [7, 8] N (fun kx s7 s8 wr => ∃ (a : Nat) (dk : Array Wt) (Pf : List Wt), s7 = .int .i64 (a : Int) ∧ s8 = .int .i64 ((a : Int) + 2 * (s : Int)) ∧ a ≤ N ∧ N - a ≤ kx ∧ dk.size = N ∧ Aside (SWK enc k w0 blk off dk wr) ∧ Hid (Pf.length = a ∧ dk.toList = Pf ++ brows s (X.drop a) ∧ Pf ++ brows (2 * s) (X.drop a) = brows (2 * s) X))
          case atStart => exact ⟨0, dk, [], rfl, by simp, Nat.zero_le _, Nat.le_refl _, hds, S1, (show _ ∧ _ ∧ _ from ⟨rfl, HE.out, rfl⟩)⟩
          case round =>
            clear S1 HE hds
            obtain ⟨a, dk, Pf, rfl, rfl, ha, hkx2, hds, S1, HE⟩ := hrel
            by_cases hle : a + 2 * s ≤ N
            · have hlez : (a : Int) + 2 * (s : Int) ≤ (N : Int) := by omega
              have hc := MRG.out a (a + s) (a + 2 * s) dk wr hds S1.out (by omega) (by omega) hle (by omega)
              rw [show ((a + 2 * s : Nat) : Int) = (a : Int) + 2 * (s : Int) by omega, show ((a + s : Nat) : Int) = (a : Int) + (s : Int) by omega] at hc
              have HCC := hid hc
              clear hc
              go_wp2_with fail
              go_at_fn 63
              refine HCC.out.mono ?_
              rintro e w' ⟨rfl, S2⟩
              have S2 : Aside _ := S2
              go_wp2
              go_roundg (N - (a + 2 * s))
              case measure => omega
              case rel =>
                have hx := HE.out
                have := mrg_step (f := N) hs0 hx.1 hx.2.1 hx.2.2 (by rw [XN.out]; exact hle) (by omega)
                exact ⟨a + 2 * s, _, Pf ++ sortW ((X.drop a).take (2 * s)), by first | go_num | (congr 1; omega), by first | go_num | (congr 1; omega), hle, Nat.le_refl _, by rw [symM_size]; exact hds, S2, this⟩
            · have hlez : ¬ (a : Int) + 2 * (s : Int) ≤ (N : Int) := by omega
              by_cases hms : a + s < N
              · have hmsz : (a : Int) + (s : Int) < (N : Int) := by omega
                have hc := MRG.out a (a + s) N dk wr hds S1.out (by omega) (by omega) (Nat.le_refl _) (by omega)
                rw [show ((a + s : Nat) : Int) = (a : Int) + (s : Int) by omega] at hc
                have HCC := hid hc
                clear hc
                go_wp2_with fail
                go_at_fn 63
                refine HCC.out.mono ?_
                rintro e w' ⟨rfl, S2⟩
                have S2 : Aside _ := S2
                go_wp2
                go_roundg (N - (2 * s))
                case measure => omega
                case rel =>
                  have hx := HE.out
                  have := mrg_last (f := N) hs0 hx.1 hx.2.1 hx.2.2 (by rw [XN.out]; exact hms) (by rw [XN.out]; omega) (by rw [XN.out]; exact Nat.le_refl _)
                  rw [XN.out] at this
                  exact ⟨2 * s, _, by first | go_num | (congr 1; omega), by omega, Nat.le_refl _, by rw [symM_size]; exact hds, S2, this⟩
              · have hmsz : ¬ (a : Int) + (s : Int) < (N : Int) := by omega
                go_wp2
                go_roundg (N - (2 * s))
                case measure => omega
                case rel =>
                  have hx := HE.out
                  exact ⟨2 * s, dk, by first | go_num | (congr 1; omega), by omega, Nat.le_refl _, hds, S1, (show _ = _ from mrg_none hx.2.1 hx.2.2 (by rw [XN.out]; omega))⟩
        · have hsnz : ¬ (s : Int) < (N : Int) := by omega
          go_wp2
          go_end0
          exact ⟨rfl, dk, by rw [HE.out, brows_small (by rw [XN.out]; omega)], hds, S1.out⟩

set_option maxHeartbeats 1000000 in
set_option maxRecDepth 1000000 in
theorem sortStable_any (G : SRow P enc k w0 blk off d0) (g : Nat) (cb : Array Value) (eg : ∀ args w, (callFunc g args).run P w = .ok (.enter g args) w) (hcmp : CmpLays P g cb enc k cfW blk off d0.size w0) (cap : Nat) (w : World) (S : SWK enc k w0 blk off d0 w) :
    Calls P 31 #[.slice (some ⟨blk, off, none⟩) d0.size cap, .func (.func g) #[] cb] w fun e w' =>
      e = .returned (.tuple #[]) ∧ ∃ d' : Array Wt, d'.toList = sortW d0.toList ∧ d'.size = d0.size ∧ SWK enc k w0 blk off d' w' := by
  have L := G.L
  have R := G.R
  have hsz := G.sz
  have aE := L.aE; have zE := L.zE
  have mixed := L.mixed; have t0 := L.t0; have a0 := L.a0; have z0 := L.z0; have v0 := L.v0; have t3 := L.t3; have a3 := L.a3; have z3 := L.z3; have v3 := L.v3; have t4 := L.t4; have a4 := L.a4; have z4 := L.z4; have v4 := L.v4; have t23 := L.t23; have a23 := L.a23; have z23 := L.z23; have v23 := L.v23; have t50 := L.t50; have a50 := L.a50; have z50 := L.z50; have v50 := L.v50; have t95 := L.t95; have a95 := L.a95; have z95 := L.z95; have v95 := L.v95
  have u0 := run_underlying L.t0; have u3 := run_underlying L.t3; have u4 := run_underlying L.t4; have u23 := run_underlying L.t23; have u95 := run_underlying L.t95
  have FG := L.sort
  have e1 : ∀ args w, (callFunc 48 args).run P w = .ok (.enter 48 args) w := enters_of L.stable (by kernel_rfl) rfl
  clear L
  have HCC := hid (stable_any G g cb eg hcmp cap w S)
  clear hcmp S
  go_enter FG, Try.ntmps31
  go_wp2_with fail
  go_at_fn 48
  refine HCC.out.mono ?_
  rintro e w' ⟨rfl, H2⟩
  have H2 : Aside _ := H2
  go_wp2
  go_end0
  exact ⟨rfl, H2.out⟩

end Go.Proofs.Ytcdjbacljnofiaa
