/-
  The landed Append.
-/
import Derived.Test.YtobmdmbjmjdfjaaGreatDoorWExt
import Derived.Test.YtobmdmbjmjdfjaaGreatDoorWApp2
namespace Go.Proofs.YtobmdmbjmjdfjaaGreatDoor
open Go Go.RowKit

theorem LPl.recount {l : Wl} {live' : List Sg} (h : LPl l) (he : live'.map (·.en) = l.live.map (·.en)) : LPl { l with live := live' } := by
  have h1 : live'.map (·.i) = l.live.map (·.i) := by
    have := congrArg (List.map Prod.fst) he
    rw [List.map_map, List.map_map] at this
    exact this
  refine ⟨h.n2, h.n, h.s1, h.size, h.place, by show (live'.map (·.i)).Nodup; rw [h1]; exact h.nodup, fun x hx => ?_, h.last, h.synced, h.stream, fun hs => fun e => ?_⟩
  · have hm : x.en ∈ l.live.map (·.en) := by rw [← he]; exact List.mem_map_of_mem hx
    obtain ⟨y, hy, e⟩ := List.mem_map.1 hm
    have := h.lt y hy
    injection e with e1 e2
    rw [← e1, ← e2]
    exact this
  · have e : live' = [] := e
    rw [e] at he
    have : l.live = [] := by simpa using he.symm
    exact h.cur hs this
theorem LIn.recount {w : World} {b d c cc : Nat} {A C : Option Addr} {N : Nat → Prop} {l : Wl} {live' : List Sg} (h : LIn w b d A c C cc N l) (he : live'.map (·.en) = l.live.map (·.en)) : LIn w b d A c C cc N { l with live := live' } := by
  have hlen : live'.length = l.live.length := by have := congrArg List.length he; simpa using this
  have hcu : curE { l with live := live' } = curE l := by
    unfold curE
    split
    · rfl
    · have : (live'.map (·.en)).getLast? = (l.live.map (·.en)).getLast? := by rw [he]
      rw [List.getLast?_map, List.getLast?_map] at this
      rw [this]
  refine ⟨?_, ?_, h.bytes, h.nil, h.mb, ?_, h.mc, h.lt, h.pl.recount he⟩
  · rw [hcu]
    show Blk w b _ #[_, _, _, _, .slice A live'.length c, _, _, _, _, _]
    rw [hlen]
    exact h.blk
  · show GRow eEn _ w 0 A live'.length c (live'.map (·.en))
    rw [hlen, he]
    exact h.used
  · show ∀ g, (Value.slice A live'.length c).ownBlock = some g → N g
    rw [hlen]
    exact h.mu
theorem bump_en : ∀ (l : List Sg), (Wl.bump l).map (·.en) = l.map (·.en)
  | [] => rfl
  | [x] => rfl
  | x :: y :: l => by
    show x.en :: (Wl.bump (y :: l)).map (·.en) = x.en :: (y :: l).map (·.en)
    rw [bump_en (y :: l)]
theorem last_set {w : World} {b d : Nat} {N : Nat → Prop} {l : Wl} {L : Nat} (h : LA w b d N l) (hL : L < 18446744073709551616) : LA (w.setCell ⟨b, 5, none⟩ (.int .u64 (L : Int))) b d N { l with last := L } ∧ Only b w (w.setCell ⟨b, 5, none⟩ (.int .u64 (L : Int))) := by
  obtain ⟨A, c, C, cc, hl⟩ := h
  have ho : Only b w (w.setCell ⟨b, 5, none⟩ (.int .u64 (L : Int))) := (Only.refl _ _).set _
  have hp := hl.pl
  refine ⟨⟨A, c, C, cc, ?_, hl.used.kept ho (.inr (own_off hl.used.2 hl.blk (by decide))), ⟨hl.bytes.1, hl.bytes.2.kept ho (.inr (own_off hl.bytes.2 hl.blk (by decide)))⟩, hl.nil, hl.mb, hl.mu, hl.mc, fun k hk => Nat.lt_of_lt_of_le (hl.lt k hk) ho.size, ⟨hp.n2, hp.n, hp.s1, hp.size, hp.place, hp.nodup, hp.lt, hL, hp.synced, hp.stream, hp.cur⟩⟩, ho⟩
  have := hl.blk.set 5 (.int .u64 (L : Int))
  rw [show curE { l with last := L } = curE l from rfl]
  simpa using this

set_option maxHeartbeats 8000000 in
set_option maxRecDepth 100000 in
theorem append_log {w : World} {b d : Nat} {N M R : Nat → Prop} {s : Dk} {l : Wl} (h : WA w b d N M R s l) (hT : Table w) {body : List UInt8} (hbody : body.length ≤ 32768) (hp : s.pend.length ≤ 800000) :
    Calls Tryz.prog 12 #[.pointer (some ⟨b, 0, none⟩), .string (bst body)] w fun e w' => e = .returned (.tuple #[.int .u64 (l.appN body s : Int), .int .i64 (l.appWhy body s : Int)]) ∧
      ∃ N' M' R', WA w' b d N' M' R' (l.appD body s) (l.app body s) ∧ LTurns N M R w N' M' R' w' := by
  obtain ⟨A0, c0, C0, cc0, hl⟩ := h.log
  have HW := hid h
  have HP := hid hp
  have HPL := hid hl.pl
  have hsq : l.seq < 18446744073709551616 := m64_lt _
  have HSQ := hid hsq
  have hh7 : hdr.length ≤ 32768 := by decide
  have HPH := hid (rface.putYes (q := l.seq) (b := hdr) hsq hh7 hT)
  have HPB := hid (fun (W : World) (hW : Below w.heap.size w W) => rface.putYes (q := l.seq) (b := body) hsq hbody (hT.step hW))
  rw [show renc l.seq hdr = l.head from rfl] at HPH
  rw [show bst hdr = ⟨#[115, 101, 103, 109, 101, 110, 116]⟩ from rfl] at HPH
  rw [show renc l.seq body = l.rec_ body from rfl] at HPB
  have x5 : w.cell? ⟨b, 5, none⟩ = some (.int .u64 (l.last : Int)) := hl.blk.cell 5
  have hwq : IntKind.u64.wrap ((l.last : Int) + 1) = (l.seq : Int) := by rw [IntKind.wrap_u64]; unfold Wl.seq m64; omega
  obtain ⟨hn, hhn⟩ : ∃ n, n = l.head.length := ⟨_, rfl⟩
  obtain ⟨rn, hrn⟩ : ∃ n, n = (l.rec_ body).length := ⟨_, rfl⟩
  have HHN := hid hhn
  have HRN := hid hrn
  have hln : hn ≤ 100 := by rw [hhn]; exact Nat.le_trans (renc_le _ _) (by decide)
  have hrl : rn ≤ 40000 := by rw [hrn]; exact Nat.le_trans (renc_le _ _) (by omega)
  have hws : IntKind.i64.wrap ((hn : Int) + (rn : Int)) = ((hn + rn : Nat) : Int) := by rw [IntKind.wrap_i64]; omega
  have hlo : l.long body = decide (512 * l.size < hn + rn) := by unfold Wl.long; rw [← hhn, ← hrn, decide_eq_false (show ¬ 32768 < body.length by omega), Bool.false_or]
  generalize hsn : l.seq = sq at *
  have HSN := hid hsn
  clear h hl hp hT hbody hh7 hhn hrn hsn hsq
  by_cases h1 : 512 * l.size < hn + rn
  · have h1i : ((hn + rn : Nat) : Int) > ((512 * l.size : Nat) : Int) := by omega
    obtain ⟨e1, e2, e3, e4⟩ := app_long (s := s) (show l.long body = true by rw [hlo]; exact decide_eq_true h1)
    rw [e1, e2, e3, e4]
    clear e1 e2 e3 e4 hlo h1
    go_enter Tryz.func12, Tryz.ntmps12
    go_upto_region 2 with fail
    go_wp2_with fail
    go_fit HPH.out
    rintro e w1 ⟨A7, m7, c7, rfl, hr7, hb7⟩
    have HB1 := hid hb7
    have HR7 := hid hr7
    clear hr7 hb7 x5
    go_wp2_with fail
    go_fit (HPB.out w1 HB1.out)
    rintro e w2 ⟨A9, m9, c9, rfl, hr9, hb9⟩
    have HB2 := hid (HB1.out.trans (hb9.mono HB1.out.size))
    have HR9 := hid hr9
    have HR7b := hid (HR7.out.below hb9)
    have hm7 : m7 = hn := HR7b.out.1.trans HHN.out.symm
    have hm9 : m9 = rn := HR9.out.1.trans HRN.out.symm
    subst hm7 hm9
    clear hr9 hb9 HR7
    obtain ⟨A, c, C, cc, hl⟩ := (HW.out.step HB2.out).log
    have HL2 := hid hl
    have HSZ := hid (size_is hl)
    clear hl
    go_wp2_with fail
    go_fit HSZ.out
    rintro e w3 ⟨rfl, hw3⟩
    obtain rfl : w2 = w3 := hw3.symm
    go_wp2_with fail
    go_ret2
    exact ⟨rfl, N, M, R, HW.out.step HB2.out, LTurns.of_below HB2.out⟩
  · have h1i : ¬ ((hn + rn : Nat) : Int) > ((512 * l.size : Nat) : Int) := by omega
    have HLG := hid (show ¬ l.long body = true by rw [hlo, decide_eq_false h1]; decide)
    have HNE := hid (show l.head ++ l.rec_ body ≠ [] from fun e => by
      have := renc_pos l.seq hdr
      rw [show renc l.seq hdr = [] from (List.append_eq_nil_iff.1 e).1] at this
      simp at this)
    have HBL := hid (show (l.head ++ l.rec_ body).length ≤ 512 * l.size by rw [List.length_append]; have := HHN.out; have := HRN.out; omega)
    have HNM := hid (fun (g : Nat) (hg : w.heap.size ≤ g) => show ¬ N g ∧ ¬ M g ∧ ¬ R g from by
      have hd := HW.out.disk.lt g
      obtain ⟨_, _, _, _, hl⟩ := HW.out.log
      have hn := hl.lt g
      exact ⟨fun x => by have := hn x; omega, fun x => by have := hd (.inl x); omega, fun x => by have := hd (.inr x); omega⟩)
    have hstl : l.stream.length ≤ 32768 := by have := HPL.out.stream; have := HPL.out.size; omega
    have hws2 : IntKind.i64.wrap ((l.stream.length : Int) + (rn : Int)) = ((l.stream.length + rn : Nat) : Int) := by rw [IntKind.wrap_i64]; omega
    have hwn : l.wants body = (l.stream.isEmpty || decide (512 * l.size < l.stream.length + rn)) := by unfold Wl.wants; rw [HRN.out]
    clear hlo h1 hstl
    by_cases h2 : l.stream = []
    · have HST0 := hid h2
      have HWN := hid (show l.wants body = true by rw [hwn, h2]; rfl)
      clear h2 hwn
      by_cases h3 : l.fresh < 0
      · obtain ⟨e1, e2, e3, e4⟩ := app_full (s := s) HLG.out HWN.out h3
        rw [e1, e2, e3, e4]
        have HF := hid h3
        clear e1 e2 e3 e4 h3 hws2
        go_enter Tryz.func12, Tryz.ntmps12
        go_upto_region 2 with fail
        go_wp2_with fail
        go_fit HPH.out
        rintro e w1 ⟨A7, m7, c7, rfl, hr7, hb7⟩
        have HB1 := hid hb7
        have HR7 := hid hr7
        clear hr7 hb7 x5
        go_wp2_with fail
        go_fit (HPB.out w1 HB1.out)
        rintro e w2 ⟨A9, m9, c9, rfl, hr9, hb9⟩
        have HB2 := hid (HB1.out.trans (hb9.mono HB1.out.size))
        have HR9 := hid hr9
        have HR7b := hid (HR7.out.below hb9)
        have hm7 : m7 = hn := HR7b.out.1.trans HHN.out.symm
        have hm9 : m9 = rn := HR9.out.1.trans HRN.out.symm
        subst hm7 hm9
        clear hr9 hb9 HR7
        obtain ⟨A, c, C, cc, hl⟩ := (HW.out.step HB2.out).log
        have HL2 := hid hl
        have HSZ := hid (size_is hl)
        clear hl
        go_wp2_with fail
        go_fit HSZ.out
        rintro e w3 ⟨rfl, hw3⟩
        obtain rfl : w2 = w3 := hw3.symm
        obtain rfl : C = none := HL2.out.nil.2 HST0.out
        have x9 : ∀ W, Beyond w2 W → W.cell? ⟨b, 9, none⟩ = some (.slice none l.stream.length cc) := fun W hW => (HL2.out.below hW).blk.cell 9
        have heqn : ∀ W, (binOp .eql 74 (.slice none l.stream.length cc) (.slice none 0 0)).run Tryz.prog W = .ok (.bool true) W := fun W => Lib.run_eql_slice_nil W 74 5 none _ _ 0 0 Tryz.underlying74
        go_wp2_with fail
        refine wp_region_held_drew (S := Beyond w2) (by kernel_rfl) (Beyond.drew _) (fun hS => ?_)
        refine stT 0 hS ?_; (try simp only [putr]); refine stT 1 hS ?_; (try simp only [putr]); refine stT 2 hS ?_; (try simp only [putr]); refine stT 3 hS ?_; (try simp only [putr]); refine stT 4 hS ?_; (try simp only [putr]); refine stT 5 hS ?_; (try simp only [putr]); refine stK 6 hS ?_; (try simp only [putr]); refine stK 7 hS ?_; (try simp only [putr]); refine stK 8 hS ?_; (try simp only [putr]); refine stK 9 hS ?_; (try simp only [putr]); refine stK 10 hS ?_; (try simp only [putr]); refine stK 11 hS ?_; (try simp only [putr]); refine stK 12 hS ?_; (try simp only [putr]); refine stK 13 hS ?_; (try simp only [putr]); refine stK 14 hS ?_; (try simp only [putr]); refine stK 15 hS ?_; (try simp only [putr]); refine stK 16 hS ?_; (try simp only [putr]); refine stT 17 hS ?_; (try simp only [putr]); refine wpAnyH_done (by kernel_rfl) ?_ _
        clear x9
        have HBS := hid (HB2.out.trans (hS.mono HB2.out.size))
        have HR7S := hid (HR7b.out.below hS)
        have HR9S := hid (HR9.out.below hS)
        have HLS := hid (show l.head.length + (l.rec_ body).length ≤ 140737488355328 by have := HHN.out; have := HRN.out; omega)
        have HSS := hid (show w.heap.size ≤ _ from HBS.out.size)
        clear hS
        go_wp2_with (at_builtin; go_must (refine wpList_append_row _ rfl _ _ rfl w.heap.size rfl HR7S.out rfl HR9S.out.1 HR9S.out.at_ HLS.out HSS.out ?_); intro A3 m3 c3 w3 hr3 hc3 hb3)
        have HB3 := hid (HBS.out.trans hb3)
        have HR3 := hid (show Row w3 0 5 A3 m3 c3 (l.head ++ l.rec_ body) from ⟨hr3.1, Joins.ownsRow_le hr3.2 (Nat.zero_le _)⟩)
        have HO3 := hid (fun g hg => (hr3.2.lt g hg).1)
        have h9 := start_log (HW.out.step HB3.out) (k := m64 1) HSQ.out HR3.out HNE.out HBL.out (fun g hg => HNM.out g (HO3.out g hg)) HP.out
        simp only [if_pos HF.out] at h9
        have HST := hid h9
        clear h9 hr3 hc3 hb3
        go_wp2_with fail
        go_fit HST.out
        rintro e w4 ⟨rfl, hs4⟩
        obtain ⟨N4, M4, R4, hw4, hi4, ho4, hr4⟩ := hs4.ex
        have HW4 := hid hw4
        have HT4 := hid (show LTurns N M R w N4 M4 R4 w4 from ⟨((Within.of_below HB3.out).trans hi4), fun g hg => by
          rcases ho4 g hg with y | y | y
          · exact .inl y
          · exact .inr (HO3.out g y)
          · exact .inr (Nat.le_trans HB3.out.size y), fun g hg => (hr4 g hg).imp id (fun y => Nat.le_trans HB3.out.size y)⟩)
        clear hw4 hi4 ho4 hr4 hs4 HST
        go_wp2_with fail
        go_ret2
        exact ⟨rfl, N4, M4, R4, HW4.out, HT4.out⟩
      · have HF := hid h3
        generalize hr : wrSt s (l.place l.fresh.toNat) (l.head ++ l.rec_ body) l.size 0 = r
        obtain ⟨s1, e1⟩ := r
        obtain ⟨ew, eok, ebad⟩ := app_new (s := s) HLG.out HWN.out h3 hr
        have HRR := hid hr
        rw [ew]
        clear hr h3 ew hws2
        by_cases he : e1 = 0
        · obtain ⟨e2, e3, e4⟩ := eok he
          rw [e2, e3, e4]
          subst he
          clear eok ebad e2 e3 e4
          rw [HSN.out]
          go_enter Tryz.func12, Tryz.ntmps12
          go_upto_region 2 with fail
          go_wp2_with fail
          go_fit HPH.out
          rintro e w1 ⟨A7, m7, c7, rfl, hr7, hb7⟩
          have HB1 := hid hb7
          have HR7 := hid hr7
          clear hr7 hb7 x5
          go_wp2_with fail
          go_fit (HPB.out w1 HB1.out)
          rintro e w2 ⟨A9, m9, c9, rfl, hr9, hb9⟩
          have HB2 := hid (HB1.out.trans (hb9.mono HB1.out.size))
          have HR9 := hid hr9
          have HR7b := hid (HR7.out.below hb9)
          have hm7 : m7 = hn := HR7b.out.1.trans HHN.out.symm
          have hm9 : m9 = rn := HR9.out.1.trans HRN.out.symm
          subst hm7 hm9
          clear hr9 hb9 HR7
          obtain ⟨A, c, C, cc, hl⟩ := (HW.out.step HB2.out).log
          have HL2 := hid hl
          have HSZ := hid (size_is hl)
          clear hl
          go_wp2_with fail
          go_fit HSZ.out
          rintro e w3 ⟨rfl, hw3⟩
          obtain rfl : w2 = w3 := hw3.symm
          obtain rfl : C = none := HL2.out.nil.2 HST0.out
          have x9 : ∀ W, Beyond w2 W → W.cell? ⟨b, 9, none⟩ = some (.slice none l.stream.length cc) := fun W hW => (HL2.out.below hW).blk.cell 9
          have heqn : ∀ W, (binOp .eql 74 (.slice none l.stream.length cc) (.slice none 0 0)).run Tryz.prog W = .ok (.bool true) W := fun W => Lib.run_eql_slice_nil W 74 5 none _ _ 0 0 Tryz.underlying74
          go_wp2_with fail
          refine wp_region_held_drew (S := Beyond w2) (by kernel_rfl) (Beyond.drew _) (fun hS => ?_)
          refine stT 0 hS ?_; (try simp only [putr]); refine stT 1 hS ?_; (try simp only [putr]); refine stT 2 hS ?_; (try simp only [putr]); refine stT 3 hS ?_; (try simp only [putr]); refine stT 4 hS ?_; (try simp only [putr]); refine stT 5 hS ?_; (try simp only [putr]); refine stK 6 hS ?_; (try simp only [putr]); refine stK 7 hS ?_; (try simp only [putr]); refine stK 8 hS ?_; (try simp only [putr]); refine stK 9 hS ?_; (try simp only [putr]); refine stK 10 hS ?_; (try simp only [putr]); refine stK 11 hS ?_; (try simp only [putr]); refine stK 12 hS ?_; (try simp only [putr]); refine stK 13 hS ?_; (try simp only [putr]); refine stK 14 hS ?_; (try simp only [putr]); refine stK 15 hS ?_; (try simp only [putr]); refine stK 16 hS ?_; (try simp only [putr]); refine stT 17 hS ?_; (try simp only [putr]); refine wpAnyH_done (by kernel_rfl) ?_ _
          clear x9
          have HBS := hid (HB2.out.trans (hS.mono HB2.out.size))
          have HR7S := hid (HR7b.out.below hS)
          have HR9S := hid (HR9.out.below hS)
          have HLS := hid (show l.head.length + (l.rec_ body).length ≤ 140737488355328 by have := HHN.out; have := HRN.out; omega)
          have HSS := hid (show w.heap.size ≤ _ from HBS.out.size)
          clear hS
          go_wp2_with (at_builtin; go_must (refine wpList_append_row _ rfl _ _ rfl w.heap.size rfl HR7S.out rfl HR9S.out.1 HR9S.out.at_ HLS.out HSS.out ?_); intro A3 m3 c3 w3 hr3 hc3 hb3)
          have HB3 := hid (HBS.out.trans hb3)
          have HR3 := hid (show Row w3 0 5 A3 m3 c3 (l.head ++ l.rec_ body) from ⟨hr3.1, Joins.ownsRow_le hr3.2 (Nat.zero_le _)⟩)
          have HO3 := hid (fun g hg => (hr3.2.lt g hg).1)
          have h9 := start_log (HW.out.step HB3.out) (k := m64 1) HSQ.out HR3.out HNE.out HBL.out (fun g hg => HNM.out g (HO3.out g hg)) HP.out
          simp only [if_neg (show ¬ l.fresh < 0 by have := HF.out; omega), HRR.out, ↓reduceIte] at h9
          have HST := hid h9
          clear h9 hr3 hc3 hb3
          go_wp2_with fail
          go_fit HST.out
          rintro e w4 ⟨rfl, hs4⟩
          obtain ⟨N4, M4, R4, hw4, hi4, ho4, hr4⟩ := hs4.ex
          have HW4 := hid hw4
          have HT4 := hid (show LTurns N M R w N4 M4 R4 w4 from ⟨((Within.of_below HB3.out).trans hi4), fun g hg => by
            rcases ho4 g hg with y | y | y
            · exact .inl y
            · exact .inr (HO3.out g y)
            · exact .inr (Nat.le_trans HB3.out.size y), fun g hg => (hr4 g hg).imp id (fun y => Nat.le_trans HB3.out.size y)⟩)
          clear hw4 hi4 ho4 hr4 hs4 HST
          obtain ⟨Aq, cq, Cq, ccq, hlq⟩ := HW4.out.log
          have xq := hlq.blk.cell 5
          have xf := hlq.blk.free 5
          have HLS4 := hid (last_set HW4.out.log HSQ.out)
          have HNb := hid hlq.mb
          clear hlq
          go_wp2_with fail
          go_ret2
          exact ⟨rfl, N4, M4, R4, HW4.out.log' HLS4.out.1 HLS4.out.2, HT4.out.trans (LTurns.of_only HLS4.out.2 HNb.out)⟩
        · obtain ⟨e2, e3, e4⟩ := ebad he
          rw [e2, e3, e4]
          have hne : ((e1 : Int) != 0) = true := by simp; omega
          have HE := hid he
          clear eok ebad e2 e3 e4 he
          go_enter Tryz.func12, Tryz.ntmps12
          go_upto_region 2 with fail
          go_wp2_with fail
          go_fit HPH.out
          rintro e w1 ⟨A7, m7, c7, rfl, hr7, hb7⟩
          have HB1 := hid hb7
          have HR7 := hid hr7
          clear hr7 hb7 x5
          go_wp2_with fail
          go_fit (HPB.out w1 HB1.out)
          rintro e w2 ⟨A9, m9, c9, rfl, hr9, hb9⟩
          have HB2 := hid (HB1.out.trans (hb9.mono HB1.out.size))
          have HR9 := hid hr9
          have HR7b := hid (HR7.out.below hb9)
          have hm7 : m7 = hn := HR7b.out.1.trans HHN.out.symm
          have hm9 : m9 = rn := HR9.out.1.trans HRN.out.symm
          subst hm7 hm9
          clear hr9 hb9 HR7
          obtain ⟨A, c, C, cc, hl⟩ := (HW.out.step HB2.out).log
          have HL2 := hid hl
          have HSZ := hid (size_is hl)
          clear hl
          go_wp2_with fail
          go_fit HSZ.out
          rintro e w3 ⟨rfl, hw3⟩
          obtain rfl : w2 = w3 := hw3.symm
          obtain rfl : C = none := HL2.out.nil.2 HST0.out
          have x9 : ∀ W, Beyond w2 W → W.cell? ⟨b, 9, none⟩ = some (.slice none l.stream.length cc) := fun W hW => (HL2.out.below hW).blk.cell 9
          have heqn : ∀ W, (binOp .eql 74 (.slice none l.stream.length cc) (.slice none 0 0)).run Tryz.prog W = .ok (.bool true) W := fun W => Lib.run_eql_slice_nil W 74 5 none _ _ 0 0 Tryz.underlying74
          go_wp2_with fail
          refine wp_region_held_drew (S := Beyond w2) (by kernel_rfl) (Beyond.drew _) (fun hS => ?_)
          refine stT 0 hS ?_; (try simp only [putr]); refine stT 1 hS ?_; (try simp only [putr]); refine stT 2 hS ?_; (try simp only [putr]); refine stT 3 hS ?_; (try simp only [putr]); refine stT 4 hS ?_; (try simp only [putr]); refine stT 5 hS ?_; (try simp only [putr]); refine stK 6 hS ?_; (try simp only [putr]); refine stK 7 hS ?_; (try simp only [putr]); refine stK 8 hS ?_; (try simp only [putr]); refine stK 9 hS ?_; (try simp only [putr]); refine stK 10 hS ?_; (try simp only [putr]); refine stK 11 hS ?_; (try simp only [putr]); refine stK 12 hS ?_; (try simp only [putr]); refine stK 13 hS ?_; (try simp only [putr]); refine stK 14 hS ?_; (try simp only [putr]); refine stK 15 hS ?_; (try simp only [putr]); refine stK 16 hS ?_; (try simp only [putr]); refine stT 17 hS ?_; (try simp only [putr]); refine wpAnyH_done (by kernel_rfl) ?_ _
          clear x9
          have HBS := hid (HB2.out.trans (hS.mono HB2.out.size))
          have HR7S := hid (HR7b.out.below hS)
          have HR9S := hid (HR9.out.below hS)
          have HLS := hid (show l.head.length + (l.rec_ body).length ≤ 140737488355328 by have := HHN.out; have := HRN.out; omega)
          have HSS := hid (show w.heap.size ≤ _ from HBS.out.size)
          clear hS
          go_wp2_with (at_builtin; go_must (refine wpList_append_row _ rfl _ _ rfl w.heap.size rfl HR7S.out rfl HR9S.out.1 HR9S.out.at_ HLS.out HSS.out ?_); intro A3 m3 c3 w3 hr3 hc3 hb3)
          have HB3 := hid (HBS.out.trans hb3)
          have HR3 := hid (show Row w3 0 5 A3 m3 c3 (l.head ++ l.rec_ body) from ⟨hr3.1, Joins.ownsRow_le hr3.2 (Nat.zero_le _)⟩)
          have HO3 := hid (fun g hg => (hr3.2.lt g hg).1)
          have h9 := start_log (HW.out.step HB3.out) (k := m64 1) HSQ.out HR3.out HNE.out HBL.out (fun g hg => HNM.out g (HO3.out g hg)) HP.out
          simp only [if_neg (show ¬ l.fresh < 0 by have := HF.out; omega), HRR.out, if_neg HE.out] at h9
          have HST := hid h9
          clear h9 hr3 hc3 hb3
          go_wp2_with fail
          go_fit HST.out
          rintro e w4 ⟨rfl, hs4⟩
          obtain ⟨N4, M4, R4, hw4, hi4, ho4, hr4⟩ := hs4.ex
          have HW4 := hid hw4
          have HT4 := hid (show LTurns N M R w N4 M4 R4 w4 from ⟨((Within.of_below HB3.out).trans hi4), fun g hg => by
            rcases ho4 g hg with y | y | y
            · exact .inl y
            · exact .inr (HO3.out g y)
            · exact .inr (Nat.le_trans HB3.out.size y), fun g hg => (hr4 g hg).imp id (fun y => Nat.le_trans HB3.out.size y)⟩)
          clear hw4 hi4 ho4 hr4 hs4 HST
          go_wp2_with fail
          go_ret2
          exact ⟨rfl, N4, M4, R4, HW4.out, HT4.out⟩
    · have HST0 := hid h2
      have hemp : l.stream.isEmpty = false := by cases hs : l.stream with | nil => exact absurd hs h2 | cons a t => rfl
      by_cases h4 : 512 * l.size < l.stream.length + rn
      · have h4i : ((l.stream.length + rn : Nat) : Int) > ((512 * l.size : Nat) : Int) := by omega
        have HWN := hid (show l.wants body = true by rw [hwn, decide_eq_true h4]; simp)
        clear h2 hwn hemp h4
        by_cases h3 : l.fresh < 0
        · obtain ⟨e1, e2, e3, e4⟩ := app_full (s := s) HLG.out HWN.out h3
          rw [e1, e2, e3, e4]
          have HF := hid h3
          clear e1 e2 e3 e4 h3
          go_enter Tryz.func12, Tryz.ntmps12
          go_upto_region 2 with fail
          go_wp2_with fail
          go_fit HPH.out
          rintro e w1 ⟨A7, m7, c7, rfl, hr7, hb7⟩
          have HB1 := hid hb7
          have HR7 := hid hr7
          clear hr7 hb7 x5
          go_wp2_with fail
          go_fit (HPB.out w1 HB1.out)
          rintro e w2 ⟨A9, m9, c9, rfl, hr9, hb9⟩
          have HB2 := hid (HB1.out.trans (hb9.mono HB1.out.size))
          have HR9 := hid hr9
          have HR7b := hid (HR7.out.below hb9)
          have hm7 : m7 = hn := HR7b.out.1.trans HHN.out.symm
          have hm9 : m9 = rn := HR9.out.1.trans HRN.out.symm
          subst hm7 hm9
          clear hr9 hb9 HR7
          obtain ⟨A, c, C, cc, hl⟩ := (HW.out.step HB2.out).log
          have HL2 := hid hl
          have HSZ := hid (size_is hl)
          clear hl
          go_wp2_with fail
          go_fit HSZ.out
          rintro e w3 ⟨rfl, hw3⟩
          obtain rfl : w2 = w3 := hw3.symm
          obtain ⟨ad, rfl⟩ : ∃ ad, C = some ad := by
            rcases C with _ | ad
            · exact absurd (HL2.out.nil.1 rfl) HST0.out
            · exact ⟨ad, rfl⟩
          have x9 : ∀ W, Beyond w2 W → W.cell? ⟨b, 9, none⟩ = some (.slice (some ad) l.stream.length cc) := fun W hW => (HL2.out.below hW).blk.cell 9
          have heqn : ∀ W, (binOp .eql 74 (.slice (some ad) l.stream.length cc) (.slice none 0 0)).run Tryz.prog W = .ok (.bool false) W := fun W => Lib.run_eql_slice_nil W 74 5 (some ad) _ _ 0 0 Tryz.underlying74
          have HSZ6 := hid (fun (W : World) (hW : Beyond w2 W) => size_is (HL2.out.below hW))
          go_wp2_with fail
          refine wp_region_held_drew (S := Beyond w2) (by kernel_rfl) (Beyond.drew _) (fun hS => ?_)
          refine stT 0 hS ?_; (try simp only [putr]); refine stT 1 hS ?_; (try simp only [putr]); refine stT 2 hS ?_; (try simp only [putr]); refine stT 3 hS ?_; (try simp only [putr]); refine stT 4 hS ?_; (try simp only [putr]); refine stT 5 hS ?_; try simp only [putr]
          first | (refine stT 6 hS ?_) | (refine stK 6 hS ?_)
          try simp only [putr]
          first | (refine stT 7 hS ?_) | (refine stK 7 hS ?_)
          try simp only [putr]
          first | (refine stT 8 hS ?_) | (refine stK 8 hS ?_)
          try simp only [putr]
          first | (refine stT 9 hS ?_) | (refine stK 9 hS ?_)
          try simp only [putr]
          first | (refine stT 10 hS ?_) | (refine stK 10 hS ?_)
          try simp only [putr]
          first | (refine stT 11 hS ?_) | (refine stK 11 hS ?_)
          try simp only [putr]
          first | (refine stT 12 hS ?_) | (refine stK 12 hS ?_)
          try simp only [putr]
          first | (refine stT 13 hS ?_) | (refine stK 13 hS ?_)
          try simp only [putr]
          first | (refine stT 14 hS ?_) | (refine stK 14 hS ?_)
          (try simp only [putr]); refine rdH [15] ?_; refine rcH (fun K hK => ?_) AllReadyH.nil; go_simp
          go_fit (HSZ6.out _ hS)
          rintro e w5 ⟨rfl, rfl⟩
          have hS15 := hS
          refine hK.out _ _ (by assumption) (fun _ => ?_); clear hK K hS; have hS := hS15; try simp only [putr]
          first | (refine stT 16 hS ?_) | (refine stK 16 hS ?_)
          (try simp only [putr]); refine stT 17 hS ?_; (try simp only [putr]); refine wpAnyH_done (by kernel_rfl) ?_ _
          clear x9
          have HBS := hid (HB2.out.trans (hS.mono HB2.out.size))
          have HR7S := hid (HR7b.out.below hS)
          have HR9S := hid (HR9.out.below hS)
          have HLS := hid (show l.head.length + (l.rec_ body).length ≤ 140737488355328 by have := HHN.out; have := HRN.out; omega)
          have HSS := hid (show w.heap.size ≤ _ from HBS.out.size)
          clear hS
          go_wp2_with (at_builtin; go_must (refine wpList_append_row _ rfl _ _ rfl w.heap.size rfl HR7S.out rfl HR9S.out.1 HR9S.out.at_ HLS.out HSS.out ?_); intro A3 m3 c3 w3 hr3 hc3 hb3)
          have HB3 := hid (HBS.out.trans hb3)
          have HR3 := hid (show Row w3 0 5 A3 m3 c3 (l.head ++ l.rec_ body) from ⟨hr3.1, Joins.ownsRow_le hr3.2 (Nat.zero_le _)⟩)
          have HO3 := hid (fun g hg => (hr3.2.lt g hg).1)
          have h9 := start_log (HW.out.step HB3.out) (k := m64 1) HSQ.out HR3.out HNE.out HBL.out (fun g hg => HNM.out g (HO3.out g hg)) HP.out
          simp only [if_pos HF.out] at h9
          have HST := hid h9
          clear h9 hr3 hc3 hb3
          go_wp2_with fail
          go_fit HST.out
          rintro e w4 ⟨rfl, hs4⟩
          obtain ⟨N4, M4, R4, hw4, hi4, ho4, hr4⟩ := hs4.ex
          have HW4 := hid hw4
          have HT4 := hid (show LTurns N M R w N4 M4 R4 w4 from ⟨((Within.of_below HB3.out).trans hi4), fun g hg => by
            rcases ho4 g hg with y | y | y
            · exact .inl y
            · exact .inr (HO3.out g y)
            · exact .inr (Nat.le_trans HB3.out.size y), fun g hg => (hr4 g hg).imp id (fun y => Nat.le_trans HB3.out.size y)⟩)
          clear hw4 hi4 ho4 hr4 hs4 HST
          go_wp2_with fail
          go_ret2
          exact ⟨rfl, N4, M4, R4, HW4.out, HT4.out⟩
        · have HF := hid h3
          generalize hr : wrSt s (l.place l.fresh.toNat) (l.head ++ l.rec_ body) l.size 0 = r
          obtain ⟨s1, e1⟩ := r
          obtain ⟨ew, eok, ebad⟩ := app_new (s := s) HLG.out HWN.out h3 hr
          have HRR := hid hr
          rw [ew]
          clear hr h3 ew
          by_cases he : e1 = 0
          · obtain ⟨e2, e3, e4⟩ := eok he
            rw [e2, e3, e4]
            subst he
            clear eok ebad e2 e3 e4
            rw [HSN.out]
            go_enter Tryz.func12, Tryz.ntmps12
            go_upto_region 2 with fail
            go_wp2_with fail
            go_fit HPH.out
            rintro e w1 ⟨A7, m7, c7, rfl, hr7, hb7⟩
            have HB1 := hid hb7
            have HR7 := hid hr7
            clear hr7 hb7 x5
            go_wp2_with fail
            go_fit (HPB.out w1 HB1.out)
            rintro e w2 ⟨A9, m9, c9, rfl, hr9, hb9⟩
            have HB2 := hid (HB1.out.trans (hb9.mono HB1.out.size))
            have HR9 := hid hr9
            have HR7b := hid (HR7.out.below hb9)
            have hm7 : m7 = hn := HR7b.out.1.trans HHN.out.symm
            have hm9 : m9 = rn := HR9.out.1.trans HRN.out.symm
            subst hm7 hm9
            clear hr9 hb9 HR7
            obtain ⟨A, c, C, cc, hl⟩ := (HW.out.step HB2.out).log
            have HL2 := hid hl
            have HSZ := hid (size_is hl)
            clear hl
            go_wp2_with fail
            go_fit HSZ.out
            rintro e w3 ⟨rfl, hw3⟩
            obtain rfl : w2 = w3 := hw3.symm
            obtain ⟨ad, rfl⟩ : ∃ ad, C = some ad := by
              rcases C with _ | ad
              · exact absurd (HL2.out.nil.1 rfl) HST0.out
              · exact ⟨ad, rfl⟩
            have x9 : ∀ W, Beyond w2 W → W.cell? ⟨b, 9, none⟩ = some (.slice (some ad) l.stream.length cc) := fun W hW => (HL2.out.below hW).blk.cell 9
            have heqn : ∀ W, (binOp .eql 74 (.slice (some ad) l.stream.length cc) (.slice none 0 0)).run Tryz.prog W = .ok (.bool false) W := fun W => Lib.run_eql_slice_nil W 74 5 (some ad) _ _ 0 0 Tryz.underlying74
            have HSZ6 := hid (fun (W : World) (hW : Beyond w2 W) => size_is (HL2.out.below hW))
            go_wp2_with fail
            refine wp_region_held_drew (S := Beyond w2) (by kernel_rfl) (Beyond.drew _) (fun hS => ?_)
            refine stT 0 hS ?_; (try simp only [putr]); refine stT 1 hS ?_; (try simp only [putr]); refine stT 2 hS ?_; (try simp only [putr]); refine stT 3 hS ?_; (try simp only [putr]); refine stT 4 hS ?_; (try simp only [putr]); refine stT 5 hS ?_; try simp only [putr]
            first | (refine stT 6 hS ?_) | (refine stK 6 hS ?_)
            try simp only [putr]
            first | (refine stT 7 hS ?_) | (refine stK 7 hS ?_)
            try simp only [putr]
            first | (refine stT 8 hS ?_) | (refine stK 8 hS ?_)
            try simp only [putr]
            first | (refine stT 9 hS ?_) | (refine stK 9 hS ?_)
            try simp only [putr]
            first | (refine stT 10 hS ?_) | (refine stK 10 hS ?_)
            try simp only [putr]
            first | (refine stT 11 hS ?_) | (refine stK 11 hS ?_)
            try simp only [putr]
            first | (refine stT 12 hS ?_) | (refine stK 12 hS ?_)
            try simp only [putr]
            first | (refine stT 13 hS ?_) | (refine stK 13 hS ?_)
            try simp only [putr]
            first | (refine stT 14 hS ?_) | (refine stK 14 hS ?_)
            (try simp only [putr]); refine rdH [15] ?_; refine rcH (fun K hK => ?_) AllReadyH.nil; go_simp
            go_fit (HSZ6.out _ hS)
            rintro e w5 ⟨rfl, rfl⟩
            have hS15 := hS
            refine hK.out _ _ (by assumption) (fun _ => ?_); clear hK K hS; have hS := hS15; try simp only [putr]
            first | (refine stT 16 hS ?_) | (refine stK 16 hS ?_)
            (try simp only [putr]); refine stT 17 hS ?_; (try simp only [putr]); refine wpAnyH_done (by kernel_rfl) ?_ _
            clear x9
            have HBS := hid (HB2.out.trans (hS.mono HB2.out.size))
            have HR7S := hid (HR7b.out.below hS)
            have HR9S := hid (HR9.out.below hS)
            have HLS := hid (show l.head.length + (l.rec_ body).length ≤ 140737488355328 by have := HHN.out; have := HRN.out; omega)
            have HSS := hid (show w.heap.size ≤ _ from HBS.out.size)
            clear hS
            go_wp2_with (at_builtin; go_must (refine wpList_append_row _ rfl _ _ rfl w.heap.size rfl HR7S.out rfl HR9S.out.1 HR9S.out.at_ HLS.out HSS.out ?_); intro A3 m3 c3 w3 hr3 hc3 hb3)
            have HB3 := hid (HBS.out.trans hb3)
            have HR3 := hid (show Row w3 0 5 A3 m3 c3 (l.head ++ l.rec_ body) from ⟨hr3.1, Joins.ownsRow_le hr3.2 (Nat.zero_le _)⟩)
            have HO3 := hid (fun g hg => (hr3.2.lt g hg).1)
            have h9 := start_log (HW.out.step HB3.out) (k := m64 1) HSQ.out HR3.out HNE.out HBL.out (fun g hg => HNM.out g (HO3.out g hg)) HP.out
            simp only [if_neg (show ¬ l.fresh < 0 by have := HF.out; omega), HRR.out, ↓reduceIte] at h9
            have HST := hid h9
            clear h9 hr3 hc3 hb3
            go_wp2_with fail
            go_fit HST.out
            rintro e w4 ⟨rfl, hs4⟩
            obtain ⟨N4, M4, R4, hw4, hi4, ho4, hr4⟩ := hs4.ex
            have HW4 := hid hw4
            have HT4 := hid (show LTurns N M R w N4 M4 R4 w4 from ⟨((Within.of_below HB3.out).trans hi4), fun g hg => by
              rcases ho4 g hg with y | y | y
              · exact .inl y
              · exact .inr (HO3.out g y)
              · exact .inr (Nat.le_trans HB3.out.size y), fun g hg => (hr4 g hg).imp id (fun y => Nat.le_trans HB3.out.size y)⟩)
            clear hw4 hi4 ho4 hr4 hs4 HST
            obtain ⟨Aq, cq, Cq, ccq, hlq⟩ := HW4.out.log
            have xq := hlq.blk.cell 5
            have xf := hlq.blk.free 5
            have HLS4 := hid (last_set HW4.out.log HSQ.out)
            have HNb := hid hlq.mb
            clear hlq
            go_wp2_with fail
            go_ret2
            exact ⟨rfl, N4, M4, R4, HW4.out.log' HLS4.out.1 HLS4.out.2, HT4.out.trans (LTurns.of_only HLS4.out.2 HNb.out)⟩
          · obtain ⟨e2, e3, e4⟩ := ebad he
            rw [e2, e3, e4]
            have hne : ((e1 : Int) != 0) = true := by simp; omega
            have HE := hid he
            clear eok ebad e2 e3 e4 he
            go_enter Tryz.func12, Tryz.ntmps12
            go_upto_region 2 with fail
            go_wp2_with fail
            go_fit HPH.out
            rintro e w1 ⟨A7, m7, c7, rfl, hr7, hb7⟩
            have HB1 := hid hb7
            have HR7 := hid hr7
            clear hr7 hb7 x5
            go_wp2_with fail
            go_fit (HPB.out w1 HB1.out)
            rintro e w2 ⟨A9, m9, c9, rfl, hr9, hb9⟩
            have HB2 := hid (HB1.out.trans (hb9.mono HB1.out.size))
            have HR9 := hid hr9
            have HR7b := hid (HR7.out.below hb9)
            have hm7 : m7 = hn := HR7b.out.1.trans HHN.out.symm
            have hm9 : m9 = rn := HR9.out.1.trans HRN.out.symm
            subst hm7 hm9
            clear hr9 hb9 HR7
            obtain ⟨A, c, C, cc, hl⟩ := (HW.out.step HB2.out).log
            have HL2 := hid hl
            have HSZ := hid (size_is hl)
            clear hl
            go_wp2_with fail
            go_fit HSZ.out
            rintro e w3 ⟨rfl, hw3⟩
            obtain rfl : w2 = w3 := hw3.symm
            obtain ⟨ad, rfl⟩ : ∃ ad, C = some ad := by
              rcases C with _ | ad
              · exact absurd (HL2.out.nil.1 rfl) HST0.out
              · exact ⟨ad, rfl⟩
            have x9 : ∀ W, Beyond w2 W → W.cell? ⟨b, 9, none⟩ = some (.slice (some ad) l.stream.length cc) := fun W hW => (HL2.out.below hW).blk.cell 9
            have heqn : ∀ W, (binOp .eql 74 (.slice (some ad) l.stream.length cc) (.slice none 0 0)).run Tryz.prog W = .ok (.bool false) W := fun W => Lib.run_eql_slice_nil W 74 5 (some ad) _ _ 0 0 Tryz.underlying74
            have HSZ6 := hid (fun (W : World) (hW : Beyond w2 W) => size_is (HL2.out.below hW))
            go_wp2_with fail
            refine wp_region_held_drew (S := Beyond w2) (by kernel_rfl) (Beyond.drew _) (fun hS => ?_)
            refine stT 0 hS ?_; (try simp only [putr]); refine stT 1 hS ?_; (try simp only [putr]); refine stT 2 hS ?_; (try simp only [putr]); refine stT 3 hS ?_; (try simp only [putr]); refine stT 4 hS ?_; (try simp only [putr]); refine stT 5 hS ?_; try simp only [putr]
            first | (refine stT 6 hS ?_) | (refine stK 6 hS ?_)
            try simp only [putr]
            first | (refine stT 7 hS ?_) | (refine stK 7 hS ?_)
            try simp only [putr]
            first | (refine stT 8 hS ?_) | (refine stK 8 hS ?_)
            try simp only [putr]
            first | (refine stT 9 hS ?_) | (refine stK 9 hS ?_)
            try simp only [putr]
            first | (refine stT 10 hS ?_) | (refine stK 10 hS ?_)
            try simp only [putr]
            first | (refine stT 11 hS ?_) | (refine stK 11 hS ?_)
            try simp only [putr]
            first | (refine stT 12 hS ?_) | (refine stK 12 hS ?_)
            try simp only [putr]
            first | (refine stT 13 hS ?_) | (refine stK 13 hS ?_)
            try simp only [putr]
            first | (refine stT 14 hS ?_) | (refine stK 14 hS ?_)
            (try simp only [putr]); refine rdH [15] ?_; refine rcH (fun K hK => ?_) AllReadyH.nil; go_simp
            go_fit (HSZ6.out _ hS)
            rintro e w5 ⟨rfl, rfl⟩
            have hS15 := hS
            refine hK.out _ _ (by assumption) (fun _ => ?_); clear hK K hS; have hS := hS15; try simp only [putr]
            first | (refine stT 16 hS ?_) | (refine stK 16 hS ?_)
            (try simp only [putr]); refine stT 17 hS ?_; (try simp only [putr]); refine wpAnyH_done (by kernel_rfl) ?_ _
            clear x9
            have HBS := hid (HB2.out.trans (hS.mono HB2.out.size))
            have HR7S := hid (HR7b.out.below hS)
            have HR9S := hid (HR9.out.below hS)
            have HLS := hid (show l.head.length + (l.rec_ body).length ≤ 140737488355328 by have := HHN.out; have := HRN.out; omega)
            have HSS := hid (show w.heap.size ≤ _ from HBS.out.size)
            clear hS
            go_wp2_with (at_builtin; go_must (refine wpList_append_row _ rfl _ _ rfl w.heap.size rfl HR7S.out rfl HR9S.out.1 HR9S.out.at_ HLS.out HSS.out ?_); intro A3 m3 c3 w3 hr3 hc3 hb3)
            have HB3 := hid (HBS.out.trans hb3)
            have HR3 := hid (show Row w3 0 5 A3 m3 c3 (l.head ++ l.rec_ body) from ⟨hr3.1, Joins.ownsRow_le hr3.2 (Nat.zero_le _)⟩)
            have HO3 := hid (fun g hg => (hr3.2.lt g hg).1)
            have h9 := start_log (HW.out.step HB3.out) (k := m64 1) HSQ.out HR3.out HNE.out HBL.out (fun g hg => HNM.out g (HO3.out g hg)) HP.out
            simp only [if_neg (show ¬ l.fresh < 0 by have := HF.out; omega), HRR.out, if_neg HE.out] at h9
            have HST := hid h9
            clear h9 hr3 hc3 hb3
            go_wp2_with fail
            go_fit HST.out
            rintro e w4 ⟨rfl, hs4⟩
            obtain ⟨N4, M4, R4, hw4, hi4, ho4, hr4⟩ := hs4.ex
            have HW4 := hid hw4
            have HT4 := hid (show LTurns N M R w N4 M4 R4 w4 from ⟨((Within.of_below HB3.out).trans hi4), fun g hg => by
              rcases ho4 g hg with y | y | y
              · exact .inl y
              · exact .inr (HO3.out g y)
              · exact .inr (Nat.le_trans HB3.out.size y), fun g hg => (hr4 g hg).imp id (fun y => Nat.le_trans HB3.out.size y)⟩)
            clear hw4 hi4 ho4 hr4 hs4 HST
            go_wp2_with fail
            go_ret2
            exact ⟨rfl, N4, M4, R4, HW4.out, HT4.out⟩
      · have h4i : ¬ ((l.stream.length + rn : Nat) : Int) > ((512 * l.size : Nat) : Int) := by omega
        have HWN := hid (show ¬ l.wants body = true by rw [hwn, decide_eq_false h4, hemp]; decide)
        have HBL := hid (show (l.stream ++ l.rec_ body).length ≤ 512 * l.size by rw [List.length_append]; have := HRN.out; omega)
        have hlv := HPL.out.cur h2
        obtain ⟨x, hx⟩ : ∃ x, l.live.getLast? = some x := by
          cases hg : l.live.getLast? with
          | none => exact absurd (List.getLast?_eq_none_iff.1 hg) hlv
          | some x => exact ⟨x, rfl⟩
        have HX := hid hx
        generalize hr : wrSt s (l.place x.i) (l.stream ++ l.rec_ body) l.size (l.stream.length / 512) = r
        obtain ⟨s1, e1⟩ := r
        obtain ⟨ew, ed, eok, ebad⟩ := app_old (s := s) HLG.out HWN.out hx hr
        have HRR := hid hr
        rw [ew, ed]
        clear hr h2 hwn hemp h4 hlv hx ew ed
        by_cases he : e1 = 0
        · obtain ⟨e3, e4⟩ := eok he
          rw [e3, e4]
          subst he
          clear eok ebad e3 e4
          rw [HSN.out]
          go_enter Tryz.func12, Tryz.ntmps12
          go_upto_region 2 with fail
          go_wp2_with fail
          go_fit HPH.out
          rintro e w1 ⟨A7, m7, c7, rfl, hr7, hb7⟩
          have HB1 := hid hb7
          have HR7 := hid hr7
          clear hr7 hb7 x5
          go_wp2_with fail
          go_fit (HPB.out w1 HB1.out)
          rintro e w2 ⟨A9, m9, c9, rfl, hr9, hb9⟩
          have HB2 := hid (HB1.out.trans (hb9.mono HB1.out.size))
          have HR9 := hid hr9
          have HR7b := hid (HR7.out.below hb9)
          have hm7 : m7 = hn := HR7b.out.1.trans HHN.out.symm
          have hm9 : m9 = rn := HR9.out.1.trans HRN.out.symm
          subst hm7 hm9
          clear hr9 hb9 HR7
          obtain ⟨A, c, C, cc, hl⟩ := (HW.out.step HB2.out).log
          have HL2 := hid hl
          have HSZ := hid (size_is hl)
          clear hl
          go_wp2_with fail
          go_fit HSZ.out
          rintro e w3 ⟨rfl, hw3⟩
          obtain rfl : w2 = w3 := hw3.symm
          obtain ⟨ad, rfl⟩ : ∃ ad, C = some ad := by
            rcases C with _ | ad
            · exact absurd (HL2.out.nil.1 rfl) HST0.out
            · exact ⟨ad, rfl⟩
          have x9 : ∀ W, Beyond w2 W → W.cell? ⟨b, 9, none⟩ = some (.slice (some ad) l.stream.length cc) := fun W hW => (HL2.out.below hW).blk.cell 9
          have heqn : ∀ W, (binOp .eql 74 (.slice (some ad) l.stream.length cc) (.slice none 0 0)).run Tryz.prog W = .ok (.bool false) W := fun W => Lib.run_eql_slice_nil W 74 5 (some ad) _ _ 0 0 Tryz.underlying74
          have HSZ6 := hid (fun (W : World) (hW : Beyond w2 W) => size_is (HL2.out.below hW))
          go_wp2_with fail
          refine wp_region_held_drew (S := Beyond w2) (by kernel_rfl) (Beyond.drew _) (fun hS => ?_)
          refine stT 0 hS ?_; (try simp only [putr]); refine stT 1 hS ?_; (try simp only [putr]); refine stT 2 hS ?_; (try simp only [putr]); refine stT 3 hS ?_; (try simp only [putr]); refine stT 4 hS ?_; (try simp only [putr]); refine stT 5 hS ?_; try simp only [putr]
          first | (refine stT 6 hS ?_) | (refine stK 6 hS ?_)
          try simp only [putr]
          first | (refine stT 7 hS ?_) | (refine stK 7 hS ?_)
          try simp only [putr]
          first | (refine stT 8 hS ?_) | (refine stK 8 hS ?_)
          try simp only [putr]
          first | (refine stT 9 hS ?_) | (refine stK 9 hS ?_)
          try simp only [putr]
          first | (refine stT 10 hS ?_) | (refine stK 10 hS ?_)
          try simp only [putr]
          first | (refine stT 11 hS ?_) | (refine stK 11 hS ?_)
          try simp only [putr]
          first | (refine stT 12 hS ?_) | (refine stK 12 hS ?_)
          try simp only [putr]
          first | (refine stT 13 hS ?_) | (refine stK 13 hS ?_)
          try simp only [putr]
          first | (refine stT 14 hS ?_) | (refine stK 14 hS ?_)
          (try simp only [putr]); refine rdH [15] ?_; refine rcH (fun K hK => ?_) AllReadyH.nil; go_simp
          go_fit (HSZ6.out _ hS)
          rintro e w5 ⟨rfl, rfl⟩
          have hS15 := hS
          refine hK.out _ _ (by assumption) (fun _ => ?_); clear hK K hS; have hS := hS15; try simp only [putr]
          first | (refine stT 16 hS ?_) | (refine stK 16 hS ?_)
          (try simp only [putr]); refine stT 17 hS ?_; (try simp only [putr]); refine wpAnyH_done (by kernel_rfl) ?_ _
          clear x9
          have HBS := hid (HB2.out.trans (hS.mono HB2.out.size))
          have HR9S := hid (HR9.out.below hS)
          have h9 := extend_log (cb := c9) (HW.out.step HBS.out) HX.out HST0.out HR9S.out.at_ HR9S.out.1 (Nat.le_refl _) HBL.out HP.out
          rw [HRR.out] at h9
          dsimp only at h9
          simp only [↓reduceIte] at h9
          have HST := hid h9
          clear h9 hS
          go_wp2_with fail
          go_fit HST.out
          rintro e w4 ⟨rfl, N4, M4, R4, hw4, ht4⟩
          have HW4 := hid hw4
          have HT4 := hid ((LTurns.of_below HBS.out).trans ht4)
          clear hw4 ht4 HST
          obtain ⟨Aq, cq, Cq, ccq, hlq⟩ := HW4.out.log
          have xq := hlq.blk.cell 5
          have xf := hlq.blk.free 5
          have HLS4 := hid (last_set (l := { l with live := Wl.bump l.live, stream := l.stream ++ l.rec_ body }) ⟨Aq, cq, Cq, ccq, hlq.recount (live' := Wl.bump l.live) (bump_en _)⟩ HSQ.out)
          have HNb := hid hlq.mb
          clear hlq
          go_wp2_with fail
          go_ret2
          exact ⟨rfl, N4, M4, R4, HW4.out.log' HLS4.out.1 HLS4.out.2, HT4.out.trans (LTurns.of_only HLS4.out.2 HNb.out)⟩
        · obtain ⟨e3, e4⟩ := ebad he
          rw [e3, e4]
          have hne : ((e1 : Int) != 0) = true := by simp; omega
          have HE := hid he
          clear eok ebad e3 e4 he
          go_enter Tryz.func12, Tryz.ntmps12
          go_upto_region 2 with fail
          go_wp2_with fail
          go_fit HPH.out
          rintro e w1 ⟨A7, m7, c7, rfl, hr7, hb7⟩
          have HB1 := hid hb7
          have HR7 := hid hr7
          clear hr7 hb7 x5
          go_wp2_with fail
          go_fit (HPB.out w1 HB1.out)
          rintro e w2 ⟨A9, m9, c9, rfl, hr9, hb9⟩
          have HB2 := hid (HB1.out.trans (hb9.mono HB1.out.size))
          have HR9 := hid hr9
          have HR7b := hid (HR7.out.below hb9)
          have hm7 : m7 = hn := HR7b.out.1.trans HHN.out.symm
          have hm9 : m9 = rn := HR9.out.1.trans HRN.out.symm
          subst hm7 hm9
          clear hr9 hb9 HR7
          obtain ⟨A, c, C, cc, hl⟩ := (HW.out.step HB2.out).log
          have HL2 := hid hl
          have HSZ := hid (size_is hl)
          clear hl
          go_wp2_with fail
          go_fit HSZ.out
          rintro e w3 ⟨rfl, hw3⟩
          obtain rfl : w2 = w3 := hw3.symm
          obtain ⟨ad, rfl⟩ : ∃ ad, C = some ad := by
            rcases C with _ | ad
            · exact absurd (HL2.out.nil.1 rfl) HST0.out
            · exact ⟨ad, rfl⟩
          have x9 : ∀ W, Beyond w2 W → W.cell? ⟨b, 9, none⟩ = some (.slice (some ad) l.stream.length cc) := fun W hW => (HL2.out.below hW).blk.cell 9
          have heqn : ∀ W, (binOp .eql 74 (.slice (some ad) l.stream.length cc) (.slice none 0 0)).run Tryz.prog W = .ok (.bool false) W := fun W => Lib.run_eql_slice_nil W 74 5 (some ad) _ _ 0 0 Tryz.underlying74
          have HSZ6 := hid (fun (W : World) (hW : Beyond w2 W) => size_is (HL2.out.below hW))
          go_wp2_with fail
          refine wp_region_held_drew (S := Beyond w2) (by kernel_rfl) (Beyond.drew _) (fun hS => ?_)
          refine stT 0 hS ?_; (try simp only [putr]); refine stT 1 hS ?_; (try simp only [putr]); refine stT 2 hS ?_; (try simp only [putr]); refine stT 3 hS ?_; (try simp only [putr]); refine stT 4 hS ?_; (try simp only [putr]); refine stT 5 hS ?_; try simp only [putr]
          first | (refine stT 6 hS ?_) | (refine stK 6 hS ?_)
          try simp only [putr]
          first | (refine stT 7 hS ?_) | (refine stK 7 hS ?_)
          try simp only [putr]
          first | (refine stT 8 hS ?_) | (refine stK 8 hS ?_)
          try simp only [putr]
          first | (refine stT 9 hS ?_) | (refine stK 9 hS ?_)
          try simp only [putr]
          first | (refine stT 10 hS ?_) | (refine stK 10 hS ?_)
          try simp only [putr]
          first | (refine stT 11 hS ?_) | (refine stK 11 hS ?_)
          try simp only [putr]
          first | (refine stT 12 hS ?_) | (refine stK 12 hS ?_)
          try simp only [putr]
          first | (refine stT 13 hS ?_) | (refine stK 13 hS ?_)
          try simp only [putr]
          first | (refine stT 14 hS ?_) | (refine stK 14 hS ?_)
          (try simp only [putr]); refine rdH [15] ?_; refine rcH (fun K hK => ?_) AllReadyH.nil; go_simp
          go_fit (HSZ6.out _ hS)
          rintro e w5 ⟨rfl, rfl⟩
          have hS15 := hS
          refine hK.out _ _ (by assumption) (fun _ => ?_); clear hK K hS; have hS := hS15; try simp only [putr]
          first | (refine stT 16 hS ?_) | (refine stK 16 hS ?_)
          (try simp only [putr]); refine stT 17 hS ?_; (try simp only [putr]); refine wpAnyH_done (by kernel_rfl) ?_ _
          clear x9
          have HBS := hid (HB2.out.trans (hS.mono HB2.out.size))
          have HR9S := hid (HR9.out.below hS)
          have h9 := extend_log (cb := c9) (HW.out.step HBS.out) HX.out HST0.out HR9S.out.at_ HR9S.out.1 (Nat.le_refl _) HBL.out HP.out
          rw [HRR.out] at h9
          dsimp only at h9
          simp only [if_neg HE.out] at h9
          have HST := hid h9
          clear h9 hS
          go_wp2_with fail
          go_fit HST.out
          rintro e w4 ⟨rfl, N4, M4, R4, hw4, ht4⟩
          have HW4 := hid hw4
          have HT4 := hid ((LTurns.of_below HBS.out).trans ht4)
          clear hw4 ht4 HST
          go_wp2_with fail
          go_ret2
          exact ⟨rfl, N4, M4, R4, HW4.out, HT4.out⟩

end Go.Proofs.YtobmdmbjmjdfjaaGreatDoor
