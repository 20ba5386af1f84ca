/-
  The document's done: sectors behind an operation of which so much survives. The document's put: an operation becomes pending. The document's Write and Free. The document's Free, Sync and New. The document's Crash.
-/
import Derived.Test.YtngclmjefadokaaDoorJSL
import Derived.Test.YtngclmjefadokaaDoorJBytes
import Derived.Lib.MinMax
import Derived.Deep.CutRange
import Derived.Test.YtngclmjefadokaaDoorJDisk
import Derived.StillTailTactics
namespace Go.Proofs.YtngclmjefadokaaDoor
open Go Go.RowKit

structure Dn (w1 wr : World) (A : Option Addr) (m c : Nat) (l : List Sct) : Prop where
  row : GRow eSct 103 wr w1.heap.size A m c l
  below : Below w1.heap.size w1 wr
theorem dropS_take {l : List Sct} {k : Nat} {x : Sct} (h : l[k]? = some x) (i : Int) : dropS (l.take (k + 1)) i = dropS (l.take k) i ++ (if x.1 = i then [] else [x]) := by
  obtain ⟨hk, hx⟩ := List.getElem?_eq_some_iff.1 h
  rw [List.take_succ_eq_append_getElem hk, hx, dropS_append, dropS_cons]
  rfl

set_option maxHeartbeats 4000000 in
set_option maxRecDepth 100000 in
theorem done6_any {A : Option Addr} {m c B : Nat} {l : List Sct} {o : POp} {w : World} (n : Int) (hA : GAt eSct w B A l) (hm : m = l.length) (hB : B ≤ w.heap.size) (hl : l.length ≤ 65536) (hs : ∀ x ∈ l, x.2.length ≤ 512) (hb : ∀ b, o.b = some b → b.length ≤ 512) :
    Calls Tryd.prog 32 #[.slice A m c, .agg #[.int .i64 o.i, .bool o.b.isNone, .string (bst (o.b.getD []))], .int .i64 n] w fun e w' => ∃ A' m' c', e = .returned (.slice A' m' c') ∧ GRow eSct 103 w' w.heap.size A' m' c' (doneS l o n) ∧ Below w.heap.size w w' := by
  subst hm
  have HA := hid hA
  have hold : ((findS l o.i).getD []).length ≤ 512 := by
    cases hf : findS l o.i with
    | none => simp
    | some x => obtain ⟨y, hy, h1, h2⟩ := findS_mem hf; have := hs y hy; rw [← h2]; exact this
  have HDS := hid (show doneS l o n = dropS l o.i ++ (match o.b with | none => [] | some b => [(o.i, torn b (some ((findS l o.i).getD [])) n)]) by unfold doneS torn; cases findS l o.i <;> rfl)
  have HF := hid (fun (w : World) (h : GAt eSct w B A l) => find6_any (c := c) o.i h rfl hl)
  obtain ⟨R, hR⟩ : ∃ R, R = doneS l o n := ⟨_, rfl⟩
  rw [← hR] at HDS ⊢
  clear hR hA
  obtain ⟨oi, obb⟩ := o
  dsimp only at *
  generalize (findS l oi).isSome = so at HF
  generalize (findS l oi).getD [] = old at HF HDS hold
  obtain ⟨fr, hfr⟩ : ∃ fr, fr = obb.isNone := ⟨_, rfl⟩
  obtain ⟨ob, hob⟩ : ∃ ob, ob = obb.getD [] := ⟨_, rfl⟩
  rw [← hfr, ← hob]
  have HFR := hid hfr
  have HOB := hid hob
  have zb := bst_size ob
  have zo := bst_size old
  have HB1 := hid (show Below w.heap.size w (w.alloc (.cells #[.int .i64 oi, .bool fr, .string (bst ob)] 93)) from (Below.refl _ _).alloc (Nat.le_refl _) _)
  have HX1 := hid (Blk.new w 93 #[.int .i64 oi, .bool fr, .string (bst ob)])
  have HBB := hid hB
  clear hfr hob hB
  go_enter Tryd.func32, Tryd.ntmps32
  go_wp2_with fail
  generalize w.alloc (.cells #[.int .i64 oi, .bool fr, .string (bst ob)] 93) = w1 at *
  have HA1 := hid (HA.out.below (HB1.out.mono HBB.out))
  obtain ⟨a0, a1, a2, _, _, _⟩ := three HX1.out
  go_wp2_with fail
  go_fit (HF.out w1 HA1.out)
  rintro e w2 ⟨rfl, rfl⟩
  have HD0 := hid (show Dn w1 (w1.alloc (.cells #[] 103)) (some ⟨w1.heap.size, 0, none⟩) 0 0 (dropS (l.take 0) oi) from ⟨GRow.empty w1 rfl (Nat.le_refl _), (Below.refl _ _).alloc (Nat.le_refl _) _⟩)
  clear a0 a1 a2
  go_wp2_with fail
  go_loopw [9, 10] (fun o j wr => ∃ (k mm cc : Nat) (AA : Option Addr), k ≤ l.length ∧ o = .slice AA mm cc ∧ j = .int .i64 (k : Int) ∧ Kept (Dn w1 wr AA mm cc (dropS (l.take k) oi))) (fun _ j _ => l.length - (intOf j).toNat)
  case atStart => exact ⟨0, _, _, _, Nat.zero_le _, rfl, rfl, HD0⟩
  case round =>
    obtain ⟨k, mm, cc, AA, hk, rfl, rfl, HD⟩ := hrel
    have HXR := hid (HX1.out.below HD.out.below HX1.out.lt)
    by_cases hlt : k < l.length
    · obtain ⟨b, off, x, rfl, hbb, hx, d0, d1⟩ := (HA1.out.below (HD.out.below.mono (Nat.le_trans HBB.out HB1.out.size))).sct (i := k) hlt
      have ht := dropS_take hx oi
      clear hx
      obtain ⟨a0, a1, a2, _, _, _⟩ := three HXR.out
      by_cases hxi : x.1 = oi
      · rw [if_pos hxi, List.append_nil] at ht
        rw [← ht] at HD
        have hne : (x.1 != oi) = false := by simpa using hxi
        clear ht hxi
        go_wp2_with fail
        go_quiet (fail)
        go_wp2_with fail
        go_roundw
        case rel => exact ⟨k + 1, mm, cc, _, by omega, rfl, by go_num, hid ⟨HD.out.row.below (below_drewN (Below.refl _ _) _), HD.out.below.trans (below_drewN (Below.refl _ _) _)⟩⟩
        case measure => simp [intOf]; omega
      · rw [if_neg hxi] at ht
        have hne : (x.1 != oi) = true := by simpa using hxi
        have HT := hid ht
        have HLN := hid (show (dropS (l.take k) oi).length + [x].length ≤ 1099511627776 by have := dropS_le (l.take k) oi; rw [List.length_take] at this; simp; omega)
        clear ht hxi
        go_wp2_with fail
        go_quiet (fail)
        have d0' : (wr.drewN nq).cell? ⟨b, off + k * 2, none⟩ = some (.int .i64 x.1) := d0
        have d1' : (wr.drewN nq).cell? ⟨b, off + k * 2 + 1, none⟩ = some (.string (bst x.2)) := d1
        have HDQ := hid (show Dn w1 (wr.drewN nq) AA mm cc _ from ⟨HD.out.row.below (below_drewN (Below.refl _ _) _), HD.out.below.trans (below_drewN (Below.refl _ _) _)⟩)
        generalize wr.drewN nq = wq at *
        have HSZ := hid (show w1.heap.size ≤ (wq.alloc (.cells #[.int .i64 x.1, .string (bst x.2)] 103)).heap.size by have := HDQ.out.below.size; simp; omega)
        clear d0 d1 a0 a1 a2
        go_wp2_with (at_builtin; go_must (refine wpList_append_g _ rfl _ _ eSct gi_sct (by decide) rfl w1.heap.size rfl (HDQ.out.row.alloc _) rfl rfl (GAt.one wq x 103 rfl) HLN.out HSZ.out ?_))
        intro A7 m7 c7 w7 hr7 hm7 hb7 hg7
        have HD7 := hid (show Dn w1 w7 A7 m7 c7 (dropS (l.take (k + 1)) oi) from ⟨by rw [HT.out]; exact hr7, (HDQ.out.below.alloc HDQ.out.below.size _).trans hb7⟩)
        clear hr7 hm7 hb7 hg7
        go_wp2_with fail
        go_roundw
        case rel => exact ⟨k + 1, m7, c7, A7, by omega, rfl, by go_num, HD7⟩
        case measure => simp [intOf]; omega
    · have hkl : k = l.length := by omega
      subst hkl
      rw [List.take_length] at HD
      clear HD0 HF
      have hfl := HFR.out
      cases obb with
      | none =>
        have hds := HDS.out
        rw [List.append_nil] at hds
        obtain rfl : fr = true := hfl
        subst hds
        obtain ⟨a0, a1, a2, _, _, _⟩ := three HXR.out
        go_wp2_with fail
        go_ret
        exact ⟨AA, mm, cc, rfl, HD.out.row.le HB1.out.size, HB1.out.trans (HD.out.below.mono HB1.out.size)⟩
      | some bb =>
        obtain rfl : fr = false := hfl
        obtain rfl : ob = bb := HOB.out
        have hds := HDS.out
        dsimp only at hds
        have hbl := hb ob rfl
        have HSZ := hid (show ∀ x : Sct, w1.heap.size ≤ (wr.alloc (.cells #[.int .i64 oi, .string (bst x.2)] 103)).heap.size from fun x => by have := HD.out.below.size; simp; omega)
        have HLN := hid (show ∀ x : Sct, (dropS l oi).length + [x].length ≤ 1099511627776 from fun x => by have := dropS_le l oi; simp; omega)
        unfold torn at hds
        rw [show ((some old).getD [] : List UInt8) = old from rfl] at hds
        by_cases h : (ob.length : Int) ≤ n
        · rw [if_pos h] at hds
          subst hds
          obtain ⟨a0, a1, a2, _, _, _⟩ := three HXR.out
          replace HSZ := hid (HSZ.out (oi, ob))
          replace HLN := hid (HLN.out (oi, ob))
          go_wp2_with (at_builtin; go_must (refine wpList_append_g _ rfl _ _ eSct gi_sct (by decide) rfl w1.heap.size rfl (HD.out.row.alloc _) rfl rfl (GAt.one wr (oi, ob) 103 rfl) HLN.out HSZ.out ?_))
          intro A7 m7 c7 w7 hr7 hm7 hb7 hg7
          have HR7 := hid hr7
          have HB7 := hid hb7
          clear hr7 hm7 hb7 hg7
          go_wp2_with fail
          go_ret
          exact ⟨A7, m7, c7, rfl, HR7.out.le HB1.out.size, HB1.out.trans (((HD.out.below.alloc HD.out.below.size _).trans HB7.out).mono HB1.out.size)⟩
        · rw [if_neg h] at hds
          obtain ⟨j, hj, hjb⟩ : ∃ j : Nat, max n 0 = (j : Int) ∧ j < ob.length + 1 := ⟨n.toNat, by omega, by omega⟩
          rw [show n.toNat = j by omega] at hds
          have e1 := bstTake ob j
          have hjb2 : j ≤ ob.length := by omega
          clear hjb
          by_cases h2 : j < old.length
          · have e2 := bstDrop old j
            have e3 := bst_append (ob.take j) (old.drop j)
            have hsum : ¬ 9223372036854775807 < (bst (ob.take j)).size + (bst (old.drop j)).size := by
              rw [bst_size, bst_size, List.length_take, List.length_drop]; omega
            subst hds
            obtain ⟨a0, a1, a2, _, _, _⟩ := three HXR.out
            replace HSZ := hid (HSZ.out (oi, ob.take j ++ old.drop j))
            replace HLN := hid (HLN.out (oi, ob.take j ++ old.drop j))
            go_wp2_with (at_builtin; go_must (refine wpList_append_g _ rfl _ _ eSct gi_sct (by decide) rfl w1.heap.size rfl (HD.out.row.alloc _) rfl rfl (GAt.one wr (oi, ob.take j ++ old.drop j) 103 rfl) HLN.out HSZ.out ?_))
            intro A7 m7 c7 w7 hr7 hm7 hb7 hg7
            have HR7 := hid hr7
            have HB7 := hid hb7
            clear hr7 hm7 hb7 hg7
            go_wp2_with fail
            go_ret
            exact ⟨A7, m7, c7, rfl, HR7.out.le HB1.out.size, HB1.out.trans (((HD.out.below.alloc HD.out.below.size _).trans HB7.out).mono HB1.out.size)⟩
          · rw [List.drop_of_length_le (by omega), List.append_nil] at hds
            subst hds
            obtain ⟨a0, a1, a2, _, _, _⟩ := three HXR.out
            replace HSZ := hid (HSZ.out (oi, ob.take j))
            replace HLN := hid (HLN.out (oi, ob.take j))
            go_wp2_with (at_builtin; go_must (refine wpList_append_g _ rfl _ _ eSct gi_sct (by decide) rfl w1.heap.size rfl (HD.out.row.alloc _) rfl rfl (GAt.one wr (oi, ob.take j) 103 rfl) HLN.out HSZ.out ?_))
            intro A7 m7 c7 w7 hr7 hm7 hb7 hg7
            have HR7 := hid hr7
            have HB7 := hid hb7
            clear hr7 hm7 hb7 hg7
            go_wp2_with fail
            go_ret
            exact ⟨A7, m7, c7, rfl, HR7.out.le HB1.out.size, HB1.out.trans (((HD.out.below.alloc HD.out.below.size _).trans HB7.out).mono HB1.out.size)⟩

end Go.Proofs.YtngclmjefadokaaDoor

namespace Go.Proofs.YtngclmjefadokaaDoor
open Go Go.RowKit

set_option maxHeartbeats 8000000 in
set_option maxRecDepth 100000 in
theorem put6_any {P : Nat → Prop} {w : World} {v : Value} {s : Dk} {o : POp} (h : D6 P w v s) (h0 : 0 ≤ o.i) (h1 : o.i < (s.size : Int)) (hb : ∀ b, o.b = some b → b.length ≤ 512) (hp : s.pend.length ≤ 1000000) :
    Calls Tryd.prog 41 #[v, .agg #[.int .i64 o.i, .bool o.b.isNone, .string (bst (o.b.getD []))]] w fun e w' =>
      ∃ v', e = .returned v' ∧ D6 (fun k => P k ∨ w.heap.size ≤ k) w' v' { s with view := applyOp s.view o ((o.b.getD []).length : Int), pend := s.pend ++ [o] } ∧ Below w.heap.size w w' := by
  obtain ⟨V, G, A1, A2, A3, c1, c2, c3, rfl, hV, hG, hA1, hA2, hA3, hc1, hc2, hc3, hi1, hi2, hi3⟩ := h.ex
  have HLL := hid hp
  have HV := hid (hV.done h0 h1 hb ((o.b.getD []).length : Int))
  have hVl := hV.le
  have hsz := h.size
  have HDN := hid (fun (W : World) (hW : Below w.heap.size w W) => done6_any (c := c1) (o := o) ((o.b.getD []).length : Int) (hA1.below hW) rfl hW.size (by omega) hV.small hb)
  have HKP := hid (And.intro hG (And.intro (show ∀ W, Below w.heap.size w W → GAt eSct W W.heap.size A2 G from fun W hW => (hA2.below hW).more hW.size) hc2))
  have HI2 := hid hi2
  have HPD := hid (show ∀ x ∈ s.pend ++ [o], 0 ≤ x.i ∧ x.i < (s.size : Int) ∧ ∀ b, x.b = some b → b.length ≤ 512 from fun x hx => by
    rw [List.mem_append] at hx
    rcases hx with hx | hx
    · exact h.pend x hx
    · simp at hx; subst hx; exact ⟨h0, h1, hb⟩)
  obtain ⟨L, hL⟩ : ∃ L, L = s.pend := ⟨_, rfl⟩
  rw [← hL] at hA3 hc3 HLL HPD ⊢
  obtain ⟨n3, hn3⟩ : ∃ n3, n3 = L.length := ⟨_, rfl⟩
  rw [← hn3]
  have HN3 := hid hn3
  obtain ⟨n1, hn1⟩ : ∃ n1, n1 = V.length := ⟨_, rfl⟩
  rw [← hn1] at HDN hc1 ⊢
  obtain ⟨n2, hn2⟩ : ∃ n2, n2 = G.length := ⟨_, rfl⟩
  rw [← hn2] at HKP ⊢
  have HN2 := hid hn2
  obtain ⟨sz, hsz'⟩ : ∃ sz : Int, sz = (s.size : Int) := ⟨_, rfl⟩
  obtain ⟨lm, hlm⟩ : ∃ lm : Int, lm = s.limit := ⟨_, rfl⟩
  rw [← hsz', ← hlm]
  have HSZ := hid (And.intro hsz' (And.intro hlm hsz))
  obtain ⟨oi, hoi⟩ : ∃ oi, oi = o.i := ⟨_, rfl⟩
  obtain ⟨fr, hfr⟩ : ∃ fr, fr = o.b.isNone := ⟨_, rfl⟩
  obtain ⟨ob, hob⟩ : ∃ ob, ob = o.b.getD [] := ⟨_, rfl⟩
  rw [← hoi, ← hfr, ← hob] at HDN ⊢
  rw [← hob] at HV
  have HPV := hid (show (#[.int .i64 oi, .bool fr, .string (bst ob)] : Array Value).toList = ePd.enc o by rw [hoi, hfr, hob]; rfl)
  have zb := bst_size ob
  clear hi1 hi2 hi3 hL hn3 hn1 hn2 hsz' hlm hoi hfr hob hV hG hA1 hA2 h hp h0 h1 hb hc1 hc2 hVl hsz
  have HB := hid (show Below w.heap.size w (((w.alloc (.cells #[.int .i64 sz, .int .i64 lm, .slice A1 n1 c1, .slice A2 n2 c2, .slice A3 n3 c3] 30)).alloc (.cells #[.int .i64 oi, .bool fr, .string (bst ob)] 93)).alloc (.cells #[.int .i64 0, .int .i64 0, .slice none 0 0, .slice none 0 0, .slice none 0 0] 30)) from (((Below.refl _ _).alloc (Nat.le_refl _) _).alloc (by simp) _).alloc (by simp; omega) _)
  have HD := hid (show Blk (((w.alloc (.cells #[.int .i64 sz, .int .i64 lm, .slice A1 n1 c1, .slice A2 n2 c2, .slice A3 n3 c3] 30)).alloc (.cells #[.int .i64 oi, .bool fr, .string (bst ob)] 93)).alloc (.cells #[.int .i64 0, .int .i64 0, .slice none 0 0, .slice none 0 0, .slice none 0 0] 30)) w.heap.size 30 #[.int .i64 sz, .int .i64 lm, .slice A1 n1 c1, .slice A2 n2 c2, .slice A3 n3 c3] from ((Blk.new w _ _).alloc _).alloc _)
  have hP := (Blk.new (w.alloc (.cells #[.int .i64 sz, .int .i64 lm, .slice A1 n1 c1, .slice A2 n2 c2, .slice A3 n3 c3] 30)) 93 #[.int .i64 oi, .bool fr, .string (bst ob)]).alloc (.cells #[.int .i64 0, .int .i64 0, .slice none 0 0, .slice none 0 0, .slice none 0 0] 30)
  have hZ := Blk.new ((w.alloc (.cells #[.int .i64 sz, .int .i64 lm, .slice A1 n1 c1, .slice A2 n2 c2, .slice A3 n3 c3] 30)).alloc (.cells #[.int .i64 oi, .bool fr, .string (bst ob)] 93)) 30 #[.int .i64 0, .int .i64 0, .slice none 0 0, .slice none 0 0, .slice none 0 0]
  rw [show (w.alloc (.cells #[.int .i64 sz, .int .i64 lm, .slice A1 n1 c1, .slice A2 n2 c2, .slice A3 n3 c3] 30)).heap.size = w.heap.size + 1 by simp] at hP
  rw [show ((w.alloc (.cells #[.int .i64 sz, .int .i64 lm, .slice A1 n1 c1, .slice A2 n2 c2, .slice A3 n3 c3] 30)).alloc (.cells #[.int .i64 oi, .bool fr, .string (bst ob)] 93)).heap.size = w.heap.size + 1 + 1 by simp] at hZ
  have HP := hid hP
  have HZ := hid hZ
  have HL3 := hid (show ∀ W, Below (((w.alloc (.cells #[.int .i64 sz, .int .i64 lm, .slice A1 n1 c1, .slice A2 n2 c2, .slice A3 n3 c3] 30)).alloc (.cells #[.int .i64 oi, .bool fr, .string (bst ob)] 93)).alloc (.cells #[.int .i64 0, .int .i64 0, .slice none 0 0, .slice none 0 0, .slice none 0 0] 30)).heap.size (((w.alloc (.cells #[.int .i64 sz, .int .i64 lm, .slice A1 n1 c1, .slice A2 n2 c2, .slice A3 n3 c3] 30)).alloc (.cells #[.int .i64 oi, .bool fr, .string (bst ob)] 93)).alloc (.cells #[.int .i64 0, .int .i64 0, .slice none 0 0, .slice none 0 0, .slice none 0 0] 30)) W → GAt ePd W W.heap.size A3 L from fun W hW => (hA3.below (Below.trans HB.out (hW.mono HB.out.size))).more (Nat.le_trans HB.out.size hW.size))
  clear hP hZ hA3
  go_enter Tryd.func41, Tryd.ntmps41
  go_wp2_with fail
  generalize ((w.alloc (.cells #[.int .i64 sz, .int .i64 lm, .slice A1 n1 c1, .slice A2 n2 c2, .slice A3 n3 c3] 30)).alloc (.cells #[.int .i64 oi, .bool fr, .string (bst ob)] 93)).alloc (.cells #[.int .i64 0, .int .i64 0, .slice none 0 0, .slice none 0 0, .slice none 0 0] 30) = wq at *
  go_cut [] from 5 to 12 (fun wx => ∃ (A5 : Option Addr) (m5 c5 : Nat), Kept (Only w.heap.size wq wx) ∧ Kept (Blk wx w.heap.size 30 #[.int .i64 sz, .int .i64 lm, .slice A1 n1 c1, .slice A2 n2 c2, .slice A5 m5 c5]) ∧ Kept (GRow ePd 93 wx wq.heap.size A5 m5 c5 (L ++ [o])) ∧ Kept (m5 ≤ c5))
  case first =>
    have hBy : Below wq.heap.size wq wq.drew := (Below.refl _ _).drew
    have x4 : wq.drew.cell? ⟨w.heap.size, 4, none⟩ = some (.slice A3 n3 c3) := HD.out.cell 4
    have x4w : wq.cell? ⟨w.heap.size, 4, none⟩ = some (.slice A3 n3 c3) := HD.out.cell 4
    have hwl : w.heap.size < wq.heap.size := HD.out.lt
    have hpl := HP.out.lt
    have p0 : ∀ W, Only w.heap.size wq W → W.cell? ⟨w.heap.size + 1, 0, none⟩ = some (.int .i64 oi) := fun W ho => (HP.out.grown ho (by simp)).cell 0
    have p1 : ∀ W, Only w.heap.size wq W → W.cell? ⟨w.heap.size + 1, 1, none⟩ = some (.bool fr) := fun W ho => (HP.out.grown ho (by simp)).cell 1
    have p2 : ∀ W, Only w.heap.size wq W → W.cell? ⟨w.heap.size + 1, 2, none⟩ = some (.string (bst ob)) := fun W ho => (HP.out.grown ho (by simp)).cell 2
    clear HDN HV HKP HPD HZ
    refine wp_region_held_drew (S := Only w.heap.size wq) (by kernel_rfl) (Only.drew (Only.refl _ _)) (fun hS => ?_)
    refine stT 1 hS ?_
    try simp only [putr]
    refine stT 4 hS ?_
    try simp only [putr]
    refine rdH [0, 2, 5] ?_
    refine rcH (fun K hK => ?_) ?_
    · skip
      go_simp
      refine hK.out _ _ (Only.alloc hS _) (fun hS0 => ?_)
      have HR0 := hid (show GRow ePd 93 (wq.drew.alloc (.cells #[] 93)) wq.heap.size (some ⟨wq.heap.size, 0, none⟩) 0 0 [] from GRow.empty wq.drew (rfl) (Nat.le_refl _))
      have hBy := hBy.alloc hBy.size (.cells #[] 93)
      clear hK K hS
      have hS := hS0
      try simp only [putr]
      refine rdH [2, 5] ?_
      refine rcH (fun K hK => ?_) ?_
      · skip
        go_simp
        refine hK.out _ _ (hS) (fun hS2 => ?_)
        clear hK K hS
        have hS := hS2
        try simp only [putr]
        refine rdH [3, 5] ?_
        refine rcH (fun K hK => ?_) ?_
        · skip
          refine wp_append_g _ (.tmp 5) (.tmp 7) ePd gi_pd (by decide) rfl wq.heap.size (ns := L) rfl HR0.out rfl HN3.out (HL3.out _ hBy) (by have := HLL.out; simp; omega) (Below.size hBy) ?_
          intro A4 m4 c4 w4 hr4 hm4 hb4 hg4
          refine hK.out _ _ (Only.under hS hb4) (fun hS3 => ?_)
          rw [List.nil_append] at hr4
          have HR4 := hid hr4
          have hBy := Below.trans hBy hb4
          clear hr4 hb4 hg4 hm4
          clear hK K hS
          have hS := hS3
          try simp only [putr]
          refine rdH [5] ?_
          refine rcH (fun K hK => ?_) AllReadyH.nil
          go_simp
          refine hK.out _ _ (Only.alloc hS _) (fun hS5 => ?_)
          have HX5 := hid (show GAt ePd (w4.alloc (.cells #[.int .i64 oi, .bool fr, .string (bst ob)] 93)) (w4.heap.size + 1) (some ⟨w4.heap.size, 0, none⟩) [o] from GAt.one_at HPV.out (rfl))
          have hBy := hBy.alloc hBy.size (.cells #[.int .i64 oi, .bool fr, .string (bst ob)] 93)
          have HR4 := hid (HR4.out.alloc (.cells #[.int .i64 oi, .bool fr, .string (bst ob)] 93))
          clear hK K hS
          have hS := hS5
          try simp only [putr]
          refine rdH [6] ?_
          refine rcH (fun K hK => ?_) AllReadyH.nil
          refine wp_append_g _ (.tmp 8) (.tmp 10) ePd gi_pd (by decide) rfl wq.heap.size rfl HR4.out rfl rfl (ns := [o]) HX5.out (by have := HLL.out; simp; omega) (Below.size hBy) ?_
          intro A5 m5 c5 w5 hr5 hm5 hb5 hg5
          refine hK.out _ _ (Only.under hS hb5) (fun hS6 => ?_)
          have HR5 := hid hr5
          have hBy := Below.trans hBy hb5
          have HM5 := hid hm5
          have hD5 : Blk w5 w.heap.size 30 #[.int .i64 sz, .int .i64 lm, .slice A1 n1 c1, .slice A2 n2 c2, .slice A3 n3 c3] := HD.out.below hBy HD.out.lt
          have s4 := hD5.cell 4
          have s4f := hD5.free 4
          clear hr5 hb5 hg5 hm5 HX5 HR4 HR0
          clear hK K hS
          have hS := hS6
          try simp only [putr]
          refine stT 7 hS ?_
          try simp only [putr]
          refine rdH [8] ?_
          refine rcH (fun K hK => ?_) AllReadyH.nil
          go_simp
          refine hK.out _ _ (Only.set hS _) (fun hS8 => ?_)
          have HS8 := hid hS8
          clear hK K hS
          have hS := hS8
          try simp only [Act.put]
          refine wpAnyH_done (by kernel_rfl) ?_ _
          have HO6 := hid (show Only w.heap.size wq (w5.setCell ⟨w.heap.size, 4, none⟩ (.slice A5 m5 c5)) from HS8.out)
          have HD6 := hid (hD5.set 4 (.slice A5 m5 c5))
          have hne : (Value.slice A5 m5 c5).ownBlock ≠ some w.heap.size := fun e => by have := (HR5.out.2.lt _ e).1; have := HD.out.lt; omega
          have HR6 := hid (show GRow ePd 93 (w5.setCell ⟨w.heap.size, 4, none⟩ (.slice A5 m5 c5)) wq.heap.size A5 m5 c5 (L ++ [o]) from ⟨HR5.out.1, ownsRow_setCell_other HR5.out.2 hne _⟩)
          clear hD5 s4 s4f hne HR5 hS hS8 HS8 x4 x4w hBy p0 p1 p2 HL3 HB
          generalize w5.setCell ⟨w.heap.size, 4, none⟩ (.slice A5 m5 c5) = w6 at *
          go_wp2_with fail
          go_meet
          case rel => exact ⟨A5, m5, c5, HO6, HD6, HR6, HM5⟩
        refine rcH (fun K hK => ?_) AllReadyH.nil
        · skip
          go_simp
          refine hK.out _ _ (Only.alloc hS _) (fun hS5 => ?_)
          have HX5 := hid (show GAt ePd ((wq.drew.alloc (.cells #[] 93)).alloc (.cells #[.int .i64 oi, .bool fr, .string (bst ob)] 93)) (wq.heap.size + 1 + 1) (some ⟨wq.heap.size + 1, 0, none⟩) [o] from GAt.one_at HPV.out (by simp))
          have hBy := hBy.alloc hBy.size (.cells #[.int .i64 oi, .bool fr, .string (bst ob)] 93)
          have HR0 := hid (HR0.out.alloc (.cells #[.int .i64 oi, .bool fr, .string (bst ob)] 93))
          clear hK K hS
          have hS := hS5
          try simp only [putr]
          refine rdH [3] ?_
          refine rcH (fun K hK => ?_) AllReadyH.nil
          refine wp_append_g _ (.tmp 5) (.tmp 7) ePd gi_pd (by decide) rfl wq.heap.size (ns := L) rfl HR0.out rfl HN3.out (HL3.out _ hBy) (by have := HLL.out; simp; omega) (Below.size hBy) ?_
          intro A4 m4 c4 w4 hr4 hm4 hb4 hg4
          refine hK.out _ _ (Only.under hS hb4) (fun hS3 => ?_)
          rw [List.nil_append] at hr4
          have HR4 := hid hr4
          have hBy := Below.trans hBy hb4
          have HX5 := hid (HX5.out.grown hg4 (by simp) (fun b off e => by simp [Value.ownBlock] at e ⊢; omega))
          clear hr4 hb4 hg4 hm4
          clear hK K hS
          have hS := hS3
          try simp only [putr]
          refine rdH [6] ?_
          refine rcH (fun K hK => ?_) AllReadyH.nil
          refine wp_append_g _ (.tmp 8) (.tmp 10) ePd gi_pd (by decide) rfl wq.heap.size rfl HR4.out rfl rfl (ns := [o]) HX5.out (by have := HLL.out; simp; omega) (Below.size hBy) ?_
          intro A5 m5 c5 w5 hr5 hm5 hb5 hg5
          refine hK.out _ _ (Only.under hS hb5) (fun hS6 => ?_)
          have HR5 := hid hr5
          have hBy := Below.trans hBy hb5
          have HM5 := hid hm5
          have hD5 : Blk w5 w.heap.size 30 #[.int .i64 sz, .int .i64 lm, .slice A1 n1 c1, .slice A2 n2 c2, .slice A3 n3 c3] := HD.out.below hBy HD.out.lt
          have s4 := hD5.cell 4
          have s4f := hD5.free 4
          clear hr5 hb5 hg5 hm5 HX5 HR4 HR0
          clear hK K hS
          have hS := hS6
          try simp only [putr]
          refine stT 7 hS ?_
          try simp only [putr]
          refine rdH [8] ?_
          refine rcH (fun K hK => ?_) AllReadyH.nil
          go_simp
          refine hK.out _ _ (Only.set hS _) (fun hS8 => ?_)
          have HS8 := hid hS8
          clear hK K hS
          have hS := hS8
          try simp only [Act.put]
          refine wpAnyH_done (by kernel_rfl) ?_ _
          have HO6 := hid (show Only w.heap.size wq (w5.setCell ⟨w.heap.size, 4, none⟩ (.slice A5 m5 c5)) from HS8.out)
          have HD6 := hid (hD5.set 4 (.slice A5 m5 c5))
          have hne : (Value.slice A5 m5 c5).ownBlock ≠ some w.heap.size := fun e => by have := (HR5.out.2.lt _ e).1; have := HD.out.lt; omega
          have HR6 := hid (show GRow ePd 93 (w5.setCell ⟨w.heap.size, 4, none⟩ (.slice A5 m5 c5)) wq.heap.size A5 m5 c5 (L ++ [o]) from ⟨HR5.out.1, ownsRow_setCell_other HR5.out.2 hne _⟩)
          clear hD5 s4 s4f hne HR5 hS hS8 HS8 x4 x4w hBy p0 p1 p2 HL3 HB
          generalize w5.setCell ⟨w.heap.size, 4, none⟩ (.slice A5 m5 c5) = w6 at *
          go_wp2_with fail
          go_meet
          case rel => exact ⟨A5, m5, c5, HO6, HD6, HR6, HM5⟩
      refine rcH (fun K hK => ?_) AllReadyH.nil
      · skip
        go_simp
        refine hK.out _ _ (Only.alloc hS _) (fun hS5 => ?_)
        have HX5 := hid (show GAt ePd ((wq.drew.alloc (.cells #[] 93)).alloc (.cells #[.int .i64 oi, .bool fr, .string (bst ob)] 93)) (wq.heap.size + 1 + 1) (some ⟨wq.heap.size + 1, 0, none⟩) [o] from GAt.one_at HPV.out (by simp))
        have hBy := hBy.alloc hBy.size (.cells #[.int .i64 oi, .bool fr, .string (bst ob)] 93)
        have HR0 := hid (HR0.out.alloc (.cells #[.int .i64 oi, .bool fr, .string (bst ob)] 93))
        clear hK K hS
        have hS := hS5
        try simp only [putr]
        refine rdH [2] ?_
        refine rcH (fun K hK => ?_) AllReadyH.nil
        go_simp
        refine hK.out _ _ (hS) (fun hS2 => ?_)
        clear hK K hS
        have hS := hS2
        try simp only [putr]
        refine rdH [3] ?_
        refine rcH (fun K hK => ?_) AllReadyH.nil
        refine wp_append_g _ (.tmp 5) (.tmp 7) ePd gi_pd (by decide) rfl wq.heap.size (ns := L) rfl HR0.out rfl HN3.out (HL3.out _ hBy) (by have := HLL.out; simp; omega) (Below.size hBy) ?_
        intro A4 m4 c4 w4 hr4 hm4 hb4 hg4
        refine hK.out _ _ (Only.under hS hb4) (fun hS3 => ?_)
        rw [List.nil_append] at hr4
        have HR4 := hid hr4
        have hBy := Below.trans hBy hb4
        have HX5 := hid (HX5.out.grown hg4 (by simp) (fun b off e => by simp [Value.ownBlock] at e ⊢; omega))
        clear hr4 hb4 hg4 hm4
        clear hK K hS
        have hS := hS3
        try simp only [putr]
        refine rdH [6] ?_
        refine rcH (fun K hK => ?_) AllReadyH.nil
        refine wp_append_g _ (.tmp 8) (.tmp 10) ePd gi_pd (by decide) rfl wq.heap.size rfl HR4.out rfl rfl (ns := [o]) HX5.out (by have := HLL.out; simp; omega) (Below.size hBy) ?_
        intro A5 m5 c5 w5 hr5 hm5 hb5 hg5
        refine hK.out _ _ (Only.under hS hb5) (fun hS6 => ?_)
        have HR5 := hid hr5
        have hBy := Below.trans hBy hb5
        have HM5 := hid hm5
        have hD5 : Blk w5 w.heap.size 30 #[.int .i64 sz, .int .i64 lm, .slice A1 n1 c1, .slice A2 n2 c2, .slice A3 n3 c3] := HD.out.below hBy HD.out.lt
        have s4 := hD5.cell 4
        have s4f := hD5.free 4
        clear hr5 hb5 hg5 hm5 HX5 HR4 HR0
        clear hK K hS
        have hS := hS6
        try simp only [putr]
        refine stT 7 hS ?_
        try simp only [putr]
        refine rdH [8] ?_
        refine rcH (fun K hK => ?_) AllReadyH.nil
        go_simp
        refine hK.out _ _ (Only.set hS _) (fun hS8 => ?_)
        have HS8 := hid hS8
        clear hK K hS
        have hS := hS8
        try simp only [Act.put]
        refine wpAnyH_done (by kernel_rfl) ?_ _
        have HO6 := hid (show Only w.heap.size wq (w5.setCell ⟨w.heap.size, 4, none⟩ (.slice A5 m5 c5)) from HS8.out)
        have HD6 := hid (hD5.set 4 (.slice A5 m5 c5))
        have hne : (Value.slice A5 m5 c5).ownBlock ≠ some w.heap.size := fun e => by have := (HR5.out.2.lt _ e).1; have := HD.out.lt; omega
        have HR6 := hid (show GRow ePd 93 (w5.setCell ⟨w.heap.size, 4, none⟩ (.slice A5 m5 c5)) wq.heap.size A5 m5 c5 (L ++ [o]) from ⟨HR5.out.1, ownsRow_setCell_other HR5.out.2 hne _⟩)
        clear hD5 s4 s4f hne HR5 hS hS8 HS8 x4 x4w hBy p0 p1 p2 HL3 HB
        generalize w5.setCell ⟨w.heap.size, 4, none⟩ (.slice A5 m5 c5) = w6 at *
        go_wp2_with fail
        go_meet
        case rel => exact ⟨A5, m5, c5, HO6, HD6, HR6, HM5⟩
    refine rcH (fun K hK => ?_) ?_
    · skip
      go_simp
      refine hK.out _ _ (hS) (fun hS2 => ?_)
      clear hK K hS
      have hS := hS2
      try simp only [putr]
      refine rdH [0, 5] ?_
      refine rcH (fun K hK => ?_) ?_
      · skip
        go_simp
        refine hK.out _ _ (Only.alloc hS _) (fun hS0 => ?_)
        have HR0 := hid (show GRow ePd 93 (wq.drew.alloc (.cells #[] 93)) wq.heap.size (some ⟨wq.heap.size, 0, none⟩) 0 0 [] from GRow.empty wq.drew (rfl) (Nat.le_refl _))
        have hBy := hBy.alloc hBy.size (.cells #[] 93)
        clear hK K hS
        have hS := hS0
        try simp only [putr]
        refine rdH [3, 5] ?_
        refine rcH (fun K hK => ?_) ?_
        · skip
          refine wp_append_g _ (.tmp 5) (.tmp 7) ePd gi_pd (by decide) rfl wq.heap.size (ns := L) rfl HR0.out rfl HN3.out (HL3.out _ hBy) (by have := HLL.out; simp; omega) (Below.size hBy) ?_
          intro A4 m4 c4 w4 hr4 hm4 hb4 hg4
          refine hK.out _ _ (Only.under hS hb4) (fun hS3 => ?_)
          rw [List.nil_append] at hr4
          have HR4 := hid hr4
          have hBy := Below.trans hBy hb4
          clear hr4 hb4 hg4 hm4
          clear hK K hS
          have hS := hS3
          try simp only [putr]
          refine rdH [5] ?_
          refine rcH (fun K hK => ?_) AllReadyH.nil
          go_simp
          refine hK.out _ _ (Only.alloc hS _) (fun hS5 => ?_)
          have HX5 := hid (show GAt ePd (w4.alloc (.cells #[.int .i64 oi, .bool fr, .string (bst ob)] 93)) (w4.heap.size + 1) (some ⟨w4.heap.size, 0, none⟩) [o] from GAt.one_at HPV.out (rfl))
          have hBy := hBy.alloc hBy.size (.cells #[.int .i64 oi, .bool fr, .string (bst ob)] 93)
          have HR4 := hid (HR4.out.alloc (.cells #[.int .i64 oi, .bool fr, .string (bst ob)] 93))
          clear hK K hS
          have hS := hS5
          try simp only [putr]
          refine rdH [6] ?_
          refine rcH (fun K hK => ?_) AllReadyH.nil
          refine wp_append_g _ (.tmp 8) (.tmp 10) ePd gi_pd (by decide) rfl wq.heap.size rfl HR4.out rfl rfl (ns := [o]) HX5.out (by have := HLL.out; simp; omega) (Below.size hBy) ?_
          intro A5 m5 c5 w5 hr5 hm5 hb5 hg5
          refine hK.out _ _ (Only.under hS hb5) (fun hS6 => ?_)
          have HR5 := hid hr5
          have hBy := Below.trans hBy hb5
          have HM5 := hid hm5
          have hD5 : Blk w5 w.heap.size 30 #[.int .i64 sz, .int .i64 lm, .slice A1 n1 c1, .slice A2 n2 c2, .slice A3 n3 c3] := HD.out.below hBy HD.out.lt
          have s4 := hD5.cell 4
          have s4f := hD5.free 4
          clear hr5 hb5 hg5 hm5 HX5 HR4 HR0
          clear hK K hS
          have hS := hS6
          try simp only [putr]
          refine stT 7 hS ?_
          try simp only [putr]
          refine rdH [8] ?_
          refine rcH (fun K hK => ?_) AllReadyH.nil
          go_simp
          refine hK.out _ _ (Only.set hS _) (fun hS8 => ?_)
          have HS8 := hid hS8
          clear hK K hS
          have hS := hS8
          try simp only [Act.put]
          refine wpAnyH_done (by kernel_rfl) ?_ _
          have HO6 := hid (show Only w.heap.size wq (w5.setCell ⟨w.heap.size, 4, none⟩ (.slice A5 m5 c5)) from HS8.out)
          have HD6 := hid (hD5.set 4 (.slice A5 m5 c5))
          have hne : (Value.slice A5 m5 c5).ownBlock ≠ some w.heap.size := fun e => by have := (HR5.out.2.lt _ e).1; have := HD.out.lt; omega
          have HR6 := hid (show GRow ePd 93 (w5.setCell ⟨w.heap.size, 4, none⟩ (.slice A5 m5 c5)) wq.heap.size A5 m5 c5 (L ++ [o]) from ⟨HR5.out.1, ownsRow_setCell_other HR5.out.2 hne _⟩)
          clear hD5 s4 s4f hne HR5 hS hS8 HS8 x4 x4w hBy p0 p1 p2 HL3 HB
          generalize w5.setCell ⟨w.heap.size, 4, none⟩ (.slice A5 m5 c5) = w6 at *
          go_wp2_with fail
          go_meet
          case rel => exact ⟨A5, m5, c5, HO6, HD6, HR6, HM5⟩
        refine rcH (fun K hK => ?_) AllReadyH.nil
        · skip
          go_simp
          refine hK.out _ _ (Only.alloc hS _) (fun hS5 => ?_)
          have HX5 := hid (show GAt ePd ((wq.drew.alloc (.cells #[] 93)).alloc (.cells #[.int .i64 oi, .bool fr, .string (bst ob)] 93)) (wq.heap.size + 1 + 1) (some ⟨wq.heap.size + 1, 0, none⟩) [o] from GAt.one_at HPV.out (by simp))
          have hBy := hBy.alloc hBy.size (.cells #[.int .i64 oi, .bool fr, .string (bst ob)] 93)
          have HR0 := hid (HR0.out.alloc (.cells #[.int .i64 oi, .bool fr, .string (bst ob)] 93))
          clear hK K hS
          have hS := hS5
          try simp only [putr]
          refine rdH [3] ?_
          refine rcH (fun K hK => ?_) AllReadyH.nil
          refine wp_append_g _ (.tmp 5) (.tmp 7) ePd gi_pd (by decide) rfl wq.heap.size (ns := L) rfl HR0.out rfl HN3.out (HL3.out _ hBy) (by have := HLL.out; simp; omega) (Below.size hBy) ?_
          intro A4 m4 c4 w4 hr4 hm4 hb4 hg4
          refine hK.out _ _ (Only.under hS hb4) (fun hS3 => ?_)
          rw [List.nil_append] at hr4
          have HR4 := hid hr4
          have hBy := Below.trans hBy hb4
          have HX5 := hid (HX5.out.grown hg4 (by simp) (fun b off e => by simp [Value.ownBlock] at e ⊢; omega))
          clear hr4 hb4 hg4 hm4
          clear hK K hS
          have hS := hS3
          try simp only [putr]
          refine rdH [6] ?_
          refine rcH (fun K hK => ?_) AllReadyH.nil
          refine wp_append_g _ (.tmp 8) (.tmp 10) ePd gi_pd (by decide) rfl wq.heap.size rfl HR4.out rfl rfl (ns := [o]) HX5.out (by have := HLL.out; simp; omega) (Below.size hBy) ?_
          intro A5 m5 c5 w5 hr5 hm5 hb5 hg5
          refine hK.out _ _ (Only.under hS hb5) (fun hS6 => ?_)
          have HR5 := hid hr5
          have hBy := Below.trans hBy hb5
          have HM5 := hid hm5
          have hD5 : Blk w5 w.heap.size 30 #[.int .i64 sz, .int .i64 lm, .slice A1 n1 c1, .slice A2 n2 c2, .slice A3 n3 c3] := HD.out.below hBy HD.out.lt
          have s4 := hD5.cell 4
          have s4f := hD5.free 4
          clear hr5 hb5 hg5 hm5 HX5 HR4 HR0
          clear hK K hS
          have hS := hS6
          try simp only [putr]
          refine stT 7 hS ?_
          try simp only [putr]
          refine rdH [8] ?_
          refine rcH (fun K hK => ?_) AllReadyH.nil
          go_simp
          refine hK.out _ _ (Only.set hS _) (fun hS8 => ?_)
          have HS8 := hid hS8
          clear hK K hS
          have hS := hS8
          try simp only [Act.put]
          refine wpAnyH_done (by kernel_rfl) ?_ _
          have HO6 := hid (show Only w.heap.size wq (w5.setCell ⟨w.heap.size, 4, none⟩ (.slice A5 m5 c5)) from HS8.out)
          have HD6 := hid (hD5.set 4 (.slice A5 m5 c5))
          have hne : (Value.slice A5 m5 c5).ownBlock ≠ some w.heap.size := fun e => by have := (HR5.out.2.lt _ e).1; have := HD.out.lt; omega
          have HR6 := hid (show GRow ePd 93 (w5.setCell ⟨w.heap.size, 4, none⟩ (.slice A5 m5 c5)) wq.heap.size A5 m5 c5 (L ++ [o]) from ⟨HR5.out.1, ownsRow_setCell_other HR5.out.2 hne _⟩)
          clear hD5 s4 s4f hne HR5 hS hS8 HS8 x4 x4w hBy p0 p1 p2 HL3 HB
          generalize w5.setCell ⟨w.heap.size, 4, none⟩ (.slice A5 m5 c5) = w6 at *
          go_wp2_with fail
          go_meet
          case rel => exact ⟨A5, m5, c5, HO6, HD6, HR6, HM5⟩
      refine rcH (fun K hK => ?_) AllReadyH.nil
      · skip
        go_simp
        refine hK.out _ _ (Only.alloc hS _) (fun hS5 => ?_)
        have HX5 := hid (show GAt ePd (wq.drew.alloc (.cells #[.int .i64 oi, .bool fr, .string (bst ob)] 93)) (wq.heap.size + 1) (some ⟨wq.heap.size, 0, none⟩) [o] from GAt.one_at HPV.out (rfl))
        have hBy := hBy.alloc hBy.size (.cells #[.int .i64 oi, .bool fr, .string (bst ob)] 93)
        clear hK K hS
        have hS := hS5
        try simp only [putr]
        refine rdH [0] ?_
        refine rcH (fun K hK => ?_) AllReadyH.nil
        go_simp
        refine hK.out _ _ (Only.alloc hS _) (fun hS0 => ?_)
        have HR0 := hid (show GRow ePd 93 ((wq.drew.alloc (.cells #[.int .i64 oi, .bool fr, .string (bst ob)] 93)).alloc (.cells #[] 93)) wq.heap.size (some ⟨wq.heap.size + 1, 0, none⟩) 0 0 [] from GRow.empty (wq.drew.alloc (.cells #[.int .i64 oi, .bool fr, .string (bst ob)] 93)) (by simp) (by simp))
        have hBy := hBy.alloc hBy.size (.cells #[] 93)
        have HX5 := hid (HX5.out.below ((Below.refl _ _).alloc (by simp) (.cells #[] 93)))
        clear hK K hS
        have hS := hS0
        try simp only [putr]
        refine rdH [3] ?_
        refine rcH (fun K hK => ?_) AllReadyH.nil
        refine wp_append_g _ (.tmp 5) (.tmp 7) ePd gi_pd (by decide) rfl wq.heap.size (ns := L) rfl HR0.out rfl HN3.out (HL3.out _ hBy) (by have := HLL.out; simp; omega) (Below.size hBy) ?_
        intro A4 m4 c4 w4 hr4 hm4 hb4 hg4
        refine hK.out _ _ (Only.under hS hb4) (fun hS3 => ?_)
        rw [List.nil_append] at hr4
        have HR4 := hid hr4
        have hBy := Below.trans hBy hb4
        have HX5 := hid (HX5.out.grown hg4 (by simp) (fun b off e => by simp [Value.ownBlock] at e ⊢; omega))
        clear hr4 hb4 hg4 hm4
        clear hK K hS
        have hS := hS3
        try simp only [putr]
        refine rdH [6] ?_
        refine rcH (fun K hK => ?_) AllReadyH.nil
        refine wp_append_g _ (.tmp 8) (.tmp 10) ePd gi_pd (by decide) rfl wq.heap.size rfl HR4.out rfl rfl (ns := [o]) HX5.out (by have := HLL.out; simp; omega) (Below.size hBy) ?_
        intro A5 m5 c5 w5 hr5 hm5 hb5 hg5
        refine hK.out _ _ (Only.under hS hb5) (fun hS6 => ?_)
        have HR5 := hid hr5
        have hBy := Below.trans hBy hb5
        have HM5 := hid hm5
        have hD5 : Blk w5 w.heap.size 30 #[.int .i64 sz, .int .i64 lm, .slice A1 n1 c1, .slice A2 n2 c2, .slice A3 n3 c3] := HD.out.below hBy HD.out.lt
        have s4 := hD5.cell 4
        have s4f := hD5.free 4
        clear hr5 hb5 hg5 hm5 HX5 HR4 HR0
        clear hK K hS
        have hS := hS6
        try simp only [putr]
        refine stT 7 hS ?_
        try simp only [putr]
        refine rdH [8] ?_
        refine rcH (fun K hK => ?_) AllReadyH.nil
        go_simp
        refine hK.out _ _ (Only.set hS _) (fun hS8 => ?_)
        have HS8 := hid hS8
        clear hK K hS
        have hS := hS8
        try simp only [Act.put]
        refine wpAnyH_done (by kernel_rfl) ?_ _
        have HO6 := hid (show Only w.heap.size wq (w5.setCell ⟨w.heap.size, 4, none⟩ (.slice A5 m5 c5)) from HS8.out)
        have HD6 := hid (hD5.set 4 (.slice A5 m5 c5))
        have hne : (Value.slice A5 m5 c5).ownBlock ≠ some w.heap.size := fun e => by have := (HR5.out.2.lt _ e).1; have := HD.out.lt; omega
        have HR6 := hid (show GRow ePd 93 (w5.setCell ⟨w.heap.size, 4, none⟩ (.slice A5 m5 c5)) wq.heap.size A5 m5 c5 (L ++ [o]) from ⟨HR5.out.1, ownsRow_setCell_other HR5.out.2 hne _⟩)
        clear hD5 s4 s4f hne HR5 hS hS8 HS8 x4 x4w hBy p0 p1 p2 HL3 HB
        generalize w5.setCell ⟨w.heap.size, 4, none⟩ (.slice A5 m5 c5) = w6 at *
        go_wp2_with fail
        go_meet
        case rel => exact ⟨A5, m5, c5, HO6, HD6, HR6, HM5⟩
    refine rcH (fun K hK => ?_) AllReadyH.nil
    · skip
      go_simp
      refine hK.out _ _ (Only.alloc hS _) (fun hS5 => ?_)
      have HX5 := hid (show GAt ePd (wq.drew.alloc (.cells #[.int .i64 oi, .bool fr, .string (bst ob)] 93)) (wq.heap.size + 1) (some ⟨wq.heap.size, 0, none⟩) [o] from GAt.one_at HPV.out (rfl))
      have hBy := hBy.alloc hBy.size (.cells #[.int .i64 oi, .bool fr, .string (bst ob)] 93)
      clear hK K hS
      have hS := hS5
      try simp only [putr]
      refine rdH [0, 2] ?_
      refine rcH (fun K hK => ?_) ?_
      · skip
        go_simp
        refine hK.out _ _ (Only.alloc hS _) (fun hS0 => ?_)
        have HR0 := hid (show GRow ePd 93 ((wq.drew.alloc (.cells #[.int .i64 oi, .bool fr, .string (bst ob)] 93)).alloc (.cells #[] 93)) wq.heap.size (some ⟨wq.heap.size + 1, 0, none⟩) 0 0 [] from GRow.empty (wq.drew.alloc (.cells #[.int .i64 oi, .bool fr, .string (bst ob)] 93)) (by simp) (by simp))
        have hBy := hBy.alloc hBy.size (.cells #[] 93)
        have HX5 := hid (HX5.out.below ((Below.refl _ _).alloc (by simp) (.cells #[] 93)))
        clear hK K hS
        have hS := hS0
        try simp only [putr]
        refine rdH [2] ?_
        refine rcH (fun K hK => ?_) AllReadyH.nil
        go_simp
        refine hK.out _ _ (hS) (fun hS2 => ?_)
        clear hK K hS
        have hS := hS2
        try simp only [putr]
        refine rdH [3] ?_
        refine rcH (fun K hK => ?_) AllReadyH.nil
        refine wp_append_g _ (.tmp 5) (.tmp 7) ePd gi_pd (by decide) rfl wq.heap.size (ns := L) rfl HR0.out rfl HN3.out (HL3.out _ hBy) (by have := HLL.out; simp; omega) (Below.size hBy) ?_
        intro A4 m4 c4 w4 hr4 hm4 hb4 hg4
        refine hK.out _ _ (Only.under hS hb4) (fun hS3 => ?_)
        rw [List.nil_append] at hr4
        have HR4 := hid hr4
        have hBy := Below.trans hBy hb4
        have HX5 := hid (HX5.out.grown hg4 (by simp) (fun b off e => by simp [Value.ownBlock] at e ⊢; omega))
        clear hr4 hb4 hg4 hm4
        clear hK K hS
        have hS := hS3
        try simp only [putr]
        refine rdH [6] ?_
        refine rcH (fun K hK => ?_) AllReadyH.nil
        refine wp_append_g _ (.tmp 8) (.tmp 10) ePd gi_pd (by decide) rfl wq.heap.size rfl HR4.out rfl rfl (ns := [o]) HX5.out (by have := HLL.out; simp; omega) (Below.size hBy) ?_
        intro A5 m5 c5 w5 hr5 hm5 hb5 hg5
        refine hK.out _ _ (Only.under hS hb5) (fun hS6 => ?_)
        have HR5 := hid hr5
        have hBy := Below.trans hBy hb5
        have HM5 := hid hm5
        have hD5 : Blk w5 w.heap.size 30 #[.int .i64 sz, .int .i64 lm, .slice A1 n1 c1, .slice A2 n2 c2, .slice A3 n3 c3] := HD.out.below hBy HD.out.lt
        have s4 := hD5.cell 4
        have s4f := hD5.free 4
        clear hr5 hb5 hg5 hm5 HX5 HR4 HR0
        clear hK K hS
        have hS := hS6
        try simp only [putr]
        refine stT 7 hS ?_
        try simp only [putr]
        refine rdH [8] ?_
        refine rcH (fun K hK => ?_) AllReadyH.nil
        go_simp
        refine hK.out _ _ (Only.set hS _) (fun hS8 => ?_)
        have HS8 := hid hS8
        clear hK K hS
        have hS := hS8
        try simp only [Act.put]
        refine wpAnyH_done (by kernel_rfl) ?_ _
        have HO6 := hid (show Only w.heap.size wq (w5.setCell ⟨w.heap.size, 4, none⟩ (.slice A5 m5 c5)) from HS8.out)
        have HD6 := hid (hD5.set 4 (.slice A5 m5 c5))
        have hne : (Value.slice A5 m5 c5).ownBlock ≠ some w.heap.size := fun e => by have := (HR5.out.2.lt _ e).1; have := HD.out.lt; omega
        have HR6 := hid (show GRow ePd 93 (w5.setCell ⟨w.heap.size, 4, none⟩ (.slice A5 m5 c5)) wq.heap.size A5 m5 c5 (L ++ [o]) from ⟨HR5.out.1, ownsRow_setCell_other HR5.out.2 hne _⟩)
        clear hD5 s4 s4f hne HR5 hS hS8 HS8 x4 x4w hBy p0 p1 p2 HL3 HB
        generalize w5.setCell ⟨w.heap.size, 4, none⟩ (.slice A5 m5 c5) = w6 at *
        go_wp2_with fail
        go_meet
        case rel => exact ⟨A5, m5, c5, HO6, HD6, HR6, HM5⟩
      refine rcH (fun K hK => ?_) AllReadyH.nil
      · skip
        go_simp
        refine hK.out _ _ (hS) (fun hS2 => ?_)
        clear hK K hS
        have hS := hS2
        try simp only [putr]
        refine rdH [0] ?_
        refine rcH (fun K hK => ?_) AllReadyH.nil
        go_simp
        refine hK.out _ _ (Only.alloc hS _) (fun hS0 => ?_)
        have HR0 := hid (show GRow ePd 93 ((wq.drew.alloc (.cells #[.int .i64 oi, .bool fr, .string (bst ob)] 93)).alloc (.cells #[] 93)) wq.heap.size (some ⟨wq.heap.size + 1, 0, none⟩) 0 0 [] from GRow.empty (wq.drew.alloc (.cells #[.int .i64 oi, .bool fr, .string (bst ob)] 93)) (by simp) (by simp))
        have hBy := hBy.alloc hBy.size (.cells #[] 93)
        have HX5 := hid (HX5.out.below ((Below.refl _ _).alloc (by simp) (.cells #[] 93)))
        clear hK K hS
        have hS := hS0
        try simp only [putr]
        refine rdH [3] ?_
        refine rcH (fun K hK => ?_) AllReadyH.nil
        refine wp_append_g _ (.tmp 5) (.tmp 7) ePd gi_pd (by decide) rfl wq.heap.size (ns := L) rfl HR0.out rfl HN3.out (HL3.out _ hBy) (by have := HLL.out; simp; omega) (Below.size hBy) ?_
        intro A4 m4 c4 w4 hr4 hm4 hb4 hg4
        refine hK.out _ _ (Only.under hS hb4) (fun hS3 => ?_)
        rw [List.nil_append] at hr4
        have HR4 := hid hr4
        have hBy := Below.trans hBy hb4
        have HX5 := hid (HX5.out.grown hg4 (by simp) (fun b off e => by simp [Value.ownBlock] at e ⊢; omega))
        clear hr4 hb4 hg4 hm4
        clear hK K hS
        have hS := hS3
        try simp only [putr]
        refine rdH [6] ?_
        refine rcH (fun K hK => ?_) AllReadyH.nil
        refine wp_append_g _ (.tmp 8) (.tmp 10) ePd gi_pd (by decide) rfl wq.heap.size rfl HR4.out rfl rfl (ns := [o]) HX5.out (by have := HLL.out; simp; omega) (Below.size hBy) ?_
        intro A5 m5 c5 w5 hr5 hm5 hb5 hg5
        refine hK.out _ _ (Only.under hS hb5) (fun hS6 => ?_)
        have HR5 := hid hr5
        have hBy := Below.trans hBy hb5
        have HM5 := hid hm5
        have hD5 : Blk w5 w.heap.size 30 #[.int .i64 sz, .int .i64 lm, .slice A1 n1 c1, .slice A2 n2 c2, .slice A3 n3 c3] := HD.out.below hBy HD.out.lt
        have s4 := hD5.cell 4
        have s4f := hD5.free 4
        clear hr5 hb5 hg5 hm5 HX5 HR4 HR0
        clear hK K hS
        have hS := hS6
        try simp only [putr]
        refine stT 7 hS ?_
        try simp only [putr]
        refine rdH [8] ?_
        refine rcH (fun K hK => ?_) AllReadyH.nil
        go_simp
        refine hK.out _ _ (Only.set hS _) (fun hS8 => ?_)
        have HS8 := hid hS8
        clear hK K hS
        have hS := hS8
        try simp only [Act.put]
        refine wpAnyH_done (by kernel_rfl) ?_ _
        have HO6 := hid (show Only w.heap.size wq (w5.setCell ⟨w.heap.size, 4, none⟩ (.slice A5 m5 c5)) from HS8.out)
        have HD6 := hid (hD5.set 4 (.slice A5 m5 c5))
        have hne : (Value.slice A5 m5 c5).ownBlock ≠ some w.heap.size := fun e => by have := (HR5.out.2.lt _ e).1; have := HD.out.lt; omega
        have HR6 := hid (show GRow ePd 93 (w5.setCell ⟨w.heap.size, 4, none⟩ (.slice A5 m5 c5)) wq.heap.size A5 m5 c5 (L ++ [o]) from ⟨HR5.out.1, ownsRow_setCell_other HR5.out.2 hne _⟩)
        clear hD5 s4 s4f hne HR5 hS hS8 HS8 x4 x4w hBy p0 p1 p2 HL3 HB
        generalize w5.setCell ⟨w.heap.size, 4, none⟩ (.slice A5 m5 c5) = w6 at *
        go_wp2_with fail
        go_meet
        case rel => exact ⟨A5, m5, c5, HO6, HD6, HR6, HM5⟩
  case rest =>
    obtain ⟨A5, m5, c5, HO5, HD5, HR5, HM5⟩ := hcut
    have HP5 := hid (HP.out.grown HO5.out (by simp))
    have HZ5 := hid (HZ.out.grown HO5.out (by simp; omega))
    have HB5 := hid (show Below w.heap.size w wc from HB.out.trans (HO5.out.below (Nat.le_refl _) HB.out.size))
    have HQS := hid HZ.out.lt
    clear HD HP HZ HL3
    have d2 := HD5.out.cell 2
    have d2f := HD5.out.free 2
    have p0 := HP5.out.cell 0
    have p1 := HP5.out.cell 1
    have p2 := HP5.out.cell 2
    go_wp2_with fail
    go_fit (HDN.out wc HB5.out)
    rintro e w7 ⟨A7, m7, c7, rfl, hr7, hb7⟩
    have HR7 := hid hr7
    have HB7 := hid (HB5.out.trans (hb7.mono HB5.out.size))
    have HD7 := hid (HD5.out.below hb7 HD5.out.lt)
    have HZ7 := hid (HZ5.out.below hb7 HZ5.out.lt)
    have HL7 := hid (HR5.out.below hb7)
    have HCS := hid HZ5.out.lt
    clear hr7 hb7 d2 d2f p0 p1 p2 HD5 HZ5 HP5 HR5 HDN
    have d0 := HD7.out.cell 0
    have d1 := HD7.out.cell 1
    have d2 := HD7.out.cell 2
    have d3 := HD7.out.cell 3
    have d4 := HD7.out.cell 4
    have d2f := HD7.out.free 2
    have z0 := HZ7.out.cell 0
    have z1 := HZ7.out.cell 1
    have z2 := HZ7.out.cell 2
    have z3 := HZ7.out.cell 3
    have z4 := HZ7.out.cell 4
    have f0 := HZ7.out.free 0
    have f1 := HZ7.out.free 1
    have f2 := HZ7.out.free 2
    have f3 := HZ7.out.free 3
    have f4 := HZ7.out.free 4
    go_wp2_with fail
    refine bodyPost_ret (v := .agg #[.int .i64 sz, .int .i64 lm, .slice A7 m7 c7, .slice A2 n2 c2, .slice A5 m5 c5]) (by simp [results, Tryd.results41, go_sem, *]) rfl ⟨_, rfl, ?_, ?_⟩
    · have hb := (((((HB7.out.setCell (p := ⟨w.heap.size, 2, none⟩) (Nat.le_refl _) (.slice A7 m7 c7)).setCell (p := ⟨w.heap.size + 1 + 1, 0, none⟩) (by simp; omega) (.int .i64 sz)).setCell (p := ⟨w.heap.size + 1 + 1, 1, none⟩) (by simp; omega) (.int .i64 lm)).setCell (p := ⟨w.heap.size + 1 + 1, 2, none⟩) (by simp; omega) (.slice A7 m7 c7)).setCell (p := ⟨w.heap.size + 1 + 1, 3, none⟩) (by simp; omega) (.slice A2 n2 c2)).setCell (p := ⟨w.heap.size + 1 + 1, 4, none⟩) (by simp; omega) (.slice A5 m5 c5)
      have hcs := HCS.out
      have hqs := HQS.out
      have h1 : w.heap.size < wc.heap.size := by omega
      have h2 : w.heap.size < wq.heap.size := by omega
      have r7 := (((((HR7.out.set (p := ⟨w.heap.size, 2, none⟩) h1 (.slice A7 m7 c7)).set (p := ⟨w.heap.size + 1 + 1, 0, none⟩) hcs (.int .i64 sz)).set (p := ⟨w.heap.size + 1 + 1, 1, none⟩) hcs (.int .i64 lm)).set (p := ⟨w.heap.size + 1 + 1, 2, none⟩) hcs (.slice A7 m7 c7)).set (p := ⟨w.heap.size + 1 + 1, 3, none⟩) hcs (.slice A2 n2 c2)).set (p := ⟨w.heap.size + 1 + 1, 4, none⟩) hcs (.slice A5 m5 c5)
      have l7 := (((((HL7.out.set (p := ⟨w.heap.size, 2, none⟩) h2 (.slice A7 m7 c7)).set (p := ⟨w.heap.size + 1 + 1, 0, none⟩) hqs (.int .i64 sz)).set (p := ⟨w.heap.size + 1 + 1, 1, none⟩) hqs (.int .i64 lm)).set (p := ⟨w.heap.size + 1 + 1, 2, none⟩) hqs (.slice A7 m7 c7)).set (p := ⟨w.heap.size + 1 + 1, 3, none⟩) hqs (.slice A2 n2 c2)).set (p := ⟨w.heap.size + 1 + 1, 4, none⟩) hqs (.slice A5 m5 c5)
      obtain ⟨hsz, hlm, hle⟩ := HSZ.out
      obtain rfl : m7 = (doneS V o (ob.length : Int)).length := HR7.out.1
      obtain rfl : m5 = (L ++ [o]).length := HL7.out.1
      obtain rfl : n2 = G.length := HN2.out
      subst hsz
      exact ⟨⟨doneS V o (ob.length : Int), G, A7, A2, A5, c7, c2, c5, rfl, HV.out, HKP.out.1, r7.at_, HKP.out.2.1 _ hb, l7.at_, r7.cap, HKP.out.2.2, l7.cap, r7.in_.weak (fun k hk => .inr (by omega)), HI2.out.weak (fun k hk => .inl hk), l7.in_.weak (fun k hk => .inr (by omega))⟩, HPD.out, hle⟩
    · exact (((((HB7.out.setCell (p := ⟨w.heap.size, 2, none⟩) (Nat.le_refl _) _).setCell (p := ⟨w.heap.size + 1 + 1, 0, none⟩) (by simp; omega) _).setCell (p := ⟨w.heap.size + 1 + 1, 1, none⟩) (by simp; omega) _).setCell (p := ⟨w.heap.size + 1 + 1, 2, none⟩) (by simp; omega) _).setCell (p := ⟨w.heap.size + 1 + 1, 3, none⟩) (by simp; omega) _).setCell (p := ⟨w.heap.size + 1 + 1, 4, none⟩) (by simp; omega) _

end Go.Proofs.YtngclmjefadokaaDoor

namespace Go.Proofs.YtngclmjefadokaaDoor
open Go Go.RowKit

theorem keep5 {w : World} {g k : Nat} {u0 u1 u2 u3 u4 : Value} (h : k ≠ g) : (((((w.setCell ⟨g, 0, none⟩ u0).setCell ⟨g, 1, none⟩ u1).setCell ⟨g, 2, none⟩ u2).setCell ⟨g, 3, none⟩ u3).setCell ⟨g, 4, none⟩ u4).heap[k]? = w.heap[k]? := by
  rw [Below.heap_setCell _ _ _ _ h, Below.heap_setCell _ _ _ _ h, Below.heap_setCell _ _ _ _ h, Below.heap_setCell _ _ _ _ h, Below.heap_setCell _ _ _ _ h]

set_option maxHeartbeats 8000000 in
set_option maxRecDepth 100000 in
theorem write6_any {P : Nat → Prop} {w : World} {v : Value} {s : Dk} (i : Int) {b : List UInt8} (h : D6 P w v s) (hp : s.pend.length ≤ 1000000) :
    Calls Tryd.prog 29 #[v, .int .i64 i, .string (bst b)] w fun e w' =>
      ∃ v', e = .returned (.tuple #[v', .int .i64 (s.why i b : Int)]) ∧ D6 (fun k => P k ∨ w.heap.size ≤ k) w' v' (s.write i b) ∧ Below w.heap.size w w' := by
  obtain ⟨V, G, A1, A2, A3, c1, c2, c3, rfl, hV, hG, hA1, hA2, hA3, hc1, hc2, hc3, _⟩ := h.ex
  have hsz := h.size
  have hVl := hV.le
  have HFI := hid (fun (W : World) (hW : Below w.heap.size w W) => find6_any (c := c1) i (hA1.below hW) rfl (by omega))
  rw [hV.is] at HFI
  have hused : s.used = V.length := hV.len.symm
  have HD6 := hid h
  have zb := bst_size b
  have e1 : applyOp s.view ⟨i, some b⟩ (((some b).getD []).length : Int) = upd s.view i (some b) := by unfold applyOp torn; simp
  have HWR := hid (show s.write i b = if s.why i b = 0 then { s with view := upd s.view i (some b), pend := s.pend ++ [⟨i, some b⟩] } else s from rfl)
  have HPUT := hid (fun (h0 : 0 ≤ i) (h1 : i < (s.size : Int)) (h2 : b.length ≤ 512) (W : World) (hW : Below w.heap.size w W) => put6_any (o := ⟨i, some b⟩) (h.bound.step hW) h0 h1 (fun c hc => by injection hc with hc; rw [← hc]; exact h2) hp)
  dsimp only at HPUT
  rw [e1] at HPUT
  obtain ⟨s2, hs2⟩ : ∃ s2 : Dk, s2 = { s with view := upd s.view i (some b), pend := s.pend ++ [⟨i, some b⟩] } := ⟨_, rfl⟩
  rw [← hs2] at HPUT HWR
  clear hs2 e1
  obtain ⟨n3, hn3⟩ : ∃ n3, n3 = s.pend.length := ⟨_, rfl⟩
  rw [← hn3] at HD6 HPUT ⊢
  obtain ⟨n1, hn1⟩ : ∃ n1, n1 = V.length := ⟨_, rfl⟩
  rw [← hn1] at HFI HD6 HPUT hused hVl ⊢
  generalize G.length = n2 at *
  have hs0 : (0 : Int) ≤ (s.size : Int) := by omega
  obtain ⟨sz, hsz'⟩ : ∃ sz : Int, sz = (s.size : Int) := ⟨_, rfl⟩
  obtain ⟨lm, hlm⟩ : ∃ lm : Int, lm = s.limit := ⟨_, rfl⟩
  rw [← hsz', ← hlm] at HD6 HPUT ⊢
  have HSZ := hid hsz'
  have HLM := hid hlm
  have HUS := hid hused
  clear hn3 hn1 hV hG hA1 hA2 hA3 hc1 hc2 hc3 h hp
  have HB1 := hid (show Below w.heap.size w ((w.alloc (.cells #[.int .i64 sz, .int .i64 lm, .slice A1 n1 c1, .slice A2 n2 c2, .slice A3 n3 c3] 30)).alloc (.cells #[.int .i64 0, .int .i64 0, .slice none 0 0, .slice none 0 0, .slice none 0 0] 30)) from ((Below.refl _ _).alloc (Nat.le_refl _) _).alloc (by simp) _)
  have HD1 := hid (show Blk ((w.alloc (.cells #[.int .i64 sz, .int .i64 lm, .slice A1 n1 c1, .slice A2 n2 c2, .slice A3 n3 c3] 30)).alloc (.cells #[.int .i64 0, .int .i64 0, .slice none 0 0, .slice none 0 0, .slice none 0 0] 30)) w.heap.size 30 #[.int .i64 sz, .int .i64 lm, .slice A1 n1 c1, .slice A2 n2 c2, .slice A3 n3 c3] from (Blk.new w _ _).alloc _)
  have hZ := Blk.new (w.alloc (.cells #[.int .i64 sz, .int .i64 lm, .slice A1 n1 c1, .slice A2 n2 c2, .slice A3 n3 c3] 30)) 30 #[.int .i64 0, .int .i64 0, .slice none 0 0, .slice none 0 0, .slice none 0 0]
  rw [show (w.alloc (.cells #[.int .i64 sz, .int .i64 lm, .slice A1 n1 c1, .slice A2 n2 c2, .slice A3 n3 c3] 30)).heap.size = w.heap.size + 1 by simp] at hZ
  have HZ1 := hid hZ
  clear hZ
  have HWHY := hid (show s.why i b = if i < 0 ∨ (s.size : Int) ≤ i then 61 else if 512 < b.length then 62 else if s.view i = none ∧ s.limit ≤ (s.used : Int) then 63 else 0 from rfl)
  generalize s.write i b = s' at *
  generalize s.why i b = wy at *
  have hwy := HWHY.out
  have hwr := HWR.out
  clear HWHY HWR
  rw [← hsz', ← hlm, hused] at hwy
  clear hsz' hlm hused hsz
  by_cases h0 : i < 0
  · rw [if_pos (.inl h0)] at hwy
    subst hwy
    rw [if_neg (by decide)] at hwr
    subst hwr
    go_enter Tryd.func29, Tryd.ntmps29
    go_upto_region 1 with fail
    generalize (w.alloc (.cells #[.int .i64 sz, .int .i64 lm, .slice A1 n1 c1, .slice A2 n2 c2, .slice A3 n3 c3] 30)).alloc (.cells #[.int .i64 0, .int .i64 0, .slice none 0 0, .slice none 0 0, .slice none 0 0] 30) = w1 at *
    have d0 := HD1.out.cell 0
    have d1 := HD1.out.cell 1
    have d2 := HD1.out.cell 2
    have d3 := HD1.out.cell 3
    have d4 := HD1.out.cell 4
    have z0 := HZ1.out.cell 0
    have f0 := HZ1.out.free 0
    have z1 := HZ1.out.cell 1
    have f1 := HZ1.out.free 1
    have z2 := HZ1.out.cell 2
    have f2 := HZ1.out.free 2
    have z3 := HZ1.out.cell 3
    have f3 := HZ1.out.free 3
    have z4 := HZ1.out.cell 4
    have f4 := HZ1.out.free 4
    go_wp2_with fail
    refine bodyPost_ret (v := .tuple #[.agg #[.int .i64 sz, .int .i64 lm, .slice A1 n1 c1, .slice A2 n2 c2, .slice A3 n3 c3], .int .i64 61]) (by simp [results, Tryd.results29, go_sem, *]) rfl ⟨_, rfl, ?_, ?_⟩
    · exact (HD6.out.step (((((HB1.out.setCell (p := ⟨w.heap.size + 1, 0, none⟩) (Nat.le_succ _) _).setCell (p := ⟨w.heap.size + 1, 1, none⟩) (Nat.le_succ _) _).setCell (p := ⟨w.heap.size + 1, 2, none⟩) (Nat.le_succ _) _).setCell (p := ⟨w.heap.size + 1, 3, none⟩) (Nat.le_succ _) _).setCell (p := ⟨w.heap.size + 1, 4, none⟩) (Nat.le_succ _) _)).weak fun _ hk => .inl hk
    · exact ((((HB1.out.setCell (p := ⟨w.heap.size + 1, 0, none⟩) (Nat.le_succ _) _).setCell (p := ⟨w.heap.size + 1, 1, none⟩) (Nat.le_succ _) _).setCell (p := ⟨w.heap.size + 1, 2, none⟩) (Nat.le_succ _) _).setCell (p := ⟨w.heap.size + 1, 3, none⟩) (Nat.le_succ _) _).setCell (p := ⟨w.heap.size + 1, 4, none⟩) (Nat.le_succ _) _
  by_cases h1 : sz ≤ i
  · rw [if_pos (.inr h1)] at hwy
    subst hwy
    rw [if_neg (by decide)] at hwr
    subst hwr
    go_enter Tryd.func29, Tryd.ntmps29
    go_upto_region 1 with fail
    generalize (w.alloc (.cells #[.int .i64 sz, .int .i64 lm, .slice A1 n1 c1, .slice A2 n2 c2, .slice A3 n3 c3] 30)).alloc (.cells #[.int .i64 0, .int .i64 0, .slice none 0 0, .slice none 0 0, .slice none 0 0] 30) = w1 at *
    have d0 := HD1.out.cell 0
    have d1 := HD1.out.cell 1
    have d2 := HD1.out.cell 2
    have d3 := HD1.out.cell 3
    have d4 := HD1.out.cell 4
    have z0 := HZ1.out.cell 0
    have f0 := HZ1.out.free 0
    have z1 := HZ1.out.cell 1
    have f1 := HZ1.out.free 1
    have z2 := HZ1.out.cell 2
    have f2 := HZ1.out.free 2
    have z3 := HZ1.out.cell 3
    have f3 := HZ1.out.free 3
    have z4 := HZ1.out.cell 4
    have f4 := HZ1.out.free 4
    go_wp2_with fail
    refine bodyPost_ret (v := .tuple #[.agg #[.int .i64 sz, .int .i64 lm, .slice A1 n1 c1, .slice A2 n2 c2, .slice A3 n3 c3], .int .i64 61]) (by simp [results, Tryd.results29, go_sem, *]) rfl ⟨_, rfl, ?_, ?_⟩
    · exact (HD6.out.step (((((HB1.out.setCell (p := ⟨w.heap.size + 1, 0, none⟩) (Nat.le_succ _) _).setCell (p := ⟨w.heap.size + 1, 1, none⟩) (Nat.le_succ _) _).setCell (p := ⟨w.heap.size + 1, 2, none⟩) (Nat.le_succ _) _).setCell (p := ⟨w.heap.size + 1, 3, none⟩) (Nat.le_succ _) _).setCell (p := ⟨w.heap.size + 1, 4, none⟩) (Nat.le_succ _) _)).weak fun _ hk => .inl hk
    · exact ((((HB1.out.setCell (p := ⟨w.heap.size + 1, 0, none⟩) (Nat.le_succ _) _).setCell (p := ⟨w.heap.size + 1, 1, none⟩) (Nat.le_succ _) _).setCell (p := ⟨w.heap.size + 1, 2, none⟩) (Nat.le_succ _) _).setCell (p := ⟨w.heap.size + 1, 3, none⟩) (Nat.le_succ _) _).setCell (p := ⟨w.heap.size + 1, 4, none⟩) (Nat.le_succ _) _
  rw [if_neg (by omega)] at hwy
  have h0' : 0 ≤ i := by omega
  have h1' : i < sz := by omega
  by_cases h2 : 512 < b.length
  · rw [if_pos h2] at hwy
    subst hwy
    rw [if_neg (by decide)] at hwr
    subst hwr
    go_enter Tryd.func29, Tryd.ntmps29
    go_upto_region 1 with fail
    generalize (w.alloc (.cells #[.int .i64 sz, .int .i64 lm, .slice A1 n1 c1, .slice A2 n2 c2, .slice A3 n3 c3] 30)).alloc (.cells #[.int .i64 0, .int .i64 0, .slice none 0 0, .slice none 0 0, .slice none 0 0] 30) = w1 at *
    have d0 := HD1.out.cell 0
    have d1 := HD1.out.cell 1
    have d2 := HD1.out.cell 2
    have d3 := HD1.out.cell 3
    have d4 := HD1.out.cell 4
    have z0 := HZ1.out.cell 0
    have f0 := HZ1.out.free 0
    have z1 := HZ1.out.cell 1
    have f1 := HZ1.out.free 1
    have z2 := HZ1.out.cell 2
    have f2 := HZ1.out.free 2
    have z3 := HZ1.out.cell 3
    have f3 := HZ1.out.free 3
    have z4 := HZ1.out.cell 4
    have f4 := HZ1.out.free 4
    go_wp2_with fail
    refine bodyPost_ret (v := .tuple #[.agg #[.int .i64 sz, .int .i64 lm, .slice A1 n1 c1, .slice A2 n2 c2, .slice A3 n3 c3], .int .i64 62]) (by simp [results, Tryd.results29, go_sem, *]) rfl ⟨_, rfl, ?_, ?_⟩
    · exact (HD6.out.step (((((HB1.out.setCell (p := ⟨w.heap.size + 1, 0, none⟩) (Nat.le_succ _) _).setCell (p := ⟨w.heap.size + 1, 1, none⟩) (Nat.le_succ _) _).setCell (p := ⟨w.heap.size + 1, 2, none⟩) (Nat.le_succ _) _).setCell (p := ⟨w.heap.size + 1, 3, none⟩) (Nat.le_succ _) _).setCell (p := ⟨w.heap.size + 1, 4, none⟩) (Nat.le_succ _) _)).weak fun _ hk => .inl hk
    · exact ((((HB1.out.setCell (p := ⟨w.heap.size + 1, 0, none⟩) (Nat.le_succ _) _).setCell (p := ⟨w.heap.size + 1, 1, none⟩) (Nat.le_succ _) _).setCell (p := ⟨w.heap.size + 1, 2, none⟩) (Nat.le_succ _) _).setCell (p := ⟨w.heap.size + 1, 3, none⟩) (Nat.le_succ _) _).setCell (p := ⟨w.heap.size + 1, 4, none⟩) (Nat.le_succ _) _
  rw [if_neg h2] at hwy
  have h2' : b.length ≤ 512 := by omega
  have HPU := hid (HPUT.out h0' h1' h2')
  cases hv : s.view i with
  | none =>
    rw [hv] at HFI hwy
    have hso : (none : Option (List UInt8)).isSome = false := rfl
    rw [hso] at HFI
    by_cases h3 : lm ≤ (n1 : Int)
    · rw [if_pos ⟨rfl, h3⟩] at hwy
      subst hwy
      rw [if_neg (by decide)] at hwr
      subst hwr
      have h3' : decide ((n1 : Int) ≥ lm) = true := by simpa using h3
      go_enter Tryd.func29, Tryd.ntmps29
      go_upto_region 1 with fail
      generalize (w.alloc (.cells #[.int .i64 sz, .int .i64 lm, .slice A1 n1 c1, .slice A2 n2 c2, .slice A3 n3 c3] 30)).alloc (.cells #[.int .i64 0, .int .i64 0, .slice none 0 0, .slice none 0 0, .slice none 0 0] 30) = w1 at *
      have d0 := HD1.out.cell 0
      have d1 := HD1.out.cell 1
      have d2 := HD1.out.cell 2
      have d3 := HD1.out.cell 3
      have d4 := HD1.out.cell 4
      have z0 := HZ1.out.cell 0
      have f0 := HZ1.out.free 0
      have z1 := HZ1.out.cell 1
      have f1 := HZ1.out.free 1
      have z2 := HZ1.out.cell 2
      have f2 := HZ1.out.free 2
      have z3 := HZ1.out.cell 3
      have f3 := HZ1.out.free 3
      have z4 := HZ1.out.cell 4
      have f4 := HZ1.out.free 4
      go_wp2_with fail
      go_fit (HFI.out w1 HB1.out)
      rintro e w2 ⟨rfl, rfl⟩
      go_wp2_with fail
      refine bodyPost_ret (v := .tuple #[.agg #[.int .i64 sz, .int .i64 lm, .slice A1 n1 c1, .slice A2 n2 c2, .slice A3 n3 c3], .int .i64 63]) (by simp [results, Tryd.results29, go_sem, *]) rfl ⟨_, rfl, ?_, ?_⟩
      · exact (HD6.out.step (((((HB1.out.setCell (p := ⟨w.heap.size + 1, 0, none⟩) (Nat.le_succ _) _).setCell (p := ⟨w.heap.size + 1, 1, none⟩) (Nat.le_succ _) _).setCell (p := ⟨w.heap.size + 1, 2, none⟩) (Nat.le_succ _) _).setCell (p := ⟨w.heap.size + 1, 3, none⟩) (Nat.le_succ _) _).setCell (p := ⟨w.heap.size + 1, 4, none⟩) (Nat.le_succ _) _)).weak fun _ hk => .inl hk
      · exact ((((HB1.out.setCell (p := ⟨w.heap.size + 1, 0, none⟩) (Nat.le_succ _) _).setCell (p := ⟨w.heap.size + 1, 1, none⟩) (Nat.le_succ _) _).setCell (p := ⟨w.heap.size + 1, 2, none⟩) (Nat.le_succ _) _).setCell (p := ⟨w.heap.size + 1, 3, none⟩) (Nat.le_succ _) _).setCell (p := ⟨w.heap.size + 1, 4, none⟩) (Nat.le_succ _) _
    · rw [if_neg (fun h => h3 h.2)] at hwy
      subst hwy
      rw [if_pos rfl] at hwr
      subst hwr
      have h3' : decide ((n1 : Int) ≥ lm) = false := by simpa using h3
      go_enter Tryd.func29, Tryd.ntmps29
      go_upto_region 1 with fail
      generalize (w.alloc (.cells #[.int .i64 sz, .int .i64 lm, .slice A1 n1 c1, .slice A2 n2 c2, .slice A3 n3 c3] 30)).alloc (.cells #[.int .i64 0, .int .i64 0, .slice none 0 0, .slice none 0 0, .slice none 0 0] 30) = w1 at *
      have d0 := HD1.out.cell 0
      have d1 := HD1.out.cell 1
      have d2 := HD1.out.cell 2
      have d3 := HD1.out.cell 3
      have d4 := HD1.out.cell 4
      have z0 := HZ1.out.cell 0
      have f0 := HZ1.out.free 0
      have z1 := HZ1.out.cell 1
      have f1 := HZ1.out.free 1
      have z2 := HZ1.out.cell 2
      have f2 := HZ1.out.free 2
      have z3 := HZ1.out.cell 3
      have f3 := HZ1.out.free 3
      have z4 := HZ1.out.cell 4
      have f4 := HZ1.out.free 4
      go_wp2_with fail
      go_fit (HFI.out w1 HB1.out)
      rintro e w2 ⟨rfl, rfl⟩
      go_wp2_with fail
      go_fit (HPU.out w1 HB1.out)
      rintro e w2 ⟨v', rfl, hd2, hb2⟩
      obtain ⟨sz', lm', A1', A2', A3', n1', n2', n3', c1', c2', c3', rfl⟩ := hd2.shape
      have HD2 := hid hd2
      have HB2 := hid (HB1.out.trans (hb2.mono HB1.out.size))
      have HZ2 := hid (HZ1.out.below hb2 HZ1.out.lt)
      have hzl := HZ1.out.lt
      clear hd2 hb2 d0 d1 d2 d3 d4 z0 z1 z2 z3 z4 f0 f1 f2 f3 f4 HD1 HZ1
      have z0 := HZ2.out.cell 0
      have f0 := HZ2.out.free 0
      have z1 := HZ2.out.cell 1
      have f1 := HZ2.out.free 1
      have z2 := HZ2.out.cell 2
      have f2 := HZ2.out.free 2
      have z3 := HZ2.out.cell 3
      have f3 := HZ2.out.free 3
      have z4 := HZ2.out.cell 4
      have f4 := HZ2.out.free 4
      go_wp2_with fail
      refine bodyPost_ret (v := .tuple #[.agg #[.int .i64 sz', .int .i64 lm', .slice A1' n1' c1', .slice A2' n2' c2', .slice A3' n3' c3'], .int .i64 0]) (by simp [results, Tryd.results29, go_sem, *]) rfl ⟨_, rfl, ?_, ?_⟩
      · refine D6.weak (P := fun k => (P k ∧ k < w.heap.size) ∨ w1.heap.size ≤ k) (HD2.out.keep (by simp) (fun k hk => keep5 (g := w.heap.size + 1) ?_)) (fun k hk => ?_)
        · rcases hk with hk | hk <;> omega
        · rcases hk with hk | hk
          · exact .inl hk.1
          · exact .inr (by omega)
      · exact ((((HB2.out.setCell (p := ⟨w.heap.size + 1, 0, none⟩) (Nat.le_succ _) _).setCell (p := ⟨w.heap.size + 1, 1, none⟩) (Nat.le_succ _) _).setCell (p := ⟨w.heap.size + 1, 2, none⟩) (Nat.le_succ _) _).setCell (p := ⟨w.heap.size + 1, 3, none⟩) (Nat.le_succ _) _).setCell (p := ⟨w.heap.size + 1, 4, none⟩) (Nat.le_succ _) _
  | some x =>
    rw [hv] at HFI hwy
    have hso : (some x).isSome = true := rfl
    rw [hso] at HFI
    rw [if_neg (fun h => by cases h.1)] at hwy
    subst hwy
    rw [if_pos rfl] at hwr
    subst hwr
    have hskip : True := trivial
    go_enter Tryd.func29, Tryd.ntmps29
    go_upto_region 1 with fail
    generalize (w.alloc (.cells #[.int .i64 sz, .int .i64 lm, .slice A1 n1 c1, .slice A2 n2 c2, .slice A3 n3 c3] 30)).alloc (.cells #[.int .i64 0, .int .i64 0, .slice none 0 0, .slice none 0 0, .slice none 0 0] 30) = w1 at *
    have d0 := HD1.out.cell 0
    have d1 := HD1.out.cell 1
    have d2 := HD1.out.cell 2
    have d3 := HD1.out.cell 3
    have d4 := HD1.out.cell 4
    have z0 := HZ1.out.cell 0
    have f0 := HZ1.out.free 0
    have z1 := HZ1.out.cell 1
    have f1 := HZ1.out.free 1
    have z2 := HZ1.out.cell 2
    have f2 := HZ1.out.free 2
    have z3 := HZ1.out.cell 3
    have f3 := HZ1.out.free 3
    have z4 := HZ1.out.cell 4
    have f4 := HZ1.out.free 4
    go_wp2_with fail
    go_fit (HFI.out w1 HB1.out)
    rintro e w2 ⟨rfl, rfl⟩
    go_wp2_with fail
    go_fit (HPU.out w1 HB1.out)
    rintro e w2 ⟨v', rfl, hd2, hb2⟩
    obtain ⟨sz', lm', A1', A2', A3', n1', n2', n3', c1', c2', c3', rfl⟩ := hd2.shape
    have HD2 := hid hd2
    have HB2 := hid (HB1.out.trans (hb2.mono HB1.out.size))
    have HZ2 := hid (HZ1.out.below hb2 HZ1.out.lt)
    have hzl := HZ1.out.lt
    clear hd2 hb2 d0 d1 d2 d3 d4 z0 z1 z2 z3 z4 f0 f1 f2 f3 f4 HD1 HZ1
    have z0 := HZ2.out.cell 0
    have f0 := HZ2.out.free 0
    have z1 := HZ2.out.cell 1
    have f1 := HZ2.out.free 1
    have z2 := HZ2.out.cell 2
    have f2 := HZ2.out.free 2
    have z3 := HZ2.out.cell 3
    have f3 := HZ2.out.free 3
    have z4 := HZ2.out.cell 4
    have f4 := HZ2.out.free 4
    go_wp2_with fail
    refine bodyPost_ret (v := .tuple #[.agg #[.int .i64 sz', .int .i64 lm', .slice A1' n1' c1', .slice A2' n2' c2', .slice A3' n3' c3'], .int .i64 0]) (by simp [results, Tryd.results29, go_sem, *]) rfl ⟨_, rfl, ?_, ?_⟩
    · refine D6.weak (P := fun k => (P k ∧ k < w.heap.size) ∨ w1.heap.size ≤ k) (HD2.out.keep (by simp) (fun k hk => keep5 (g := w.heap.size + 1) ?_)) (fun k hk => ?_)
      · rcases hk with hk | hk <;> omega
      · rcases hk with hk | hk
        · exact .inl hk.1
        · exact .inr (by omega)
    · exact ((((HB2.out.setCell (p := ⟨w.heap.size + 1, 0, none⟩) (Nat.le_succ _) _).setCell (p := ⟨w.heap.size + 1, 1, none⟩) (Nat.le_succ _) _).setCell (p := ⟨w.heap.size + 1, 2, none⟩) (Nat.le_succ _) _).setCell (p := ⟨w.heap.size + 1, 3, none⟩) (Nat.le_succ _) _).setCell (p := ⟨w.heap.size + 1, 4, none⟩) (Nat.le_succ _) _

end Go.Proofs.YtngclmjefadokaaDoor

namespace Go.Proofs.YtngclmjefadokaaDoor
open Go Go.RowKit

set_option maxHeartbeats 8000000 in
set_option maxRecDepth 100000 in
theorem free6_any {P : Nat → Prop} {w : World} {v : Value} {s : Dk} (i : Int) (h : D6 P w v s) (hp : s.pend.length ≤ 1000000) :
    Calls Tryd.prog 26 #[v, .int .i64 i] w fun e w' =>
      ∃ v', e = .returned (.tuple #[v', .int .i64 (s.fwhy i : Int)]) ∧ D6 (fun k => P k ∨ w.heap.size ≤ k) w' v' (s.free i) ∧ Below w.heap.size w w' := by
  obtain ⟨V, G, A1, A2, A3, c1, c2, c3, rfl, hV, hG, hA1, hA2, hA3, hc1, hc2, hc3, _⟩ := h.ex
  have hsz := h.size
  have hVl := hV.le
  have HFI := hid (fun (W : World) (hW : Below w.heap.size w W) => find6_any (c := c1) i (hA1.below hW) rfl (by omega))
  rw [hV.is] at HFI
  have HD6 := hid h
  have e1 : applyOp s.view ⟨i, none⟩ (((none : Option (List UInt8)).getD []).length : Int) = upd s.view i none := rfl
  have hrg : ∀ x, s.view i = some x → 0 ≤ i ∧ i < (s.size : Int) := fun x hx => (h.view_le hx).2
  have HPUT := hid (fun (h0 : 0 ≤ i) (h1 : i < (s.size : Int)) (W : World) (hW : Below w.heap.size w W) => put6_any (o := ⟨i, none⟩) (h.bound.step hW) h0 h1 (fun c hc => by cases hc) hp)
  dsimp only at HPUT
  rw [e1, show bst ((none : Option (List UInt8)).getD []) = ⟨#[]⟩ from rfl, show (none : Option (List UInt8)).isNone = true from rfl] at HPUT
  have HWR := hid (And.intro (show s.free i = if s.view i = none then s else { s with view := upd s.view i none, pend := s.pend ++ [⟨i, none⟩] } from rfl) (show s.fwhy i = if s.view i = none then 61 else 0 from rfl))
  obtain ⟨s2, hs2⟩ : ∃ s2 : Dk, s2 = { s with view := upd s.view i none, pend := s.pend ++ [⟨i, none⟩] } := ⟨_, rfl⟩
  rw [← hs2] at HPUT HWR
  clear hs2 e1
  obtain ⟨n3, hn3⟩ : ∃ n3, n3 = s.pend.length := ⟨_, rfl⟩
  rw [← hn3] at HD6 HPUT ⊢
  obtain ⟨n1, hn1⟩ : ∃ n1, n1 = V.length := ⟨_, rfl⟩
  rw [← hn1] at HFI HD6 HPUT hVl ⊢
  generalize G.length = n2 at *
  generalize s.free i = s' at *
  generalize s.fwhy i = wy at *
  obtain ⟨hwr, hwy⟩ := HWR.out
  obtain ⟨sz, hsz'⟩ : ∃ sz : Int, sz = (s.size : Int) := ⟨_, rfl⟩
  obtain ⟨lm, hlm⟩ : ∃ lm : Int, lm = s.limit := ⟨_, rfl⟩
  rw [← hsz'] at hrg
  rw [← hsz', ← hlm] at HD6 HPUT ⊢
  clear hn3 hn1 hV hG hA1 hA2 hA3 hc1 hc2 hc3 h hp hsz' hlm hsz HWR
  have HB1 := hid (show Below w.heap.size w ((w.alloc (.cells #[.int .i64 sz, .int .i64 lm, .slice A1 n1 c1, .slice A2 n2 c2, .slice A3 n3 c3] 30)).alloc (.cells #[.int .i64 0, .int .i64 0, .slice none 0 0, .slice none 0 0, .slice none 0 0] 30)) from ((Below.refl _ _).alloc (Nat.le_refl _) _).alloc (by simp) _)
  have HD1 := hid (show Blk ((w.alloc (.cells #[.int .i64 sz, .int .i64 lm, .slice A1 n1 c1, .slice A2 n2 c2, .slice A3 n3 c3] 30)).alloc (.cells #[.int .i64 0, .int .i64 0, .slice none 0 0, .slice none 0 0, .slice none 0 0] 30)) w.heap.size 30 #[.int .i64 sz, .int .i64 lm, .slice A1 n1 c1, .slice A2 n2 c2, .slice A3 n3 c3] from (Blk.new w _ _).alloc _)
  have hZ := Blk.new (w.alloc (.cells #[.int .i64 sz, .int .i64 lm, .slice A1 n1 c1, .slice A2 n2 c2, .slice A3 n3 c3] 30)) 30 #[.int .i64 0, .int .i64 0, .slice none 0 0, .slice none 0 0, .slice none 0 0]
  rw [show (w.alloc (.cells #[.int .i64 sz, .int .i64 lm, .slice A1 n1 c1, .slice A2 n2 c2, .slice A3 n3 c3] 30)).heap.size = w.heap.size + 1 by simp] at hZ
  have HZ1 := hid hZ
  clear hZ
  cases hv : s.view i with
  | none =>
    rw [hv] at HFI hwy hwr
    have hso : (none : Option (List UInt8)).isSome = false := rfl
    rw [hso] at HFI
    rw [if_pos rfl] at hwy hwr
    subst hwy hwr
    go_enter Tryd.func26, Tryd.ntmps26
    go_upto_region 1 with fail
    generalize (w.alloc (.cells #[.int .i64 sz, .int .i64 lm, .slice A1 n1 c1, .slice A2 n2 c2, .slice A3 n3 c3] 30)).alloc (.cells #[.int .i64 0, .int .i64 0, .slice none 0 0, .slice none 0 0, .slice none 0 0] 30) = w1 at *
    have d0 := HD1.out.cell 0
    have d1 := HD1.out.cell 1
    have d2 := HD1.out.cell 2
    have d3 := HD1.out.cell 3
    have d4 := HD1.out.cell 4
    have z0 := HZ1.out.cell 0
    have f0 := HZ1.out.free 0
    have z1 := HZ1.out.cell 1
    have f1 := HZ1.out.free 1
    have z2 := HZ1.out.cell 2
    have f2 := HZ1.out.free 2
    have z3 := HZ1.out.cell 3
    have f3 := HZ1.out.free 3
    have z4 := HZ1.out.cell 4
    have f4 := HZ1.out.free 4
    go_wp2_with fail
    go_fit (HFI.out w1 HB1.out)
    rintro e w2 ⟨rfl, rfl⟩
    go_wp2_with fail
    refine bodyPost_ret (v := .tuple #[.agg #[.int .i64 sz, .int .i64 lm, .slice A1 n1 c1, .slice A2 n2 c2, .slice A3 n3 c3], .int .i64 61]) (by simp [results, Tryd.results26, go_sem, *]) rfl ⟨_, rfl, ?_, ?_⟩
    · exact (HD6.out.step (((((HB1.out.setCell (p := ⟨w.heap.size + 1, 0, none⟩) (Nat.le_succ _) _).setCell (p := ⟨w.heap.size + 1, 1, none⟩) (Nat.le_succ _) _).setCell (p := ⟨w.heap.size + 1, 2, none⟩) (Nat.le_succ _) _).setCell (p := ⟨w.heap.size + 1, 3, none⟩) (Nat.le_succ _) _).setCell (p := ⟨w.heap.size + 1, 4, none⟩) (Nat.le_succ _) _)).weak fun _ hk => .inl hk
    · exact ((((HB1.out.setCell (p := ⟨w.heap.size + 1, 0, none⟩) (Nat.le_succ _) _).setCell (p := ⟨w.heap.size + 1, 1, none⟩) (Nat.le_succ _) _).setCell (p := ⟨w.heap.size + 1, 2, none⟩) (Nat.le_succ _) _).setCell (p := ⟨w.heap.size + 1, 3, none⟩) (Nat.le_succ _) _).setCell (p := ⟨w.heap.size + 1, 4, none⟩) (Nat.le_succ _) _
  | some x =>
    have hr := hrg x hv
    have HPU := hid (HPUT.out hr.1 hr.2)
    rw [hv] at HFI hwy hwr
    have hso : (some x).isSome = true := rfl
    rw [hso] at HFI
    rw [if_neg (by simp)] at hwy hwr
    subst hwy hwr
    clear HPUT hrg hr
    go_enter Tryd.func26, Tryd.ntmps26
    go_upto_region 1 with fail
    generalize (w.alloc (.cells #[.int .i64 sz, .int .i64 lm, .slice A1 n1 c1, .slice A2 n2 c2, .slice A3 n3 c3] 30)).alloc (.cells #[.int .i64 0, .int .i64 0, .slice none 0 0, .slice none 0 0, .slice none 0 0] 30) = w1 at *
    have d0 := HD1.out.cell 0
    have d1 := HD1.out.cell 1
    have d2 := HD1.out.cell 2
    have d3 := HD1.out.cell 3
    have d4 := HD1.out.cell 4
    have z0 := HZ1.out.cell 0
    have f0 := HZ1.out.free 0
    have z1 := HZ1.out.cell 1
    have f1 := HZ1.out.free 1
    have z2 := HZ1.out.cell 2
    have f2 := HZ1.out.free 2
    have z3 := HZ1.out.cell 3
    have f3 := HZ1.out.free 3
    have z4 := HZ1.out.cell 4
    have f4 := HZ1.out.free 4
    go_wp2_with fail
    go_fit (HFI.out w1 HB1.out)
    rintro e w2 ⟨rfl, rfl⟩
    go_wp2_with fail
    go_fit (HPU.out w1 HB1.out)
    rintro e w2 ⟨v', rfl, hd2, hb2⟩
    obtain ⟨sz', lm', A1', A2', A3', n1', n2', n3', c1', c2', c3', rfl⟩ := hd2.shape
    have HD2 := hid hd2
    have HB2 := hid (HB1.out.trans (hb2.mono HB1.out.size))
    have HZ2 := hid (HZ1.out.below hb2 HZ1.out.lt)
    have hzl := HZ1.out.lt
    clear hd2 hb2 d0 d1 d2 d3 d4 z0 z1 z2 z3 z4 f0 f1 f2 f3 f4 HD1 HZ1
    have z0 := HZ2.out.cell 0
    have f0 := HZ2.out.free 0
    have z1 := HZ2.out.cell 1
    have f1 := HZ2.out.free 1
    have z2 := HZ2.out.cell 2
    have f2 := HZ2.out.free 2
    have z3 := HZ2.out.cell 3
    have f3 := HZ2.out.free 3
    have z4 := HZ2.out.cell 4
    have f4 := HZ2.out.free 4
    go_wp2_with fail
    refine bodyPost_ret (v := .tuple #[.agg #[.int .i64 sz', .int .i64 lm', .slice A1' n1' c1', .slice A2' n2' c2', .slice A3' n3' c3'], .int .i64 0]) (by simp [results, Tryd.results26, go_sem, *]) rfl ⟨_, rfl, ?_, ?_⟩
    · refine D6.weak (P := fun k => (P k ∧ k < w.heap.size) ∨ w1.heap.size ≤ k) (HD2.out.keep (by simp) (fun k hk => keep5 (g := w.heap.size + 1) ?_)) (fun k hk => ?_)
      · rcases hk with hk | hk <;> omega
      · rcases hk with hk | hk
        · exact .inl hk.1
        · exact .inr (by omega)
    · exact ((((HB2.out.setCell (p := ⟨w.heap.size + 1, 0, none⟩) (Nat.le_succ _) _).setCell (p := ⟨w.heap.size + 1, 1, none⟩) (Nat.le_succ _) _).setCell (p := ⟨w.heap.size + 1, 2, none⟩) (Nat.le_succ _) _).setCell (p := ⟨w.heap.size + 1, 3, none⟩) (Nat.le_succ _) _).setCell (p := ⟨w.heap.size + 1, 4, none⟩) (Nat.le_succ _) _

set_option maxHeartbeats 4000000 in
set_option maxRecDepth 100000 in
theorem sync6_any {P : Nat → Prop} {w : World} {v : Value} {s : Dk} (h : D6 P w v s) :
    Calls Tryd.prog 27 #[v] w fun e w' => ∃ v', e = .returned v' ∧ D6 P w' v' s.sync ∧ Below w.heap.size w w' := by
  obtain ⟨V, G, A1, A2, A3, c1, c2, c3, rfl, hV, hG, hA1, hA2, hA3, hc1, hc2, hc3, hi1, hi2, hi3⟩ := h.ex
  have hd : ∀ W, Below w.heap.size w W → D6 P W (.agg #[.int .i64 (s.size : Int), .int .i64 s.limit, .slice A1 V.length c1, .slice A1 V.length c1, .slice none 0 0]) s.sync := fun W hW =>
    ⟨⟨V, V, A1, A1, none, c1, c1, 0, rfl, hV, hV, (hA1.below hW).more hW.size, (hA1.below hW).more hW.size, GAt.nil, hc1, hc1, Nat.le_refl _, hi1, hi1, In.nil⟩, fun o ho => (by cases ho), h.size⟩
  have HD := hid hd
  generalize s.pend.length = n3 at *
  generalize V.length = n1 at *
  generalize G.length = n2 at *
  generalize s.sync = s' at *
  generalize (s.size : Int) = sz at *
  generalize s.limit = lm at *
  clear h hV hG hA1 hA2 hA3 hc1 hc2 hc3 hi1 hi2 hi3 hd
  have HB1 := hid (show Below w.heap.size w ((w.alloc (.cells #[.int .i64 sz, .int .i64 lm, .slice A1 n1 c1, .slice A2 n2 c2, .slice A3 n3 c3] 30)).alloc (.cells #[.int .i64 0, .int .i64 0, .slice none 0 0, .slice none 0 0, .slice none 0 0] 30)) from ((Below.refl _ _).alloc (Nat.le_refl _) _).alloc (by simp) _)
  have HD1 := hid (show Blk ((w.alloc (.cells #[.int .i64 sz, .int .i64 lm, .slice A1 n1 c1, .slice A2 n2 c2, .slice A3 n3 c3] 30)).alloc (.cells #[.int .i64 0, .int .i64 0, .slice none 0 0, .slice none 0 0, .slice none 0 0] 30)) w.heap.size 30 #[.int .i64 sz, .int .i64 lm, .slice A1 n1 c1, .slice A2 n2 c2, .slice A3 n3 c3] from (Blk.new w _ _).alloc _)
  have hZ := Blk.new (w.alloc (.cells #[.int .i64 sz, .int .i64 lm, .slice A1 n1 c1, .slice A2 n2 c2, .slice A3 n3 c3] 30)) 30 #[.int .i64 0, .int .i64 0, .slice none 0 0, .slice none 0 0, .slice none 0 0]
  rw [show (w.alloc (.cells #[.int .i64 sz, .int .i64 lm, .slice A1 n1 c1, .slice A2 n2 c2, .slice A3 n3 c3] 30)).heap.size = w.heap.size + 1 by simp] at hZ
  have HZ1 := hid hZ
  clear hZ
  go_enter Tryd.func27, Tryd.ntmps27
  go_upto_region 1 with fail
  generalize (w.alloc (.cells #[.int .i64 sz, .int .i64 lm, .slice A1 n1 c1, .slice A2 n2 c2, .slice A3 n3 c3] 30)).alloc (.cells #[.int .i64 0, .int .i64 0, .slice none 0 0, .slice none 0 0, .slice none 0 0] 30) = w1 at *
  have d0 := HD1.out.cell 0
  have d1 := HD1.out.cell 1
  have d2 := HD1.out.cell 2
  have d3 := HD1.out.cell 3
  have d4 := HD1.out.cell 4
  have z0 := HZ1.out.cell 0
  have f0 := HZ1.out.free 0
  have z1 := HZ1.out.cell 1
  have f1 := HZ1.out.free 1
  have z2 := HZ1.out.cell 2
  have f2 := HZ1.out.free 2
  have z3 := HZ1.out.cell 3
  have f3 := HZ1.out.free 3
  have z4 := HZ1.out.cell 4
  have f4 := HZ1.out.free 4
  have d3f := HD1.out.free 3
  have d4f := HD1.out.free 4
  go_wp2_with fail
  refine bodyPost_ret (v := .agg #[.int .i64 sz, .int .i64 lm, .slice A1 n1 c1, .slice A1 n1 c1, .slice none 0 0]) (by simp [results, Tryd.results27, go_sem, *]) rfl ⟨_, rfl, HD.out _ ?_, ?_⟩
  · exact ((((((HB1.out.setCell (p := ⟨w.heap.size, 3, none⟩) (Nat.le_refl _) _).setCell (p := ⟨w.heap.size, 4, none⟩) (Nat.le_refl _) _).setCell (p := ⟨w.heap.size + 1, 0, none⟩) (Nat.le_succ _) _).setCell (p := ⟨w.heap.size + 1, 1, none⟩) (Nat.le_succ _) _).setCell (p := ⟨w.heap.size + 1, 2, none⟩) (Nat.le_succ _) _).setCell (p := ⟨w.heap.size + 1, 3, none⟩) (Nat.le_succ _) _).setCell (p := ⟨w.heap.size + 1, 4, none⟩) (Nat.le_succ _) _
  · exact ((((((HB1.out.setCell (p := ⟨w.heap.size, 3, none⟩) (Nat.le_refl _) _).setCell (p := ⟨w.heap.size, 4, none⟩) (Nat.le_refl _) _).setCell (p := ⟨w.heap.size + 1, 0, none⟩) (Nat.le_succ _) _).setCell (p := ⟨w.heap.size + 1, 1, none⟩) (Nat.le_succ _) _).setCell (p := ⟨w.heap.size + 1, 2, none⟩) (Nat.le_succ _) _).setCell (p := ⟨w.heap.size + 1, 3, none⟩) (Nat.le_succ _) _).setCell (p := ⟨w.heap.size + 1, 4, none⟩) (Nat.le_succ _) _

end Go.Proofs.YtngclmjefadokaaDoor

namespace Go.Proofs.YtngclmjefadokaaDoor
open Go Go.RowKit

theorem survive_drop {l : List (Int × Int)} {k i : Nat} {x : Int × Int} (h : l[k]? = some x) : survive (l.drop k) i = if x.1 = (i : Int) then some x.2 else survive (l.drop (k + 1)) i := by
  obtain ⟨hk, hx⟩ := List.getElem?_eq_some_iff.1 h
  unfold survive
  rw [List.drop_eq_getElem_cons hk, hx, List.find?_cons]
  by_cases hi : x.1 = (i : Int)
  · simp [hi]
  · have : (x.1 == (i : Int)) = false := by simpa using hi
    rw [this, if_neg hi]
theorem crashG_at {l : List (Int × Int)} {m : Secs} {os : List POp} {i : Nat} {o : POp} (h : os[i]? = some o) : crashG l i m (os.drop i) = crashG l (i + 1) (match survive l i with | some n => applyOp m o n | none => m) (os.drop (i + 1)) := by
  obtain ⟨hk, hx⟩ := List.getElem?_eq_some_iff.1 h
  rw [List.drop_eq_getElem_cons hk, hx]
  rfl
theorem SvAt.get {w : World} {B k : Nat} {A : Option Addr} {l : List (Int × Int)} (h : SvAt w B A l) (hk : k < l.length) : ∃ b off x, A = some ⟨b, off, none⟩ ∧ b < B ∧ l[k]? = some x ∧ w.cell? ⟨b, off + k * 2, none⟩ = some (.int .i64 x.1) ∧ w.cell? ⟨b, off + k * 2 + 1, none⟩ = some (.int .i64 x.2) := by
  obtain ⟨b, off, e, hb, hc⟩ := h (by omega)
  obtain ⟨h1, h2⟩ := hc k _ (List.getElem?_eq_getElem hk)
  exact ⟨b, off, _, e, hb, List.getElem?_eq_getElem hk, h1, h2⟩
theorem SvAt.under {w w' : World} {B : Nat} {A : Option Addr} {l : List (Int × Int)} (h : SvAt w B A l) (hb : Below B w w') : SvAt w' B A l := fun hl => by
  obtain ⟨b, off, e, hlt, hc⟩ := h hl
  have hk : ∀ j, w'.cell? ⟨b, j, none⟩ = w.cell? ⟨b, j, none⟩ := fun j => World.cell?_of_block (a := ⟨b, j, none⟩) (hb.block b hlt)
  exact ⟨b, off, e, hlt, fun i s hi => by rw [hk, hk]; exact hc i s hi⟩

/-- Crash under way -/
structure Cr (P : Nat → Prop) (w wr : World) (sz lm : Int) (A1 A2 A3 : Option Addr) (n1 n2 n3 c1 c2 c3 : Nat) (s : Dk) (l : List (Int × Int)) (i : Nat) : Prop where
  box : Blk wr w.heap.size 30 #[.int .i64 sz, .int .i64 lm, .slice A1 n1 c1, .slice A2 n2 c2, .slice A3 n3 c3]
  zero : Blk wr (w.heap.size + 1) 30 #[.int .i64 0, .int .i64 0, .slice none 0 0, .slice none 0 0, .slice none 0 0]
  below : Below w.heap.size w wr
  gr : ∃ (G : List Sct) (m : Secs), GAt eSct wr wr.heap.size A2 G ∧ In (fun k => (P k ∧ k < w.heap.size) ∨ w.heap.size + 2 ≤ k) A2 G ∧ n2 = G.length ∧ n2 ≤ c2 ∧ SL s.size G m ∧ crashG l 0 s.ground s.pend = crashG l i m (s.pend.drop i)
theorem Cr.step {P : Nat → Prop} {w wr w' : World} {sz lm : Int} {A1 A2 A3 : Option Addr} {n1 n2 n3 c1 c2 c3 : Nat} {s : Dk} {l : List (Int × Int)} {i : Nat} (h : Cr P w wr sz lm A1 A2 A3 n1 n2 n3 c1 c2 c3 s l i) (hb : Below wr.heap.size wr w') : Cr P w w' sz lm A1 A2 A3 n1 n2 n3 c1 c2 c3 s l i := by
  obtain ⟨G, m, h1, h2, h3⟩ := h.gr
  exact ⟨h.box.below hb h.box.lt, h.zero.below hb h.zero.lt, below_step h.below hb, G, m, (h1.below hb).more hb.size, h2, h3⟩

set_option maxHeartbeats 8000000 in
set_option maxRecDepth 100000 in
theorem crash6_any {P : Nat → Prop} {w : World} {v : Value} {s : Dk} {A : Option Addr} {nl cl B : Nat} {l : List (Int × Int)} (h : D6 P w v s) (hS : SvAt w B A l) (hn : nl = l.length) (hB : B ≤ w.heap.size) (hl : l.length ≤ 70368744177664) (hp : s.pend.length ≤ 1000000) :
    Calls Tryd.prog 16 #[v, .slice A nl cl] w fun e w' => ∃ v', e = .returned v' ∧ D6 (fun k => P k ∨ w.heap.size ≤ k) w' v' (s.crash l) ∧ Below w.heap.size w w' := by
  subst hn
  obtain ⟨V, G, A1, A2, A3, c1, c2, c3, rfl, hV, hG, hA1, hA2, hA3, hc1, hc2, hc3, hi1, hi2, hi3⟩ := h.bound.ex
  have HS := hid hS
  have HBX := hid hB
  have HA3 := hid hA3
  have hpp := h.pend
  have HPP := hid hpp
  have HSM := hid h.size
  have hgle := hG.le
  have HCR := hid (show Cr P w ((w.alloc (.cells #[.int .i64 (s.size : Int), .int .i64 s.limit, .slice A1 V.length c1, .slice A2 G.length c2, .slice A3 s.pend.length c3] 30)).alloc (.cells #[.int .i64 0, .int .i64 0, .slice none 0 0, .slice none 0 0, .slice none 0 0] 30)) (s.size : Int) s.limit A1 A2 A3 V.length G.length s.pend.length c1 c2 c3 s l 0 from by
    have hb : Below w.heap.size w ((w.alloc (.cells #[.int .i64 (s.size : Int), .int .i64 s.limit, .slice A1 V.length c1, .slice A2 G.length c2, .slice A3 s.pend.length c3] 30)).alloc (.cells #[.int .i64 0, .int .i64 0, .slice none 0 0, .slice none 0 0, .slice none 0 0] 30)) := ((Below.refl _ _).alloc (Nat.le_refl _) _).alloc (by simp) _
    have hZ := Blk.new (w.alloc (.cells #[.int .i64 (s.size : Int), .int .i64 s.limit, .slice A1 V.length c1, .slice A2 G.length c2, .slice A3 s.pend.length c3] 30)) 30 #[.int .i64 0, .int .i64 0, .slice none 0 0, .slice none 0 0, .slice none 0 0]
    rw [show (w.alloc (.cells #[.int .i64 (s.size : Int), .int .i64 s.limit, .slice A1 V.length c1, .slice A2 G.length c2, .slice A3 s.pend.length c3] 30)).heap.size = w.heap.size + 1 by simp] at hZ
    exact ⟨(Blk.new w _ _).alloc _, hZ, hb, G, s.ground, (hA2.below hb).more hb.size, hi2.weak (fun k hk => .inl hk), rfl, hc2, hG, by rw [List.drop_zero]⟩)
  obtain ⟨n3, hn3⟩ : ∃ n3, n3 = s.pend.length := ⟨_, rfl⟩
  rw [← hn3] at HCR hp hc3 ⊢
  have HN3 := hid hn3
  generalize V.length = n1 at *
  generalize G.length = n2 at *
  have HSC := hid (show s.crash l = { s with view := crashG l 0 s.ground s.pend, ground := crashG l 0 s.ground s.pend, pend := [] } from rfl)
  generalize s.crash l = s' at *
  obtain ⟨sz, hsz'⟩ : ∃ sz : Int, sz = (s.size : Int) := ⟨_, rfl⟩
  obtain ⟨lm, hlm⟩ : ∃ lm : Int, lm = s.limit := ⟨_, rfl⟩
  rw [← hsz', ← hlm] at HCR ⊢
  have HSZ := hid (And.intro hsz' hlm)
  clear hS hB hV hG hA1 hA2 hA3 hi1 hi2 hi3 hpp h hn3 hsz' hlm
  go_enter Tryd.func16, Tryd.ntmps16
  go_upto_region 1 with fail
  generalize (w.alloc (.cells #[.int .i64 sz, .int .i64 lm, .slice A1 n1 c1, .slice A2 n2 c2, .slice A3 n3 c3] 30)).alloc (.cells #[.int .i64 0, .int .i64 0, .slice none 0 0, .slice none 0 0, .slice none 0 0] 30) = w1 at *
  go_upto_region 2 with fail
  go_loopw [5] (fun j wr => ∃ (i : Nat) (A2 : Option Addr) (n2 c2 : Nat), i ≤ n3 ∧ j = .int .i64 (i : Int) ∧ Kept (Cr P w wr sz lm A1 A2 A3 n1 n2 n3 c1 c2 c3 s l i)) (fun j _ => n3 - (intOf j).toNat)
  case atStart => exact ⟨0, A2, n2, c2, Nat.zero_le _, rfl, HCR⟩
  case round =>
    clear HCR
    obtain ⟨i, A2, n2, c2, hi, rfl, HC⟩ := hrel
    have d4 := HC.out.box.cell 4
    by_cases hlt : i < n3
    · obtain ⟨b3, off3, o, rfl, hb3, ho, p0, p1, p2⟩ := (HA3.out.below HC.out.below).pd (i := i) (by rw [← HN3.out]; exact hlt)
      obtain ⟨G, m, g1, g2, g3, g4, g5, g6⟩ := HC.out.gr
      have hcg := g6.trans (crashG_at (l := l) (m := m) ho)
      have HG := hid (And.intro g1 (And.intro g2 (And.intro g3 (And.intro g4 g5))))
      clear g1 g2 g3 g4 g5 g6
      have HOP := hid (HPP.out o (List.mem_of_getElem? ho))
      clear ho
      go_wp2_with fail
      go_loopw [6] (fun j wx => ∃ k : Nat, k ≤ l.length ∧ j = .int .i64 (k : Int) ∧ Kept (survive l i = survive (l.drop k) i) ∧ wx = wr) (fun j _ => l.length - (intOf j).toNat)
      case atStart => exact ⟨0, Nat.zero_le _, rfl, hid (by rw [List.drop_zero]), rfl⟩
      case round =>
        obtain ⟨k, hk, rfl, HK, rfl⟩ := hrel
        by_cases hkl : k < l.length
        · obtain ⟨b, off, x, rfl, hb, hx, s0, s1⟩ := (HS.out.under (HC.out.below.mono HBX.out)).get (k := k) hkl
          have hsv := survive_drop (i := i) hx
          clear hx
          by_cases hxi : x.1 = (i : Int)
          · rw [if_pos hxi] at hsv
            have hcgt := hcg
            rw [HK.out, hsv] at hcgt
            dsimp only at hcgt
            have HCG := hid hcgt
            clear hsv hcgt hcg
            obtain ⟨x1, x2⟩ := x
            dsimp only at hxi s0 s1
            subst hxi
            have d3 := HC.out.box.cell 3
            go_upto_region 8 with fail
            have d3' : wr.drew.cell? ⟨w.heap.size, 3, none⟩ = some (.slice A2 n2 c2) := d3
            have d4' : wr.drew.cell? ⟨w.heap.size, 4, none⟩ = some (.slice (some ⟨b3, off3, none⟩) n3 c3) := d4
            have s1' : wr.drew.cell? ⟨b, off + k * 2 + 1, none⟩ = some (.int .i64 x2) := s1
            have p0' : wr.drew.cell? ⟨b3, off3 + i * 3, none⟩ = some (.int .i64 o.i) := p0
            have p1' : wr.drew.cell? ⟨b3, off3 + i * 3 + 1, none⟩ = some (.bool o.b.isNone) := p1
            have p2' : wr.drew.cell? ⟨b3, off3 + i * 3 + 2, none⟩ = some (.string (bst (o.b.getD []))) := p2
            have hcap3 : n3 ≤ c3 := hc3
            go_still_tail 12, (by kernel_rfl)
            have HCd := hid (HC.out.step ((Below.refl _ _).drew))
            obtain ⟨g1, g2, g3, g4, g5⟩ := HG.out
            have HGd := hid (And.intro (show GAt eSct wr.drew wr.drew.heap.size A2 G from g1) (And.intro g2 (And.intro g3 (And.intro g4 g5))))
            clear g1 g2 g3 g4 g5 d3 d4 d3' d4' s0 s1 s1' p0 p1 p2 p0' p1' p2' HG HK
            change wpList _ _ _ _ _ wr.drew
            generalize wr.drew = wd at *
            have hgl := HGd.out.2.2.2.2.le
            have hsm := HSM.out
            go_wp2_with fail
            go_fit (done6_any (o := o) x2 HGd.out.1 HGd.out.2.2.1 (Nat.le_refl _) (by omega) HGd.out.2.2.2.2.small HOP.out.2.2)
            rintro e w5 ⟨A5, m5, c5, rfl, hr5, hb5⟩
            have HR5 := hid hr5
            have HC5 := hid (HCd.out.step hb5)
            have HWD := hid HCd.out.zero.lt
            have HSL := hid (HGd.out.2.2.2.2.done HOP.out.1 HOP.out.2.1 HOP.out.2.2 x2)
            have d3 := HC5.out.box.cell 3
            have d3f := HC5.out.box.free 3
            clear hr5 hb5 HCd HC
            go_wp2_with fail
            go_roundw
            case rel =>
              have hwd := HWD.out
              have hr := HR5.out.set (p := ⟨w.heap.size, 3, none⟩) (show w.heap.size < wd.heap.size by omega) (.slice A5 m5 c5)
              exact ⟨i + 1, _, _, _, by omega, by go_num, hid ⟨HC5.out.box.set 3 _, HC5.out.zero.far (by simp) _, HC5.out.below.setCell (Nat.le_refl _) _, _, _, hr.at_, hr.in_.weak (fun k hk => .inr (by omega)), hr.1, hr.cap, HSL.out, HCG.out⟩⟩
            case measure => simp [intOf]; omega
          · rw [if_neg hxi] at hsv
            have HK2 := hid (HK.out.trans hsv)
            have hne : (x.1 == (i : Int)) = false := by simpa using hxi
            clear hsv
            go_wp2_with fail
            go_roundw
            case rel => exact ⟨k + 1, by omega, by go_num, HK2, trivial⟩
            case measure => simp [intOf]; omega
        · have : survive l i = none := by rw [HK.out, show k = l.length by omega, List.drop_length]; rfl
          rw [this] at hcg
          dsimp only at hcg
          have HCG := hid hcg
          clear this hcg
          go_wp2_with fail
          go_roundw
          case rel =>
            obtain ⟨g1, g2, g3, g4, g5⟩ := HG.out
            exact ⟨i + 1, _, _, _, by omega, by go_num, hid ⟨HC.out.box, HC.out.zero, HC.out.below, G, m, g1, g2, g3, g4, g5, HCG.out⟩⟩
          case measure => simp [intOf]; omega
    · have hin : i = n3 := by omega
      subst hin
      obtain ⟨G, m, g1, g2, g3, g4, g5, g6⟩ := HC.out.gr
      rw [show s.pend.drop i = [] by rw [HN3.out, List.drop_length]] at g6
      have g7 : crashG l 0 s.ground s.pend = m := g6
      have HG := hid (And.intro g1 (And.intro g2 (And.intro g3 (And.intro g4 (And.intro g5 g7)))))
      clear g1 g2 g3 g4 g5 g6 g7
      obtain ⟨HBo, HZo, HBe⟩ : Kept (Blk wr w.heap.size 30 _) ∧ Kept (Blk wr (w.heap.size + 1) 30 _) ∧ Kept (Below w.heap.size w wr) := ⟨hid HC.out.box, hid HC.out.zero, hid HC.out.below⟩
      have d0 := HBo.out.cell 0
      have d1 := HBo.out.cell 1
      have d2 := HBo.out.cell 2
      have d3 := HBo.out.cell 3
      have f2 := HBo.out.free 2
      have f4 := HBo.out.free 4
      have z0 := HZo.out.cell 0
      have z1 := HZo.out.cell 1
      have z2 := HZo.out.cell 2
      have z3 := HZo.out.cell 3
      have z4 := HZo.out.cell 4
      have zf0 := HZo.out.free 0
      have zf1 := HZo.out.free 1
      have zf2 := HZo.out.free 2
      have zf3 := HZo.out.free 3
      have zf4 := HZo.out.free 4
      go_wp2_with fail
      refine bodyPost_ret (v := .agg #[.int .i64 sz, .int .i64 lm, .slice A2 n2 c2, .slice A2 n2 c2, .slice none 0 0]) (by simp [results, Tryd.results16, go_sem, *]) rfl ⟨_, rfl, ?_, ?_⟩
      · obtain ⟨g1, g2, g3, g4, g5, g6⟩ := HG.out
        obtain ⟨e1, e2⟩ := HSZ.out
        subst g3 e1 e2
        rw [HSC.out, g6]
        have hd : D6 (fun k => (P k ∧ k < w.heap.size) ∨ w.heap.size + 2 ≤ k) wr (.agg #[.int .i64 (s.size : Int), .int .i64 s.limit, .slice A2 G.length c2, .slice A2 G.length c2, .slice none 0 0]) { s with view := m, ground := m, pend := [] } :=
          ⟨⟨G, G, A2, A2, none, c2, c2, 0, rfl, g5, g5, g1, g1, GAt.nil, g4, g4, Nat.le_refl _, g2, g2, In.nil⟩, fun o ho => (by cases ho), HSM.out⟩
        refine D6.weak (P := (fun k => (P k ∧ k < w.heap.size) ∨ w.heap.size + 2 ≤ k)) (hd.keep (by simp) (fun k hk => (keep5 (g := w.heap.size + 1) ?_).trans ((Below.heap_setCell _ _ _ _ ?_).trans (Below.heap_setCell _ _ _ _ ?_)))) (fun k hk => ?_)
        · rcases hk with hk | hk <;> omega
        · rcases hk with hk | hk <;> (simp; omega)
        · rcases hk with hk | hk <;> (simp; omega)
        · rcases hk with hk | hk
          · exact .inl hk.1
          · exact .inr (by omega)
      · exact ((((((HBe.out.setCell (p := ⟨w.heap.size, 2, none⟩) (Nat.le_refl _) _).setCell (p := ⟨w.heap.size, 4, none⟩) (Nat.le_refl _) _).setCell (p := ⟨w.heap.size + 1, 0, none⟩) (Nat.le_succ _) _).setCell (p := ⟨w.heap.size + 1, 1, none⟩) (Nat.le_succ _) _).setCell (p := ⟨w.heap.size + 1, 2, none⟩) (Nat.le_succ _) _).setCell (p := ⟨w.heap.size + 1, 3, none⟩) (Nat.le_succ _) _).setCell (p := ⟨w.heap.size + 1, 4, none⟩) (Nat.le_succ _) _

end Go.Proofs.YtngclmjefadokaaDoor
