/-
  The document's Used: whether a segment is in use. The document's Bytes: what a segment holds. The document's Sync and free of a log. The document's Look: a segment's base and records. The document's Open of a log, where there may be none.
-/
import Derived.Test.YtobmdmbjmjdfjaaGreatDoorJWl
import Derived.Test.YtobmdmbjmjdfjaaGreatDoorJR6
import Derived.Test.YtobmdmbjmjdfjaaGreatDoorJBytes
import Derived.Test.YtobmdmbjmjdfjaaGreatDoorJRec
namespace Go.Proofs.YtobmdmbjmjdfjaaGreatDoor
open Go Go.RowKit

theorem any_drop {l : List Sg} {k i : Nat} {x : Sg} (h : l[k]? = some x) : (l.drop k).any (fun y => y.i == i) = (x.i == i || (l.drop (k + 1)).any fun y => y.i == i) := by
  obtain ⟨hk, hx⟩ := List.getElem?_eq_some_iff.1 h
  rw [List.drop_eq_getElem_cons hk, hx, List.any_cons]

set_option maxHeartbeats 4000000 in
set_option maxRecDepth 100000 in
theorem used8_any {P : Nat → Prop} {w : World} {v : Value} {s : Dk} {l : Wl} (i : Nat) (h : W8 P w v s l) :
    Calls Tryz.prog 31 #[v, .int .i64 (i : Int)] w fun e w' => e = .returned (.bool (l.used i)) ∧ Below w.heap.size w w' := by
  obtain ⟨a, b, A1, A2, A3, A, n1, n2, n3, c1, c2, c3, c, rfl, h1, h2, h3, h4⟩ := h.shape
  have HA := hid h2
  have hll := h.live
  obtain ⟨nl, hnl⟩ : ∃ nl, nl = l.live.length := ⟨_, rfl⟩
  rw [← hnl] at hll h4 ⊢
  have HNL := hid hnl
  obtain ⟨F, hF⟩ : ∃ F, F = l.used i := ⟨_, rfl⟩
  rw [← hF]
  have HF := hid (show F = (l.live.drop 0).any (fun x => x.i == i) by rw [List.drop_zero]; exact hF)
  obtain ⟨at_, hat⟩ : ∃ x : Int, x = (l.at_ : Int) := ⟨_, rfl⟩
  obtain ⟨n, hn⟩ : ∃ x : Int, x = (l.n : Int) := ⟨_, rfl⟩
  obtain ⟨size, hsz⟩ : ∃ x : Int, x = (l.size : Int) := ⟨_, rfl⟩
  obtain ⟨la, hla⟩ : ∃ x : Int, x = (l.last : Int) := ⟨_, rfl⟩
  obtain ⟨sy, hsy⟩ : ∃ x : Int, x = (l.synced : Int) := ⟨_, rfl⟩
  rw [← hat, ← hn, ← hsz, ← hla, ← hsy]
  clear h h1 h2 h3 hF hnl hat hn hsz hla hsy
  have HB1 := hid (show Below w.heap.size w (w.alloc (.cells #[.int .i64 a, .int .i64 b, .slice A1 n1 c1, .slice A2 n2 c2, .slice A3 n3 c3, .int .i64 at_, .int .i64 n, .int .i64 size, .slice A nl c, .string (bst l.stream), .int .u64 la, .int .u64 sy] 43)) from (Below.refl _ _).alloc (Nat.le_refl _) _)
  have HX1 := hid (Blk.new w 43 #[.int .i64 a, .int .i64 b, .slice A1 n1 c1, .slice A2 n2 c2, .slice A3 n3 c3, .int .i64 at_, .int .i64 n, .int .i64 size, .slice A nl c, .string (bst l.stream), .int .u64 la, .int .u64 sy])
  go_enter Tryz.func31, Tryz.ntmps31
  go_upto_region 1 with fail
  generalize w.alloc (.cells #[.int .i64 a, .int .i64 b, .slice A1 n1 c1, .slice A2 n2 c2, .slice A3 n3 c3, .int .i64 at_, .int .i64 n, .int .i64 size, .slice A nl c, .string (bst l.stream), .int .u64 la, .int .u64 sy] 43) = w1 at *
  have x8 := HX1.out.cell 8
  go_wp2_with fail
  go_loopw [5] (fun j wr => ∃ k : Nat, k ≤ nl ∧ j = .int .i64 (k : Int) ∧ Kept (F = (l.live.drop k).any (fun x => x.i == i)) ∧ wr = w1) (fun j _ => nl - (intOf j).toNat)
  case atStart => exact ⟨0, Nat.zero_le _, rfl, HF, rfl⟩
  case round =>
    obtain ⟨k, hk, rfl, HK, rfl⟩ := hrel
    by_cases hlt : k < nl
    · obtain ⟨bb, off, x, rfl, hb, hx, d0, d1, d2⟩ := (HA.out.below HB1.out).sg (i := k) (by rw [← HNL.out]; exact hlt)
      have hd := HK.out.trans (any_drop hx)
      clear hx
      by_cases hxi : x.i = i
      · have hF : F = true := by rw [hd]; simp [hxi]
        have hxe : ((x.i : Int) == (i : Int)) = true := by simp; omega
        subst hF
        clear hd HK HF
        go_wp2_with fail
        go_ret
        exact ⟨rfl, HB1.out⟩
      · have hne : ((x.i : Int) == (i : Int)) = false := by simp; omega
        have HK2 := hid (show F = (l.live.drop (k + 1)).any (fun x => x.i == i) by rw [hd]; simp [hxi])
        clear hd
        go_wp2_with fail
        go_roundw
        case rel => exact ⟨k + 1, by omega, by go_num, HK2, trivial⟩
        case measure => simp [intOf]; omega
    · have hF : F = false := by rw [HK.out, show k = nl by omega, HNL.out, List.drop_length]; rfl
      subst hF
      clear HK HF
      go_wp2_with fail
      go_ret
      exact ⟨rfl, HB1.out⟩

theorem D6.find {P : Nat → Prop} {w : World} {s : Dk} {a b : Int} {A1 A2 A3 : Option Addr} {n1 n2 n3 c1 c2 c3 : Nat} (h : D6 P w (.agg #[.int .i64 a, .int .i64 b, .slice A1 n1 c1, .slice A2 n2 c2, .slice A3 n3 c3]) s) (i : Int) :
    ∀ W, Below w.heap.size w W → Calls Tryz.prog 63 #[.slice A1 n1 c1, .int .i64 i] W fun e w' => e = .returned (.tuple #[.string (bst ((s.view i).getD [])), .bool (s.view i).isSome]) ∧ W = w' := by
  intro W hW
  obtain ⟨V, G, A1', A2', A3', c1', c2', c3', hv, hV, hG, hA1, _⟩ := h.ex
  injection hv with hv
  have e := congrArg (fun (x : Array Value) => x[2]?) hv
  simp at e
  obtain ⟨rfl, rfl, rfl⟩ := e
  have := find6_any (c := c1) i (hA1.below hW) rfl (Nat.le_trans hV.le h.size)
  rw [hV.is] at this
  exact this
theorem segB_none {m : Secs} {k : Nat} {p : Int} (h : m p = none) : segB m k p = [] := by
  cases k with
  | zero => rfl
  | succ k => unfold segB; rw [h]
theorem segB_short {m : Secs} {k : Nat} {p : Int} {b : List UInt8} (h : m p = some b) (hb : b.length < 512) : segB m (k + 1) p = b := by
  unfold segB
  rw [h]
  dsimp only
  rw [if_pos hb]
theorem segB_full {m : Secs} {k : Nat} {p : Int} {b : List UInt8} (h : m p = some b) (hb : ¬ b.length < 512) : segB m (k + 1) p = b ++ segB m k (p + 1) := by
  rw [segB, h]
  dsimp only
  rw [if_neg hb]

set_option maxHeartbeats 8000000 in
set_option maxRecDepth 100000 in
theorem bytes8_any {P : Nat → Prop} {w : World} {v : Value} {s : Dk} {l : Wl} (i : Nat) (h : W8 P w v s l) (hi : i ≤ 64) :
    Calls Tryz.prog 55 #[v, .int .i64 (i : Int)] w fun e w' => e = .returned (.string (bst (segB s.view l.size (l.place i)))) ∧ Below w.heap.size w w' := by
  obtain ⟨a, b, A1, A2, A3, A, n1, n2, n3, c1, c2, c3, c, rfl, h1, h2, h3, h4⟩ := h.shape
  have HF := hid (fun i => h1.find i)
  have HVL := hid (fun (i : Int) (x : List UInt8) (hx : s.view i = some x) => (h1.view_le hx).1)
  have hat := h.at_
  have hsz := h.size
  obtain ⟨p, hp⟩ : ∃ p : Nat, p = l.at_ + i * l.size := ⟨_, rfl⟩
  have hmul : i * l.size ≤ 64 * 64 := Nat.mul_le_mul hi hsz
  have hpl : p ≤ 70000 := by omega
  have hmi : (i : Int) * (l.size : Int) = ((i * l.size : Nat) : Int) := by simp
  have hw1 : IntKind.i64.wrap ((i : Int) * (l.size : Int)) = (i : Int) * (l.size : Int) := by rw [IntKind.wrap_i64]; omega
  have hw2 : IntKind.i64.wrap ((l.at_ : Int) + (i : Int) * (l.size : Int)) = (l.at_ : Int) + (i : Int) * (l.size : Int) := by rw [IntKind.wrap_i64]; omega
  have HW3 := hid (fun (k : Nat) (hk : k ≤ 64) => show IntKind.i64.wrap ((l.at_ : Int) + (i : Int) * (l.size : Int) + (k : Int)) = (l.at_ : Int) + (i : Int) * (l.size : Int) + (k : Int) by rw [IntKind.wrap_i64]; omega)
  have hpi : (l.at_ : Int) + (i : Int) * (l.size : Int) = (p : Int) := by rw [hp]; simp
  have hpe : l.place i = (p : Int) := by unfold Wl.place; rw [hp]
  rw [hpe]
  obtain ⟨R, hR⟩ : ∃ R, R = segB s.view l.size (p : Int) := ⟨_, rfl⟩
  rw [← hR]
  have HR := hid (show R = [] ++ segB s.view (l.size - 0) ((p : Int) + ((0 : Nat) : Int)) by rw [List.nil_append, Nat.sub_zero]; simpa using hR)
  generalize l.live.length = nl at *
  obtain ⟨la, hla⟩ : ∃ x : Int, x = (l.last : Int) := ⟨_, rfl⟩
  obtain ⟨sy, hsy⟩ : ∃ x : Int, x = (l.synced : Int) := ⟨_, rfl⟩
  rw [← hla, ← hsy]
  have HPI := hid hpi
  clear h h1 h2 h3 hR hla hsy hp hpe hpi hmul hpl hmi
  have HB1 := hid (show Below w.heap.size w (w.alloc (.cells #[.int .i64 a, .int .i64 b, .slice A1 n1 c1, .slice A2 n2 c2, .slice A3 n3 c3, .int .i64 (l.at_ : Int), .int .i64 (l.n : Int), .int .i64 (l.size : Int), .slice A nl c, .string (bst l.stream), .int .u64 la, .int .u64 sy] 43)) from (Below.refl _ _).alloc (Nat.le_refl _) _)
  have HX1 := hid (Blk.new w 43 #[.int .i64 a, .int .i64 b, .slice A1 n1 c1, .slice A2 n2 c2, .slice A3 n3 c3, .int .i64 (l.at_ : Int), .int .i64 (l.n : Int), .int .i64 (l.size : Int), .slice A nl c, .string (bst l.stream), .int .u64 la, .int .u64 sy])
  go_enter Tryz.func55, Tryz.ntmps55
  go_upto_region 1 with fail
  generalize w.alloc (.cells #[.int .i64 a, .int .i64 b, .slice A1 n1 c1, .slice A2 n2 c2, .slice A3 n3 c3, .int .i64 (l.at_ : Int), .int .i64 (l.n : Int), .int .i64 (l.size : Int), .slice A nl c, .string (bst l.stream), .int .u64 la, .int .u64 sy] 43) = w1 at *
  have x2 := HX1.out.cell 2
  have x5 := HX1.out.cell 5
  have x7 := HX1.out.cell 7
  go_wp2_with fail
  go_loopw [5, 6] (fun o j wr => ∃ (k : Nat) (acc : List UInt8), k ≤ l.size ∧ acc.length ≤ 512 * k ∧ o = .string (bst acc) ∧ j = .int .i64 (k : Int) ∧ Kept (R = acc ++ segB s.view (l.size - k) ((p : Int) + (k : Int))) ∧ wr = w1) (fun _ j _ => l.size - (intOf j).toNat)
  case atStart => exact ⟨0, [], Nat.zero_le _, Nat.le_refl _, rfl, rfl, HR, rfl⟩
  case round =>
    clear HR
    obtain ⟨k, acc, hk, hal, rfl, rfl, HK, rfl⟩ := hrel
    by_cases hlt : k < l.size
    · have hlt' : (k : Int) < (l.size : Int) := by omega
      obtain ⟨r, hr⟩ : ∃ r, l.size - k = r + 1 := ⟨l.size - k - 1, by omega⟩
      rw [hr] at HK
      have hfk := HF.out ((l.at_ : Int) + (i : Int) * (l.size : Int) + (k : Int)) wr HB1.out
      rw [show s.view ((l.at_ : Int) + (i : Int) * (l.size : Int) + (k : Int)) = s.view ((p : Int) + (k : Int)) by rw [HPI.out]] at hfk
      have hw3 := HW3.out k (by omega)
      have HFK := hid hfk
      clear hfk
      cases hv : s.view ((p : Int) + (k : Int)) with
      | none =>
        have hR := HK.out
        rw [segB_none hv, List.append_nil] at hR
        subst hR
        rw [hv] at HFK
        have hso : (none : Option (List UInt8)).isSome = false := rfl
        rw [hso] at HFK
        clear HK hv
        go_wp2_with fail
        go_fit HFK.out
        rintro e w2 ⟨rfl, rfl⟩
        go_wp2_with fail
        go_ret
        exact ⟨rfl, HB1.out⟩
      | some x =>
        have hxl := HVL.out _ x hv
        rw [hv] at HFK
        have hso : (some x).isSome = true := rfl
        have hsg : (some x).getD [] = x := rfl
        rw [hso, hsg] at HFK
        have hca := bst_append acc x
        have zx := bst_size x
        have za := bst_size acc
        have hsum : ¬ 9223372036854775807 < (bst acc).size + (bst x).size := by rw [zx, za]; omega
        by_cases hs : x.length < 512
        · have hR := HK.out
          rw [segB_short hv hs] at hR
          subst hR
          clear HK hv
          go_wp2_with fail
          go_fit HFK.out
          rintro e w2 ⟨rfl, rfl⟩
          go_wp2_with fail
          go_ret
          exact ⟨rfl, HB1.out⟩
        · have hR := HK.out
          rw [segB_full hv hs, ← List.append_assoc] at hR
          have HK2 := hid (show R = (acc ++ x) ++ segB s.view (l.size - (k + 1)) ((p : Int) + ((k + 1 : Nat) : Int)) by rw [hR, show l.size - (k + 1) = r by omega]; congr 2)
          clear HK hv hR
          go_wp2_with fail
          go_fit HFK.out
          rintro e w2 ⟨rfl, rfl⟩
          go_wp2_with fail
          go_roundw
          case rel => exact ⟨k + 1, acc ++ x, by omega, by rw [List.length_append]; omega, rfl, by go_num, HK2, trivial⟩
          case measure => simp [intOf]; omega
    · have hR := HK.out
      rw [show l.size - k = 0 by omega] at hR
      have hR' : R = acc := by rw [hR]; simp [segB]
      subst hR'
      have hnlt : ¬ (k : Int) < (l.size : Int) := by omega
      clear HK hR
      go_wp2_with fail
      go_ret
      exact ⟨rfl, HB1.out⟩

structure Off2 (g h : Nat) (w w' : World) : Prop where
  size : w'.heap.size = w.heap.size
  block : ∀ k, k ≠ g → k ≠ h → w'.heap[k]? = w.heap[k]?
  os : w'.os = w.os
  tape : w'.tape = w.tape
  output : w'.output = w.output
theorem Off2.refl {g h : Nat} (w : World) : Off2 g h w w := ⟨rfl, fun _ _ _ => rfl, rfl, rfl, rfl⟩
theorem Off2.setg {g h : Nat} {w w' : World} (o : Off2 g h w w') (i : Nat) (u : Value) : Off2 g h w (w'.setCell ⟨g, i, none⟩ u) :=
  ⟨by rw [← o.size]; simp, fun k h1 h2 => (Below.heap_setCell _ _ _ _ h1).trans (o.block k h1 h2), o.os, o.tape, o.output⟩
theorem Off2.seth {g h : Nat} {w w' : World} (o : Off2 g h w w') (i : Nat) (u : Value) : Off2 g h w (w'.setCell ⟨h, i, none⟩ u) :=
  ⟨by rw [← o.size]; simp, fun k h1 h2 => (Below.heap_setCell _ _ _ _ h2).trans (o.block k h1 h2), o.os, o.tape, o.output⟩
theorem Off2.below {g h B : Nat} {w0 w w' : World} (o : Off2 g h w w') (hb : Below B w0 w) (hg : B ≤ g) (hh : B ≤ h) : Below B w0 w' :=
  ⟨o.os.trans hb.os, o.tape.trans hb.tape, o.output.trans hb.output, by rw [o.size]; exact hb.size, fun k hk => (o.block k (by omega) (by omega)).trans (hb.block k hk)⟩
theorem freeN_pend (s : Dk) (p : Int) : ∀ k, (freeN s p k).pend.length ≤ s.pend.length + k
  | 0 => Nat.le_refl _
  | k + 1 => by
    have ih := freeN_pend s p k
    unfold freeN Dk.free
    split
    · omega
    · simp; omega

set_option maxHeartbeats 8000000 in
set_option maxRecDepth 100000 in
theorem sync8_any {P : Nat → Prop} {w : World} {v : Value} {s : Dk} {l : Wl} (h : W8 P w v s l) :
    Calls Tryz.prog 16 #[v] w fun e w' => ∃ v', e = .returned v' ∧ W8 P w' v' s.sync { l with synced := l.last } ∧ Below w.heap.size w w' := by
  obtain ⟨a, b, A1, A2, A3, A, n1, n2, n3, c1, c2, c3, c, rfl, h1, h2, h3, h4⟩ := h.bound.shape
  have HW := hid h
  have HA := hid (And.intro h2 (And.intro h3 h4))
  have HS := hid (fun (W : World) (hW : Below w.heap.size w W) => sync6_any (h1.keep hW.size fun k hk => hW.block k hk.2))
  obtain ⟨nl, hnl⟩ : ∃ nl, nl = l.live.length := ⟨_, rfl⟩
  obtain ⟨la, hla⟩ : ∃ x : Int, x = (l.last : Int) := ⟨_, rfl⟩
  obtain ⟨sy, hsy⟩ : ∃ x : Int, x = (l.synced : Int) := ⟨_, rfl⟩
  rw [← hnl, ← hla, ← hsy]
  have HNL := hid (And.intro hnl (And.intro hla hsy))
  clear hnl hla hsy
  clear h h1 h2 h3 h4
  have HB1 := hid (show Below w.heap.size w ((w.alloc (.cells #[.int .i64 a, .int .i64 b, .slice A1 n1 c1, .slice A2 n2 c2, .slice A3 n3 c3, .int .i64 (l.at_ : Int), .int .i64 (l.n : Int), .int .i64 (l.size : Int), .slice A nl c, .string (bst l.stream), .int .u64 la, .int .u64 sy] 43)).alloc (.cells #[.int .i64 0, .int .i64 0, .slice none 0 0, .slice none 0 0, .slice none 0 0, .int .i64 0, .int .i64 0, .int .i64 0, .slice none 0 0, .string ⟨#[]⟩, .int .u64 0, .int .u64 0] 43)) from ((Below.refl _ _).alloc (Nat.le_refl _) _).alloc (by simp) _)
  have HD1 := hid (show Blk ((w.alloc (.cells #[.int .i64 a, .int .i64 b, .slice A1 n1 c1, .slice A2 n2 c2, .slice A3 n3 c3, .int .i64 (l.at_ : Int), .int .i64 (l.n : Int), .int .i64 (l.size : Int), .slice A nl c, .string (bst l.stream), .int .u64 la, .int .u64 sy] 43)).alloc (.cells #[.int .i64 0, .int .i64 0, .slice none 0 0, .slice none 0 0, .slice none 0 0, .int .i64 0, .int .i64 0, .int .i64 0, .slice none 0 0, .string ⟨#[]⟩, .int .u64 0, .int .u64 0] 43)) w.heap.size 43 #[.int .i64 a, .int .i64 b, .slice A1 n1 c1, .slice A2 n2 c2, .slice A3 n3 c3, .int .i64 (l.at_ : Int), .int .i64 (l.n : Int), .int .i64 (l.size : Int), .slice A nl c, .string (bst l.stream), .int .u64 la, .int .u64 sy] from (Blk.new w _ _).alloc _)
  have hZ := Blk.new (w.alloc (.cells #[.int .i64 a, .int .i64 b, .slice A1 n1 c1, .slice A2 n2 c2, .slice A3 n3 c3, .int .i64 (l.at_ : Int), .int .i64 (l.n : Int), .int .i64 (l.size : Int), .slice A nl c, .string (bst l.stream), .int .u64 la, .int .u64 sy] 43)) 43 #[.int .i64 0, .int .i64 0, .slice none 0 0, .slice none 0 0, .slice none 0 0, .int .i64 0, .int .i64 0, .int .i64 0, .slice none 0 0, .string ⟨#[]⟩, .int .u64 0, .int .u64 0]
  rw [show (w.alloc (.cells #[.int .i64 a, .int .i64 b, .slice A1 n1 c1, .slice A2 n2 c2, .slice A3 n3 c3, .int .i64 (l.at_ : Int), .int .i64 (l.n : Int), .int .i64 (l.size : Int), .slice A nl c, .string (bst l.stream), .int .u64 la, .int .u64 sy] 43)).heap.size = w.heap.size + 1 by simp] at hZ
  have HZ1 := hid hZ
  clear hZ
  go_enter Tryz.func16, Tryz.ntmps16
  go_upto_region 1 with fail
  generalize (w.alloc (.cells #[.int .i64 a, .int .i64 b, .slice A1 n1 c1, .slice A2 n2 c2, .slice A3 n3 c3, .int .i64 (l.at_ : Int), .int .i64 (l.n : Int), .int .i64 (l.size : Int), .slice A nl c, .string (bst l.stream), .int .u64 la, .int .u64 sy] 43)).alloc (.cells #[.int .i64 0, .int .i64 0, .slice none 0 0, .slice none 0 0, .slice none 0 0, .int .i64 0, .int .i64 0, .int .i64 0, .slice none 0 0, .string ⟨#[]⟩, .int .u64 0, .int .u64 0] 43) = w1 at *
  have d0 := HD1.out.cell 0
  have d1 := HD1.out.cell 1
  have d2 := HD1.out.cell 2
  have d3 := HD1.out.cell 3
  have d4 := HD1.out.cell 4
  go_wp2_with fail
  go_fit (HS.out w1 HB1.out)
  rintro e w2 ⟨v', rfl, hd2, hb2⟩
  obtain ⟨a', b', A1', A2', A3', n1', n2', n3', c1', c2', c3', rfl⟩ := hd2.shape
  have HD2 := hid hd2
  have HB2 := hid (HB1.out.trans (hb2.mono HB1.out.size))
  have HX2 := hid (HD1.out.below hb2 HD1.out.lt)
  have HZ2 := hid (HZ1.out.below hb2 HZ1.out.lt)
  clear hd2 hb2 d0 d1 d2 d3 d4 HD1 HZ1 HS
  have d0 := HX2.out.cell 0
  have d1 := HX2.out.cell 1
  have d2 := HX2.out.cell 2
  have d3 := HX2.out.cell 3
  have d4 := HX2.out.cell 4
  have d5 := HX2.out.cell 5
  have d6 := HX2.out.cell 6
  have d7 := HX2.out.cell 7
  have d8 := HX2.out.cell 8
  have d9 := HX2.out.cell 9
  have d10 := HX2.out.cell 10
  have d11 := HX2.out.cell 11
  have z0 := HZ2.out.cell 0
  have f0 := HZ2.out.free 0
  have z1 := HZ2.out.cell 1
  have f1 := HZ2.out.free 1
  have z2 := HZ2.out.cell 2
  have f2 := HZ2.out.free 2
  have z3 := HZ2.out.cell 3
  have f3 := HZ2.out.free 3
  have z4 := HZ2.out.cell 4
  have f4 := HZ2.out.free 4
  have z5 := HZ2.out.cell 5
  have f5 := HZ2.out.free 5
  have z6 := HZ2.out.cell 6
  have f6 := HZ2.out.free 6
  have z7 := HZ2.out.cell 7
  have f7 := HZ2.out.free 7
  have z8 := HZ2.out.cell 8
  have f8 := HZ2.out.free 8
  have z9 := HZ2.out.cell 9
  have f9 := HZ2.out.free 9
  have z10 := HZ2.out.cell 10
  have f10 := HZ2.out.free 10
  have z11 := HZ2.out.cell 11
  have f11 := HZ2.out.free 11
  have g0 := HX2.out.free 0
  have g1 := HX2.out.free 1
  have g2 := HX2.out.free 2
  have g3 := HX2.out.free 3
  have g4 := HX2.out.free 4
  have g11 := HX2.out.free 11
  go_wp2_with fail
  refine bodyPost_ret (v := .agg #[.int .i64 a', .int .i64 b', .slice A1' n1' c1', .slice A2' n2' c2', .slice A3' n3' c3', .int .i64 (l.at_ : Int), .int .i64 (l.n : Int), .int .i64 (l.size : Int), .slice A nl c, .string (bst l.stream), .int .u64 la, .int .u64 la]) (by simp [results, Tryz.results16, go_sem, *]) rfl ⟨_, rfl, ?_⟩
  have key : ∀ wf, Off2 w.heap.size (w.heap.size + 1) w2 wf → W8 P wf (.agg #[.int .i64 a', .int .i64 b', .slice A1' n1' c1', .slice A2' n2' c2', .slice A3' n3' c3', .int .i64 (l.at_ : Int), .int .i64 (l.n : Int), .int .i64 (l.size : Int), .slice A nl c, .string (bst l.stream), .int .u64 la, .int .u64 la]) s.sync { l with synced := l.last } ∧ Below w.heap.size w wf := by
    intro wf ho
    have hb := ho.below HB2.out (Nat.le_refl _) (Nat.le_succ _)
    obtain ⟨g1, g2, g3⟩ := HA.out
    obtain ⟨e1, e2, e3⟩ := HNL.out
    subst e1 e2 e3
    have hw := HW.out
    exact ⟨⟨⟨a', b', A1', A2', A3', A, n1', n2', n3', c1', c2', c3', c, rfl, (HD2.out.keep (by rw [ho.size]; exact Nat.le_refl _) (fun k hk => ho.block k (by omega) (by omega))).weak (fun _ hk => hk.1), (g1.below hb).more hb.size, g2.weak (fun _ hk => hk.1), g3⟩, hw.at_, hw.n, hw.size, hw.live, hw.last, hw.last, hw.stream⟩, hb⟩
  exact key _ (((((((((((((((((((Off2.refl w2).setg 0 _).setg 1 _).setg 2 _).setg 3 _).setg 4 _).setg 11 _).seth 0 _).seth 1 _).seth 2 _).seth 3 _).seth 4 _).seth 5 _).seth 6 _).seth 7 _).seth 8 _).seth 9 _).seth 10 _).seth 11 _)

set_option maxHeartbeats 8000000 in
set_option maxRecDepth 100000 in
theorem free8_any {P : Nat → Prop} {w : World} {v : Value} {s : Dk} {l : Wl} (i : Nat) (h : W8 P w v s l) (hi : i ≤ 64) (hp : s.pend.length ≤ 900000) :
    Calls Tryz.prog 32 #[v, .int .i64 (i : Int)] w fun e w' => ∃ v', e = .returned v' ∧ W8 (fun k => P k ∨ w.heap.size ≤ k) w' v' (freeN s (l.place i) l.size) l ∧ Below w.heap.size w w' := by
  obtain ⟨a, b, A1, A2, A3, A, n1, n2, n3, c1, c2, c3, c, rfl, h1, h2, h3, h4⟩ := h.bound.shape
  have HW := hid h
  have HA := hid (And.intro h2 (And.intro h3 h4))
  have hat := h.at_
  have hsz := h.size
  obtain ⟨p, hpd⟩ : ∃ p : Nat, p = l.at_ + i * l.size := ⟨_, rfl⟩
  have hmul : i * l.size ≤ 64 * 64 := Nat.mul_le_mul hi hsz
  have hpl : p ≤ 70000 := by omega
  have hmi : (i : Int) * (l.size : Int) = ((i * l.size : Nat) : Int) := by simp
  have hw1 : IntKind.i64.wrap ((i : Int) * (l.size : Int)) = (i : Int) * (l.size : Int) := by rw [IntKind.wrap_i64]; omega
  have hw2 : IntKind.i64.wrap ((l.at_ : Int) + (i : Int) * (l.size : Int)) = (l.at_ : Int) + (i : Int) * (l.size : Int) := by rw [IntKind.wrap_i64]; omega
  have HW3 := hid (fun (k : Nat) (hk : k ≤ 64) => show IntKind.i64.wrap ((l.at_ : Int) + (i : Int) * (l.size : Int) + (k : Int)) = (l.at_ : Int) + (i : Int) * (l.size : Int) + (k : Int) by rw [IntKind.wrap_i64]; omega)
  have HPI := hid (show (l.at_ : Int) + (i : Int) * (l.size : Int) = (p : Int) by rw [hpd]; simp)
  have hpe : l.place i = (p : Int) := by unfold Wl.place; rw [hpd]
  rw [hpe]
  have HP := hid hp
  obtain ⟨nl, hnl⟩ : ∃ nl, nl = l.live.length := ⟨_, rfl⟩
  obtain ⟨la, hla⟩ : ∃ x : Int, x = (l.last : Int) := ⟨_, rfl⟩
  obtain ⟨sy, hsy⟩ : ∃ x : Int, x = (l.synced : Int) := ⟨_, rfl⟩
  rw [← hnl, ← hla, ← hsy]
  have HNL := hid (And.intro hnl (And.intro hla hsy))
  clear hnl hla hsy
  have HB1 := hid (show Below w.heap.size w ((w.alloc (.cells #[.int .i64 a, .int .i64 b, .slice A1 n1 c1, .slice A2 n2 c2, .slice A3 n3 c3, .int .i64 (l.at_ : Int), .int .i64 (l.n : Int), .int .i64 (l.size : Int), .slice A nl c, .string (bst l.stream), .int .u64 la, .int .u64 sy] 43)).alloc (.cells #[.int .i64 0, .int .i64 0, .slice none 0 0, .slice none 0 0, .slice none 0 0, .int .i64 0, .int .i64 0, .int .i64 0, .slice none 0 0, .string ⟨#[]⟩, .int .u64 0, .int .u64 0] 43)) from ((Below.refl _ _).alloc (Nat.le_refl _) _).alloc (by simp) _)
  have HD1 := hid (show Blk ((w.alloc (.cells #[.int .i64 a, .int .i64 b, .slice A1 n1 c1, .slice A2 n2 c2, .slice A3 n3 c3, .int .i64 (l.at_ : Int), .int .i64 (l.n : Int), .int .i64 (l.size : Int), .slice A nl c, .string (bst l.stream), .int .u64 la, .int .u64 sy] 43)).alloc (.cells #[.int .i64 0, .int .i64 0, .slice none 0 0, .slice none 0 0, .slice none 0 0, .int .i64 0, .int .i64 0, .int .i64 0, .slice none 0 0, .string ⟨#[]⟩, .int .u64 0, .int .u64 0] 43)) w.heap.size 43 #[.int .i64 a, .int .i64 b, .slice A1 n1 c1, .slice A2 n2 c2, .slice A3 n3 c3, .int .i64 (l.at_ : Int), .int .i64 (l.n : Int), .int .i64 (l.size : Int), .slice A nl c, .string (bst l.stream), .int .u64 la, .int .u64 sy] from (Blk.new w _ _).alloc _)
  have hZ := Blk.new (w.alloc (.cells #[.int .i64 a, .int .i64 b, .slice A1 n1 c1, .slice A2 n2 c2, .slice A3 n3 c3, .int .i64 (l.at_ : Int), .int .i64 (l.n : Int), .int .i64 (l.size : Int), .slice A nl c, .string (bst l.stream), .int .u64 la, .int .u64 sy] 43)) 43 #[.int .i64 0, .int .i64 0, .slice none 0 0, .slice none 0 0, .slice none 0 0, .int .i64 0, .int .i64 0, .int .i64 0, .slice none 0 0, .string ⟨#[]⟩, .int .u64 0, .int .u64 0]
  rw [show (w.alloc (.cells #[.int .i64 a, .int .i64 b, .slice A1 n1 c1, .slice A2 n2 c2, .slice A3 n3 c3, .int .i64 (l.at_ : Int), .int .i64 (l.n : Int), .int .i64 (l.size : Int), .slice A nl c, .string (bst l.stream), .int .u64 la, .int .u64 sy] 43)).heap.size = w.heap.size + 1 by simp] at hZ
  have HZ1 := hid hZ
  clear hZ
  have HD0 := hid (show D6 (fun k => (P k ∧ k < w.heap.size) ∨ w.heap.size + 2 ≤ k) ((w.alloc (.cells #[.int .i64 a, .int .i64 b, .slice A1 n1 c1, .slice A2 n2 c2, .slice A3 n3 c3, .int .i64 (l.at_ : Int), .int .i64 (l.n : Int), .int .i64 (l.size : Int), .slice A nl c, .string (bst l.stream), .int .u64 la, .int .u64 sy] 43)).alloc (.cells #[.int .i64 0, .int .i64 0, .slice none 0 0, .slice none 0 0, .slice none 0 0, .int .i64 0, .int .i64 0, .int .i64 0, .slice none 0 0, .string ⟨#[]⟩, .int .u64 0, .int .u64 0] 43)) (.agg #[.int .i64 a, .int .i64 b, .slice A1 n1 c1, .slice A2 n2 c2, .slice A3 n3 c3]) (freeN s (p : Int) 0) from (h1.keep HB1.out.size (fun k hk => HB1.out.block k hk.2)).weak fun _ hk => .inl hk)
  clear h h1 h2 h3 h4 hpd hmul hpl hmi hpe hp
  go_enter Tryz.func32, Tryz.ntmps32
  go_upto_region 1 with fail
  generalize (w.alloc (.cells #[.int .i64 a, .int .i64 b, .slice A1 n1 c1, .slice A2 n2 c2, .slice A3 n3 c3, .int .i64 (l.at_ : Int), .int .i64 (l.n : Int), .int .i64 (l.size : Int), .slice A nl c, .string (bst l.stream), .int .u64 la, .int .u64 sy] 43)).alloc (.cells #[.int .i64 0, .int .i64 0, .slice none 0 0, .slice none 0 0, .slice none 0 0, .int .i64 0, .int .i64 0, .int .i64 0, .slice none 0 0, .string ⟨#[]⟩, .int .u64 0, .int .u64 0] 43) = w1 at *
  go_upto_region 2 with fail
  go_loopw [5] (fun j wr => ∃ (k : Nat) (a b : Int) (A1 A2 A3 : Option Addr) (n1 n2 n3 c1 c2 c3 : Nat), k ≤ l.size ∧ j = .int .i64 (k : Int) ∧ Kept (Blk wr w.heap.size 43 #[.int .i64 a, .int .i64 b, .slice A1 n1 c1, .slice A2 n2 c2, .slice A3 n3 c3, .int .i64 (l.at_ : Int), .int .i64 (l.n : Int), .int .i64 (l.size : Int), .slice A nl c, .string (bst l.stream), .int .u64 la, .int .u64 sy]) ∧ Kept (Blk wr (w.heap.size + 1) 43 #[.int .i64 0, .int .i64 0, .slice none 0 0, .slice none 0 0, .slice none 0 0, .int .i64 0, .int .i64 0, .int .i64 0, .slice none 0 0, .string ⟨#[]⟩, .int .u64 0, .int .u64 0]) ∧ Kept (Below w.heap.size w wr) ∧ Kept (D6 (fun k => (P k ∧ k < w.heap.size) ∨ w.heap.size + 2 ≤ k) wr (.agg #[.int .i64 a, .int .i64 b, .slice A1 n1 c1, .slice A2 n2 c2, .slice A3 n3 c3]) (freeN s (p : Int) k))) (fun j _ => l.size - (intOf j).toNat)
  case atStart => exact ⟨0, a, b, A1, A2, A3, n1, n2, n3, c1, c2, c3, Nat.zero_le _, rfl, HD1, HZ1, HB1, HD0⟩
  case round =>
    clear HD0 HD1 HZ1 HB1
    obtain ⟨k, a, b, A1, A2, A3, n1, n2, n3, c1, c2, c3, hk, rfl, HX, HZ, HB, HD⟩ := hrel
    have d0 := HX.out.cell 0
    have d1 := HX.out.cell 1
    have d2 := HX.out.cell 2
    have d3 := HX.out.cell 3
    have d4 := HX.out.cell 4
    have d5 := HX.out.cell 5
    have d6 := HX.out.cell 6
    have d7 := HX.out.cell 7
    have d8 := HX.out.cell 8
    have d9 := HX.out.cell 9
    have d10 := HX.out.cell 10
    have d11 := HX.out.cell 11
    by_cases hlt : k < l.size
    · have hlt' : (k : Int) < (l.size : Int) := by omega
      have hw3 := HW3.out k (by omega)
      have hfp := freeN_pend s (p : Int) k
      have hf := free6_any ((l.at_ : Int) + (i : Int) * (l.size : Int) + (k : Int)) HD.out.bound (by have := HP.out; omega)
      rw [show (freeN s (p : Int) k).free ((l.at_ : Int) + (i : Int) * (l.size : Int) + (k : Int)) = freeN s (p : Int) (k + 1) by rw [HPI.out]; rfl] at hf
      have HF := hid hf
      clear hf hfp
      go_wp2_with fail
      go_fit HF.out
      rintro e w5 ⟨v', rfl, hd5, hb5⟩
      obtain ⟨a', b', A1', A2', A3', n1', n2', n3', c1', c2', c3', rfl⟩ := hd5.shape
      have HD5 := hid hd5
      have HB5 := hid (HB.out.trans (hb5.mono HB.out.size))
      have HX5 := hid (HX.out.below hb5 HX.out.lt)
      have HZ5 := hid (HZ.out.below hb5 HZ.out.lt)
      have HZL := hid HZ.out.lt
      clear hd5 hb5 d0 d1 d2 d3 d4 d5 d6 d7 d8 d9 d10 d11
      have e0 := HX5.out.cell 0
      have g0 := HX5.out.free 0
      have e1 := HX5.out.cell 1
      have g1 := HX5.out.free 1
      have e2 := HX5.out.cell 2
      have g2 := HX5.out.free 2
      have e3 := HX5.out.cell 3
      have g3 := HX5.out.free 3
      have e4 := HX5.out.cell 4
      have g4 := HX5.out.free 4
      go_wp2_with fail
      go_roundw
      case rel =>
        have hzl := HZL.out
        refine ⟨k + 1, a', b', A1', A2', A3', n1', n2', n3', c1', c2', c3', by omega, by go_num, hid (((((HX5.out.set 0 _).set 1 _).set 2 _).set 3 _).set 4 _), hid (((((HZ5.out.far (by simp) _).far (by simp) _).far (by simp) _).far (by simp) _).far (by simp) _), hid (((((HB5.out.setCell (p := ⟨w.heap.size, 0, none⟩) (Nat.le_refl _) _).setCell (p := ⟨w.heap.size, 1, none⟩) (Nat.le_refl _) _).setCell (p := ⟨w.heap.size, 2, none⟩) (Nat.le_refl _) _).setCell (p := ⟨w.heap.size, 3, none⟩) (Nat.le_refl _) _).setCell (p := ⟨w.heap.size, 4, none⟩) (Nat.le_refl _) _), hid ?_⟩
        refine D6.weak (P := fun k => (((fun k => (P k ∧ k < w.heap.size) ∨ w.heap.size + 2 ≤ k) k) ∧ k < wr.heap.size) ∨ wr.heap.size ≤ k) (HD5.out.keep (by simp) (fun k hk => keep5 (g := w.heap.size) ?_)) (fun k hk => ?_)
        · rcases hk with ⟨hk | hk, _⟩ | hk <;> omega
        · rcases hk with ⟨hk, _⟩ | hk
          · exact hk
          · exact .inr (by omega)
      case measure => simp [intOf]; omega
    · have hnlt : ¬ (k : Int) < (l.size : Int) := by omega
      obtain rfl : k = l.size := by omega
      have z0 := HZ.out.cell 0
      have f0 := HZ.out.free 0
      have z1 := HZ.out.cell 1
      have f1 := HZ.out.free 1
      have z2 := HZ.out.cell 2
      have f2 := HZ.out.free 2
      have z3 := HZ.out.cell 3
      have f3 := HZ.out.free 3
      have z4 := HZ.out.cell 4
      have f4 := HZ.out.free 4
      have z5 := HZ.out.cell 5
      have f5 := HZ.out.free 5
      have z6 := HZ.out.cell 6
      have f6 := HZ.out.free 6
      have z7 := HZ.out.cell 7
      have f7 := HZ.out.free 7
      have z8 := HZ.out.cell 8
      have f8 := HZ.out.free 8
      have z9 := HZ.out.cell 9
      have f9 := HZ.out.free 9
      have z10 := HZ.out.cell 10
      have f10 := HZ.out.free 10
      have z11 := HZ.out.cell 11
      have f11 := HZ.out.free 11
      go_wp2_with fail
      refine bodyPost_ret (v := .agg #[.int .i64 a, .int .i64 b, .slice A1 n1 c1, .slice A2 n2 c2, .slice A3 n3 c3, .int .i64 (l.at_ : Int), .int .i64 (l.n : Int), .int .i64 (l.size : Int), .slice A nl c, .string (bst l.stream), .int .u64 la, .int .u64 sy]) (by simp [results, Tryz.results32, go_sem, *]) rfl ⟨_, rfl, ?_⟩
      have key : ∀ wf, Off2 w.heap.size (w.heap.size + 1) wr wf → W8 (fun k => P k ∨ w.heap.size ≤ k) wf (.agg #[.int .i64 a, .int .i64 b, .slice A1 n1 c1, .slice A2 n2 c2, .slice A3 n3 c3, .int .i64 (l.at_ : Int), .int .i64 (l.n : Int), .int .i64 (l.size : Int), .slice A nl c, .string (bst l.stream), .int .u64 la, .int .u64 sy]) (freeN s (p : Int) l.size) l ∧ Below w.heap.size w wf := by
        intro wf ho
        have hb := ho.below HB.out (Nat.le_refl _) (Nat.le_succ _)
        obtain ⟨g1, g2, g3⟩ := HA.out
        obtain ⟨e1, e2, e3⟩ := HNL.out
        subst e1 e2 e3
        have hw := HW.out
        refine ⟨⟨⟨a, b, A1, A2, A3, A, n1, n2, n3, c1, c2, c3, c, rfl, (HD.out.keep (by rw [ho.size]; exact Nat.le_refl _) (fun k hk => ho.block k ?_ ?_)).weak (fun k hk => ?_), (g1.below hb).more hb.size, g2.weak (fun _ hk => .inl hk.1), g3⟩, hw.at_, hw.n, hw.size, hw.live, hw.last, hw.synced, hw.stream⟩, hb⟩
        · rcases hk with hk | hk <;> omega
        · rcases hk with hk | hk <;> omega
        · rcases hk with hk | hk
          · exact .inl hk.1
          · exact .inr (by omega)
      exact key _ (((((((((((((Off2.refl wr).seth 0 _).seth 1 _).seth 2 _).seth 3 _).seth 4 _).seth 5 _).seth 6 _).seth 7 _).seth 8 _).seth 9 _).seth 10 _).seth 11 _)

set_option maxHeartbeats 8000000 in
set_option maxRecDepth 100000 in
theorem look8_any {P : Nat → Prop} {w : World} {v : Value} {s : Dk} {l : Wl} (i : Nat) (h : W8 P w v s l) (hi : i ≤ 64) :
    Calls Tryz.prog 30 #[v, .int .i64 (i : Int)] w fun e w' => ∃ A m c, e = .returned (.tuple #[.int .u64 ((((l.look s.view i).map (·.1)).getD 0 : Nat) : Int), .slice A m c, .bool (l.look s.view i).isSome]) ∧
      RcRow w' w.heap.size A m c (((l.look s.view i).map (·.2)).getD []) ∧ Below w.heap.size w w' := by
  have HBY := hid (fun (W : World) (hW : Below w.heap.size w W) => bytes8_any i (h.step hW) hi)
  obtain ⟨a, b, A1, A2, A3, A, n1, n2, n3, c1, c2, c3, c, rfl, h1, h2, h3, h4⟩ := h.shape
  have hsl : (segB s.view l.size (l.place i)).length ≤ 512 * l.size := segB_le (fun p b hb => (h1.view_le hb).1) _ _
  have hsz := h.size
  have hlk : l.look s.view i = lookB (segB s.view l.size (l.place i)) := rfl
  rw [hlk]
  generalize segB s.view l.size (l.place i) = B at *
  have hB : B.length ≤ 40000 := by omega
  generalize (l.at_ : Int) = at_ at *
  generalize (l.n : Int) = n at *
  generalize (l.size : Int) = size at *
  generalize l.live.length = nl at *
  generalize bst l.stream = sm at *
  generalize (l.last : Int) = la at *
  generalize (l.synced : Int) = sy at *
  have zB := bst_size B
  have HG := hid (fun (W : World) => refRGet_any B W (by omega))
  clear h h1 h2 h3 h4 hsl hlk
  have HB1 := hid (show Below w.heap.size w (w.alloc (.cells #[.int .i64 a, .int .i64 b, .slice A1 n1 c1, .slice A2 n2 c2, .slice A3 n3 c3, .int .i64 at_, .int .i64 n, .int .i64 size, .slice A nl c, .string sm, .int .u64 la, .int .u64 sy] 43)) from (Below.refl _ _).alloc (Nat.le_refl _) _)
  have HD1 := hid (Blk.new w 43 #[.int .i64 a, .int .i64 b, .slice A1 n1 c1, .slice A2 n2 c2, .slice A3 n3 c3, .int .i64 at_, .int .i64 n, .int .i64 size, .slice A nl c, .string sm, .int .u64 la, .int .u64 sy])
  unfold lookB
  cases hg : rget B with
  | none =>
    rw [hg] at HG
    unfold recV at HG
    dsimp only at HG
    show Calls _ _ _ _ fun e w' => ∃ A m c, e = .returned (.tuple #[.int .u64 0, .slice A m c, .bool false]) ∧ RcRow w' w.heap.size A m c [] ∧ Below w.heap.size w w'
    clear hg
    go_enter Tryz.func30, Tryz.ntmps30
    go_upto_region 1 with fail
    generalize w.alloc (.cells #[.int .i64 a, .int .i64 b, .slice A1 n1 c1, .slice A2 n2 c2, .slice A3 n3 c3, .int .i64 at_, .int .i64 n, .int .i64 size, .slice A nl c, .string sm, .int .u64 la, .int .u64 sy] 43) = w1 at *
    have d0 := HD1.out.cell 0
    have d1 := HD1.out.cell 1
    have d2 := HD1.out.cell 2
    have d3 := HD1.out.cell 3
    have d4 := HD1.out.cell 4
    have d5 := HD1.out.cell 5
    have d6 := HD1.out.cell 6
    have d7 := HD1.out.cell 7
    have d8 := HD1.out.cell 8
    have d9 := HD1.out.cell 9
    have d10 := HD1.out.cell 10
    have d11 := HD1.out.cell 11
    go_wp2_with fail
    go_fit (HBY.out w1 HB1.out)
    rintro e w2 ⟨rfl, hb2⟩
    have HB2 := hid (below_step HB1.out hb2)
    clear hb2 d0 d1 d2 d3 d4 d5 d6 d7 d8 d9 d10 d11
    go_wp2_with fail
    go_fit (HG.out w2)
    rintro e w3 ⟨rfl, hb3⟩
    have HB3 := hid (below_step HB2.out hb3)
    clear hb3
    go_wp2_with fail
    go_ret3
    exact ⟨none, 0, 0, rfl, RcRow.nil _ _, HB3.out.alloc HB3.out.size _⟩
  | some x =>
    obtain ⟨q, hh, k⟩ := x
    have hk := rget_len hg
    have HQL := hid (rget_some hg).1
    rw [hg] at HG
    unfold recV at HG
    dsimp only at HG ⊢
    clear hg
    have zh := bst_size hh
    by_cases hd : hh = hdr
    · rw [if_pos hd]
      show Calls _ _ _ _ fun e w' => ∃ A m c, e = .returned (.tuple #[.int .u64 (q : Int), .slice A m c, .bool true]) ∧ RcRow w' w.heap.size A m c (rscan (B.drop k) q).1 ∧ Below w.heap.size w w'
      have hdb : ((bst hh).toList == [115, 101, 103, 109, 101, 110, 116]) = true := by rw [bst_toList, hd]; rfl
      have hdrp := bstDrop B k
      clear hd
      have hdl : (B.drop k).length ≤ 70000 := by rw [List.length_drop]; omega
      have hq : q < 18446744073709551616 := HQL.out
      have HSC := hid (fun (W : World) => refRScan_any (B.drop k) q W hdl hq)
      generalize rscan (B.drop k) q = R at *
      clear hdl hq
      go_enter Tryz.func30, Tryz.ntmps30
      go_upto_region 1 with fail
      generalize w.alloc (.cells #[.int .i64 a, .int .i64 b, .slice A1 n1 c1, .slice A2 n2 c2, .slice A3 n3 c3, .int .i64 at_, .int .i64 n, .int .i64 size, .slice A nl c, .string sm, .int .u64 la, .int .u64 sy] 43) = w1 at *
      have d0 := HD1.out.cell 0
      have d1 := HD1.out.cell 1
      have d2 := HD1.out.cell 2
      have d3 := HD1.out.cell 3
      have d4 := HD1.out.cell 4
      have d5 := HD1.out.cell 5
      have d6 := HD1.out.cell 6
      have d7 := HD1.out.cell 7
      have d8 := HD1.out.cell 8
      have d9 := HD1.out.cell 9
      have d10 := HD1.out.cell 10
      have d11 := HD1.out.cell 11
      go_wp2_with fail
      go_fit (HBY.out w1 HB1.out)
      rintro e w2 ⟨rfl, hb2⟩
      have HB2 := hid (below_step HB1.out hb2)
      clear hb2 d0 d1 d2 d3 d4 d5 d6 d7 d8 d9 d10 d11
      go_wp2_with fail
      go_fit (HG.out w2)
      rintro e w3 ⟨rfl, hb3⟩
      have HB3 := hid (below_step HB2.out hb3)
      clear hb3
      have HB4 := hid (HB3.out.alloc HB3.out.size (.cells #[.int .u64 (q : Int), .string (bst hh)] 70))
      have hx4 := Blk.new w3 70 #[.int .u64 (q : Int), .string (bst hh)]
      have HX4 := hid hx4
      go_upto_region 3 with fail
      generalize hwe : w3.alloc (.cells #[.int .u64 (q : Int), .string (bst hh)] 70) = w4 at *
      have r1 := HX4.out.cell 1
      go_upto_region 5 with fail
      have r0 : ∀ W, Beyond w4 W → W.cell? ⟨w3.heap.size, 0, none⟩ = some (.int .u64 (q : Int)) := fun W hW => (Below.cell (p := ⟨w3.heap.size, 0, none⟩) hW HX4.out.lt).trans (HX4.out.cell 0)
      clear hwe r1 hx4
      refine wp_region_held_drew (S := Beyond w4) (by kernel_rfl) (Beyond.drew _) (fun hS => ?_)
      refine stT 0 hS ?_; (try simp only [putr]); refine stT 1 hS ?_; (try simp only [putr]); refine stT 2 hS ?_; (try simp only [putr]); refine stT 3 hS ?_; (try simp only [putr]); refine stT 4 hS ?_; (try simp only [putr]); refine rdH [5] ?_; refine rcH (fun K hK => ?_) AllReadyH.nil; go_simp
      go_fit (HSC.out _)
      rintro e w6 ⟨A6, m6, c6, rfl, hr6, hb6⟩
      have hS5 := Below.trans hS (hb6.mono (Below.size hS))
      have HB6 := hid (HB4.out.trans (hS5.mono HB4.out.size))
      have HR6 := hid (show RcRow w6 w.heap.size A6 m6 c6 R.1 from ⟨hr6.1, Joins.ownsRow_le hr6.2 (Nat.le_trans HB4.out.size (Below.size hS))⟩)
      have HX6 := hid (HX4.out.below hS5 HX4.out.lt)
      clear hr6 hb6
      refine hK.out _ _ (by assumption) (fun _ => ?_); clear hK K hS; have hS := hS5; (try simp only [putr]); refine stT 6 hS ?_; (try simp only [putr]); refine stT 7 hS ?_; (try simp only [putr]); refine stT 8 hS ?_; (try simp only [putr]); refine stT 9 hS ?_; (try simp only [putr]); refine stT 10 hS ?_; (try simp only [putr]); refine wpAnyH_done (by kernel_rfl) ?_ _
      have r0 := HX6.out.cell 0
      clear hS hS5
      go_wp2_with fail
      go_ret3
      exact ⟨A6, m6, c6, rfl, HR6.out, HB6.out⟩
    · rw [if_neg hd]
      show Calls _ _ _ _ fun e w' => ∃ A m c, e = .returned (.tuple #[.int .u64 0, .slice A m c, .bool false]) ∧ RcRow w' w.heap.size A m c [] ∧ Below w.heap.size w w'
      have hdb : ((bst hh).toList == [115, 101, 103, 109, 101, 110, 116]) = false := by rw [bst_toList]; simpa [hdr] using hd
      go_enter Tryz.func30, Tryz.ntmps30
      go_upto_region 1 with fail
      generalize w.alloc (.cells #[.int .i64 a, .int .i64 b, .slice A1 n1 c1, .slice A2 n2 c2, .slice A3 n3 c3, .int .i64 at_, .int .i64 n, .int .i64 size, .slice A nl c, .string sm, .int .u64 la, .int .u64 sy] 43) = w1 at *
      have d0 := HD1.out.cell 0
      have d1 := HD1.out.cell 1
      have d2 := HD1.out.cell 2
      have d3 := HD1.out.cell 3
      have d4 := HD1.out.cell 4
      have d5 := HD1.out.cell 5
      have d6 := HD1.out.cell 6
      have d7 := HD1.out.cell 7
      have d8 := HD1.out.cell 8
      have d9 := HD1.out.cell 9
      have d10 := HD1.out.cell 10
      have d11 := HD1.out.cell 11
      go_wp2_with fail
      go_fit (HBY.out w1 HB1.out)
      rintro e w2 ⟨rfl, hb2⟩
      have HB2 := hid (below_step HB1.out hb2)
      clear hb2 d0 d1 d2 d3 d4 d5 d6 d7 d8 d9 d10 d11
      go_wp2_with fail
      go_fit (HG.out w2)
      rintro e w3 ⟨rfl, hb3⟩
      have HB3 := hid (below_step HB2.out hb3)
      clear hb3
      go_wp2_with fail
      go_ret3
      exact ⟨none, 0, 0, rfl, RcRow.nil _ _, HB3.out.alloc HB3.out.size _⟩

set_option maxHeartbeats 4000000 in
set_option maxRecDepth 100000 in
theorem open8_no {P : Nat → Prop} {w : World} {v : Value} {s : Dk} {at_ n size fr : Int} (h : D6 P w v s) (hno : n < 2 ∨ 64 < n ∨ size < 1 ∨ 64 < size ∨ at_ < 0 ∨ 65536 - n * size < at_) (hat : at_ ≤ 9223372036854775807) :
    Calls Tryz.prog 8 #[v, .int .i64 at_, .int .i64 n, .int .i64 size, .int .u64 fr] w fun e w' => e = .returned (.tuple #[.agg #[.int .i64 0, .int .i64 0, .slice none 0 0, .slice none 0 0, .slice none 0 0, .int .i64 0, .int .i64 0, .int .i64 0, .slice none 0 0, .string ⟨#[]⟩, .int .u64 0, .int .u64 0], .slice none 0 0, .int .i64 80]) ∧ Below w.heap.size w w' := by
  obtain ⟨a, b, A1, A2, A3, n1, n2, n3, c1, c2, c3, rfl⟩ := h.shape
  clear h
  by_cases g1 : n < 2
  · clear hno
    go_enter Tryz.func8, Tryz.ntmps8
    go_wp2_with fail
    refine bodyPost_ret (v := .tuple #[.agg #[.int .i64 0, .int .i64 0, .slice none 0 0, .slice none 0 0, .slice none 0 0, .int .i64 0, .int .i64 0, .int .i64 0, .slice none 0 0, .string ⟨#[]⟩, .int .u64 0, .int .u64 0], .slice none 0 0, .int .i64 80]) (by simp [results, Tryz.results8, go_sem, *]) rfl ⟨rfl, ?_⟩
    exact ((Below.refl _ _).alloc (Nat.le_refl _) _).alloc (by simp) _
  by_cases g2 : n > 64
  · clear hno
    go_enter Tryz.func8, Tryz.ntmps8
    go_wp2_with fail
    refine bodyPost_ret (v := .tuple #[.agg #[.int .i64 0, .int .i64 0, .slice none 0 0, .slice none 0 0, .slice none 0 0, .int .i64 0, .int .i64 0, .int .i64 0, .slice none 0 0, .string ⟨#[]⟩, .int .u64 0, .int .u64 0], .slice none 0 0, .int .i64 80]) (by simp [results, Tryz.results8, go_sem, *]) rfl ⟨rfl, ?_⟩
    exact ((Below.refl _ _).alloc (Nat.le_refl _) _).alloc (by simp) _
  by_cases g3 : size < 1
  · clear hno
    go_enter Tryz.func8, Tryz.ntmps8
    go_wp2_with fail
    refine bodyPost_ret (v := .tuple #[.agg #[.int .i64 0, .int .i64 0, .slice none 0 0, .slice none 0 0, .slice none 0 0, .int .i64 0, .int .i64 0, .int .i64 0, .slice none 0 0, .string ⟨#[]⟩, .int .u64 0, .int .u64 0], .slice none 0 0, .int .i64 80]) (by simp [results, Tryz.results8, go_sem, *]) rfl ⟨rfl, ?_⟩
    exact ((Below.refl _ _).alloc (Nat.le_refl _) _).alloc (by simp) _
  by_cases g4 : size > 64
  · clear hno
    go_enter Tryz.func8, Tryz.ntmps8
    go_wp2_with fail
    refine bodyPost_ret (v := .tuple #[.agg #[.int .i64 0, .int .i64 0, .slice none 0 0, .slice none 0 0, .slice none 0 0, .int .i64 0, .int .i64 0, .int .i64 0, .slice none 0 0, .string ⟨#[]⟩, .int .u64 0, .int .u64 0], .slice none 0 0, .int .i64 80]) (by simp [results, Tryz.results8, go_sem, *]) rfl ⟨rfl, ?_⟩
    exact ((Below.refl _ _).alloc (Nat.le_refl _) _).alloc (by simp) _
  by_cases g5 : at_ < 0
  · clear hno
    go_enter Tryz.func8, Tryz.ntmps8
    go_wp2_with fail
    refine bodyPost_ret (v := .tuple #[.agg #[.int .i64 0, .int .i64 0, .slice none 0 0, .slice none 0 0, .slice none 0 0, .int .i64 0, .int .i64 0, .int .i64 0, .slice none 0 0, .string ⟨#[]⟩, .int .u64 0, .int .u64 0], .slice none 0 0, .int .i64 80]) (by simp [results, Tryz.results8, go_sem, *]) rfl ⟨rfl, ?_⟩
    exact ((Below.refl _ _).alloc (Nat.le_refl _) _).alloc (by simp) _
  have g6 : at_ > 65536 - n * size := by omega
  have hp : 0 ≤ n * size ∧ n * size ≤ 4096 := by
    obtain ⟨x, hx⟩ : ∃ x : Nat, n = (x : Int) := ⟨n.toNat, by omega⟩
    obtain ⟨y, hy⟩ : ∃ y : Nat, size = (y : Int) := ⟨size.toNat, by omega⟩
    subst hx hy
    have hm : (x : Int) * (y : Int) = ((x * y : Nat) : Int) := by simp
    have hl : x * y ≤ 64 * 64 := Nat.mul_le_mul (by omega) (by omega)
    rw [hm]
    omega
  have hwm : IntKind.i64.wrap (n * size) = n * size := by rw [IntKind.wrap_i64]; omega
  have hws : IntKind.i64.wrap (65536 - n * size) = 65536 - n * size := by rw [IntKind.wrap_i64]; omega
  clear hno hp
  go_enter Tryz.func8, Tryz.ntmps8
  go_wp2_with fail
  refine bodyPost_ret (v := .tuple #[.agg #[.int .i64 0, .int .i64 0, .slice none 0 0, .slice none 0 0, .slice none 0 0, .int .i64 0, .int .i64 0, .int .i64 0, .slice none 0 0, .string ⟨#[]⟩, .int .u64 0, .int .u64 0], .slice none 0 0, .int .i64 80]) (by simp [results, Tryz.results8, go_sem, *]) rfl ⟨rfl, ?_⟩
  exact ((Below.refl _ _).alloc (Nat.le_refl _) _).alloc (by simp) _

end Go.Proofs.YtobmdmbjmjdfjaaGreatDoor
