/-
  Segments in a slice; the greatest one that matches.
-/
import Derived.Test.YtobmdmbjmjdfjaaGreatDoorWRead
namespace Go.Proofs.YtobmdmbjmjdfjaaGreatDoor
open Go Go.RowKit

structure Vr where
  i : Nat
  base : Nat
  A : Option Addr
  m : Nat
  c : Nat
def eVr : Enc Vr := ⟨3, fun x => [.int .i64 (x.i : Int), .int .u64 (x.base : Int), .slice x.A x.m x.c], fun _ => rfl, fun _ u h => by simp at h; rcases h with rfl | rfl | rfl <;> rfl, by decide⟩
theorem GAt.vr {w : World} {B i : Nat} {A : Option Addr} {l : List Vr} (h : GAt eVr w B A l) (hi : i < l.length) : ∃ b off x, A = some ⟨b, off, none⟩ ∧ b < B ∧ l[i]? = some x ∧ w.cell? ⟨b, off + i * 3, none⟩ = some (.int .i64 (x.i : Int)) ∧ w.cell? ⟨b, off + i * 3 + 1, none⟩ = some (.int .u64 (x.base : Int)) ∧ w.cell? ⟨b, off + i * 3 + 2, none⟩ = some (.slice x.A x.m x.c) := by
  obtain ⟨b, off, x, e, hb, hx, hc⟩ := h.get hi
  exact ⟨b, off, x, e, hb, hx, hc 0 _ rfl, hc 1 _ rfl, hc 2 _ rfl⟩
def vrC : Option Vr → Array Value
  | none => #[.int .i64 0, .int .u64 0, .slice none 0 0]
  | some x => #[.int .i64 (x.i : Int), .int .u64 (x.base : Int), .slice x.A x.m x.c]
def vrV (o : Option Vr) : Value := .agg (vrC o)
def gstep (p : Vr → Bool) (a : Option Vr) (x : Vr) : Option Vr := if p x && (match a with | none => true | some y => decide (y.base < x.base)) then some x else a
def grt (p : Vr → Bool) (l : List Vr) : Option Vr := l.foldl (gstep p) none
theorem grt_step {p : Vr → Bool} {l : List Vr} {i : Nat} {x : Vr} (h : l[i]? = some x) : grt p (l.take (i + 1)) = gstep p (grt p (l.take i)) x := by
  unfold grt
  rw [List.take_add_one, h, List.foldl_append]
  rfl

theorem eql_en (x y : En) (W : World) : (binOp .eql 73 (.agg #[.int .i64 (x.1 : Int), .int .u64 (x.2 : Int)]) (.agg #[.int .i64 (y.1 : Int), .int .u64 (y.2 : Int)])).run Tryz.prog W = .ok (.bool (x == y)) W := by
  have e : (x == y) = (((x.1 : Int) == (y.1 : Int)) && ((x.2 : Int) == (y.2 : Int))) := by
    rw [Bool.eq_iff_iff]
    obtain ⟨a, b⟩ := x
    obtain ⟨a', b'⟩ := y
    simp
    omega
  rw [e]
  cases e1 : ((x.1 : Int) == (y.1 : Int)) <;> cases e2 : ((x.2 : Int) == (y.2 : Int)) <;> go_simp
set_option maxHeartbeats 8000000 in
set_option maxRecDepth 100000 in
theorem index2_en {w : World} {A : Option Addr} {n c B : Nat} {l : List En} (x : En) (hA : GAt eEn w B A l) (hn : n = l.length) (hB : B ≤ w.heap.size) (hll : l.length ≤ 1000) :
    Calls Tryz.prog 76 #[.slice A n c, .agg #[.int .i64 (x.1 : Int), .int .u64 (x.2 : Int)]] w fun e w' => IxIs (l.any fun y => x == y) e ∧ Below w.heap.size w w' := by
  have HA := hid (hA.more hB)
  have HN := hid hn
  have hll : n ≤ 1000 := by omega
  have HX := hid (Blk.new w 73 #[.int .i64 (x.1 : Int), .int .u64 (x.2 : Int)])
  have HB0 := hid (show Below w.heap.size w (w.alloc (.cells #[.int .i64 (x.1 : Int), .int .u64 (x.2 : Int)] 73)) from (Below.refl _ _).alloc (Nat.le_refl _) _)
  clear hA hn hB
  go_enter Tryz.func76, Tryz.ntmps76
  go_upto_region 1 with fail
  generalize w.alloc (.cells #[.int .i64 (x.1 : Int), .int .u64 (x.2 : Int)] 73) = w1 at *
  go_wp2_with fail
  go_loopw [8] (fun j wr => ∃ i : Nat, i ≤ n ∧ j = .int .i64 (i : Int) ∧ Kept ((l.any fun y => x == y) = ((l.drop i).any fun y => x == y)) ∧ Kept (Below w.heap.size w wr) ∧ Kept (Blk wr w.heap.size 73 #[.int .i64 (x.1 : Int), .int .u64 (x.2 : Int)])) (fun j _ => n - (intOf j).toNat)
  case atStart => exact ⟨0, Nat.zero_le _, rfl, hid rfl, HB0, HX⟩
  case round =>
    clear HB0 HX
    obtain ⟨i, hi, rfl, HK, HB, HX⟩ := hrel
    by_cases hlt : i < n
    · obtain ⟨bb, off, y, rfl, hb, hy, d0, d1⟩ := (HA.out.below HB.out).en (i := i) (by rw [← HN.out]; exact hlt)
      have x0 := HX.out.cell 0
      have x1 := HX.out.cell 1
      have heq := eql_en x y
      have hd : ((l.drop i).any fun y => x == y) = (x == y || (l.drop (i + 1)).any fun y => x == y) := by
        obtain ⟨hk, hy⟩ := List.getElem?_eq_some_iff.1 hy
        rw [List.drop_eq_getElem_cons hk, hy, List.any_cons]
      clear hy
      cases hxy : x == y with
      | true =>
        have HT := hid (show (l.any fun y => x == y) = true by rw [HK.out, hd, hxy]; rfl)
        rw [hxy] at heq
        clear hd HK hxy
        go_wp2_with fail
        go_quiet (fail)
        generalize hw0 : World.drewN _ _ = w0
        have HB1 := hid (show Below w.heap.size w w0 from by rw [← hw0]; exact below_drewN HB.out _)
        clear hw0
        go_wp2_with fail
        go_ret
        rw [HT.out]
        exact ⟨⟨i, rfl⟩, HB1.out⟩
      | false =>
        have HK2 := hid (show (l.any fun y => x == y) = ((l.drop (i + 1)).any fun y => x == y) by rw [HK.out, hd, hxy]; rfl)
        rw [hxy] at heq
        clear hd HK hxy
        go_wp2_with fail
        go_quiet (fail)
        generalize hw0 : World.drewN _ _ = w0
        have HB1 := hid (show Below w.heap.size w w0 from by rw [← hw0]; exact below_drewN HB.out _)
        have HX1 := hid (show Blk w0 w.heap.size _ _ from by rw [← hw0]; exact HX.out.drewN _)
        clear hw0
        go_wp2_with fail
        go_roundw
        case rel => exact ⟨i + 1, by omega, by go_num, HK2, HB1, HX1⟩
        case measure => simp [intOf]; omega
    · have HF := hid (show (l.any fun y => x == y) = false by rw [HK.out, show i = n by omega, HN.out, List.drop_length]; rfl)
      clear HK
      go_wp2_with fail
      go_ret
      rw [HF.out]
      exact ⟨rfl, HB.out⟩
set_option maxHeartbeats 8000000 in
set_option maxRecDepth 100000 in
theorem contains2_en {w : World} {A : Option Addr} {n c B : Nat} {l : List En} (x : En) (hA : GAt eEn w B A l) (hn : n = l.length) (hB : B ≤ w.heap.size) (hll : l.length ≤ 1000) :
    Calls Tryz.prog 48 #[.slice A n c, .agg #[.int .i64 (x.1 : Int), .int .u64 (x.2 : Int)]] w fun e w' => e = .returned (.bool (l.any fun y => x == y)) ∧ Below w.heap.size w w' := by
  have HB0 := hid (show Below w.heap.size w (w.alloc (.cells #[.int .i64 (x.1 : Int), .int .u64 (x.2 : Int)] 73)) from (Below.refl _ _).alloc (Nat.le_refl _) _)
  have hX := Blk.new w 73 #[.int .i64 (x.1 : Int), .int .u64 (x.2 : Int)]
  have HI := hid (index2_en (w := w.alloc (.cells #[.int .i64 (x.1 : Int), .int .u64 (x.2 : Int)] 73)) (c := c) x ((hA.more hB).below HB0.out) hn HB0.out.size hll)
  have x0 := hX.cell 0
  have x1 := hX.cell 1
  clear hA hn hB hX
  generalize (l.any fun y => x == y) = F at *
  go_enter Tryz.func48, Tryz.ntmps48
  go_upto_region 1 with fail
  generalize w.alloc (.cells #[.int .i64 (x.1 : Int), .int .u64 (x.2 : Int)] 73) = w1 at *
  cases F with
  | true =>
    go_wp2_with fail
    go_fit HI.out
    rintro e w2 ⟨⟨j, rfl⟩, hb1⟩
    have HB1 := hid (HB0.out.trans (hb1.mono HB0.out.size))
    clear hb1 HI
    have hj : (j : Int) ≥ 0 := by omega
    go_wp2_with fail
    go_ret
    exact ⟨rfl, HB1.out⟩
  | false =>
    go_wp2_with fail
    go_fit HI.out
    rintro e w2 ⟨he, hb1⟩
    obtain rfl : e = .returned (.int .i64 (-1)) := he
    have HB1 := hid (HB0.out.trans (hb1.mono HB0.out.size))
    clear hb1 HI
    go_wp2_with fail
    go_ret
    exact ⟨rfl, HB1.out⟩

set_option maxHeartbeats 8000000 in
set_option maxRecDepth 100000 in
theorem grt1_is {w : World} {A : Option Addr} {n c gb B : Nat} {vs : List Vr} {p : Vr → Bool} (hA : GAt eVr w B A vs) (hn : n = vs.length) (hB : B ≤ w.heap.size) (hll : vs.length ≤ 1000)
    (hF : ∀ W, Below w.heap.size w W → ∀ x, x ∈ vs → Calls Tryz.prog 46 #[.agg #[.int .i64 (x.i : Int), .int .u64 (x.base : Int), .slice x.A x.m x.c], .pointer (some ⟨gb, 0, none⟩)] W fun e w' => e = .returned (.bool (p x)) ∧ Below W.heap.size W w') :
    Calls Tryz.prog 49 #[.slice A n c, .func (.func 46) #[] #[.pointer (some ⟨gb, 0, none⟩)]] w fun e w' => e = .returned (.tuple #[vrV (grt p vs), .bool (grt p vs).isSome]) ∧ Below w.heap.size w w' := by
  have HA := hid (hA.more hB)
  have HN := hid hn
  have HF := hid hF
  have hll : n ≤ 1000 := by omega
  have HB0 := hid (show Below w.heap.size w ((w.alloc (.cells #[.int .i64 0, .int .u64 0, .slice none 0 0] 108)).alloc (.cells #[.int .i64 0, .int .u64 0, .slice none 0 0] 108)) from ((Below.refl _ _).alloc (Nat.le_refl _) _).alloc (by simp) _)
  have HX4 := hid (show Blk ((w.alloc (.cells #[.int .i64 0, .int .u64 0, .slice none 0 0] 108)).alloc (.cells #[.int .i64 0, .int .u64 0, .slice none 0 0] 108)) w.heap.size 108 #[.int .i64 0, .int .u64 0, .slice none 0 0] from (Blk.new w _ _).alloc _)
  have hx6 := Blk.new (w.alloc (.cells #[.int .i64 0, .int .u64 0, .slice none 0 0] 108)) 108 #[.int .i64 0, .int .u64 0, .slice none 0 0]
  rw [show (w.alloc (.cells #[.int .i64 0, .int .u64 0, .slice none 0 0] 108)).heap.size = w.heap.size + 1 by simp] at hx6
  have HX6 := hid hx6
  clear hA hn hB hF hx6
  go_enter Tryz.func49, Tryz.ntmps49
  go_upto_region 2 with fail
  generalize (w.alloc (.cells #[.int .i64 0, .int .u64 0, .slice none 0 0] 108)).alloc (.cells #[.int .i64 0, .int .u64 0, .slice none 0 0] 108) = w1 at *
  go_wp2_with fail
  go_loopw [7, 12] (fun f j wr => ∃ i : Nat, i ≤ n ∧ f = .bool (grt p (vs.take i)).isSome ∧ j = .int .i64 (i : Int) ∧ Kept (Blk wr (w.heap.size + 1) 108 (vrC (grt p (vs.take i)))) ∧ Kept (Blk wr w.heap.size 108 #[.int .i64 0, .int .u64 0, .slice none 0 0]) ∧ Kept (Below w.heap.size w wr)) (fun _ j _ => n - (intOf j).toNat)
  case atStart => exact ⟨0, Nat.zero_le _, rfl, rfl, HX6, HX4, HB0⟩
  case round =>
    clear HX6 HX4 HB0
    obtain ⟨i, hi, rfl, rfl, HX6, HX4, HB⟩ := hrel
    by_cases hlt : i < n
    · obtain ⟨bb, off, x, rfl, hb, hx, d0, d1, d2⟩ := (HA.out.below HB.out).vr (i := i) (by rw [← HN.out]; exact hlt)
      have HG := hid (show grt p (vs.take (i + 1)) = gstep p (grt p (vs.take i)) x from grt_step hx)
      have hm := List.mem_of_getElem? hx
      have HX9' := hid (Blk.new wr 108 #[.int .i64 (x.i : Int), .int .u64 (x.base : Int), .slice x.A x.m x.c])
      have HB9 := hid (show Below wr.heap.size wr (wr.alloc (.cells #[.int .i64 (x.i : Int), .int .u64 (x.base : Int), .slice x.A x.m x.c] 108)) from (Below.refl _ _).alloc (Nat.le_refl _) _)
      obtain ⟨g9, hg9⟩ : ∃ g, g = wr.heap.size := ⟨_, rfl⟩
      clear hx
      rw [← hg9] at HX9' HB9
      go_upto_region 6 with fail
      rw [← hg9]
      generalize wr.alloc (.cells #[.int .i64 (x.i : Int), .int .u64 (x.base : Int), .slice x.A x.m x.c] 108) = w9 at *
      have HB9w := hid (HB.out.trans (HB9.out.mono (by rw [hg9]; exact HB.out.size)))
      have HX69 := hid (HX6.out.below HB9.out (by rw [hg9]; exact HX6.out.lt))
      have HX49 := hid (HX4.out.below HB9.out (by rw [hg9]; exact HX4.out.lt))
      have HCA := hid (HF.out w9 HB9w.out x hm)
      have HNE := hid (show g9 ≠ w.heap.size + 1 by rw [hg9]; have := HX6.out.lt; omega)
      clear HB9 HX6 HX4 hm hg9 HB d0 d1 d2
      have z0 := HX9'.out.cell 0
      have z1 := HX9'.out.cell 1
      have z2 := HX9'.out.cell 2
      have keepAll : ∀ W, Below w9.heap.size w9 W → Kept (Blk W g9 108 #[.int .i64 (x.i : Int), .int .u64 (x.base : Int), .slice x.A x.m x.c]) ∧ Kept (Blk W (w.heap.size + 1) 108 (vrC (grt p (vs.take i)))) ∧ Kept (Blk W w.heap.size 108 #[.int .i64 0, .int .u64 0, .slice none 0 0]) ∧ Kept (Below w.heap.size w W) := fun W hW =>
        ⟨hid (HX9'.out.below hW HX9'.out.lt), hid (HX69.out.below hW HX69.out.lt), hid (HX49.out.below hW HX49.out.lt), hid (HB9w.out.trans (hW.mono HB9w.out.size))⟩
      have HKA := hid keepAll
      clear keepAll HX9' HX69 HX49 HB9w
      cases hp : p x with
      | false =>
        rw [hp] at HCA
        have HGE := hid (show grt p (vs.take (i + 1)) = grt p (vs.take i) by rw [HG.out]; unfold gstep; rw [hp]; rfl)
        clear hp
        go_wp2_with fail
        go_fit HCA.out
        rintro e w5 ⟨rfl, hb5⟩
        obtain ⟨-, KX6, KX4, KB⟩ := HKA.out w5 hb5
        clear hb5 HCA z0 z1 z2
        go_wp2_with fail
        go_roundw
        case rel => exact ⟨i + 1, by omega, by rw [HGE.out], by go_num, by rw [HGE.out]; exact KX6, KX4, KB⟩
        case measure => simp [intOf]; omega
      | true =>
        rw [hp] at HCA
        cases ho : grt p (vs.take i) with
        | none =>
          have HGE := hid (show grt p (vs.take (i + 1)) = some x by rw [HG.out, ho]; unfold gstep; rw [hp]; rfl)
          rw [ho] at HKA
          clear hp HG ho
          go_wp2_with fail
          go_fit HCA.out
          rintro e w5 ⟨rfl, hb5⟩
          obtain ⟨KX9, KX6, KX4, KB⟩ := HKA.out w5 hb5
          clear hb5 HCA z0 z1 z2
          have z0 := KX9.out.cell 0
          have z1 := KX9.out.cell 1
          have z2 := KX9.out.cell 2
          have y0 : w5.cell? ⟨w.heap.size + 1, 0, none⟩ = some (.int .i64 0) := KX6.out.cell 0
          have y1 : w5.cell? ⟨w.heap.size + 1, 1, none⟩ = some (.int .u64 0) := KX6.out.cell 1
          have y2 : w5.cell? ⟨w.heap.size + 1, 2, none⟩ = some (.slice none 0 0) := KX6.out.cell 2
          have f0 := KX6.out.free 0
          have f1 := KX6.out.free 1
          have f2 := KX6.out.free 2
          go_wp2_with fail
          go_roundw
          case rel => exact ⟨i + 1, by omega, by rw [HGE.out]; rfl, by go_num, hid (by rw [HGE.out]; simpa [vrC, eVr] using ((KX6.out.set 0 (.int .i64 (x.i : Int))).set 1 (.int .u64 (x.base : Int))).set 2 (.slice x.A x.m x.c)), hid (((KX4.out.far (p := ⟨w.heap.size + 1, 0, none⟩) (Nat.ne_of_lt (Nat.lt_succ_self _)) _).far (p := ⟨w.heap.size + 1, 1, none⟩) (Nat.ne_of_lt (Nat.lt_succ_self _)) _).far (p := ⟨w.heap.size + 1, 2, none⟩) (Nat.ne_of_lt (Nat.lt_succ_self _)) _), hid (((KB.out.setCell (p := ⟨w.heap.size + 1, 0, none⟩) (Nat.le_succ _) _).setCell (p := ⟨w.heap.size + 1, 1, none⟩) (Nat.le_succ _) _).setCell (p := ⟨w.heap.size + 1, 2, none⟩) (Nat.le_succ _) _)⟩
          case measure => simp [intOf]; omega
        | some y =>
          have hy6 : ∀ W, Blk W (w.heap.size + 1) 108 (vrC (some y)) → Blk W (w.heap.size + 1) 108 #[.int .i64 (y.i : Int), .int .u64 (y.base : Int), .slice y.A y.m y.c] := fun W h => h
          have HY6 := hid hy6
          clear hy6
          by_cases hby : y.base < x.base
          · have HGE := hid (show grt p (vs.take (i + 1)) = some x by rw [HG.out, ho]; unfold gstep; rw [hp]; simp [hby])
            rw [ho] at HKA
            have hgt : (x.base : Int) > (y.base : Int) := by omega
            clear hp HG ho
            go_wp2_with fail
            go_fit HCA.out
            rintro e w5 ⟨rfl, hb5⟩
            obtain ⟨KX9, KX6, KX4, KB⟩ := HKA.out w5 hb5
            clear hb5 HCA z0 z1 z2
            have z0 := KX9.out.cell 0
            have z1 := KX9.out.cell 1
            have z2 := KX9.out.cell 2
            have y0 := (HY6.out _ KX6.out).cell 0
            have y1 := (HY6.out _ KX6.out).cell 1
            have y2 := (HY6.out _ KX6.out).cell 2
            have f0 := KX6.out.free 0
            have f1 := KX6.out.free 1
            have f2 := KX6.out.free 2
            go_wp2_with fail
            go_roundw
            case rel => exact ⟨i + 1, by omega, by rw [HGE.out]; rfl, by go_num, hid (by rw [HGE.out]; simpa [vrC, eVr] using ((KX6.out.set 0 (.int .i64 (x.i : Int))).set 1 (.int .u64 (x.base : Int))).set 2 (.slice x.A x.m x.c)), hid (((KX4.out.far (p := ⟨w.heap.size + 1, 0, none⟩) (Nat.ne_of_lt (Nat.lt_succ_self _)) _).far (p := ⟨w.heap.size + 1, 1, none⟩) (Nat.ne_of_lt (Nat.lt_succ_self _)) _).far (p := ⟨w.heap.size + 1, 2, none⟩) (Nat.ne_of_lt (Nat.lt_succ_self _)) _), hid (((KB.out.setCell (p := ⟨w.heap.size + 1, 0, none⟩) (Nat.le_succ _) _).setCell (p := ⟨w.heap.size + 1, 1, none⟩) (Nat.le_succ _) _).setCell (p := ⟨w.heap.size + 1, 2, none⟩) (Nat.le_succ _) _)⟩
            case measure => simp [intOf]; omega
          · have HGE := hid (show grt p (vs.take (i + 1)) = grt p (vs.take i) by rw [HG.out, ho]; unfold gstep; rw [hp]; simp [hby])
            rw [ho] at HKA HGE
            have hgt : ¬ (x.base : Int) > (y.base : Int) := by omega
            clear hp HG ho
            go_wp2_with fail
            go_fit HCA.out
            rintro e w5 ⟨rfl, hb5⟩
            obtain ⟨KX9, KX6, KX4, KB⟩ := HKA.out w5 hb5
            clear hb5 HCA z0 z1 z2
            have z1 := KX9.out.cell 1
            have y1 := (HY6.out _ KX6.out).cell 1
            go_wp2_with fail
            go_roundw
            case rel => exact ⟨i + 1, by omega, by rw [HGE.out]; rfl, by go_num, by rw [HGE.out]; exact KX6, KX4, KB⟩
            case measure => simp [intOf]; omega
    · have HG := hid (show grt p (vs.take i) = grt p vs by rw [show i = vs.length by have := HN.out; omega, List.take_length])
      have h6 := HX6.out
      rw [HG.out] at h6
      obtain ⟨o, ho⟩ : ∃ o, o = grt p vs := ⟨_, rfl⟩
      rw [← ho] at h6
      have HO := hid ho
      have HI := hid (show (grt p (vs.take i)).isSome = o.isSome by rw [HG.out, ho])
      clear HG HX6 ho
      rw [HI.out]
      cases o with
      | none =>
        have z0 := h6.cell 0
        have z1 := h6.cell 1
        have z2 := h6.cell 2
        have f0 := HX4.out.free 0
        have f1 := HX4.out.free 1
        have f2 := HX4.out.free 2
        have q0 := HX4.out.cell 0
        have q1 := HX4.out.cell 1
        have q2 := HX4.out.cell 2
        change _ = some (Value.int .i64 0) at z0
        change _ = some (Value.int .u64 0) at z1
        change _ = some (Value.slice none 0 0) at z2
        clear h6
        go_wp2_with fail
        refine bodyPost_ret (v := .tuple #[.agg #[.int .i64 0, .int .u64 0, .slice none 0 0], .bool false]) (by simp [results, Tryz.results49, go_sem, *]) rfl ?_
        rw [← HO.out]
        exact ⟨rfl, ((HB.out.setCell (p := ⟨w.heap.size, 0, none⟩) (Nat.le_refl _) _).setCell (p := ⟨w.heap.size, 1, none⟩) (Nat.le_refl _) _).setCell (p := ⟨w.heap.size, 2, none⟩) (Nat.le_refl _) _⟩
      | some y =>
        have z0 := h6.cell 0
        have z1 := h6.cell 1
        have z2 := h6.cell 2
        have f0 := HX4.out.free 0
        have f1 := HX4.out.free 1
        have f2 := HX4.out.free 2
        have q0 := HX4.out.cell 0
        have q1 := HX4.out.cell 1
        have q2 := HX4.out.cell 2
        change _ = some (Value.int .i64 (y.i : Int)) at z0
        change _ = some (Value.int .u64 (y.base : Int)) at z1
        change _ = some (Value.slice y.A y.m y.c) at z2
        clear h6
        go_wp2_with fail
        refine bodyPost_ret (v := .tuple #[.agg #[.int .i64 (y.i : Int), .int .u64 (y.base : Int), .slice y.A y.m y.c], .bool true]) (by simp [results, Tryz.results49, go_sem, *]) rfl ?_
        rw [← HO.out]
        exact ⟨rfl, ((HB.out.setCell (p := ⟨w.heap.size, 0, none⟩) (Nat.le_refl _) _).setCell (p := ⟨w.heap.size, 1, none⟩) (Nat.le_refl _) _).setCell (p := ⟨w.heap.size, 2, none⟩) (Nat.le_refl _) _⟩

set_option maxHeartbeats 8000000 in
set_option maxRecDepth 100000 in
theorem grt2_is {w : World} {A : Option Addr} {n c gb B : Nat} {vs : List Vr} {p : Vr → Bool} (hA : GAt eVr w B A vs) (hn : n = vs.length) (hB : B ≤ w.heap.size) (hll : vs.length ≤ 1000)
    (hF : ∀ W, Below w.heap.size w W → ∀ x, x ∈ vs → Calls Tryz.prog 47 #[.agg #[.int .i64 (x.i : Int), .int .u64 (x.base : Int), .slice x.A x.m x.c], .pointer (some ⟨gb, 0, none⟩)] W fun e w' => e = .returned (.bool (p x)) ∧ Below W.heap.size W w') :
    Calls Tryz.prog 49 #[.slice A n c, .func (.func 47) #[] #[.pointer (some ⟨gb, 0, none⟩)]] w fun e w' => e = .returned (.tuple #[vrV (grt p vs), .bool (grt p vs).isSome]) ∧ Below w.heap.size w w' := by
  have HA := hid (hA.more hB)
  have HN := hid hn
  have HF := hid hF
  have hll : n ≤ 1000 := by omega
  have HB0 := hid (show Below w.heap.size w ((w.alloc (.cells #[.int .i64 0, .int .u64 0, .slice none 0 0] 108)).alloc (.cells #[.int .i64 0, .int .u64 0, .slice none 0 0] 108)) from ((Below.refl _ _).alloc (Nat.le_refl _) _).alloc (by simp) _)
  have HX4 := hid (show Blk ((w.alloc (.cells #[.int .i64 0, .int .u64 0, .slice none 0 0] 108)).alloc (.cells #[.int .i64 0, .int .u64 0, .slice none 0 0] 108)) w.heap.size 108 #[.int .i64 0, .int .u64 0, .slice none 0 0] from (Blk.new w _ _).alloc _)
  have hx6 := Blk.new (w.alloc (.cells #[.int .i64 0, .int .u64 0, .slice none 0 0] 108)) 108 #[.int .i64 0, .int .u64 0, .slice none 0 0]
  rw [show (w.alloc (.cells #[.int .i64 0, .int .u64 0, .slice none 0 0] 108)).heap.size = w.heap.size + 1 by simp] at hx6
  have HX6 := hid hx6
  clear hA hn hB hF hx6
  go_enter Tryz.func49, Tryz.ntmps49
  go_upto_region 2 with fail
  generalize (w.alloc (.cells #[.int .i64 0, .int .u64 0, .slice none 0 0] 108)).alloc (.cells #[.int .i64 0, .int .u64 0, .slice none 0 0] 108) = w1 at *
  go_wp2_with fail
  go_loopw [7, 12] (fun f j wr => ∃ i : Nat, i ≤ n ∧ f = .bool (grt p (vs.take i)).isSome ∧ j = .int .i64 (i : Int) ∧ Kept (Blk wr (w.heap.size + 1) 108 (vrC (grt p (vs.take i)))) ∧ Kept (Blk wr w.heap.size 108 #[.int .i64 0, .int .u64 0, .slice none 0 0]) ∧ Kept (Below w.heap.size w wr)) (fun _ j _ => n - (intOf j).toNat)
  case atStart => exact ⟨0, Nat.zero_le _, rfl, rfl, HX6, HX4, HB0⟩
  case round =>
    clear HX6 HX4 HB0
    obtain ⟨i, hi, rfl, rfl, HX6, HX4, HB⟩ := hrel
    by_cases hlt : i < n
    · obtain ⟨bb, off, x, rfl, hb, hx, d0, d1, d2⟩ := (HA.out.below HB.out).vr (i := i) (by rw [← HN.out]; exact hlt)
      have HG := hid (show grt p (vs.take (i + 1)) = gstep p (grt p (vs.take i)) x from grt_step hx)
      have hm := List.mem_of_getElem? hx
      have HX9' := hid (Blk.new wr 108 #[.int .i64 (x.i : Int), .int .u64 (x.base : Int), .slice x.A x.m x.c])
      have HB9 := hid (show Below wr.heap.size wr (wr.alloc (.cells #[.int .i64 (x.i : Int), .int .u64 (x.base : Int), .slice x.A x.m x.c] 108)) from (Below.refl _ _).alloc (Nat.le_refl _) _)
      obtain ⟨g9, hg9⟩ : ∃ g, g = wr.heap.size := ⟨_, rfl⟩
      clear hx
      rw [← hg9] at HX9' HB9
      go_upto_region 6 with fail
      rw [← hg9]
      generalize wr.alloc (.cells #[.int .i64 (x.i : Int), .int .u64 (x.base : Int), .slice x.A x.m x.c] 108) = w9 at *
      have HB9w := hid (HB.out.trans (HB9.out.mono (by rw [hg9]; exact HB.out.size)))
      have HX69 := hid (HX6.out.below HB9.out (by rw [hg9]; exact HX6.out.lt))
      have HX49 := hid (HX4.out.below HB9.out (by rw [hg9]; exact HX4.out.lt))
      have HCA := hid (HF.out w9 HB9w.out x hm)
      have HNE := hid (show g9 ≠ w.heap.size + 1 by rw [hg9]; have := HX6.out.lt; omega)
      clear HB9 HX6 HX4 hm hg9 HB d0 d1 d2
      have z0 := HX9'.out.cell 0
      have z1 := HX9'.out.cell 1
      have z2 := HX9'.out.cell 2
      have keepAll : ∀ W, Below w9.heap.size w9 W → Kept (Blk W g9 108 #[.int .i64 (x.i : Int), .int .u64 (x.base : Int), .slice x.A x.m x.c]) ∧ Kept (Blk W (w.heap.size + 1) 108 (vrC (grt p (vs.take i)))) ∧ Kept (Blk W w.heap.size 108 #[.int .i64 0, .int .u64 0, .slice none 0 0]) ∧ Kept (Below w.heap.size w W) := fun W hW =>
        ⟨hid (HX9'.out.below hW HX9'.out.lt), hid (HX69.out.below hW HX69.out.lt), hid (HX49.out.below hW HX49.out.lt), hid (HB9w.out.trans (hW.mono HB9w.out.size))⟩
      have HKA := hid keepAll
      clear keepAll HX9' HX69 HX49 HB9w
      cases hp : p x with
      | false =>
        rw [hp] at HCA
        have HGE := hid (show grt p (vs.take (i + 1)) = grt p (vs.take i) by rw [HG.out]; unfold gstep; rw [hp]; rfl)
        clear hp
        go_wp2_with fail
        go_fit HCA.out
        rintro e w5 ⟨rfl, hb5⟩
        obtain ⟨-, KX6, KX4, KB⟩ := HKA.out w5 hb5
        clear hb5 HCA z0 z1 z2
        go_wp2_with fail
        go_roundw
        case rel => exact ⟨i + 1, by omega, by rw [HGE.out], by go_num, by rw [HGE.out]; exact KX6, KX4, KB⟩
        case measure => simp [intOf]; omega
      | true =>
        rw [hp] at HCA
        cases ho : grt p (vs.take i) with
        | none =>
          have HGE := hid (show grt p (vs.take (i + 1)) = some x by rw [HG.out, ho]; unfold gstep; rw [hp]; rfl)
          rw [ho] at HKA
          clear hp HG ho
          go_wp2_with fail
          go_fit HCA.out
          rintro e w5 ⟨rfl, hb5⟩
          obtain ⟨KX9, KX6, KX4, KB⟩ := HKA.out w5 hb5
          clear hb5 HCA z0 z1 z2
          have z0 := KX9.out.cell 0
          have z1 := KX9.out.cell 1
          have z2 := KX9.out.cell 2
          have y0 : w5.cell? ⟨w.heap.size + 1, 0, none⟩ = some (.int .i64 0) := KX6.out.cell 0
          have y1 : w5.cell? ⟨w.heap.size + 1, 1, none⟩ = some (.int .u64 0) := KX6.out.cell 1
          have y2 : w5.cell? ⟨w.heap.size + 1, 2, none⟩ = some (.slice none 0 0) := KX6.out.cell 2
          have f0 := KX6.out.free 0
          have f1 := KX6.out.free 1
          have f2 := KX6.out.free 2
          go_wp2_with fail
          go_roundw
          case rel => exact ⟨i + 1, by omega, by rw [HGE.out]; rfl, by go_num, hid (by rw [HGE.out]; simpa [vrC, eVr] using ((KX6.out.set 0 (.int .i64 (x.i : Int))).set 1 (.int .u64 (x.base : Int))).set 2 (.slice x.A x.m x.c)), hid (((KX4.out.far (p := ⟨w.heap.size + 1, 0, none⟩) (Nat.ne_of_lt (Nat.lt_succ_self _)) _).far (p := ⟨w.heap.size + 1, 1, none⟩) (Nat.ne_of_lt (Nat.lt_succ_self _)) _).far (p := ⟨w.heap.size + 1, 2, none⟩) (Nat.ne_of_lt (Nat.lt_succ_self _)) _), hid (((KB.out.setCell (p := ⟨w.heap.size + 1, 0, none⟩) (Nat.le_succ _) _).setCell (p := ⟨w.heap.size + 1, 1, none⟩) (Nat.le_succ _) _).setCell (p := ⟨w.heap.size + 1, 2, none⟩) (Nat.le_succ _) _)⟩
          case measure => simp [intOf]; omega
        | some y =>
          have hy6 : ∀ W, Blk W (w.heap.size + 1) 108 (vrC (some y)) → Blk W (w.heap.size + 1) 108 #[.int .i64 (y.i : Int), .int .u64 (y.base : Int), .slice y.A y.m y.c] := fun W h => h
          have HY6 := hid hy6
          clear hy6
          by_cases hby : y.base < x.base
          · have HGE := hid (show grt p (vs.take (i + 1)) = some x by rw [HG.out, ho]; unfold gstep; rw [hp]; simp [hby])
            rw [ho] at HKA
            have hgt : (x.base : Int) > (y.base : Int) := by omega
            clear hp HG ho
            go_wp2_with fail
            go_fit HCA.out
            rintro e w5 ⟨rfl, hb5⟩
            obtain ⟨KX9, KX6, KX4, KB⟩ := HKA.out w5 hb5
            clear hb5 HCA z0 z1 z2
            have z0 := KX9.out.cell 0
            have z1 := KX9.out.cell 1
            have z2 := KX9.out.cell 2
            have y0 := (HY6.out _ KX6.out).cell 0
            have y1 := (HY6.out _ KX6.out).cell 1
            have y2 := (HY6.out _ KX6.out).cell 2
            have f0 := KX6.out.free 0
            have f1 := KX6.out.free 1
            have f2 := KX6.out.free 2
            go_wp2_with fail
            go_roundw
            case rel => exact ⟨i + 1, by omega, by rw [HGE.out]; rfl, by go_num, hid (by rw [HGE.out]; simpa [vrC, eVr] using ((KX6.out.set 0 (.int .i64 (x.i : Int))).set 1 (.int .u64 (x.base : Int))).set 2 (.slice x.A x.m x.c)), hid (((KX4.out.far (p := ⟨w.heap.size + 1, 0, none⟩) (Nat.ne_of_lt (Nat.lt_succ_self _)) _).far (p := ⟨w.heap.size + 1, 1, none⟩) (Nat.ne_of_lt (Nat.lt_succ_self _)) _).far (p := ⟨w.heap.size + 1, 2, none⟩) (Nat.ne_of_lt (Nat.lt_succ_self _)) _), hid (((KB.out.setCell (p := ⟨w.heap.size + 1, 0, none⟩) (Nat.le_succ _) _).setCell (p := ⟨w.heap.size + 1, 1, none⟩) (Nat.le_succ _) _).setCell (p := ⟨w.heap.size + 1, 2, none⟩) (Nat.le_succ _) _)⟩
            case measure => simp [intOf]; omega
          · have HGE := hid (show grt p (vs.take (i + 1)) = grt p (vs.take i) by rw [HG.out, ho]; unfold gstep; rw [hp]; simp [hby])
            rw [ho] at HKA HGE
            have hgt : ¬ (x.base : Int) > (y.base : Int) := by omega
            clear hp HG ho
            go_wp2_with fail
            go_fit HCA.out
            rintro e w5 ⟨rfl, hb5⟩
            obtain ⟨KX9, KX6, KX4, KB⟩ := HKA.out w5 hb5
            clear hb5 HCA z0 z1 z2
            have z1 := KX9.out.cell 1
            have y1 := (HY6.out _ KX6.out).cell 1
            go_wp2_with fail
            go_roundw
            case rel => exact ⟨i + 1, by omega, by rw [HGE.out]; rfl, by go_num, by rw [HGE.out]; exact KX6, KX4, KB⟩
            case measure => simp [intOf]; omega
    · have HG := hid (show grt p (vs.take i) = grt p vs by rw [show i = vs.length by have := HN.out; omega, List.take_length])
      have h6 := HX6.out
      rw [HG.out] at h6
      obtain ⟨o, ho⟩ : ∃ o, o = grt p vs := ⟨_, rfl⟩
      rw [← ho] at h6
      have HO := hid ho
      have HI := hid (show (grt p (vs.take i)).isSome = o.isSome by rw [HG.out, ho])
      clear HG HX6 ho
      rw [HI.out]
      cases o with
      | none =>
        have z0 := h6.cell 0
        have z1 := h6.cell 1
        have z2 := h6.cell 2
        have f0 := HX4.out.free 0
        have f1 := HX4.out.free 1
        have f2 := HX4.out.free 2
        have q0 := HX4.out.cell 0
        have q1 := HX4.out.cell 1
        have q2 := HX4.out.cell 2
        change _ = some (Value.int .i64 0) at z0
        change _ = some (Value.int .u64 0) at z1
        change _ = some (Value.slice none 0 0) at z2
        clear h6
        go_wp2_with fail
        refine bodyPost_ret (v := .tuple #[.agg #[.int .i64 0, .int .u64 0, .slice none 0 0], .bool false]) (by simp [results, Tryz.results49, go_sem, *]) rfl ?_
        rw [← HO.out]
        exact ⟨rfl, ((HB.out.setCell (p := ⟨w.heap.size, 0, none⟩) (Nat.le_refl _) _).setCell (p := ⟨w.heap.size, 1, none⟩) (Nat.le_refl _) _).setCell (p := ⟨w.heap.size, 2, none⟩) (Nat.le_refl _) _⟩
      | some y =>
        have z0 := h6.cell 0
        have z1 := h6.cell 1
        have z2 := h6.cell 2
        have f0 := HX4.out.free 0
        have f1 := HX4.out.free 1
        have f2 := HX4.out.free 2
        have q0 := HX4.out.cell 0
        have q1 := HX4.out.cell 1
        have q2 := HX4.out.cell 2
        change _ = some (Value.int .i64 (y.i : Int)) at z0
        change _ = some (Value.int .u64 (y.base : Int)) at z1
        change _ = some (Value.slice y.A y.m y.c) at z2
        clear h6
        go_wp2_with fail
        refine bodyPost_ret (v := .tuple #[.agg #[.int .i64 (y.i : Int), .int .u64 (y.base : Int), .slice y.A y.m y.c], .bool true]) (by simp [results, Tryz.results49, go_sem, *]) rfl ?_
        rw [← HO.out]
        exact ⟨rfl, ((HB.out.setCell (p := ⟨w.heap.size, 0, none⟩) (Nat.le_refl _) _).setCell (p := ⟨w.heap.size, 1, none⟩) (Nat.le_refl _) _).setCell (p := ⟨w.heap.size, 2, none⟩) (Nat.le_refl _) _⟩

end Go.Proofs.YtobmdmbjmjdfjaaGreatDoor
