/-
  The document's Open of a log.
-/
import Derived.Test.YtobmdmbjmjdfjaaGreatDoorJR8
import Derived.Test.YtobmdmbjmjdfjaaGreatDoorJWl
import Derived.Test.YtobmdmbjmjdfjaaGreatDoorRcG
namespace Go.Proofs.YtobmdmbjmjdfjaaGreatDoor
open Go Go.RowKit

theorem Blk.set12 {w : World} {g : Nat} {t : TypeId} {x0 x1 x2 x3 x4 x5 x6 x7 x8 x9 x10 x11 u0 u1 u2 u3 u4 u5 u6 u7 u8 u9 u10 u11 : Value} (h : Blk w g t #[x0, x1, x2, x3, x4, x5, x6, x7, x8, x9, x10, x11]) : Blk ((((((((((((w.setCell ⟨g, 0, none⟩ u0).setCell ⟨g, 1, none⟩ u1).setCell ⟨g, 2, none⟩ u2).setCell ⟨g, 3, none⟩ u3).setCell ⟨g, 4, none⟩ u4).setCell ⟨g, 5, none⟩ u5).setCell ⟨g, 6, none⟩ u6).setCell ⟨g, 7, none⟩ u7).setCell ⟨g, 8, none⟩ u8).setCell ⟨g, 9, none⟩ u9).setCell ⟨g, 10, none⟩ u10).setCell ⟨g, 11, none⟩ u11) g t #[u0, u1, u2, u3, u4, u5, u6, u7, u8, u9, u10, u11] := by
  have := ((((((((((((h.set 0 u0).set 1 u1).set 2 u2).set 3 u3).set 4 u4).set 5 u5).set 6 u6).set 7 u7).set 8 u8).set 9 u9).set 10 u10).set 11 u11)
  simpa using this
theorem info_sg : (Tryz.prog.info? 84).map (fun i => (i.zero, i.size, i.bytes)) = some (some (.agg #[.int .i64 0, .int .u64 0, .int .u64 0]), 3, 24) := by kernel_rfl
theorem gi_sg : GInfo eSg Tryz.prog 41 84 24 := by
  obtain ⟨i0, hi, hz0, hz1, hz2⟩ := info_parts info_sg
  exact ⟨Tryz.underlying41, i0, _, hi, hz0, hz1, hz2, rfl⟩
def liveLen (w : World) (g : Nat) : Nat := match w.cell? ⟨g, 8, none⟩ with | some (.slice _ m _) => m | _ => 0
theorem liveLen_is {w : World} {g m c : Nat} {A : Option Addr} (h : w.cell? ⟨g, 8, none⟩ = some (.slice A m c)) : liveLen w g = m := by unfold liveLen; rw [h]
structure Op2 (w3 wr : World) (g at_ n size fr : Nat) (m : Secs) (a b : Int) (A1 A2 A3 : Option Addr) (n1 n2 n3 c1 c2 c3 : Nat) (A Ao : Option Addr) (ml cl mo co : Nat) (c : Ch) : Prop where
  ok : c.Ok n
  found : (wl0 at_ n size fr).found m fr = (wl0 at_ n size fr).chain m fr (n + 1 - c.live.length) c
  box : Blk wr g 43 #[.int .i64 a, .int .i64 b, .slice A1 n1 c1, .slice A2 n2 c2, .slice A3 n3 c3, .int .i64 (at_ : Int), .int .i64 (n : Int), .int .i64 (size : Int), .slice A ml cl, .string ⟨#[]⟩, .int .u64 (c.last : Int), .int .u64 0]
  live : GRow eSg 84 wr w3.heap.size A ml cl c.live
  out : RcRow wr w3.heap.size Ao mo co c.out
  few : c.out.length ≤ 4000 * c.live.length
  below : Below g w3 wr
theorem Op2.step {w3 wr w' : World} {g at_ n size fr : Nat} {m : Secs} {a b : Int} {A1 A2 A3 : Option Addr} {n1 n2 n3 c1 c2 c3 : Nat} {A Ao : Option Addr} {ml cl mo co : Nat} {c : Ch} (h : Op2 w3 wr g at_ n size fr m a b A1 A2 A3 n1 n2 n3 c1 c2 c3 A Ao ml cl mo co c) (hb : Below wr.heap.size wr w') : Op2 w3 w' g at_ n size fr m a b A1 A2 A3 n1 n2 n3 c1 c2 c3 A Ao ml cl mo co c :=
  ⟨h.ok, h.found, h.box.below hb h.box.lt, h.live.below hb, h.out.below hb, h.few, h.below.trans (hb.mono (Nat.le_of_lt h.box.lt))⟩
structure Op3 (w3 wr : World) (g at_ n size la : Nat) (a b : Int) (A1 A2 A3 : Option Addr) (n1 n2 n3 c1 c2 c3 : Nat) (A Ao A5 : Option Addr) (ml cl mo co : Nat) (live : List Sg) (rs out : List Rc) : Prop where
  box : Blk wr g 43 #[.int .i64 a, .int .i64 b, .slice A1 n1 c1, .slice A2 n2 c2, .slice A3 n3 c3, .int .i64 (at_ : Int), .int .i64 (n : Int), .int .i64 (size : Int), .slice A ml cl, .string ⟨#[]⟩, .int .u64 (la : Int), .int .u64 0]
  live : GRow eSg 84 wr w3.heap.size A ml cl live
  out : GRow eRc 70 wr w3.heap.size Ao mo co out
  told : GAt eRc wr wr.heap.size A5 rs
  ne : In (fun q => (Value.slice Ao mo co).ownBlock ≠ some q) A5 rs
  below : Below g w3 wr
section
variable {w3 wr w' : World} {g at_ n size la : Nat} {a b : Int} {A1 A2 A3 : Option Addr} {n1 n2 n3 c1 c2 c3 : Nat} {A Ao A5 : Option Addr} {ml cl mo co : Nat} {live : List Sg} {rs out : List Rc}
theorem Op3.step (h : Op3 w3 wr g at_ n size la a b A1 A2 A3 n1 n2 n3 c1 c2 c3 A Ao A5 ml cl mo co live rs out) (hb : Below wr.heap.size wr w') : Op3 w3 w' g at_ n size la a b A1 A2 A3 n1 n2 n3 c1 c2 c3 A Ao A5 ml cl mo co live rs out :=
  ⟨h.box.below hb h.box.lt, h.live.below hb, h.out.below hb, (h.told.below hb).more hb.size, h.ne, h.below.trans (hb.mono (Nat.le_of_lt h.box.lt))⟩
theorem Op3.app (h : Op3 w3 wr g at_ n size la a b A1 A2 A3 n1 n2 n3 c1 c2 c3 A Ao A5 ml cl mo co live rs out) (hg : g < w3.heap.size) {Ao' : Option Addr} {mo' co' : Nat} {out' : List Rc}
    (hr : GRow eRc 70 w' w3.heap.size Ao' mo' co' out') (hb : Below w3.heap.size wr w') (hw : wr.grownBy w' (Value.slice Ao mo co).ownBlock) (ho : (Value.slice Ao' mo' co').ownBlock = (Value.slice Ao mo co).ownBlock ∨ (Value.slice Ao' mo' co').ownBlock = some wr.heap.size) :
    Op3 w3 w' g at_ n size la a b A1 A2 A3 n1 n2 n3 c1 c2 c3 A Ao' A5 ml cl mo' co' live rs out' := by
  refine ⟨h.box.below hb hg, h.live.kept hw ?_, hr, (GAt.grownIn h.told hw (Nat.le_refl _) (h.ne.weak fun q hq e => hq e.symm)).more hw.size, fun q off e hl => ?_, h.below.trans (hb.mono (Nat.le_of_lt hg))⟩
  · exact own_apart h.live.2 h.out.2 (by decide)
  · rcases ho with ho | ho
    · rw [ho]; exact h.ne q off e hl
    · rw [ho]
      have := h.told.in_ q off e hl
      intro e'
      injection e' with e'
      omega
end
theorem filter_take {rs : List Rc} {k fr : Nat} {x : Rc} (h : rs[k]? = some x) : (rs.take (k + 1)).filter (fun r => decide (fr < r.1)) = (rs.take k).filter (fun r => decide (fr < r.1)) ++ (if fr < x.1 then [x] else []) := by
  obtain ⟨hk, hx⟩ := List.getElem?_eq_some_iff.1 h
  rw [List.take_succ_eq_append_getElem hk, hx, List.filter_append]
  congr 1
  by_cases hf : fr < x.1 <;> simp [hf]
theorem W8.of {P : Nat → Prop} {w : World} {s : Dk} {a b : Int} {A1 A2 A3 A : Option Addr} {n1 n2 n3 c1 c2 c3 c at_ n size la : Nat} {live : List Sg}
    (h : D6 P w (.agg #[.int .i64 a, .int .i64 b, .slice A1 n1 c1, .slice A2 n2 c2, .slice A3 n3 c3]) s) (hg : GAt eSg w w.heap.size A live) (hi : In P A live) (hc : live.length ≤ c) (ha : at_ ≤ 65536) (hn : n ≤ 64) (hs : size ≤ 64) (hl : live.length ≤ 64) (hla : la < 18446744073709551616) :
    W8 P w (.agg #[.int .i64 a, .int .i64 b, .slice A1 n1 c1, .slice A2 n2 c2, .slice A3 n3 c3, .int .i64 (at_ : Int), .int .i64 (n : Int), .int .i64 (size : Int), .slice A live.length c, .string ⟨#[]⟩, .int .u64 (la : Int), .int .u64 0]) s ⟨at_, n, size, live, [], la, 0⟩ :=
  ⟨⟨a, b, A1, A2, A3, A, n1, n2, n3, c1, c2, c3, c, rfl, h, hg, hi, hc⟩, ha, hn, hs, hl, hla, (show 0 < 18446744073709551616 by decide), (show ([] : List UInt8).length ≤ 40000 by decide)⟩

theorem W8.relast {P : Nat → Prop} {w : World} {s : Dk} {a b : Int} {A1 A2 A3 A : Option Addr} {n1 n2 n3 c1 c2 c3 c at_ n size la la' ml : Nat} {live : List Sg}
    (h : W8 P w (.agg #[.int .i64 a, .int .i64 b, .slice A1 n1 c1, .slice A2 n2 c2, .slice A3 n3 c3, .int .i64 (at_ : Int), .int .i64 (n : Int), .int .i64 (size : Int), .slice A ml c, .string ⟨#[]⟩, .int .u64 (la : Int), .int .u64 0]) s ⟨at_, n, size, live, [], la, 0⟩) (hla : la' < 18446744073709551616) :
    W8 P w (.agg #[.int .i64 a, .int .i64 b, .slice A1 n1 c1, .slice A2 n2 c2, .slice A3 n3 c3, .int .i64 (at_ : Int), .int .i64 (n : Int), .int .i64 (size : Int), .slice A ml c, .string ⟨#[]⟩, .int .u64 (la' : Int), .int .u64 0]) s ⟨at_, n, size, live, [], la', 0⟩ := by
  obtain ⟨a', b', A1', A2', A3', A', n1', n2', n3', c1', c2', c3', c', hv, h1, h2, h3, h4⟩ := h.shape
  simp at hv
  obtain ⟨rfl, rfl, ⟨rfl, rfl, rfl⟩, ⟨rfl, rfl, rfl⟩, ⟨rfl, rfl, rfl⟩, ⟨rfl, rfl, rfl⟩, _⟩ := hv
  exact ⟨⟨_, _, _, _, _, _, _, _, _, _, _, _, _, rfl, h1, h2, h3, h4⟩, h.at_, h.n, h.size, h.live, hla, h.synced, h.stream⟩

set_option maxHeartbeats 16000000 in
set_option maxRecDepth 100000 in
theorem open8_yes {P : Nat → Prop} {w : World} {v : Value} {s : Dk} {at_ n size fr : Nat} (h : D6 P w v s) (hn2 : 2 ≤ n) (hn : n ≤ 64) (hs1 : 1 ≤ size) (hs : size ≤ 64) (hat : at_ + n * size ≤ 65536) (hfr : fr < 18446744073709551616) (hp : s.pend.length ≤ 800000) :
    Calls Tryz.prog 8 #[v, .int .i64 (at_ : Int), .int .i64 (n : Int), .int .i64 (size : Int), .int .u64 (fr : Int)] w fun e w' => ∃ v' A m c, e = .returned (.tuple #[v', .slice A m c, .int .i64 0]) ∧
      W8 (fun k => P k ∨ w.heap.size ≤ k) w' v' (openD s at_ n size fr) (openL s at_ n size fr) ∧ RcRow w' w.heap.size A m c (openR s at_ n size fr) ∧ Below w.heap.size w w' := by
  obtain ⟨a, b, A1, A2, A3, n1, n2, n3, c1, c2, c3, rfl⟩ := h.shape
  have HD0 := hid h.bound
  have HP := hid hp
  have HAT := hid hat
  have HFR := hid hfr
  have hmul : (n : Int) * (size : Int) = ((n * size : Nat) : Int) := by simp
  have hms : n * size ≤ 64 * 64 := Nat.mul_le_mul hn hs
  have hwm : IntKind.i64.wrap ((n : Int) * (size : Int)) = (n : Int) * (size : Int) := by rw [IntKind.wrap_i64]; omega
  have hws : IntKind.i64.wrap (65536 - (n : Int) * (size : Int)) = 65536 - (n : Int) * (size : Int) := by rw [IntKind.wrap_i64]; omega
  have g1 : ¬ (n : Int) < 2 := by omega
  have g2 : ¬ (n : Int) > 64 := by omega
  have g3 : ¬ (size : Int) < 1 := by omega
  have g4 : ¬ (size : Int) > 64 := by omega
  have g5 : ¬ (at_ : Int) < 0 := by omega
  have g6 : ¬ (at_ : Int) > 65536 - (n : Int) * (size : Int) := by omega
  have HB1 := hid (show Below w.heap.size w ((w.alloc (.cells #[.int .i64 a, .int .i64 b, .slice A1 n1 c1, .slice A2 n2 c2, .slice A3 n3 c3] 33)).alloc (.cells #[.int .i64 0, .int .i64 0, .slice none 0 0, .slice none 0 0, .slice none 0 0, .int .i64 0, .int .i64 0, .int .i64 0, .slice none 0 0, .string ⟨#[]⟩, .int .u64 0, .int .u64 0] 43)) from ((Below.refl _ _).alloc (Nat.le_refl _) _).alloc (by simp) _)
  have HX1 := hid (show Blk ((w.alloc (.cells #[.int .i64 a, .int .i64 b, .slice A1 n1 c1, .slice A2 n2 c2, .slice A3 n3 c3] 33)).alloc (.cells #[.int .i64 0, .int .i64 0, .slice none 0 0, .slice none 0 0, .slice none 0 0, .int .i64 0, .int .i64 0, .int .i64 0, .slice none 0 0, .string ⟨#[]⟩, .int .u64 0, .int .u64 0] 43)) w.heap.size 33 #[.int .i64 a, .int .i64 b, .slice A1 n1 c1, .slice A2 n2 c2, .slice A3 n3 c3] from (Blk.new w _ _).alloc _)
  have hZ := Blk.new (w.alloc (.cells #[.int .i64 a, .int .i64 b, .slice A1 n1 c1, .slice A2 n2 c2, .slice A3 n3 c3] 33)) 43 #[.int .i64 0, .int .i64 0, .slice none 0 0, .slice none 0 0, .slice none 0 0, .int .i64 0, .int .i64 0, .int .i64 0, .slice none 0 0, .string ⟨#[]⟩, .int .u64 0, .int .u64 0]
  rw [show (w.alloc (.cells #[.int .i64 a, .int .i64 b, .slice A1 n1 c1, .slice A2 n2 c2, .slice A3 n3 c3] 33)).heap.size = w.heap.size + 1 by simp] at hZ
  have HZ1 := hid hZ
  have HSZ1 := hid (show ((w.alloc (.cells #[.int .i64 a, .int .i64 b, .slice A1 n1 c1, .slice A2 n2 c2, .slice A3 n3 c3] 33)).alloc (.cells #[.int .i64 0, .int .i64 0, .slice none 0 0, .slice none 0 0, .slice none 0 0, .int .i64 0, .int .i64 0, .int .i64 0, .slice none 0 0, .string ⟨#[]⟩, .int .u64 0, .int .u64 0] 43)).heap.size = w.heap.size + 2 by simp)
  clear hZ h hp hat hmul hms
  go_enter Tryz.func8, Tryz.ntmps8
  go_upto_region 1 with fail
  generalize (w.alloc (.cells #[.int .i64 a, .int .i64 b, .slice A1 n1 c1, .slice A2 n2 c2, .slice A3 n3 c3] 33)).alloc (.cells #[.int .i64 0, .int .i64 0, .slice none 0 0, .slice none 0 0, .slice none 0 0, .int .i64 0, .int .i64 0, .int .i64 0, .slice none 0 0, .string ⟨#[]⟩, .int .u64 0, .int .u64 0] 43) = w1 at *
  have d0 := HX1.out.cell 0
  have d1 := HX1.out.cell 1
  have d2 := HX1.out.cell 2
  have d3 := HX1.out.cell 3
  have d4 := HX1.out.cell 4
  go_upto_region 4 with fail
  obtain ⟨g, hg⟩ : ∃ g, g = w1.heap.size := ⟨_, rfl⟩
  rw [← hg]
  have HG := hid (show g = w.heap.size + 2 from hg.trans HSZ1.out)
  have hx3 := Blk.new w1 43 #[.int .i64 a, .int .i64 b, .slice A1 n1 c1, .slice A2 n2 c2, .slice A3 n3 c3, .int .i64 (at_ : Int), .int .i64 (n : Int), .int .i64 (size : Int), .slice none 0 0, .string ⟨#[]⟩, .int .u64 (fr : Int), .int .u64 0]
  rw [← hg] at hx3
  have HX3 := hid hx3
  have HB3 := hid (HB1.out.alloc HB1.out.size (.cells #[.int .i64 a, .int .i64 b, .slice A1 n1 c1, .slice A2 n2 c2, .slice A3 n3 c3, .int .i64 (at_ : Int), .int .i64 (n : Int), .int .i64 (size : Int), .slice none 0 0, .string ⟨#[]⟩, .int .u64 (fr : Int), .int .u64 0] 43))
  have HZ3 := hid (HZ1.out.alloc (.cells #[.int .i64 a, .int .i64 b, .slice A1 n1 c1, .slice A2 n2 c2, .slice A3 n3 c3, .int .i64 (at_ : Int), .int .i64 (n : Int), .int .i64 (size : Int), .slice none 0 0, .string ⟨#[]⟩, .int .u64 (fr : Int), .int .u64 0] 43))
  clear hx3 hg d0 d1 d2 d3 d4 HX1 HZ1 HB1
  generalize w1.alloc (.cells #[.int .i64 a, .int .i64 b, .slice A1 n1 c1, .slice A2 n2 c2, .slice A3 n3 c3, .int .i64 (at_ : Int), .int .i64 (n : Int), .int .i64 (size : Int), .slice none 0 0, .string ⟨#[]⟩, .int .u64 (fr : Int), .int .u64 0] 43) = w3 at *
  have HSZ3 := hid (show w.heap.size + 2 < w3.heap.size by have := HX3.out.lt; rw [HG.out] at this; exact this)
  have HD3 := hid (show D6 (fun k => (P k ∧ k < w.heap.size) ∨ w.heap.size + 3 ≤ k) w3 (.agg #[.int .i64 a, .int .i64 b, .slice A1 n1 c1, .slice A2 n2 c2, .slice A3 n3 c3]) s from (HD0.out.keep HB3.out.size fun k hk => HB3.out.block k hk.2).weak fun _ hk => .inl hk)
  have HV0 := hid (fun (W : World) (hW : Below w3.heap.size w3 W) => show W8 (fun k => (P k ∧ k < w.heap.size) ∨ w.heap.size + 3 ≤ k) W (.agg #[.int .i64 a, .int .i64 b, .slice A1 n1 c1, .slice A2 n2 c2, .slice A3 n3 c3, .int .i64 (at_ : Int), .int .i64 (n : Int), .int .i64 (size : Int), .slice none 0 0, .string ⟨#[]⟩, .int .u64 (fr : Int), .int .u64 0]) s (wl0 at_ n size fr) from
    W8.of (live := []) (HD3.out.step hW) GAt.nil In.nil (Nat.le_refl _) (by have := HAT.out; omega) hn hs (Nat.zero_le _) hfr)
  obtain ⟨F, hF⟩ : ∃ F, F = m64 (fr + 1) := ⟨_, rfl⟩
  have hwf : IntKind.u64.wrap ((fr : Int) + 1) = (F : Int) := by rw [IntKind.wrap_u64, hF]; unfold m64; omega
  have HFF := hid hF
  have HVS := hid (fun (p : Int) (x : List UInt8) (hx : s.view p = some x) => (HD3.out.view_le hx).1)
  have HDW := hid (fun (W : World) (hW : Below w.heap.size w W) => show D6 (fun k => (P k ∧ k < w.heap.size) ∨ w.heap.size + 3 ≤ k) W (.agg #[.int .i64 a, .int .i64 b, .slice A1 n1 c1, .slice A2 n2 c2, .slice A3 n3 c3]) s from (HD0.out.keep hW.size fun k hk => hW.block k hk.2).weak fun _ hk => .inl hk)
  clear HD0 HSZ1 hF
  go_wp2_with fail
  go_loopw [14, 15, 16] (fun x y j wr => ∃ k : Nat, k ≤ n ∧ x = .int .i64 ((wl0 at_ n size fr).pick s.view fr k).1 ∧ y = .int .u64 (((wl0 at_ n size fr).pick s.view fr k).2 : Int) ∧ j = .int .i64 (k : Int) ∧ Kept (Below w3.heap.size w3 wr)) (fun _ _ j _ => n - (intOf j).toNat)
  case atStart => exact ⟨0, Nat.zero_le _, rfl, rfl, rfl, hid (Below.refl _ _)⟩
  case round =>
    obtain ⟨k, hk, rfl, rfl, rfl, HB⟩ := hrel
    have hpn := Wl.pick_lt (wl0 at_ n size fr) s.view fr n k hk
    have hpu := Wl.pick_u64 (wl0 at_ n size fr) s.view fr k
    have hpk : (wl0 at_ n size fr).pick s.view fr (k + 1) = pick1 ((wl0 at_ n size fr).look s.view k) fr k ((wl0 at_ n size fr).pick s.view fr k) := rfl
    have HX := hid (HX3.out.below HB.out HX3.out.lt)
    have x0 := HX.out.cell 0
    have x1 := HX.out.cell 1
    have x2 := HX.out.cell 2
    have x3 := HX.out.cell 3
    have x4 := HX.out.cell 4
    have x5 := HX.out.cell 5
    have x6 := HX.out.cell 6
    have x7 := HX.out.cell 7
    have x8 := HX.out.cell 8
    have x9 := HX.out.cell 9
    have x10 := HX.out.cell 10
    have x11 := HX.out.cell 11
    by_cases hlt : k < n
    · have hlk := look8_any k (HV0.out wr HB.out) (by omega)
      have hob : ∀ q rs, (wl0 at_ n size fr).look s.view k = some (q, rs) → q < 18446744073709551616 ∧ rs.length ≤ 4000 := fun q rs ho => ⟨lookB_lt ho, by
        have h1 := lookB_len ho
        have h2 := segB_le HVS.out (wl0 at_ n size fr).size ((wl0 at_ n size fr).place k)
        have : (wl0 at_ n size fr).size ≤ 64 := hs
        omega⟩
      generalize (wl0 at_ n size fr).look s.view k = o at *
      generalize (wl0 at_ n size fr).pick s.view fr k = pp at *
      obtain ⟨pk, bs⟩ := pp
      dsimp only at hpn hpu
      cases o with
      | none =>
        have HPK := hid (show (wl0 at_ n size fr).pick s.view fr (k + 1) = (pk, bs) from hpk)
        clear hpk hob
        change Calls _ _ _ _ fun e w' => ∃ A m c, e = .returned (.tuple #[.int .u64 0, .slice A m c, .bool false]) ∧ RcRow w' _ A m c [] ∧ _ at hlk
        have HLK := hid hlk
        clear hlk
        go_wp2_with fail
        go_fit (HLK.out)
        rintro e w5 ⟨A5, m5, c5, rfl, hr5, hb5⟩
        obtain rfl := hr5.1
        have HB5 := hid (HB.out.trans (hb5.mono HB.out.size))
        clear hr5 hb5
        go_wp2_with fail
        go_roundw
        case rel => exact ⟨k + 1, by omega, by rw [HPK.out], by rw [HPK.out], by go_num, HB5⟩
        case measure => simp [intOf]; omega
      | some x =>
        obtain ⟨base, rs⟩ := x
        obtain ⟨hbl, hrl⟩ := hob base rs rfl
        change Calls _ _ _ _ fun e w' => ∃ A m c, e = .returned (.tuple #[.int .u64 (base : Int), .slice A m c, .bool true]) ∧ RcRow w' _ A m c rs ∧ _ at hlk
        unfold pick1 at hpk
        dsimp only at hpk
        rw [← HFF.out] at hpk
        obtain ⟨G, hG⟩ : ∃ G, G = m64 (base + rs.length) := ⟨_, rfl⟩
        rw [← hG] at hpk
        have hwl : IntKind.u64.wrap (rs.length : Int) = (rs.length : Int) := by rw [IntKind.wrap_u64]; omega
        have hwg : IntKind.u64.wrap ((base : Int) + (rs.length : Int)) = (G : Int) := by rw [IntKind.wrap_u64, hG]; unfold m64; omega
        clear hob hG
        by_cases q1 : base ≤ F
        case neg =>
          rw [if_neg (fun h => q1 h.1)] at hpk
          have HPK := hid hpk
          have b1 : ¬ (base : Int) ≤ (F : Int) := by omega
          clear hpk
          have HLK := hid hlk
          clear hlk
          go_wp2_with fail
          go_fit (HLK.out)
          rintro e w5 ⟨A5, m5, c5, rfl, hr5, hb5⟩
          obtain rfl := hr5.1
          have HB5 := hid (HB.out.trans (hb5.mono HB.out.size))
          clear hr5 hb5
          go_wp2_with fail
          go_roundw
          case rel => exact ⟨k + 1, by omega, by rw [HPK.out], by rw [HPK.out], by go_num, HB5⟩
          case measure => simp [intOf]; omega
        have b1 : (base : Int) ≤ (F : Int) := by omega
        by_cases q2 : F ≤ G
        case neg =>
          rw [if_neg (fun h => q2 h.2.1)] at hpk
          have HPK := hid hpk
          have b2 : ¬ (G : Int) ≥ (F : Int) := by omega
          clear hpk
          have HLK := hid hlk
          clear hlk
          go_wp2_with fail
          go_fit (HLK.out)
          rintro e w5 ⟨A5, m5, c5, rfl, hr5, hb5⟩
          obtain rfl := hr5.1
          have HB5 := hid (HB.out.trans (hb5.mono HB.out.size))
          clear hr5 hb5
          go_wp2_with fail
          go_roundw
          case rel => exact ⟨k + 1, by omega, by rw [HPK.out], by rw [HPK.out], by go_num, HB5⟩
          case measure => simp [intOf]; omega
        have b2 : (G : Int) ≥ (F : Int) := by omega
        by_cases q3 : pk < 0
        · rw [if_pos ⟨q1, q2, .inl q3⟩] at hpk
          have HPK := hid hpk
          clear hpk
          have HLK := hid hlk
          clear hlk
          go_wp2_with fail
          go_fit (HLK.out)
          rintro e w5 ⟨A5, m5, c5, rfl, hr5, hb5⟩
          obtain rfl := hr5.1
          have HB5 := hid (HB.out.trans (hb5.mono HB.out.size))
          clear hr5 hb5
          go_wp2_with fail
          go_roundw
          case rel => exact ⟨k + 1, by omega, by rw [HPK.out], by rw [HPK.out], by go_num, HB5⟩
          case measure => simp [intOf]; omega
        · by_cases q4 : bs < base
          · rw [if_pos ⟨q1, q2, .inr q4⟩] at hpk
            have HPK := hid hpk
            have b4 : (base : Int) > (bs : Int) := by omega
            clear hpk
            have HLK := hid hlk
            clear hlk
            go_wp2_with fail
            go_fit (HLK.out)
            rintro e w5 ⟨A5, m5, c5, rfl, hr5, hb5⟩
            obtain rfl := hr5.1
            have HB5 := hid (HB.out.trans (hb5.mono HB.out.size))
            clear hr5 hb5
            go_wp2_with fail
            go_roundw
            case rel => exact ⟨k + 1, by omega, by rw [HPK.out], by rw [HPK.out], by go_num, HB5⟩
            case measure => simp [intOf]; omega
          · rw [if_neg (fun h => h.2.2.elim q3 q4)] at hpk
            have HPK := hid hpk
            have b4 : ¬ (base : Int) > (bs : Int) := by omega
            clear hpk
            have HLK := hid hlk
            clear hlk
            go_wp2_with fail
            go_fit (HLK.out)
            rintro e w5 ⟨A5, m5, c5, rfl, hr5, hb5⟩
            obtain rfl := hr5.1
            have HB5 := hid (HB.out.trans (hb5.mono HB.out.size))
            clear hr5 hb5
            go_wp2_with fail
            go_roundw
            case rel => exact ⟨k + 1, by omega, by rw [HPK.out], by rw [HPK.out], by go_num, HB5⟩
            case measure => simp [intOf]; omega
    · obtain rfl : n = k := by omega
      have hnlt : ¬ (n : Int) < (n : Int) := by omega
      have HBG := hid (show (wl0 at_ n size fr).begin s.view fr = ⟨[], fr, [], ((wl0 at_ n size fr).pick s.view fr n).1⟩ from rfl)
      have HOK := hid (Wl.begin_ok (wl0 at_ n size fr) s.view hfr)
      clear hpk hpn hpu hlt
      generalize ((wl0 at_ n size fr).pick s.view fr n).2 = bs at *
      generalize ((wl0 at_ n size fr).pick s.view fr n).1 = pk at *
      rw [HBG.out] at HOK
      have hal : Below g w3 (wr.alloc (.cells #[] 70)) := (HB.out.mono (Nat.le_of_lt HX3.out.lt)).alloc (Nat.le_trans (Nat.le_of_lt HX3.out.lt) HB.out.size) _
      have HO0 := hid (show Op2 w3 (wr.alloc (.cells #[] 70)) g at_ n size fr s.view a b A1 A2 A3 n1 n2 n3 c1 c2 c3 none (some ⟨wr.heap.size, 0, none⟩) 0 0 0 0 ⟨[], fr, [], pk⟩ from
        ⟨HOK.out, by rw [← HBG.out]; rfl, HX.out.alloc _, GRow.nil, RcRow.empty wr rfl HB.out.size, Nat.zero_le _, hal⟩)
      clear hal HBG HOK
      go_wp2_with fail
      go_loopw [14, 20] (fun x o wr => ∃ (c : Ch) (A Ao : Option Addr) (ml cl mo co : Nat), x = .int .i64 c.next ∧ o = .slice Ao mo co ∧ Kept (Op2 w3 wr g at_ n size fr s.view a b A1 A2 A3 n1 n2 n3 c1 c2 c3 A Ao ml cl mo co c)) (fun _ _ wr => n - liveLen wr g)
      case atStart => exact ⟨_, none, _, 0, 0, 0, 0, rfl, rfl, HO0⟩
      case round =>
        clear HO0 HB HX
        obtain ⟨c, A, Ao, ml, cl, mo, co, rfl, rfl, HO⟩ := hrel
        obtain ⟨wz, rfl⟩ : ∃ wz, wz = wr := ⟨_, rfl⟩
        have HLW := hid (liveLen_is (HO.out.box.cell 8))
        have HBW := hid (show Below w.heap.size w wz from HB3.out.trans (HO.out.below.mono (by rw [HG.out]; omega)))
        by_cases hnx : c.next < 0
        · have HFD := hid (show (wl0 at_ n size fr).found s.view fr = c from HO.out.found.trans (Wl.chain_stop _ _ _ hnx _))
          have hcl := HO.out.ok.len
          have HCL := hid HO.out.ok.last
          have hn0 : ¬ (c.next ≥ 0) := by omega
          have HW0 := hid (show W8 (fun k => (P k ∧ k < w.heap.size) ∨ w.heap.size + 3 ≤ k) wz (.agg #[.int .i64 a, .int .i64 b, .slice A1 n1 c1, .slice A2 n2 c2, .slice A3 n3 c3, .int .i64 (at_ : Int), .int .i64 (n : Int), .int .i64 (size : Int), .slice A ml cl, .string ⟨#[]⟩, .int .u64 (c.last : Int), .int .u64 0]) s ⟨at_, n, size, c.live, [], c.last, 0⟩ from by
            have hml := HO.out.live.1
            have hcap := HO.out.live.cap
            subst hml
            exact W8.of (HDW.out wz HBW.out) HO.out.live.at_ (HO.out.live.in_.weak fun q hq => .inr (by have := HSZ3.out; omega)) hcap (by have := HAT.out; omega) hn hs (by omega) HCL.out)
          obtain ⟨HBX, HOU, HBE⟩ : Kept (Blk wz g 43 _) ∧ Kept (RcRow wz w3.heap.size Ao mo co c.out) ∧ Kept (Below g w3 wz) := ⟨hid HO.out.box, hid HO.out.out, hid HO.out.below⟩
          have HMLE := hid HO.out.live.1
          clear HLW HO HBW
          have hgw : g < w3.heap.size := HX3.out.lt
          have HGW := hid hgw
          clear hgw
          go_wp2_with fail
          go_loopw [29] (fun y wr => ∃ (i : Nat) (a b : Int) (A1 A2 A3 A : Option Addr) (n1 n2 n3 c1 c2 c3 cl : Nat), i ≤ n ∧ y = .int .i64 (i : Int) ∧ Kept (Blk wr g 43 #[.int .i64 a, .int .i64 b, .slice A1 n1 c1, .slice A2 n2 c2, .slice A3 n3 c3, .int .i64 (at_ : Int), .int .i64 (n : Int), .int .i64 (size : Int), .slice A ml cl, .string ⟨#[]⟩, .int .u64 (c.last : Int), .int .u64 0]) ∧ Kept (W8 (fun k => (P k ∧ k < w.heap.size) ∨ w.heap.size + 3 ≤ k) wr (.agg #[.int .i64 a, .int .i64 b, .slice A1 n1 c1, .slice A2 n2 c2, .slice A3 n3 c3, .int .i64 (at_ : Int), .int .i64 (n : Int), .int .i64 (size : Int), .slice A ml cl, .string ⟨#[]⟩, .int .u64 (c.last : Int), .int .u64 0]) ((wl0 at_ n size fr).freeAll c.live s i) ⟨at_, n, size, c.live, [], c.last, 0⟩) ∧ Kept (RcRow wr w3.heap.size Ao mo co c.out) ∧ Kept (Below g w3 wr)) (fun y _ => n - (intOf y).toNat)
          case atStart => exact ⟨0, a, b, A1, A2, A3, A, n1, n2, n3, c1, c2, c3, cl, Nat.zero_le _, rfl, HBX, HW0, HOU, HBE⟩
          case round =>
            clear HBX HW0 HOU HBE
            obtain ⟨i, a, b, A1, A2, A3, A, n1, n2, n3, c1, c2, c3, cl, hi, rfl, HBX, HW, HOU, HBE⟩ := hrel
            have x0 := HBX.out.cell 0
            have xf0 := HBX.out.free 0
            have x1 := HBX.out.cell 1
            have xf1 := HBX.out.free 1
            have x2 := HBX.out.cell 2
            have xf2 := HBX.out.free 2
            have x3 := HBX.out.cell 3
            have xf3 := HBX.out.free 3
            have x4 := HBX.out.cell 4
            have xf4 := HBX.out.free 4
            have x5 := HBX.out.cell 5
            have xf5 := HBX.out.free 5
            have x6 := HBX.out.cell 6
            have xf6 := HBX.out.free 6
            have x7 := HBX.out.cell 7
            have xf7 := HBX.out.free 7
            have x8 := HBX.out.cell 8
            have xf8 := HBX.out.free 8
            have x9 := HBX.out.cell 9
            have xf9 := HBX.out.free 9
            have x10 := HBX.out.cell 10
            have xf10 := HBX.out.free 10
            have x11 := HBX.out.cell 11
            have xf11 := HBX.out.free 11
            by_cases hlt : i < n
            · have hlt' : (i : Int) < (n : Int) := by omega
              have hus := used8_any i HW.out
              have hfa : (wl0 at_ n size fr).freeAll c.live s (i + 1) = if usedBy c.live i then (wl0 at_ n size fr).freeAll c.live s i else freeN ((wl0 at_ n size fr).freeAll c.live s i) ((wl0 at_ n size fr).place i) size := rfl
              rw [show Wl.used ⟨at_, n, size, c.live, [], c.last, 0⟩ i = usedBy c.live i from rfl] at hus
              cases hu : usedBy c.live i with
              | true =>
                rw [hu] at hus hfa
                rw [if_pos rfl] at hfa
                have HUS := hid hus
                have HFA := hid hfa
                clear hus hfa hu
                go_wp2_with fail
                go_fit HUS.out
                rintro e w5 ⟨rfl, hb5⟩
                have H5 := hid hb5
                clear hb5
                go_wp2_with fail
                go_roundw
                case rel => exact ⟨i + 1, a, b, A1, A2, A3, A, n1, n2, n3, c1, c2, c3, cl, by omega, by go_num, hid (HBX.out.below H5.out HBX.out.lt), hid (by rw [HFA.out]; exact HW.out.step H5.out), hid (HOU.out.below H5.out), hid (HBE.out.trans (H5.out.mono (Nat.le_of_lt HBX.out.lt)))⟩
                case measure => simp [intOf]; omega
              | false =>
                rw [hu] at hus hfa
                rw [if_neg (by decide)] at hfa
                have HUS := hid hus
                have HFA := hid hfa
                have hpd := freeAll_pend (wl0 at_ n size fr) c.live s hs i
                have HFR2 := hid (fun (W : World) (hW : Below wr.heap.size wr W) => free8_any i (HW.out.bound.step hW) (by omega) (by have := HP.out; omega))
                clear hus hfa hu hpd
                go_wp2_with fail
                go_fit HUS.out
                rintro e w5 ⟨rfl, hb5⟩
                have H5 := hid hb5
                have HBX5 := hid (HBX.out.below hb5 HBX.out.lt)
                clear hb5 x0 xf0 x1 xf1 x2 xf2 x3 xf3 x4 xf4 x5 xf5 x6 xf6 x7 xf7 x8 xf8 x9 xf9 x10 xf10 x11 xf11
                have x0 := HBX5.out.cell 0
                have x1 := HBX5.out.cell 1
                have x2 := HBX5.out.cell 2
                have x3 := HBX5.out.cell 3
                have x4 := HBX5.out.cell 4
                have x5 := HBX5.out.cell 5
                have x6 := HBX5.out.cell 6
                have x7 := HBX5.out.cell 7
                have x8 := HBX5.out.cell 8
                have x9 := HBX5.out.cell 9
                have x10 := HBX5.out.cell 10
                have x11 := HBX5.out.cell 11
                go_wp2_with fail
                go_fit (HFR2.out w5 H5.out)
                rintro e w6 ⟨v6, rfl, hw6, hb6⟩
                obtain ⟨a', b', A1', A2', A3', A', n1', n2', n3', c1', c2', c3', cl', hv6, _⟩ := hw6.shape
                have hv7 : v6 = .agg #[.int .i64 a', .int .i64 b', .slice A1' n1' c1', .slice A2' n2' c2', .slice A3' n3' c3', .int .i64 (at_ : Int), .int .i64 (n : Int), .int .i64 (size : Int), .slice A' ml cl', .string ⟨#[]⟩, .int .u64 (c.last : Int), .int .u64 0] := by rw [hv6, HMLE.out]; rfl
                clear hv6
                subst hv7
                have HW6 := hid (show W8 _ w6 _ ((wl0 at_ n size fr).freeAll c.live s (i + 1)) ⟨at_, n, size, c.live, [], c.last, 0⟩ from by rw [HFA.out]; exact hw6)
                have H6 := hid (H5.out.trans (hb6.mono H5.out.size))
                have HBX6 := hid (HBX5.out.below hb6 HBX5.out.lt)
                have HSZ5 := hid H5.out.size
                clear hw6 hb6 x0 x1 x2 x3 x4 x5 x6 x7 x8 x9 x10 x11
                have x0 := HBX6.out.cell 0
                have xf0 := HBX6.out.free 0
                have x1 := HBX6.out.cell 1
                have xf1 := HBX6.out.free 1
                have x2 := HBX6.out.cell 2
                have xf2 := HBX6.out.free 2
                have x3 := HBX6.out.cell 3
                have xf3 := HBX6.out.free 3
                have x4 := HBX6.out.cell 4
                have xf4 := HBX6.out.free 4
                have x5 := HBX6.out.cell 5
                have xf5 := HBX6.out.free 5
                have x6 := HBX6.out.cell 6
                have xf6 := HBX6.out.free 6
                have x7 := HBX6.out.cell 7
                have xf7 := HBX6.out.free 7
                have x8 := HBX6.out.cell 8
                have xf8 := HBX6.out.free 8
                have x9 := HBX6.out.cell 9
                have xf9 := HBX6.out.free 9
                have x10 := HBX6.out.cell 10
                have xf10 := HBX6.out.free 10
                have x11 := HBX6.out.cell 11
                have xf11 := HBX6.out.free 11
                go_wp2_with fail
                go_roundw
                case rel =>
                  have key : ∀ wf, Off2 g g w6 wf → Kept (W8 (fun k => (P k ∧ k < w.heap.size) ∨ w.heap.size + 3 ≤ k) wf (.agg #[.int .i64 a', .int .i64 b', .slice A1' n1' c1', .slice A2' n2' c2', .slice A3' n3' c3', .int .i64 (at_ : Int), .int .i64 (n : Int), .int .i64 (size : Int), .slice A' ml cl', .string ⟨#[]⟩, .int .u64 (c.last : Int), .int .u64 0]) ((wl0 at_ n size fr).freeAll c.live s (i + 1)) ⟨at_, n, size, c.live, [], c.last, 0⟩) ∧ Kept (RcRow wf w3.heap.size Ao mo co c.out) ∧ Kept (Below g w3 wf) := by
                    intro wf ho
                    have hsz := HSZ3.out
                    have hg := HG.out
                    have hgw := HGW.out
                    have h5 := HSZ5.out
                    have hwr := HBE.out.size
                    have hou := HOU.out.below H6.out
                    refine ⟨hid ((HW6.out.keep (by rw [ho.size]; exact Nat.le_refl _) (fun k hk => ho.block k ?_ ?_)).weak (fun k hk => ?_)), hid ⟨hou.1, hou.2.kept (row := some g) ⟨ho.os, ho.tape, ho.output, by rw [ho.size]; exact Nat.le_refl _, fun k _ hne => ho.block k (fun e => hne (by rw [e])) (fun e => hne (by rw [e]))⟩ (.inr fun e => by have := (hou.2.lt g e).1; omega)⟩, hid (ho.below (HBE.out.trans (H6.out.mono (Nat.le_of_lt HBX.out.lt))) (Nat.le_refl _) (Nat.le_refl _))⟩
                    · rcases hk with ⟨hk | hk, _⟩ | hk <;> omega
                    · rcases hk with ⟨hk | hk, _⟩ | hk <;> omega
                    · rcases hk with ⟨hk, _⟩ | hk
                      · exact hk
                      · exact .inr (by omega)
                  exact ⟨i + 1, a', b', A1', A2', A3', A', n1', n2', n3', c1', c2', c3', cl', by omega, by go_num, hid HBX6.out.set12, key _ (((((((((((((Off2.refl w6).setg 0 _).setg 1 _).setg 2 _).setg 3 _).setg 4 _).setg 5 _).setg 6 _).setg 7 _).setg 8 _).setg 9 _).setg 10 _).setg 11 _)⟩
                case measure => simp [intOf]; omega
            · have hin : i = n := by omega
              subst hin
              have hnlt : ¬ (i : Int) < (i : Int) := by omega
              have hgz : w.heap.size + 1 < g := by rw [HG.out]; omega
              have HZR := hid (HZ3.out.below HBE.out hgz)
              have HBR := hid (show Below w.heap.size w wr from HB3.out.trans (HBE.out.mono (by omega)))
              by_cases hl : c.last < fr
              · have hl' : (c.last : Int) < (fr : Int) := by omega
                have ho : Off2 g g wr (wr.setCell ⟨g, 10, none⟩ (.int .u64 (fr : Int))) := (Off2.refl wr).setg 10 _
                have HWF := hid (show W8 (fun k => (P k ∧ k < w.heap.size) ∨ w.heap.size + 3 ≤ k) (wr.setCell ⟨g, 10, none⟩ (.int .u64 (fr : Int))) _ _ ⟨at_, i, size, c.live, [], fr, 0⟩ from (HW.out.relast hfr).keep (by rw [ho.size]; exact Nat.le_refl _) (fun k hk => ho.block k (by have := HG.out; rcases hk with hk | hk <;> omega) (by have := HG.out; rcases hk with hk | hk <;> omega)))
                have HBF := hid (ho.below HBR.out (by omega) (by omega))
                have HZF := hid (HZR.out.far (p := ⟨g, 10, none⟩) (by simp; omega) (.int .u64 (fr : Int)))
                have HOF := hid (show RcRow (wr.setCell ⟨g, 10, none⟩ (.int .u64 (fr : Int))) w3.heap.size Ao mo co c.out from (HOU.out.g.set HGW.out _))
                go_wp2_with fail
                go_fit (sync8_any HWF.out)
                rintro e w6 ⟨v6, rfl, hw6, hb6⟩
                obtain ⟨a', b', A1', A2', A3', A', n1', n2', n3', c1', c2', c3', cl', hv6, _⟩ := hw6.shape
                have hv7 : v6 = .agg #[.int .i64 a', .int .i64 b', .slice A1' n1' c1', .slice A2' n2' c2', .slice A3' n3' c3', .int .i64 (at_ : Int), .int .i64 (i : Int), .int .i64 (size : Int), .slice A' ml cl', .string ⟨#[]⟩, .int .u64 (fr : Int), .int .u64 (fr : Int)] := by rw [hv6, HMLE.out]; rfl
                clear hv6
                subst hv7
                have HW6 := hid hw6
                have HB6 := hid (HBF.out.trans (hb6.mono HBF.out.size))
                have HZ6 := hid (HZF.out.below hb6 HZF.out.lt)
                have HO6 := hid (HOF.out.below hb6)
                clear hw6 hb6 x0 xf0 x1 xf1 x2 xf2 x3 xf3 x4 xf4 x5 xf5 x6 xf6 x7 xf7 x8 xf8 x9 xf9 x10 xf10 x11 xf11
                have z0 := HZ6.out.cell 0
                have zf0 := HZ6.out.free 0
                have z1 := HZ6.out.cell 1
                have zf1 := HZ6.out.free 1
                have z2 := HZ6.out.cell 2
                have zf2 := HZ6.out.free 2
                have z3 := HZ6.out.cell 3
                have zf3 := HZ6.out.free 3
                have z4 := HZ6.out.cell 4
                have zf4 := HZ6.out.free 4
                have z5 := HZ6.out.cell 5
                have zf5 := HZ6.out.free 5
                have z6 := HZ6.out.cell 6
                have zf6 := HZ6.out.free 6
                have z7 := HZ6.out.cell 7
                have zf7 := HZ6.out.free 7
                have z8 := HZ6.out.cell 8
                have zf8 := HZ6.out.free 8
                have z9 := HZ6.out.cell 9
                have zf9 := HZ6.out.free 9
                have z10 := HZ6.out.cell 10
                have zf10 := HZ6.out.free 10
                have z11 := HZ6.out.cell 11
                have zf11 := HZ6.out.free 11
                go_wp2_with fail
                refine bodyPost_ret (v := .tuple #[.agg #[.int .i64 a', .int .i64 b', .slice A1' n1' c1', .slice A2' n2' c2', .slice A3' n3' c3', .int .i64 (at_ : Int), .int .i64 (i : Int), .int .i64 (size : Int), .slice A' ml cl', .string ⟨#[]⟩, .int .u64 (fr : Int), .int .u64 (fr : Int)], .slice Ao mo co, .int .i64 0]) (by simp [results, Tryz.results8, go_sem, *]) rfl ⟨_, _, _, _, rfl, ?_⟩
                have key : ∀ wf, Off2 (w.heap.size + 1) (w.heap.size + 1) w6 wf → W8 (fun k => P k ∨ w.heap.size ≤ k) wf (.agg #[.int .i64 a', .int .i64 b', .slice A1' n1' c1', .slice A2' n2' c2', .slice A3' n3' c3', .int .i64 (at_ : Int), .int .i64 (i : Int), .int .i64 (size : Int), .slice A' ml cl', .string ⟨#[]⟩, .int .u64 (fr : Int), .int .u64 (fr : Int)]) (openD s at_ i size fr) (openL s at_ i size fr) ∧ RcRow wf w.heap.size Ao mo co (openR s at_ i size fr) ∧ Below w.heap.size w wf := by
                  intro wf ho
                  have hsz := HSZ3.out
                  unfold openD openL openR
                  rw [HFD.out]
                  dsimp only
                  rw [if_pos hl]
                  refine ⟨(HW6.out.keep (by rw [ho.size]; exact Nat.le_refl _) (fun k hk => ho.block k ?_ ?_)).weak (fun k hk => ?_), ⟨HO6.out.1, Joins.ownsRow_le (HO6.out.2.kept (row := some (w.heap.size + 1)) ⟨ho.os, ho.tape, ho.output, by rw [ho.size]; exact Nat.le_refl _, fun k _ hne => ho.block k (fun e => hne (by rw [e])) (fun e => hne (by rw [e]))⟩ (.inr fun e => by have := (HO6.out.2.lt _ e).1; omega)) (by omega)⟩, ho.below HB6.out (Nat.le_succ _) (Nat.le_succ _)⟩
                  · rcases hk with hk | hk <;> omega
                  · rcases hk with hk | hk <;> omega
                  · rcases hk with hk | hk
                    · exact .inl hk.1
                    · exact .inr (by omega)
                exact key _ (((((((((((((Off2.refl w6).setg 0 _).setg 1 _).setg 2 _).setg 3 _).setg 4 _).setg 5 _).setg 6 _).setg 7 _).setg 8 _).setg 9 _).setg 10 _).setg 11 _)
              · have hl' : ¬ (c.last : Int) < (fr : Int) := by omega
                have HWF := hid HW.out
                have HBF := hid HBR.out
                have HZF := hid HZR.out
                have HOF := hid HOU.out
                go_wp2_with fail
                go_fit (sync8_any HWF.out)
                rintro e w6 ⟨v6, rfl, hw6, hb6⟩
                obtain ⟨a', b', A1', A2', A3', A', n1', n2', n3', c1', c2', c3', cl', hv6, _⟩ := hw6.shape
                have hv7 : v6 = .agg #[.int .i64 a', .int .i64 b', .slice A1' n1' c1', .slice A2' n2' c2', .slice A3' n3' c3', .int .i64 (at_ : Int), .int .i64 (i : Int), .int .i64 (size : Int), .slice A' ml cl', .string ⟨#[]⟩, .int .u64 (c.last : Int), .int .u64 (c.last : Int)] := by rw [hv6, HMLE.out]; rfl
                clear hv6
                subst hv7
                have HW6 := hid hw6
                have HB6 := hid (HBF.out.trans (hb6.mono HBF.out.size))
                have HZ6 := hid (HZF.out.below hb6 HZF.out.lt)
                have HO6 := hid (HOF.out.below hb6)
                clear hw6 hb6 x0 xf0 x1 xf1 x2 xf2 x3 xf3 x4 xf4 x5 xf5 x6 xf6 x7 xf7 x8 xf8 x9 xf9 x10 xf10 x11 xf11
                have z0 := HZ6.out.cell 0
                have zf0 := HZ6.out.free 0
                have z1 := HZ6.out.cell 1
                have zf1 := HZ6.out.free 1
                have z2 := HZ6.out.cell 2
                have zf2 := HZ6.out.free 2
                have z3 := HZ6.out.cell 3
                have zf3 := HZ6.out.free 3
                have z4 := HZ6.out.cell 4
                have zf4 := HZ6.out.free 4
                have z5 := HZ6.out.cell 5
                have zf5 := HZ6.out.free 5
                have z6 := HZ6.out.cell 6
                have zf6 := HZ6.out.free 6
                have z7 := HZ6.out.cell 7
                have zf7 := HZ6.out.free 7
                have z8 := HZ6.out.cell 8
                have zf8 := HZ6.out.free 8
                have z9 := HZ6.out.cell 9
                have zf9 := HZ6.out.free 9
                have z10 := HZ6.out.cell 10
                have zf10 := HZ6.out.free 10
                have z11 := HZ6.out.cell 11
                have zf11 := HZ6.out.free 11
                go_wp2_with fail
                refine bodyPost_ret (v := .tuple #[.agg #[.int .i64 a', .int .i64 b', .slice A1' n1' c1', .slice A2' n2' c2', .slice A3' n3' c3', .int .i64 (at_ : Int), .int .i64 (i : Int), .int .i64 (size : Int), .slice A' ml cl', .string ⟨#[]⟩, .int .u64 (c.last : Int), .int .u64 (c.last : Int)], .slice Ao mo co, .int .i64 0]) (by simp [results, Tryz.results8, go_sem, *]) rfl ⟨_, _, _, _, rfl, ?_⟩
                have key : ∀ wf, Off2 (w.heap.size + 1) (w.heap.size + 1) w6 wf → W8 (fun k => P k ∨ w.heap.size ≤ k) wf (.agg #[.int .i64 a', .int .i64 b', .slice A1' n1' c1', .slice A2' n2' c2', .slice A3' n3' c3', .int .i64 (at_ : Int), .int .i64 (i : Int), .int .i64 (size : Int), .slice A' ml cl', .string ⟨#[]⟩, .int .u64 (c.last : Int), .int .u64 (c.last : Int)]) (openD s at_ i size fr) (openL s at_ i size fr) ∧ RcRow wf w.heap.size Ao mo co (openR s at_ i size fr) ∧ Below w.heap.size w wf := by
                  intro wf ho
                  have hsz := HSZ3.out
                  unfold openD openL openR
                  rw [HFD.out]
                  dsimp only
                  rw [if_neg hl]
                  refine ⟨(HW6.out.keep (by rw [ho.size]; exact Nat.le_refl _) (fun k hk => ho.block k ?_ ?_)).weak (fun k hk => ?_), ⟨HO6.out.1, Joins.ownsRow_le (HO6.out.2.kept (row := some (w.heap.size + 1)) ⟨ho.os, ho.tape, ho.output, by rw [ho.size]; exact Nat.le_refl _, fun k _ hne => ho.block k (fun e => hne (by rw [e])) (fun e => hne (by rw [e]))⟩ (.inr fun e => by have := (HO6.out.2.lt _ e).1; omega)) (by omega)⟩, ho.below HB6.out (Nat.le_succ _) (Nat.le_succ _)⟩
                  · rcases hk with hk | hk <;> omega
                  · rcases hk with hk | hk <;> omega
                  · rcases hk with hk | hk
                    · exact .inl hk.1
                    · exact .inr (by omega)
                exact key _ (((((((((((((Off2.refl w6).setg 0 _).setg 1 _).setg 2 _).setg 3 _).setg 4 _).setg 5 _).setg 6 _).setg 7 _).setg 8 _).setg 9 _).setg 10 _).setg 11 _)
        · obtain ⟨j, hj⟩ : ∃ j : Nat, c.next = (j : Int) := ⟨c.next.toNat, by omega⟩
          have hok := HO.out.ok
          have hjn : j < n := by have := hok.next; omega
          have hlv := (Wl.chStep_ok (l := wl0 at_ n size fr) (m := s.view) (from_ := fr) hok (by omega)).len
          have hml := HO.out.live.1
          have hlv' : c.live.length + 1 ≤ n := by
            have : ((wl0 at_ n size fr).chStep s.view fr c).live.length = c.live.length + 1 := by show (c.live ++ [_]).length = _; simp
            rw [this] at hlv
            exact hlv
          have hV : W8 (fun k => (P k ∧ k < w.heap.size) ∨ w.heap.size + 3 ≤ k) wz (.agg #[.int .i64 a, .int .i64 b, .slice A1 n1 c1, .slice A2 n2 c2, .slice A3 n3 c3, .int .i64 (at_ : Int), .int .i64 (n : Int), .int .i64 (size : Int), .slice A ml cl, .string ⟨#[]⟩, .int .u64 (c.last : Int), .int .u64 0]) s ⟨at_, n, size, c.live, [], c.last, 0⟩ := by
            rw [hml]
            exact W8.of (HDW.out wz HBW.out) HO.out.live.at_ (HO.out.live.in_.weak fun q hq => .inr (by have := HSZ3.out; omega)) (by rw [← hml]; exact HO.out.live.cap) (by have := HAT.out; omega) hn hs (by omega) hok.last
          have hlk := look8_any j hV (by omega)
          have HLK := hid hlk
          have HX := hid HO.out.box
          have HML := hid hml
          have x0 := HX.out.cell 0
          have x1 := HX.out.cell 1
          have x2 := HX.out.cell 2
          have x3 := HX.out.cell 3
          have x4 := HX.out.cell 4
          have x5 := HX.out.cell 5
          have x6 := HX.out.cell 6
          have x7 := HX.out.cell 7
          have x8 := HX.out.cell 8
          have x9 := HX.out.cell 9
          have x10 := HX.out.cell 10
          have x11 := HX.out.cell 11
          have hob : ∀ q rs, (wl0 at_ n size fr).look s.view j = some (q, rs) → q < 18446744073709551616 ∧ rs.length ≤ 4000 := fun q rs ho => ⟨lookB_lt ho, by
            have h1 := lookB_len ho
            have h2 := segB_le HVS.out (wl0 at_ n size fr).size ((wl0 at_ n size fr).place j)
            have : (wl0 at_ n size fr).size ≤ 64 := hs
            omega⟩
          change Calls _ _ _ _ fun e w' => ∃ A m c, e = .returned (.tuple #[.int .u64 (((((wl0 at_ n size fr).look s.view j).map (·.1)).getD 0 : Nat) : Int), .slice A m c, .bool ((wl0 at_ n size fr).look s.view j).isSome]) ∧ RcRow w' _ A m c ((((wl0 at_ n size fr).look s.view j).map (·.2)).getD []) ∧ _ at hlk
          have hst : (wl0 at_ n size fr).chStep s.view fr c = ⟨c.live ++ [⟨j, (((wl0 at_ n size fr).look s.view j).map (·.1)).getD 0, ((((wl0 at_ n size fr).look s.view j).map (·.2)).getD []).length⟩], m64 ((((wl0 at_ n size fr).look s.view j).map (·.1)).getD 0 + ((((wl0 at_ n size fr).look s.view j).map (·.2)).getD []).length + 18446744073709551615), c.out ++ ((((wl0 at_ n size fr).look s.view j).map (·.2)).getD []).filter (fun r => decide (fr < r.1)),
              nextI (fun i => fits ((wl0 at_ n size fr).look s.view i) (m64 (m64 ((((wl0 at_ n size fr).look s.view j).map (·.1)).getD 0 + ((((wl0 at_ n size fr).look s.view j).map (·.2)).getD []).length + 18446744073709551615) + 1)) (usedBy (c.live ++ [⟨j, (((wl0 at_ n size fr).look s.view j).map (·.1)).getD 0, ((((wl0 at_ n size fr).look s.view j).map (·.2)).getD []).length⟩]) i)) n n⟩ := by
            unfold Wl.chStep
            rw [hj]
            rfl
          have hbl : (((wl0 at_ n size fr).look s.view j).map (·.1)).getD 0 < 18446744073709551616 ∧ ((((wl0 at_ n size fr).look s.view j).map (·.2)).getD []).length ≤ 4000 := by
            cases ho : (wl0 at_ n size fr).look s.view j with
            | none => exact ⟨by decide, by decide⟩
            | some x => exact hob x.1 x.2 ho
          have HST := hid hst
          generalize (((wl0 at_ n size fr).look s.view j).map (·.1)).getD 0 = base at HST hlk hbl
          generalize (((wl0 at_ n size fr).look s.view j).map (·.2)).getD [] = rs at HST hlk hbl
          generalize ((wl0 at_ n size fr).look s.view j).isSome = oks at hlk
          obtain ⟨la, hla⟩ : ∃ la, la = m64 (base + rs.length + 18446744073709551615) := ⟨_, rfl⟩
          rw [← hla] at HST
          obtain ⟨x, hx⟩ : ∃ x : Sg, x = ⟨j, base, rs.length⟩ := ⟨_, rfl⟩
          rw [← hx] at HST
          have HXE := hid (show (#[.int .i64 (j : Int), .int .u64 (base : Int), .int .u64 (rs.length : Int)] : Array Value).toList = eSg.enc x by rw [hx]; rfl)
          have hwl : IntKind.u64.wrap (rs.length : Int) = (rs.length : Int) := by rw [IntKind.wrap_u64]; omega
          obtain ⟨G, hG⟩ : ∃ G, G = m64 (base + rs.length) := ⟨_, rfl⟩
          have hwg : IntKind.u64.wrap ((base : Int) + (rs.length : Int)) = (G : Int) := by rw [IntKind.wrap_u64, hG]; unfold m64; omega
          have hwh : IntKind.u64.wrap ((G : Int) - 1) = (la : Int) := by rw [IntKind.wrap_u64, hla, hG]; unfold m64; omega
          have hrl : rs.length ≤ 4000 := hbl.2
          have HLK := hid hlk
          have hgw : g < w3.heap.size := HX3.out.lt
          have HGW := hid hgw
          have HLA := hid (show la < 18446744073709551616 by rw [hla]; exact m64_lt _)
          have HLV := hid (show c.live.length + 1 ≤ 64 by omega)
          have HLT2 := hid (show c.live.length < n by omega)
          have HFEW := hid HO.out.few
          have HFND := hid HO.out.found
          have HOK2 := hid (Wl.chStep_ok (l := wl0 at_ n size fr) (m := s.view) (from_ := fr) hok (by omega))
          rw [hj]
          clear hlk hV hst hbl hob hla hx hG hgw hml hlv hlv' hok
          go_wp2_with fail
          go_fit HLK.out
          rintro e w5 ⟨A5, m5, c5, rfl, hr5, hb5⟩
          obtain rfl := hr5.1
          have HO5 := hid (HO.out.step hb5)
          have HR5 := hid (show GRow eRc 70 w5 wz.heap.size A5 rs.length c5 rs from hr5.g)
          have HX5 := hid HO5.out.box
          have HWR := hid (show w3.heap.size ≤ wz.heap.size from HO.out.below.size)
          clear hr5 hb5 HX HLK x0 x1 x2 x3 x4 x5 x6 x7 x8 x9 x10 x11
          have x0 := HX5.out.cell 0
          have x1 := HX5.out.cell 1
          have x2 := HX5.out.cell 2
          have x3 := HX5.out.cell 3
          have x4 := HX5.out.cell 4
          have x5 := HX5.out.cell 5
          have x6 := HX5.out.cell 6
          have x7 := HX5.out.cell 7
          have x8 := HX5.out.cell 8
          have x9 := HX5.out.cell 9
          have x10 := HX5.out.cell 10
          have x11 := HX5.out.cell 11
          have HLN := hid (show c.live.length + [x].length ≤ 1099511627776 by have := HLV.out; simp; omega)
          have HSZ := hid (show w3.heap.size ≤ (w5.alloc (.cells #[.int .i64 (j : Int), .int .u64 (base : Int), .int .u64 (rs.length : Int)] 84)).heap.size by have := HO5.out.below.size; simp; omega)
          go_wp2_with (at_builtin; go_must (refine wpList_append_g _ rfl _ _ eSg gi_sg (by decide) rfl w3.heap.size rfl (HO5.out.live.alloc _) rfl rfl (GAt.one_at HXE.out rfl) HLN.out HSZ.out ?_))
          intro A7 m7 c7 w7 hr7 hm7 hb7 hg7
          have HX7 := hid ((HX5.out.alloc (.cells #[.int .i64 (j : Int), .int .u64 (base : Int), .int .u64 (rs.length : Int)] 84)).below hb7 HGW.out)
          have HR7 := hid hr7
          have ho7 := (HO5.out.out.g.alloc (.cells #[.int .i64 (j : Int), .int .u64 (base : Int), .int .u64 (rs.length : Int)] 84)).kept hg7 (own_apart HO5.out.out.g.2 HO5.out.live.2 (by decide))
          have hs7 := (HR5.out.alloc (.cells #[.int .i64 (j : Int), .int .u64 (base : Int), .int .u64 (rs.length : Int)] 84)).kept hg7 (own_apart HR5.out.2 HO5.out.live.2 (by decide))
          have HO7 := hid ho7
          have HS7 := hid hs7
          have hlo : In (fun q => (Value.slice Ao mo co).ownBlock ≠ some q) A5 rs := fun q off e hl => by
            have h1 := HR5.out.in_ q off e hl
            intro he
            have := (HO.out.out.2.lt q he).2
            omega
          have HNE := hid hlo
          have HBL := hid (show Below g w3 w7 from (HO5.out.below.alloc (Nat.le_trans (Nat.le_of_lt HGW.out) HO5.out.below.size) (.cells #[.int .i64 (j : Int), .int .u64 (base : Int), .int .u64 (rs.length : Int)] 84)).trans (hb7.mono (Nat.le_of_lt HGW.out)))
          clear hr7 hm7 hb7 hg7 ho7 hs7 hlo HO5 HR5 HX5 HO HBW x0 x1 x2 x3 x4 x5 x6 x7 x8 x9 x10 x11
          have d8 := HX7.out.cell 8
          have d8f := HX7.out.free 8
          have d10 := HX7.out.cell 10
          have d10f := HX7.out.free 10
          go_wp2_with fail
          have hge : ∀ q : Nat, w3.heap.size ≤ q → g ≠ q := fun q hq => by have := HGW.out; omega
          have HO8 := hid (show Op3 w3 ((w7.setCell ⟨g, 8, none⟩ (.slice A7 m7 c7)).setCell ⟨g, 10, none⟩ (.int .u64 (la : Int))) g at_ n size la a b A1 A2 A3 n1 n2 n3 c1 c2 c3 A7 Ao A5 m7 c7 mo co (c.live ++ [x]) rs c.out from
            ⟨(HX7.out.set 8 _).set 10 _, (HR7.out.set HGW.out _).set HGW.out _, (HO7.out.set HGW.out _).set HGW.out _, ((HS7.out.set (Nat.lt_of_lt_of_le HGW.out HWR.out) _).set (Nat.lt_of_lt_of_le HGW.out HWR.out) _).at_, HNE.out, (HBL.out.setCell (Nat.le_refl _) _).setCell (Nat.le_refl _) _⟩)
          clear HX7 HR7 HO7 HS7 HNE HBL d8 d8f d10 d10f hge
          generalize (w7.setCell ⟨g, 8, none⟩ (.slice A7 m7 c7)).setCell ⟨g, 10, none⟩ (.int .u64 (la : Int)) = w8 at *
          go_loopw [20, 24] (fun o y wr => ∃ (k : Nat) (Ao : Option Addr) (mo co : Nat), k ≤ rs.length ∧ o = .slice Ao mo co ∧ y = .int .i64 (k : Int) ∧ Kept (Op3 w3 wr g at_ n size la a b A1 A2 A3 n1 n2 n3 c1 c2 c3 A7 Ao A5 m7 c7 mo co (c.live ++ [x]) rs (c.out ++ (rs.take k).filter (fun r => decide (fr < r.1))))) (fun _ y _ => rs.length - (intOf y).toNat)
          case atStart => exact ⟨0, Ao, mo, co, Nat.zero_le _, rfl, rfl, by simpa using HO8⟩
          case round =>
            clear HO8
            obtain ⟨k, Ao, mo, co, hk, rfl, rfl, HO⟩ := hrel
            by_cases hlt : k < rs.length
            · obtain ⟨bb, off, r, rfl, hbb, hx, d0, d1⟩ := HO.out.told.rc (i := k) hlt
              have hft := filter_take (fr := fr) hx
              clear hx
              by_cases hfr' : fr < r.1
              · rw [if_pos hfr'] at hft
                have hgt : (r.1 : Int) > (fr : Int) := by omega
                have HFT := hid hft
                have HLN3 := hid (show (c.out ++ (rs.take k).filter (fun r => decide (fr < r.1))).length + [r].length ≤ 1099511627776 by
                  have h1 : ((rs.take k).filter (fun r => decide (fr < r.1))).length ≤ k := Nat.le_trans (List.length_filter_le _ _) (by rw [List.length_take]; omega)
                  have := HFEW.out
                  have := HLV.out
                  rw [List.length_append, List.length_singleton]
                  omega)
                have HSZ3' := hid (show w3.heap.size ≤ (wr.alloc (.cells #[.int .u64 (r.1 : Int), .string (bst r.2)] 70)).heap.size by have := HO.out.below.size; simp; omega)
                clear hft
                go_wp2_with (at_builtin; go_must (refine wpList_append_own _ rfl _ _ eRc gi_rc (by decide) rfl w3.heap.size rfl (HO.out.out.alloc _) rfl rfl (GAt.one_at (w := wr) (x := r) rfl rfl) HLN3.out HSZ3'.out ?_))
                intro A9 m9 c9 w9 hr9 hm9 hb9 hg9 ho9
                have HO9 := hid (show Op3 w3 w9 g at_ n size la a b A1 A2 A3 n1 n2 n3 c1 c2 c3 A7 A9 (some ⟨bb, off, none⟩) m7 c7 m9 c9 (c.live ++ [x]) rs (c.out ++ (rs.take (k + 1)).filter (fun r => decide (fr < r.1))) by
                  rw [HFT.out]
                  exact (HO.out.step ((Below.refl _ _).alloc (Nat.le_refl _) _)).app HGW.out hr9 hb9 hg9 (by simpa using ho9))
                clear hr9 hm9 hb9 hg9 ho9
                go_wp2_with fail
                go_roundw
                case rel => exact ⟨k + 1, A9, m9, c9, by omega, rfl, by go_num, HO9⟩
                case measure => simp [intOf]; omega
              · rw [if_neg hfr', List.append_nil] at hft
                have hgt : ¬ (r.1 : Int) > (fr : Int) := by omega
                rw [← hft] at HO
                clear hft
                go_wp2_with fail
                go_roundw
                case rel => exact ⟨k + 1, Ao, mo, co, by omega, rfl, by go_num, HO⟩
                case measure => simp [intOf]; omega
            · have hkr : k = rs.length := by omega
              rw [hkr, List.take_length] at HO
              have hnl3 : ¬ (k : Int) < (rs.length : Int) := by omega
              clear hlt hkr hk
              obtain ⟨wa, rfl⟩ : ∃ wa, wa = wr := ⟨_, rfl⟩
              have HV := hid (fun (W : World) (hW : Below wa.heap.size wa W) => show W8 (fun k => (P k ∧ k < w.heap.size) ∨ w.heap.size + 3 ≤ k) W (.agg #[.int .i64 a, .int .i64 b, .slice A1 n1 c1, .slice A2 n2 c2, .slice A3 n3 c3, .int .i64 (at_ : Int), .int .i64 (n : Int), .int .i64 (size : Int), .slice A7 m7 c7, .string ⟨#[]⟩, .int .u64 (la : Int), .int .u64 0]) s ⟨at_, n, size, c.live ++ [x], [], la, 0⟩ from by
                have h3 := HO.out.step hW
                have hm7 := h3.live.1
                have hBW : Below w.heap.size w W := HB3.out.trans (h3.below.mono (by rw [HG.out]; omega))
                subst hm7
                exact W8.of (HDW.out W hBW) h3.live.at_ (h3.live.in_.weak fun q hq => .inr (by have := HSZ3.out; omega)) h3.live.cap (by have := HAT.out; omega) hn hs (by have := HLV.out; simp; omega) HLA.out)
              have HM7 := hid HO.out.live.1
              have HBX := hid HO.out.box
              obtain ⟨N, hN⟩ : ∃ N, N = m64 (la + 1) := ⟨_, rfl⟩
              have hwn : IntKind.u64.wrap ((la : Int) + 1) = (N : Int) := by rw [IntKind.wrap_u64, hN]; unfold m64; omega
              obtain ⟨f, hf⟩ : ∃ f : Nat → Bool, f = fun i => fits ((wl0 at_ n size fr).look s.view i) N (usedBy (c.live ++ [x]) i) := ⟨_, rfl⟩
              have HFI := hid (fun i => congrFun hf i)
              rw [← hN] at HST
              rw [← hf] at HST
              clear hN hf
              go_wp2_with fail
              go_loopw [14, 25] (fun x y w4 => ∃ k4 : Nat, k4 ≤ n ∧ x = .int .i64 (nextI f n k4) ∧ y = .int .i64 ((n : Int) - 1 - (k4 : Int)) ∧ Kept (Below wa.heap.size wa w4)) (fun _ y _ => (intOf y + 1).toNat)
              case atStart => exact ⟨0, Nat.zero_le _, rfl, by congr 1; omega, hid (Below.refl _ _)⟩
              case round =>
                obtain ⟨k4, hk4, rfl, rfl, HB⟩ := hrel
                by_cases hlt : k4 < n
                · obtain ⟨i4, hi4⟩ : ∃ i4 : Nat, (n : Int) - 1 - (k4 : Int) = (i4 : Int) := ⟨n - 1 - k4, by omega⟩
                  have hi4' : n - 1 - k4 = i4 := by omega
                  have hni : nextI f n (k4 + 1) = if f i4 then (i4 : Int) else nextI f n k4 := by rw [nextI, hi4']
                  have hfi := HFI.out i4
                  have hlk := look8_any i4 (HV.out wr HB.out) (by omega)
                  change Calls _ _ _ _ fun e w' => ∃ A m c, e = .returned (.tuple #[.int .u64 (((((wl0 at_ n size fr).look s.view i4).map (·.1)).getD 0 : Nat) : Int), .slice A m c, .bool ((wl0 at_ n size fr).look s.view i4).isSome]) ∧ RcRow w' _ A m c ((((wl0 at_ n size fr).look s.view i4).map (·.2)).getD []) ∧ _ at hlk
                  have HX4 := hid (HBX.out.below HB.out HBX.out.lt)
                  have y0 := HX4.out.cell 0
                  have y1 := HX4.out.cell 1
                  have y2 := HX4.out.cell 2
                  have y3 := HX4.out.cell 3
                  have y4 := HX4.out.cell 4
                  have y5 := HX4.out.cell 5
                  have y6 := HX4.out.cell 6
                  have y7 := HX4.out.cell 7
                  have y8 := HX4.out.cell 8
                  have y9 := HX4.out.cell 9
                  have y10 := HX4.out.cell 10
                  have y11 := HX4.out.cell 11
                  have hge : (i4 : Int) ≥ 0 := by omega
                  rw [hi4]
                  have hob4 : ∀ q rs, (wl0 at_ n size fr).look s.view i4 = some (q, rs) → q < 18446744073709551616 := fun q rs ho => lookB_lt ho
                  generalize (wl0 at_ n size fr).look s.view i4 = o4 at hlk hfi hob4
                  cases o4 with
                  | none =>
                    have HNI := hid (show nextI f n (k4 + 1) = nextI f n k4 by rw [hni, hfi]; rfl)
                    change Calls _ _ _ _ fun e w' => ∃ A m c, e = .returned (.tuple #[.int .u64 0, .slice A m c, .bool false]) ∧ RcRow w' _ A m c [] ∧ _ at hlk
                    have HLK4 := hid hlk
                    clear hlk hni hfi hob4
                    go_wp2_with fail
                    go_fit HLK4.out
                    rintro e w5 ⟨A4, m4, c4, rfl, hr4, hb4⟩
                    have HB4 := hid (HB.out.trans (hb4.mono HB.out.size))
                    have HXX4 := hid (HX4.out.below hb4 HX4.out.lt)
                    clear hr4 hb4 y0 y1 y2 y3 y4 y5 y6 y7 y8 y9 y10 y11
                    have y0 := HXX4.out.cell 0
                    have y1 := HXX4.out.cell 1
                    have y2 := HXX4.out.cell 2
                    have y3 := HXX4.out.cell 3
                    have y4 := HXX4.out.cell 4
                    have y5 := HXX4.out.cell 5
                    have y6 := HXX4.out.cell 6
                    have y7 := HXX4.out.cell 7
                    have y8 := HXX4.out.cell 8
                    have y9 := HXX4.out.cell 9
                    have y10 := HXX4.out.cell 10
                    have y11 := HXX4.out.cell 11
                    go_wp2_with fail
                    go_roundw
                    case rel => exact ⟨k4 + 1, by omega, by rw [HNI.out], by congr 1; omega, HB4⟩
                    case measure => first | (simp [intOf]; done) | (simp [intOf]; omega)
                  | some z =>
                    obtain ⟨b4, rs4⟩ := z
                    change Calls _ _ _ _ fun e w' => ∃ A m c, e = .returned (.tuple #[.int .u64 (b4 : Int), .slice A m c, .bool true]) ∧ RcRow w' _ A m c rs4 ∧ _ at hlk
                    have HLK4 := hid hlk
                    by_cases hbn : b4 = N
                    case neg =>
                      have HNI := hid (show nextI f n (k4 + 1) = nextI f n k4 by rw [hni, hfi]; simp [fits, hbn])
                      have hbe : ((b4 : Int) == (N : Int)) = false := by simp; omega
                      clear hlk hni hfi hob4 hbn
                      go_wp2_with fail
                      go_fit HLK4.out
                      rintro e w5 ⟨A4, m4, c4, rfl, hr4, hb4⟩
                      have HB4 := hid (HB.out.trans (hb4.mono HB.out.size))
                      have HXX4 := hid (HX4.out.below hb4 HX4.out.lt)
                      clear hr4 hb4 y0 y1 y2 y3 y4 y5 y6 y7 y8 y9 y10 y11
                      have y0 := HXX4.out.cell 0
                      have y1 := HXX4.out.cell 1
                      have y2 := HXX4.out.cell 2
                      have y3 := HXX4.out.cell 3
                      have y4 := HXX4.out.cell 4
                      have y5 := HXX4.out.cell 5
                      have y6 := HXX4.out.cell 6
                      have y7 := HXX4.out.cell 7
                      have y8 := HXX4.out.cell 8
                      have y9 := HXX4.out.cell 9
                      have y10 := HXX4.out.cell 10
                      have y11 := HXX4.out.cell 11
                      go_wp2_with fail
                      go_roundw
                      case rel => exact ⟨k4 + 1, by omega, by rw [HNI.out], by congr 1; omega, HB4⟩
                      case measure => first | (simp [intOf]; done) | (simp [intOf]; omega)
                    have hbe : ((b4 : Int) == (N : Int)) = true := by simp; omega
                    cases hu : usedBy (c.live ++ [x]) i4 with
                    | true =>
                      have HNI := hid (show nextI f n (k4 + 1) = nextI f n k4 by rw [hni, hfi]; simp [fits, hu])
                      have hus : Wl.used ⟨at_, n, size, c.live ++ [x], [], la, 0⟩ i4 = true := hu
                      clear hlk hni hfi hob4 hbn hu
                      go_wp2_with fail
                      go_fit HLK4.out
                      rintro e w5 ⟨A4, m4, c4, rfl, hr4, hb4⟩
                      have HB4 := hid (HB.out.trans (hb4.mono HB.out.size))
                      have HXX4 := hid (HX4.out.below hb4 HX4.out.lt)
                      clear hr4 hb4 y0 y1 y2 y3 y4 y5 y6 y7 y8 y9 y10 y11
                      have y0 := HXX4.out.cell 0
                      have y1 := HXX4.out.cell 1
                      have y2 := HXX4.out.cell 2
                      have y3 := HXX4.out.cell 3
                      have y4 := HXX4.out.cell 4
                      have y5 := HXX4.out.cell 5
                      have y6 := HXX4.out.cell 6
                      have y7 := HXX4.out.cell 7
                      have y8 := HXX4.out.cell 8
                      have y9 := HXX4.out.cell 9
                      have y10 := HXX4.out.cell 10
                      have y11 := HXX4.out.cell 11
                      go_wp2_with fail
                      go_fit (used8_any i4 (HV.out w5 HB4.out))
                      rw [hus]
                      rintro e w6 ⟨rfl, hb6⟩
                      have HB6 := hid (HB4.out.trans (hb6.mono HB4.out.size))
                      clear hb6
                      go_wp2_with fail
                      go_roundw
                      case rel => exact ⟨k4 + 1, by omega, by rw [HNI.out], by congr 1; omega, HB6⟩
                      case measure => first | (simp [intOf]; done) | (simp [intOf]; omega)
                    | false =>
                      have HNI := hid (show nextI f n (k4 + 1) = (i4 : Int) by rw [hni, hfi]; simp [fits, hu, hbn])
                      have hus : Wl.used ⟨at_, n, size, c.live ++ [x], [], la, 0⟩ i4 = false := hu
                      clear hlk hni hfi hob4 hbn hu
                      go_wp2_with fail
                      go_fit HLK4.out
                      rintro e w5 ⟨A4, m4, c4, rfl, hr4, hb4⟩
                      have HB4 := hid (HB.out.trans (hb4.mono HB.out.size))
                      have HXX4 := hid (HX4.out.below hb4 HX4.out.lt)
                      clear hr4 hb4 y0 y1 y2 y3 y4 y5 y6 y7 y8 y9 y10 y11
                      have y0 := HXX4.out.cell 0
                      have y1 := HXX4.out.cell 1
                      have y2 := HXX4.out.cell 2
                      have y3 := HXX4.out.cell 3
                      have y4 := HXX4.out.cell 4
                      have y5 := HXX4.out.cell 5
                      have y6 := HXX4.out.cell 6
                      have y7 := HXX4.out.cell 7
                      have y8 := HXX4.out.cell 8
                      have y9 := HXX4.out.cell 9
                      have y10 := HXX4.out.cell 10
                      have y11 := HXX4.out.cell 11
                      go_wp2_with fail
                      go_fit (used8_any i4 (HV.out w5 HB4.out))
                      rw [hus]
                      rintro e w6 ⟨rfl, hb6⟩
                      have HB6 := hid (HB4.out.trans (hb6.mono HB4.out.size))
                      clear hb6
                      go_wp2_with fail
                      go_roundw
                      case rel => exact ⟨k4 + 1, by omega, by rw [HNI.out], by congr 1; omega, HB6⟩
                      case measure => first | (simp [intOf]; done) | (simp [intOf]; omega)
                · have hk4n : k4 = n := by omega
                  subst hk4n
                  have hge : ¬ ((k4 : Int) - 1 - (k4 : Int)) ≥ 0 := by omega
                  have HO4 := hid (HO.out.step HB.out)
                  have HX4 := hid HO4.out.box
                  go_wp2_with fail
                  go_roundw
                  case rel =>
                    refine ⟨⟨c.live ++ [x], la, c.out ++ rs.filter (fun r => decide (fr < r.1)), nextI f k4 k4⟩, A7, Ao, m7, c7, mo, co, rfl, rfl, hid ⟨?_, ?_, HO4.out.box, HO4.out.live, HO4.out.out, ?_, HO4.out.below⟩⟩
                    · rw [← HST.out]; exact HOK2.out
                    · rw [HFND.out, ← HST.out]
                      have h1 := HLV.out
                      have h2 : c.live.length < k4 := by have := HLT2.out; omega
                      rw [show k4 + 1 - c.live.length = (k4 - c.live.length) + 1 by omega, Wl.chain_go _ _ _ _ (show ¬ c.next < 0 by omega)]
                      congr 1
                      rw [HST.out]
                      simp
                    · have h2 := HFEW.out
                      show (c.out ++ rs.filter (fun r => decide (fr < r.1))).length ≤ 4000 * (c.live ++ [x]).length
                      have h1 : (rs.filter (fun r => decide (fr < r.1))).length ≤ rs.length := List.length_filter_le _ _
                      rw [List.length_append, List.length_append, List.length_singleton]
                      omega
                  case measure =>
                    rw [liveLen_is (HO4.out.box.cell 8), HLW.out]
                    have h1 := HM7.out
                    have h2 := HML.out
                    have h3 := HLT2.out
                    rw [List.length_append, List.length_singleton] at h1
                    omega

end Go.Proofs.YtobmdmbjmjdfjaaGreatDoor
