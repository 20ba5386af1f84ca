/-
  RecordBack: its walk, over what is to be shown of the landed code.
-/
import Derived.Test.YtlcnjkonlnfnfaaDoorRAwake
import Derived.Test.YtlcnjkonlnfnfaaDoorStr
namespace Go.Proofs.YtlcnjkonlnfnfaaDoor
open Go Go.RowKit

theorem wpList_append_row (w : World) {ops : Array Oper} {rest : List Oper} {o : Oper} {a : Act} {Q : Exit → Act → World → Prop} (hgd : o.guard = none) (s x : Operand) (ho : o.op = .call { callee := .builtin .append, args := #[s, x], argTypes := #[26, 26] })
    (base : Nat) {A A2 : Option Addr} {m c n c2 : Nat} {xs news : List UInt8} (hs : a.eval s = .slice A m c) (hrow : Row w base 5 A m c xs) (hx : a.eval x = .slice A2 n c2) (hn : n = news.length) (hA : At w w.heap.size A2 news) (hlen : xs.length + news.length ≤ 140737488355328) (hbase : base ≤ w.heap.size)
    (h : ∀ A' m' c' w', Row w' base 5 A' m' c' (xs ++ news) → m' ≤ c' → Below base w w' → wpList Tryd.prog ops Q rest (a.put o.dst (.slice A' m' c')) w') : wpList Tryd.prog ops Q (o :: rest) a w :=
  wpList_plain hgd fun _ hK => wp_append_row w s x ho base hs hrow hx hn hA hlen hbase fun A' m' c' w' h1 h2 h3 => hK _ _ (h A' m' c' w' h1 h2 h3)

set_option maxHeartbeats 8000000 in
set_option maxRecDepth 100000 in
theorem rback_walk (hF : RFace) (q : Nat) (b t : List UInt8) (w : World) (hq : q < 18446744073709551616) (hT : Table w) :
    Calls Tryd.prog 6 #[.agg #[.int .u64 (q : Int), .string (bst b)], .string (bst t)] w fun e w' => e = .returned (.bool true) ∧ Below w.heap.size w w' := by
  have HF := hid hF
  have HAW := hid (rawake_yes hF)
  have HT := hid hT
  have HQ := hid hq
  have z := bst_size b
  have zt := bst_size t
  have hb1 : Below w.heap.size w (w.alloc (.cells #[.int .u64 (q : Int), .string (bst b)] 24)) := (Below.refl _ _).alloc (Nat.le_refl _) _
  have HB1 := hid hb1
  have HX1 := hid (Blk.new w 24 #[.int .u64 (q : Int), .string (bst b)])
  clear hF hT hq hb1
  by_cases h4 : 2000 < b.length
  · go_enter Tryd.func6, Tryd.ntmps6
    go_wp2_with fail
    go_fit (HAW.out _ (HT.out.step HB1.out))
    rintro e w2 ⟨rfl, hb2⟩
    have HB2 := hid (below_step HB1.out hb2)
    clear hb2
    go_wp2_with fail
    go_ret
    exact ⟨rfl, HB2.out⟩
  by_cases h5 : 500 < t.length
  · go_enter Tryd.func6, Tryd.ntmps6
    go_wp2_with fail
    go_fit (HAW.out _ (HT.out.step HB1.out))
    rintro e w2 ⟨rfl, hb2⟩
    have HB2 := hid (below_step HB1.out hb2)
    clear hb2
    go_wp2_with fail
    go_ret
    exact ⟨rfl, HB2.out⟩
  have HL := hid (show b.length ≤ 2000 by omega)
  have HLT := hid (show t.length ≤ 500 by omega)
  have HRL := hid (show (renc q b).length ≤ 2028 by have := renc_le q b; omega)
  have HPY := hid (fun (W : World) (hW : Table W) => HF.out.putYes (q := q) (b := b) (w := W) HQ.out (by omega) hW)
  have HZY := hid (fun (W : World) (hW : Table W) => HF.out.size (q := q) (b := b) (w := W) HQ.out (by omega) hW)
  have hg : rget (renc q b ++ t) = some (q, b, (renc q b).length) := rget_renc HQ.out (by omega) t
  have HG := hid hg
  clear hg
  obtain ⟨i0, hi, hz0, hz1, hz2⟩ := info_parts info_byte
  have HI := hid (And.intro hi (And.intro hz0 (And.intro hz1 hz2)))
  clear hi hz0 hz1 hz2
  have heq : ∀ W, (binOp .eql 24 (.agg #[.int .u64 (q : Int), .string (bst b)]) (.agg #[.int .u64 (q : Int), .string (bst b)])).run Tryd.prog W = .ok (.bool true) W := fun W => by have h := eql_rc (q, b) (q, b) W; rw [decide_eq_true rfl] at h; exact h
  obtain ⟨N, hN⟩ : ∃ N, (renc q b).length = N := ⟨_, rfl⟩
  go_enter Tryd.func6, Tryd.ntmps6
  go_wp2_with fail
  generalize w.alloc (.cells #[.int .u64 (q : Int), .string (bst b)] 24) = w1 at *
  go_fit (HPY.out _ (HT.out.step HB1.out))
  rintro e w2 ⟨A, m, c, rfl, hr2, hb2⟩
  obtain rfl : m = N := hr2.1.trans hN
  have HR2 := hid hr2
  have HB2 := hid (HB1.out.trans (hb2.mono HB1.out.size))
  have HX2 := hid (HX1.out.below hb2 HX1.out.lt)
  clear hb2 hr2
  have HA2 := hid (show At (w2.alloc (.cells #[] 5)) (w2.alloc (.cells #[] 5)).heap.size A (renc q b) from (HR2.out.at_.below ((Below.refl _ _).alloc (Nat.le_refl _) _)).more (by simp))
  have HRE := hid (show Row (w2.alloc (.cells #[] 5)) w2.heap.size 5 (some ⟨w2.heap.size, 0, none⟩) 0 0 [] from ⟨rfl, own_empty w2 5⟩)
  have HSZ := hid (show w2.heap.size ≤ (w2.alloc (.cells #[] 5)).heap.size from by simp)
  have HNL := hid (show ([] : List UInt8).length + (renc q b).length ≤ 140737488355328 by have := HRL.out; rw [List.length_nil]; omega)
  have HB2e := hid (show Below w2.heap.size w2 (w2.alloc (.cells #[] 5)) from (Below.refl _ _).alloc (Nat.le_refl _) _)
  go_wp2_with (first | (refine wpList_append_row _ rfl (.tmp 26) (.tmp 27) rfl w2.heap.size rfl HRE.out rfl HR2.out.1 HA2.out HNL.out HSZ.out ?_; intro A3 m3 c3 w3 hr3 hc3 hb3; rw [List.nil_append] at hr3; have hsz3 := Nat.le_trans HSZ.out hb3.size) | (with_reducible refine wpList_append_str _ rfl (.tmp 28) (.tmp 29) 26 9 rfl w2.heap.size 5 i0 Tryd.underlying26 Tryd.underlying9 HI.out.1 HI.out.2.1 HI.out.2.2.1 HI.out.2.2.2 _ _ _ (renc q b) t rfl hr3 rfl (by have := HRL.out; have := HLT.out; omega) (Nat.le_trans HSZ.out hb3.size) ?_; intro A4 m4 c4 w4 hr4 hc4 hb4))
  have HB4 := hid (HB2.out.trans (((HB2e.out.trans hb3).trans hb4).mono HB2.out.size))
  have HX4 := hid (HX2.out.below ((HB2e.out.trans hb3).trans hb4) HX2.out.lt)
  have HA4 := hid hr4.at_
  have HM4 := hid hr4.1
  have HC4 := hid hc4
  clear hr3 hc3 hb3 hr4 hc4 hb4 hsz3 HA2 HRE HSZ HNL HB2e
  go_fit (HF.out.get HA4.out HM4.out HC4.out (Nat.le_refl _) (by rw [List.length_append]; have := HRL.out; have := HLT.out; omega) (HT.out.step HB4.out))
  rw [HG.out]
  unfold recV
  dsimp only
  rintro e w5 ⟨rfl, hb5⟩
  have HB5 := hid (below_step HB4.out hb5)
  have HX5 := hid (HX4.out.below hb5 HX4.out.lt)
  have HY5 := hid (Blk.new w5 24 #[.int .u64 (q : Int), .string (bst b)])
  have hal : Below w5.heap.size w5 (w5.alloc (.cells #[.int .u64 (q : Int), .string (bst b)] 24)) := (Below.refl _ _).alloc (Nat.le_refl _) _
  have HX5 := hid (HX5.out.below hal HX5.out.lt)
  have HB5b := hid (HB5.out.alloc HB5.out.size (.cells #[.int .u64 (q : Int), .string (bst b)] 24))
  clear hb5 hal
  go_wp2_with fail
  generalize hv5 : w5.alloc (.cells #[.int .u64 (q : Int), .string (bst b)] 24) = v5 at *
  clear hv5
  go_fit (HAW.out v5 (HT.out.step HB5b.out))
  rintro e w6 ⟨rfl, hb6⟩
  have HX6 := hid (HX5.out.below hb6 HX5.out.lt)
  have HY6 := hid (HY5.out.below hb6 HY5.out.lt)
  have HB6 := hid (below_step HB5b.out hb6)
  clear hb6
  have x0 := HX6.out.cell 0
  have x1 := HX6.out.cell 1
  have y0 := HY6.out.cell 0
  have y1 := HY6.out.cell 1
  go_wp2_with fail
  go_fit (HZY.out _ (HT.out.step HB6.out))
  rintro e w7 ⟨rfl, hb7⟩
  have HB7 := hid (below_step HB6.out hb7)
  clear hb7
  go_wp2_with fail
  go_ret
  exact ⟨rfl, HB7.out⟩

theorem rback_int (hF : RFace) (q : Int) (b t : List UInt8) (w : World) (hq : 0 ≤ q ∧ q < 18446744073709551616) (hT : Table w) :
    Calls Tryd.prog 6 #[.agg #[.int .u64 q, .string (bst b)], .string (bst t)] w fun e w' => e = .returned (.bool true) ∧ Below w.heap.size w w' := by
  obtain ⟨n, rfl⟩ := Int.eq_ofNat_of_zero_le hq.1
  exact rback_walk hF n b t w (by omega) hT

end Go.Proofs.YtlcnjkonlnfnfaaDoor
