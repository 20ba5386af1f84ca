/-
  What is to be shown of each function of package record, so that the laws' walks stand: no proof here, the walks take it as a premise.
-/
import Derived.Test.YtlcnjkonlnfnfaaDoorRefRScan
import Derived.Test.YtlcnjkonlnfnfaaDoorRefRPut
import Derived.Test.YtlcnjkonlnfnfaaDoorTab
namespace Go.Proofs.YtlcnjkonlnfnfaaDoor
open Go Go.RowKit

structure RFace : Prop where
  putNo : ∀ {q : Int} {b : List UInt8} {w : World}, 32768 < b.length → b.length ≤ 40000 → Calls Tryd.prog 9 #[.agg #[.int .u64 q, .string (bst b)]] w fun e w' => ∃ A c, e = .returned (.tuple #[.slice A 0 c, .int .i64 70]) ∧ Below w.heap.size w w'
  putYes : ∀ {q : Nat} {b : List UInt8} {w : World}, q < 18446744073709551616 → b.length ≤ 32768 → Table w → Calls Tryd.prog 9 #[.agg #[.int .u64 (q : Int), .string (bst b)]] w fun e w' =>
    ∃ A m c, e = .returned (.tuple #[.slice A m c, .int .i64 0]) ∧ Row w' w.heap.size 5 A m c (renc q b) ∧ Below w.heap.size w w'
  size : ∀ {q : Nat} {b : List UInt8} {w : World}, q < 18446744073709551616 → b.length ≤ 40000 → Table w → Calls Tryd.prog 11 #[.agg #[.int .u64 (q : Int), .string (bst b)]] w fun e w' => e = .returned (.int .i64 ((renc q b).length : Int)) ∧ Below w.heap.size w w'
  get : ∀ {A : Option Addr} {m c B : Nat} {l : List UInt8} {w : World}, At w B A l → m = l.length → m ≤ c → B ≤ w.heap.size → l.length ≤ 5000 → Table w → Calls Tryd.prog 12 #[.slice A m c] w fun e w' => e = .returned (recV (rget l)) ∧ Below w.heap.size w w'
  scan : ∀ {A : Option Addr} {m c B : Nat} {l : List UInt8} {q : Nat} {w : World}, At w B A l → m = l.length → m ≤ c → B ≤ w.heap.size → l.length ≤ 5000 → q < 18446744073709551616 → Table w → Calls Tryd.prog 14 #[.slice A m c, .int .u64 (q : Int)] w fun e w' =>
    ∃ A' m' c', e = .returned (.tuple #[.slice A' m' c', .int .i64 ((rscan l q).2 : Int)]) ∧ RcAt w' w'.heap.size A' (rscan l q).1 ∧ m' = (rscan l q).1.length ∧ m' ≤ c' ∧ Below w.heap.size w w'

/-- append(b, l...) of bytes, at the operation alone -/
theorem wp_append_row (w : World) {o : Oper} {a : Act} {K : Act → World → Prop} {Q : Exit → Act → World → Prop} (s x : Operand) (ho : o.op = .call { callee := .builtin .append, args := #[s, x], argTypes := #[26, 26] })
    (base : Nat) {A A2 : Option Addr} {m c n c2 : Nat} {xs news : List UInt8} (hs : a.eval s = .slice A m c) (hrow : Row w base 5 A m c xs) (hx : a.eval x = .slice A2 n c2) (hn : n = news.length) (hA : At w w.heap.size A2 news) (hlen : xs.length + news.length ≤ 140737488355328) (hbase : base ≤ w.heap.size)
    (h : ∀ A' m' c' w', Row w' base 5 A' m' c' (xs ++ news) → m' ≤ c' → Below base w w' → K (a.put o.dst (.slice A' m' c')) w') : o.wp Tryd.prog a w K Q := by
  obtain ⟨i0, hi, hz0, hz1, hz2⟩ := info_parts info_byte
  obtain ⟨hm, hown⟩ := hrow
  subst hm hn
  obtain ⟨v', w', hr, h2, h3, _⟩ := run_append_bs (P := Tryd.prog) w base 26 o.type 5 i0 Tryd.underlying26 hi hz0 hz1 hz2 (.slice A xs.length c) xs news hown A2 c2 hA hlen hbase
  unfold Oper.wp execOp
  simp only [ho, resolve, invoke, builtin, Sem.run_bind, Sem.run_pure, Result.andThen_ok, List.map_toArray, List.map_cons, List.map_nil, hs, hx, hr]
  obtain ⟨A', c', rfl⟩ := own_shape h2
  exact h A' _ c' w' ⟨rfl, h2⟩ (row_cap ⟨rfl, h2⟩) ((Below.refl _ _).grown h3 hbase (fun k hk => (hown.lt k hk).1))

end Go.Proofs.YtlcnjkonlnfnfaaDoor
