/-
  Acts on a log: few.
-/
import Derived.Test.YtobmdmbjmjdfjaaGreatDoorWInv
import Derived.Test.YtobmdmbjmjdfjaaGreatDoorJBytes
namespace Go.Proofs.YtobmdmbjmjdfjaaGreatDoor
open Go Go.RowKit

structure Act8 where
  k : Int
  lim : Int
  q : Nat
  b : List UInt8
  l : List (Int × Int)
def Act8.val (x : Act8) (A : Option Addr) (n c : Nat) : Value := .agg #[.int .i64 x.k, .int .i64 x.lim, .int .u64 (x.q : Int), .string (bst x.b), .slice A n c]
def Act8.few (x : Act8) : Act8 := { x with b := x.b.take 1500, l := x.l.take 60 }
theorem few_blocks8 (w : World) (t : TypeId) (a0 a1 a2 a3 a4 z0 z1 z2 z3 z4 : Value) :
    Blk ((w.alloc (.cells #[a0, a1, a2, a3, a4] t)).alloc (.cells #[z0, z1, z2, z3, z4] t)) w.heap.size t #[a0, a1, a2, a3, a4] ∧ Blk ((w.alloc (.cells #[a0, a1, a2, a3, a4] t)).alloc (.cells #[z0, z1, z2, z3, z4] t)) (w.heap.size + 1) t #[z0, z1, z2, z3, z4] ∧
      Below w.heap.size w ((w.alloc (.cells #[a0, a1, a2, a3, a4] t)).alloc (.cells #[z0, z1, z2, z3, z4] t)) := by
  have s1 : (w.alloc (.cells #[a0, a1, a2, a3, a4] t)).heap.size = w.heap.size + 1 := by simp
  have n1 := Blk.new (w.alloc (.cells #[a0, a1, a2, a3, a4] t)) t #[z0, z1, z2, z3, z4]
  rw [s1] at n1
  exact ⟨(Blk.new w _ _).alloc _, n1, ((Below.refl _ _).alloc (Nat.le_refl _) _).alloc (by simp) _⟩
theorem five8 {w : World} {b : Nat} {t : TypeId} {a0 a1 a2 a3 a4 : Value} (h : Blk w b t #[a0, a1, a2, a3, a4]) :
    w.cell? ⟨b, 0, none⟩ = some a0 ∧ w.cell? ⟨b, 1, none⟩ = some a1 ∧ w.cell? ⟨b, 2, none⟩ = some a2 ∧ w.cell? ⟨b, 3, none⟩ = some a3 ∧ w.cell? ⟨b, 4, none⟩ = some a4 := ⟨h.cell 0, h.cell 1, h.cell 2, h.cell 3, h.cell 4⟩

set_option maxHeartbeats 4000000 in
set_option maxRecDepth 100000 in
theorem few8_any {x : Act8} {A : Option Addr} {n c : Nat} {w : World} (hn : n = x.l.length) (hnc : n ≤ c) (hx : x.b.length ≤ 9223372036854775807) (hc : c ≤ 9223372036854775807) :
    Calls Tryz.prog 10 #[x.val A n c] w fun e w' => (∃ n', e = .returned (x.few.val A n' c) ∧ n' = x.few.l.length ∧ n' ≤ c) ∧ Below w.heap.size w w' := by
  obtain ⟨k, lim, q, b, l⟩ := x
  unfold Act8.val Act8.few
  dsimp only at hn hx ⊢
  have z := bst_size b
  have HN := hid hn
  clear hn
  have hx6 := bstTake b 1500
  by_cases h6 : 1500 < b.length
  · by_cases h60 : 60 < n
    · go_enter Tryz.func10, Tryz.ntmps10
      go_wp2_with fail
      obtain ⟨q1, q2, q3⟩ := few_blocks8 w 49 (.int .i64 k) (.int .i64 lim) (.int .u64 (q : Int)) (.string (bst (b.take 1500))) (.slice A 60 c) (.int .i64 k) (.int .i64 lim) (.int .u64 (q : Int)) (.string (bst (b.take 1500))) (.slice A 60 c)
      obtain ⟨x0, x1, x2, x3, x4⟩ := five8 q2
      exact bodyPost_ret (v := .agg #[.int .i64 k, .int .i64 lim, .int .u64 (q : Int), .string (bst (b.take 1500)), .slice A 60 c]) (by simp [results, Tryz.results10, go_sem, x0, x1, x2, x3, x4]) rfl ⟨⟨60, rfl, by rw [List.length_take, ← HN.out]; omega, by omega⟩, q3⟩
    · go_enter Tryz.func10, Tryz.ntmps10
      go_wp2_with fail
      obtain ⟨q1, q2, q3⟩ := few_blocks8 w 49 (.int .i64 k) (.int .i64 lim) (.int .u64 (q : Int)) (.string (bst (b.take 1500))) (.slice A n c) (.int .i64 k) (.int .i64 lim) (.int .u64 (q : Int)) (.string (bst (b.take 1500))) (.slice A n c)
      obtain ⟨x0, x1, x2, x3, x4⟩ := five8 q2
      exact bodyPost_ret (v := .agg #[.int .i64 k, .int .i64 lim, .int .u64 (q : Int), .string (bst (b.take 1500)), .slice A n c]) (by simp [results, Tryz.results10, go_sem, x0, x1, x2, x3, x4]) rfl ⟨⟨n, rfl, by rw [List.length_take, ← HN.out]; omega, by omega⟩, q3⟩
  · have hb : b.take 1500 = b := List.take_of_length_le (by omega)
    rw [hb]
    by_cases h60 : 60 < n
    · go_enter Tryz.func10, Tryz.ntmps10
      go_wp2_with fail
      obtain ⟨q1, q2, q3⟩ := few_blocks8 w 49 (.int .i64 k) (.int .i64 lim) (.int .u64 (q : Int)) (.string (bst b)) (.slice A 60 c) (.int .i64 k) (.int .i64 lim) (.int .u64 (q : Int)) (.string (bst b)) (.slice A 60 c)
      obtain ⟨x0, x1, x2, x3, x4⟩ := five8 q2
      exact bodyPost_ret (v := .agg #[.int .i64 k, .int .i64 lim, .int .u64 (q : Int), .string (bst b), .slice A 60 c]) (by simp [results, Tryz.results10, go_sem, x0, x1, x2, x3, x4]) rfl ⟨⟨60, rfl, by rw [List.length_take, ← HN.out]; omega, by omega⟩, q3⟩
    · go_enter Tryz.func10, Tryz.ntmps10
      go_wp2_with fail
      obtain ⟨q1, q2, q3⟩ := few_blocks8 w 49 (.int .i64 k) (.int .i64 lim) (.int .u64 (q : Int)) (.string (bst b)) (.slice A n c) (.int .i64 k) (.int .i64 lim) (.int .u64 (q : Int)) (.string (bst b)) (.slice A n c)
      obtain ⟨x0, x1, x2, x3, x4⟩ := five8 q2
      exact bodyPost_ret (v := .agg #[.int .i64 k, .int .i64 lim, .int .u64 (q : Int), .string (bst b), .slice A n c]) (by simp [results, Tryz.results10, go_sem, x0, x1, x2, x3, x4]) rfl ⟨⟨n, rfl, by rw [List.length_take, ← HN.out]; omega, by omega⟩, q3⟩

structure ActIn8 (w : World) (B b o : Nat) (x : Act8) : Prop where
  ex : ∃ A n c, w.cell? ⟨b, o, none⟩ = some (.int .i64 x.k) ∧ w.cell? ⟨b, o + 1, none⟩ = some (.int .i64 x.lim) ∧ w.cell? ⟨b, o + 2, none⟩ = some (.int .u64 (x.q : Int)) ∧ w.cell? ⟨b, o + 3, none⟩ = some (.string (bst x.b)) ∧ w.cell? ⟨b, o + 4, none⟩ = some (.slice A n c) ∧ SvAt w B A x.l ∧ n = x.l.length ∧ n ≤ c ∧ c ≤ 9223372036854775807 ∧ x.b.length ≤ 9223372036854775807 ∧ x.q < 18446744073709551616
structure ActsAt8 (w : World) (B : Nat) (A : Option Addr) (xs : List Act8) : Prop where
  at_ : 0 < xs.length → ∃ b off, A = some ⟨b, off, none⟩ ∧ b < B ∧ ∀ k x, xs[k]? = some x → ActIn8 w B b (off + k * 5) x
theorem ActIn8.below {w w' : World} {B b o : Nat} {x : Act8} (h : ActIn8 w B b o x) (hb : Below B w w') (hlt : b < B) : ActIn8 w' B b o x := by
  obtain ⟨A, n, c, h0, h1, h2, h3, h4, h5, h6⟩ := h.ex
  have hk : ∀ j, w'.cell? ⟨b, j, none⟩ = w.cell? ⟨b, j, none⟩ := fun j => World.cell?_of_block (a := ⟨b, j, none⟩) (hb.block b hlt)
  exact ⟨A, n, c, (hk _).trans h0, (hk _).trans h1, (hk _).trans h2, (hk _).trans h3, (hk _).trans h4, h5.below hb, h6⟩
theorem ActsAt8.below {w w' : World} {B : Nat} {A : Option Addr} {xs : List Act8} (h : ActsAt8 w B A xs) (hb : Below B w w') : ActsAt8 w' B A xs := ⟨fun hl => by
  obtain ⟨b, off, e, hlt, hc⟩ := h.at_ hl
  exact ⟨b, off, e, hlt, fun k x hx => (hc k x hx).below hb hlt⟩⟩
theorem ActsAt8.get {w : World} {B k : Nat} {A : Option Addr} {xs : List Act8} (h : ActsAt8 w B A xs) (hk : k < xs.length) : ∃ b off x, A = some ⟨b, off, none⟩ ∧ b < B ∧ xs[k]? = some x ∧ ActIn8 w B b (off + k * 5) x := by
  obtain ⟨b, off, e, hb, hc⟩ := h.at_ (by omega)
  exact ⟨b, off, _, e, hb, List.getElem?_eq_getElem hk, hc k _ (List.getElem?_eq_getElem hk)⟩

end Go.Proofs.YtobmdmbjmjdfjaaGreatDoor
