/-
  Acts on a meta page: few.
-/
import Derived.Test.YtngclmjefadokaaDoorJLay
import Derived.Test.YtngclmjefadokaaDoorJBytes
namespace Go.Proofs.YtngclmjefadokaaDoor
open Go Go.RowKit

/-- an act: its kind, how many steps, a body, survivors -/
structure Act12 where
  k : Int
  st : Int
  b : List UInt8
  l : List (Int × Int)
def Act12.val (x : Act12) (A : Option Addr) (n c : Nat) : Value := .agg #[.int .i64 x.k, .int .i64 x.st, .string (bst x.b), .slice A n c]
def Act12.few (x : Act12) : Act12 := { x with b := x.b.take 600, l := x.l.take 20 }
theorem few_blocks12 (w : World) (t : TypeId) (a0 a1 a2 a3 z0 z1 z2 z3 : Value) :
    Blk ((w.alloc (.cells #[a0, a1, a2, a3] t)).alloc (.cells #[z0, z1, z2, z3] t)) w.heap.size t #[a0, a1, a2, a3] ∧ Blk ((w.alloc (.cells #[a0, a1, a2, a3] t)).alloc (.cells #[z0, z1, z2, z3] t)) (w.heap.size + 1) t #[z0, z1, z2, z3] ∧
      Below w.heap.size w ((w.alloc (.cells #[a0, a1, a2, a3] t)).alloc (.cells #[z0, z1, z2, z3] t)) := by
  have s1 : (w.alloc (.cells #[a0, a1, a2, a3] t)).heap.size = w.heap.size + 1 := by simp
  have n1 := Blk.new (w.alloc (.cells #[a0, a1, a2, a3] t)) t #[z0, z1, z2, z3]
  rw [s1] at n1
  exact ⟨(Blk.new w _ _).alloc _, n1, ((Below.refl _ _).alloc (Nat.le_refl _) _).alloc (by simp) _⟩
theorem four12 {w : World} {b : Nat} {t : TypeId} {a0 a1 a2 a3 : Value} (h : Blk w b t #[a0, a1, a2, a3]) :
    w.cell? ⟨b, 0, none⟩ = some a0 ∧ w.cell? ⟨b, 1, none⟩ = some a1 ∧ w.cell? ⟨b, 2, none⟩ = some a2 ∧ w.cell? ⟨b, 3, none⟩ = some a3 := ⟨h.cell 0, h.cell 1, h.cell 2, h.cell 3⟩

set_option maxHeartbeats 4000000 in
set_option maxRecDepth 100000 in
theorem few12_any {x : Act12} {A : Option Addr} {n c : Nat} {w : World} (hn : n = x.l.length) (hnc : n ≤ c) (hx : x.b.length ≤ 9223372036854775807) (hc : c ≤ 9223372036854775807) :
    Calls Tryd.prog 11 #[x.val A n c] w fun e w' => (∃ n', e = .returned (x.few.val A n' c) ∧ n' = x.few.l.length ∧ n' ≤ c) ∧ Below w.heap.size w w' := by
  obtain ⟨k, st, b, l⟩ := x
  unfold Act12.val Act12.few
  dsimp only at hn hx ⊢
  have z := bst_size b
  have HN := hid hn
  clear hn
  have hx6 := bstTake b 600
  by_cases h6 : 600 < b.length
  · by_cases h20 : 20 < n
    · skip
      go_enter Tryd.func11, Tryd.ntmps11
      go_wp2_with fail
      obtain ⟨q1, q2, q3⟩ := few_blocks12 w 44 (.int .i64 k) (.int .i64 st) (.string (bst (b.take 600))) (.slice A 20 c) (.int .i64 k) (.int .i64 st) (.string (bst (b.take 600))) (.slice A 20 c)
      obtain ⟨x0, x1, x2, x3⟩ := four12 q2
      exact bodyPost_ret (v := .agg #[.int .i64 k, .int .i64 st, .string (bst (b.take 600)), .slice A 20 c]) (by simp [results, Tryd.results11, go_sem, x0, x1, x2, x3]) rfl ⟨⟨20, rfl, by rw [List.length_take, ← HN.out]; omega, by omega⟩, q3⟩
    · skip
      go_enter Tryd.func11, Tryd.ntmps11
      go_wp2_with fail
      obtain ⟨q1, q2, q3⟩ := few_blocks12 w 44 (.int .i64 k) (.int .i64 st) (.string (bst (b.take 600))) (.slice A n c) (.int .i64 k) (.int .i64 st) (.string (bst (b.take 600))) (.slice A n c)
      obtain ⟨x0, x1, x2, x3⟩ := four12 q2
      exact bodyPost_ret (v := .agg #[.int .i64 k, .int .i64 st, .string (bst (b.take 600)), .slice A n c]) (by simp [results, Tryd.results11, go_sem, x0, x1, x2, x3]) rfl ⟨⟨n, rfl, by rw [List.length_take, ← HN.out]; omega, by omega⟩, q3⟩
  · have hb : b.take 600 = b := List.take_of_length_le (by omega)
    rw [hb]
    by_cases h20 : 20 < n
    · skip
      go_enter Tryd.func11, Tryd.ntmps11
      go_wp2_with fail
      obtain ⟨q1, q2, q3⟩ := few_blocks12 w 44 (.int .i64 k) (.int .i64 st) (.string (bst b)) (.slice A 20 c) (.int .i64 k) (.int .i64 st) (.string (bst b)) (.slice A 20 c)
      obtain ⟨x0, x1, x2, x3⟩ := four12 q2
      exact bodyPost_ret (v := .agg #[.int .i64 k, .int .i64 st, .string (bst b), .slice A 20 c]) (by simp [results, Tryd.results11, go_sem, x0, x1, x2, x3]) rfl ⟨⟨20, rfl, by rw [List.length_take, ← HN.out]; omega, by omega⟩, q3⟩
    · skip
      go_enter Tryd.func11, Tryd.ntmps11
      go_wp2_with fail
      obtain ⟨q1, q2, q3⟩ := few_blocks12 w 44 (.int .i64 k) (.int .i64 st) (.string (bst b)) (.slice A n c) (.int .i64 k) (.int .i64 st) (.string (bst b)) (.slice A n c)
      obtain ⟨x0, x1, x2, x3⟩ := four12 q2
      exact bodyPost_ret (v := .agg #[.int .i64 k, .int .i64 st, .string (bst b), .slice A n c]) (by simp [results, Tryd.results11, go_sem, x0, x1, x2, x3]) rfl ⟨⟨n, rfl, by rw [List.length_take, ← HN.out]; omega, by omega⟩, q3⟩

/-- acts in memory -/
structure ActIn12 (w : World) (B b o : Nat) (x : Act12) : Prop where
  ex : ∃ A n c, w.cell? ⟨b, o, none⟩ = some (.int .i64 x.k) ∧ w.cell? ⟨b, o + 1, none⟩ = some (.int .i64 x.st) ∧ w.cell? ⟨b, o + 2, none⟩ = some (.string (bst x.b)) ∧ w.cell? ⟨b, o + 3, none⟩ = some (.slice A n c) ∧ SvAt w B A x.l ∧ n = x.l.length ∧ n ≤ c ∧ c ≤ 9223372036854775807 ∧ x.b.length ≤ 9223372036854775807
structure ActsAt12 (w : World) (B : Nat) (A : Option Addr) (xs : List Act12) : Prop where
  at_ : 0 < xs.length → ∃ b off, A = some ⟨b, off, none⟩ ∧ b < B ∧ ∀ k x, xs[k]? = some x → ActIn12 w B b (off + k * 4) x
theorem ActIn12.below {w w' : World} {B b o : Nat} {x : Act12} (h : ActIn12 w B b o x) (hb : Below B w w') (hlt : b < B) : ActIn12 w' B b o x := by
  obtain ⟨A, n, c, h0, h1, h2, h3, h5, h6⟩ := h.ex
  have hk : ∀ j, w'.cell? ⟨b, j, none⟩ = w.cell? ⟨b, j, none⟩ := fun j => World.cell?_of_block (a := ⟨b, j, none⟩) (hb.block b hlt)
  exact ⟨A, n, c, (hk _).trans h0, (hk _).trans h1, (hk _).trans h2, (hk _).trans h3, h5.below hb, h6⟩
theorem ActsAt12.below {w w' : World} {B : Nat} {A : Option Addr} {xs : List Act12} (h : ActsAt12 w B A xs) (hb : Below B w w') : ActsAt12 w' B A xs := ⟨fun hl => by
  obtain ⟨b, off, e, hlt, hc⟩ := h.at_ hl
  exact ⟨b, off, e, hlt, fun k x hx => (hc k x hx).below hb hlt⟩⟩
theorem ActsAt12.get {w : World} {B k : Nat} {A : Option Addr} {xs : List Act12} (h : ActsAt12 w B A xs) (hk : k < xs.length) : ∃ b off x, A = some ⟨b, off, none⟩ ∧ b < B ∧ xs[k]? = some x ∧ ActIn12 w B b (off + k * 4) x := by
  obtain ⟨b, off, e, hb, hc⟩ := h.at_ (by omega)
  exact ⟨b, off, _, e, hb, List.getElem?_eq_getElem hk, hc k _ (List.getElem?_eq_getElem hk)⟩

end Go.Proofs.YtngclmjefadokaaDoor
