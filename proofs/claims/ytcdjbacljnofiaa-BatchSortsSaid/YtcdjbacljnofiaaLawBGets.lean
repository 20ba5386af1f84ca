/-
  BatchGets: its walk, over what is to be shown of the landed code.
-/
import Derived.Test.YtcdjbacljnofiaaAwake
namespace Go.Proofs.Ytcdjbacljnofiaa
open Go Go.RowKit

/-- what stands in memory where two batches were read -/
theorem bat_nil (w : World) : BAt w w.heap.size none 0 0 [] := ⟨WAt.nil _ _ _, rfl, Nat.le_refl _, by decide, Nat.le_refl _⟩
theorem got_few {l : List UInt8} {b : Bt} (h : bget l = some b) : isFew b.ws = true := few_chk (bget_is h).2.1

/-- a boxed batch stays -/
structure Box (w : World) (g : Nat) (c r s : Int) (A : Option Addr) (n cap : Nat) (ws : List Wt) : Prop where
  lt : g < w.heap.size
  c0 : w.cell? ⟨g, 0, none⟩ = some (.int .u64 c)
  c1 : w.cell? ⟨g, 1, none⟩ = some (.int .u64 r)
  c2 : w.cell? ⟨g, 2, none⟩ = some (.int .u64 s)
  c3 : w.cell? ⟨g, 3, none⟩ = some (.slice A n cap)
  at_ : BAt w w.heap.size A n cap ws
theorem Box.step {w w' : World} {g n cap : Nat} {c r s : Int} {A : Option Addr} {ws : List Wt} (h : Box w g c r s A n cap ws) (hb : Below w.heap.size w w') : Box w' g c r s A n cap ws :=
  ⟨Nat.lt_of_lt_of_le h.lt hb.size, (hb.cell (p := ⟨g, 0, none⟩) h.lt).trans h.c0, (hb.cell (p := ⟨g, 1, none⟩) h.lt).trans h.c1, (hb.cell (p := ⟨g, 2, none⟩) h.lt).trans h.c2, (hb.cell (p := ⟨g, 3, none⟩) h.lt).trans h.c3,
    ⟨(h.at_.at_.step (Nat.le_refl _) hb).more hb.size, h.at_.len, h.at_.cap, h.at_.few, Nat.le_refl _⟩⟩
theorem Box.new {w : World} {n cap : Nat} {c r s : Int} {A : Option Addr} {ws : List Wt} (h : BAt w w.heap.size A n cap ws) : Box (w.alloc (.cells #[.int .u64 c, .int .u64 r, .int .u64 s, .slice A n cap] 25)) w.heap.size c r s A n cap ws := by
  obtain ⟨k0, k1, k2, k3⟩ := box_cells w 25 (.int .u64 c) (.int .u64 r) (.int .u64 s) (.slice A n cap)
  have hb : Below w.heap.size w (w.alloc (.cells #[.int .u64 c, .int .u64 r, .int .u64 s, .slice A n cap] 25)) := (Below.refl _ _).alloc (Nat.le_refl _) _
  exact ⟨by simp, k0, k1, k2, k3, ⟨(h.at_.step (Nat.le_refl _) hb).more (by simp), h.len, h.cap, h.few, Nat.le_refl _⟩⟩

/-- what is got, as a value that will be boxed -/
theorem GotB.shown {w w' : World} {D : Option Bt} {e : Ending} (h : GotB w D e w') (hf : ∀ b, D = some b → isFew b.ws = true) :
    ∃ (c r s : Nat) (A : Option Addr) (n cap : Nat) (ws : List Wt) (x : Int), e = .returned (.tuple #[.agg #[.int .u64 (c : Int), .int .u64 (r : Int), .int .u64 (s : Int), .slice A n cap], .int .i64 x]) ∧ BAt w' w'.heap.size A n cap ws ∧
      ((D = none ∧ c = 0 ∧ r = 0 ∧ s = 0 ∧ ws = [] ∧ x = 55) ∨ (D = some ⟨c, r, s, ws⟩ ∧ x = 0)) ∧ Below w.heap.size w w' := by
  obtain ⟨h1, hb⟩ := h
  rcases h1 with ⟨hD, rfl⟩ | ⟨b, A, n, cap, hD, rfl, hr⟩
  · exact ⟨0, 0, 0, none, 0, 0, [], 55, rfl, bat_nil w', .inl ⟨hD, rfl, rfl, rfl, rfl, rfl⟩, hb⟩
  · exact ⟨b.c, b.r, b.s, A, n, cap, b.ws, 0, rfl, BAt.row hr (hf b hD), .inr ⟨hD, rfl⟩, hb⟩

set_option maxHeartbeats 4000000 in
theorem bgets_walk (hF : Face) (l : List UInt8) (w : World) :
    Calls Try.prog 5 #[.string (bst l)] w fun e w' => e = .returned (.bool true) ∧ Below w.heap.size w w' := by
  have HF := hid hF
  have z1 := bst_size l
  clear hF
  by_cases hk : 5000 < l.length
  · go_enter Try.func5, Try.ntmps5
    go_wp2_with fail
    go_fit (awake_yes HF.out w)
    rintro e w1 ⟨rfl, hb1⟩
    go_wp2_with fail
    go_ret
    exact ⟨rfl, hb1⟩
  have HK := hid (show l.length ≤ 5000 by omega)
  have HFW := hid (fun b h => got_few (l := l) (b := b) h)
  go_enter Try.func5, Try.ntmps5
  go_wp2_with (with_reducible refine wpList_bytes_of _ rfl (.tmp 12) 9 32 5 rfl Try.underlying9 Try.underlying32 Try.underlying5 l rfl ?_; intro A c0 w1 hc0 hA hb1)
  go_fit (HF.out.get hA rfl hc0 (Nat.le_refl _) HK.out)
  rintro e w2 hg2
  obtain ⟨c, r, s, A2, n2, cap2, ws2, x2, rfl, ha2, hd2, hb2⟩ := hg2.shown HFW.out
  have HB2 := hid (below_step hb1 hb2)
  have HX2 := hid (Box.new (c := (c : Int)) (r := (r : Int)) (s := (s : Int)) ha2)
  have HD2 := hid hd2
  have HB2b := hid (HB2.out.alloc HB2.out.size (.cells #[.int .u64 (c : Int), .int .u64 (r : Int), .int .u64 (s : Int), .slice A2 n2 cap2] 25))
  clear hg2 ha2 hd2 hb2 hb1 hA hc0
  go_wp2_with fail
  generalize hv2 : w2.alloc (.cells #[.int .u64 (c : Int), .int .u64 (r : Int), .int .u64 (s : Int), .slice A2 n2 cap2] 25) = v2 at *
  clear hv2
  go_fit (refBGet_any l v2 HK.out)
  rintro e w3 hg3
  obtain ⟨c', r', s', A3, n3, cap3, ws3, x3, rfl, ha3, hd3, hb3⟩ := hg3.shown HFW.out
  have HB3 := hid (below_step HB2b.out hb3)
  have HX3 := hid (Box.new (c := (c' : Int)) (r := (r' : Int)) (s := (s' : Int)) ha3)
  have hal : Below w3.heap.size w3 (w3.alloc (.cells #[.int .u64 (c' : Int), .int .u64 (r' : Int), .int .u64 (s' : Int), .slice A3 n3 cap3] 25)) := (Below.refl _ _).alloc (Nat.le_refl _) _
  have HX2 := hid ((HX2.out.step hb3).step hal)
  have HB3b := hid (HB3.out.alloc HB3.out.size (.cells #[.int .u64 (c' : Int), .int .u64 (r' : Int), .int .u64 (s' : Int), .slice A3 n3 cap3] 25))
  have hEq : c = c' ∧ r = r' ∧ s = s' ∧ ws2 = ws3 ∧ x2 = x3 := by
    rcases HD2.out with ⟨g1, rfl, rfl, rfl, rfl, rfl⟩ | ⟨g1, rfl⟩
    · rcases hd3 with ⟨_, rfl, rfl, rfl, rfl, rfl⟩ | ⟨g2, _⟩
      · exact ⟨rfl, rfl, rfl, rfl, rfl⟩
      · rw [g1] at g2; cases g2
    · rcases hd3 with ⟨g2, _⟩ | ⟨g2, rfl⟩
      · rw [g1] at g2; cases g2
      · rw [g1] at g2
        injection g2 with g2
        injection g2 with e1 e2 e3 e4
        exact ⟨e1, e2, e3, e4, rfl⟩
  obtain ⟨rfl, rfl, rfl, rfl, rfl⟩ := hEq
  clear hg3 ha3 hd3 hb3 hal HD2
  go_wp2_with fail
  generalize hv3 : w3.alloc (.cells #[.int .u64 (c : Int), .int .u64 (r : Int), .int .u64 (s : Int), .slice A3 n3 cap3] 25) = v3 at *
  clear hv3
  go_fit (awake_yes HF.out v3)
  rintro e w4 ⟨rfl, hb4⟩
  have HX2 := hid (HX2.out.step hb4)
  have HX3 := hid (HX3.out.step hb4)
  have HB4 := hid (below_step HB3b.out hb4)
  clear hb4
  obtain ⟨_, k0, k1, k2, k3, _⟩ := HX2.out
  obtain ⟨_, m0, m1, m2, m3, _⟩ := HX3.out
  go_wp2_with fail
  go_fit (rSame_yes HX2.out.at_ HX3.out.at_)
  rintro e w5 ⟨rfl, hb5⟩
  go_wp2_with fail
  go_ret
  exact ⟨rfl, below_step HB4.out hb5⟩

end Go.Proofs.Ytcdjbacljnofiaa
