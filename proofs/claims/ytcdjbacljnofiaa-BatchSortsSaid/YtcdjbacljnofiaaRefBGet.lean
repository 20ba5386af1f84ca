/-
  The document's Get, by its contract.
-/
import Derived.Test.YtcdjbacljnofiaaBGet
import Derived.Test.YtcdjbacljnofiaaRefBCheck
import Derived.Test.YtcdjbacljnofiaaRefTake
import Derived.Test.YtcdjbacljnofiaaWRow
import Derived.Test.YtcdjbacljnofiaaJBytes
namespace Go.Proofs.Ytcdjbacljnofiaa
open Go Go.RowKit

def zeroB : Value := .agg #[.int .u64 0, .int .u64 0, .int .u64 0, .slice none 0 0]
def GotB (w : World) (D : Option Bt) (e : Ending) (w' : World) : Prop :=
  ((D = none ∧ e = .returned (.tuple #[zeroB, .int .i64 55])) ∨ ∃ b A m c, D = some b ∧ e = .returned (.tuple #[.agg #[.int .u64 (b.c : Int), .int .u64 (b.r : Int), .int .u64 (b.s : Int), .slice A m c], .int .i64 0]) ∧ WRow w' w.heap.size A m c b.ws) ∧ Below w.heap.size w w'

/-- what stands in memory while numbers are read -/
structure St1 (w wr : World) (vs : Nat → Nat) : Prop where
  b2 : Blk wr w.heap.size 25 #[.int .u64 0, .int .u64 0, .int .u64 0, .slice none 0 0]
  b4 : Blk wr (w.heap.size + 1) 25 #[.int .u64 0, .int .u64 0, .int .u64 0, .slice none 0 0]
  b5 : Blk wr (w.heap.size + 2) 25 #[.int .u64 0, .int .u64 0, .int .u64 0, .slice none 0 0]
  b6 : Blk wr (w.heap.size + 3) 66 #[.int .u64 (vs 0 : Int), .int .u64 (vs 1 : Int), .int .u64 (vs 2 : Int), .int .u64 (vs 3 : Int)]
  below : Below w.heap.size w wr
theorem St1.lt {w wr : World} {vs : Nat → Nat} (h : St1 w wr vs) : w.heap.size + 3 < wr.heap.size := h.b6.lt
theorem St1.step {w wr w' : World} {vs : Nat → Nat} (h : St1 w wr vs) (hb : Below wr.heap.size wr w') : St1 w w' vs := by
  have := h.lt
  exact ⟨h.b2.below hb (by omega), h.b4.below hb (by omega), h.b5.below hb (by omega), h.b6.below hb (by omega), below_step h.below hb⟩
def upd (vs : Nat → Nat) (k v : Nat) : Nat → Nat := fun i => if i = k then v else vs i
theorem St1.set {w wr : World} {vs : Nat → Nat} (h : St1 w wr vs) {k : Nat} (hk : k < 4) (v : Nat) : St1 w (wr.setCell ⟨w.heap.size + 3, k, none⟩ (.int .u64 (v : Int))) (upd vs k v) := by
  have hlt := h.lt
  refine ⟨h.b2.far (by simp) _, h.b4.far (by simp) _, h.b5.far (by simp) _, ?_, h.below.setCell (by simp) _⟩
  have hs := h.b6.set k (.int .u64 (v : Int))
  rcases (show k = 0 ∨ k = 1 ∨ k = 2 ∨ k = 3 by omega) with rfl | rfl | rfl | rfl <;> exact hs
theorem upd_map (vs : Nat → Nat) (k v : Nat) : (List.range (k + 1)).map (upd vs k v) = (List.range k).map vs ++ [v] := by
  rw [List.range_succ, List.map_append]
  congr 1
  · apply List.map_congr_left
    intro i hi
    simp at hi
    simp [upd]; omega
  · simp [upd]
theorem St1.start (w : World) : St1 w ((((w.alloc (.cells #[.int .u64 0, .int .u64 0, .int .u64 0, .slice none 0 0] 25)).alloc (.cells #[.int .u64 0, .int .u64 0, .int .u64 0, .slice none 0 0] 25)).alloc (.cells #[.int .u64 0, .int .u64 0, .int .u64 0, .slice none 0 0] 25)).alloc (.cells #[.int .u64 0, .int .u64 0, .int .u64 0, .int .u64 0] 66)) (fun _ => 0) := by
  have s1 : (w.alloc (.cells #[.int .u64 0, .int .u64 0, .int .u64 0, .slice none 0 0] 25)).heap.size = w.heap.size + 1 := by simp
  have s2 : ((w.alloc (.cells #[.int .u64 0, .int .u64 0, .int .u64 0, .slice none 0 0] 25)).alloc (.cells #[.int .u64 0, .int .u64 0, .int .u64 0, .slice none 0 0] 25)).heap.size = w.heap.size + 2 := by simp
  have s3 : (((w.alloc (.cells #[.int .u64 0, .int .u64 0, .int .u64 0, .slice none 0 0] 25)).alloc (.cells #[.int .u64 0, .int .u64 0, .int .u64 0, .slice none 0 0] 25)).alloc (.cells #[.int .u64 0, .int .u64 0, .int .u64 0, .slice none 0 0] 25)).heap.size = w.heap.size + 3 := by simp
  have n2 := Blk.new (w.alloc (.cells #[.int .u64 0, .int .u64 0, .int .u64 0, .slice none 0 0] 25)) 25 #[.int .u64 0, .int .u64 0, .int .u64 0, .slice none 0 0]
  have n3 := Blk.new ((w.alloc (.cells #[.int .u64 0, .int .u64 0, .int .u64 0, .slice none 0 0] 25)).alloc (.cells #[.int .u64 0, .int .u64 0, .int .u64 0, .slice none 0 0] 25)) 25 #[.int .u64 0, .int .u64 0, .int .u64 0, .slice none 0 0]
  have n4 := Blk.new (((w.alloc (.cells #[.int .u64 0, .int .u64 0, .int .u64 0, .slice none 0 0] 25)).alloc (.cells #[.int .u64 0, .int .u64 0, .int .u64 0, .slice none 0 0] 25)).alloc (.cells #[.int .u64 0, .int .u64 0, .int .u64 0, .slice none 0 0] 25)) 66 #[.int .u64 0, .int .u64 0, .int .u64 0, .int .u64 0]
  rw [s1] at n2
  rw [s2] at n3
  rw [s3] at n4
  exact ⟨(((Blk.new w _ _).alloc _).alloc _).alloc _, (n2.alloc _).alloc _, n3.alloc _, n4, ((((Below.refl _ _).alloc (Nat.le_refl _) _).alloc (by simp) _).alloc (by simp; omega) _).alloc (by simp; omega) _⟩

/-- what stands in memory while writes are read -/
structure St2 (w wr : World) (c r s m : Nat) (A : Option Addr) (n cap : Nat) (acc : List Wt) : Prop where
  b2 : Blk wr w.heap.size 25 #[.int .u64 0, .int .u64 0, .int .u64 0, .slice none 0 0]
  b4 : Blk wr (w.heap.size + 1) 25 #[.int .u64 0, .int .u64 0, .int .u64 0, .slice none 0 0]
  b5 : Blk wr (w.heap.size + 2) 25 #[.int .u64 (c : Int), .int .u64 (r : Int), .int .u64 (s : Int), .slice A n cap]
  b6 : Blk wr (w.heap.size + 3) 66 #[.int .u64 (c : Int), .int .u64 (r : Int), .int .u64 (s : Int), .int .u64 (m : Int)]
  row : WRow wr w.heap.size A n cap acc
  below : Below w.heap.size w wr
theorem St2.lt {w wr : World} {c r s m n cap : Nat} {A : Option Addr} {acc : List Wt} (h : St2 w wr c r s m A n cap acc) : w.heap.size + 3 < wr.heap.size := h.b6.lt
theorem St2.step {w wr w' : World} {c r s m n cap : Nat} {A : Option Addr} {acc : List Wt} (h : St2 w wr c r s m A n cap acc) (hb : Below wr.heap.size wr w') : St2 w w' c r s m A n cap acc := by
  have := h.lt
  exact ⟨h.b2.below hb (by omega), h.b4.below hb (by omega), h.b5.below hb (by omega), h.b6.below hb (by omega), h.row.below hb, below_step h.below hb⟩
theorem St2.alloc {w wr : World} {c r s m n cap : Nat} {A : Option Addr} {acc : List Wt} (h : St2 w wr c r s m A n cap acc) (o : Obj) : St2 w (wr.alloc o) c r s m A n cap acc := h.step ((Below.refl _ _).alloc (Nat.le_refl _) _)
theorem St1.two {w wr : World} {vs : Nat → Nat} (h : St1 w wr vs) :
    St2 w (((wr.setCell ⟨w.heap.size + 2, 0, none⟩ (.int .u64 (vs 0 : Int))).setCell ⟨w.heap.size + 2, 1, none⟩ (.int .u64 (vs 1 : Int))).setCell ⟨w.heap.size + 2, 2, none⟩ (.int .u64 (vs 2 : Int))).drew (vs 0) (vs 1) (vs 2) (vs 3) none 0 0 [] := by
  refine ⟨?_, ?_, ?_, ?_, WRow.nil _ _, ?_⟩
  · exact (((h.b2.far (by simp) _).far (by simp) _).far (by simp) _).drew
  · exact (((h.b4.far (by simp) _).far (by simp) _).far (by simp) _).drew
  · exact (((h.b5.set 0 _).set 1 _).set 2 _).drew
  · exact (((h.b6.far (by simp) _).far (by simp) _).far (by simp) _).drew
  · exact (((h.below.setCell (by simp) _).setCell (by simp) _).setCell (by simp) _).drew
/-- a block of one's own that isn't the state's, written to -/
theorem St2.set {w wr : World} {c r s m n cap x : Nat} {A : Option Addr} {acc : List Wt} (h : St2 w wr c r s m A n cap acc) (hx : w.heap.size + 3 < x) (hr : (Value.slice A n cap).ownBlock ≠ some x) {i : Nat} (u : Value) : St2 w (wr.setCell ⟨x, i, none⟩ u) c r s m A n cap acc := by
  refine ⟨h.b2.far (by simp; omega) _, h.b4.far (by simp; omega) _, h.b5.far (by simp; omega) _, h.b6.far (by simp; omega) _, ⟨h.row.1, ownsRow_setCell_other h.row.2 hr _⟩, h.below.setCell (by simp; omega) _⟩
theorem St2.drew {w wr : World} {c r s m n cap : Nat} {A : Option Addr} {acc : List Wt} (h : St2 w wr c r s m A n cap acc) : St2 w wr.drew c r s m A n cap acc := h.step ((Below.refl _ _).drew)

/-- the row has grown by one, and stands in its place -/
theorem St2.grow {w wr w' : World} {c r s m n cap n' cap' : Nat} {A A' : Option Addr} {acc acc' : List Wt} (h : St2 w wr c r s m A n cap acc) (hg : wr.grownBy w' (Value.slice A n cap).ownBlock) (hb : Below w.heap.size wr w') (hr : WRow w' w.heap.size A' n' cap' acc') :
    St2 w (w'.setCell ⟨w.heap.size + 2, 3, none⟩ (.slice A' n' cap')) c r s m A' n' cap' acc' := by
  have n2 := own_ne_cells h.row.2 h.b2 (by decide)
  have n4 := own_ne_cells h.row.2 h.b4 (by decide)
  have n5 := own_ne_cells h.row.2 h.b5 (by decide)
  have n6 := own_ne_cells h.row.2 h.b6 (by decide)
  have b5 := h.b5.grown hg (fun e => n5 e.symm)
  have n5' := own_ne_cells hr.2 (show w'.heap[w.heap.size + 2]? = _ from b5) (by decide)
  exact ⟨(h.b2.grown hg (fun e => n2 e.symm)).far (by simp) _, (h.b4.grown hg (fun e => n4 e.symm)).far (by simp) _, b5.set 3 _, (h.b6.grown hg (fun e => n6 e.symm)).far (by simp) _,
    ⟨hr.1, ownsRow_setCell_other hr.2 n5' _⟩, (h.below.trans hb).setCell (by simp) _⟩
theorem St2.grown5 {w wr w' : World} {c r s m n cap : Nat} {A : Option Addr} {acc : List Wt} (h : St2 w wr c r s m A n cap acc) (hg : wr.grownBy w' (Value.slice A n cap).ownBlock) :
    w'.cell? ⟨w.heap.size + 2, 3, none⟩ = some (.slice A n cap) ∧ w'.frozen? ⟨w.heap.size + 2, 3, none⟩ = false := by
  have n5 := own_ne_cells h.row.2 h.b5 (by decide)
  have b5 := h.b5.grown hg (fun e => n5 e.symm)
  exact ⟨b5.cell 3, b5.free 3⟩
theorem St2.res {w wr : World} {c r s m n cap : Nat} {A : Option Addr} {acc : List Wt} (h : St2 w wr c r s m A n cap acc) (u0 u1 u2 u3 : Value) :
    Blk ((((wr.setCell ⟨w.heap.size, 0, none⟩ u0).setCell ⟨w.heap.size, 1, none⟩ u1).setCell ⟨w.heap.size, 2, none⟩ u2).setCell ⟨w.heap.size, 3, none⟩ u3) w.heap.size 25 #[u0, u1, u2, u3] ∧
      WRow ((((wr.setCell ⟨w.heap.size, 0, none⟩ u0).setCell ⟨w.heap.size, 1, none⟩ u1).setCell ⟨w.heap.size, 2, none⟩ u2).setCell ⟨w.heap.size, 3, none⟩ u3) w.heap.size A n cap acc ∧
      Below w.heap.size w ((((wr.setCell ⟨w.heap.size, 0, none⟩ u0).setCell ⟨w.heap.size, 1, none⟩ u1).setCell ⟨w.heap.size, 2, none⟩ u2).setCell ⟨w.heap.size, 3, none⟩ u3) := by
  have n2 := own_ne_cells h.row.2 h.b2 (by decide)
  refine ⟨(((h.b2.set 0 u0).set 1 u1).set 2 u2).set 3 u3, ⟨h.row.1, ?_⟩, (((h.below.setCell (by simp) _).setCell (by simp) _).setCell (by simp) _).setCell (by simp) _⟩
  exact ownsRow_setCell_other (ownsRow_setCell_other (ownsRow_setCell_other (ownsRow_setCell_other h.row.2 n2 u0) n2 u1) n2 u2) n2 u3
theorem St2.ne {w wr : World} {c r s m n cap : Nat} {A : Option Addr} {acc : List Wt} (h : St2 w wr c r s m A n cap acc) : (Value.slice A n cap).ownBlock ≠ some wr.heap.size := fun e => by
  have := (h.row.2.lt _ e).2
  omega

theorem take_text_w {l K l1 : List UInt8} {e1 : Nat} (h : rtext l = (K, l1, e1)) (hl : l.length ≤ 70000) (W : World) :
    Calls Try.prog 44 #[.int .i64 1, .int .i64 0, .string (bst l)] W fun e w' =>
      e = .returned (.tuple #[.agg #[.int .i64 1, .int .u64 0, .string (bst K), .bool false, .int .i64 0], .string (bst l1), .int .i64 (e1 : Int)]) ∧ Below W.heap.size W w' := by
  have := refTake_text 0 l W hl
  unfold TookRef at this
  have e : tk 1 0 l = (⟨1, 0, K, false, 0⟩, l1, e1) := by show (Fd.mk 1 0 (rtext l).1 false 0, (rtext l).2) = _; rw [h]
  rw [e] at this
  exact this
theorem take_flag_w {l l1 : List UInt8} {g : Bool} {e1 : Nat} (h : rflag l = (g, l1, e1)) (hl : l.length ≤ 70000) (W : World) :
    Calls Try.prog 44 #[.int .i64 2, .int .i64 0, .string (bst l)] W fun e w' =>
      e = .returned (.tuple #[.agg #[.int .i64 2, .int .u64 0, .string (bst []), .bool g, .int .i64 0], .string (bst l1), .int .i64 (e1 : Int)]) ∧ Below W.heap.size W w' := by
  have := refTake_flag 0 l W hl
  try unfold TookRef at this
  have e : tk 2 0 l = (⟨2, 0, [], g, 0⟩, l1, e1) := by show (Fd.mk 2 0 [] (rflag l).1 0, (rflag l).2) = _; rw [h]
  rw [e] at this
  exact this
theorem rtext_len (l : List UInt8) : (rtext l).2.1.length ≤ l.length := by
  have h1 := rnum_len l
  unfold rtext
  split
  · exact Nat.le_refl _
  · split
    · exact Nat.le_refl _
    · split
      · exact Nat.le_refl _
      · simp; omega
theorem rflag_len (l : List UInt8) : (rflag l).2.1.length ≤ l.length := by
  rcases l with _ | ⟨x, l⟩
  · exact Nat.le_refl _
  · show (if 1 < x.toNat then (false, x :: l, 33) else (x.toNat == 1, l, 0)).2.1.length ≤ _
    by_cases h : 1 < x.toNat
    · rw [if_pos h]; exact Nat.le_refl _
    · rw [if_neg h]; simp

set_option maxRecDepth 100000 in
set_option maxHeartbeats 8000000 in
theorem refBGet_any (l : List UInt8) (w : World) (hl : l.length ≤ 5000) :
    Calls Try.prog 20 #[.string (bst l)] w (GotB w (bget l)) := by
  obtain ⟨D, hD⟩ : ∃ D, D = bget l := ⟨_, rfl⟩
  rw [← hD]
  have HD := hid hD
  have HL := hid hl
  have HS0 := hid (St1.start w)
  clear hD hl
  go_enter Try.func20, Try.ntmps20
  go_wp2_with fail
  go_loopw [0, 7] (fun u i wr => ∃ (k : Nat) (l' : List UInt8) (vs : Nat → Nat), k ≤ 4 ∧ u = .string (bst l') ∧ i = .int .i64 (k : Int) ∧ D = bgN (4 - k) ((List.range k).map vs) l' ∧ l'.length ≤ 5000 ∧ (∀ i, vs i < 18446744073709551616) ∧ St1 w wr vs) (fun _ i _ => 4 - (intOf i).toNat)
  case atStart => exact ⟨0, l, fun _ => 0, by omega, rfl, rfl, HD.out, HL.out, fun _ => Nat.zero_lt_succ _, HS0.out⟩
  case round =>
    obtain ⟨k, l', vs, hk, rfl, rfl, hd, hl', hv, hst⟩ := hrel
    have HDK := hid hd
    have HL' := hid hl'
    have HV := hid hv
    have HST := hid hst
    clear hd hl' hv hst HS0
    by_cases hlt : k < 4
    · obtain ⟨⟨v, l1, e1⟩, hr⟩ : ∃ o, rnum l' = o := ⟨_, rfl⟩
      have HR := hid hr
      have HN := hid (fun w => refNum_any l' w (by have := HL'.out; omega))
      rw [hr] at HN
      dsimp only at HN
      clear hr
      have HDS := hid (show D = if e1 ≠ 0 then none else bgN (4 - (k + 1)) ((List.range k).map vs ++ [v]) l1 by rw [HDK.out, show 4 - k = (4 - (k + 1)) + 1 by omega]; show (if (rnum l').2.2 ≠ 0 then _ else _) = _; rw [HR.out])
      by_cases he : e1 = 0
      · subst he
        have HD2 := hid (show D = bgN (4 - (k + 1)) ((List.range (k + 1)).map (upd vs k v)) l1 by rw [HDS.out, upd_map]; rfl)
        have HL1 := hid (show l1.length ≤ 5000 by have h1 := rnum_len l'; rw [HR.out] at h1; exact Nat.le_trans h1 HL'.out)
        have HVV := hid (show v < 18446744073709551616 by have := rnum_lt l'; rw [HR.out] at this; exact this)
        go_wp2_with fail
        go_fit (HN.out _)
        rintro e w2 ⟨rfl, hb2⟩
        have HST2 := hid (HST.out.step hb2)
        have hbk := HST2.out.b6
        have hcell : ∃ u, w2.cell? ⟨w.heap.size + 3, k, none⟩ = some u := by
          rcases (show k = 0 ∨ k = 1 ∨ k = 2 ∨ k = 3 by omega) with rfl | rfl | rfl | rfl
          · exact ⟨_, hbk.cell 0⟩
          · exact ⟨_, hbk.cell 1⟩
          · exact ⟨_, hbk.cell 2⟩
          · exact ⟨_, hbk.cell 3⟩
        obtain ⟨u6, hc6⟩ := hcell
        have hf6 := hbk.free k
        have HVU := hid (show ∀ i, upd vs k v i < 18446744073709551616 from fun i => by unfold upd; split; exact HVV.out; exact HV.out i)
        clear hbk hb2
        go_wp2_with fail
        go_roundw
        case rel => exact ⟨k + 1, l1, upd vs k v, by omega, rfl, by go_num, HD2.out, HL1.out, HVU.out, HST2.out.set hlt v⟩
        case measure => simp [intOf]; omega
      · have h1 : ((e1 : Int) != 0) = true := (nat_ne he).2
        obtain rfl : D = none := by rw [HDS.out, if_pos he]
        clear he
        go_wp2_with fail
        go_fit (HN.out _)
        rintro e w2 ⟨rfl, hb2⟩
        have HST2 := hid (HST.out.step hb2)
        obtain ⟨x0, x1, x2, x3, f0, f1, f2, f3⟩ := four HST2.out.b2
        obtain ⟨y0, y1, y2, y3, _, _, _, _⟩ := four HST2.out.b4
        go_wp2_with fail
        refine bodyPost_ret (v := .tuple #[zeroB, .int .i64 55]) (by simp [results, Try.results20, go_sem, zeroB, *]) rfl ⟨.inl ⟨rfl, rfl⟩, ?_⟩
        repeat' (refine Below.setCell ?_ (by simp) _)
        exact HST2.out.below
    · obtain rfl : k = 4 := by omega
      have HD2 := hid (show D = if 8 < vs 3 then none else bgL (vs 0) (vs 1) (vs 2) (vs 3) [] l' from HDK.out)
      have hlt' := HST.out.lt
      obtain ⟨x0, x1, x2, x3, f0, f1, f2, f3⟩ := four HST.out.b6
      obtain ⟨y0, y1, y2, y3, g0, g1, g2, g3⟩ := four HST.out.b5
      have HV3 := hid (HV.out 3)
      have HS2 := hid HST.out.two
      go_wp2_with fail
      go_region
      generalize (((wr.setCell ⟨w.heap.size + 2, 0, none⟩ (.int .u64 (vs 0 : Int))).setCell ⟨w.heap.size + 2, 1, none⟩ (.int .u64 (vs 1 : Int))).setCell ⟨w.heap.size + 2, 2, none⟩ (.int .u64 (vs 2 : Int))).drew = w2 at *
      clear x0 x1 x2 x3 f0 f1 f2 f3 y0 y1 y2 y3 g0 g1 g2 g3 hlt'
      obtain ⟨c, hc⟩ : ∃ c, c = vs 0 := ⟨_, rfl⟩
      obtain ⟨r, hr⟩ : ∃ c, c = vs 1 := ⟨_, rfl⟩
      obtain ⟨s, hs⟩ : ∃ c, c = vs 2 := ⟨_, rfl⟩
      obtain ⟨m, hm⟩ : ∃ c, c = vs 3 := ⟨_, rfl⟩
      rw [← hc, ← hr, ← hs, ← hm] at HS2 HD2
      rw [← hm] at HV3
      obtain ⟨z0, z1, z2, z3, _, _, _, _⟩ := four HS2.out.b6
      by_cases h8 : 8 < m
      · obtain rfl : D = none := by rw [HD2.out, if_pos h8]
        obtain ⟨x0, x1, x2, x3, f0, f1, f2, f3⟩ := four HS2.out.b2
        obtain ⟨y0, y1, y2, y3, _, _, _, _⟩ := four HS2.out.b4
        go_wp2_with fail
        refine bodyPost_ret (v := .tuple #[zeroB, .int .i64 55]) (by simp [results, Try.results20, go_sem, zeroB, *]) rfl ⟨.inl ⟨rfl, rfl⟩, ?_⟩
        repeat' (refine Below.setCell ?_ (by simp) _)
        exact HS2.out.below
      · have HD3 := hid (show D = bgL c r s m [] l' by rw [HD2.out, if_neg h8])
        clear HD2 HV HST hc hr hs hm HDK HV3
        have hm8 : m ≤ 8 := by omega
        clear h8
        go_wp2_with fail
        go_loopw [0, 11] (fun u i wr => ∃ (k : Nat) (l' : List UInt8) (A : Option Addr) (n cap : Nat) (acc : List Wt), k ≤ m ∧ u = .string (bst l') ∧ i = .int .u64 (k : Int) ∧ D = bgL c r s (m - k) acc l' ∧ l'.length ≤ 5000 ∧ acc.length = k ∧ St2 w wr c r s m A n cap acc) (fun _ i _ => m - (intOf i).toNat)
        case atStart => exact ⟨0, l', none, 0, 0, [], Nat.zero_le _, rfl, rfl, HD3.out, HL'.out, rfl, HS2.out⟩
        case round =>
          clear HL' HS2 HD3 z0 z1 z2 z3
          obtain ⟨k, l', A, n, cap, acc, hk, rfl, rfl, hd, hl', hac, hst⟩ := hrel
          have HDK := hid hd
          have HL' := hid hl'
          have HAC := hid hac
          have HST := hid hst
          clear hd hl' hac hst
          obtain ⟨z0, z1, z2, z3, _, _, _, _⟩ := four HST.out.b6
          by_cases hlt : k < m
          · obtain ⟨⟨K, l1, e1⟩, h1⟩ : ∃ o, rtext l' = o := ⟨_, rfl⟩
            obtain ⟨⟨g, l2, e2⟩, h2⟩ : ∃ o, rflag l1 = o := ⟨_, rfl⟩
            have HN1 := hid (fun W => take_text_w h1 (by have := HL'.out; omega) W)
            have HLL1 := hid (show l1.length ≤ 5000 by have a := rtext_len l'; rw [h1] at a; exact Nat.le_trans a HL'.out)
            have HN2 := hid (fun W => take_flag_w h2 (by have := HLL1.out; omega) W)
            have HLL2 := hid (show l2.length ≤ 5000 by have a := rflag_len l1; rw [h2] at a; exact Nat.le_trans a HLL1.out)
            have HDS := hid (show D = if e1 ≠ 0 then none else if e2 ≠ 0 then none else if g = true then bgL c r s (m - (k + 1)) (acc ++ [⟨K, [], true⟩]) l2 else if (rtext l2).2.2 ≠ 0 then none else bgL c r s (m - (k + 1)) (acc ++ [⟨K, (rtext l2).1, false⟩]) (rtext l2).2.1 by
              rw [HDK.out, show m - k = (m - (k + 1)) + 1 by omega, bgL, h1]
              dsimp only
              rw [h2])
            clear h1 h2
            go_wp2_with fail
            go_fit (HN1.out _)
            rintro e w18 ⟨rfl, hb18⟩
            go_wp2_with fail
            go_fit (HN2.out _)
            rintro e w19 ⟨rfl, hb19⟩
            have HX := hid (show Blk (w19.alloc (.cells #[.int .i64 2, .int .u64 0, .string (bst []), .bool g, .int .i64 0] 70)) wr.heap.size 43 #[.string ⟨#[]⟩, .string ⟨#[]⟩, .bool false] from (((((Blk.new wr _ _).below hb18 (by simp)).alloc _).below hb19 (by have := hb18.size; simp at this ⊢; omega)).alloc _))
            have HF1 := hid (show Blk (w19.alloc (.cells #[.int .i64 2, .int .u64 0, .string (bst []), .bool g, .int .i64 0] 70)) w18.heap.size 70 #[.int .i64 1, .int .u64 0, .string (bst K), .bool false, .int .i64 0] from (((Blk.new w18 _ _).below hb19 (by simp)).alloc _))
            have HF2 := hid (Blk.new w19 70 #[.int .i64 2, .int .u64 0, .string (bst []), .bool g, .int .i64 0])
            have HS20 := hid (((((HST.out.alloc (.cells #[.string ⟨#[]⟩, .string ⟨#[]⟩, .bool false] 43)).step hb18).alloc (.cells #[.int .i64 1, .int .u64 0, .string (bst K), .bool false, .int .i64 0] 70)).step hb19).alloc (.cells #[.int .i64 2, .int .u64 0, .string (bst []), .bool g, .int .i64 0] 70))
            have HXL := hid HST.out.lt
            have HNE := hid HST.out.ne
            clear hb18 hb19
            by_cases he1 : e1 = 0
            case neg =>
              obtain rfl : D = none := by rw [HDS.out, if_pos he1]
              have t1 : ((e1 : Int) != 0) = true := (nat_ne he1).2
              clear he1
              obtain ⟨x0, x1, x2, x3, f0, f1, f2, f3⟩ := four HS20.out.b2
              obtain ⟨y0, y1, y2, y3, _, _, _, _⟩ := four HS20.out.b4
              go_wp2_with fail
              refine bodyPost_ret (v := .tuple #[zeroB, .int .i64 55]) (by simp [results, Try.results20, go_sem, zeroB, *]) rfl ⟨.inl ⟨rfl, rfl⟩, ?_⟩
              repeat' (refine Below.setCell ?_ (by simp) _)
              exact HS20.out.below
            subst he1
            by_cases he2 : e2 = 0
            case neg =>
              obtain rfl : D = none := by rw [HDS.out, if_neg (by simp), if_pos he2]
              have t1 : ((e2 : Int) != 0) = true := (nat_ne he2).2
              clear he2
              obtain ⟨x0, x1, x2, x3, f0, f1, f2, f3⟩ := four HS20.out.b2
              obtain ⟨y0, y1, y2, y3, _, _, _, _⟩ := four HS20.out.b4
              go_wp2_with fail
              refine bodyPost_ret (v := .tuple #[zeroB, .int .i64 55]) (by simp [results, Try.results20, go_sem, zeroB, *]) rfl ⟨.inl ⟨rfl, rfl⟩, ?_⟩
              repeat' (refine Below.setCell ?_ (by simp) _)
              exact HS20.out.below
            subst he2
            obtain ⟨x0, x1, x2, x3, x4, x5⟩ := three HX.out
            have y2 := HF1.out.cell 2
            have y3 := HF2.out.cell 3
            cases g with
            | true =>
              have HD4 := hid (show D = bgL c r s (m - (k + 1)) (acc ++ [⟨K, [], true⟩]) l2 from HDS.out)
              have hll2 := HLL2.out
              go_wp2_with fail
              go_region
              have HS22 := hid (((HS20.out.set HXL.out HNE.out (i := 0) (.string (bst K))).set HXL.out HNE.out (i := 2) (.bool true)).drew)
              have HX22 := hid (show Blk _ wr.heap.size 43 #[.string (bst K), .string (bst []), .bool true] from ((HX.out.set 0 (.string (bst K))).set 2 (.bool true)).drew)
              obtain ⟨w22, hw22⟩ : ∃ x, x = ((((w19.alloc (.cells #[.int .i64 2, .int .u64 0, .string (bst []), .bool true, .int .i64 0] 70)).setCell ⟨wr.heap.size, 0, none⟩ (.string (bst K))).setCell ⟨wr.heap.size, 2, none⟩ (.bool true)).drew) := ⟨_, rfl⟩
              rw [← hw22] at HS22 HX22 ⊢
              clear hw22 x0 x1 x2 x3 x4 x5 y2 y3 z0 z1 z2 z3
              obtain ⟨p0, p1, p2, _, _, _⟩ := three HX22.out
              obtain ⟨_, _, _, q3, _, _, _, _⟩ := four HS22.out.b5
              have HGF := hid (fun w' hg => (HS22.out.alloc (.cells #[.string (bst K), .string (bst []), .bool true] 43)).grown5 (w' := w') hg)
              have hwk : IntKind.u64.wrap ((k : Int) + 1) = (k : Int) + 1 := by rw [IntKind.wrap_u64]; omega
              go_wp2_with (at_builtin; go_must (refine wpList_append_ws _ rfl _ _ rfl w.heap.size rfl (HS22.out.row.alloc _) rfl rfl (WAt.one w22 ⟨K, [], true⟩ rfl) ?len ?base ?_))
              case len => have := HAC.out; simp; omega
              case base => exact (HS22.out.alloc (.cells #[.string (bst K), .string (bst []), .bool true] 43)).below.size
              intro A' m' c' w24 hr24 hmc hb24 hg24
              obtain ⟨g3, gf⟩ := HGF.out _ hg24
              have HR24 := hid hr24
              have HB24 := hid hb24
              have HG24 := hid hg24
              clear hr24 hb24 hg24 hmc
              go_wp2_with fail
              go_roundw
              case rel => (repeat apply Exists.intro); refine ⟨?_, rfl⟩; exact ⟨k + 1, l2, A', m', c', acc ++ [⟨K, [], true⟩], by omega, rfl, by go_num, HD4.out, by assumption, by have := HAC.out; simp; omega, (HS22.out.alloc _).grow HG24.out HB24.out HR24.out⟩
              case measure => simp [intOf]; omega
            | false =>
              obtain ⟨⟨V, l3, e3⟩, h3⟩ : ∃ o, rtext l2 = o := ⟨_, rfl⟩
              have HN3 := hid (fun W => take_text_w h3 (by have := HLL2.out; omega) W)
              have HLL3 := hid (show l3.length ≤ 5000 by have a := rtext_len l2; rw [h3] at a; exact Nat.le_trans a HLL2.out)
              have hll3 := HLL3.out
              have HD3' := hid (show D = if e3 ≠ 0 then none else bgL c r s (m - (k + 1)) (acc ++ [⟨K, V, false⟩]) l3 by rw [HDS.out, h3]; rfl)
              clear h3
              go_wp2_with fail
              go_region
              have HS22 := hid (((HS20.out.set HXL.out HNE.out (i := 0) (.string (bst K))).set HXL.out HNE.out (i := 2) (.bool false)).drew)
              have HX22 := hid (show Blk _ wr.heap.size 43 #[.string (bst K), .string (bst []), .bool false] from ((HX.out.set 0 (.string (bst K))).set 2 (.bool false)).drew)
              obtain ⟨w22, hw22⟩ : ∃ x, x = ((((w19.alloc (.cells #[.int .i64 2, .int .u64 0, .string (bst []), .bool false, .int .i64 0] 70)).setCell ⟨wr.heap.size, 0, none⟩ (.string (bst K))).setCell ⟨wr.heap.size, 2, none⟩ (.bool false)).drew) := ⟨_, rfl⟩
              rw [← hw22] at HS22 HX22 ⊢
              clear hw22 x0 x1 x2 x3 x4 x5 y2 y3 z0 z1 z2 z3
              obtain ⟨p0, p1, p2, _, _, _⟩ := three HX22.out
              go_wp2_with fail
              go_fit (HN3.out _)
              rintro e w25 ⟨rfl, hb25⟩
              have HX26 := hid (show Blk (w25.alloc (.cells #[.int .i64 1, .int .u64 0, .string (bst V), .bool false, .int .i64 0] 70)) wr.heap.size 43 #[.string (bst K), .string (bst []), .bool false] from ((HX22.out.below hb25 HX22.out.lt).alloc _))
              have HS26 := hid ((HS22.out.step hb25).alloc (.cells #[.int .i64 1, .int .u64 0, .string (bst V), .bool false, .int .i64 0] 70))
              have HF3 := hid (Blk.new w25 70 #[.int .i64 1, .int .u64 0, .string (bst V), .bool false, .int .i64 0])
              clear hb25 p0 p1 p2
              by_cases he3 : e3 = 0
              case neg =>
                obtain rfl : D = none := by rw [HD3'.out, if_pos he3]
                have t1 : ((e3 : Int) != 0) = true := (nat_ne he3).2
                clear he3
                obtain ⟨x0, x1, x2, x3, f0, f1, f2, f3⟩ := four HS26.out.b2
                obtain ⟨y0, y1, y2, y3, _, _, _, _⟩ := four HS26.out.b4
                go_wp2_with fail
                refine bodyPost_ret (v := .tuple #[zeroB, .int .i64 55]) (by simp [results, Try.results20, go_sem, zeroB, *]) rfl ⟨.inl ⟨rfl, rfl⟩, ?_⟩
                repeat' (refine Below.setCell ?_ (by simp) _)
                exact HS26.out.below
              subst he3
              have HD4 := hid (show D = bgL c r s (m - (k + 1)) (acc ++ [⟨K, V, false⟩]) l3 from HD3'.out)
              obtain ⟨x0, x1, x2, x3, x4, x5⟩ := three HX26.out
              have y2 := HF3.out.cell 2
              have HS27 := hid (HS26.out.set HXL.out HNE.out (i := 1) (.string (bst V)))
              have HX27 := hid (show Blk _ wr.heap.size 43 #[.string (bst K), .string (bst V), .bool false] from (HX26.out.set 1 (.string (bst V))))
              obtain ⟨p0, p1, p2, _, _, _⟩ := three HX27.out
              obtain ⟨_, _, _, q3, _, _, _, _⟩ := four HS27.out.b5
              have HGF := hid (fun w' hg => (HS27.out.alloc (.cells #[.string (bst K), .string (bst V), .bool false] 43)).grown5 (w' := w') hg)
              have hwk : IntKind.u64.wrap ((k : Int) + 1) = (k : Int) + 1 := by rw [IntKind.wrap_u64]; omega
              go_wp2_with (at_builtin; go_must (refine wpList_append_ws _ rfl _ _ rfl w.heap.size rfl (HS27.out.row.alloc _) rfl rfl (WAt.one _ ⟨K, V, false⟩ (by simp)) ?len ?base ?_))
              case len => have := HAC.out; simp; omega
              case base => exact (HS27.out.alloc (.cells #[.string (bst K), .string (bst V), .bool false] 43)).below.size
              intro A' m' c' w24 hr24 hmc hb24 hg24
              obtain ⟨g3, gf⟩ := HGF.out _ hg24
              have HR24 := hid hr24
              have HB24 := hid hb24
              have HG24 := hid hg24
              clear hr24 hb24 hg24 hmc
              go_wp2_with fail
              go_roundw
              case rel => (repeat apply Exists.intro); refine ⟨?_, rfl⟩; exact ⟨k + 1, l3, A', m', c', acc ++ [⟨K, V, false⟩], by omega, rfl, by go_num, HD4.out, by assumption, by have := HAC.out; simp; omega, (HS27.out.alloc _).grow HG24.out HB24.out HR24.out⟩
              case measure => simp [intOf]; omega
          · obtain rfl : k = m := by omega
            have HDE := hid (show D = if l' = [] ∧ chk acc = 0 then some ⟨c, r, s, acc⟩ else none by rw [HDK.out, Nat.sub_self, bgL])
            have tl := bst_toList l'
            have zl := bst_size l'
            clear HDK
            rcases l' with _ | ⟨y, l'⟩
            case cons =>
              obtain rfl : D = none := by rw [HDE.out, if_neg (by simp)]
              obtain ⟨S, hS⟩ : ∃ S, S = bst (y :: l') := ⟨_, rfl⟩
              rw [← hS] at tl zl ⊢
              have hne : S.toList ≠ [] := by rw [tl]; simp
              clear hS
              obtain ⟨x0, x1, x2, x3, f0, f1, f2, f3⟩ := four HST.out.b2
              obtain ⟨y0, y1, y2, y3, _, _, _, _⟩ := four HST.out.b4
              go_wp2_with fail
              refine bodyPost_ret (v := .tuple #[zeroB, .int .i64 55]) (by simp [results, Try.results20, go_sem, zeroB, *]) rfl ⟨.inl ⟨rfl, rfl⟩, ?_⟩
              repeat' (refine Below.setCell ?_ (by simp) _)
              exact HST.out.below
            clear zl
            have HAT := hid HST.out.row.at_
            have HRM := hid HST.out.row.1
            obtain ⟨q0, q1, q2, q3, _, _, _, _⟩ := four HST.out.b5
            have HCK := hid (refBCheck_any c r s HAT.out HRM.out (Nat.le_refl _) (cap := cap))
            by_cases hc0 : chk acc = 0
            · obtain rfl : D = some ⟨c, r, s, acc⟩ := by rw [HDE.out, if_pos ⟨rfl, hc0⟩]
              rw [hc0] at HCK
              clear hc0
              go_wp2_with fail
              go_fit HCK.out
              rintro e w29 ⟨rfl, hb29⟩
              have HS29 := hid (HST.out.step hb29)
              clear hb29 q0 q1 q2 q3
              obtain ⟨q0, q1, q2, q3, _, _, _, _⟩ := four HS29.out.b5
              obtain ⟨x0, x1, x2, x3, f0, f1, f2, f3⟩ := four HS29.out.b2
              go_wp2_with fail
              obtain ⟨r0, r1, r2⟩ := HS29.out.res (.int .u64 (c : Int)) (.int .u64 (r : Int)) (.int .u64 (s : Int)) (.slice A n cap)
              generalize ((((w29.setCell ⟨w.heap.size, 0, none⟩ (.int .u64 (c : Int))).setCell ⟨w.heap.size, 1, none⟩ (.int .u64 (r : Int))).setCell ⟨w.heap.size, 2, none⟩ (.int .u64 (s : Int))).setCell ⟨w.heap.size, 3, none⟩ (.slice A n cap)) = w30 at *
              clear x0 x1 x2 x3 f0 f1 f2 f3
              obtain ⟨x0, x1, x2, x3, _, _, _, _⟩ := four r0
              refine bodyPost_ret (v := .tuple #[.agg #[.int .u64 (c : Int), .int .u64 (r : Int), .int .u64 (s : Int), .slice A n cap], .int .i64 0]) (by simp [results, Try.results20, go_sem, x0, x1, x2, x3]) rfl ⟨.inr ⟨⟨c, r, s, acc⟩, A, n, cap, rfl, rfl, r1⟩, r2⟩
            · obtain rfl : D = none := by rw [HDE.out, if_neg (fun h => hc0 h.2)]
              have t1 : ((chk acc : Int) != 0) = true := (nat_ne hc0).2
              generalize chk acc = C at t1 HCK hc0
              clear hc0
              go_wp2_with fail
              go_fit HCK.out
              rintro e w29 ⟨rfl, hb29⟩
              have HS29 := hid (HST.out.step hb29)
              clear hb29 q0 q1 q2 q3
              obtain ⟨x0, x1, x2, x3, f0, f1, f2, f3⟩ := four HS29.out.b2
              obtain ⟨y0, y1, y2, y3, _, _, _, _⟩ := four HS29.out.b4
              go_wp2_with fail
              refine bodyPost_ret (v := .tuple #[zeroB, .int .i64 55]) (by simp [results, Try.results20, go_sem, zeroB, *]) rfl ⟨.inl ⟨rfl, rfl⟩, ?_⟩
              repeat' (refine Below.setCell ?_ (by simp) _)
              exact HS29.out.below


end Go.Proofs.Ytcdjbacljnofiaa
