/-
  The document's Truncate of a log.
-/
import Derived.Test.YtobmdmbjmjdfjaaGreatDoorR8Open
import Derived.Test.YtobmdmbjmjdfjaaGreatDoorJWl
namespace Go.Proofs.YtobmdmbjmjdfjaaGreatDoor
open Go Go.RowKit

section
variable {P : Nat → Prop} {w : World} {s : Dk} {l : Wl} {a b : Int} {A1 A2 A3 A A' : Option Addr} {n1 n2 n3 c1 c2 c3 c c' ml : Nat} {st : List UInt8} {live' : List Sg}
theorem W8.inv (h : W8 P w (.agg #[.int .i64 a, .int .i64 b, .slice A1 n1 c1, .slice A2 n2 c2, .slice A3 n3 c3, .int .i64 (l.at_ : Int), .int .i64 (l.n : Int), .int .i64 (l.size : Int), .slice A ml c, .string (bst st), .int .u64 (l.last : Int), .int .u64 (l.synced : Int)]) s { l with stream := st }) : D6 P w (.agg #[.int .i64 a, .int .i64 b, .slice A1 n1 c1, .slice A2 n2 c2, .slice A3 n3 c3]) s ∧ GAt eSg w w.heap.size A l.live ∧ In P A l.live ∧ l.live.length ≤ c ∧ ml = l.live.length := by
  obtain ⟨a', b', A1', A2', A3', A', n1', n2', n3', c1', c2', c3', c', hv, h1, h2, h3, h4⟩ := h.shape
  simp at hv
  obtain ⟨rfl, rfl, ⟨rfl, rfl, rfl⟩, ⟨rfl, rfl, rfl⟩, ⟨rfl, rfl, rfl⟩, ⟨rfl, rfl, rfl⟩⟩ := hv
  exact ⟨h1, h2, h3, h4, rfl⟩
theorem W8.relive (h : W8 P w (.agg #[.int .i64 a, .int .i64 b, .slice A1 n1 c1, .slice A2 n2 c2, .slice A3 n3 c3, .int .i64 (l.at_ : Int), .int .i64 (l.n : Int), .int .i64 (l.size : Int), .slice A ml c, .string (bst st), .int .u64 (l.last : Int), .int .u64 (l.synced : Int)]) s { l with stream := st }) (hg : GAt eSg w w.heap.size A' live') (hi : In P A' live') (hc : live'.length ≤ c') (hl : live'.length ≤ 64) :
    W8 P w (.agg #[.int .i64 a, .int .i64 b, .slice A1 n1 c1, .slice A2 n2 c2, .slice A3 n3 c3, .int .i64 (l.at_ : Int), .int .i64 (l.n : Int), .int .i64 (l.size : Int), .slice A' live'.length c', .string (bst st), .int .u64 (l.last : Int), .int .u64 (l.synced : Int)]) s { l with stream := st, live := live' } :=
  ⟨⟨a, b, A1, A2, A3, A', n1, n2, n3, c1, c2, c3, c', rfl, h.inv.1, hg, hi, hc⟩, h.at_, h.n, h.size, hl, h.last, h.synced, h.stream⟩
theorem W8.restream (h : W8 P w (.agg #[.int .i64 a, .int .i64 b, .slice A1 n1 c1, .slice A2 n2 c2, .slice A3 n3 c3, .int .i64 (l.at_ : Int), .int .i64 (l.n : Int), .int .i64 (l.size : Int), .slice A ml c, .string (bst st), .int .u64 (l.last : Int), .int .u64 (l.synced : Int)]) s { l with stream := st }) {st' : List UInt8} (hs : st'.length ≤ 40000) : W8 P w (.agg #[.int .i64 a, .int .i64 b, .slice A1 n1 c1, .slice A2 n2 c2, .slice A3 n3 c3, .int .i64 (l.at_ : Int), .int .i64 (l.n : Int), .int .i64 (l.size : Int), .slice A ml c, .string (bst st'), .int .u64 (l.last : Int), .int .u64 (l.synced : Int)]) s { l with stream := st' } := by
  obtain ⟨h1, h2, h3, h4, rfl⟩ := h.inv
  exact ⟨⟨a, b, A1, A2, A3, A, n1, n2, n3, c1, c2, c3, c, rfl, h1, h2, h3, h4⟩, h.at_, h.n, h.size, h.live, h.last, h.synced, hs⟩
end
theorem truncS_pend (l : Wl) (seq : Nat) (s : Dk) (hs : l.size ≤ 64) : ∀ k, (l.truncS seq s k).pend.length ≤ s.pend.length + 64 * k
  | 0 => Nat.le_refl _
  | k + 1 => by
    have ih := truncS_pend l seq s hs k
    unfold Wl.truncS
    split
    · split
      · omega
      · rename_i x _ _
        have := freeN_pend (l.truncS seq s k) (l.place x.i) l.size
        omega
    · omega
def Wl.streamAt (l : Wl) (seq k : Nat) : List UInt8 := if k = l.live.length then l.truncStream seq else l.stream

theorem Wl.streamAt_zero (l : Wl) (seq : Nat) : l.streamAt seq 0 = l.stream := by
  unfold streamAt
  split
  · rename_i h
    have : l.live = [] := List.length_eq_zero_iff.1 h.symm
    unfold truncStream
    rw [this]
    rfl
  · rfl
theorem Wl.streamAt_step (l : Wl) (seq : Nat) {k : Nat} {x : Sg} (hx : l.live[k]? = some x) : l.streamAt seq (k + 1) = if x.stays seq = true then l.streamAt seq k else if k + 1 = l.live.length then [] else l.streamAt seq k := by
  have hk := (List.getElem?_eq_some_iff.1 hx).1
  have h0 : l.streamAt seq k = l.stream := if_neg (by omega)
  rw [h0]
  unfold streamAt
  by_cases h1 : k + 1 = l.live.length
  · rw [if_pos h1, if_pos h1]
    unfold truncStream
    have : l.live.getLast? = some x := by rw [List.getLast?_eq_getElem?, show l.live.length - 1 = k by omega]; exact hx
    rw [this]
  · rw [if_neg h1, if_neg h1]
    split <;> rfl
theorem Wl.truncS_step (l : Wl) (seq : Nat) (s : Dk) {k : Nat} {x : Sg} (hx : l.live[k]? = some x) : l.truncS seq s (k + 1) = if x.stays seq = true then l.truncS seq s k else freeN (l.truncS seq s k) (l.place x.i) l.size := by
  rw [truncS, hx]
theorem filt_step {L : List Sg} (seq : Nat) {k : Nat} {x : Sg} (hx : L[k]? = some x) : (L.take (k + 1)).filter (·.stays seq) = (L.take k).filter (·.stays seq) ++ if x.stays seq = true then [x] else [] := by
  rw [List.take_add_one, hx, List.filter_append]
  congr 1
  by_cases h : x.stays seq = true <;> simp [h]
def PPA (P : Nat → Prop) (w : World) (Al : Option Addr) (ml cl : Nat) : Nat → Prop := fun k => (P k ∧ k < w.heap.size) ∨ (w.heap.size + 2 ≤ k ∧ (Value.slice Al ml cl).ownBlock ≠ some k)
set_option maxHeartbeats 16000000 in
set_option maxRecDepth 100000 in
theorem trunc8_any {P : Nat → Prop} {w : World} {v : Value} {s : Dk} {l : Wl} (seq : Nat) (h : W8 P w v s l) (hi : ∀ x ∈ l.live, x.i ≤ 64 ∧ x.base < 18446744073709551616 ∧ x.count < 18446744073709551616) (hp : s.pend.length ≤ 800000) :
    Calls Tryz.prog 13 #[v, .int .u64 (seq : Int)] w fun e w' => ∃ v', e = .returned (.tuple #[v', .int .i64 (l.truncWhy seq : Int)]) ∧ W8 (fun k => P k ∨ w.heap.size ≤ k) w' v' (l.truncD seq s) (l.trunc seq) ∧ Below w.heap.size w w' := by
  obtain ⟨a, b, A1, A2, A3, A, n1, n2, n3, c1, c2, c3, c, rfl, _⟩ := h.bound.shape
  have HW := hid h
  have HP := hid hp
  have HII := hid hi
  obtain ⟨nl, hnl⟩ : ∃ nl, nl = l.live.length := ⟨_, rfl⟩
  rw [← hnl] at HW ⊢
  have HNL := hid hnl
  have hnl64 : nl ≤ 64 := by rw [hnl]; exact h.live
  have HSL := hid (fun k => truncS_pend l seq s h.size k)
  have HB1 := hid (show Below w.heap.size w ((w.alloc (.cells #[.int .i64 a, .int .i64 b, .slice A1 n1 c1, .slice A2 n2 c2, .slice A3 n3 c3, .int .i64 (l.at_ : Int), .int .i64 (l.n : Int), .int .i64 (l.size : Int), .slice A nl c, .string (bst l.stream), .int .u64 (l.last : Int), .int .u64 (l.synced : Int)] 43)).alloc (.cells #[.int .i64 0, .int .i64 0, .slice none 0 0, .slice none 0 0, .slice none 0 0, .int .i64 0, .int .i64 0, .int .i64 0, .slice none 0 0, .string ⟨#[]⟩, .int .u64 0, .int .u64 0] 43)) from ((Below.refl _ _).alloc (Nat.le_refl _) _).alloc (by simp) _)
  have HX1 := hid (show Blk ((w.alloc (.cells #[.int .i64 a, .int .i64 b, .slice A1 n1 c1, .slice A2 n2 c2, .slice A3 n3 c3, .int .i64 (l.at_ : Int), .int .i64 (l.n : Int), .int .i64 (l.size : Int), .slice A nl c, .string (bst l.stream), .int .u64 (l.last : Int), .int .u64 (l.synced : Int)] 43)).alloc (.cells #[.int .i64 0, .int .i64 0, .slice none 0 0, .slice none 0 0, .slice none 0 0, .int .i64 0, .int .i64 0, .int .i64 0, .slice none 0 0, .string ⟨#[]⟩, .int .u64 0, .int .u64 0] 43)) w.heap.size 43 #[.int .i64 a, .int .i64 b, .slice A1 n1 c1, .slice A2 n2 c2, .slice A3 n3 c3, .int .i64 (l.at_ : Int), .int .i64 (l.n : Int), .int .i64 (l.size : Int), .slice A nl c, .string (bst l.stream), .int .u64 (l.last : Int), .int .u64 (l.synced : Int)] from (Blk.new w _ _).alloc _)
  have hZ := Blk.new (w.alloc (.cells #[.int .i64 a, .int .i64 b, .slice A1 n1 c1, .slice A2 n2 c2, .slice A3 n3 c3, .int .i64 (l.at_ : Int), .int .i64 (l.n : Int), .int .i64 (l.size : Int), .slice A nl c, .string (bst l.stream), .int .u64 (l.last : Int), .int .u64 (l.synced : Int)] 43)) 43 #[.int .i64 0, .int .i64 0, .slice none 0 0, .slice none 0 0, .slice none 0 0, .int .i64 0, .int .i64 0, .int .i64 0, .slice none 0 0, .string ⟨#[]⟩, .int .u64 0, .int .u64 0]
  rw [show (w.alloc (.cells #[.int .i64 a, .int .i64 b, .slice A1 n1 c1, .slice A2 n2 c2, .slice A3 n3 c3, .int .i64 (l.at_ : Int), .int .i64 (l.n : Int), .int .i64 (l.size : Int), .slice A nl c, .string (bst l.stream), .int .u64 (l.last : Int), .int .u64 (l.synced : Int)] 43)).heap.size = w.heap.size + 1 by simp] at hZ
  have HZ1 := hid hZ
  have HSZ1 := hid (show ((w.alloc (.cells #[.int .i64 a, .int .i64 b, .slice A1 n1 c1, .slice A2 n2 c2, .slice A3 n3 c3, .int .i64 (l.at_ : Int), .int .i64 (l.n : Int), .int .i64 (l.size : Int), .slice A nl c, .string (bst l.stream), .int .u64 (l.last : Int), .int .u64 (l.synced : Int)] 43)).alloc (.cells #[.int .i64 0, .int .i64 0, .slice none 0 0, .slice none 0 0, .slice none 0 0, .int .i64 0, .int .i64 0, .int .i64 0, .slice none 0 0, .string ⟨#[]⟩, .int .u64 0, .int .u64 0] 43)).heap.size = w.heap.size + 2 by simp)
  clear hZ h hp hi hnl
  by_cases hsl : l.last < seq
  · have hgt : (seq : Int) > (l.last : Int) := by omega
    have e1 : l.truncWhy seq = 83 := if_pos hsl
    have e2 : l.truncD seq s = s := if_pos hsl
    have e3 : l.trunc seq = l := if_pos hsl
    rw [e1, e2, e3]
    clear e1 e2 e3 hsl
    go_enter Tryz.func13, Tryz.ntmps13
    go_upto_region 1 with fail
    generalize (w.alloc (.cells #[.int .i64 a, .int .i64 b, .slice A1 n1 c1, .slice A2 n2 c2, .slice A3 n3 c3, .int .i64 (l.at_ : Int), .int .i64 (l.n : Int), .int .i64 (l.size : Int), .slice A nl c, .string (bst l.stream), .int .u64 (l.last : Int), .int .u64 (l.synced : Int)] 43)).alloc (.cells #[.int .i64 0, .int .i64 0, .slice none 0 0, .slice none 0 0, .slice none 0 0, .int .i64 0, .int .i64 0, .int .i64 0, .slice none 0 0, .string ⟨#[]⟩, .int .u64 0, .int .u64 0] 43) = w1 at *
    have x0 := HX1.out.cell 0
    have x1 := HX1.out.cell 1
    have x2 := HX1.out.cell 2
    have x3 := HX1.out.cell 3
    have x4 := HX1.out.cell 4
    have x5 := HX1.out.cell 5
    have x6 := HX1.out.cell 6
    have x7 := HX1.out.cell 7
    have x8 := HX1.out.cell 8
    have x9 := HX1.out.cell 9
    have x10 := HX1.out.cell 10
    have x11 := HX1.out.cell 11
    have z0 := HZ1.out.cell 0
    have zf0 := HZ1.out.free 0
    have z1 := HZ1.out.cell 1
    have zf1 := HZ1.out.free 1
    have z2 := HZ1.out.cell 2
    have zf2 := HZ1.out.free 2
    have z3 := HZ1.out.cell 3
    have zf3 := HZ1.out.free 3
    have z4 := HZ1.out.cell 4
    have zf4 := HZ1.out.free 4
    have z5 := HZ1.out.cell 5
    have zf5 := HZ1.out.free 5
    have z6 := HZ1.out.cell 6
    have zf6 := HZ1.out.free 6
    have z7 := HZ1.out.cell 7
    have zf7 := HZ1.out.free 7
    have z8 := HZ1.out.cell 8
    have zf8 := HZ1.out.free 8
    have z9 := HZ1.out.cell 9
    have zf9 := HZ1.out.free 9
    have z10 := HZ1.out.cell 10
    have zf10 := HZ1.out.free 10
    have z11 := HZ1.out.cell 11
    have zf11 := HZ1.out.free 11
    go_wp2_with fail
    refine bodyPost_ret (v := .tuple #[.agg #[.int .i64 a, .int .i64 b, .slice A1 n1 c1, .slice A2 n2 c2, .slice A3 n3 c3, .int .i64 (l.at_ : Int), .int .i64 (l.n : Int), .int .i64 (l.size : Int), .slice A nl c, .string (bst l.stream), .int .u64 (l.last : Int), .int .u64 (l.synced : Int)], .int .i64 83]) (by simp [results, Tryz.results13, go_sem, *]) rfl ⟨_, rfl, ?_⟩
    have key : ∀ wf, Off2 (w.heap.size + 1) (w.heap.size + 1) w1 wf → W8 (fun k => P k ∨ w.heap.size ≤ k) wf (.agg #[.int .i64 a, .int .i64 b, .slice A1 n1 c1, .slice A2 n2 c2, .slice A3 n3 c3, .int .i64 (l.at_ : Int), .int .i64 (l.n : Int), .int .i64 (l.size : Int), .slice A nl c, .string (bst l.stream), .int .u64 (l.last : Int), .int .u64 (l.synced : Int)]) s l ∧ Below w.heap.size w wf := by
      intro wf ho
      have hb := ho.below HB1.out (Nat.le_succ _) (Nat.le_succ _)
      exact ⟨(HW.out.step hb).weak fun _ hk => .inl hk, hb⟩
    exact key _ (((((((((((((Off2.refl w1).setg 0 _).setg 1 _).setg 2 _).setg 3 _).setg 4 _).setg 5 _).setg 6 _).setg 7 _).setg 8 _).setg 9 _).setg 10 _).setg 11 _)
  · have hgt : ¬ (seq : Int) > (l.last : Int) := by omega
    have e1 : l.truncWhy seq = 0 := if_neg hsl
    have e2 : l.truncD seq s = (l.truncS seq s nl).sync := by unfold Wl.truncD; rw [if_neg hsl, HNL.out]
    have e3 : l.trunc seq = { l with live := l.live.filter (·.stays seq), stream := l.truncStream seq, synced := l.last } := if_neg hsl
    rw [e1, e2, e3]
    clear e1 e2 e3 hsl
    go_enter Tryz.func13, Tryz.ntmps13
    go_upto_region 1 with fail
    generalize (w.alloc (.cells #[.int .i64 a, .int .i64 b, .slice A1 n1 c1, .slice A2 n2 c2, .slice A3 n3 c3, .int .i64 (l.at_ : Int), .int .i64 (l.n : Int), .int .i64 (l.size : Int), .slice A nl c, .string (bst l.stream), .int .u64 (l.last : Int), .int .u64 (l.synced : Int)] 43)).alloc (.cells #[.int .i64 0, .int .i64 0, .slice none 0 0, .slice none 0 0, .slice none 0 0, .int .i64 0, .int .i64 0, .int .i64 0, .slice none 0 0, .string ⟨#[]⟩, .int .u64 0, .int .u64 0] 43) = w1 at *
    have x0 := HX1.out.cell 0
    have x1 := HX1.out.cell 1
    have x2 := HX1.out.cell 2
    have x3 := HX1.out.cell 3
    have x4 := HX1.out.cell 4
    have x5 := HX1.out.cell 5
    have x6 := HX1.out.cell 6
    have x7 := HX1.out.cell 7
    have x8 := HX1.out.cell 8
    have x9 := HX1.out.cell 9
    have x10 := HX1.out.cell 10
    have x11 := HX1.out.cell 11
    have HW1 := hid (show W8 (fun k => P k ∧ k < w.heap.size) w1 (.agg #[.int .i64 a, .int .i64 b, .slice A1 n1 c1, .slice A2 n2 c2, .slice A3 n3 c3, .int .i64 (l.at_ : Int), .int .i64 (l.n : Int), .int .i64 (l.size : Int), .slice A nl c, .string (bst l.stream), .int .u64 (l.last : Int), .int .u64 (l.synced : Int)]) (l.truncS seq s 0) { l with stream := l.stream } from HW.out.bound.keep HB1.out.size fun k hk => HB1.out.block k hk.2)
    go_upto_region 4 with fail
    have HR2 := hid (show GRow eSg 84 (w1.alloc (.cells #[] 84)) w1.heap.size (some ⟨w1.heap.size, 0, none⟩) 0 0 [] from GRow.empty w1 rfl (Nat.le_refl _))
    have HB2 := hid (show Below w1.heap.size w1 (w1.alloc (.cells #[] 84)) from (Below.refl _ _).alloc (Nat.le_refl _) _)
    generalize w1.alloc (.cells #[] 84) = w2 at *
    have HX2 := hid (HX1.out.below HB2.out HX1.out.lt)
    have HZ2 := hid (HZ1.out.below HB2.out HZ1.out.lt)
    have HW2 := hid ((HW1.out.step HB2.out).weak (P' := PPA P w (some ⟨w1.heap.size, 0, none⟩) 0 0) fun _ hk => .inl hk)
    have HBB := hid (HB1.out.trans (HB2.out.mono HB1.out.size))
    clear x0 x1 x2 x3 x4 x5 x6 x7 x8 x9 x10 x11 HW1 HX1 HZ1
    go_wp2_with fail
    go_loopw [6, 7] (fun x6 x7 wr => ∃ (k : Nat) (st : List UInt8) (a b : Int) (A1 A2 A3 A : Option Addr) (n1 n2 n3 c1 c2 c3 c : Nat) (Al : Option Addr) (ml cl : Nat), k ≤ nl ∧ x6 = .slice Al ml cl ∧ x7 = .int .i64 (k : Int) ∧ Kept (st = l.streamAt seq k) ∧ Kept (Blk wr w.heap.size 43 #[.int .i64 a, .int .i64 b, .slice A1 n1 c1, .slice A2 n2 c2, .slice A3 n3 c3, .int .i64 (l.at_ : Int), .int .i64 (l.n : Int), .int .i64 (l.size : Int), .slice A nl c, .string (bst st), .int .u64 (l.last : Int), .int .u64 (l.synced : Int)]) ∧ Kept (W8 (PPA P w Al ml cl) wr (.agg #[.int .i64 a, .int .i64 b, .slice A1 n1 c1, .slice A2 n2 c2, .slice A3 n3 c3, .int .i64 (l.at_ : Int), .int .i64 (l.n : Int), .int .i64 (l.size : Int), .slice A nl c, .string (bst st), .int .u64 (l.last : Int), .int .u64 (l.synced : Int)]) (l.truncS seq s k) { l with stream := st }) ∧ Kept (Blk wr (w.heap.size + 1) 43 #[.int .i64 0, .int .i64 0, .slice none 0 0, .slice none 0 0, .slice none 0 0, .int .i64 0, .int .i64 0, .int .i64 0, .slice none 0 0, .string ⟨#[]⟩, .int .u64 0, .int .u64 0]) ∧ Kept (GRow eSg 84 wr w1.heap.size Al ml cl ((l.live.take k).filter (·.stays seq))) ∧ Kept (Below w.heap.size w wr) ∧ Kept (w1.heap.size ≤ wr.heap.size)) (fun _ x _ => nl - (intOf x).toNat)
    case atStart => exact ⟨0, l.stream, a, b, A1, A2, A3, A, n1, n2, n3, c1, c2, c3, c, _, 0, 0, Nat.zero_le _, rfl, rfl, hid (l.streamAt_zero seq).symm, HX2, HW2, HZ2, HR2, HBB, hid HB2.out.size⟩
    case round =>
      clear HX2 HW2 HZ2 HR2 HBB HB2
      obtain ⟨k, st, a, b, A1, A2, A3, A, n1, n2, n3, c1, c2, c3, c, Al, ml, cl, hk, rfl, rfl, HST, HX, HW, HZ, HR, HB, HSW⟩ := hrel
      by_cases hlt : k < nl
      · have hlt' : (k : Int) < (nl : Int) := by omega
        obtain ⟨bb, off, x, rfl, hbb, hx, d0, d1, d2⟩ := HW.out.inv.2.1.sg (i := k) (by rw [← HNL.out]; exact hlt)
        have HXK := hid hx
        obtain ⟨hx1, hx2, hx3⟩ := HII.out x (List.mem_of_getElem? hx)
        have HX64 := hid hx1
        have HSS := hid (l.streamAt_step seq hx)
        have HTS := hid (l.truncS_step seq s hx)
        have HFT := hid (filt_step seq hx)
        have x8 : wr.cell? ⟨w.heap.size, 8, none⟩ = some (.slice (some ⟨bb, off, none⟩) nl c) := HX.out.cell 8
        have HB9 := hid (show Below wr.heap.size wr (wr.alloc (.cells #[.int .i64 (x.i : Int), .int .u64 (x.base : Int), .int .u64 (x.count : Int)] 84)) from (Below.refl _ _).alloc (Nat.le_refl _) _)
        have hy := Blk.new wr 84 #[.int .i64 (x.i : Int), .int .u64 (x.base : Int), .int .u64 (x.count : Int)]
        obtain ⟨g8, hg8⟩ : ∃ g, g = wr.heap.size := ⟨_, rfl⟩
        rw [← hg8] at hy
        have HY := hid hy
        obtain ⟨G, hG⟩ : ∃ G, G = m64 (x.base + x.count) := ⟨_, rfl⟩
        obtain ⟨E, hE⟩ : ∃ E, E = m64 (x.base + x.count + 18446744073709551615) := ⟨_, rfl⟩
        have hwa : IntKind.u64.wrap ((x.base : Int) + (x.count : Int)) = (G : Int) := by rw [IntKind.wrap_u64, hG]; unfold m64; omega
        have hwb : IntKind.u64.wrap ((G : Int) - 1) = (E : Int) := by rw [IntKind.wrap_u64, hG, hE]; unfold m64; omega
        have hsy : x.stays seq = (decide (0 < x.count) && decide (seq < E)) := by unfold Sg.stays; rw [hE]
        clear hx hx1 hx2 hx3 hy hG hE
        go_upto_region 8 with fail
        rw [← hg8]
        generalize wr.alloc (.cells #[.int .i64 (x.i : Int), .int .u64 (x.base : Int), .int .u64 (x.count : Int)] 84) = w5 at *
        have HX5 := hid (HX.out.below HB9.out HX.out.lt)
        have HW5 := hid (HW.out.step HB9.out)
        have HZ5 := hid (HZ.out.below HB9.out HZ.out.lt)
        have HR5 := hid (HR.out.below HB9.out)
        have HB5 := hid (HB.out.trans (HB9.out.mono HB.out.size))
        have HSW5 := hid (Nat.le_trans HSW.out HB9.out.size)
        clear HX HW HZ HR HB HSW hg8 d0 d1 d2 x8 HB9 hbb
        have y0 := HY.out.cell 0
        have y1 := HY.out.cell 1
        have y2 := HY.out.cell 2
        by_cases hss : x.stays seq = true
        · have HS2 := hid hss
          rw [hsy] at hss
          simp only [Bool.and_eq_true, decide_eq_true_eq] at hss
          have b1 : (x.count : Int) > 0 := by omega
          have b2 : (E : Int) > (seq : Int) := by omega
          have HLN := hid (show ((l.live.take k).filter (·.stays seq)).length + 1 ≤ 1099511627776 by
            have := List.length_filter_le (·.stays seq) (l.live.take k)
            rw [List.length_take] at this
            omega)
          have HS9 := hid (show w1.heap.size ≤ (w5.alloc (.cells #[.int .i64 (x.i : Int), .int .u64 (x.base : Int), .int .u64 (x.count : Int)] 84)).heap.size from Nat.le_trans HSW5.out (by simp))
          clear hss hsy
          go_wp2_with (at_builtin; go_must (refine wpList_append_own _ rfl _ _ eSg gi_sg (by decide) rfl w1.heap.size rfl (HR5.out.alloc _) rfl rfl (GAt.one_at (w := w5) (x := x) rfl rfl) HLN.out HS9.out ?_))
          intro A6 m6 c6 w6 hr6 hc6 hb6 hw6 ho6
          have hlow : ∀ q, q < w1.heap.size → some q ≠ (Value.slice Al ml cl).ownBlock := fun q hq e => by have := (HR5.out.2.lt q e.symm).1; omega
          have hst6 : ∀ q, q < w5.heap.size → some q ≠ (Value.slice Al ml cl).ownBlock → w6.heap[q]? = w5.heap[q]? := fun q hq hne => (hw6.block q (Nat.lt_of_lt_of_le hq (by simp)) hne).trans (Below.heap_alloc _ _ _ hq)
          have HX6 := hid (show Blk w6 w.heap.size _ _ from (hst6 _ HX5.out.lt (hlow _ (by have := HSZ1.out; omega))).trans HX5.out)
          have HZ6 := hid (show Blk w6 (w.heap.size + 1) _ _ from (hst6 _ HZ5.out.lt (hlow _ (by have := HSZ1.out; omega))).trans HZ5.out)
          have HW6 := hid (show W8 (PPA P w A6 m6 c6) w6 (.agg #[.int .i64 a, .int .i64 b, .slice A1 n1 c1, .slice A2 n2 c2, .slice A3 n3 c3, .int .i64 (l.at_ : Int), .int .i64 (l.n : Int), .int .i64 (l.size : Int), .slice (some ⟨bb, off, none⟩) nl c, .string (bst st), .int .u64 (l.last : Int), .int .u64 (l.synced : Int)]) (l.truncS seq s (k + 1)) { l with stream := st } from by
            rw [HTS.out, if_pos HS2.out]
            have hsz := HSZ1.out
            have hs5 := HSW5.out
            refine (HW5.out.bound.keep (Nat.le_trans (by simp) hw6.size) (fun q hq => hst6 q hq.2 ?_)).weak (fun q hq => ?_)
            · rcases hq.1 with h1 | h1
              · exact hlow q (by omega)
              · exact fun e => h1.2 e.symm
            · rcases hq.1 with h1 | h1
              · exact .inl h1
              · refine .inr ⟨h1.1, fun e => ?_⟩
                rcases ho6 with ho | ho
                · exact h1.2 (ho ▸ e)
                · rw [ho] at e
                  injection e with e
                  have := hq.2
                  omega)
          have HR6 := hid (show GRow eSg 84 w6 w1.heap.size A6 m6 c6 ((l.live.take (k + 1)).filter (·.stays seq)) from by rw [HFT.out, if_pos HS2.out]; exact hr6)
          have HB6 := hid ((HB5.out.alloc HB5.out.size (.cells #[.int .i64 (x.i : Int), .int .u64 (x.base : Int), .int .u64 (x.count : Int)] 84)).trans (hb6.mono (by have := HSZ1.out; omega)))
          have HSW6 := hid (Nat.le_trans HS9.out hw6.size)
          clear hlow hst6 hr6 hc6 hb6 hw6 ho6 HX5 HZ5 HW5 HR5 HB5 y0 y1 y2
          go_wp2_with fail
          go_roundw
          case rel => exact ⟨k + 1, st, a, b, A1, A2, A3, some ⟨bb, off, none⟩, n1, n2, n3, c1, c2, c3, c, A6, m6, c6, by omega, rfl, by go_num, hid (by rw [HSS.out, if_pos HS2.out]; exact HST.out), HX6, HW6, HZ6, HR6, HB6, HSW6⟩
          case measure => simp [intOf]; omega
        · have HS2 := hid hss
          rw [hsy] at hss
          by_cases hc0 : 0 < x.count
          · have b1 : (x.count : Int) > 0 := by omega
            have b2 : ¬ (E : Int) > (seq : Int) := fun hb => hss (by simp [hc0]; omega)
            clear hss hsy hc0
            have HFR := hid (free8_any x.i HW5.out.bound HX64.out (by have := HSL.out k; have := HP.out; omega))
            rw [show Wl.place { l with stream := st } x.i = l.place x.i from rfl, show Wl.size { l with stream := st } = l.size from rfl] at HFR
            go_upto_region 10 with fail
            clear y1 y2
            have x0 := HX5.out.cell 0
            have xf0 := HX5.out.free 0
            have x1 := HX5.out.cell 1
            have xf1 := HX5.out.free 1
            have x2 := HX5.out.cell 2
            have xf2 := HX5.out.free 2
            have x3 := HX5.out.cell 3
            have xf3 := HX5.out.free 3
            have x4 := HX5.out.cell 4
            have xf4 := HX5.out.free 4
            have x5 := HX5.out.cell 5
            have xf5 := HX5.out.free 5
            have x6 := HX5.out.cell 6
            have xf6 := HX5.out.free 6
            have x7 := HX5.out.cell 7
            have xf7 := HX5.out.free 7
            have x8 := HX5.out.cell 8
            have xf8 := HX5.out.free 8
            have x9 := HX5.out.cell 9
            have xf9 := HX5.out.free 9
            have x10 := HX5.out.cell 10
            have xf10 := HX5.out.free 10
            have x11 := HX5.out.cell 11
            have xf11 := HX5.out.free 11
            go_wp2_with fail
            go_fit HFR.out
            rintro e w6 ⟨v6, rfl, hw6, hb6⟩
            obtain ⟨a', b', A1', A2', A3', A', n1', n2', n3', c1', c2', c3', cl', hv6, _⟩ := hw6.shape
            have hv7 : v6 = .agg #[.int .i64 a', .int .i64 b', .slice A1' n1' c1', .slice A2' n2' c2', .slice A3' n3' c3', .int .i64 (l.at_ : Int), .int .i64 (l.n : Int), .int .i64 (l.size : Int), .slice A' nl cl', .string (bst st), .int .u64 (l.last : Int), .int .u64 (l.synced : Int)] := by rw [hv6, HNL.out]
            clear hv6
            subst hv7
            have HW6 := hid hw6
            have HX6 := hid (HX5.out.below hb6 HX5.out.lt)
            have HB6 := hid hb6
            clear hw6 hb6 HFR x0 xf0 x1 xf1 x2 xf2 x3 xf3 x4 xf4 x5 xf5 x6 xf6 x7 xf7 x8 xf8 x9 xf9 x10 xf10 x11 xf11
            have x0 := HX6.out.cell 0
            have xf0 := HX6.out.free 0
            have x1 := HX6.out.cell 1
            have xf1 := HX6.out.free 1
            have x2 := HX6.out.cell 2
            have xf2 := HX6.out.free 2
            have x3 := HX6.out.cell 3
            have xf3 := HX6.out.free 3
            have x4 := HX6.out.cell 4
            have xf4 := HX6.out.free 4
            have x5 := HX6.out.cell 5
            have xf5 := HX6.out.free 5
            have x6 := HX6.out.cell 6
            have xf6 := HX6.out.free 6
            have x7 := HX6.out.cell 7
            have xf7 := HX6.out.free 7
            have x8 := HX6.out.cell 8
            have xf8 := HX6.out.free 8
            have x9 := HX6.out.cell 9
            have xf9 := HX6.out.free 9
            have x10 := HX6.out.cell 10
            have xf10 := HX6.out.free 10
            have x11 := HX6.out.cell 11
            have xf11 := HX6.out.free 11
            have HX7 := hid (show Blk ((((((((((((w6.setCell ⟨w.heap.size, 0, none⟩ (.int .i64 a')).setCell ⟨w.heap.size, 1, none⟩ (.int .i64 b')).setCell ⟨w.heap.size, 2, none⟩ (.slice A1' n1' c1')).setCell ⟨w.heap.size, 3, none⟩ (.slice A2' n2' c2')).setCell ⟨w.heap.size, 4, none⟩ (.slice A3' n3' c3')).setCell ⟨w.heap.size, 5, none⟩ (.int .i64 (l.at_ : Int))).setCell ⟨w.heap.size, 6, none⟩ (.int .i64 (l.n : Int))).setCell ⟨w.heap.size, 7, none⟩ (.int .i64 (l.size : Int))).setCell ⟨w.heap.size, 8, none⟩ (.slice A' nl cl')).setCell ⟨w.heap.size, 9, none⟩ (.string (bst st))).setCell ⟨w.heap.size, 10, none⟩ (.int .u64 (l.last : Int))).setCell ⟨w.heap.size, 11, none⟩ (.int .u64 (l.synced : Int))) w.heap.size 43 #[.int .i64 a', .int .i64 b', .slice A1' n1' c1', .slice A2' n2' c2', .slice A3' n3' c3', .int .i64 (l.at_ : Int), .int .i64 (l.n : Int), .int .i64 (l.size : Int), .slice A' nl cl', .string (bst st), .int .u64 (l.last : Int), .int .u64 (l.synced : Int)] from HX6.out.set12)
            have HO7 := hid (show Off2 w.heap.size w.heap.size w6 ((((((((((((w6.setCell ⟨w.heap.size, 0, none⟩ (.int .i64 a')).setCell ⟨w.heap.size, 1, none⟩ (.int .i64 b')).setCell ⟨w.heap.size, 2, none⟩ (.slice A1' n1' c1')).setCell ⟨w.heap.size, 3, none⟩ (.slice A2' n2' c2')).setCell ⟨w.heap.size, 4, none⟩ (.slice A3' n3' c3')).setCell ⟨w.heap.size, 5, none⟩ (.int .i64 (l.at_ : Int))).setCell ⟨w.heap.size, 6, none⟩ (.int .i64 (l.n : Int))).setCell ⟨w.heap.size, 7, none⟩ (.int .i64 (l.size : Int))).setCell ⟨w.heap.size, 8, none⟩ (.slice A' nl cl')).setCell ⟨w.heap.size, 9, none⟩ (.string (bst st))).setCell ⟨w.heap.size, 10, none⟩ (.int .u64 (l.last : Int))).setCell ⟨w.heap.size, 11, none⟩ (.int .u64 (l.synced : Int))) from (((((((((((((Off2.refl w6).setg 0 _).setg 1 _).setg 2 _).setg 3 _).setg 4 _).setg 5 _).setg 6 _).setg 7 _).setg 8 _).setg 9 _).setg 10 _).setg 11 _))
            have HWX := hid HW6.out.size
            go_upto_region 11 with fail
            generalize ((((((((((((w6.setCell ⟨w.heap.size, 0, none⟩ (.int .i64 a')).setCell ⟨w.heap.size, 1, none⟩ (.int .i64 b')).setCell ⟨w.heap.size, 2, none⟩ (.slice A1' n1' c1')).setCell ⟨w.heap.size, 3, none⟩ (.slice A2' n2' c2')).setCell ⟨w.heap.size, 4, none⟩ (.slice A3' n3' c3')).setCell ⟨w.heap.size, 5, none⟩ (.int .i64 (l.at_ : Int))).setCell ⟨w.heap.size, 6, none⟩ (.int .i64 (l.n : Int))).setCell ⟨w.heap.size, 7, none⟩ (.int .i64 (l.size : Int))).setCell ⟨w.heap.size, 8, none⟩ (.slice A' nl cl')).setCell ⟨w.heap.size, 9, none⟩ (.string (bst st))).setCell ⟨w.heap.size, 10, none⟩ (.int .u64 (l.last : Int))).setCell ⟨w.heap.size, 11, none⟩ (.int .u64 (l.synced : Int))) = w7 at *
            clear x0 xf0 x1 xf1 x2 xf2 x3 xf3 x4 xf4 x5 xf5 x6 xf6 x7 xf7 x8 xf8 x9 xf9 x10 xf10 x11 xf11 y0
            have HW7 := hid (show W8 (PPA P w Al ml cl) w7 (.agg #[.int .i64 a', .int .i64 b', .slice A1' n1' c1', .slice A2' n2' c2', .slice A3' n3' c3', .int .i64 (l.at_ : Int), .int .i64 (l.n : Int), .int .i64 (l.size : Int), .slice A' nl cl', .string (bst st), .int .u64 (l.last : Int), .int .u64 (l.synced : Int)]) (l.truncS seq s (k + 1)) { l with stream := st } from by
              rw [HTS.out, if_neg HS2.out]
              have hsz := HSZ1.out
              have hs5 := HSW5.out
              refine (HW6.out.keep (by rw [HO7.out.size]; exact Nat.le_refl _) (fun q hq => HO7.out.block q ?_ ?_)).weak (fun q hq => ?_)
              · rcases hq with ⟨(hq | hq), _⟩ | hq <;> omega
              · rcases hq with ⟨(hq | hq), _⟩ | hq <;> omega
              · rcases hq with ⟨hq, _⟩ | hq
                · exact hq
                · exact .inr ⟨by omega, fun e => by have := (HR5.out.2.lt q e).2; omega⟩)
            have hr6 := HR5.out.below HB6.out
            have HR7 := hid (show GRow eSg 84 w7 w1.heap.size Al ml cl ((l.live.take (k + 1)).filter (·.stays seq)) from by
              rw [HFT.out, if_neg HS2.out, List.append_nil]
              exact ⟨hr6.1, hr6.2.kept (row := some w.heap.size) ⟨HO7.out.os, HO7.out.tape, HO7.out.output, by rw [HO7.out.size]; exact Nat.le_refl _, fun q _ hne => HO7.out.block q (fun e => hne (by rw [e])) (fun e => hne (by rw [e]))⟩ (.inr fun e => by have := (hr6.2.lt _ e).1; have := HSZ1.out; omega)⟩)
            have HZ7 := hid (show Blk w7 (w.heap.size + 1) _ _ from (HO7.out.block _ (by omega) (by omega)).trans (HZ5.out.below HB6.out HZ5.out.lt))
            have HB7 := hid (HO7.out.below (HB5.out.trans (HB6.out.mono HB5.out.size)) (Nat.le_refl _) (Nat.le_refl _))
            have HSW7 := hid (show w1.heap.size ≤ w7.heap.size by rw [HO7.out.size]; exact Nat.le_trans HSW5.out HB6.out.size)
            clear hr6 HW6 HX6 HO7 HR5 HZ5 HB5 HX5 HB6 HFT HTS
            have x8 : w7.cell? ⟨w.heap.size, 8, none⟩ = some (.slice A' nl cl') := HX7.out.cell 8
            have x9 : w7.cell? ⟨w.heap.size, 9, none⟩ = some (.string (bst st)) := HX7.out.cell 9
            have f9 := HX7.out.free 9
            have hwn : IntKind.i64.wrap ((nl : Int) - 1) = (nl : Int) - 1 := by rw [IntKind.wrap_i64]; omega
            by_cases hkn : k + 1 = nl
            · have hkb : ((k : Int) == (nl : Int) - 1) = true := by simp; omega
              have HKN := hid hkn
              clear hkn
              go_wp2_with fail
              go_roundw
              case rel =>
                refine ⟨k + 1, [], a', b', A1', A2', A3', A', n1', n2', n3', c1', c2', c3', cl', Al, ml, cl, by omega, rfl, by go_num, hid (by rw [HSS.out, if_neg HS2.out, if_pos (by rw [← HNL.out]; exact HKN.out)]), hid (by simpa [bst] using HX7.out.set 9 (.string ⟨#[]⟩)), hid ?_, hid (HZ7.out.far (p := ⟨w.heap.size, 9, none⟩) (by show w.heap.size + 1 ≠ w.heap.size; omega) _), hid (HR7.out.set (p := ⟨w.heap.size, 9, none⟩) (by show w.heap.size < w1.heap.size; have := HSZ1.out; omega) _), hid (HB7.out.setCell (p := ⟨w.heap.size, 9, none⟩) (Nat.le_refl _) _), hid (by simpa using HSW7.out)⟩
                refine (HW7.out.restream (st' := []) (Nat.zero_le _)).keep (by simp) (fun q hq => Below.heap_setCell _ _ _ _ ?_)
                show q ≠ w.heap.size
                rcases hq with hq | hq <;> omega
              case measure => simp [intOf]; omega
            · have hkb : ((k : Int) == (nl : Int) - 1) = false := by simp; omega
              have HKN := hid hkn
              clear hkn
              go_wp2_with fail
              go_roundw
              case rel => exact ⟨k + 1, st, a', b', A1', A2', A3', A', n1', n2', n3', c1', c2', c3', cl', Al, ml, cl, by omega, rfl, by go_num, hid (by rw [HSS.out, if_neg HS2.out, if_neg (by rw [← HNL.out]; exact HKN.out)]; exact HST.out), HX7, HW7, HZ7, HR7, HB7, HSW7⟩
              case measure => simp [intOf]; omega
          · have b1 : ¬ (x.count : Int) > 0 := by omega
            clear hss hsy hc0
            have HFR := hid (free8_any x.i HW5.out.bound HX64.out (by have := HSL.out k; have := HP.out; omega))
            rw [show Wl.place { l with stream := st } x.i = l.place x.i from rfl, show Wl.size { l with stream := st } = l.size from rfl] at HFR
            go_upto_region 10 with fail
            clear y1 y2
            have x0 := HX5.out.cell 0
            have xf0 := HX5.out.free 0
            have x1 := HX5.out.cell 1
            have xf1 := HX5.out.free 1
            have x2 := HX5.out.cell 2
            have xf2 := HX5.out.free 2
            have x3 := HX5.out.cell 3
            have xf3 := HX5.out.free 3
            have x4 := HX5.out.cell 4
            have xf4 := HX5.out.free 4
            have x5 := HX5.out.cell 5
            have xf5 := HX5.out.free 5
            have x6 := HX5.out.cell 6
            have xf6 := HX5.out.free 6
            have x7 := HX5.out.cell 7
            have xf7 := HX5.out.free 7
            have x8 := HX5.out.cell 8
            have xf8 := HX5.out.free 8
            have x9 := HX5.out.cell 9
            have xf9 := HX5.out.free 9
            have x10 := HX5.out.cell 10
            have xf10 := HX5.out.free 10
            have x11 := HX5.out.cell 11
            have xf11 := HX5.out.free 11
            go_wp2_with fail
            go_fit HFR.out
            rintro e w6 ⟨v6, rfl, hw6, hb6⟩
            obtain ⟨a', b', A1', A2', A3', A', n1', n2', n3', c1', c2', c3', cl', hv6, _⟩ := hw6.shape
            have hv7 : v6 = .agg #[.int .i64 a', .int .i64 b', .slice A1' n1' c1', .slice A2' n2' c2', .slice A3' n3' c3', .int .i64 (l.at_ : Int), .int .i64 (l.n : Int), .int .i64 (l.size : Int), .slice A' nl cl', .string (bst st), .int .u64 (l.last : Int), .int .u64 (l.synced : Int)] := by rw [hv6, HNL.out]
            clear hv6
            subst hv7
            have HW6 := hid hw6
            have HX6 := hid (HX5.out.below hb6 HX5.out.lt)
            have HB6 := hid hb6
            clear hw6 hb6 HFR x0 xf0 x1 xf1 x2 xf2 x3 xf3 x4 xf4 x5 xf5 x6 xf6 x7 xf7 x8 xf8 x9 xf9 x10 xf10 x11 xf11
            have x0 := HX6.out.cell 0
            have xf0 := HX6.out.free 0
            have x1 := HX6.out.cell 1
            have xf1 := HX6.out.free 1
            have x2 := HX6.out.cell 2
            have xf2 := HX6.out.free 2
            have x3 := HX6.out.cell 3
            have xf3 := HX6.out.free 3
            have x4 := HX6.out.cell 4
            have xf4 := HX6.out.free 4
            have x5 := HX6.out.cell 5
            have xf5 := HX6.out.free 5
            have x6 := HX6.out.cell 6
            have xf6 := HX6.out.free 6
            have x7 := HX6.out.cell 7
            have xf7 := HX6.out.free 7
            have x8 := HX6.out.cell 8
            have xf8 := HX6.out.free 8
            have x9 := HX6.out.cell 9
            have xf9 := HX6.out.free 9
            have x10 := HX6.out.cell 10
            have xf10 := HX6.out.free 10
            have x11 := HX6.out.cell 11
            have xf11 := HX6.out.free 11
            have HX7 := hid (show Blk ((((((((((((w6.setCell ⟨w.heap.size, 0, none⟩ (.int .i64 a')).setCell ⟨w.heap.size, 1, none⟩ (.int .i64 b')).setCell ⟨w.heap.size, 2, none⟩ (.slice A1' n1' c1')).setCell ⟨w.heap.size, 3, none⟩ (.slice A2' n2' c2')).setCell ⟨w.heap.size, 4, none⟩ (.slice A3' n3' c3')).setCell ⟨w.heap.size, 5, none⟩ (.int .i64 (l.at_ : Int))).setCell ⟨w.heap.size, 6, none⟩ (.int .i64 (l.n : Int))).setCell ⟨w.heap.size, 7, none⟩ (.int .i64 (l.size : Int))).setCell ⟨w.heap.size, 8, none⟩ (.slice A' nl cl')).setCell ⟨w.heap.size, 9, none⟩ (.string (bst st))).setCell ⟨w.heap.size, 10, none⟩ (.int .u64 (l.last : Int))).setCell ⟨w.heap.size, 11, none⟩ (.int .u64 (l.synced : Int))) w.heap.size 43 #[.int .i64 a', .int .i64 b', .slice A1' n1' c1', .slice A2' n2' c2', .slice A3' n3' c3', .int .i64 (l.at_ : Int), .int .i64 (l.n : Int), .int .i64 (l.size : Int), .slice A' nl cl', .string (bst st), .int .u64 (l.last : Int), .int .u64 (l.synced : Int)] from HX6.out.set12)
            have HO7 := hid (show Off2 w.heap.size w.heap.size w6 ((((((((((((w6.setCell ⟨w.heap.size, 0, none⟩ (.int .i64 a')).setCell ⟨w.heap.size, 1, none⟩ (.int .i64 b')).setCell ⟨w.heap.size, 2, none⟩ (.slice A1' n1' c1')).setCell ⟨w.heap.size, 3, none⟩ (.slice A2' n2' c2')).setCell ⟨w.heap.size, 4, none⟩ (.slice A3' n3' c3')).setCell ⟨w.heap.size, 5, none⟩ (.int .i64 (l.at_ : Int))).setCell ⟨w.heap.size, 6, none⟩ (.int .i64 (l.n : Int))).setCell ⟨w.heap.size, 7, none⟩ (.int .i64 (l.size : Int))).setCell ⟨w.heap.size, 8, none⟩ (.slice A' nl cl')).setCell ⟨w.heap.size, 9, none⟩ (.string (bst st))).setCell ⟨w.heap.size, 10, none⟩ (.int .u64 (l.last : Int))).setCell ⟨w.heap.size, 11, none⟩ (.int .u64 (l.synced : Int))) from (((((((((((((Off2.refl w6).setg 0 _).setg 1 _).setg 2 _).setg 3 _).setg 4 _).setg 5 _).setg 6 _).setg 7 _).setg 8 _).setg 9 _).setg 10 _).setg 11 _))
            have HWX := hid HW6.out.size
            go_upto_region 11 with fail
            generalize ((((((((((((w6.setCell ⟨w.heap.size, 0, none⟩ (.int .i64 a')).setCell ⟨w.heap.size, 1, none⟩ (.int .i64 b')).setCell ⟨w.heap.size, 2, none⟩ (.slice A1' n1' c1')).setCell ⟨w.heap.size, 3, none⟩ (.slice A2' n2' c2')).setCell ⟨w.heap.size, 4, none⟩ (.slice A3' n3' c3')).setCell ⟨w.heap.size, 5, none⟩ (.int .i64 (l.at_ : Int))).setCell ⟨w.heap.size, 6, none⟩ (.int .i64 (l.n : Int))).setCell ⟨w.heap.size, 7, none⟩ (.int .i64 (l.size : Int))).setCell ⟨w.heap.size, 8, none⟩ (.slice A' nl cl')).setCell ⟨w.heap.size, 9, none⟩ (.string (bst st))).setCell ⟨w.heap.size, 10, none⟩ (.int .u64 (l.last : Int))).setCell ⟨w.heap.size, 11, none⟩ (.int .u64 (l.synced : Int))) = w7 at *
            clear x0 xf0 x1 xf1 x2 xf2 x3 xf3 x4 xf4 x5 xf5 x6 xf6 x7 xf7 x8 xf8 x9 xf9 x10 xf10 x11 xf11 y0
            have HW7 := hid (show W8 (PPA P w Al ml cl) w7 (.agg #[.int .i64 a', .int .i64 b', .slice A1' n1' c1', .slice A2' n2' c2', .slice A3' n3' c3', .int .i64 (l.at_ : Int), .int .i64 (l.n : Int), .int .i64 (l.size : Int), .slice A' nl cl', .string (bst st), .int .u64 (l.last : Int), .int .u64 (l.synced : Int)]) (l.truncS seq s (k + 1)) { l with stream := st } from by
              rw [HTS.out, if_neg HS2.out]
              have hsz := HSZ1.out
              have hs5 := HSW5.out
              refine (HW6.out.keep (by rw [HO7.out.size]; exact Nat.le_refl _) (fun q hq => HO7.out.block q ?_ ?_)).weak (fun q hq => ?_)
              · rcases hq with ⟨(hq | hq), _⟩ | hq <;> omega
              · rcases hq with ⟨(hq | hq), _⟩ | hq <;> omega
              · rcases hq with ⟨hq, _⟩ | hq
                · exact hq
                · exact .inr ⟨by omega, fun e => by have := (HR5.out.2.lt q e).2; omega⟩)
            have hr6 := HR5.out.below HB6.out
            have HR7 := hid (show GRow eSg 84 w7 w1.heap.size Al ml cl ((l.live.take (k + 1)).filter (·.stays seq)) from by
              rw [HFT.out, if_neg HS2.out, List.append_nil]
              exact ⟨hr6.1, hr6.2.kept (row := some w.heap.size) ⟨HO7.out.os, HO7.out.tape, HO7.out.output, by rw [HO7.out.size]; exact Nat.le_refl _, fun q _ hne => HO7.out.block q (fun e => hne (by rw [e])) (fun e => hne (by rw [e]))⟩ (.inr fun e => by have := (hr6.2.lt _ e).1; have := HSZ1.out; omega)⟩)
            have HZ7 := hid (show Blk w7 (w.heap.size + 1) _ _ from (HO7.out.block _ (by omega) (by omega)).trans (HZ5.out.below HB6.out HZ5.out.lt))
            have HB7 := hid (HO7.out.below (HB5.out.trans (HB6.out.mono HB5.out.size)) (Nat.le_refl _) (Nat.le_refl _))
            have HSW7 := hid (show w1.heap.size ≤ w7.heap.size by rw [HO7.out.size]; exact Nat.le_trans HSW5.out HB6.out.size)
            clear hr6 HW6 HX6 HO7 HR5 HZ5 HB5 HX5 HB6 HFT HTS
            have x8 : w7.cell? ⟨w.heap.size, 8, none⟩ = some (.slice A' nl cl') := HX7.out.cell 8
            have x9 : w7.cell? ⟨w.heap.size, 9, none⟩ = some (.string (bst st)) := HX7.out.cell 9
            have f9 := HX7.out.free 9
            have hwn : IntKind.i64.wrap ((nl : Int) - 1) = (nl : Int) - 1 := by rw [IntKind.wrap_i64]; omega
            by_cases hkn : k + 1 = nl
            · have hkb : ((k : Int) == (nl : Int) - 1) = true := by simp; omega
              have HKN := hid hkn
              clear hkn
              go_wp2_with fail
              go_roundw
              case rel =>
                refine ⟨k + 1, [], a', b', A1', A2', A3', A', n1', n2', n3', c1', c2', c3', cl', Al, ml, cl, by omega, rfl, by go_num, hid (by rw [HSS.out, if_neg HS2.out, if_pos (by rw [← HNL.out]; exact HKN.out)]), hid (by simpa [bst] using HX7.out.set 9 (.string ⟨#[]⟩)), hid ?_, hid (HZ7.out.far (p := ⟨w.heap.size, 9, none⟩) (by show w.heap.size + 1 ≠ w.heap.size; omega) _), hid (HR7.out.set (p := ⟨w.heap.size, 9, none⟩) (by show w.heap.size < w1.heap.size; have := HSZ1.out; omega) _), hid (HB7.out.setCell (p := ⟨w.heap.size, 9, none⟩) (Nat.le_refl _) _), hid (by simpa using HSW7.out)⟩
                refine (HW7.out.restream (st' := []) (Nat.zero_le _)).keep (by simp) (fun q hq => Below.heap_setCell _ _ _ _ ?_)
                show q ≠ w.heap.size
                rcases hq with hq | hq <;> omega
              case measure => simp [intOf]; omega
            · have hkb : ((k : Int) == (nl : Int) - 1) = false := by simp; omega
              have HKN := hid hkn
              clear hkn
              go_wp2_with fail
              go_roundw
              case rel => exact ⟨k + 1, st, a', b', A1', A2', A3', A', n1', n2', n3', c1', c2', c3', cl', Al, ml, cl, by omega, rfl, by go_num, hid (by rw [HSS.out, if_neg HS2.out, if_neg (by rw [← HNL.out]; exact HKN.out)]; exact HST.out), HX7, HW7, HZ7, HR7, HB7, HSW7⟩
              case measure => simp [intOf]; omega
      · obtain rfl : k = nl := by omega
        have hlt' : ¬ (k : Int) < (k : Int) := by omega
        have hll : (l.live.take k).filter (·.stays seq) = l.live.filter (·.stays seq) := by rw [HNL.out, List.take_length]
        rw [hll] at HR
        have HML := hid (show ml = (l.live.filter (·.stays seq)).length from HR.out.1)
        have HTR := hid (show st = l.truncStream seq from by rw [HST.out]; exact if_pos HNL.out)
        have x8 : wr.cell? ⟨w.heap.size, 8, none⟩ = some (.slice A k c) := HX.out.cell 8
        have f8 := HX.out.free 8
        have HX8 := hid (show Blk (wr.setCell ⟨w.heap.size, 8, none⟩ (.slice Al ml cl)) w.heap.size 43 #[.int .i64 a, .int .i64 b, .slice A1 n1 c1, .slice A2 n2 c2, .slice A3 n3 c3, .int .i64 (l.at_ : Int), .int .i64 (l.n : Int), .int .i64 (l.size : Int), .slice Al ml cl, .string (bst st), .int .u64 (l.last : Int), .int .u64 (l.synced : Int)] from by simpa using HX.out.set 8 (.slice Al ml cl))
        have HZ8 := hid (HZ.out.far (p := ⟨w.heap.size, 8, none⟩) (by show w.heap.size + 1 ≠ w.heap.size; omega) (.slice Al ml cl))
        have HB8 := hid (HB.out.setCell (p := ⟨w.heap.size, 8, none⟩) (Nat.le_refl _) (.slice Al ml cl))
        have hr8 := HR.out.set (p := ⟨w.heap.size, 8, none⟩) (by show w.heap.size < w1.heap.size; have := HSZ1.out; omega) (.slice Al ml cl)
        have HW8 := hid (show W8 (fun k => (P k ∧ k < w.heap.size) ∨ w.heap.size + 2 ≤ k) (wr.setCell ⟨w.heap.size, 8, none⟩ (.slice Al ml cl)) (.agg #[.int .i64 a, .int .i64 b, .slice A1 n1 c1, .slice A2 n2 c2, .slice A3 n3 c3, .int .i64 (l.at_ : Int), .int .i64 (l.n : Int), .int .i64 (l.size : Int), .slice Al ml cl, .string (bst st), .int .u64 (l.last : Int), .int .u64 (l.synced : Int)]) (l.truncS seq s k) { l with live := l.live.filter (·.stays seq), stream := st } from by
          have hk9 := (HW.out.weak (P' := (fun k => (P k ∧ k < w.heap.size) ∨ w.heap.size + 2 ≤ k)) fun q hq => hq.imp id (·.1)).keep (w' := wr.setCell ⟨w.heap.size, 8, none⟩ (.slice Al ml cl)) (by simp) (fun q hq => Below.heap_setCell _ _ _ _ (by
            show q ≠ w.heap.size
            rcases hq with hq | hq <;> omega))
          have hm := HML.out
          have h9 := hk9.relive (A' := Al) (c' := cl) hr8.at_ (hr8.in_.weak fun q hq => .inr (by have := HSZ1.out; omega)) (by have := hr8.cap; omega) (Nat.le_trans (List.length_filter_le _ _) (by rw [← HNL.out]; exact hnl64))
          rw [← hm] at h9
          exact h9)
        clear HX HZ HB HW HR hr8 hll HSW
        go_upto_region 14 with fail
        generalize wr.setCell ⟨w.heap.size, 8, none⟩ (.slice Al ml cl) = w8 at *
        clear x8 f8
        have x0 := HX8.out.cell 0
        have xf0 := HX8.out.free 0
        have x1 := HX8.out.cell 1
        have xf1 := HX8.out.free 1
        have x2 := HX8.out.cell 2
        have xf2 := HX8.out.free 2
        have x3 := HX8.out.cell 3
        have xf3 := HX8.out.free 3
        have x4 := HX8.out.cell 4
        have xf4 := HX8.out.free 4
        have x5 := HX8.out.cell 5
        have xf5 := HX8.out.free 5
        have x6 := HX8.out.cell 6
        have xf6 := HX8.out.free 6
        have x7 := HX8.out.cell 7
        have xf7 := HX8.out.free 7
        have x8 := HX8.out.cell 8
        have xf8 := HX8.out.free 8
        have x9 := HX8.out.cell 9
        have xf9 := HX8.out.free 9
        have x10 := HX8.out.cell 10
        have xf10 := HX8.out.free 10
        have x11 := HX8.out.cell 11
        have xf11 := HX8.out.free 11
        have HSY := hid (sync8_any HW8.out)
        go_wp2_with fail
        go_fit HSY.out
        rintro e w6 ⟨v6, rfl, hw6, hb6⟩
        obtain ⟨a', b', A1', A2', A3', A', n1', n2', n3', c1', c2', c3', cl', hv6, _⟩ := hw6.shape
        have hv7 : v6 = .agg #[.int .i64 a', .int .i64 b', .slice A1' n1' c1', .slice A2' n2' c2', .slice A3' n3' c3', .int .i64 (l.at_ : Int), .int .i64 (l.n : Int), .int .i64 (l.size : Int), .slice A' ml cl', .string (bst st), .int .u64 (l.last : Int), .int .u64 (l.last : Int)] := by rw [hv6, HML.out]
        clear hv6
        subst hv7
        have HW6 := hid hw6
        have HZ6 := hid (HZ8.out.below hb6 HZ8.out.lt)
        have HB6 := hid (HB8.out.trans (hb6.mono HB8.out.size))
        clear hw6 hb6 x0 xf0 x1 xf1 x2 xf2 x3 xf3 x4 xf4 x5 xf5 x6 xf6 x7 xf7 x8 xf8 x9 xf9 x10 xf10 x11 xf11
        have z0 := HZ6.out.cell 0
        have zf0 := HZ6.out.free 0
        have z1 := HZ6.out.cell 1
        have zf1 := HZ6.out.free 1
        have z2 := HZ6.out.cell 2
        have zf2 := HZ6.out.free 2
        have z3 := HZ6.out.cell 3
        have zf3 := HZ6.out.free 3
        have z4 := HZ6.out.cell 4
        have zf4 := HZ6.out.free 4
        have z5 := HZ6.out.cell 5
        have zf5 := HZ6.out.free 5
        have z6 := HZ6.out.cell 6
        have zf6 := HZ6.out.free 6
        have z7 := HZ6.out.cell 7
        have zf7 := HZ6.out.free 7
        have z8 := HZ6.out.cell 8
        have zf8 := HZ6.out.free 8
        have z9 := HZ6.out.cell 9
        have zf9 := HZ6.out.free 9
        have z10 := HZ6.out.cell 10
        have zf10 := HZ6.out.free 10
        have z11 := HZ6.out.cell 11
        have zf11 := HZ6.out.free 11
        go_wp2_with fail
        refine bodyPost_ret (v := .tuple #[.agg #[.int .i64 a', .int .i64 b', .slice A1' n1' c1', .slice A2' n2' c2', .slice A3' n3' c3', .int .i64 (l.at_ : Int), .int .i64 (l.n : Int), .int .i64 (l.size : Int), .slice A' ml cl', .string (bst st), .int .u64 (l.last : Int), .int .u64 (l.last : Int)], .int .i64 0]) (by simp [results, Tryz.results13, go_sem, *]) rfl ⟨_, rfl, ?_⟩
        have key : ∀ wf, Off2 (w.heap.size + 1) (w.heap.size + 1) w6 wf → W8 (fun k => P k ∨ w.heap.size ≤ k) wf (.agg #[.int .i64 a', .int .i64 b', .slice A1' n1' c1', .slice A2' n2' c2', .slice A3' n3' c3', .int .i64 (l.at_ : Int), .int .i64 (l.n : Int), .int .i64 (l.size : Int), .slice A' ml cl', .string (bst st), .int .u64 (l.last : Int), .int .u64 (l.last : Int)]) (l.truncS seq s k).sync { l with live := l.live.filter (·.stays seq), stream := l.truncStream seq, synced := l.last } ∧ Below w.heap.size w wf := by
          intro wf ho
          rw [← HTR.out]
          refine ⟨(HW6.out.keep (by rw [ho.size]; exact Nat.le_refl _) (fun q hq => ho.block q ?_ ?_)).weak (fun q hq => ?_), ho.below HB6.out (Nat.le_succ _) (Nat.le_succ _)⟩
          · rcases hq with hq | hq <;> omega
          · rcases hq with hq | hq <;> omega
          · rcases hq with hq | hq
            · exact .inl hq.1
            · exact .inr (by omega)
        exact key _ (((((((((((((Off2.refl w6).setg 0 _).setg 1 _).setg 2 _).setg 3 _).setg 4 _).setg 5 _).setg 6 _).setg 7 _).setg 8 _).setg 9 _).setg 10 _).setg 11 _)

end Go.Proofs.YtobmdmbjmjdfjaaGreatDoor
