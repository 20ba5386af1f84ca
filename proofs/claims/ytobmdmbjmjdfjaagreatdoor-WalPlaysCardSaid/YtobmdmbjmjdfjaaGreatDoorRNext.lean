/-
  record.log's next: the record that stands first, if it is there and has the number.
-/
import Derived.Test.YtobmdmbjmjdfjaaGreatDoorJRecF
import Derived.Test.YtobmdmbjmjdfjaaGreatDoorJBytes
import Derived.BigQuiet
namespace Go.Proofs.YtobmdmbjmjdfjaaGreatDoor
open Go Go.RowKit

structure Lg (w : World) (r : Nat) (A : Option Addr) (c B : Nat) (l : List UInt8) (k q : Nat) : Prop where
  blk : Blk w r 180 #[.slice A l.length c, .int .i64 (k : Int), .int .u64 (q : Int)]
  at_ : At w B A l
  hB : B ≤ r
  hc : l.length ≤ c
  hl : l.length ≤ 5000
  hk : k ≤ l.length
  hq : q < 18446744073709551616
theorem Lg.lt' {w : World} {r c B k q : Nat} {A : Option Addr} {l : List UInt8} (h : Lg w r A c B l k q) : r < w.heap.size := h.blk.lt
theorem Lg.below {w w' : World} {r c B k q b : Nat} {A : Option Addr} {l : List UInt8} (h : Lg w r A c B l k q) (hb : Below b w w') (hr : r < b) : Lg w' r A c B l k q :=
  ⟨h.blk.below hb hr, h.at_.below (hb.mono (by have := h.hB; omega)), h.hB, h.hc, h.hl, h.hk, h.hq⟩
theorem Lg.to {w w' : World} {r c B k q k' q' : Nat} {A : Option Addr} {l : List UInt8} (h : Lg w r A c B l k q) (hb : Blk w' r 180 #[.slice A l.length c, .int .i64 (k' : Int), .int .u64 (q' : Int)]) (ho : Only r w w') (hk : k' ≤ l.length) (hq : q' < 18446744073709551616) : Lg w' r A c B l k' q' :=
  ⟨hb, h.at_.only ho h.hB (by have := h.lt'; have := h.hB; omega), h.hB, h.hc, h.hl, hk, hq⟩

theorem one_blk2 {w w' : World} (h : Below (w.alloc (.cells #[.int .u64 0, .string ⟨#[]⟩] 70)).heap.size (w.alloc (.cells #[.int .u64 0, .string ⟨#[]⟩] 70)) w') : Blk w' w.heap.size 70 #[.int .u64 0, .string ⟨#[]⟩] :=
  (Blk.new w 70 #[.int .u64 0, .string ⟨#[]⟩]).below h (by simp)

def GetsAt (w : World) (A : Option Addr) (m c : Nat) (p : Int) (s : ByteArray) (j : Nat) (ok : Bool) : Prop :=
  ∀ W, Below w.heap.size w W → Calls Tryz.prog 74 #[.slice A m c] W fun e w' => e = .returned (.tuple #[.agg #[.int .u64 p, .string s], .int .i64 (j : Int), .bool ok]) ∧ Below W.heap.size W w'

set_option maxHeartbeats 8000000 in
set_option maxRecDepth 100000 in
theorem next_none {w : World} {r c B k q j : Nat} {A A2 : Option Addr} {l : List UInt8} {p : Int} {s : ByteArray} (hL : Lg w r A c B l k q)
    (hsl : ∀ (k' : IntKind) (W : World), (Instr.slice 74 (.slice A l.length c) (some (.int k' (k : Int))) none none).run Tryz.prog W = .ok (.slice A2 (l.length - k) (c - k)) W)
    (hG : GetsAt w A2 (l.length - k) (c - k) p s j false) :
    Calls Tryz.prog 101 #[.pointer (some ⟨r, 0, none⟩)] w fun e w' => e = .returned (.tuple #[.agg #[.int .u64 0, .string ⟨#[]⟩], .bool false]) ∧ Below w.heap.size w w' := by
  have hb1 : Below w.heap.size w (w.alloc (.cells #[.int .u64 0, .string ⟨#[]⟩] 70)) := (Below.refl _ _).alloc (Nat.le_refl _) _
  have HB1 := hid hb1
  have HLQ := hid (hL.below hb1 hL.lt')
  have HRQ := hid (Blk.new w 70 #[.int .u64 0, .string ⟨#[]⟩])
  have HG0 := hid hG
  have HR := hid hL.lt'
  clear hb1 hL hG
  go_enter Tryz.func101, Tryz.ntmps101
  go_wp2_with fail
  generalize w.alloc (.cells #[.int .u64 0, .string ⟨#[]⟩] 70) = wq at *
  have HG := hid (show ∀ W, Below wq.heap.size wq W → _ from fun W hW => HG0.out W (below_step HB1.out hW))
  obtain ⟨l0', l1', l2', _, _, _⟩ := three HLQ.out.blk
  have q0 : ∀ W, Beyond wq W → W.cell? ⟨r, 0, none⟩ = some (.slice A l.length c) := fun W h => (Below.cell (p := ⟨r, 0, none⟩) h HLQ.out.lt').trans l0'
  have q1 : ∀ W, Beyond wq W → W.cell? ⟨r, 1, none⟩ = some (.int .i64 (k : Int)) := fun W h => (Below.cell (p := ⟨r, 1, none⟩) h HLQ.out.lt').trans l1'
  clear l0' l1' l2'
  refine wp_region_held_drew (S := Beyond wq) (by kernel_rfl) (Beyond.drew _) (fun hS => ?_)
  refine stT 0 hS ?_; (try simp only [putr]); refine stT 1 hS ?_; (try simp only [putr]); refine stT 2 hS ?_; (try simp only [putr]); refine stT 3 hS ?_; (try simp only [putr]); refine stT 4 hS ?_; (try simp only [putr]); refine stT 5 hS ?_; (try simp only [putr]); refine stT 6 hS ?_; (try simp only [putr]); refine stT 7 hS ?_; (try simp only [putr]); refine stT 8 hS ?_; (try simp only [putr]); refine rdH [9, 14] ?_; refine rcH (fun K hK => ?_) ?_
  · go_simp
    go_fit (HG.out _ hS)
    rintro e w2 ⟨rfl, hb2⟩
    have hS9 := below_step hS hb2
    refine hK.out _ _ (by assumption) (fun _ => ?_); clear hK K hS; have hS := hS9; (try simp only [putr]); refine stT 10 hS ?_; (try simp only [putr]); refine stT 11 hS ?_; (try simp only [putr]); refine stT 12 hS ?_; (try simp only [putr]); refine stT 13 hS ?_; (try simp only [putr]); refine rdH [14] ?_; refine rcH (fun K hK => ?_) AllReadyH.nil; go_simp
    refine hK.out _ _ (Below.alloc hS (Below.size hS) _) (fun hS14 => ?_)
    clear hK K hS; have hS := hS14; (try simp only [putr]); refine rdH [15] ?_; refine rcH (fun K hK => ?_) AllReadyH.nil; go_simp
    refine hK.out _ _ (Below.alloc hS9 hS9.size _) (fun hS15 => ?_)
    have hX : Blk (w2.alloc (.cells #[.int .u64 p, .string s] 70)) w2.heap.size 70 #[.int .u64 p, .string s] := Blk.new _ _ _
    have hO : Below wq.heap.size wq (w2.alloc (.cells #[.int .u64 p, .string s] 70)) := Below.alloc hS9 hS9.size _
    generalize w2.alloc (.cells #[.int .u64 p, .string s] 70) = We at hX hO ⊢
    obtain ⟨g, hge⟩ : ∃ g, g = w2.heap.size := ⟨_, rfl⟩
    rw [← hge] at hX ⊢
    have hgq : wq.heap.size ≤ g := by rw [hge]; first | exact Nat.le_refl _ | exact hb2.size | exact hS9.size
    clear hge
    have hS15 := hO
    clear hK K hS; have hS := hS15; (try simp only [Act.put]); refine stT 16 hS ?_; (try simp only [putr]); refine stT 17 hS ?_; (try simp only [putr]); refine wpAnyH_done (by kernel_rfl) ?_ _
    have HLE := hid (HLQ.out.below hO HLQ.out.lt')
    have HXE := hid hX
    have HOE := hid hO
    have HRE := hid (HRQ.out.below hO HRQ.out.lt)
    clear hO hX hS15 hS9 hS hb2
    obtain ⟨l0, l1, l2, f0, f1, f2⟩ := three HLE.out.blk
    obtain ⟨x0, x1, _, _⟩ := twoc HXE.out
    obtain ⟨r0, r1, fr0, fr1⟩ := twoc HRE.out
    go_wp2_with fail
    go_quiet (fail)
    go_wp2_with fail
    refine bodyPost_ret (v := .tuple #[.agg #[.int .u64 0, .string ⟨#[]⟩], .bool false]) (by simp [results, Tryz.results101, go_sem, *]) rfl ⟨rfl, ?_⟩
    have hw1 := HB1.out.size
    refine ((Below.trans HB1.out (HOE.out.mono hw1)).trans (below_drewN (Below.refl _ _) _)).setCell (p := ⟨w.heap.size, 0, none⟩) (Nat.le_refl _) _ |>.setCell (p := ⟨w.heap.size, 1, none⟩) (Nat.le_refl _) _
  refine rcH (fun K hK => ?_) AllReadyH.nil
  · go_simp
    refine hK.out _ _ (Below.alloc hS (Below.size hS) _) (fun hS14 => ?_)
    clear hK K hS; have hS := hS14; (try simp only [putr]); refine rdH [9] ?_; refine rcH (fun K hK => ?_) AllReadyH.nil; go_simp
    go_fit (HG.out _ hS)
    rintro e w2 ⟨rfl, hb2⟩
    have hS9 := below_step hS hb2
    have b12 : Blk w2 wq.heap.size 70 #[.int .u64 0, .string ⟨#[]⟩] := one_blk2 (w := wq.drew) hb2
    obtain ⟨x0, x1, g0, g1⟩ := twoc b12
    refine hK.out _ _ (by assumption) (fun _ => ?_); clear hK K hS; have hS := hS9; (try simp only [putr]); refine stT 10 hS ?_; (try simp only [putr]); refine stT 11 hS ?_; (try simp only [putr]); refine stT 12 hS ?_; (try simp only [putr]); refine stT 13 hS ?_; (try simp only [putr]); refine rdH [15] ?_; refine rcH (fun K hK => ?_) AllReadyH.nil; go_simp
    refine hK.out _ _ ((hS9.setCell (p := ⟨wq.heap.size, 0, none⟩) (Nat.le_refl _) _).setCell (p := ⟨wq.heap.size, 1, none⟩) (Nat.le_refl _) _) (fun hS15 => ?_)
    have hX : Blk ((w2.setCell ⟨wq.heap.size, 0, none⟩ (.int .u64 p)).setCell ⟨wq.heap.size, 1, none⟩ (.string s)) wq.heap.size 70 #[.int .u64 p, .string s] := (b12.set 0 _).set 1 _
    have hO : Below wq.heap.size wq ((w2.setCell ⟨wq.heap.size, 0, none⟩ (.int .u64 p)).setCell ⟨wq.heap.size, 1, none⟩ (.string s)) := (hS9.setCell (p := ⟨wq.heap.size, 0, none⟩) (Nat.le_refl _) _).setCell (p := ⟨wq.heap.size, 1, none⟩) (Nat.le_refl _) _
    generalize (w2.setCell ⟨wq.heap.size, 0, none⟩ (.int .u64 p)).setCell ⟨wq.heap.size, 1, none⟩ (.string s) = We at hX hO ⊢
    obtain ⟨g, hge⟩ : ∃ g, g = wq.heap.size := ⟨_, rfl⟩
    rw [← hge] at hX ⊢
    have hgq : wq.heap.size ≤ g := by rw [hge]; first | exact Nat.le_refl _ | exact hb2.size | exact hS9.size
    clear hge
    have hS15 := hO
    clear hK K hS; have hS := hS15; (try simp only [Act.put]); refine stT 16 hS ?_; (try simp only [putr]); refine stT 17 hS ?_; (try simp only [putr]); refine wpAnyH_done (by kernel_rfl) ?_ _
    have HLE := hid (HLQ.out.below hO HLQ.out.lt')
    have HXE := hid hX
    have HOE := hid hO
    have HRE := hid (HRQ.out.below hO HRQ.out.lt)
    clear hO hX hS15 hS9 hS hb2
    obtain ⟨l0, l1, l2, f0, f1, f2⟩ := three HLE.out.blk
    obtain ⟨x0, x1, _, _⟩ := twoc HXE.out
    obtain ⟨r0, r1, fr0, fr1⟩ := twoc HRE.out
    go_wp2_with fail
    go_quiet (fail)
    go_wp2_with fail
    refine bodyPost_ret (v := .tuple #[.agg #[.int .u64 0, .string ⟨#[]⟩], .bool false]) (by simp [results, Tryz.results101, go_sem, *]) rfl ⟨rfl, ?_⟩
    have hw1 := HB1.out.size
    refine ((Below.trans HB1.out (HOE.out.mono hw1)).trans (below_drewN (Below.refl _ _) _)).setCell (p := ⟨w.heap.size, 0, none⟩) (Nat.le_refl _) _ |>.setCell (p := ⟨w.heap.size, 1, none⟩) (Nat.le_refl _) _

set_option maxHeartbeats 8000000 in
set_option maxRecDepth 100000 in
theorem next_other {w : World} {r c B k q j : Nat} {A A2 : Option Addr} {l : List UInt8} {p : Int} {s : ByteArray} (hL : Lg w r A c B l k q)
    (hsl : ∀ (k' : IntKind) (W : World), (Instr.slice 74 (.slice A l.length c) (some (.int k' (k : Int))) none none).run Tryz.prog W = .ok (.slice A2 (l.length - k) (c - k)) W)
    (hG : GetsAt w A2 (l.length - k) (c - k) p s j true) (hne : (p != (q : Int)) = true) :
    Calls Tryz.prog 101 #[.pointer (some ⟨r, 0, none⟩)] w fun e w' => e = .returned (.tuple #[.agg #[.int .u64 0, .string ⟨#[]⟩], .bool false]) ∧ Below w.heap.size w w' := by
  have hb1 : Below w.heap.size w (w.alloc (.cells #[.int .u64 0, .string ⟨#[]⟩] 70)) := (Below.refl _ _).alloc (Nat.le_refl _) _
  have HB1 := hid hb1
  have HLQ := hid (hL.below hb1 hL.lt')
  have HRQ := hid (Blk.new w 70 #[.int .u64 0, .string ⟨#[]⟩])
  have HG0 := hid hG
  have HR := hid hL.lt'
  clear hb1 hL hG
  go_enter Tryz.func101, Tryz.ntmps101
  go_wp2_with fail
  generalize w.alloc (.cells #[.int .u64 0, .string ⟨#[]⟩] 70) = wq at *
  have HG := hid (show ∀ W, Below wq.heap.size wq W → _ from fun W hW => HG0.out W (below_step HB1.out hW))
  obtain ⟨l0', l1', l2', _, _, _⟩ := three HLQ.out.blk
  have q0 : ∀ W, Beyond wq W → W.cell? ⟨r, 0, none⟩ = some (.slice A l.length c) := fun W h => (Below.cell (p := ⟨r, 0, none⟩) h HLQ.out.lt').trans l0'
  have q1 : ∀ W, Beyond wq W → W.cell? ⟨r, 1, none⟩ = some (.int .i64 (k : Int)) := fun W h => (Below.cell (p := ⟨r, 1, none⟩) h HLQ.out.lt').trans l1'
  clear l0' l1' l2'
  refine wp_region_held_drew (S := Beyond wq) (by kernel_rfl) (Beyond.drew _) (fun hS => ?_)
  refine stT 0 hS ?_; (try simp only [putr]); refine stT 1 hS ?_; (try simp only [putr]); refine stT 2 hS ?_; (try simp only [putr]); refine stT 3 hS ?_; (try simp only [putr]); refine stT 4 hS ?_; (try simp only [putr]); refine stT 5 hS ?_; (try simp only [putr]); refine stT 6 hS ?_; (try simp only [putr]); refine stT 7 hS ?_; (try simp only [putr]); refine stT 8 hS ?_; (try simp only [putr]); refine rdH [9, 14] ?_; refine rcH (fun K hK => ?_) ?_
  · go_simp
    go_fit (HG.out _ hS)
    rintro e w2 ⟨rfl, hb2⟩
    have hS9 := below_step hS hb2
    refine hK.out _ _ (by assumption) (fun _ => ?_); clear hK K hS; have hS := hS9; (try simp only [putr]); refine stT 10 hS ?_; (try simp only [putr]); refine stT 11 hS ?_; (try simp only [putr]); refine stT 12 hS ?_; (try simp only [putr]); refine stT 13 hS ?_; (try simp only [putr]); refine rdH [14] ?_; refine rcH (fun K hK => ?_) AllReadyH.nil; go_simp
    refine hK.out _ _ (Below.alloc hS (Below.size hS) _) (fun hS14 => ?_)
    clear hK K hS; have hS := hS14; (try simp only [putr]); refine rdH [15] ?_; refine rcH (fun K hK => ?_) AllReadyH.nil; go_simp
    refine hK.out _ _ (Below.alloc hS9 hS9.size _) (fun hS15 => ?_)
    have hX : Blk (w2.alloc (.cells #[.int .u64 p, .string s] 70)) w2.heap.size 70 #[.int .u64 p, .string s] := Blk.new _ _ _
    have hO : Below wq.heap.size wq (w2.alloc (.cells #[.int .u64 p, .string s] 70)) := Below.alloc hS9 hS9.size _
    generalize w2.alloc (.cells #[.int .u64 p, .string s] 70) = We at hX hO ⊢
    obtain ⟨g, hge⟩ : ∃ g, g = w2.heap.size := ⟨_, rfl⟩
    rw [← hge] at hX ⊢
    have hgq : wq.heap.size ≤ g := by rw [hge]; first | exact Nat.le_refl _ | exact hb2.size | exact hS9.size
    clear hge
    have hS15 := hO
    clear hK K hS; have hS := hS15; (try simp only [Act.put]); refine stT 16 hS ?_; (try simp only [putr]); refine stT 17 hS ?_; (try simp only [putr]); refine wpAnyH_done (by kernel_rfl) ?_ _
    have HLE := hid (HLQ.out.below hO HLQ.out.lt')
    have HXE := hid hX
    have HOE := hid hO
    have HRE := hid (HRQ.out.below hO HRQ.out.lt)
    clear hO hX hS15 hS9 hS hb2
    obtain ⟨l0, l1, l2, f0, f1, f2⟩ := three HLE.out.blk
    obtain ⟨x0, x1, _, _⟩ := twoc HXE.out
    obtain ⟨r0, r1, fr0, fr1⟩ := twoc HRE.out
    go_wp2_with fail
    go_quiet (fail)
    go_wp2_with fail
    refine bodyPost_ret (v := .tuple #[.agg #[.int .u64 0, .string ⟨#[]⟩], .bool false]) (by simp [results, Tryz.results101, go_sem, *]) rfl ⟨rfl, ?_⟩
    have hw1 := HB1.out.size
    refine ((Below.trans HB1.out (HOE.out.mono hw1)).trans (below_drewN (Below.refl _ _) _)).setCell (p := ⟨w.heap.size, 0, none⟩) (Nat.le_refl _) _ |>.setCell (p := ⟨w.heap.size, 1, none⟩) (Nat.le_refl _) _
  refine rcH (fun K hK => ?_) AllReadyH.nil
  · go_simp
    refine hK.out _ _ (Below.alloc hS (Below.size hS) _) (fun hS14 => ?_)
    clear hK K hS; have hS := hS14; (try simp only [putr]); refine rdH [9] ?_; refine rcH (fun K hK => ?_) AllReadyH.nil; go_simp
    go_fit (HG.out _ hS)
    rintro e w2 ⟨rfl, hb2⟩
    have hS9 := below_step hS hb2
    have b12 : Blk w2 wq.heap.size 70 #[.int .u64 0, .string ⟨#[]⟩] := one_blk2 (w := wq.drew) hb2
    obtain ⟨x0, x1, g0, g1⟩ := twoc b12
    refine hK.out _ _ (by assumption) (fun _ => ?_); clear hK K hS; have hS := hS9; (try simp only [putr]); refine stT 10 hS ?_; (try simp only [putr]); refine stT 11 hS ?_; (try simp only [putr]); refine stT 12 hS ?_; (try simp only [putr]); refine stT 13 hS ?_; (try simp only [putr]); refine rdH [15] ?_; refine rcH (fun K hK => ?_) AllReadyH.nil; go_simp
    refine hK.out _ _ ((hS9.setCell (p := ⟨wq.heap.size, 0, none⟩) (Nat.le_refl _) _).setCell (p := ⟨wq.heap.size, 1, none⟩) (Nat.le_refl _) _) (fun hS15 => ?_)
    have hX : Blk ((w2.setCell ⟨wq.heap.size, 0, none⟩ (.int .u64 p)).setCell ⟨wq.heap.size, 1, none⟩ (.string s)) wq.heap.size 70 #[.int .u64 p, .string s] := (b12.set 0 _).set 1 _
    have hO : Below wq.heap.size wq ((w2.setCell ⟨wq.heap.size, 0, none⟩ (.int .u64 p)).setCell ⟨wq.heap.size, 1, none⟩ (.string s)) := (hS9.setCell (p := ⟨wq.heap.size, 0, none⟩) (Nat.le_refl _) _).setCell (p := ⟨wq.heap.size, 1, none⟩) (Nat.le_refl _) _
    generalize (w2.setCell ⟨wq.heap.size, 0, none⟩ (.int .u64 p)).setCell ⟨wq.heap.size, 1, none⟩ (.string s) = We at hX hO ⊢
    obtain ⟨g, hge⟩ : ∃ g, g = wq.heap.size := ⟨_, rfl⟩
    rw [← hge] at hX ⊢
    have hgq : wq.heap.size ≤ g := by rw [hge]; first | exact Nat.le_refl _ | exact hb2.size | exact hS9.size
    clear hge
    have hS15 := hO
    clear hK K hS; have hS := hS15; (try simp only [Act.put]); refine stT 16 hS ?_; (try simp only [putr]); refine stT 17 hS ?_; (try simp only [putr]); refine wpAnyH_done (by kernel_rfl) ?_ _
    have HLE := hid (HLQ.out.below hO HLQ.out.lt')
    have HXE := hid hX
    have HOE := hid hO
    have HRE := hid (HRQ.out.below hO HRQ.out.lt)
    clear hO hX hS15 hS9 hS hb2
    obtain ⟨l0, l1, l2, f0, f1, f2⟩ := three HLE.out.blk
    obtain ⟨x0, x1, _, _⟩ := twoc HXE.out
    obtain ⟨r0, r1, fr0, fr1⟩ := twoc HRE.out
    go_wp2_with fail
    go_quiet (fail)
    go_wp2_with fail
    refine bodyPost_ret (v := .tuple #[.agg #[.int .u64 0, .string ⟨#[]⟩], .bool false]) (by simp [results, Tryz.results101, go_sem, *]) rfl ⟨rfl, ?_⟩
    have hw1 := HB1.out.size
    refine ((Below.trans HB1.out (HOE.out.mono hw1)).trans (below_drewN (Below.refl _ _) _)).setCell (p := ⟨w.heap.size, 0, none⟩) (Nat.le_refl _) _ |>.setCell (p := ⟨w.heap.size, 1, none⟩) (Nat.le_refl _) _

set_option maxHeartbeats 8000000 in
set_option maxRecDepth 100000 in
theorem next_some {w : World} {r c B k q j : Nat} {A A2 : Option Addr} {l : List UInt8} {s : ByteArray} (hL : Lg w r A c B l k q)
    (hsl : ∀ (k' : IntKind) (W : World), (Instr.slice 74 (.slice A l.length c) (some (.int k' (k : Int))) none none).run Tryz.prog W = .ok (.slice A2 (l.length - k) (c - k)) W)
    (hG : GetsAt w A2 (l.length - k) (c - k) (q : Int) s j true) (hj : k + j ≤ l.length) :
    Calls Tryz.prog 101 #[.pointer (some ⟨r, 0, none⟩)] w fun e w' => e = .returned (.tuple #[.agg #[.int .u64 (q : Int), .string s], .bool true]) ∧ Lg w' r A c B l (k + j) (next64 q) ∧ Only r w w' := by
  have hb1 : Below w.heap.size w (w.alloc (.cells #[.int .u64 0, .string ⟨#[]⟩] 70)) := (Below.refl _ _).alloc (Nat.le_refl _) _
  have HB1 := hid hb1
  have HLQ := hid (hL.below hb1 hL.lt')
  have HRQ := hid (Blk.new w 70 #[.int .u64 0, .string ⟨#[]⟩])
  have HG0 := hid hG
  have HR := hid hL.lt'
  have HL0 := hid hL
  clear hb1 hL hG
  have hl5 := HLQ.out.hl
  have hkj : IntKind.i64.wrap ((k : Int) + (j : Int)) = ((k + j : Nat) : Int) := by rw [IntKind.wrap_i64]; omega
  have hq64 : IntKind.u64.wrap ((q : Int) + 1) = ((next64 q : Nat) : Int) := by rw [IntKind.wrap_u64]; unfold next64; have := HLQ.out.hq; omega
  have HNX := hid (next64_lt q)
  go_enter Tryz.func101, Tryz.ntmps101
  go_wp2_with fail
  generalize w.alloc (.cells #[.int .u64 0, .string ⟨#[]⟩] 70) = wq at *
  have HG := hid (show ∀ W, Below wq.heap.size wq W → _ from fun W hW => HG0.out W (below_step HB1.out hW))
  obtain ⟨l0', l1', l2', _, _, _⟩ := three HLQ.out.blk
  have q0 : ∀ W, Beyond wq W → W.cell? ⟨r, 0, none⟩ = some (.slice A l.length c) := fun W h => (Below.cell (p := ⟨r, 0, none⟩) h HLQ.out.lt').trans l0'
  have q1 : ∀ W, Beyond wq W → W.cell? ⟨r, 1, none⟩ = some (.int .i64 (k : Int)) := fun W h => (Below.cell (p := ⟨r, 1, none⟩) h HLQ.out.lt').trans l1'
  clear l0' l1' l2'
  refine wp_region_held_drew (S := Beyond wq) (by kernel_rfl) (Beyond.drew _) (fun hS => ?_)
  refine stT 0 hS ?_; (try simp only [putr]); refine stT 1 hS ?_; (try simp only [putr]); refine stT 2 hS ?_; (try simp only [putr]); refine stT 3 hS ?_; (try simp only [putr]); refine stT 4 hS ?_; (try simp only [putr]); refine stT 5 hS ?_; (try simp only [putr]); refine stT 6 hS ?_; (try simp only [putr]); refine stT 7 hS ?_; (try simp only [putr]); refine stT 8 hS ?_; (try simp only [putr]); refine rdH [9, 14] ?_; refine rcH (fun K hK => ?_) ?_
  · go_simp
    go_fit (HG.out _ hS)
    rintro e w2 ⟨rfl, hb2⟩
    have hS9 := below_step hS hb2
    refine hK.out _ _ (by assumption) (fun _ => ?_); clear hK K hS; have hS := hS9; (try simp only [putr]); refine stT 10 hS ?_; (try simp only [putr]); refine stT 11 hS ?_; (try simp only [putr]); refine stT 12 hS ?_; (try simp only [putr]); refine stT 13 hS ?_; (try simp only [putr]); refine rdH [14] ?_; refine rcH (fun K hK => ?_) AllReadyH.nil; go_simp
    refine hK.out _ _ (Below.alloc hS (Below.size hS) _) (fun hS14 => ?_)
    clear hK K hS; have hS := hS14; (try simp only [putr]); refine rdH [15] ?_; refine rcH (fun K hK => ?_) AllReadyH.nil; go_simp
    refine hK.out _ _ (Below.alloc hS9 hS9.size _) (fun hS15 => ?_)
    have hX : Blk (w2.alloc (.cells #[.int .u64 (q : Int), .string s] 70)) w2.heap.size 70 #[.int .u64 (q : Int), .string s] := Blk.new _ _ _
    have hO : Below wq.heap.size wq (w2.alloc (.cells #[.int .u64 (q : Int), .string s] 70)) := Below.alloc hS9 hS9.size _
    generalize w2.alloc (.cells #[.int .u64 (q : Int), .string s] 70) = We at hX hO ⊢
    obtain ⟨g, hge⟩ : ∃ g, g = w2.heap.size := ⟨_, rfl⟩
    rw [← hge] at hX ⊢
    have hgq : wq.heap.size ≤ g := by rw [hge]; first | exact Nat.le_refl _ | exact hb2.size | exact hS9.size
    clear hge
    have hS15 := hO
    clear hK K hS; have hS := hS15; (try simp only [Act.put]); refine stT 16 hS ?_; (try simp only [putr]); refine stT 17 hS ?_; (try simp only [putr]); refine wpAnyH_done (by kernel_rfl) ?_ _
    have hgr : g ≠ r := by have := HLQ.out.lt'; omega
    have hrw : r ≠ w.heap.size := by have := HR.out; omega
    have hgw : g ≠ w.heap.size := by have := HRQ.out.lt; omega
    have HLE := hid (HLQ.out.below hO HLQ.out.lt')
    have HXE := hid hX
    have HOE := hid hO
    have HRE := hid (HRQ.out.below hO HRQ.out.lt)
    clear hO hX hS15 hS9 hS hb2
    obtain ⟨l0, l1, l2, f0, f1, f2⟩ := three HLE.out.blk
    obtain ⟨x0, x1, _, _⟩ := twoc HXE.out
    obtain ⟨r0, r1, fr0, fr1⟩ := twoc HRE.out
    go_wp2_with fail
    go_quiet (fail)
    go_wp2_with fail
    refine bodyPost_ret (v := .tuple #[.agg #[.int .u64 (q : Int), .string s], .bool true]) (by simp [results, Tryz.results101, go_sem, *]) rfl ⟨rfl, ?_⟩
    have hw1 := HB1.out.size
    have HON := hid (show Only r w (We.drewN nq) from (Only.of_below (Below.trans HB1.out (HOE.out.mono hw1))).drewN _)
    have HLN := hid (show Blk (We.drewN nq) r 180 #[.slice A l.length c, .int .i64 (k : Int), .int .u64 (q : Int)] from HLE.out.blk)
    have hw2 := HRE.out.lt
    have ho := (((HON.out.set (i := 1) (.int .i64 ((k : Int) + (j : Int)))).set (i := 2) (.int .u64 ((next64 q : Nat) : Int))).new (p := ⟨w.heap.size, 0, none⟩) (Nat.le_refl _) (.int .u64 (q : Int))).new (p := ⟨w.heap.size, 1, none⟩) (Nat.le_refl _) (.string s)
    exact ⟨HL0.out.to ((((HLN.out.set 1 (.int .i64 ((k : Int) + (j : Int)))).set 2 (.int .u64 ((next64 q : Nat) : Int))).far hrw _).far hrw _) ho hj HNX.out, ho⟩
  refine rcH (fun K hK => ?_) AllReadyH.nil
  · go_simp
    refine hK.out _ _ (Below.alloc hS (Below.size hS) _) (fun hS14 => ?_)
    clear hK K hS; have hS := hS14; (try simp only [putr]); refine rdH [9] ?_; refine rcH (fun K hK => ?_) AllReadyH.nil; go_simp
    go_fit (HG.out _ hS)
    rintro e w2 ⟨rfl, hb2⟩
    have hS9 := below_step hS hb2
    have b12 : Blk w2 wq.heap.size 70 #[.int .u64 0, .string ⟨#[]⟩] := one_blk2 (w := wq.drew) hb2
    obtain ⟨x0, x1, g0, g1⟩ := twoc b12
    refine hK.out _ _ (by assumption) (fun _ => ?_); clear hK K hS; have hS := hS9; (try simp only [putr]); refine stT 10 hS ?_; (try simp only [putr]); refine stT 11 hS ?_; (try simp only [putr]); refine stT 12 hS ?_; (try simp only [putr]); refine stT 13 hS ?_; (try simp only [putr]); refine rdH [15] ?_; refine rcH (fun K hK => ?_) AllReadyH.nil; go_simp
    refine hK.out _ _ ((hS9.setCell (p := ⟨wq.heap.size, 0, none⟩) (Nat.le_refl _) _).setCell (p := ⟨wq.heap.size, 1, none⟩) (Nat.le_refl _) _) (fun hS15 => ?_)
    have hX : Blk ((w2.setCell ⟨wq.heap.size, 0, none⟩ (.int .u64 (q : Int))).setCell ⟨wq.heap.size, 1, none⟩ (.string s)) wq.heap.size 70 #[.int .u64 (q : Int), .string s] := (b12.set 0 _).set 1 _
    have hO : Below wq.heap.size wq ((w2.setCell ⟨wq.heap.size, 0, none⟩ (.int .u64 (q : Int))).setCell ⟨wq.heap.size, 1, none⟩ (.string s)) := (hS9.setCell (p := ⟨wq.heap.size, 0, none⟩) (Nat.le_refl _) _).setCell (p := ⟨wq.heap.size, 1, none⟩) (Nat.le_refl _) _
    generalize (w2.setCell ⟨wq.heap.size, 0, none⟩ (.int .u64 (q : Int))).setCell ⟨wq.heap.size, 1, none⟩ (.string s) = We at hX hO ⊢
    obtain ⟨g, hge⟩ : ∃ g, g = wq.heap.size := ⟨_, rfl⟩
    rw [← hge] at hX ⊢
    have hgq : wq.heap.size ≤ g := by rw [hge]; first | exact Nat.le_refl _ | exact hb2.size | exact hS9.size
    clear hge
    have hS15 := hO
    clear hK K hS; have hS := hS15; (try simp only [Act.put]); refine stT 16 hS ?_; (try simp only [putr]); refine stT 17 hS ?_; (try simp only [putr]); refine wpAnyH_done (by kernel_rfl) ?_ _
    have hgr : g ≠ r := by have := HLQ.out.lt'; omega
    have hrw : r ≠ w.heap.size := by have := HR.out; omega
    have hgw : g ≠ w.heap.size := by have := HRQ.out.lt; omega
    have HLE := hid (HLQ.out.below hO HLQ.out.lt')
    have HXE := hid hX
    have HOE := hid hO
    have HRE := hid (HRQ.out.below hO HRQ.out.lt)
    clear hO hX hS15 hS9 hS hb2
    obtain ⟨l0, l1, l2, f0, f1, f2⟩ := three HLE.out.blk
    obtain ⟨x0, x1, _, _⟩ := twoc HXE.out
    obtain ⟨r0, r1, fr0, fr1⟩ := twoc HRE.out
    go_wp2_with fail
    go_quiet (fail)
    go_wp2_with fail
    refine bodyPost_ret (v := .tuple #[.agg #[.int .u64 (q : Int), .string s], .bool true]) (by simp [results, Tryz.results101, go_sem, *]) rfl ⟨rfl, ?_⟩
    have hw1 := HB1.out.size
    have HON := hid (show Only r w (We.drewN nq) from (Only.of_below (Below.trans HB1.out (HOE.out.mono hw1))).drewN _)
    have HLN := hid (show Blk (We.drewN nq) r 180 #[.slice A l.length c, .int .i64 (k : Int), .int .u64 (q : Int)] from HLE.out.blk)
    have hw2 := HRE.out.lt
    have ho := (((HON.out.set (i := 1) (.int .i64 ((k : Int) + (j : Int)))).set (i := 2) (.int .u64 ((next64 q : Nat) : Int))).new (p := ⟨w.heap.size, 0, none⟩) (Nat.le_refl _) (.int .u64 (q : Int))).new (p := ⟨w.heap.size, 1, none⟩) (Nat.le_refl _) (.string s)
    exact ⟨HL0.out.to ((((HLN.out.set 1 (.int .i64 ((k : Int) + (j : Int)))).set 2 (.int .u64 ((next64 q : Nat) : Int))).far hrw _).far hrw _) ho hj HNX.out, ho⟩

end Go.Proofs.YtobmdmbjmjdfjaaGreatDoor
