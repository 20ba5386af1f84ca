/-
  Bytes: the number of pages, and the lengths of the runs, appended by a closure.
-/
import Derived.Test.YtcodljegicoeeaaSpTake
import Derived.Test.YtcodljegicoeeaaWCalls
import Derived.Test.YtcodljegicoeeaaRegion
import Derived.Deep.Cut
import Derived.Deep.CutRange
import Derived.BigRegion
namespace Go.Proofs.Ytcodljegicoeeaa
open Go Go.RowKit

/-- the lengths of the runs: t is the running one's state, n its length so far -/
def runsF : List Bool → Bool → Nat → List Nat
  | [], _, n => [n]
  | x :: r, t, n => if x = t then runsF r t (n + 1) else n :: runsF r (!t) 1
def venc (ns : List Nat) : List UInt8 := ns.flatMap vbytes
/-- a space's bytes -/
def sbytes (l : List Bool) : List UInt8 := vbytes l.length ++ venc (runsF l false 0)
theorem runsF_same {l : List Bool} {t : Bool} (n : Nat) (h : l.head? = some t) : runsF l t n = runsF l.tail t (n + 1) := by
  cases l with
  | nil => simp at h
  | cons x r =>
    obtain rfl : x = t := by simpa using h
    simp [runsF]
theorem runsF_turn {l : List Bool} {t : Bool} (n : Nat) (h : l.head? = some (!t)) : runsF l t n = n :: runsF l (!t) 0 := by
  cases l with
  | nil => simp at h
  | cons x r =>
    obtain rfl : x = !t := by simpa using h
    simp [runsF]

/-- the boxes of Bytes -/
structure BBox (w : World) (base gw gl gt n : Nat) (t : Bool) : Prop where
  bw : Blk w gw 67 #[.pointer (some ⟨base, 0, none⟩)]
  bl : Blk w gl 3 #[.int .i64 (n : Int)]
  bt : Blk w gt 4 #[.bool t]
  lw : base ≤ gw
  ll : base ≤ gl
  lt : base ≤ gt
theorem BBox.keeps {w w' : World} {base gw gl gt n : Nat} {t : Bool} (h : BBox w base gw gl gt n t) (k : Keeps base w w') : BBox w' base gw gl gt n t :=
  ⟨k.kept _ _ _ (by decide) (by decide) h.bw, k.kept _ _ _ (by decide) (by decide) h.bl, k.kept _ _ _ (by decide) (by decide) h.bt, h.lw, h.ll, h.lt⟩
theorem BBox.below {w w' : World} {base gw gl gt n : Nat} {t : Bool} (h : BBox w base gw gl gt n t) (k : Below w.heap.size w w') : BBox w' base gw gl gt n t :=
  ⟨h.bw.below k h.bw.lt, h.bl.below k h.bl.lt, h.bt.below k h.bt.lt, h.lw, h.ll, h.lt⟩

theorem Wr.set_other {w : World} {base p e g i : Nat} {l : List UInt8} {t : TypeId} {cs : Array Value} (h : Wr w base p l e) (hg : Blk w g t cs) (h1 : t ≠ 5) (h2 : t ≠ 84) (u : Value) : Wr (w.setCell ⟨g, i, none⟩ u) base p l e := by
  obtain ⟨A, m, c, hb, hr, hp⟩ := h.out
  exact ⟨A, m, c, Blk.far hb (fun e => Blk.ne hg (show Blk w p 84 _ from hb) h2 e.symm) u, ⟨hr.1, ownsRow_setCell_other hr.2 (own_ne_blk hr.2 hg h1.symm) _⟩, hp⟩
theorem BBox.turned {w : World} {base gw gl gt n : Nat} {t : Bool} (h : BBox w base gw gl gt n t) (hne : gl ≠ gt) : BBox ((w.setCell ⟨gl, 0, none⟩ (.int .i64 0)).setCell ⟨gt, 0, none⟩ (.bool !t)) base gw gl gt 0 (!t) :=
  ⟨(h.bw.far (Blk.ne h.bw h.bl (by decide)) _).far (Blk.ne h.bw h.bt (by decide)) _, (h.bl.set 0 _).far hne _, (h.bt.far hne.symm _).set 0 _, h.lw, h.ll, h.lt⟩
set_option maxHeartbeats 4000000 in
set_option maxRecDepth 100000 in
theorem end_is {w : World} {base gw gl gt n : Nat} {t : Bool} {L : List UInt8} (hb : BBox w base gw gl gt n t) (hw : Wr w base base L 0) (hn : n ≤ 256) (hL : L.length ≤ 100000) :
    Calls Try.prog 32 #[.pointer (some ⟨gw, 0, none⟩), .pointer (some ⟨gl, 0, none⟩), .pointer (some ⟨gt, 0, none⟩)] w fun e w' => e = .returned (.tuple #[]) ∧ BBox w' base gw gl gt 0 (!t) ∧ Wr w' base base (L ++ vbytes n) 0 ∧ Below base w w' := by
  have a0 := hb.bw.cell 0
  have a1 := hb.bl.cell 0
  have HB := hid hb
  have HW := hid hw
  have HL := hid hL
  have HZ := hid hw.base
  clear hb hw hL
  go_enter Try.func32, Try.ntmps32
  go_wp2_with fail
  have hb1 : Below w.heap.size w (w.alloc (.cells #[.int .u64 (n : Int)] 51)) := (Below.refl _ _).alloc (Nat.le_refl _) _
  go_fit (wnum_any (v := n) (HW.out.step hb1) (by omega) (one_new w _ _) (by have := HL.out; omega))
  rintro e w2 ⟨rfl, hw2, hk2⟩
  have HW2 := hid hw2
  have HB2 := hid ((HB.out.below hb1).keeps hk2)
  have HK2 := hid ((Keeps.of hb1 HZ.out).trans hk2)
  have b1 := HB2.out.bl.cell 0
  have b2 := HB2.out.bt.cell 0
  have f1 := HB2.out.bl.free 0
  have f2 := HB2.out.bt.free 0
  have hne : gl ≠ gt := Blk.ne HB2.out.bl HB2.out.bt (by decide)
  clear hb1 hw2 hk2 a0 a1 HB HW
  go_wp2_with fail
  go_region_with (fail)
  all_goals
    go_end0
    exact ⟨rfl, (HB2.out.turned hne).below ((Below.refl _ _).drew), ((HW2.out.set_other HB2.out.bl (by decide) (by decide) _).set_other (HB2.out.bt.far hne.symm _) (by decide) (by decide) _).step ((Below.refl _ _).drew), ((HK2.out.below.setCell HB2.out.ll _).setCell HB2.out.lt _).drew⟩

theorem one_drew (w : World) (t : TypeId) (u : Value) : One (w.alloc (.cells #[u] t)).drew w.heap.size u := one_new w t u
theorem venc_len : ∀ (ns : List Nat), (∀ n ∈ ns, n ≤ 256) → (venc ns).length ≤ 10 * ns.length
  | [], _ => by simp [venc]
  | n :: r, h => by
    have h1 := venc_len r fun x hx => h x (List.mem_cons_of_mem _ hx)
    have h2 : (vbytes n).length ≤ 10 := by rw [vbytes_length]; have := vlen_le n; omega
    have e : venc (n :: r) = vbytes n ++ venc r := by simp [venc]
    rw [e, List.length_append, List.length_cons]
    omega
set_option maxHeartbeats 4000000 in
set_option maxRecDepth 100000 in
theorem sbytes_any {p : Nat} {l : List Bool} {w : World} (h : SpIn w p l) :
    Calls Try.prog 16 #[.pointer (some ⟨p, 0, none⟩)] w fun e w' => ∃ A m c, e = .returned (.slice A m c) ∧ Row w' w.heap.size 5 A m c (sbytes l) ∧ Below w.heap.size w w' := by
  have hfew := h.few
  have H := hid h
  have HLT := hid h.lt
  obtain ⟨n, hn⟩ : ∃ n, l.length = n := ⟨_, rfl⟩
  have HN := hid hn
  have hn2 : n ≤ 256 := by omega
  have HS := hid (show sbytes l = vbytes n ++ venc (runsF l false 0) by unfold sbytes; rw [hn])
  clear h hn hfew
  go_enter Try.func16, Try.ntmps16
  go_wp2_with fail
  go_fit (write_any w)
  rintro e w1 ⟨rfl, hw1, hb1⟩
  have HW1 := hid hw1
  have HB1 := hid hb1
  clear hw1 hb1
  go_upto_region 2 with fail
  have hbA := (Below.refl w1.heap.size w1).alloc (Nat.le_refl _) (.cells #[.pointer (some ⟨w.heap.size, 0, none⟩)] 67)
  have HWA := hid (HW1.out.step hbA)
  have HXA := hid (Blk.new w1 67 #[.pointer (some ⟨w.heap.size, 0, none⟩)])
  have HBA := hid (below_step HB1.out hbA)
  have HGW := hid HB1.out.size
  clear hbA HW1 HB1
  generalize w1.alloc (.cells #[.pointer (some ⟨w.heap.size, 0, none⟩)] 67) = wA at *
  generalize w1.heap.size = gw at *
  have HPA := hid (H.out.step HBA.out)
  have hwn : IntKind.u64.wrap (n : Int) = (n : Int) := IntWalk.u64_in _ ⟨by omega, by omega⟩
  have HZA := hid HBA.out.size
  have x0 : ∀ W, Keeps w.heap.size wA W → W.cell? ⟨gw, 0, none⟩ = some (.pointer (some ⟨w.heap.size, 0, none⟩)) := fun W hW => (hW.kept _ _ _ (by decide) (by decide) HXA.out).cell 0
  have y0 : ∀ W, Keeps w.heap.size wA W → W.cell? ⟨p, 0, none⟩ = some (.int .i64 (n : Int)) := fun W hW => (World.cell?_of_block (a := ⟨p, 0, none⟩) (hW.below.block p HLT.out)).trans (by rw [HPA.out.c0, HN.out])
  refine wp_region_held_drew (S := Keeps w.heap.size wA) (by kernel_rfl) (Keeps.of ((Below.refl _ _).drew) HZA.out) (fun hS => ?_)
  refine take_step (i := 0) (by simp only [List.getElem?_toArray, List.getElem?_cons_zero]; rfl) (by kernel_rfl) (by kernel_rfl) (by kernel_rfl) (by intro _ _ _ h; exact h) (by rfl) (fun W hW => by go_simp; first | done | with_reducible rfl) hS ?_
  try simp only [Act.put, List.setIfInBounds_toArray, List.set_cons_zero, List.set_cons_succ]
  refine take_step (i := 1) (by simp only [List.getElem?_toArray, List.getElem?_cons_succ, List.getElem?_cons_zero]; rfl) (by kernel_rfl) (by kernel_rfl) (by kernel_rfl) (by intro _ _ _ h; exact h) (by rfl) (fun W hW => by go_simp; first | done | with_reducible rfl) hS ?_
  try simp only [Act.put, List.setIfInBounds_toArray, List.set_cons_zero, List.set_cons_succ]
  refine take_step (i := 2) (by simp only [List.getElem?_toArray, List.getElem?_cons_succ, List.getElem?_cons_zero]; rfl) (by kernel_rfl) (by kernel_rfl) (by kernel_rfl) (by intro _ _ _ h; exact h) (by rfl) (fun W hW => by go_simp; first | done | with_reducible rfl) hS ?_
  try simp only [Act.put, List.setIfInBounds_toArray, List.set_cons_zero, List.set_cons_succ]
  refine take_step (i := 3) (by simp only [List.getElem?_toArray, List.getElem?_cons_succ, List.getElem?_cons_zero]; rfl) (by kernel_rfl) (by kernel_rfl) (by kernel_rfl) (by intro _ _ _ h; exact h) (by rfl) (fun W hW => by go_simp; first | done | with_reducible rfl) hS ?_
  try simp only [Act.put, List.setIfInBounds_toArray, List.set_cons_zero, List.set_cons_succ]
  refine take_step (i := 4) (by simp only [List.getElem?_toArray, List.getElem?_cons_succ, List.getElem?_cons_zero]; rfl) (by kernel_rfl) (by kernel_rfl) (by kernel_rfl) (by intro _ _ _ h; exact h) (by rfl) (fun W hW => by go_simp; first | done | with_reducible rfl) hS ?_
  try simp only [Act.put, List.setIfInBounds_toArray, List.set_cons_zero, List.set_cons_succ]
  refine take_step (i := 5) (by simp only [List.getElem?_toArray, List.getElem?_cons_succ, List.getElem?_cons_zero]; rfl) (by kernel_rfl) (by kernel_rfl) (by kernel_rfl) (by intro _ _ _ h; exact h) (by rfl) (fun W hW => by go_simp; first | done | with_reducible rfl) hS ?_
  try simp only [Act.put, List.setIfInBounds_toArray, List.set_cons_zero, List.set_cons_succ]
  refine wpAnyH_ready (rs := [6]) (by kernel_rfl) (by simp) ?_
  refine AllReadyH.cons (by simp only [List.getElem?_toArray, List.getElem?_cons_succ, List.getElem?_cons_zero]; rfl) (fun K hK => ?_) AllReadyH.nil
  go_simp
  refine hK.out _ _ (hS.trans (Keeps.of ((Below.refl _ _).alloc (Nat.le_refl _) _) HZA.out)) (fun hS6 => ?_)
  clear hK K hS
  have hS := hS6
  try simp only [Act.put, List.setIfInBounds_toArray, List.set_cons_zero, List.set_cons_succ]
  refine wpAnyH_ready (rs := [7]) (by kernel_rfl) (by simp) ?_
  refine AllReadyH.cons (by simp only [List.getElem?_toArray, List.getElem?_cons_succ, List.getElem?_cons_zero]; rfl) (fun K hK => ?_) AllReadyH.nil
  go_simp
  go_fit (wnum_any (v := n) (HWA.out.step (((Below.refl wA.heap.size wA).alloc (Nat.le_refl _) _).drew)) (by omega) (one_drew _ _ _) (by simp))
  rintro e w2 ⟨rfl, hw2, hk2⟩
  have hS7 := hS.trans hk2
  rw [List.nil_append] at hw2
  have HW2 := hid hw2
  clear hw2 hk2
  refine hK.out _ _ (by assumption) (fun _ => ?_)
  clear hK K hS
  have hS := hS7
  try simp only [Act.put, List.setIfInBounds_toArray, List.set_cons_zero, List.set_cons_succ]
  refine wpAnyH_done (by kernel_rfl) ?_ _
  have HK2 := hid hS
  clear hS x0 y0
  go_upto_region 3 with fail
  have hb3 := ((Below.refl w2.heap.size w2).alloc (Nat.le_refl _) (.cells #[.int .i64 0] 3)).alloc (by simp) (.cells #[.bool false] 4)
  go_upto_region 5 with fail
  have HBX := hid (show BBox ((w2.alloc (.cells #[.int .i64 0] 3)).alloc (.cells #[.bool false] 4)) w.heap.size gw w2.heap.size (w2.heap.size + 1) 0 false from ⟨((HK2.out.kept _ _ _ (by decide) (by decide) HXA.out).alloc _).alloc _, (Blk.new w2 _ _).alloc _, by have := Blk.new (w2.alloc (.cells #[.int .i64 0] 3)) 4 #[.bool false]; rwa [show (w2.alloc (.cells #[.int .i64 0] 3)).heap.size = w2.heap.size + 1 by simp] at this, HGW.out, Nat.le_trans HZA.out HK2.out.below.size, Nat.le_succ_of_le (Nat.le_trans HZA.out HK2.out.below.size)⟩)
  have HW3 := hid (HW2.out.step hb3)
  have HB3 := hid ((HBA.out.trans HK2.out.below).trans (hb3.mono (Nat.le_trans HZA.out HK2.out.below.size)))
  clear hb3 HW2 HK2 HBA HWA HXA HPA HZA hwn HGW hS6 hS7
  generalize (w2.alloc (.cells #[.int .i64 0] 3)).alloc (.cells #[.bool false] 4) = w3 at *
  obtain ⟨gt, hgt⟩ : ∃ gt, w2.heap.size + 1 = gt := ⟨_, rfl⟩
  rw [hgt] at HBX
  rw [hgt]
  clear hgt
  generalize w2.heap.size = gl at *
  have c0 := (H.out.step HB3.out).c0
  rw [HN.out] at c0
  go_wp2_with fail
  go_loopw [24] (fun i wr => ∃ (k m : Nat) (t : Bool) (L : List UInt8), i = .int .i64 (k : Int) ∧ k ≤ n ∧ m ≤ k ∧ Kept (L.length ≤ 10 * k) ∧ Kept (venc (runsF l false 0) = L ++ venc (runsF (l.drop k) t m)) ∧ Kept (BBox wr w.heap.size gw gl gt m t) ∧ Kept (Wr wr w.heap.size w.heap.size (vbytes n ++ L) 0) ∧ Kept (Below w.heap.size w wr)) (fun i _ => n - (intOf i).toNat)
  case atStart => exact ⟨0, 0, false, [], rfl, Nat.zero_le _, Nat.le_refl _, hid (by simp), hid rfl, HBX, by rw [List.append_nil]; exact HW3, HB3⟩
  case round =>
    obtain ⟨k, m, t, L, rfl, hk, hm, HL, HV, HB, HW, HF⟩ := hrel
    clear HBX HW3 HB3
    by_cases hlt : k < n
    · have HH := hid (fun (W : World) (hW : Beyond wr W) => has_in ((H.out.step HF.out).step hW) (i := k) (by have := HN.out; omega))
      have HD := hid (show l.drop k = l.getD k false :: l.drop (k + 1) by rw [List.drop_eq_getElem_cons (by have := HN.out; omega), List.getD_eq_getElem?_getD, List.getElem?_eq_getElem (by have := HN.out; omega)]; rfl)
      have z0 : ∀ W, Beyond wr W → W.cell? ⟨gt, 0, none⟩ = some (.bool t) := fun W hW => (HB.out.below hW).bt.cell 0
      generalize l.getD k false = b at *
      by_cases hbt : b = t
      · subst hbt
        have hbb : (b != b) = false := by cases b <;> rfl
        go_upto_region 8 with fail
        refine wp_region_held_drew (S := Beyond wr) (by kernel_rfl) (Beyond.drew _) (fun hS => ?_)
        refine take_step (i := 0) (by simp only [List.getElem?_toArray, List.getElem?_cons_zero]; rfl) (by kernel_rfl) (by kernel_rfl) (by kernel_rfl) (by intro _ _ _ h; exact h) (by rfl) (fun W hW => by go_simp; first | done | with_reducible rfl) hS ?_
        try simp only [Act.put, List.setIfInBounds_toArray, List.set_cons_zero, List.set_cons_succ]
        refine take_step (i := 1) (by simp only [List.getElem?_toArray, List.getElem?_cons_succ, List.getElem?_cons_zero]; rfl) (by kernel_rfl) (by kernel_rfl) (by kernel_rfl) (by intro _ _ _ h; exact h) (by rfl) (fun W hW => by go_simp; first | done | with_reducible rfl) hS ?_
        try simp only [Act.put, List.setIfInBounds_toArray, List.set_cons_zero, List.set_cons_succ]
        refine take_step (i := 3) (by simp only [List.getElem?_toArray, List.getElem?_cons_succ, List.getElem?_cons_zero]; rfl) (by kernel_rfl) (by kernel_rfl) (by kernel_rfl) (by intro _ _ _ h; exact h) (by rfl) (fun W hW => by go_simp; first | done | with_reducible rfl) hS ?_
        try simp only [Act.put, List.setIfInBounds_toArray, List.set_cons_zero, List.set_cons_succ]
        refine wpAnyH_ready (rs := [2]) (by kernel_rfl) (by simp) ?_
        refine AllReadyH.cons (by simp only [List.getElem?_toArray, List.getElem?_cons_succ, List.getElem?_cons_zero]; rfl) (fun K hK => ?_) AllReadyH.nil
        go_simp
        go_fit (HH.out _ hS)
        rintro e w5 ⟨rfl, rfl⟩
        have hS2 := hS
        refine hK.out _ _ (by assumption) (fun _ => ?_)
        clear hK K hS
        have hS := hS2
        try simp only [Act.put, List.setIfInBounds_toArray, List.set_cons_zero, List.set_cons_succ]
        refine take_step (i := 4) (by simp only [List.getElem?_toArray, List.getElem?_cons_succ, List.getElem?_cons_zero]; rfl) (by kernel_rfl) (by kernel_rfl) (by kernel_rfl) (by intro _ _ _ h; exact h) (by rfl) (fun W hW => by go_simp; first | done | with_reducible rfl) hS ?_
        try simp only [Act.put, List.setIfInBounds_toArray, List.set_cons_zero, List.set_cons_succ]
        refine wpAnyH_done (by kernel_rfl) ?_ _
        have HS5 := hid hS
        clear hS z0 hS2
        generalize wr.drew = w5 at *
        have hBX := HB.out.below HS5.out
        have l0 := hBX.bl.cell 0
        have l1 := hBX.bl.free 0
        have HW5 := hid ((HW.out.step HS5.out).set_other hBX.bl (i := 0) (by decide) (by decide) (.int .i64 (m + 1 : Int)))
        have HB5 := hid (show BBox (w5.setCell ⟨gl, 0, none⟩ (.int .i64 (m + 1 : Int))) w.heap.size gw gl gt (m + 1) b from ⟨hBX.bw.far (Blk.ne hBX.bw hBX.bl (by decide)) _, hBX.bl.set 0 _, hBX.bt.far (Blk.ne hBX.bt hBX.bl (by decide)) _, hBX.lw, hBX.ll, hBX.lt⟩)
        have HF5 := hid ((HF.out.trans (HS5.out.mono HF.out.size)).setCell (p := ⟨gl, 0, none⟩) (by have := hBX.bl.lt; exact Nat.le_trans (Nat.le_refl _) hBX.ll) (.int .i64 (m + 1 : Int)))
        have HV5 := hid (show venc (runsF l false 0) = L ++ venc (runsF (l.drop (k + 1)) b (m + 1)) by rw [HV.out, HD.out, runsF_same m rfl]; rfl)
        clear hBX HB HW HF HS5 HH HD HV
        go_wp2_with fail
        go_roundw
        case rel => exact ⟨k + 1, m + 1, b, L, by go_num, by omega, by omega, hid (by have := HL.out; omega), HV5, HB5, HW5, HF5⟩
        case measure => simp [intOf]; omega
      · have hbn : b = !t := by cases b <;> cases t <;> simp_all
        have hbb : (b == t) = false := by subst hbn; cases t <;> rfl
        have HBN := hid hbn
        clear hbn hbt
        go_upto_region 8 with fail
        refine wp_region_held_drew (S := Beyond wr) (by kernel_rfl) (Beyond.drew _) (fun hS => ?_)
        refine take_step (i := 0) (by simp only [List.getElem?_toArray, List.getElem?_cons_zero]; rfl) (by kernel_rfl) (by kernel_rfl) (by kernel_rfl) (by intro _ _ _ h; exact h) (by rfl) (fun W hW => by go_simp; first | done | with_reducible rfl) hS ?_
        try simp only [Act.put, List.setIfInBounds_toArray, List.set_cons_zero, List.set_cons_succ]
        refine take_step (i := 1) (by simp only [List.getElem?_toArray, List.getElem?_cons_succ, List.getElem?_cons_zero]; rfl) (by kernel_rfl) (by kernel_rfl) (by kernel_rfl) (by intro _ _ _ h; exact h) (by rfl) (fun W hW => by go_simp; first | done | with_reducible rfl) hS ?_
        try simp only [Act.put, List.setIfInBounds_toArray, List.set_cons_zero, List.set_cons_succ]
        refine take_step (i := 3) (by simp only [List.getElem?_toArray, List.getElem?_cons_succ, List.getElem?_cons_zero]; rfl) (by kernel_rfl) (by kernel_rfl) (by kernel_rfl) (by intro _ _ _ h; exact h) (by rfl) (fun W hW => by go_simp; first | done | with_reducible rfl) hS ?_
        try simp only [Act.put, List.setIfInBounds_toArray, List.set_cons_zero, List.set_cons_succ]
        refine wpAnyH_ready (rs := [2]) (by kernel_rfl) (by simp) ?_
        refine AllReadyH.cons (by simp only [List.getElem?_toArray, List.getElem?_cons_succ, List.getElem?_cons_zero]; rfl) (fun K hK => ?_) AllReadyH.nil
        go_simp
        go_fit (HH.out _ hS)
        rintro e w5 ⟨rfl, rfl⟩
        have hS2 := hS
        refine hK.out _ _ (by assumption) (fun _ => ?_)
        clear hK K hS
        have hS := hS2
        try simp only [Act.put, List.setIfInBounds_toArray, List.set_cons_zero, List.set_cons_succ]
        refine take_step (i := 4) (by simp only [List.getElem?_toArray, List.getElem?_cons_succ, List.getElem?_cons_zero]; rfl) (by kernel_rfl) (by kernel_rfl) (by kernel_rfl) (by intro _ _ _ h; exact h) (by rfl) (fun W hW => by go_simp; first | done | with_reducible rfl) hS ?_
        try simp only [Act.put, List.setIfInBounds_toArray, List.set_cons_zero, List.set_cons_succ]
        refine wpAnyH_done (by kernel_rfl) ?_ _
        have HS5 := hid hS
        clear hS z0 hS2
        generalize wr.drew = w5 at *
        have hBX := HB.out.below HS5.out
        have HE := hid (end_is hBX (HW.out.step HS5.out) (by omega) (by have := HL.out; have := vlen_le n; rw [List.length_append, vbytes_length]; omega))
        have HF4 := hid (HF.out.trans (HS5.out.mono HF.out.size))
        have HV5 := hid (show venc (runsF l false 0) = (L ++ vbytes m) ++ venc (runsF (l.drop (k + 1)) (!t) 1) by rw [HV.out, HD.out, HBN.out, runsF_turn m rfl, runsF_same 0 rfl, List.append_assoc]; rfl)
        clear hBX HB HW HF HS5 HH HD HV
        go_wp2_with fail
        go_fit HE.out
        rintro e w6 ⟨rfl, hb6, hw6, hf6⟩
        have l0 := hb6.bl.cell 0
        have l1 := hb6.bl.free 0
        have HW5 := hid (hw6.set_other hb6.bl (i := 0) (by decide) (by decide) (.int .i64 1))
        have HB5 := hid (show BBox (w6.setCell ⟨gl, 0, none⟩ (.int .i64 1)) w.heap.size gw gl gt 1 (!t) from ⟨hb6.bw.far (Blk.ne hb6.bw hb6.bl (by decide)) _, hb6.bl.set 0 _, hb6.bt.far (Blk.ne hb6.bt hb6.bl (by decide)) _, hb6.lw, hb6.ll, hb6.lt⟩)
        have HF5 := hid ((HF4.out.trans hf6).setCell (p := ⟨gl, 0, none⟩) hb6.ll (.int .i64 1))
        clear hb6 hw6 hf6 HE HF4
        rw [List.append_assoc] at HW5
        go_wp2_with fail
        go_roundw
        case rel => exact ⟨k + 1, 1, !t, L ++ vbytes m, by go_num, by omega, by omega, hid (by have := HL.out; have := vlen_le m; rw [List.length_append, vbytes_length]; omega), HV5, HB5, HW5, HF5⟩
        case measure => simp [intOf]; omega
    · have HE := hid (end_is HB.out HW.out (by omega) (by have := HL.out; have := vlen_le n; rw [List.length_append, vbytes_length]; omega))
      have HL2 := hid (show ((vbytes n ++ L) ++ vbytes m).length ≤ 100000 by have := HL.out; have := vlen_le m; have := vlen_le n; simp only [List.length_append, vbytes_length]; omega)
      have HV5 := hid (show sbytes l = (vbytes n ++ L) ++ vbytes m by rw [HS.out, HV.out, List.drop_eq_nil_of_le (by have := HN.out; omega), List.append_assoc]; simp [runsF, venc])
      clear HB HW HV HL
      go_wp2_with fail
      go_fit HE.out
      rintro e w6 ⟨rfl, hb6, hw6, hf6⟩
      have HF6 := hid (HF.out.trans hf6)
      have HW6 := hid hw6
      have l0 := hb6.bw.cell 0
      clear hb6 hw6 hf6 HE HF
      go_wp2_with fail
      go_fit (bytes_any HW6.out (by have := HL2.out; omega))
      rintro e w7 ⟨A7, m7, c7, rfl, hr7, hb7⟩
      go_wp2_with fail
      go_ret
      rw [HV5.out]
      exact ⟨A7, m7, c7, rfl, ⟨hr7.1, Joins.ownsRow_le hr7.2 HF6.out.size⟩, HF6.out.trans (hb7.mono HF6.out.size)⟩

end Go.Proofs.Ytcodljegicoeeaa
