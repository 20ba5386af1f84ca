/-
  DiskKeeps: its walk, over what is to be shown of the landed code.
-/
import Derived.Test.YtlemoaigcakmcaaDKeep
import Derived.Test.YtlemoaigcakmcaaLawDLeaves
import Derived.BigQuiet
import Derived.Deep.QuietTactic
import Derived.Deep.Draws
import Derived.Deep.WholeRow
import Derived.Deep.Cut
namespace Go.Proofs.Ytlemoaigcakmcaa
open Go Go.RowKit

theorem infoStrs : (Try.prog.info? 34).map (fun i => (i.zero, i.size)) = some (some (.agg (List.replicate 21 (.string ⟨#[]⟩)).toArray), 21) := by kernel_rfl
theorem infoBools : (Try.prog.info? 35).map (fun i => (i.zero, i.size)) = some (some (.agg (List.replicate 21 (.bool false)).toArray), 21) := by kernel_rfl
theorem fill_row {z : Value} {n : Nat} {b : Nat} {w : World} {t : TypeId} (h : w.heap[b]? = some (.cells (List.replicate n z).toArray t (0, 0))) : w.rowIs b t n (fun _ => z) :=
  ⟨_, h, by simp, fun i hi => by simp [hi]⟩

/-- what a sector's reading is, as the law keeps it -/
def wasV (G : Secs) (i : Nat) : Value := .string (bst ((G (i : Int)).getD []))
def useV (G : Secs) (i : Nat) : Value := .bool (G (i : Int)).isSome
/-- the rows of the law's own while sectors are read -/
structure Rows6 (w5 wr : World) (G : Secs) (j : Nat) : Prop where
  was : wr.rowIs w5.heap.size 34 21 (fun i => if i < j then wasV G i else .string ⟨#[]⟩)
  use : wr.rowIs (w5.heap.size + 1) 35 21 (fun i => if i < j then useV G i else .bool false)
  below : Below w5.heap.size w5 wr
theorem Rows6.step {w5 wr w' : World} {G : Secs} {j : Nat} (h : Rows6 w5 wr G j) (hb : Below wr.heap.size wr w') : Rows6 w5 w' G j :=
  ⟨h.was.of_block (hb.block _ h.was.lt), h.use.of_block (hb.block _ h.use.lt), below_step h.below hb⟩
theorem Rows6.set {w5 wr : World} {G : Secs} {j : Nat} (h : Rows6 w5 wr G j) {u v : Value} (hu : u = wasV G j) (hv : v = useV G j) :
    Rows6 w5 ((wr.setCell ⟨w5.heap.size, j, none⟩ u).setCell ⟨w5.heap.size + 1, j, none⟩ v) G (j + 1) := by
  subst hu hv
  refine ⟨((h.was.set j _).setOther (by simp) _).congr fun i hi => ?_, ((h.use.setOther (by simp) _).set j _).congr fun i hi => ?_, (h.below.setCell (Nat.le_refl _) _).setCell (by simp) _⟩
  · by_cases e : i = j
    · subst e; simp
    · by_cases e2 : i < j
      · simp [e, e2, show i < j + 1 by omega]
      · simp [e, e2, show ¬ i < j + 1 by omega]
  · by_cases e : i = j
    · subst e; simp
    · by_cases e2 : i < j
      · simp [e, e2, show i < j + 1 by omega]
      · simp [e, e2, show ¬ i < j + 1 by omega]

/-- all that the law has while acts go on -/
structure K6 (DA : DiskAt) (w w5 wr : World) (bT d : Nat) (M R : Nat → Prop) (s : Dk) (G : Secs) (T : Nat → Bool) : Prop where
  dk : Own6 DA w wr d M R s
  kp : Keep s G T
  was : wr.rowIs w5.heap.size 34 21 (wasV G)
  use : wr.rowIs (w5.heap.size + 1) 35 21 (useV G)
  tch : wr.rowIs bT 35 21 (fun i => .bool (T i))
  f0 : Free6 M R w5.heap.size
  f1 : Free6 M R (w5.heap.size + 1)
  f2 : Free6 M R bT
  n0 : w5.heap.size + 1 < bT
  ge : w.heap.size ≤ w5.heap.size
section
variable {DA : DiskAt} {w w5 wr w' : World} {bT d : Nat} {M R M' R' : Nat → Prop} {s s' : Dk} {G : Secs} {T T' : Nat → Bool}
theorem K6.step (h : K6 DA w w5 wr bT d M R s G T) (hF : Face DA) (hb : Below wr.heap.size wr w') : K6 DA w w5 w' bT d M R s G T :=
  ⟨h.dk.step hF hb, h.kp, h.was.of_block (hb.block _ h.was.lt), h.use.of_block (hb.block _ h.use.lt), h.tch.of_block (hb.block _ h.tch.lt), h.f0, h.f1, h.f2, h.n0, h.ge⟩
theorem K6.turn (h : K6 DA w w5 wr bT d M R s G T) (hd : DA w' d M' R' s') (ht : Turns M R wr M' R' w') (hk : Keep s' G T') (hT : ∀ i, i < 21 → T' i = T i) : K6 DA w w5 w' bT d M' R' s' G T :=
  ⟨h.dk.turn hd ht, ⟨hk.pos, hk.ground, fun o ho j hj hj2 => by rw [← hT j hj2]; exact hk.pend o ho j hj hj2⟩, h.was.of_block (ht.block _ h.was.lt h.f0.1), h.use.of_block (ht.block _ h.use.lt h.f1.1), h.tch.of_block (ht.block _ h.tch.lt h.f2.1),
    h.f0.turn ht h.was.lt, h.f1.turn ht h.use.lt, h.f2.turn ht h.tch.lt, h.n0, h.ge⟩
/-- a call on the disk, and the sector's mark -/
theorem K6.mark (h : K6 DA w w5 wr bT d M R s G T) (hF : Face DA) (hd : DA w' d M' R' s') (ht : Turns M R wr M' R' w') {j : Nat} (hk : Keep s' G (fun i => T i || decide ((i : Int) = (j : Int)))) :
    K6 DA w w5 (w'.setCell ⟨bT, j, none⟩ (.bool true)) bT d M' R' s' G (fun i => T i || decide ((i : Int) = (j : Int))) := by
  have n0 := h.n0
  have ge := h.ge
  have f2 := h.f2.turn ht h.tch.lt
  have t1 := h.tch.of_block (ht.block _ h.tch.lt h.f2.1)
  have hbl : ∀ k, k ≠ bT → (w'.setCell ⟨bT, j, none⟩ (.bool true)).heap[k]? = w'.heap[k]? := fun k hk => Below.heap_setCell w' _ _ k (fun e => hk e)
  refine ⟨⟨hF.keep hd (by simp) (fun k hk2 => hbl k (fun e => by rw [e] at hk2; exact hk2.elim f2.1 f2.2)), fun k hk2 => (h.dk.turn hd ht).own k hk2, (h.dk.turn hd ht).below.setCell (by show w.heap.size ≤ bT; omega) _⟩, hk,
    (h.was.of_block (ht.block _ h.was.lt h.f0.1)).setOther (by show w5.heap.size ≠ bT; omega) _, (h.use.of_block (ht.block _ h.use.lt h.f1.1)).setOther (by show w5.heap.size + 1 ≠ bT; omega) _,
    (t1.set j _).congr fun i hi => ?_, h.f0.turn ht h.was.lt, h.f1.turn ht h.use.lt, f2, h.n0, h.ge⟩
  by_cases e : i = j
  · subst e; simp
  · have e2 : ¬ (i : Int) = (j : Int) := by omega
    simp [e, e2]
end

structure Rows7 (w5 wr : World) (bT : Nat) (G : Secs) (T : Nat → Bool) : Prop where
  was : wr.rowIs w5.heap.size 34 21 (wasV G)
  use : wr.rowIs (w5.heap.size + 1) 35 21 (useV G)
  tch : wr.rowIs bT 35 21 (fun i => .bool (T i))
theorem Rows7.step {w5 wr w' : World} {bT : Nat} {G : Secs} {T : Nat → Bool} (h : Rows7 w5 wr bT G T) (hb : Below wr.heap.size wr w') : Rows7 w5 w' bT G T :=
  ⟨h.was.of_block (hb.block _ h.was.lt), h.use.of_block (hb.block _ h.use.lt), h.tch.of_block (hb.block _ h.tch.lt)⟩

set_option maxHeartbeats 16000000 in
set_option maxRecDepth 100000 in
theorem dkeeps_walk {DA : DiskAt} (hF : Face DA) (hAw : AwakeIs) (n : Int) {A1 A2 A3 : Option Addr} {m1 c1 m2 c2 m3 c3 : Nat} (xs ys : List Act6) (l : List (Int × Int)) (w : World) (hA1 : ActsAt w w.heap.size A1 xs) (hm1 : m1 = xs.length)
    (hA2 : ActsAt w w.heap.size A2 ys) (hm2 : m2 = ys.length) (hA3 : SvAt w w.heap.size A3 l) (hm3 : m3 = l.length) :
    Calls Try.prog 3 #[.int .i64 n, .agg #[.slice A1 m1 c1, .slice A2 m2 c2], .slice A3 m3 c3] w fun e w' => e = .returned (.bool true) ∧ Below w.heap.size w w' := by
  have HF := hid hF
  have HAW := hid hAw
  have HA1 := hid hA1
  have HA2 := hid hA2
  have HA3 := hid hA3
  have HM1 := hid hm1
  have HM2 := hid hm2
  have HM3 := hid hm3
  clear hAw hA1 hA2 hA3 hm1 hm2 hm3
  rcases new_cases n with ⟨N, rfl, h1, h2⟩ | hno
  case inr =>
    have HNew := hid (fun (W : World) => hF.newNo (n := n) (w := W) hno)
    clear hF hno
    go_enter Try.func3, Try.ntmps3
    go_wp2_with fail
    go_quiet (fail)
    have HW0 := hid (show Below w.heap.size w ((w.alloc (.cells #[.slice A1 m1 c1, .slice A2 m2 c2] 23)).drewN nq) from below_drewN ((Below.refl _ _).alloc (Nat.le_refl _) _) _)
    generalize (w.alloc (.cells #[.slice A1 m1 c1, .slice A2 m2 c2] 23)).drewN nq = w0 at *
    go_wp2_with fail
    go_fit (HNew.out w0)
    rintro e w1 ⟨rfl, hb1⟩
    have HB1 := hid (below_step HW0.out hb1)
    clear hb1
    go_wp2_with fail
    go_fit (HAW.out w1)
    rintro e w2 ⟨rfl, hb2⟩
    have HB2 := hid (below_step HB1.out hb2)
    clear hb2
    go_wp2_with fail
    go_fit (HAW.out w2)
    rintro e w3 ⟨rfl, hb3⟩
    have HB3 := hid (below_step HB2.out hb3)
    clear hb3
    go_wp2_with fail
    go_ret
    exact ⟨rfl, HB3.out⟩
  have HNew := hid (fun (W : World) => hF.newYes (w := W) h1 h2)
  clear hF h1 h2
  go_enter Try.func3, Try.ntmps3
  go_wp2_with fail
  go_quiet (fail)
  have HW0 := hid (show Below w.heap.size w ((w.alloc (.cells #[.slice A1 m1 c1, .slice A2 m2 c2] 23)).drewN nq) from below_drewN ((Below.refl _ _).alloc (Nat.le_refl _) _) _)
  generalize (w.alloc (.cells #[.slice A1 m1 c1, .slice A2 m2 c2] 23)).drewN nq = w0 at *
  go_wp2_with fail
  go_fit (HNew.out w0)
  rintro e w1 ⟨d, M, R, rfl, hd, hnew, hb1⟩
  have HO1 := hid (show Own6 DA w w1 d M R (Dk.new N) from ⟨hd, fun k hk => Nat.le_trans HW0.out.size (hnew k (.inl hk)), below_step HW0.out hb1⟩)
  clear hd hnew hb1
  go_wp2_with fail
  go_fit (HAW.out w1)
  rintro e w2 ⟨rfl, hb2⟩
  have HO2 := hid (HO1.out.step HF.out hb2)
  clear hb2
  by_cases h60 : 60 < m3
  · have HB2 := hid HO2.out.below
    go_wp2_with fail
    go_fit (HAW.out w2)
    rintro e w3 ⟨rfl, hb3⟩
    have HB3 := hid (below_step HB2.out hb3)
    clear hb3
    go_wp2_with fail
    go_ret
    exact ⟨rfl, HB3.out⟩
  have HL60 := hid h60
  go_wp2_with fail
  go_loopw [11] (fun i wr => ∃ (k : Nat) (s : Dk) (M R : Nat → Prop), k ≤ m1 ∧ k ≤ 30 ∧ i = .int .i64 (k : Int) ∧ Kept (PosN s k) ∧ Kept (Own6 DA w wr d M R s)) (fun i _ => 30 - (intOf i).toNat)
  case atStart => exact ⟨0, _, M, R, Nat.zero_le _, by decide, rfl, hid ⟨new_pos N, Nat.le_refl _⟩, HO2⟩
  case round =>
    clear HO1 HO2
    obtain ⟨k, s, M, R, hk, hk40, rfl, HI, HO⟩ := hrel
    by_cases hgo : k < m1 ∧ k < 30
    · obtain ⟨hkm, hk4⟩ := hgo
      obtain ⟨b, off, x, rfl, hb, hx, hin⟩ := (HA1.out.below HO.out.below).get (k := k) (by rw [← HM1.out]; exact hkm)
      obtain ⟨Ax, n1, cx, d0, d1, d2, d3, hsv, hn1, hc1, hcm, hbm⟩ := hin.out
      have HSV := hid hsv
      have HFEW := hid (fun (W : World) (hW : SvAt W w.heap.size Ax x.l) => few_any (x := x) (c := cx) hW hn1 hc1 hbm hcm)
      have HI2 := hid (doS_posN HI.out x.few)
      unfold Act6.val at HFEW
      clear hx hin hsv hn1 hc1 hcm hbm hb
      go_wp2_with fail
      go_fit (HFEW.out wr HSV.out)
      rintro e w3 ⟨⟨n2, rfl, hn2, hc2⟩, hb3⟩
      have HO3 := hid (HO.out.step HF.out hb3)
      have HDO := hid (do_any (x := x.few) (n := n2) (c := cx) HF.out HO3.out.at_ ((HSV.out.below (hb3.mono HO.out.below.size)).take 60) hn2 HO3.out.below.size (few_small x) (by have := HI.out.len; omega))
      unfold Act6.val at HDO
      clear hn2 hc2 hb3
      go_wp2_with fail
      go_fit HDO.out
      rintro e w4 ⟨rfl, M', R', hd, ht⟩
      have HO4 := hid (HO3.out.turn hd ht)
      clear hd ht
      go_wp2_with fail
      go_roundw
      case rel => exact ⟨k + 1, _, M', R', by omega, by omega, by go_num, HI2, HO4⟩
      case measure => simp [intOf]; omega
    · by_cases hkm : k < m1
      · have hk4 : ¬ k < 30 := fun h => hgo ⟨hkm, h⟩
        clear hgo
        go_wp2_with fail
        go_fit (HF.out.sync HO.out.at_)
        rintro e w5 ⟨rfl, M5, R5, hd, ht⟩
        have HO5 := hid (HO.out.turn hd ht)
        have HK5 := hid (sync_keep HI.out.pos)
        clear hd ht
        obtain ⟨G, hG⟩ : ∃ G, G = s.view := ⟨_, rfl⟩
        rw [← hG] at HK5
        have HG := hid (show s.sync.view = G from hG.symm)
        have HS5L := hid (show s.sync.pend.length ≤ 0 from Nat.le_refl _)
        obtain ⟨S5, hS5⟩ : ∃ S5, S5 = s.sync := ⟨_, rfl⟩
        rw [← hS5] at HO5 HK5 HG HS5L
        clear hG hS5
        have HLT5 := hid (HF.out.lt HO5.out.at_)
        go_wp2_with fail
        have s1 : (w5.alloc (.cells #[.string ⟨#[]⟩, .string ⟨#[]⟩, .string ⟨#[]⟩, .string ⟨#[]⟩, .string ⟨#[]⟩, .string ⟨#[]⟩, .string ⟨#[]⟩, .string ⟨#[]⟩, .string ⟨#[]⟩, .string ⟨#[]⟩, .string ⟨#[]⟩, .string ⟨#[]⟩, .string ⟨#[]⟩, .string ⟨#[]⟩, .string ⟨#[]⟩, .string ⟨#[]⟩, .string ⟨#[]⟩, .string ⟨#[]⟩, .string ⟨#[]⟩, .string ⟨#[]⟩, .string ⟨#[]⟩] 34)).heap.size = w5.heap.size + 1 := by simp
        have r2 : ((w5.alloc (.cells #[.string ⟨#[]⟩, .string ⟨#[]⟩, .string ⟨#[]⟩, .string ⟨#[]⟩, .string ⟨#[]⟩, .string ⟨#[]⟩, .string ⟨#[]⟩, .string ⟨#[]⟩, .string ⟨#[]⟩, .string ⟨#[]⟩, .string ⟨#[]⟩, .string ⟨#[]⟩, .string ⟨#[]⟩, .string ⟨#[]⟩, .string ⟨#[]⟩, .string ⟨#[]⟩, .string ⟨#[]⟩, .string ⟨#[]⟩, .string ⟨#[]⟩, .string ⟨#[]⟩, .string ⟨#[]⟩] 34)).alloc (.cells #[.bool false, .bool false, .bool false, .bool false, .bool false, .bool false, .bool false, .bool false, .bool false, .bool false, .bool false, .bool false, .bool false, .bool false, .bool false, .bool false, .bool false, .bool false, .bool false, .bool false, .bool false] 35)).rowIs (w5.alloc (.cells #[.string ⟨#[]⟩, .string ⟨#[]⟩, .string ⟨#[]⟩, .string ⟨#[]⟩, .string ⟨#[]⟩, .string ⟨#[]⟩, .string ⟨#[]⟩, .string ⟨#[]⟩, .string ⟨#[]⟩, .string ⟨#[]⟩, .string ⟨#[]⟩, .string ⟨#[]⟩, .string ⟨#[]⟩, .string ⟨#[]⟩, .string ⟨#[]⟩, .string ⟨#[]⟩, .string ⟨#[]⟩, .string ⟨#[]⟩, .string ⟨#[]⟩, .string ⟨#[]⟩, .string ⟨#[]⟩] 34)).heap.size 35 21 (fun _ => .bool false) := fill_row (by rw [heap_alloc_new _ _]; rfl)
        rw [s1] at r2
        have HR6 := hid (show Rows6 w5 ((w5.alloc (.cells #[.string ⟨#[]⟩, .string ⟨#[]⟩, .string ⟨#[]⟩, .string ⟨#[]⟩, .string ⟨#[]⟩, .string ⟨#[]⟩, .string ⟨#[]⟩, .string ⟨#[]⟩, .string ⟨#[]⟩, .string ⟨#[]⟩, .string ⟨#[]⟩, .string ⟨#[]⟩, .string ⟨#[]⟩, .string ⟨#[]⟩, .string ⟨#[]⟩, .string ⟨#[]⟩, .string ⟨#[]⟩, .string ⟨#[]⟩, .string ⟨#[]⟩, .string ⟨#[]⟩, .string ⟨#[]⟩] 34)).alloc (.cells #[.bool false, .bool false, .bool false, .bool false, .bool false, .bool false, .bool false, .bool false, .bool false, .bool false, .bool false, .bool false, .bool false, .bool false, .bool false, .bool false, .bool false, .bool false, .bool false, .bool false, .bool false] 35)) G 0 from
          ⟨((fill_row (by rw [heap_alloc_new w5 _]; rfl) : (w5.alloc (.cells #[.string ⟨#[]⟩, .string ⟨#[]⟩, .string ⟨#[]⟩, .string ⟨#[]⟩, .string ⟨#[]⟩, .string ⟨#[]⟩, .string ⟨#[]⟩, .string ⟨#[]⟩, .string ⟨#[]⟩, .string ⟨#[]⟩, .string ⟨#[]⟩, .string ⟨#[]⟩, .string ⟨#[]⟩, .string ⟨#[]⟩, .string ⟨#[]⟩, .string ⟨#[]⟩, .string ⟨#[]⟩, .string ⟨#[]⟩, .string ⟨#[]⟩, .string ⟨#[]⟩, .string ⟨#[]⟩] 34)).rowIs w5.heap.size 34 21 (fun _ => .string ⟨#[]⟩)).alloc _).congr fun i _ => by simp,
           r2.congr fun i _ => by simp, ((Below.refl _ _).alloc (Nat.le_refl _) _).alloc (by simp) _⟩)
        clear s1 r2
        go_wp2_with fail
        generalize (w5.alloc (.cells #[.string ⟨#[]⟩, .string ⟨#[]⟩, .string ⟨#[]⟩, .string ⟨#[]⟩, .string ⟨#[]⟩, .string ⟨#[]⟩, .string ⟨#[]⟩, .string ⟨#[]⟩, .string ⟨#[]⟩, .string ⟨#[]⟩, .string ⟨#[]⟩, .string ⟨#[]⟩, .string ⟨#[]⟩, .string ⟨#[]⟩, .string ⟨#[]⟩, .string ⟨#[]⟩, .string ⟨#[]⟩, .string ⟨#[]⟩, .string ⟨#[]⟩, .string ⟨#[]⟩, .string ⟨#[]⟩] 34)).alloc (.cells #[.bool false, .bool false, .bool false, .bool false, .bool false, .bool false, .bool false, .bool false, .bool false, .bool false, .bool false, .bool false, .bool false, .bool false, .bool false, .bool false, .bool false, .bool false, .bool false, .bool false, .bool false] 35) = w6 at *
        go_loopw [14] (fun i wq => ∃ j : Nat, j ≤ 21 ∧ i = .int .i64 (j : Int) ∧ Kept (Rows6 w5 wq G j)) (fun i _ => 21 - (intOf i).toNat)
        case atStart => exact ⟨0, Nat.zero_le _, rfl, HR6⟩
        case round =>
          clear HR6
          obtain ⟨j, hj, rfl, HR⟩ := hrel
          by_cases hlt : j < 21
          · have HRD := hid (HF.out.read (i := (j : Int)) (HF.out.step HO5.out.at_ HR.out.below))
            rw [HG.out] at HRD
            cases hv : G (j : Int) with
            | none =>
              rw [hv] at HRD
              have HU := hid (show (Value.string ⟨#[]⟩ : Value) = wasV G j by unfold wasV; rw [hv]; rfl)
              have HV := hid (show (Value.bool false : Value) = useV G j by unfold useV; rw [hv]; rfl)
              clear hv
              go_wp2_with fail
              go_fit HRD.out
              rintro e w7 ⟨rfl, hb7⟩
              have HR7 := hid (HR.out.step hb7)
              clear hb7
              have hcv := str_of (w := w7) (A := none) (m := 0) (c := 0) (l := []) (At.nil _ 0 _) rfl
              rw [show bst [] = (⟨#[]⟩ : ByteArray) from rfl] at hcv
              have q1 := HR7.out.was.cell hlt
              have q2 := HR7.out.was.frozen j
              have q3 := (HR7.out.use.setOther (a := ⟨w5.heap.size, j, none⟩) (by simp) (.string ⟨#[]⟩)).cell hlt
              have q4 := (HR7.out.use.setOther (a := ⟨w5.heap.size, j, none⟩) (by simp) (.string ⟨#[]⟩)).frozen j
              go_wp2_with fail
              clear q1 q2 q3 q4
              go_roundw
              case rel => exact ⟨j + 1, by omega, by go_num, hid (HR7.out.set HU.out HV.out)⟩
              case measure => simp [intOf]; omega
            | some bb =>
              rw [hv] at HRD
              have HU := hid (show (Value.string (bst bb) : Value) = wasV G j by unfold wasV; rw [hv]; rfl)
              have HV := hid (show (Value.bool true : Value) = useV G j by unfold useV; rw [hv]; rfl)
              clear hv
              go_wp2_with fail
              go_fit HRD.out
              rintro e w7 ⟨⟨Aa, na, ca, rfl, ha1, ha2, ha3⟩, hb7⟩
              have HR7 := hid (HR.out.step hb7)
              have hcv := str_of (c := ca) ha1 ha2
              clear hb7 ha1 ha2 ha3
              have q1 := HR7.out.was.cell hlt
              have q2 := HR7.out.was.frozen j
              have q3 := (HR7.out.use.setOther (a := ⟨w5.heap.size, j, none⟩) (by simp) (.string (bst bb))).cell hlt
              have q4 := (HR7.out.use.setOther (a := ⟨w5.heap.size, j, none⟩) (by simp) (.string (bst bb))).frozen j
              go_wp2_with fail
              clear q1 q2 q3 q4
              go_roundw
              case rel => exact ⟨j + 1, by omega, by go_num, hid (HR7.out.set HU.out HV.out)⟩
              case measure => simp [intOf]; omega
          · obtain rfl : j = 21 := by omega
            have hZT : (wr.alloc (.cells #[.bool false, .bool false, .bool false, .bool false, .bool false, .bool false, .bool false, .bool false, .bool false, .bool false, .bool false, .bool false, .bool false, .bool false, .bool false, .bool false, .bool false, .bool false, .bool false, .bool false, .bool false] 35)).rowIs wr.heap.size 35 21 (fun _ => .bool false) := fill_row (by rw [heap_alloc_new wr _]; rfl)
            have hbq : Below wr.heap.size wr (wr.alloc (.cells #[.bool false, .bool false, .bool false, .bool false, .bool false, .bool false, .bool false, .bool false, .bool false, .bool false, .bool false, .bool false, .bool false, .bool false, .bool false, .bool false, .bool false, .bool false, .bool false, .bool false, .bool false] 35)) := (Below.refl _ _).alloc (Nat.le_refl _) _
            have HK0 := hid (show K6 DA w w5 (wr.alloc (.cells #[.bool false, .bool false, .bool false, .bool false, .bool false, .bool false, .bool false, .bool false, .bool false, .bool false, .bool false, .bool false, .bool false, .bool false, .bool false, .bool false, .bool false, .bool false, .bool false, .bool false, .bool false] 35)) wr.heap.size d M5 R5 S5 G (fun _ => false) from
              ⟨(HO5.out.step HF.out HR.out.below).step HF.out hbq, HK5.out, (HR.out.was.congr fun i hi => by simp [hi]).of_block (hbq.block _ HR.out.was.lt), (HR.out.use.congr fun i hi => by simp [hi]).of_block (hbq.block _ HR.out.use.lt), hZT,
               ⟨fun h => by have := HLT5.out _ (.inl h); omega, fun h => by have := HLT5.out _ (.inr h); omega⟩, ⟨fun h => by have := HLT5.out _ (.inl h); omega, fun h => by have := HLT5.out _ (.inr h); omega⟩,
               ⟨fun h => by have := HLT5.out _ (.inl h); have := HR.out.below.size; omega, fun h => by have := HLT5.out _ (.inr h); have := HR.out.below.size; omega⟩, HR.out.use.lt, HO5.out.below.size⟩)
            clear hZT hbq
            go_wp2_with fail
            generalize (wr.alloc (.cells #[.bool false, .bool false, .bool false, .bool false, .bool false, .bool false, .bool false, .bool false, .bool false, .bool false, .bool false, .bool false, .bool false, .bool false, .bool false, .bool false, .bool false, .bool false, .bool false, .bool false, .bool false] 35)) = w8 at *
            generalize wr.heap.size = bT at *
            go_loopw [18] (fun i wr => ∃ (k : Nat) (s : Dk) (M R : Nat → Prop) (T : Nat → Bool), k ≤ m2 ∧ k ≤ 30 ∧ i = .int .i64 (k : Int) ∧ Kept (s.pend.length ≤ k) ∧ Kept (K6 DA w w5 wr bT d M R s G T)) (fun i _ => 30 - (intOf i).toNat)
            case atStart => exact ⟨0, S5, M5, R5, _, Nat.zero_le _, by decide, rfl, HS5L, HK0⟩
            case round =>
              clear HK0
              obtain ⟨k, s, M, R, T, hk, hk30, rfl, HLN, HK⟩ := hrel
              by_cases hgo : k < m2 ∧ k < 30
              · obtain ⟨hkm2, hk4⟩ := hgo
                obtain ⟨b, off, y, rfl, hb, hy, hin⟩ := (HA2.out.below HK.out.dk.below).get (k := k) (by rw [← HM2.out]; exact hkm2)
                obtain ⟨Ay, ny, cy, d0, d1, d2, d3, hsv, hny, hcy, hcm, hbm⟩ := hin.out
                have HSV := hid hsv
                have HFEW := hid (fun (W : World) (hW : SvAt W w.heap.size Ay y.l) => few_any (x := y) (c := cy) hW hny hcy hbm hcm)
                unfold Act6.val at HFEW
                clear hy hin hsv hny hcy hcm hbm hb
                by_cases hy0 : y.k = 0
                · have g0 : (y.few.k != 0) = false := by show (y.k != 0) = false; simp [hy0]
                  have HY := hid hy0
                  clear hy0
                  go_wp2_with fail
                  go_fit (HFEW.out wr HSV.out)
                  rintro e w10 ⟨⟨n2, rfl, hn2, hc2⟩, hb10⟩
                  have hb11 : Below wr.heap.size wr (w10.alloc (.cells #[.int .i64 y.few.k, .int .i64 y.few.i, .string (bst y.few.b), .slice Ay n2 cy] 32)) := hb10.alloc hb10.size _
                  have HK11 := hid (HK.out.step HF.out hb11)
                  have HX11 := hid (Blk.new w10 32 #[.int .i64 y.few.k, .int .i64 y.few.i, .string (bst y.few.b), .slice Ay n2 cy])
                  have HDO := hid (do_any (x := y.few) (n := n2) (c := cy) HF.out HK11.out.dk.at_ ((HSV.out.below (hb11.mono HK.out.dk.below.size)).take 60) hn2 HK11.out.dk.below.size (few_small y) (by have := HLN.out; omega))
                  unfold Act6.val at HDO
                  obtain ⟨E, hE⟩ : ∃ E, E = doE s y.few := ⟨_, rfl⟩
                  unfold Did at HDO
                  rw [← hE] at HDO
                  have HE := hid hE
                  have HGW := hid (show wr.heap.size ≤ w10.heap.size from hb10.size)
                  have HLTR := hid (HF.out.lt HK.out.dk.at_)
                  have HKND := hid (show y.few.k = 0 ∨ y.few.k = 1 from .inl HY.out)
                  clear hn2 hc2 hb10 hb11 hE
                  go_wp2_with fail
                  go_fit HDO.out
                  rintro e w12 ⟨rfl, M', R', hd, ht⟩
                  have HDT := hid (And.intro hd ht)
                  have HXB := hid (show Free6 M R w10.heap.size from ⟨fun h => by have := HLTR.out w10.heap.size (.inl h); have := HGW.out; omega, fun h => by have := HLTR.out w10.heap.size (.inr h); have := HGW.out; omega⟩)
                  have HX12 := hid (show Blk w12 w10.heap.size 32 #[.int .i64 y.few.k, .int .i64 y.few.i, .string (bst y.few.b), .slice Ay n2 cy] from (ht.block _ HX11.out.lt HXB.out.1).trans HX11.out)
                  obtain ⟨x0, x1, x2, x3, _, _, _, _⟩ := four HX12.out
                  clear hd ht
                  by_cases hE0 : E = 0
                  · subst hE0
                    obtain ⟨hi0, hkp⟩ := HK11.out.kp.yes HKND.out HE.out.symm
                    have HKP := hid hkp
                    clear hkp
                    have hi0' : 0 ≤ y.i := hi0
                    by_cases h21 : y.i < 21
                    · obtain ⟨j, hj⟩ : ∃ j : Nat, y.i = (j : Int) := ⟨y.i.toNat, by omega⟩
                      have HJ := hid hj
                      have hjf : y.few.i = (j : Int) := hj
                      rw [hjf] at HKP x1
                      have hj21 : j < 21 := by omega
                      have HM := hid (HK11.out.mark HF.out HDT.out.1 HDT.out.2 HKP.out)
                      have tc := (HK11.out.tch.of_block (HDT.out.2.block _ HK11.out.tch.lt HK11.out.f2.1)).cell hj21
                      have tf := (HK11.out.tch.of_block (HDT.out.2.block _ HK11.out.tch.lt HK11.out.f2.1)).frozen j
                      clear hi0 hi0' hj hjf h21
                      go_wp2_with fail
                      go_roundw
                      case rel =>
                        (repeat apply Exists.intro)
                        refine ⟨?_, rfl⟩
                        exact ⟨k + 1, _, M', R', _, by omega, by omega, by go_num, hid (doS_len HLN.out _), HM⟩
                      case measure => simp [intOf]; omega
                    · have HKF := hid (HKP.out.far (show 21 ≤ y.few.i from by show 21 ≤ y.i; omega))
                      have HM := hid (HK11.out.turn HDT.out.1 HDT.out.2 HKF.out (fun _ _ => rfl))
                      have h21f : ¬ y.few.i < 21 := h21
                      go_wp2_with fail
                      go_roundw
                      case rel =>
                        (repeat apply Exists.intro)
                        refine ⟨?_, rfl⟩
                        exact ⟨k + 1, _, M', R', T, by omega, by omega, by go_num, hid (doS_len HLN.out _), HM⟩
                      case measure => simp [intOf]; omega
                  · have hEb : ((E : Int) == 0) = false := by simp; omega
                    have HSN := hid (HK11.out.kp.no HKND.out (fun e => hE0 (HE.out.trans e)))
                    have HM := hid (HK11.out.turn HDT.out.1 HDT.out.2 (show Keep (doS s y.few) G T by rw [HSN.out]; exact HK11.out.kp) (fun _ _ => rfl))
                    go_wp2_with fail
                    go_roundw
                    case rel =>
                      (repeat apply Exists.intro)
                      refine ⟨?_, rfl⟩
                      exact ⟨k + 1, _, M', R', T, by omega, by omega, by go_num, hid (doS_len HLN.out _), HM⟩
                    case measure => simp [intOf]; omega
                have g0 : (y.few.k != 0) = true := by show (y.k != 0) = true; simpa using hy0
                by_cases hy1 : y.k = 1
                · have g1 : (y.few.k != 1) = false := by show (y.k != 1) = false; simp [hy1]
                  have HY := hid hy1
                  clear hy1
                  go_wp2_with fail
                  go_fit (HFEW.out wr HSV.out)
                  rintro e w10 ⟨⟨n2, rfl, hn2, hc2⟩, hb10⟩
                  have hb11 : Below wr.heap.size wr (w10.alloc (.cells #[.int .i64 y.few.k, .int .i64 y.few.i, .string (bst y.few.b), .slice Ay n2 cy] 32)) := hb10.alloc hb10.size _
                  have HK11 := hid (HK.out.step HF.out hb11)
                  have HX11 := hid (Blk.new w10 32 #[.int .i64 y.few.k, .int .i64 y.few.i, .string (bst y.few.b), .slice Ay n2 cy])
                  have HDO := hid (do_any (x := y.few) (n := n2) (c := cy) HF.out HK11.out.dk.at_ ((HSV.out.below (hb11.mono HK.out.dk.below.size)).take 60) hn2 HK11.out.dk.below.size (few_small y) (by have := HLN.out; omega))
                  unfold Act6.val at HDO
                  obtain ⟨E, hE⟩ : ∃ E, E = doE s y.few := ⟨_, rfl⟩
                  unfold Did at HDO
                  rw [← hE] at HDO
                  have HE := hid hE
                  have HGW := hid (show wr.heap.size ≤ w10.heap.size from hb10.size)
                  have HLTR := hid (HF.out.lt HK.out.dk.at_)
                  have HKND := hid (show y.few.k = 0 ∨ y.few.k = 1 from .inr HY.out)
                  clear hn2 hc2 hb10 hb11 hE
                  go_wp2_with fail
                  go_fit HDO.out
                  rintro e w12 ⟨rfl, M', R', hd, ht⟩
                  have HDT := hid (And.intro hd ht)
                  have HXB := hid (show Free6 M R w10.heap.size from ⟨fun h => by have := HLTR.out w10.heap.size (.inl h); have := HGW.out; omega, fun h => by have := HLTR.out w10.heap.size (.inr h); have := HGW.out; omega⟩)
                  have HX12 := hid (show Blk w12 w10.heap.size 32 #[.int .i64 y.few.k, .int .i64 y.few.i, .string (bst y.few.b), .slice Ay n2 cy] from (ht.block _ HX11.out.lt HXB.out.1).trans HX11.out)
                  obtain ⟨x0, x1, x2, x3, _, _, _, _⟩ := four HX12.out
                  clear hd ht
                  by_cases hE0 : E = 0
                  · subst hE0
                    obtain ⟨hi0, hkp⟩ := HK11.out.kp.yes HKND.out HE.out.symm
                    have HKP := hid hkp
                    clear hkp
                    have hi0' : 0 ≤ y.i := hi0
                    by_cases h21 : y.i < 21
                    · obtain ⟨j, hj⟩ : ∃ j : Nat, y.i = (j : Int) := ⟨y.i.toNat, by omega⟩
                      have HJ := hid hj
                      have hjf : y.few.i = (j : Int) := hj
                      rw [hjf] at HKP x1
                      have hj21 : j < 21 := by omega
                      have HM := hid (HK11.out.mark HF.out HDT.out.1 HDT.out.2 HKP.out)
                      have tc := (HK11.out.tch.of_block (HDT.out.2.block _ HK11.out.tch.lt HK11.out.f2.1)).cell hj21
                      have tf := (HK11.out.tch.of_block (HDT.out.2.block _ HK11.out.tch.lt HK11.out.f2.1)).frozen j
                      clear hi0 hi0' hj hjf h21
                      go_wp2_with fail
                      go_roundw
                      case rel =>
                        (repeat apply Exists.intro)
                        refine ⟨?_, rfl⟩
                        exact ⟨k + 1, _, M', R', _, by omega, by omega, by go_num, hid (doS_len HLN.out _), HM⟩
                      case measure => simp [intOf]; omega
                    · have HKF := hid (HKP.out.far (show 21 ≤ y.few.i from by show 21 ≤ y.i; omega))
                      have HM := hid (HK11.out.turn HDT.out.1 HDT.out.2 HKF.out (fun _ _ => rfl))
                      have h21f : ¬ y.few.i < 21 := h21
                      go_wp2_with fail
                      go_roundw
                      case rel =>
                        (repeat apply Exists.intro)
                        refine ⟨?_, rfl⟩
                        exact ⟨k + 1, _, M', R', T, by omega, by omega, by go_num, hid (doS_len HLN.out _), HM⟩
                      case measure => simp [intOf]; omega
                  · have hEb : ((E : Int) == 0) = false := by simp; omega
                    have HSN := hid (HK11.out.kp.no HKND.out (fun e => hE0 (HE.out.trans e)))
                    have HM := hid (HK11.out.turn HDT.out.1 HDT.out.2 (show Keep (doS s y.few) G T by rw [HSN.out]; exact HK11.out.kp) (fun _ _ => rfl))
                    go_wp2_with fail
                    go_roundw
                    case rel =>
                      (repeat apply Exists.intro)
                      refine ⟨?_, rfl⟩
                      exact ⟨k + 1, _, M', R', T, by omega, by omega, by go_num, hid (doS_len HLN.out _), HM⟩
                    case measure => simp [intOf]; omega
                have g1 : (y.few.k != 1) = true := by show (y.k != 1) = true; simpa using hy1
                go_wp2_with fail
                go_fit (HFEW.out wr HSV.out)
                rintro e w10 ⟨⟨n2, rfl, hn2, hc2⟩, hb10⟩
                have HK11 := hid (HK.out.step HF.out (hb10.alloc hb10.size (.cells #[.int .i64 y.few.k, .int .i64 y.few.i, .string (bst y.few.b), .slice Ay n2 cy] 32)))
                clear hn2 hc2 hb10
                go_wp2_with fail
                go_roundw
                case rel =>
                  (repeat apply Exists.intro)
                  refine ⟨?_, rfl⟩
                  exact ⟨k + 1, s, M, R, T, by omega, by omega, by go_num, hid (Nat.le_succ_of_le HLN.out), HK11⟩
                case measure => simp [intOf]; omega
              · by_cases hkm2 : k < m2
                · have hk4 : ¬ k < 30 := fun h => hgo ⟨hkm2, h⟩
                  clear hgo
                  have hR0 := SvRow.empty wr (base := wr.heap.size) rfl (Nat.le_refl _)
                  have HR0 := hid hR0
                  have HB0 := hid (show Below wr.heap.size wr (wr.alloc (.cells #[] 44)) from (Below.refl _ _).alloc (Nat.le_refl _) _)
                  have HA3W := hid ((HA3.out.below HK.out.dk.below).below (HB0.out.mono HK.out.dk.below.size))
                  have HLEN := hid (show ([] : List (Int × Int)).length + l.length ≤ 1099511627776 by have := HM3.out; have := HL60.out; simp; omega)
                  have HBA := hid HB0.out.size
                  clear hR0
                  go_wp2_with (at_builtin; go_must (refine wpList_append_sv _ rfl _ _ rfl wr.heap.size rfl HR0.out rfl HM3.out HA3W.out HLEN.out HBA.out ?_))
                  intro A7 m7 c7 w9 hr9 hm9 hb9 hg9
                  have HK9 := hid (HK.out.step HF.out (HB0.out.trans hb9))
                  have HLTK := hid (HF.out.lt HK.out.dk.at_)
                  have HCR := hid (HF.out.crash (l := l) (c := c7) HK9.out.dk.at_ hr9.at_ hr9.1 (Nat.le_refl _) (hr9.off fun j hj => HLTK.out j (.inl hj)) (by have h1 := hr9.1; have := HLEN.out; simp at h1 this; omega))
                  clear hr9 hm9 hb9 hg9
                  go_wp2_with fail
                  go_fit HCR.out
                  rintro e w10 ⟨rfl, M', R', hd, ht⟩
                  have HD10 := hid (HK9.out.dk.turn hd ht)
                  have HKR0 := hid (show Rows7 w5 w10 bT G T from ⟨HK9.out.was.of_block (ht.block _ HK9.out.was.lt HK9.out.f0.1), HK9.out.use.of_block (ht.block _ HK9.out.use.lt HK9.out.f1.1), HK9.out.tch.of_block (ht.block _ HK9.out.tch.lt HK9.out.f2.1)⟩)
                  have HVW := hid (fun (j : Nat) (hj : j < 21) (hT : T j = false) => HK9.out.kp.crash l hj hT)
                  clear hd ht HCR
                  go_wp2_with fail
                  go_loopw [20] (fun i wr => ∃ j : Nat, j ≤ 21 ∧ i = .int .i64 (j : Int) ∧ Kept (Below w10.heap.size w10 wr)) (fun i _ => 21 - (intOf i).toNat)
                  case atStart => exact ⟨0, Nat.zero_le _, rfl, hid (Below.refl _ _)⟩
                  case round =>
                    obtain ⟨j, hj, rfl, HB⟩ := hrel
                    by_cases hlt : j < 21
                    · have HRD := hid (HF.out.read (i := (j : Int)) (HF.out.step HD10.out.at_ HB.out))
                      have HKR := HKR0
                      cases hT : T j with
                      | true =>
                        have HTJ := hid hT
                        clear hT
                        cases hv : (s.crash l).view (j : Int) with
                        | none =>
                          rw [hv] at HRD
                          clear hv
                          go_wp2_with fail
                          go_fit HRD.out
                          rintro e w11 ⟨rfl, hb11⟩
                          have HB11 := hid (below_step HB.out hb11)
                          have HK12 := hid (HKR.out.step HB11.out)
                          have hcv : ∀ q, (convert 36 9 (.slice none 0 0)).run Try.prog (w11.drewN q) = .ok (.string ⟨#[]⟩) (w11.drewN q) := fun q => str_of (w := w11.drewN q) (A := none) (m := 0) (c := 0) (l := []) (At.nil _ 0 _) rfl
                          clear hb11
                          have q0 := HK12.out.was.cell hlt
                          have q1 := HK12.out.use.cell hlt
                          have q2 := HK12.out.tch.cell hlt
                          rw [HTJ.out] at q2
                          go_wp2_with fail
                          go_quiet (fail)
                          go_wp2_with fail
                          go_roundw
                          case rel => exact ⟨j + 1, by omega, by go_num, hid (below_drewN HB11.out _)⟩
                          case measure => simp [intOf]; omega
                        | some bb =>
                          rw [hv] at HRD
                          clear hv
                          go_wp2_with fail
                          go_fit HRD.out
                          rintro e w11 ⟨⟨Aa, na, ca, rfl, ha1, ha2, ha3⟩, hb11⟩
                          have HB11 := hid (below_step HB.out hb11)
                          have HK12 := hid (HKR.out.step HB11.out)
                          have hcv : ∀ q, (convert 36 9 (.slice Aa na ca)).run Try.prog (w11.drewN q) = .ok (.string (bst bb)) (w11.drewN q) := fun q => str_of (w := w11.drewN q) (c := ca) (show At (w11.drewN q) w11.heap.size Aa bb from ha1) ha2
                          have tb := bst_toList bb
                          clear hb11 ha1 ha2 ha3
                          have q0 := HK12.out.was.cell hlt
                          have q1 := HK12.out.use.cell hlt
                          have q2 := HK12.out.tch.cell hlt
                          rw [HTJ.out] at q2
                          go_wp2_with fail
                          go_quiet (fail)
                          go_wp2_with fail
                          go_roundw
                          case rel => exact ⟨j + 1, by omega, by go_num, hid (below_drewN HB11.out _)⟩
                          case measure => simp [intOf]; omega
                      | false =>
                        have HTJ := hid hT
                        rw [HVW.out j hlt hT] at HRD
                        clear hT
                        cases hv : G (j : Int) with
                        | none =>
                          rw [hv] at HRD
                          have hu : wasV G j = .string ⟨#[]⟩ := by unfold wasV; rw [hv]; rfl
                          have hu2 : useV G j = .bool false := by unfold useV; rw [hv]; rfl
                          clear hv
                          go_wp2_with fail
                          go_fit HRD.out
                          rintro e w11 ⟨rfl, hb11⟩
                          have HB11 := hid (below_step HB.out hb11)
                          have HK12 := hid (HKR.out.step HB11.out)
                          have hcv : ∀ q, (convert 36 9 (.slice none 0 0)).run Try.prog (w11.drewN q) = .ok (.string ⟨#[]⟩) (w11.drewN q) := fun q => str_of (w := w11.drewN q) (A := none) (m := 0) (c := 0) (l := []) (At.nil _ 0 _) rfl
                          clear hb11
                          have q0 := HK12.out.was.cell hlt
                          have q1 := HK12.out.use.cell hlt
                          have q2 := HK12.out.tch.cell hlt
                          rw [HTJ.out] at q2
                          rw [hu] at q0
                          rw [hu2] at q1
                          clear hu hu2
                          go_wp2_with fail
                          go_quiet (fail)
                          go_wp2_with fail
                          go_roundw
                          case rel => exact ⟨j + 1, by omega, by go_num, hid (below_drewN HB11.out _)⟩
                          case measure => simp [intOf]; omega
                        | some bb =>
                          rw [hv] at HRD
                          have hu : wasV G j = .string (bst bb) := by unfold wasV; rw [hv]; rfl
                          have hu2 : useV G j = .bool true := by unfold useV; rw [hv]; rfl
                          clear hv
                          go_wp2_with fail
                          go_fit HRD.out
                          rintro e w11 ⟨⟨Aa, na, ca, rfl, ha1, ha2, ha3⟩, hb11⟩
                          have HB11 := hid (below_step HB.out hb11)
                          have HK12 := hid (HKR.out.step HB11.out)
                          have hcv : ∀ q, (convert 36 9 (.slice Aa na ca)).run Try.prog (w11.drewN q) = .ok (.string (bst bb)) (w11.drewN q) := fun q => str_of (w := w11.drewN q) (c := ca) (show At (w11.drewN q) w11.heap.size Aa bb from ha1) ha2
                          have tb := bst_toList bb
                          clear hb11 ha1 ha2 ha3
                          have q0 := HK12.out.was.cell hlt
                          have q1 := HK12.out.use.cell hlt
                          have q2 := HK12.out.tch.cell hlt
                          rw [HTJ.out] at q2
                          rw [hu] at q0
                          rw [hu2] at q1
                          clear hu hu2
                          go_wp2_with fail
                          go_quiet (fail)
                          go_wp2_with fail
                          go_roundw
                          case rel => exact ⟨j + 1, by omega, by go_num, hid (below_drewN HB11.out _)⟩
                          case measure => simp [intOf]; omega
                    · have HP := hid (HF.out.pending (HF.out.step HD10.out.at_ HB.out))
                      have hpe : ((s.crash l).pend.length : Int) = 0 := rfl
                      rw [hpe] at HP
                      clear hpe
                      go_wp2_with fail
                      go_fit HP.out
                      rintro e w12 ⟨rfl, hb12⟩
                      have HB12 := hid (HD10.out.below.trans ((below_step HB.out hb12).mono HD10.out.below.size))
                      clear hb12
                      go_wp2_with fail
                      go_ret
                      exact ⟨rfl, HB12.out⟩
                · clear hgo
                  have hR0 := SvRow.empty wr (base := wr.heap.size) rfl (Nat.le_refl _)
                  have HR0 := hid hR0
                  have HB0 := hid (show Below wr.heap.size wr (wr.alloc (.cells #[] 44)) from (Below.refl _ _).alloc (Nat.le_refl _) _)
                  have HA3W := hid ((HA3.out.below HK.out.dk.below).below (HB0.out.mono HK.out.dk.below.size))
                  have HLEN := hid (show ([] : List (Int × Int)).length + l.length ≤ 1099511627776 by have := HM3.out; have := HL60.out; simp; omega)
                  have HBA := hid HB0.out.size
                  clear hR0
                  go_wp2_with (at_builtin; go_must (refine wpList_append_sv _ rfl _ _ rfl wr.heap.size rfl HR0.out rfl HM3.out HA3W.out HLEN.out HBA.out ?_))
                  intro A7 m7 c7 w9 hr9 hm9 hb9 hg9
                  have HK9 := hid (HK.out.step HF.out (HB0.out.trans hb9))
                  have HLTK := hid (HF.out.lt HK.out.dk.at_)
                  have HCR := hid (HF.out.crash (l := l) (c := c7) HK9.out.dk.at_ hr9.at_ hr9.1 (Nat.le_refl _) (hr9.off fun j hj => HLTK.out j (.inl hj)) (by have h1 := hr9.1; have := HLEN.out; simp at h1 this; omega))
                  clear hr9 hm9 hb9 hg9
                  go_wp2_with fail
                  go_fit HCR.out
                  rintro e w10 ⟨rfl, M', R', hd, ht⟩
                  have HD10 := hid (HK9.out.dk.turn hd ht)
                  have HKR0 := hid (show Rows7 w5 w10 bT G T from ⟨HK9.out.was.of_block (ht.block _ HK9.out.was.lt HK9.out.f0.1), HK9.out.use.of_block (ht.block _ HK9.out.use.lt HK9.out.f1.1), HK9.out.tch.of_block (ht.block _ HK9.out.tch.lt HK9.out.f2.1)⟩)
                  have HVW := hid (fun (j : Nat) (hj : j < 21) (hT : T j = false) => HK9.out.kp.crash l hj hT)
                  clear hd ht HCR
                  go_wp2_with fail
                  go_loopw [20] (fun i wr => ∃ j : Nat, j ≤ 21 ∧ i = .int .i64 (j : Int) ∧ Kept (Below w10.heap.size w10 wr)) (fun i _ => 21 - (intOf i).toNat)
                  case atStart => exact ⟨0, Nat.zero_le _, rfl, hid (Below.refl _ _)⟩
                  case round =>
                    obtain ⟨j, hj, rfl, HB⟩ := hrel
                    by_cases hlt : j < 21
                    · have HRD := hid (HF.out.read (i := (j : Int)) (HF.out.step HD10.out.at_ HB.out))
                      have HKR := HKR0
                      cases hT : T j with
                      | true =>
                        have HTJ := hid hT
                        clear hT
                        cases hv : (s.crash l).view (j : Int) with
                        | none =>
                          rw [hv] at HRD
                          clear hv
                          go_wp2_with fail
                          go_fit HRD.out
                          rintro e w11 ⟨rfl, hb11⟩
                          have HB11 := hid (below_step HB.out hb11)
                          have HK12 := hid (HKR.out.step HB11.out)
                          have hcv : ∀ q, (convert 36 9 (.slice none 0 0)).run Try.prog (w11.drewN q) = .ok (.string ⟨#[]⟩) (w11.drewN q) := fun q => str_of (w := w11.drewN q) (A := none) (m := 0) (c := 0) (l := []) (At.nil _ 0 _) rfl
                          clear hb11
                          have q0 := HK12.out.was.cell hlt
                          have q1 := HK12.out.use.cell hlt
                          have q2 := HK12.out.tch.cell hlt
                          rw [HTJ.out] at q2
                          go_wp2_with fail
                          go_quiet (fail)
                          go_wp2_with fail
                          go_roundw
                          case rel => exact ⟨j + 1, by omega, by go_num, hid (below_drewN HB11.out _)⟩
                          case measure => simp [intOf]; omega
                        | some bb =>
                          rw [hv] at HRD
                          clear hv
                          go_wp2_with fail
                          go_fit HRD.out
                          rintro e w11 ⟨⟨Aa, na, ca, rfl, ha1, ha2, ha3⟩, hb11⟩
                          have HB11 := hid (below_step HB.out hb11)
                          have HK12 := hid (HKR.out.step HB11.out)
                          have hcv : ∀ q, (convert 36 9 (.slice Aa na ca)).run Try.prog (w11.drewN q) = .ok (.string (bst bb)) (w11.drewN q) := fun q => str_of (w := w11.drewN q) (c := ca) (show At (w11.drewN q) w11.heap.size Aa bb from ha1) ha2
                          have tb := bst_toList bb
                          clear hb11 ha1 ha2 ha3
                          have q0 := HK12.out.was.cell hlt
                          have q1 := HK12.out.use.cell hlt
                          have q2 := HK12.out.tch.cell hlt
                          rw [HTJ.out] at q2
                          go_wp2_with fail
                          go_quiet (fail)
                          go_wp2_with fail
                          go_roundw
                          case rel => exact ⟨j + 1, by omega, by go_num, hid (below_drewN HB11.out _)⟩
                          case measure => simp [intOf]; omega
                      | false =>
                        have HTJ := hid hT
                        rw [HVW.out j hlt hT] at HRD
                        clear hT
                        cases hv : G (j : Int) with
                        | none =>
                          rw [hv] at HRD
                          have hu : wasV G j = .string ⟨#[]⟩ := by unfold wasV; rw [hv]; rfl
                          have hu2 : useV G j = .bool false := by unfold useV; rw [hv]; rfl
                          clear hv
                          go_wp2_with fail
                          go_fit HRD.out
                          rintro e w11 ⟨rfl, hb11⟩
                          have HB11 := hid (below_step HB.out hb11)
                          have HK12 := hid (HKR.out.step HB11.out)
                          have hcv : ∀ q, (convert 36 9 (.slice none 0 0)).run Try.prog (w11.drewN q) = .ok (.string ⟨#[]⟩) (w11.drewN q) := fun q => str_of (w := w11.drewN q) (A := none) (m := 0) (c := 0) (l := []) (At.nil _ 0 _) rfl
                          clear hb11
                          have q0 := HK12.out.was.cell hlt
                          have q1 := HK12.out.use.cell hlt
                          have q2 := HK12.out.tch.cell hlt
                          rw [HTJ.out] at q2
                          rw [hu] at q0
                          rw [hu2] at q1
                          clear hu hu2
                          go_wp2_with fail
                          go_quiet (fail)
                          go_wp2_with fail
                          go_roundw
                          case rel => exact ⟨j + 1, by omega, by go_num, hid (below_drewN HB11.out _)⟩
                          case measure => simp [intOf]; omega
                        | some bb =>
                          rw [hv] at HRD
                          have hu : wasV G j = .string (bst bb) := by unfold wasV; rw [hv]; rfl
                          have hu2 : useV G j = .bool true := by unfold useV; rw [hv]; rfl
                          clear hv
                          go_wp2_with fail
                          go_fit HRD.out
                          rintro e w11 ⟨⟨Aa, na, ca, rfl, ha1, ha2, ha3⟩, hb11⟩
                          have HB11 := hid (below_step HB.out hb11)
                          have HK12 := hid (HKR.out.step HB11.out)
                          have hcv : ∀ q, (convert 36 9 (.slice Aa na ca)).run Try.prog (w11.drewN q) = .ok (.string (bst bb)) (w11.drewN q) := fun q => str_of (w := w11.drewN q) (c := ca) (show At (w11.drewN q) w11.heap.size Aa bb from ha1) ha2
                          have tb := bst_toList bb
                          clear hb11 ha1 ha2 ha3
                          have q0 := HK12.out.was.cell hlt
                          have q1 := HK12.out.use.cell hlt
                          have q2 := HK12.out.tch.cell hlt
                          rw [HTJ.out] at q2
                          rw [hu] at q0
                          rw [hu2] at q1
                          clear hu hu2
                          go_wp2_with fail
                          go_quiet (fail)
                          go_wp2_with fail
                          go_roundw
                          case rel => exact ⟨j + 1, by omega, by go_num, hid (below_drewN HB11.out _)⟩
                          case measure => simp [intOf]; omega
                    · have HP := hid (HF.out.pending (HF.out.step HD10.out.at_ HB.out))
                      have hpe : ((s.crash l).pend.length : Int) = 0 := rfl
                      rw [hpe] at HP
                      clear hpe
                      go_wp2_with fail
                      go_fit HP.out
                      rintro e w12 ⟨rfl, hb12⟩
                      have HB12 := hid (HD10.out.below.trans ((below_step HB.out hb12).mono HD10.out.below.size))
                      clear hb12
                      go_wp2_with fail
                      go_ret
                      exact ⟨rfl, HB12.out⟩
      · clear hgo
        go_wp2_with fail
        go_fit (HF.out.sync HO.out.at_)
        rintro e w5 ⟨rfl, M5, R5, hd, ht⟩
        have HO5 := hid (HO.out.turn hd ht)
        have HK5 := hid (sync_keep HI.out.pos)
        clear hd ht
        obtain ⟨G, hG⟩ : ∃ G, G = s.view := ⟨_, rfl⟩
        rw [← hG] at HK5
        have HG := hid (show s.sync.view = G from hG.symm)
        have HS5L := hid (show s.sync.pend.length ≤ 0 from Nat.le_refl _)
        obtain ⟨S5, hS5⟩ : ∃ S5, S5 = s.sync := ⟨_, rfl⟩
        rw [← hS5] at HO5 HK5 HG HS5L
        clear hG hS5
        have HLT5 := hid (HF.out.lt HO5.out.at_)
        go_wp2_with fail
        have s1 : (w5.alloc (.cells #[.string ⟨#[]⟩, .string ⟨#[]⟩, .string ⟨#[]⟩, .string ⟨#[]⟩, .string ⟨#[]⟩, .string ⟨#[]⟩, .string ⟨#[]⟩, .string ⟨#[]⟩, .string ⟨#[]⟩, .string ⟨#[]⟩, .string ⟨#[]⟩, .string ⟨#[]⟩, .string ⟨#[]⟩, .string ⟨#[]⟩, .string ⟨#[]⟩, .string ⟨#[]⟩, .string ⟨#[]⟩, .string ⟨#[]⟩, .string ⟨#[]⟩, .string ⟨#[]⟩, .string ⟨#[]⟩] 34)).heap.size = w5.heap.size + 1 := by simp
        have r2 : ((w5.alloc (.cells #[.string ⟨#[]⟩, .string ⟨#[]⟩, .string ⟨#[]⟩, .string ⟨#[]⟩, .string ⟨#[]⟩, .string ⟨#[]⟩, .string ⟨#[]⟩, .string ⟨#[]⟩, .string ⟨#[]⟩, .string ⟨#[]⟩, .string ⟨#[]⟩, .string ⟨#[]⟩, .string ⟨#[]⟩, .string ⟨#[]⟩, .string ⟨#[]⟩, .string ⟨#[]⟩, .string ⟨#[]⟩, .string ⟨#[]⟩, .string ⟨#[]⟩, .string ⟨#[]⟩, .string ⟨#[]⟩] 34)).alloc (.cells #[.bool false, .bool false, .bool false, .bool false, .bool false, .bool false, .bool false, .bool false, .bool false, .bool false, .bool false, .bool false, .bool false, .bool false, .bool false, .bool false, .bool false, .bool false, .bool false, .bool false, .bool false] 35)).rowIs (w5.alloc (.cells #[.string ⟨#[]⟩, .string ⟨#[]⟩, .string ⟨#[]⟩, .string ⟨#[]⟩, .string ⟨#[]⟩, .string ⟨#[]⟩, .string ⟨#[]⟩, .string ⟨#[]⟩, .string ⟨#[]⟩, .string ⟨#[]⟩, .string ⟨#[]⟩, .string ⟨#[]⟩, .string ⟨#[]⟩, .string ⟨#[]⟩, .string ⟨#[]⟩, .string ⟨#[]⟩, .string ⟨#[]⟩, .string ⟨#[]⟩, .string ⟨#[]⟩, .string ⟨#[]⟩, .string ⟨#[]⟩] 34)).heap.size 35 21 (fun _ => .bool false) := fill_row (by rw [heap_alloc_new _ _]; rfl)
        rw [s1] at r2
        have HR6 := hid (show Rows6 w5 ((w5.alloc (.cells #[.string ⟨#[]⟩, .string ⟨#[]⟩, .string ⟨#[]⟩, .string ⟨#[]⟩, .string ⟨#[]⟩, .string ⟨#[]⟩, .string ⟨#[]⟩, .string ⟨#[]⟩, .string ⟨#[]⟩, .string ⟨#[]⟩, .string ⟨#[]⟩, .string ⟨#[]⟩, .string ⟨#[]⟩, .string ⟨#[]⟩, .string ⟨#[]⟩, .string ⟨#[]⟩, .string ⟨#[]⟩, .string ⟨#[]⟩, .string ⟨#[]⟩, .string ⟨#[]⟩, .string ⟨#[]⟩] 34)).alloc (.cells #[.bool false, .bool false, .bool false, .bool false, .bool false, .bool false, .bool false, .bool false, .bool false, .bool false, .bool false, .bool false, .bool false, .bool false, .bool false, .bool false, .bool false, .bool false, .bool false, .bool false, .bool false] 35)) G 0 from
          ⟨((fill_row (by rw [heap_alloc_new w5 _]; rfl) : (w5.alloc (.cells #[.string ⟨#[]⟩, .string ⟨#[]⟩, .string ⟨#[]⟩, .string ⟨#[]⟩, .string ⟨#[]⟩, .string ⟨#[]⟩, .string ⟨#[]⟩, .string ⟨#[]⟩, .string ⟨#[]⟩, .string ⟨#[]⟩, .string ⟨#[]⟩, .string ⟨#[]⟩, .string ⟨#[]⟩, .string ⟨#[]⟩, .string ⟨#[]⟩, .string ⟨#[]⟩, .string ⟨#[]⟩, .string ⟨#[]⟩, .string ⟨#[]⟩, .string ⟨#[]⟩, .string ⟨#[]⟩] 34)).rowIs w5.heap.size 34 21 (fun _ => .string ⟨#[]⟩)).alloc _).congr fun i _ => by simp,
           r2.congr fun i _ => by simp, ((Below.refl _ _).alloc (Nat.le_refl _) _).alloc (by simp) _⟩)
        clear s1 r2
        go_wp2_with fail
        generalize (w5.alloc (.cells #[.string ⟨#[]⟩, .string ⟨#[]⟩, .string ⟨#[]⟩, .string ⟨#[]⟩, .string ⟨#[]⟩, .string ⟨#[]⟩, .string ⟨#[]⟩, .string ⟨#[]⟩, .string ⟨#[]⟩, .string ⟨#[]⟩, .string ⟨#[]⟩, .string ⟨#[]⟩, .string ⟨#[]⟩, .string ⟨#[]⟩, .string ⟨#[]⟩, .string ⟨#[]⟩, .string ⟨#[]⟩, .string ⟨#[]⟩, .string ⟨#[]⟩, .string ⟨#[]⟩, .string ⟨#[]⟩] 34)).alloc (.cells #[.bool false, .bool false, .bool false, .bool false, .bool false, .bool false, .bool false, .bool false, .bool false, .bool false, .bool false, .bool false, .bool false, .bool false, .bool false, .bool false, .bool false, .bool false, .bool false, .bool false, .bool false] 35) = w6 at *
        go_loopw [14] (fun i wq => ∃ j : Nat, j ≤ 21 ∧ i = .int .i64 (j : Int) ∧ Kept (Rows6 w5 wq G j)) (fun i _ => 21 - (intOf i).toNat)
        case atStart => exact ⟨0, Nat.zero_le _, rfl, HR6⟩
        case round =>
          clear HR6
          obtain ⟨j, hj, rfl, HR⟩ := hrel
          by_cases hlt : j < 21
          · have HRD := hid (HF.out.read (i := (j : Int)) (HF.out.step HO5.out.at_ HR.out.below))
            rw [HG.out] at HRD
            cases hv : G (j : Int) with
            | none =>
              rw [hv] at HRD
              have HU := hid (show (Value.string ⟨#[]⟩ : Value) = wasV G j by unfold wasV; rw [hv]; rfl)
              have HV := hid (show (Value.bool false : Value) = useV G j by unfold useV; rw [hv]; rfl)
              clear hv
              go_wp2_with fail
              go_fit HRD.out
              rintro e w7 ⟨rfl, hb7⟩
              have HR7 := hid (HR.out.step hb7)
              clear hb7
              have hcv := str_of (w := w7) (A := none) (m := 0) (c := 0) (l := []) (At.nil _ 0 _) rfl
              rw [show bst [] = (⟨#[]⟩ : ByteArray) from rfl] at hcv
              have q1 := HR7.out.was.cell hlt
              have q2 := HR7.out.was.frozen j
              have q3 := (HR7.out.use.setOther (a := ⟨w5.heap.size, j, none⟩) (by simp) (.string ⟨#[]⟩)).cell hlt
              have q4 := (HR7.out.use.setOther (a := ⟨w5.heap.size, j, none⟩) (by simp) (.string ⟨#[]⟩)).frozen j
              go_wp2_with fail
              clear q1 q2 q3 q4
              go_roundw
              case rel => exact ⟨j + 1, by omega, by go_num, hid (HR7.out.set HU.out HV.out)⟩
              case measure => simp [intOf]; omega
            | some bb =>
              rw [hv] at HRD
              have HU := hid (show (Value.string (bst bb) : Value) = wasV G j by unfold wasV; rw [hv]; rfl)
              have HV := hid (show (Value.bool true : Value) = useV G j by unfold useV; rw [hv]; rfl)
              clear hv
              go_wp2_with fail
              go_fit HRD.out
              rintro e w7 ⟨⟨Aa, na, ca, rfl, ha1, ha2, ha3⟩, hb7⟩
              have HR7 := hid (HR.out.step hb7)
              have hcv := str_of (c := ca) ha1 ha2
              clear hb7 ha1 ha2 ha3
              have q1 := HR7.out.was.cell hlt
              have q2 := HR7.out.was.frozen j
              have q3 := (HR7.out.use.setOther (a := ⟨w5.heap.size, j, none⟩) (by simp) (.string (bst bb))).cell hlt
              have q4 := (HR7.out.use.setOther (a := ⟨w5.heap.size, j, none⟩) (by simp) (.string (bst bb))).frozen j
              go_wp2_with fail
              clear q1 q2 q3 q4
              go_roundw
              case rel => exact ⟨j + 1, by omega, by go_num, hid (HR7.out.set HU.out HV.out)⟩
              case measure => simp [intOf]; omega
          · obtain rfl : j = 21 := by omega
            have hZT : (wr.alloc (.cells #[.bool false, .bool false, .bool false, .bool false, .bool false, .bool false, .bool false, .bool false, .bool false, .bool false, .bool false, .bool false, .bool false, .bool false, .bool false, .bool false, .bool false, .bool false, .bool false, .bool false, .bool false] 35)).rowIs wr.heap.size 35 21 (fun _ => .bool false) := fill_row (by rw [heap_alloc_new wr _]; rfl)
            have hbq : Below wr.heap.size wr (wr.alloc (.cells #[.bool false, .bool false, .bool false, .bool false, .bool false, .bool false, .bool false, .bool false, .bool false, .bool false, .bool false, .bool false, .bool false, .bool false, .bool false, .bool false, .bool false, .bool false, .bool false, .bool false, .bool false] 35)) := (Below.refl _ _).alloc (Nat.le_refl _) _
            have HK0 := hid (show K6 DA w w5 (wr.alloc (.cells #[.bool false, .bool false, .bool false, .bool false, .bool false, .bool false, .bool false, .bool false, .bool false, .bool false, .bool false, .bool false, .bool false, .bool false, .bool false, .bool false, .bool false, .bool false, .bool false, .bool false, .bool false] 35)) wr.heap.size d M5 R5 S5 G (fun _ => false) from
              ⟨(HO5.out.step HF.out HR.out.below).step HF.out hbq, HK5.out, (HR.out.was.congr fun i hi => by simp [hi]).of_block (hbq.block _ HR.out.was.lt), (HR.out.use.congr fun i hi => by simp [hi]).of_block (hbq.block _ HR.out.use.lt), hZT,
               ⟨fun h => by have := HLT5.out _ (.inl h); omega, fun h => by have := HLT5.out _ (.inr h); omega⟩, ⟨fun h => by have := HLT5.out _ (.inl h); omega, fun h => by have := HLT5.out _ (.inr h); omega⟩,
               ⟨fun h => by have := HLT5.out _ (.inl h); have := HR.out.below.size; omega, fun h => by have := HLT5.out _ (.inr h); have := HR.out.below.size; omega⟩, HR.out.use.lt, HO5.out.below.size⟩)
            clear hZT hbq
            go_wp2_with fail
            generalize (wr.alloc (.cells #[.bool false, .bool false, .bool false, .bool false, .bool false, .bool false, .bool false, .bool false, .bool false, .bool false, .bool false, .bool false, .bool false, .bool false, .bool false, .bool false, .bool false, .bool false, .bool false, .bool false, .bool false] 35)) = w8 at *
            generalize wr.heap.size = bT at *
            go_loopw [18] (fun i wr => ∃ (k : Nat) (s : Dk) (M R : Nat → Prop) (T : Nat → Bool), k ≤ m2 ∧ k ≤ 30 ∧ i = .int .i64 (k : Int) ∧ Kept (s.pend.length ≤ k) ∧ Kept (K6 DA w w5 wr bT d M R s G T)) (fun i _ => 30 - (intOf i).toNat)
            case atStart => exact ⟨0, S5, M5, R5, _, Nat.zero_le _, by decide, rfl, HS5L, HK0⟩
            case round =>
              clear HK0
              obtain ⟨k, s, M, R, T, hk, hk30, rfl, HLN, HK⟩ := hrel
              by_cases hgo : k < m2 ∧ k < 30
              · obtain ⟨hkm2, hk4⟩ := hgo
                obtain ⟨b, off, y, rfl, hb, hy, hin⟩ := (HA2.out.below HK.out.dk.below).get (k := k) (by rw [← HM2.out]; exact hkm2)
                obtain ⟨Ay, ny, cy, d0, d1, d2, d3, hsv, hny, hcy, hcm, hbm⟩ := hin.out
                have HSV := hid hsv
                have HFEW := hid (fun (W : World) (hW : SvAt W w.heap.size Ay y.l) => few_any (x := y) (c := cy) hW hny hcy hbm hcm)
                unfold Act6.val at HFEW
                clear hy hin hsv hny hcy hcm hbm hb
                by_cases hy0 : y.k = 0
                · have g0 : (y.few.k != 0) = false := by show (y.k != 0) = false; simp [hy0]
                  have HY := hid hy0
                  clear hy0
                  go_wp2_with fail
                  go_fit (HFEW.out wr HSV.out)
                  rintro e w10 ⟨⟨n2, rfl, hn2, hc2⟩, hb10⟩
                  have hb11 : Below wr.heap.size wr (w10.alloc (.cells #[.int .i64 y.few.k, .int .i64 y.few.i, .string (bst y.few.b), .slice Ay n2 cy] 32)) := hb10.alloc hb10.size _
                  have HK11 := hid (HK.out.step HF.out hb11)
                  have HX11 := hid (Blk.new w10 32 #[.int .i64 y.few.k, .int .i64 y.few.i, .string (bst y.few.b), .slice Ay n2 cy])
                  have HDO := hid (do_any (x := y.few) (n := n2) (c := cy) HF.out HK11.out.dk.at_ ((HSV.out.below (hb11.mono HK.out.dk.below.size)).take 60) hn2 HK11.out.dk.below.size (few_small y) (by have := HLN.out; omega))
                  unfold Act6.val at HDO
                  obtain ⟨E, hE⟩ : ∃ E, E = doE s y.few := ⟨_, rfl⟩
                  unfold Did at HDO
                  rw [← hE] at HDO
                  have HE := hid hE
                  have HGW := hid (show wr.heap.size ≤ w10.heap.size from hb10.size)
                  have HLTR := hid (HF.out.lt HK.out.dk.at_)
                  have HKND := hid (show y.few.k = 0 ∨ y.few.k = 1 from .inl HY.out)
                  clear hn2 hc2 hb10 hb11 hE
                  go_wp2_with fail
                  go_fit HDO.out
                  rintro e w12 ⟨rfl, M', R', hd, ht⟩
                  have HDT := hid (And.intro hd ht)
                  have HXB := hid (show Free6 M R w10.heap.size from ⟨fun h => by have := HLTR.out w10.heap.size (.inl h); have := HGW.out; omega, fun h => by have := HLTR.out w10.heap.size (.inr h); have := HGW.out; omega⟩)
                  have HX12 := hid (show Blk w12 w10.heap.size 32 #[.int .i64 y.few.k, .int .i64 y.few.i, .string (bst y.few.b), .slice Ay n2 cy] from (ht.block _ HX11.out.lt HXB.out.1).trans HX11.out)
                  obtain ⟨x0, x1, x2, x3, _, _, _, _⟩ := four HX12.out
                  clear hd ht
                  by_cases hE0 : E = 0
                  · subst hE0
                    obtain ⟨hi0, hkp⟩ := HK11.out.kp.yes HKND.out HE.out.symm
                    have HKP := hid hkp
                    clear hkp
                    have hi0' : 0 ≤ y.i := hi0
                    by_cases h21 : y.i < 21
                    · obtain ⟨j, hj⟩ : ∃ j : Nat, y.i = (j : Int) := ⟨y.i.toNat, by omega⟩
                      have HJ := hid hj
                      have hjf : y.few.i = (j : Int) := hj
                      rw [hjf] at HKP x1
                      have hj21 : j < 21 := by omega
                      have HM := hid (HK11.out.mark HF.out HDT.out.1 HDT.out.2 HKP.out)
                      have tc := (HK11.out.tch.of_block (HDT.out.2.block _ HK11.out.tch.lt HK11.out.f2.1)).cell hj21
                      have tf := (HK11.out.tch.of_block (HDT.out.2.block _ HK11.out.tch.lt HK11.out.f2.1)).frozen j
                      clear hi0 hi0' hj hjf h21
                      go_wp2_with fail
                      go_roundw
                      case rel =>
                        (repeat apply Exists.intro)
                        refine ⟨?_, rfl⟩
                        exact ⟨k + 1, _, M', R', _, by omega, by omega, by go_num, hid (doS_len HLN.out _), HM⟩
                      case measure => simp [intOf]; omega
                    · have HKF := hid (HKP.out.far (show 21 ≤ y.few.i from by show 21 ≤ y.i; omega))
                      have HM := hid (HK11.out.turn HDT.out.1 HDT.out.2 HKF.out (fun _ _ => rfl))
                      have h21f : ¬ y.few.i < 21 := h21
                      go_wp2_with fail
                      go_roundw
                      case rel =>
                        (repeat apply Exists.intro)
                        refine ⟨?_, rfl⟩
                        exact ⟨k + 1, _, M', R', T, by omega, by omega, by go_num, hid (doS_len HLN.out _), HM⟩
                      case measure => simp [intOf]; omega
                  · have hEb : ((E : Int) == 0) = false := by simp; omega
                    have HSN := hid (HK11.out.kp.no HKND.out (fun e => hE0 (HE.out.trans e)))
                    have HM := hid (HK11.out.turn HDT.out.1 HDT.out.2 (show Keep (doS s y.few) G T by rw [HSN.out]; exact HK11.out.kp) (fun _ _ => rfl))
                    go_wp2_with fail
                    go_roundw
                    case rel =>
                      (repeat apply Exists.intro)
                      refine ⟨?_, rfl⟩
                      exact ⟨k + 1, _, M', R', T, by omega, by omega, by go_num, hid (doS_len HLN.out _), HM⟩
                    case measure => simp [intOf]; omega
                have g0 : (y.few.k != 0) = true := by show (y.k != 0) = true; simpa using hy0
                by_cases hy1 : y.k = 1
                · have g1 : (y.few.k != 1) = false := by show (y.k != 1) = false; simp [hy1]
                  have HY := hid hy1
                  clear hy1
                  go_wp2_with fail
                  go_fit (HFEW.out wr HSV.out)
                  rintro e w10 ⟨⟨n2, rfl, hn2, hc2⟩, hb10⟩
                  have hb11 : Below wr.heap.size wr (w10.alloc (.cells #[.int .i64 y.few.k, .int .i64 y.few.i, .string (bst y.few.b), .slice Ay n2 cy] 32)) := hb10.alloc hb10.size _
                  have HK11 := hid (HK.out.step HF.out hb11)
                  have HX11 := hid (Blk.new w10 32 #[.int .i64 y.few.k, .int .i64 y.few.i, .string (bst y.few.b), .slice Ay n2 cy])
                  have HDO := hid (do_any (x := y.few) (n := n2) (c := cy) HF.out HK11.out.dk.at_ ((HSV.out.below (hb11.mono HK.out.dk.below.size)).take 60) hn2 HK11.out.dk.below.size (few_small y) (by have := HLN.out; omega))
                  unfold Act6.val at HDO
                  obtain ⟨E, hE⟩ : ∃ E, E = doE s y.few := ⟨_, rfl⟩
                  unfold Did at HDO
                  rw [← hE] at HDO
                  have HE := hid hE
                  have HGW := hid (show wr.heap.size ≤ w10.heap.size from hb10.size)
                  have HLTR := hid (HF.out.lt HK.out.dk.at_)
                  have HKND := hid (show y.few.k = 0 ∨ y.few.k = 1 from .inr HY.out)
                  clear hn2 hc2 hb10 hb11 hE
                  go_wp2_with fail
                  go_fit HDO.out
                  rintro e w12 ⟨rfl, M', R', hd, ht⟩
                  have HDT := hid (And.intro hd ht)
                  have HXB := hid (show Free6 M R w10.heap.size from ⟨fun h => by have := HLTR.out w10.heap.size (.inl h); have := HGW.out; omega, fun h => by have := HLTR.out w10.heap.size (.inr h); have := HGW.out; omega⟩)
                  have HX12 := hid (show Blk w12 w10.heap.size 32 #[.int .i64 y.few.k, .int .i64 y.few.i, .string (bst y.few.b), .slice Ay n2 cy] from (ht.block _ HX11.out.lt HXB.out.1).trans HX11.out)
                  obtain ⟨x0, x1, x2, x3, _, _, _, _⟩ := four HX12.out
                  clear hd ht
                  by_cases hE0 : E = 0
                  · subst hE0
                    obtain ⟨hi0, hkp⟩ := HK11.out.kp.yes HKND.out HE.out.symm
                    have HKP := hid hkp
                    clear hkp
                    have hi0' : 0 ≤ y.i := hi0
                    by_cases h21 : y.i < 21
                    · obtain ⟨j, hj⟩ : ∃ j : Nat, y.i = (j : Int) := ⟨y.i.toNat, by omega⟩
                      have HJ := hid hj
                      have hjf : y.few.i = (j : Int) := hj
                      rw [hjf] at HKP x1
                      have hj21 : j < 21 := by omega
                      have HM := hid (HK11.out.mark HF.out HDT.out.1 HDT.out.2 HKP.out)
                      have tc := (HK11.out.tch.of_block (HDT.out.2.block _ HK11.out.tch.lt HK11.out.f2.1)).cell hj21
                      have tf := (HK11.out.tch.of_block (HDT.out.2.block _ HK11.out.tch.lt HK11.out.f2.1)).frozen j
                      clear hi0 hi0' hj hjf h21
                      go_wp2_with fail
                      go_roundw
                      case rel =>
                        (repeat apply Exists.intro)
                        refine ⟨?_, rfl⟩
                        exact ⟨k + 1, _, M', R', _, by omega, by omega, by go_num, hid (doS_len HLN.out _), HM⟩
                      case measure => simp [intOf]; omega
                    · have HKF := hid (HKP.out.far (show 21 ≤ y.few.i from by show 21 ≤ y.i; omega))
                      have HM := hid (HK11.out.turn HDT.out.1 HDT.out.2 HKF.out (fun _ _ => rfl))
                      have h21f : ¬ y.few.i < 21 := h21
                      go_wp2_with fail
                      go_roundw
                      case rel =>
                        (repeat apply Exists.intro)
                        refine ⟨?_, rfl⟩
                        exact ⟨k + 1, _, M', R', T, by omega, by omega, by go_num, hid (doS_len HLN.out _), HM⟩
                      case measure => simp [intOf]; omega
                  · have hEb : ((E : Int) == 0) = false := by simp; omega
                    have HSN := hid (HK11.out.kp.no HKND.out (fun e => hE0 (HE.out.trans e)))
                    have HM := hid (HK11.out.turn HDT.out.1 HDT.out.2 (show Keep (doS s y.few) G T by rw [HSN.out]; exact HK11.out.kp) (fun _ _ => rfl))
                    go_wp2_with fail
                    go_roundw
                    case rel =>
                      (repeat apply Exists.intro)
                      refine ⟨?_, rfl⟩
                      exact ⟨k + 1, _, M', R', T, by omega, by omega, by go_num, hid (doS_len HLN.out _), HM⟩
                    case measure => simp [intOf]; omega
                have g1 : (y.few.k != 1) = true := by show (y.k != 1) = true; simpa using hy1
                go_wp2_with fail
                go_fit (HFEW.out wr HSV.out)
                rintro e w10 ⟨⟨n2, rfl, hn2, hc2⟩, hb10⟩
                have HK11 := hid (HK.out.step HF.out (hb10.alloc hb10.size (.cells #[.int .i64 y.few.k, .int .i64 y.few.i, .string (bst y.few.b), .slice Ay n2 cy] 32)))
                clear hn2 hc2 hb10
                go_wp2_with fail
                go_roundw
                case rel =>
                  (repeat apply Exists.intro)
                  refine ⟨?_, rfl⟩
                  exact ⟨k + 1, s, M, R, T, by omega, by omega, by go_num, hid (Nat.le_succ_of_le HLN.out), HK11⟩
                case measure => simp [intOf]; omega
              · by_cases hkm2 : k < m2
                · have hk4 : ¬ k < 30 := fun h => hgo ⟨hkm2, h⟩
                  clear hgo
                  have hR0 := SvRow.empty wr (base := wr.heap.size) rfl (Nat.le_refl _)
                  have HR0 := hid hR0
                  have HB0 := hid (show Below wr.heap.size wr (wr.alloc (.cells #[] 44)) from (Below.refl _ _).alloc (Nat.le_refl _) _)
                  have HA3W := hid ((HA3.out.below HK.out.dk.below).below (HB0.out.mono HK.out.dk.below.size))
                  have HLEN := hid (show ([] : List (Int × Int)).length + l.length ≤ 1099511627776 by have := HM3.out; have := HL60.out; simp; omega)
                  have HBA := hid HB0.out.size
                  clear hR0
                  go_wp2_with (at_builtin; go_must (refine wpList_append_sv _ rfl _ _ rfl wr.heap.size rfl HR0.out rfl HM3.out HA3W.out HLEN.out HBA.out ?_))
                  intro A7 m7 c7 w9 hr9 hm9 hb9 hg9
                  have HK9 := hid (HK.out.step HF.out (HB0.out.trans hb9))
                  have HLTK := hid (HF.out.lt HK.out.dk.at_)
                  have HCR := hid (HF.out.crash (l := l) (c := c7) HK9.out.dk.at_ hr9.at_ hr9.1 (Nat.le_refl _) (hr9.off fun j hj => HLTK.out j (.inl hj)) (by have h1 := hr9.1; have := HLEN.out; simp at h1 this; omega))
                  clear hr9 hm9 hb9 hg9
                  go_wp2_with fail
                  go_fit HCR.out
                  rintro e w10 ⟨rfl, M', R', hd, ht⟩
                  have HD10 := hid (HK9.out.dk.turn hd ht)
                  have HKR0 := hid (show Rows7 w5 w10 bT G T from ⟨HK9.out.was.of_block (ht.block _ HK9.out.was.lt HK9.out.f0.1), HK9.out.use.of_block (ht.block _ HK9.out.use.lt HK9.out.f1.1), HK9.out.tch.of_block (ht.block _ HK9.out.tch.lt HK9.out.f2.1)⟩)
                  have HVW := hid (fun (j : Nat) (hj : j < 21) (hT : T j = false) => HK9.out.kp.crash l hj hT)
                  clear hd ht HCR
                  go_wp2_with fail
                  go_loopw [20] (fun i wr => ∃ j : Nat, j ≤ 21 ∧ i = .int .i64 (j : Int) ∧ Kept (Below w10.heap.size w10 wr)) (fun i _ => 21 - (intOf i).toNat)
                  case atStart => exact ⟨0, Nat.zero_le _, rfl, hid (Below.refl _ _)⟩
                  case round =>
                    obtain ⟨j, hj, rfl, HB⟩ := hrel
                    by_cases hlt : j < 21
                    · have HRD := hid (HF.out.read (i := (j : Int)) (HF.out.step HD10.out.at_ HB.out))
                      have HKR := HKR0
                      cases hT : T j with
                      | true =>
                        have HTJ := hid hT
                        clear hT
                        cases hv : (s.crash l).view (j : Int) with
                        | none =>
                          rw [hv] at HRD
                          clear hv
                          go_wp2_with fail
                          go_fit HRD.out
                          rintro e w11 ⟨rfl, hb11⟩
                          have HB11 := hid (below_step HB.out hb11)
                          have HK12 := hid (HKR.out.step HB11.out)
                          have hcv : ∀ q, (convert 36 9 (.slice none 0 0)).run Try.prog (w11.drewN q) = .ok (.string ⟨#[]⟩) (w11.drewN q) := fun q => str_of (w := w11.drewN q) (A := none) (m := 0) (c := 0) (l := []) (At.nil _ 0 _) rfl
                          clear hb11
                          have q0 := HK12.out.was.cell hlt
                          have q1 := HK12.out.use.cell hlt
                          have q2 := HK12.out.tch.cell hlt
                          rw [HTJ.out] at q2
                          go_wp2_with fail
                          go_quiet (fail)
                          go_wp2_with fail
                          go_roundw
                          case rel => exact ⟨j + 1, by omega, by go_num, hid (below_drewN HB11.out _)⟩
                          case measure => simp [intOf]; omega
                        | some bb =>
                          rw [hv] at HRD
                          clear hv
                          go_wp2_with fail
                          go_fit HRD.out
                          rintro e w11 ⟨⟨Aa, na, ca, rfl, ha1, ha2, ha3⟩, hb11⟩
                          have HB11 := hid (below_step HB.out hb11)
                          have HK12 := hid (HKR.out.step HB11.out)
                          have hcv : ∀ q, (convert 36 9 (.slice Aa na ca)).run Try.prog (w11.drewN q) = .ok (.string (bst bb)) (w11.drewN q) := fun q => str_of (w := w11.drewN q) (c := ca) (show At (w11.drewN q) w11.heap.size Aa bb from ha1) ha2
                          have tb := bst_toList bb
                          clear hb11 ha1 ha2 ha3
                          have q0 := HK12.out.was.cell hlt
                          have q1 := HK12.out.use.cell hlt
                          have q2 := HK12.out.tch.cell hlt
                          rw [HTJ.out] at q2
                          go_wp2_with fail
                          go_quiet (fail)
                          go_wp2_with fail
                          go_roundw
                          case rel => exact ⟨j + 1, by omega, by go_num, hid (below_drewN HB11.out _)⟩
                          case measure => simp [intOf]; omega
                      | false =>
                        have HTJ := hid hT
                        rw [HVW.out j hlt hT] at HRD
                        clear hT
                        cases hv : G (j : Int) with
                        | none =>
                          rw [hv] at HRD
                          have hu : wasV G j = .string ⟨#[]⟩ := by unfold wasV; rw [hv]; rfl
                          have hu2 : useV G j = .bool false := by unfold useV; rw [hv]; rfl
                          clear hv
                          go_wp2_with fail
                          go_fit HRD.out
                          rintro e w11 ⟨rfl, hb11⟩
                          have HB11 := hid (below_step HB.out hb11)
                          have HK12 := hid (HKR.out.step HB11.out)
                          have hcv : ∀ q, (convert 36 9 (.slice none 0 0)).run Try.prog (w11.drewN q) = .ok (.string ⟨#[]⟩) (w11.drewN q) := fun q => str_of (w := w11.drewN q) (A := none) (m := 0) (c := 0) (l := []) (At.nil _ 0 _) rfl
                          clear hb11
                          have q0 := HK12.out.was.cell hlt
                          have q1 := HK12.out.use.cell hlt
                          have q2 := HK12.out.tch.cell hlt
                          rw [HTJ.out] at q2
                          rw [hu] at q0
                          rw [hu2] at q1
                          clear hu hu2
                          go_wp2_with fail
                          go_quiet (fail)
                          go_wp2_with fail
                          go_roundw
                          case rel => exact ⟨j + 1, by omega, by go_num, hid (below_drewN HB11.out _)⟩
                          case measure => simp [intOf]; omega
                        | some bb =>
                          rw [hv] at HRD
                          have hu : wasV G j = .string (bst bb) := by unfold wasV; rw [hv]; rfl
                          have hu2 : useV G j = .bool true := by unfold useV; rw [hv]; rfl
                          clear hv
                          go_wp2_with fail
                          go_fit HRD.out
                          rintro e w11 ⟨⟨Aa, na, ca, rfl, ha1, ha2, ha3⟩, hb11⟩
                          have HB11 := hid (below_step HB.out hb11)
                          have HK12 := hid (HKR.out.step HB11.out)
                          have hcv : ∀ q, (convert 36 9 (.slice Aa na ca)).run Try.prog (w11.drewN q) = .ok (.string (bst bb)) (w11.drewN q) := fun q => str_of (w := w11.drewN q) (c := ca) (show At (w11.drewN q) w11.heap.size Aa bb from ha1) ha2
                          have tb := bst_toList bb
                          clear hb11 ha1 ha2 ha3
                          have q0 := HK12.out.was.cell hlt
                          have q1 := HK12.out.use.cell hlt
                          have q2 := HK12.out.tch.cell hlt
                          rw [HTJ.out] at q2
                          rw [hu] at q0
                          rw [hu2] at q1
                          clear hu hu2
                          go_wp2_with fail
                          go_quiet (fail)
                          go_wp2_with fail
                          go_roundw
                          case rel => exact ⟨j + 1, by omega, by go_num, hid (below_drewN HB11.out _)⟩
                          case measure => simp [intOf]; omega
                    · have HP := hid (HF.out.pending (HF.out.step HD10.out.at_ HB.out))
                      have hpe : ((s.crash l).pend.length : Int) = 0 := rfl
                      rw [hpe] at HP
                      clear hpe
                      go_wp2_with fail
                      go_fit HP.out
                      rintro e w12 ⟨rfl, hb12⟩
                      have HB12 := hid (HD10.out.below.trans ((below_step HB.out hb12).mono HD10.out.below.size))
                      clear hb12
                      go_wp2_with fail
                      go_ret
                      exact ⟨rfl, HB12.out⟩
                · clear hgo
                  have hR0 := SvRow.empty wr (base := wr.heap.size) rfl (Nat.le_refl _)
                  have HR0 := hid hR0
                  have HB0 := hid (show Below wr.heap.size wr (wr.alloc (.cells #[] 44)) from (Below.refl _ _).alloc (Nat.le_refl _) _)
                  have HA3W := hid ((HA3.out.below HK.out.dk.below).below (HB0.out.mono HK.out.dk.below.size))
                  have HLEN := hid (show ([] : List (Int × Int)).length + l.length ≤ 1099511627776 by have := HM3.out; have := HL60.out; simp; omega)
                  have HBA := hid HB0.out.size
                  clear hR0
                  go_wp2_with (at_builtin; go_must (refine wpList_append_sv _ rfl _ _ rfl wr.heap.size rfl HR0.out rfl HM3.out HA3W.out HLEN.out HBA.out ?_))
                  intro A7 m7 c7 w9 hr9 hm9 hb9 hg9
                  have HK9 := hid (HK.out.step HF.out (HB0.out.trans hb9))
                  have HLTK := hid (HF.out.lt HK.out.dk.at_)
                  have HCR := hid (HF.out.crash (l := l) (c := c7) HK9.out.dk.at_ hr9.at_ hr9.1 (Nat.le_refl _) (hr9.off fun j hj => HLTK.out j (.inl hj)) (by have h1 := hr9.1; have := HLEN.out; simp at h1 this; omega))
                  clear hr9 hm9 hb9 hg9
                  go_wp2_with fail
                  go_fit HCR.out
                  rintro e w10 ⟨rfl, M', R', hd, ht⟩
                  have HD10 := hid (HK9.out.dk.turn hd ht)
                  have HKR0 := hid (show Rows7 w5 w10 bT G T from ⟨HK9.out.was.of_block (ht.block _ HK9.out.was.lt HK9.out.f0.1), HK9.out.use.of_block (ht.block _ HK9.out.use.lt HK9.out.f1.1), HK9.out.tch.of_block (ht.block _ HK9.out.tch.lt HK9.out.f2.1)⟩)
                  have HVW := hid (fun (j : Nat) (hj : j < 21) (hT : T j = false) => HK9.out.kp.crash l hj hT)
                  clear hd ht HCR
                  go_wp2_with fail
                  go_loopw [20] (fun i wr => ∃ j : Nat, j ≤ 21 ∧ i = .int .i64 (j : Int) ∧ Kept (Below w10.heap.size w10 wr)) (fun i _ => 21 - (intOf i).toNat)
                  case atStart => exact ⟨0, Nat.zero_le _, rfl, hid (Below.refl _ _)⟩
                  case round =>
                    obtain ⟨j, hj, rfl, HB⟩ := hrel
                    by_cases hlt : j < 21
                    · have HRD := hid (HF.out.read (i := (j : Int)) (HF.out.step HD10.out.at_ HB.out))
                      have HKR := HKR0
                      cases hT : T j with
                      | true =>
                        have HTJ := hid hT
                        clear hT
                        cases hv : (s.crash l).view (j : Int) with
                        | none =>
                          rw [hv] at HRD
                          clear hv
                          go_wp2_with fail
                          go_fit HRD.out
                          rintro e w11 ⟨rfl, hb11⟩
                          have HB11 := hid (below_step HB.out hb11)
                          have HK12 := hid (HKR.out.step HB11.out)
                          have hcv : ∀ q, (convert 36 9 (.slice none 0 0)).run Try.prog (w11.drewN q) = .ok (.string ⟨#[]⟩) (w11.drewN q) := fun q => str_of (w := w11.drewN q) (A := none) (m := 0) (c := 0) (l := []) (At.nil _ 0 _) rfl
                          clear hb11
                          have q0 := HK12.out.was.cell hlt
                          have q1 := HK12.out.use.cell hlt
                          have q2 := HK12.out.tch.cell hlt
                          rw [HTJ.out] at q2
                          go_wp2_with fail
                          go_quiet (fail)
                          go_wp2_with fail
                          go_roundw
                          case rel => exact ⟨j + 1, by omega, by go_num, hid (below_drewN HB11.out _)⟩
                          case measure => simp [intOf]; omega
                        | some bb =>
                          rw [hv] at HRD
                          clear hv
                          go_wp2_with fail
                          go_fit HRD.out
                          rintro e w11 ⟨⟨Aa, na, ca, rfl, ha1, ha2, ha3⟩, hb11⟩
                          have HB11 := hid (below_step HB.out hb11)
                          have HK12 := hid (HKR.out.step HB11.out)
                          have hcv : ∀ q, (convert 36 9 (.slice Aa na ca)).run Try.prog (w11.drewN q) = .ok (.string (bst bb)) (w11.drewN q) := fun q => str_of (w := w11.drewN q) (c := ca) (show At (w11.drewN q) w11.heap.size Aa bb from ha1) ha2
                          have tb := bst_toList bb
                          clear hb11 ha1 ha2 ha3
                          have q0 := HK12.out.was.cell hlt
                          have q1 := HK12.out.use.cell hlt
                          have q2 := HK12.out.tch.cell hlt
                          rw [HTJ.out] at q2
                          go_wp2_with fail
                          go_quiet (fail)
                          go_wp2_with fail
                          go_roundw
                          case rel => exact ⟨j + 1, by omega, by go_num, hid (below_drewN HB11.out _)⟩
                          case measure => simp [intOf]; omega
                      | false =>
                        have HTJ := hid hT
                        rw [HVW.out j hlt hT] at HRD
                        clear hT
                        cases hv : G (j : Int) with
                        | none =>
                          rw [hv] at HRD
                          have hu : wasV G j = .string ⟨#[]⟩ := by unfold wasV; rw [hv]; rfl
                          have hu2 : useV G j = .bool false := by unfold useV; rw [hv]; rfl
                          clear hv
                          go_wp2_with fail
                          go_fit HRD.out
                          rintro e w11 ⟨rfl, hb11⟩
                          have HB11 := hid (below_step HB.out hb11)
                          have HK12 := hid (HKR.out.step HB11.out)
                          have hcv : ∀ q, (convert 36 9 (.slice none 0 0)).run Try.prog (w11.drewN q) = .ok (.string ⟨#[]⟩) (w11.drewN q) := fun q => str_of (w := w11.drewN q) (A := none) (m := 0) (c := 0) (l := []) (At.nil _ 0 _) rfl
                          clear hb11
                          have q0 := HK12.out.was.cell hlt
                          have q1 := HK12.out.use.cell hlt
                          have q2 := HK12.out.tch.cell hlt
                          rw [HTJ.out] at q2
                          rw [hu] at q0
                          rw [hu2] at q1
                          clear hu hu2
                          go_wp2_with fail
                          go_quiet (fail)
                          go_wp2_with fail
                          go_roundw
                          case rel => exact ⟨j + 1, by omega, by go_num, hid (below_drewN HB11.out _)⟩
                          case measure => simp [intOf]; omega
                        | some bb =>
                          rw [hv] at HRD
                          have hu : wasV G j = .string (bst bb) := by unfold wasV; rw [hv]; rfl
                          have hu2 : useV G j = .bool true := by unfold useV; rw [hv]; rfl
                          clear hv
                          go_wp2_with fail
                          go_fit HRD.out
                          rintro e w11 ⟨⟨Aa, na, ca, rfl, ha1, ha2, ha3⟩, hb11⟩
                          have HB11 := hid (below_step HB.out hb11)
                          have HK12 := hid (HKR.out.step HB11.out)
                          have hcv : ∀ q, (convert 36 9 (.slice Aa na ca)).run Try.prog (w11.drewN q) = .ok (.string (bst bb)) (w11.drewN q) := fun q => str_of (w := w11.drewN q) (c := ca) (show At (w11.drewN q) w11.heap.size Aa bb from ha1) ha2
                          have tb := bst_toList bb
                          clear hb11 ha1 ha2 ha3
                          have q0 := HK12.out.was.cell hlt
                          have q1 := HK12.out.use.cell hlt
                          have q2 := HK12.out.tch.cell hlt
                          rw [HTJ.out] at q2
                          rw [hu] at q0
                          rw [hu2] at q1
                          clear hu hu2
                          go_wp2_with fail
                          go_quiet (fail)
                          go_wp2_with fail
                          go_roundw
                          case rel => exact ⟨j + 1, by omega, by go_num, hid (below_drewN HB11.out _)⟩
                          case measure => simp [intOf]; omega
                    · have HP := hid (HF.out.pending (HF.out.step HD10.out.at_ HB.out))
                      have hpe : ((s.crash l).pend.length : Int) = 0 := rfl
                      rw [hpe] at HP
                      clear hpe
                      go_wp2_with fail
                      go_fit HP.out
                      rintro e w12 ⟨rfl, hb12⟩
                      have HB12 := hid (HD10.out.below.trans ((below_step HB.out hb12).mono HD10.out.below.size))
                      clear hb12
                      go_wp2_with fail
                      go_ret
                      exact ⟨rfl, HB12.out⟩

end Go.Proofs.Ytlemoaigcakmcaa
