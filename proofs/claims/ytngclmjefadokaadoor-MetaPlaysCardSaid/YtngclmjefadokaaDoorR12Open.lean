/-
  The document's meta page: Open.
-/
import Derived.Test.YtngclmjefadokaaDoorMOpen
import Derived.Test.YtngclmjefadokaaDoorJRec
import Derived.Test.YtngclmjefadokaaDoorJSL
import Derived.Test.YtngclmjefadokaaDoorJR6
namespace Go.Proofs.YtngclmjefadokaaDoor
open Go Go.RowKit

/-- where it was written last, as the document has it -/
def lastI (m : Mo) (l : Int) : Prop := l = -1 ∧ m.nx = 0 ∧ m.e = 121 ∧ m.b = [] ∨ l = 0 ∧ m.nx = 1 ∧ m.e = 0 ∨ l = 1 ∧ m.nx = 0 ∧ m.e = 0
set_option maxHeartbeats 8000000 in
set_option maxRecDepth 100000 in
theorem open12_no {P : Nat → Prop} {w : World} {v : Value} {s : Dk} {a : Int} (hD : D6 P w v s) (h : a < 0 ∨ 65534 < a) : Calls Tryd.prog 10 #[v, .int .i64 a] w fun e w' => e = .returned (.tuple #[.agg #[.int .i64 0, .int .i64 0, .int .u64 0], .string ⟨#[]⟩, .int .i64 122]) ∧ Below w.heap.size w w' := by
  obtain ⟨sz, lm, A1, A2, A3, n1, n2, n3, c1, c2, c3, rfl⟩ := hD.shape
  clear hD
  by_cases h0 : a < 0
  · clear h
    go_enter Tryd.func10, Tryd.ntmps10
    go_wp2_with fail
    refine bodyPost_ret (v := .tuple #[.agg #[.int .i64 0, .int .i64 0, .int .u64 0], .string ⟨#[]⟩, .int .i64 122]) (by simp [results, Tryd.results10, go_sem]) rfl ⟨rfl, ?_⟩
    exact ((Below.refl w.heap.size w).alloc (Nat.le_refl _) _).alloc (by simp) _
  · have h1 : a > 65534 := by omega
    clear h
    go_enter Tryd.func10, Tryd.ntmps10
    go_wp2_with fail
    refine bodyPost_ret (v := .tuple #[.agg #[.int .i64 0, .int .i64 0, .int .u64 0], .string ⟨#[]⟩, .int .i64 122]) (by simp [results, Tryd.results10, go_sem]) rfl ⟨rfl, ?_⟩
    exact ((Below.refl w.heap.size w).alloc (Nat.le_refl _) _).alloc (by simp) _

theorem lastI_pick {k q : Nat} {x : List UInt8} (h : k < 2) : lastI ⟨1 - k, q, x, 0⟩ (k : Int) := by
  have h2 : k = 0 ∨ k = 1 := by omega
  rcases h2 with rfl | rfl
  · exact .inr (.inl ⟨rfl, rfl, rfl⟩)
  · exact .inr (.inr ⟨rfl, rfl, rfl⟩)
/-- the boxes on the way -/
structure K12 (w W : World) (cs ms : Array Value) : Prop where
  d : Blk W w.heap.size 30 cs
  z : Blk W (w.heap.size + 1) 39 #[.int .i64 0, .int .i64 0, .int .u64 0]
  m : Blk W (w.heap.size + 2) 39 ms
  b : Below w.heap.size w W
theorem K12.g {w W : World} {cs ms : Array Value} (h : K12 w W cs ms) : w.heap.size + 3 ≤ W.heap.size := h.m.lt
theorem K12.step {w W W' : World} {cs ms : Array Value} (h : K12 w W cs ms) (hb : Below W.heap.size W W') : K12 w W' cs ms := ⟨h.d.below hb h.d.lt, h.z.below hb h.z.lt, h.m.below hb h.m.lt, below_step h.b hb⟩
theorem K12.put {w W W' : World} {cs ms ms' : Array Value} (h : K12 w W cs ms) (hm : Blk W' (w.heap.size + 2) 39 ms') (ho : Only (w.heap.size + 2) W W') : K12 w W' cs ms' :=
  ⟨h.d.grown ho (fun e => by injection e; omega), h.z.grown ho (fun e => by injection e; omega), hm, ⟨ho.os.trans h.b.os, ho.tape.trans h.b.tape, ho.output.trans h.b.output, Nat.le_trans h.b.size ho.size, fun k hk => (ho.block k (Nat.lt_of_lt_of_le hk h.b.size) (fun e => by injection e; omega)).trans (h.b.block k hk)⟩⟩
theorem drew_set12 (W : World) (p : Addr) (u : Value) : W.drew.setCell p u = (W.setCell p u).drew := rfl

set_option maxHeartbeats 8000000 in
set_option maxRecDepth 100000 in
theorem open12_yes {P : Nat → Prop} {w : World} {v : Value} {s : Dk} {a : Int} (hD : D6 P w v s) (h0 : ¬ a < 0) (h1 : ¬ a > 65534) :
    Calls Tryd.prog 10 #[v, .int .i64 a] w fun e w' => ∃ l, e = .returned (.tuple #[.agg #[.int .i64 a, .int .i64 l, .int .u64 ((mopen s.view a).q : Int)], .string (bst (mopen s.view a).b), .int .i64 ((mopen s.view a).e : Int)]) ∧ lastI (mopen s.view a) l ∧ Below w.heap.size w w' := by
  have hsm := fun i b => hD.view_le (i := i) (b := b)
  obtain ⟨V, G, A1, A2, A3, c1, c2, c3, rfl, hV, hG, hA1, hA2, hA3, hc1, hc2, hc3, _⟩ := hD.ex
  have HV := hid hV
  have HA1 := hid hA1
  have HVL := hid (Nat.le_trans hV.le hD.size)
  have HSM := hid (show ∀ i b, s.view i = some b → b.length ≤ 512 from fun i b hb => (hsm i b hb).1)
  obtain ⟨sz, hsz⟩ : ∃ sz : Int, sz = (s.size : Int) := ⟨_, rfl⟩
  obtain ⟨lm, hlm⟩ : ∃ lm, lm = s.limit := ⟨_, rfl⟩
  obtain ⟨n1, hn1⟩ : ∃ n, n = V.length := ⟨_, rfl⟩
  obtain ⟨n2, hn2⟩ : ∃ n, n = G.length := ⟨_, rfl⟩
  obtain ⟨n3, hn3⟩ : ∃ n, n = s.pend.length := ⟨_, rfl⟩
  rw [← hsz, ← hlm, ← hn1, ← hn2, ← hn3]
  have HN1 := hid hn1
  have hok := mfold_ok s.view a
  rw [mopen_fold]
  obtain ⟨F, hF⟩ : ∃ F : Nat → Mo, F = mfold s.view a := ⟨_, rfl⟩
  rw [← hF] at hok ⊢
  have HF0 := hid (show F 0 = mo0 by rw [hF]; rfl)
  have HFS := hid (show ∀ k, F (k + 1) = mpick k (msec (s.view (a + (k : Int)))) (F k) by intro k; rw [hF]; rfl)
  have HA := hid (And.intro h0 h1)
  have HK := hid (show K12 w (((w.alloc (.cells #[.int .i64 sz, .int .i64 lm, .slice A1 n1 c1, .slice A2 n2 c2, .slice A3 n3 c3] 30)).alloc (.cells #[.int .i64 0, .int .i64 0, .int .u64 0] 39)).alloc (.cells #[.int .i64 a, .int .i64 (-1), .int .u64 0] 39)) #[.int .i64 sz, .int .i64 lm, .slice A1 n1 c1, .slice A2 n2 c2, .slice A3 n3 c3] #[.int .i64 a, .int .i64 (-1), .int .u64 0] from by
    have s1 : (w.alloc (.cells #[.int .i64 sz, .int .i64 lm, .slice A1 n1 c1, .slice A2 n2 c2, .slice A3 n3 c3] 30)).heap.size = w.heap.size + 1 := by simp
    have s2 : ((w.alloc (.cells #[.int .i64 sz, .int .i64 lm, .slice A1 n1 c1, .slice A2 n2 c2, .slice A3 n3 c3] 30)).alloc (.cells #[.int .i64 0, .int .i64 0, .int .u64 0] 39)).heap.size = w.heap.size + 2 := by simp
    have x1 := Blk.new (w.alloc (.cells #[.int .i64 sz, .int .i64 lm, .slice A1 n1 c1, .slice A2 n2 c2, .slice A3 n3 c3] 30)) 39 #[.int .i64 0, .int .i64 0, .int .u64 0]
    have x2 := Blk.new ((w.alloc (.cells #[.int .i64 sz, .int .i64 lm, .slice A1 n1 c1, .slice A2 n2 c2, .slice A3 n3 c3] 30)).alloc (.cells #[.int .i64 0, .int .i64 0, .int .u64 0] 39)) 39 #[.int .i64 a, .int .i64 (-1), .int .u64 0]
    rw [s1] at x1
    rw [s2] at x2
    exact ⟨((Blk.new w _ _).alloc _).alloc _, x1.alloc _, x2, (((Below.refl _ _).alloc (Nat.le_refl _) _).alloc (by simp) _).alloc (by simp; omega) _⟩)
  clear hD hV hG hA1 hA2 hA3 hc1 hc2 hc3 hF hok hsm hsz hlm hn1 hn2 hn3
  have e2 : w.heap.size + 1 + 1 = w.heap.size + 2 := rfl
  go_enter Tryd.func10, Tryd.ntmps10
  go_upto_region 4 with fail
  generalize ((w.alloc (.cells #[.int .i64 sz, .int .i64 lm, .slice A1 n1 c1, .slice A2 n2 c2, .slice A3 n3 c3] 30)).alloc (.cells #[.int .i64 0, .int .i64 0, .int .u64 0] 39)).alloc (.cells #[.int .i64 a, .int .i64 (-1), .int .u64 0] 39) = w1 at *
  clear h0 h1
  go_wp2_with fail
  go_loopw [8, 9] (fun y x wr => ∃ (k : Nat) (l : Int), k ≤ 2 ∧ y = .string (bst (F k).b) ∧ x = .int .i64 (k : Int) ∧ lastI (F k) l ∧ Kept (K12 w wr #[.int .i64 sz, .int .i64 lm, .slice A1 n1 c1, .slice A2 n2 c2, .slice A3 n3 c3] #[.int .i64 a, .int .i64 l, .int .u64 ((F k).q : Int)])) (fun _ x _ => 2 - (intOf x).toNat)
  case atStart => exact ⟨0, -1, by decide, by rw [HF0.out]; rfl, rfl, by rw [HF0.out]; exact .inl ⟨rfl, rfl, rfl, rfl⟩, by rw [HF0.out]; exact HK⟩
  case round =>
    obtain ⟨k, l, hk, rfl, rfl, hli, HKR⟩ := hrel
    clear HK
    have HLI := hid hli
    clear hli
    by_cases hlt : k < 2
    · have hw : IntKind.i64.wrap (a + (k : Int)) = a + (k : Int) := by rw [IntKind.wrap_i64]; have := HA.out; omega
      have hfi := find6_any (c := c1) (w := wr) (a + (k : Int)) ((HA1.out.below HKR.out.b).more HKR.out.b.size) HN1.out HVL.out
      rw [HV.out.is] at hfi
      have hfs := HFS.out k
      have hsm := HSM.out (a + (k : Int))
      generalize F k = m0 at *
      obtain ⟨nx0, q0, b0, e0⟩ := m0
      dsimp only at *
      generalize s.view (a + (k : Int)) = vw at *
      have HFI := hid hfi
      have HFK := hid hfs
      have d2 := HKR.out.d.cell 2
      clear hfi hfs
      go_wp2_with fail
      go_fit HFI.out
      rintro e w4 ⟨rfl, hw4⟩
      obtain rfl : wr = w4 := hw4
      cases vw with
      | none =>
        have HGT := hid (refRGet_any [] wr (by decide))
        rw [rget_nil, show bst [] = ⟨#[]⟩ from rfl] at HGT
        have HF1 := hid (show F (k + 1) = ⟨nx0, q0, b0, e0⟩ from HFK.out)
        rw [show bst ((none : Option (List UInt8)).getD []) = ⟨#[]⟩ from rfl, show (none : Option (List UInt8)).isSome = false from rfl]
        clear hsm HFI
        go_wp2_with fail
        go_fit HGT.out
        rintro e w5 ⟨rfl, hb5⟩
        have HK5 := hid (HKR.out.step hb5)
        unfold recV
        clear hb5 HKR HGT
        have HR6 := hid (Blk.new w5 71 #[.int .u64 0, .string ⟨#[]⟩])
        have hb6 := (Below.refl w5.heap.size w5).alloc (Nat.le_refl _) (.cells #[.int .u64 0, .string ⟨#[]⟩] 71)
        have HK6 := hid (HK5.out.step hb6)
        have HG6 := hid (show w.heap.size + 3 ≤ w5.heap.size from HK5.out.g)
        clear hb6 HK5 d2
        go_upto_region 9 with fail
        generalize w5.alloc (.cells #[.int .u64 0, .string ⟨#[]⟩] 71) = w6 at *
        generalize w5.heap.size = gr at *
        have m2 := HK6.out.m.cell 2
        have r0 := HR6.out.cell 0
        go_wp2_with fail
        go_roundw
        case rel => exact ⟨k + 1, l, by omega, by rw [HF1.out], by go_num, by rw [HF1.out]; exact HLI.out, by rw [HF1.out]; exact hid HK6.out⟩
        case measure => simp [intOf]; omega
      | some bb =>
        have hbl := hsm bb rfl
        have z := bst_size bb
        have HGT := hid (refRGet_any bb wr (by omega))
        rw [show bst ((some bb).getD []) = bst bb from rfl, show (some bb).isSome = true from rfl]
        clear hsm HFI
        go_wp2_with fail
        go_fit HGT.out
        rintro e w5 ⟨rfl, hb5⟩
        have HK5 := hid (HKR.out.step hb5)
        clear hb5 HKR HGT
        cases hg : rget bb with
        | none =>
          have HF1 := hid (show F (k + 1) = ⟨nx0, q0, b0, e0⟩ from by rw [HFK.out, msec_not hg]; rfl)
          unfold recV
          clear hg
          have HR6 := hid (Blk.new w5 71 #[.int .u64 0, .string ⟨#[]⟩])
          have hb6 := (Below.refl w5.heap.size w5).alloc (Nat.le_refl _) (.cells #[.int .u64 0, .string ⟨#[]⟩] 71)
          have HK6 := hid (HK5.out.step hb6)
          have HG6 := hid (show w.heap.size + 3 ≤ w5.heap.size from HK5.out.g)
          clear hb6 HK5 d2
          go_upto_region 9 with fail
          generalize w5.alloc (.cells #[.int .u64 0, .string ⟨#[]⟩] 71) = w6 at *
          generalize w5.heap.size = gr at *
          have m2 := HK6.out.m.cell 2
          have r0 := HR6.out.cell 0
          go_wp2_with fail
          go_roundw
          case rel => exact ⟨k + 1, l, by omega, by rw [HF1.out], by go_num, by rw [HF1.out]; exact HLI.out, by rw [HF1.out]; exact hid HK6.out⟩
          case measure => simp [intOf]; omega
        | some y =>
          obtain ⟨q, x, n⟩ := y
          unfold recV
          dsimp only
          by_cases hn : n = bb.length
          · by_cases hq : q0 < q
            · have HF1 := hid (show F (k + 1) = ⟨1 - k, q, x, 0⟩ from by rw [HFK.out, msec_hit (hn ▸ hg) (by omega)]; exact mpick_yes hq)
              have hqi : (q : Int) > (q0 : Int) := by omega
              have hni : (n : Int) = (bb.length : Int) := by omega
              have hne : ((n : Int) == (bb.length : Int)) = true := by simp; omega
              clear hg
              have HR6 := hid (Blk.new w5 71 #[.int .u64 (q : Int), .string (bst x)])
              have hb6 := (Below.refl w5.heap.size w5).alloc (Nat.le_refl _) (.cells #[.int .u64 (q : Int), .string (bst x)] 71)
              have HK6 := hid (HK5.out.step hb6)
              have HG6 := hid (show w.heap.size + 3 ≤ w5.heap.size from HK5.out.g)
              clear hb6 HK5 d2
              go_upto_region 9 with fail
              generalize w5.alloc (.cells #[.int .u64 (q : Int), .string (bst x)] 71) = w6 at *
              generalize w5.heap.size = gr at *
              have m2 := HK6.out.m.cell 2
              have r0 := HR6.out.cell 0
              go_upto_region 10 with fail
              have m1 := HK6.out.m.cell 1
              have f1 := HK6.out.m.free 1
              have f2 := HK6.out.m.free 2
              have z0 : ∀ W, Only (w.heap.size + 2) w6 W → W.cell? ⟨gr, 0, none⟩ = some (.int .u64 (q : Int)) := fun W ho => (HR6.out.grown ho (fun e => by injection e; have := HG6.out; omega)).cell 0
              have z1 : ∀ W, Only (w.heap.size + 2) w6 W → W.cell? ⟨gr, 1, none⟩ = some (.string (bst x)) := fun W ho => (HR6.out.grown ho (fun e => by injection e; have := HG6.out; omega)).cell 1
              refine wp_region_held_drew (S := Only (w.heap.size + 2) w6) (by kernel_rfl) (Only.refl (w.heap.size + 2) w6).drew (fun hS => ?_)
              refine stT 0 hS ?_
              try simp only [putr]
              refine stT 1 hS ?_
              try simp only [putr]
              refine stT 2 hS ?_
              try simp only [putr]
              refine stT 3 hS ?_
              try simp only [putr]
              refine stT 4 hS ?_
              try simp only [putr]
              refine stT 5 hS ?_
              try simp only [putr]
              refine rdH [6] ?_
              refine rcH (fun K hK => ?_) AllReadyH.nil
              go_simp
              refine hK.out _ _ ((by have hz := Only.set (i := 2) hS (.int .u64 (q : Int)); simpa only [drew_set12] using hz)) (fun hS6 => ?_)
              clear hK K hS
              have hS := hS6
              try simp only [Act.put]
              refine stT 7 hS ?_
              try simp only [putr]
              refine rdH [8] ?_
              refine rcH (fun K hK => ?_) AllReadyH.nil
              go_simp
              refine hK.out _ _ ((by have hz := Only.set (i := 1) hS (.int .i64 (k : Int)); simpa only [drew_set12] using hz)) (fun hS8 => ?_)
              clear hK K hS
              have hS := hS8
              try simp only [Act.put]
              refine stT 9 hS ?_
              try simp only [putr]
              refine wpAnyH_done (by kernel_rfl) ?_ _
              have HK7 := hid (HK6.out.put (ms' := #[.int .i64 a, .int .i64 (k : Int), .int .u64 (q : Int)]) (by have hz := (HK6.out.m.set 2 (.int .u64 (q : Int))).set 1 (.int .i64 (k : Int)); simp at hz; exact hz) hS)
              have HLJ := hid (lastI_pick (q := q) (x := x) hlt)
              clear hS m1 m2 f1 f2 r0 z0 z1 HK6 HR6
              generalize ((w6.setCell ⟨w.heap.size + 2, 2, none⟩ (.int .u64 (q : Int))).setCell ⟨w.heap.size + 2, 1, none⟩ (.int .i64 (k : Int))).drew = w7 at *
              go_wp2_with fail
              go_roundw
              case rel => exact ⟨k + 1, k, by omega, by rw [HF1.out], by go_num, by rw [HF1.out]; exact HLJ.out, by rw [HF1.out]; exact hid HK7.out⟩
              case measure => simp [intOf]; omega
            · have HF1 := hid (show F (k + 1) = ⟨nx0, q0, b0, e0⟩ from by
                rw [HFK.out]
                by_cases h1 : 1 ≤ q
                · rw [msec_hit (hn ▸ hg) h1]; exact mpick_no hq
                · rw [msec_miss hg (fun e => h1 e.2)]; rfl)
              have hqi : ¬ (q : Int) > (q0 : Int) := by omega
              have hne : ((n : Int) == (bb.length : Int)) = true := by simp; omega
              clear hg
              have HR6 := hid (Blk.new w5 71 #[.int .u64 (q : Int), .string (bst x)])
              have hb6 := (Below.refl w5.heap.size w5).alloc (Nat.le_refl _) (.cells #[.int .u64 (q : Int), .string (bst x)] 71)
              have HK6 := hid (HK5.out.step hb6)
              have HG6 := hid (show w.heap.size + 3 ≤ w5.heap.size from HK5.out.g)
              clear hb6 HK5 d2
              go_upto_region 9 with fail
              generalize w5.alloc (.cells #[.int .u64 (q : Int), .string (bst x)] 71) = w6 at *
              generalize w5.heap.size = gr at *
              have m2 := HK6.out.m.cell 2
              have r0 := HR6.out.cell 0
              go_wp2_with fail
              go_roundw
              case rel => exact ⟨k + 1, l, by omega, by rw [HF1.out], by go_num, by rw [HF1.out]; exact HLI.out, by rw [HF1.out]; exact hid HK6.out⟩
              case measure => simp [intOf]; omega
          · have HF1 := hid (show F (k + 1) = ⟨nx0, q0, b0, e0⟩ from by rw [HFK.out, msec_miss hg (fun e => hn e.1)]; rfl)
            have hne : ((n : Int) == (bb.length : Int)) = false := by simp; omega
            clear hg
            have HR6 := hid (Blk.new w5 71 #[.int .u64 (q : Int), .string (bst x)])
            have hb6 := (Below.refl w5.heap.size w5).alloc (Nat.le_refl _) (.cells #[.int .u64 (q : Int), .string (bst x)] 71)
            have HK6 := hid (HK5.out.step hb6)
            have HG6 := hid (show w.heap.size + 3 ≤ w5.heap.size from HK5.out.g)
            clear hb6 HK5 d2
            go_upto_region 9 with fail
            generalize w5.alloc (.cells #[.int .u64 (q : Int), .string (bst x)] 71) = w6 at *
            generalize w5.heap.size = gr at *
            have m2 := HK6.out.m.cell 2
            have r0 := HR6.out.cell 0
            go_wp2_with fail
            go_roundw
            case rel => exact ⟨k + 1, l, by omega, by rw [HF1.out], by go_num, by rw [HF1.out]; exact HLI.out, by rw [HF1.out]; exact hid HK6.out⟩
            case measure => simp [intOf]; omega
    · obtain rfl : k = 2 := by omega
      clear hlt
      have hend : ∀ u0 u1 u2 : Value, Blk (((wr.setCell ⟨w.heap.size + 1, 0, none⟩ u0).setCell ⟨w.heap.size + 1, 1, none⟩ u1).setCell ⟨w.heap.size + 1, 2, none⟩ u2) (w.heap.size + 1) 39 #[u0, u1, u2] ∧ Below w.heap.size w (((wr.setCell ⟨w.heap.size + 1, 0, none⟩ u0).setCell ⟨w.heap.size + 1, 1, none⟩ u1).setCell ⟨w.heap.size + 1, 2, none⟩ u2) := fun u0 u1 u2 =>
        ⟨by simpa using ((HKR.out.z.set 0 u0).set 1 u1).set 2 u2, ((HKR.out.b.setCell (p := ⟨w.heap.size + 1, 0, none⟩) (Nat.le_succ _) _).setCell (p := ⟨w.heap.size + 1, 1, none⟩) (Nat.le_succ _) _).setCell (p := ⟨w.heap.size + 1, 2, none⟩) (Nat.le_succ _) _⟩
      have m0 := HKR.out.m.cell 0
      have m1 := HKR.out.m.cell 1
      have m2 := HKR.out.m.cell 2
      have z0 := HKR.out.z.cell 0
      have z1 := HKR.out.z.cell 1
      have z2 := HKR.out.z.cell 2
      have f0 := HKR.out.z.free 0
      have f1 := HKR.out.z.free 1
      have f2 := HKR.out.z.free 2
      obtain ⟨hb, hB⟩ := hend (.int .i64 a) (.int .i64 l) (.int .u64 ((F 2).q : Int))
      have r0 := hb.cell 0
      have r1 := hb.cell 1
      have r2 := hb.cell 2
      have HBE := hid hB
      clear hend hb hB
      by_cases hl : l < 0
      · have he : (F 2).e = 121 ∧ (F 2).b = [] := by
          rcases HLI.out with h | h | h
          · exact ⟨h.2.2.1, h.2.2.2⟩
          · omega
          · omega
        have HE := hid he
        clear he
        go_wp2_with fail
        refine bodyPost_ret (v := .tuple #[.agg #[.int .i64 a, .int .i64 l, .int .u64 ((F 2).q : Int)], .string ⟨#[]⟩, .int .i64 121]) (by simp [results, Tryd.results10, go_sem, r0, r1, r2]) rfl ?_
        exact ⟨l, by rw [HE.out.1, HE.out.2]; rfl, HLI.out, HBE.out⟩
      · have he : (F 2).e = 0 := by
          rcases HLI.out with h | h | h
          · omega
          · exact h.2.2
          · exact h.2.2
        have HE := hid he
        clear he
        go_wp2_with fail
        refine bodyPost_ret (v := .tuple #[.agg #[.int .i64 a, .int .i64 l, .int .u64 ((F 2).q : Int)], .string (bst (F 2).b), .int .i64 0]) (by simp [results, Tryd.results10, go_sem, r0, r1, r2]) rfl ?_
        exact ⟨l, by rw [HE.out]; rfl, HLI.out, HBE.out⟩

end Go.Proofs.YtngclmjefadokaaDoor
