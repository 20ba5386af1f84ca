/-
  The small calls: New, Used, Limit, Pending, Read, settle.
-/
import Derived.Test.YtlemoaigcakmcaaDView
import Derived.Test.YtlemoaigcakmcaaWords
namespace Go.Proofs.Ytlemoaigcakmcaa
open Go Go.RowKit

theorem PRow.of_block {w w' : World} {M : Nat → Prop} {A : Option Addr} {n c : Nat} {fs : List Value} (h : PRow w M A n c fs) (hk : ∀ g, (Value.slice A n c).ownBlock = some g → w'.heap[g]? = w.heap[g]?) : PRow w' M A n c fs := by
  refine ⟨h.len, ⟨h.own.1, ?_⟩, h.mine⟩
  rcases h.own.2 with h0 | ⟨g, cap, cur, hv, hg, hc, r⟩
  · exact .inl h0
  · exact .inr ⟨g, cap, cur, hv, hg, (hk g (by rw [hv]; rfl)).trans hc, r⟩
theorem PRow.ne {w : World} {M : Nat → Prop} {A : Option Addr} {n c d : Nat} {fs : List Value} {t : TypeId} {cs : Array Value} (h : PRow w M A n c fs) (hb : Blk w d t cs) (hne : 60 ≠ t) : ∀ g, (Value.slice A n c).ownBlock = some g → g ≠ d := by
  intro g hg
  rcases h.own.2 with ⟨hv, _⟩ | ⟨g', cap, cur, hv, _, hc, _⟩
  · rw [hv] at hg; cases hg
  · rw [hv] at hg
    injection hg with hg
    have e : g' = g := hg
    subst e
    rintro rfl
    unfold Blk at hb
    rw [hc] at hb
    injection hb with hb
    injection hb with _ ht
    exact hne ht
theorem PRow.ne_tab {w : World} {M : Nat → Prop} {A : Option Addr} {n c b k : Nat} {T : TabF} {fs : List Value} (h : PRow w M A n c fs) (hb : Tab w b T k) : ∀ g, (Value.slice A n c).ownBlock = some g → g ≠ b := by
  intro g hg
  rcases h.own.2 with ⟨hv, _⟩ | ⟨g', cap, cur, hv, _, hc, _⟩
  · rw [hv] at hg; cases hg
  · rw [hv] at hg
    injection hg with hg
    have e : g' = g := hg
    subst e
    rintro rfl
    obtain ⟨es, clock, he, _⟩ := hb.out
    rw [hc] at he
    cases he
theorem PRow.lt {w : World} {M : Nat → Prop} {A : Option Addr} {n c : Nat} {fs : List Value} (h : PRow w M A n c fs) : ∀ g, (Value.slice A n c).ownBlock = some g → g < w.heap.size := by
  intro g hg
  rcases h.own.2 with ⟨hv, _⟩ | ⟨g', cap, cur, hv, _, hc, _⟩
  · rw [hv] at hg; cases hg
  · rw [hv] at hg
    injection hg with hg
    have e : g' = g := hg
    subst e
    exact (Array.getElem?_eq_some_iff.1 hc).1
theorem PRow.only {w w' : World} {M : Nat → Prop} {A : Option Addr} {n c r : Nat} {fs : List Value} (h : PRow w M A n c fs) (ho : Only r w w') (hr : ∀ g, (Value.slice A n c).ownBlock = some g → g ≠ r) : PRow w' M A n c fs :=
  h.of_block fun g hg => ho.block g (h.lt g hg) (fun e => by injection e with e; exact hr g hg e)
theorem PRow.below {w w' : World} {M : Nat → Prop} {A : Option Addr} {n c : Nat} {fs : List Value} (h : PRow w M A n c fs) (hb : Below w.heap.size w w') : PRow w' M A n c fs := h.of_block fun g hg => hb.block g (h.lt g hg)

set_option maxHeartbeats 1000000 in
set_option maxRecDepth 100000 in
theorem used_is {w : World} {d g c n cap nc : Nat} {A : Option Addr} {ch : Chg} {fs : List Value} {M R : Nat → Prop} {s : Dk} (h : DIn w d g c A n cap ch nc fs M R s) :
    Calls Try.prog 15 #[.pointer (some ⟨d, 0, none⟩)] w fun e w' => e = .returned (.int .i64 (s.used : Int)) ∧ Below w.heap.size w w' := by
  obtain ⟨d0, d1, d2, d3, d4, d5, _, _, _, _⟩ := six h.blk
  clear h
  go_enter Try.func15, Try.ntmps15
  go_wp2_with fail
  go_ret
  exact ⟨rfl, Below.refl _ _⟩

set_option maxHeartbeats 1000000 in
set_option maxRecDepth 100000 in
theorem pending_is {w : World} {d g c n cap nc : Nat} {A : Option Addr} {ch : Chg} {fs : List Value} {M R : Nat → Prop} {s : Dk} (h : DIn w d g c A n cap ch nc fs M R s) :
    Calls Try.prog 13 #[.pointer (some ⟨d, 0, none⟩)] w fun e w' => e = .returned (.int .i64 (s.pend.length : Int)) ∧ Below w.heap.size w w' := by
  obtain ⟨d0, d1, d2, d3, d4, d5, _, _, _, _⟩ := six h.blk
  have hn : n = s.pend.length := h.row.len.trans h.ops.len
  clear h
  go_enter Try.func13, Try.ntmps13
  go_wp2_with fail
  go_ret
  exact ⟨rfl, Below.refl _ _⟩

set_option maxHeartbeats 1000000 in
set_option maxRecDepth 100000 in
theorem limit_is {w : World} {d g c n cap nc : Nat} {A : Option Addr} {ch : Chg} {fs : List Value} {M R : Nat → Prop} {s : Dk} (h : DIn w d g c A n cap ch nc fs M R s) (k : Int) :
    Calls Try.prog 18 #[.pointer (some ⟨d, 0, none⟩), .int .i64 k] w fun e w' => e = .returned (.tuple #[]) ∧ DIn w' d g c A n cap ch nc fs M R (s.lim k) ∧ Only d w w' := by
  obtain ⟨d0, d1, d2, d3, d4, d5, f1, _, _, _⟩ := six h.blk
  have HH := hid h
  clear h
  go_enter Try.func18, Try.ntmps18
  go_wp2_with fail
  go_end0
  have h := HH.out
  have ho : Only d w (w.setCell ⟨d, 1, none⟩ (.int .i64 k)) := (Only.refl _ _).set _
  exact ⟨rfl, ⟨(show Blk _ d _ #[.int .i64 (s.size : Int), .int .i64 k, .int .i64 (s.used : Int), .map (some g), .map (some c), .slice A n cap] from by simpa using h.blk.set 1 (.int .i64 k)), h.gt.only ho (h.gt.ne_blk h.blk), h.ct.only ho (h.ct.ne_blk h.blk), h.row.only ho (h.row.ne h.blk (by decide)), h.ops.keep (fun k hk => ho.block k (h.lt k (.inr hk)) (fun e => by injection e with e; subst e; exact h.mr _ h.md hk)),
    h.md, h.mg, h.mc, h.gc, fun k hk => by simpa using h.lt k hk, h.mr, h.pl.lim k⟩, ho⟩

set_option maxHeartbeats 1000000 in
set_option maxRecDepth 100000 in
theorem read_is {w : World} {d g c n cap nc : Nat} {A : Option Addr} {ch : Chg} {fs : List Value} {M R : Nat → Prop} {s : Dk} (h : DIn w d g c A n cap ch nc fs M R s) (i : Int) :
    Calls Try.prog 11 #[.pointer (some ⟨d, 0, none⟩), .int .i64 i] w fun e w' =>
      (match s.view i with
        | some b => ∃ A n c, e = .returned (.tuple #[.slice A n c, .int .i64 0]) ∧ At w' w'.heap.size A b ∧ n = b.length ∧ n ≤ c
        | none => e = .returned (.tuple #[.slice none 0 0, .int .i64 61])) ∧ Below w.heap.size w w' := by
  have HV := hid (view_is h i)
  clear h
  cases hv : s.view i with
  | none =>
    rw [hv] at HV
    rw [show stV none = .agg #[.bool false, .string ⟨#[]⟩] from rfl] at HV
    clear hv
    go_enter Try.func11, Try.ntmps11
    go_wp2_with fail
    go_fit HV.out
    rintro e w1 ⟨rfl, hb⟩
    have HB := hid hb
    clear hb
    go_wp2_with fail
    go_ret2
    exact ⟨rfl, HB.out.alloc HB.out.size _⟩
  | some b =>
    rw [hv] at HV
    rw [show stV (some b) = .agg #[.bool true, .string (bst b)] from rfl] at HV
    clear hv
    go_enter Try.func11, Try.ntmps11
    go_wp2_with fail
    go_fit HV.out
    rintro e w1 ⟨rfl, hb⟩
    have HB := hid hb
    clear hb
    go_wp2_with (with_reducible refine wpList_bytes_of _ rfl (.tmp 14) 9 36 5 rfl Try.underlying9 Try.underlying36 Try.underlying5 b rfl ?_)
    intro A2 c2 w2 hc hA hb2
    have HX := hid (And.intro hc (And.intro hA ((HB.out.alloc HB.out.size (.cells #[.bool true, .string (bst b)] 55)).trans (hb2.mono (by have := HB.out.size; omega)))))
    clear hc hA hb2
    go_wp2_with fail
    go_ret2
    exact ⟨⟨_, _, _, rfl, HX.out.2.1, rfl, HX.out.1⟩, HX.out.2.2⟩

set_option maxHeartbeats 1000000 in
set_option maxRecDepth 100000 in
theorem settle_is {w : World} {d g c n cap ng : Nat} {A : Option Addr} {a0 a1 a2 : Value} {T : TabF} (hb : Blk w d 51 #[a0, a1, a2, .map (some g), .map (some c), .slice A n cap]) (hg : Tab w g T ng) :
    Calls Try.prog 19 #[.pointer (some ⟨d, 0, none⟩)] w fun e w' => e = .returned (.tuple #[]) ∧
      Blk w' d 51 #[a0, a1, .int .i64 (ng : Int), .map (some g), .map (some w.heap.size), .slice none 0 0] ∧ Tab w' w.heap.size (fun _ => none) 0 ∧ Only d w w' := by
  have hd := hb.lt
  have HB := hid hb
  have HG := hid hg
  obtain ⟨d0, d1, d2, d3, d4, d5, f1, f2, f4, f5⟩ := six hb
  have hmm := @run_makeMap Try.prog
  clear hb hg
  go_enter Try.func19, Try.ntmps19
  go_wp2_with (at_len; refine wpList_lenT _ rfl _ 48 rfl 3 55 Try.underlying48 rfl HG.out ?_)
  go_end0
  have es : (((w.setCell ⟨d, 2, none⟩ (.int .i64 (ng : Int))).setCell ⟨d, 4, none⟩ (.map (some w.heap.size))).setCell ⟨d, 5, none⟩ (.slice none 0 0)).heap.size = w.heap.size := by simp
  have b3 := ((HB.out.set 2 (.int .i64 (ng : Int))).set 4 (.map (some w.heap.size))).set 5 (.slice none 0 0)
  have o3 : Only d w (((w.setCell ⟨d, 2, none⟩ (.int .i64 (ng : Int))).setCell ⟨d, 4, none⟩ (.map (some w.heap.size))).setCell ⟨d, 5, none⟩ (.slice none 0 0)) := (((Only.refl _ _).set _).set _).set _
  have t0 := Tab.made (((w.setCell ⟨d, 2, none⟩ (.int .i64 (ng : Int))).setCell ⟨d, 4, none⟩ (.map (some w.heap.size))).setCell ⟨d, 5, none⟩ (.slice none 0 0))
  rw [es] at t0
  exact ⟨rfl, by simpa using b3.alloc (.map #[] 0), t0, o3.alloc _⟩

set_option maxHeartbeats 1000000 in
set_option maxRecDepth 100000 in
theorem new_no {n : Int} {w : World} (h : n < 1 ∨ 65536 < n) : Calls Try.prog 6 #[.int .i64 n] w fun e w' => e = .returned (.tuple #[.pointer none, .int .i64 60]) ∧ Below w.heap.size w w' := by
  by_cases h1 : n < 1
  · go_enter Try.func6, Try.ntmps6
    go_wp2_with fail
    go_ret2
    exact ⟨rfl, Below.refl _ _⟩
  · have h2 : 65536 < n := by omega
    clear h
    go_enter Try.func6, Try.ntmps6
    go_wp2_with fail
    go_ret2
    exact ⟨rfl, Below.refl _ _⟩
set_option maxHeartbeats 1000000 in
set_option maxRecDepth 100000 in
theorem new_yes {n : Nat} {w : World} (h1 : 1 ≤ n) (h2 : n ≤ 65536) : Calls Try.prog 6 #[.int .i64 (n : Int)] w fun e w' =>
    ∃ d M R, e = .returned (.tuple #[.pointer (some ⟨d, 0, none⟩), .int .i64 0]) ∧ DA6 w' d M R (Dk.new n) ∧ (∀ k, M k ∨ R k → w.heap.size ≤ k) ∧ Below w.heap.size w w' := by
  have hmm := @run_makeMap Try.prog
  go_enter Try.func6, Try.ntmps6
  go_wp2_with fail
  go_ret2
  have s1 : (w.alloc (.map #[] 0)).heap.size = w.heap.size + 1 := by simp
  have s2 : ((w.alloc (.map #[] 0)).alloc (.map #[] 0)).heap.size = w.heap.size + 1 + 1 := by simp
  have hb := Blk.new ((w.alloc (.map #[] 0)).alloc (.map #[] 0)) 51 #[.int .i64 (n : Int), .int .i64 (n : Int), .int .i64 0, .map (some w.heap.size), .map (some (w.heap.size + 1)), .slice none 0 0]
  rw [s2] at hb
  have t2 := (Tab.made (w.alloc (.map #[] 0))).alloc (.cells #[.int .i64 (n : Int), .int .i64 (n : Int), .int .i64 0, .map (some w.heap.size), .map (some (w.heap.size + 1)), .slice none 0 0] 51)
  rw [s1] at t2
  have hu := Dk.new_used n
  have hz := cnt_none n
  refine ⟨w.heap.size + 1 + 1, fun k => w.heap.size ≤ k ∧ k < w.heap.size + 3, fun _ => False, rfl, ⟨w.heap.size, w.heap.size + 1, none, 0, 0, fun _ => none, 0, [], ?_⟩, fun k hk => hk.elim (fun h => h.1) (fun h => h.elim), ((Below.refl _ _).alloc (Nat.le_refl _) _).alloc (by simp) _ |>.alloc (by simp; omega) _⟩
  refine ⟨?_, ?_, t2, PRow.nil _ _, Ops.nil _ _, ⟨by omega, by omega⟩, ⟨by omega, by omega⟩, ⟨by omega, by omega⟩, by omega, fun k hk => hk.elim (fun h => by have := h.2; simp; omega) (fun h => h.elim), fun k _ h => h, new_pl h1 h2⟩
  · rw [hu]; exact hb
  · show Tab _ _ (fun _ => none) (cnt n fun _ => none)
    rw [hz]
    exact ((Tab.made w).alloc _).alloc _

end Go.Proofs.Ytlemoaigcakmcaa
