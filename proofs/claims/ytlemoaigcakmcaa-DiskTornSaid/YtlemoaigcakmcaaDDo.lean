/-
  do: an act on a disk. Over what is to be shown of the landed code.
-/
import Derived.Test.YtlemoaigcakmcaaSvRow
import Derived.Deep.Cut
namespace Go.Proofs.Ytlemoaigcakmcaa
open Go Go.RowKit

def doE (s : Dk) (x : Act6) : Nat := if x.k = 0 then s.why x.i x.b else if x.k = 1 then s.fwhy x.i else 0
def doS (s : Dk) (x : Act6) : Dk := if x.k = 0 then s.write x.i x.b else if x.k = 1 then s.free x.i else if x.k = 2 then s.sync else if x.k = 3 then s.crash x.l else if x.k = 4 then s.lim x.i else s
/-- an act that isn't too great -/
structure Small (x : Act6) : Prop where
  b : x.b.length ≤ 600
  l : x.l.length ≤ 60
theorem few_small (x : Act6) : Small x.few := ⟨by unfold Act6.few; simp; omega, by unfold Act6.few; simp; omega⟩

theorem Turns.of_below {M R : Nat → Prop} {w w' : World} (hb : Below w.heap.size w w') : Turns M R w M R w' :=
  ⟨hb.os, hb.tape, hb.output, hb.size, fun k hk _ => hb.block k hk, fun _ h => .inl h, fun _ h => .inl h⟩
theorem Turns.behind {M R M' R' : Nat → Prop} {w w1 w' : World} (hb : Below w.heap.size w w1) (ht : Turns M R w1 M' R' w') : Turns M R w M' R' w' :=
  ⟨ht.os.trans hb.os, ht.tape.trans hb.tape, ht.output.trans hb.output, Nat.le_trans hb.size ht.size, fun k hk hm => (ht.block k (Nat.lt_of_lt_of_le hk hb.size) hm).trans (hb.block k hk),
    fun k h => (ht.own k h).imp id (fun h => Nat.le_trans hb.size h), fun k h => (ht.held k h).imp id (fun h => Nat.le_trans hb.size h)⟩
/-- what do shows -/
def Did (DA : DiskAt) (d : Nat) (M R : Nat → Prop) (s : Dk) (x : Act6) (w : World) (e : Ending) (w' : World) : Prop :=
  e = .returned (.int .i64 (doE s x : Int)) ∧ ∃ M' R', DA w' d M' R' (doS s x) ∧ Turns M R w M' R' w'

set_option maxHeartbeats 4000000 in
set_option maxRecDepth 100000 in
theorem do_any {DA : DiskAt} (hF : Face DA) {d : Nat} {M R : Nat → Prop} {s : Dk} {x : Act6} {A : Option Addr} {n c B : Nat} {w : World} (hd : DA w d M R s) (hA : SvAt w B A x.l) (hn : n = x.l.length) (hB : B ≤ w.heap.size) (hx : Small x) (hpl : s.pend.length ≤ 1000000) :
    Calls Try.prog 8 #[.pointer (some ⟨d, 0, none⟩), x.val A n c] w (Did DA d M R s x w) := by
  obtain ⟨k, i, b, l⟩ := x
  unfold Act6.val
  dsimp only at hA hn ⊢
  have HF := hid hF
  have hb1 : Below w.heap.size w (w.alloc (.cells #[.int .i64 k, .int .i64 i, .string (bst b), .slice A n c] 32)) := (Below.refl _ _).alloc (Nat.le_refl _) _
  have HB1 := hid hb1
  have HX := hid (Blk.new w 32 #[.int .i64 k, .int .i64 i, .string (bst b), .slice A n c])
  have HD := hid (hF.step hd hb1)
  have HA := hid (hA.below (hb1.mono hB))
  have HN := hid hn
  have HLT := hid (hF.lt hd)
  have HSZ := hid (show (w.alloc (.cells #[.int .i64 k, .int .i64 i, .string (bst b), .slice A n c] 32)).heap.size = w.heap.size + 1 by simp)
  have HSM := hid hx
  have HBX := hid hB
  have HPL := hid hpl
  clear hF hb1 hd hA hn hx hB hpl
  by_cases h0 : k = 0
  · subst h0
    go_enter Try.func8, Try.ntmps8
    go_upto_region 1 with fail
    generalize (w.alloc (.cells #[.int .i64 0, .int .i64 i, .string (bst b), .slice A n c] 32)) = w1 at *
    obtain ⟨x0, x1, x2, x3, _, _, _, _⟩ := four HX.out
    go_wp2_with (with_reducible refine wpList_bytes_new _ rfl (.tmp 13) 9 36 5 rfl Try.underlying9 Try.underlying36 Try.underlying5 b rfl ?_; intro g c' w2 hg hc hA hf hb)
    subst hg
    have hoff : Off M (some ⟨w1.heap.size, 0, none⟩) := by
      intro b' off e hm
      injection e with e
      injection e with e _ _
      have := HLT.out b' (.inl hm)
      have := HSZ.out
      omega
    go_fit (HF.out.write (i := i) (HF.out.step HD.out hb) hA rfl (Nat.le_refl _) hoff (by have := HSM.out.b; dsimp only at this; omega) HPL.out)
    rintro e w3 ⟨rfl, M', R', hd, ht⟩
    have HH := hid (And.intro hd (Turns.behind hb ht))
    clear hd ht hb hA hf hc hoff
    go_wp2_with fail
    go_ret
    exact ⟨by simp [doE], M', R', by simpa [doS] using HH.out.1, Turns.behind HB1.out HH.out.2⟩
  have g0 : (k == 0) = false := by simpa using h0
  by_cases h1 : k = 1
  · subst h1
    go_enter Try.func8, Try.ntmps8
    go_upto_region 1 with fail
    generalize (w.alloc (.cells #[.int .i64 1, .int .i64 i, .string (bst b), .slice A n c] 32)) = w1 at *
    obtain ⟨x0, x1, x2, x3, _, _, _, _⟩ := four HX.out
    go_wp2_with fail
    go_fit (HF.out.free (i := i) HD.out HPL.out)
    rintro e w3 ⟨rfl, M', R', hd, ht⟩
    have HH := hid (And.intro hd ht)
    clear hd ht
    go_wp2_with fail
    go_ret
    exact ⟨by simp [doE], M', R', by simpa [doS] using HH.out.1, Turns.behind HB1.out HH.out.2⟩
  have g1 : (k == 1) = false := by simpa using h1
  by_cases h2 : k = 2
  · subst h2
    go_enter Try.func8, Try.ntmps8
    go_upto_region 1 with fail
    generalize (w.alloc (.cells #[.int .i64 2, .int .i64 i, .string (bst b), .slice A n c] 32)) = w1 at *
    obtain ⟨x0, x1, x2, x3, _, _, _, _⟩ := four HX.out
    go_wp2_with fail
    go_fit (HF.out.sync HD.out)
    rintro e w3 ⟨rfl, M', R', hd, ht⟩
    have HH := hid (And.intro hd ht)
    clear hd ht
    go_wp2_with fail
    go_ret
    exact ⟨by simp [doE], M', R', by simpa [doS] using HH.out.1, Turns.behind HB1.out HH.out.2⟩
  have g2 : (k == 2) = false := by simpa using h2
  by_cases h3 : k = 3
  · subst h3
    go_enter Try.func8, Try.ntmps8
    go_upto_region 1 with fail
    generalize (w.alloc (.cells #[.int .i64 3, .int .i64 i, .string (bst b), .slice A n c] 32)) = w1 at *
    obtain ⟨x0, x1, x2, x3, _, _, _, _⟩ := four HX.out
    have HR0 := hid (SvRow.empty w1 (base := w1.heap.size) rfl (Nat.le_refl _))
    have HB0 := hid (show Below w1.heap.size w1 (w1.alloc (.cells #[] 44)) from (Below.refl _ _).alloc (Nat.le_refl _) _)
    have HA2 := hid (HA.out.below (HB0.out.mono (by rw [HSZ.out]; have := HBX.out; omega)))
    obtain ⟨_, _, _, y3, _, _, _, _⟩ := four (HX.out.alloc (.cells #[] 44))
    have HL := hid (show ([] : List (Int × Int)).length + l.length ≤ 1099511627776 by have := HSM.out.l; dsimp only at this; simp; omega)
    go_wp2_with (at_builtin; go_must (refine wpList_append_sv _ rfl _ _ rfl w1.heap.size rfl HR0.out rfl HN.out HA2.out HL.out (by simp) ?_))
    intro A7 m7 c7 w7 hr7 hm7 hb7 hg7
    have HR7 := hid hr7
    have hb70 := HB0.out.trans hb7
    have hoff : Off M A7 := hr7.off fun j hj => by have := HLT.out j (.inl hj); rw [HSZ.out]; omega
    have HCR := hid (HF.out.crash (l := l) (c := c7) (HF.out.step HD.out hb70) hr7.at_ hr7.1 (Nat.le_refl _) hoff (by rw [hr7.1]; have := HSM.out.l; dsimp only at this; omega))
    have HB70 := hid hb70
    clear hb70 hb7 hg7 hm7 hr7 hoff
    go_wp2_with fail
    go_fit HCR.out
    rintro e w3 ⟨rfl, M', R', hd, ht⟩
    have HH := hid (And.intro hd (Turns.behind HB70.out ht))
    clear hd ht
    go_wp2_with fail
    go_ret
    exact ⟨by simp [doE], M', R', by simpa [doS] using HH.out.1, Turns.behind HB1.out HH.out.2⟩
  have g3 : (k == 3) = false := by simpa using h3
  by_cases h4 : k = 4
  · subst h4
    go_enter Try.func8, Try.ntmps8
    go_upto_region 1 with fail
    generalize (w.alloc (.cells #[.int .i64 4, .int .i64 i, .string (bst b), .slice A n c] 32)) = w1 at *
    obtain ⟨x0, x1, x2, x3, _, _, _, _⟩ := four HX.out
    go_wp2_with fail
    go_fit (HF.out.limit (n := i) HD.out)
    rintro e w3 ⟨rfl, M', R', hd, ht⟩
    have HH := hid (And.intro hd ht)
    clear hd ht
    go_wp2_with fail
    go_ret
    exact ⟨by simp [doE], M', R', by simpa [doS] using HH.out.1, Turns.behind HB1.out HH.out.2⟩
  have g4 : (k == 4) = false := by simpa using h4
  go_enter Try.func8, Try.ntmps8
  go_upto_region 1 with fail
  generalize (w.alloc (.cells #[.int .i64 k, .int .i64 i, .string (bst b), .slice A n c] 32)) = w1 at *
  obtain ⟨x0, x1, x2, x3, _, _, _, _⟩ := four HX.out
  go_wp2_with fail
  go_ret
  exact ⟨by simp [doE, h0, h1], M, R, by simpa [doS, h0, h1, h2, h3, h4] using HD.out, Turns.of_below HB1.out⟩

end Go.Proofs.Ytlemoaigcakmcaa
