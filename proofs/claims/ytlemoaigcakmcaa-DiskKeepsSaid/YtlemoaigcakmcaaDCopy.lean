/-
  Copy: a disk by itself.
-/
import Derived.Test.YtlemoaigcakmcaaDSync
import Derived.Lib.SliceRun
namespace Go.Proofs.Ytlemoaigcakmcaa
open Go Go.RowKit

set_option maxHeartbeats 2000000 in
set_option maxRecDepth 100000 in
theorem clone_tab {w : World} {b n : Nat} {T : TabF} (h : Tab w b T n) : Calls Try.prog 21 #[.map (some b)] w fun e w' => e = .returned (.map (some w.heap.size)) ∧ Tab w' w.heap.size T n ∧ Below w.heap.size w w' := by
  obtain ⟨es, clock, hb, hr, hs⟩ := h.out
  have HT := hid (show Tab (w.alloc (.map es clock)) w.heap.size T n from ⟨es, clock, heap_alloc_new w _, hr, hs⟩)
  have hq := fun w => run_eql_map_nil_sl (P := Try.prog) w 48 _ _ (some b) Try.underlying48
  clear h hr hs
  go_enter Try.func21, Try.ntmps21
  go_wp2
  rw [run_callFunc_extern Try.func25 (by kernel_rfl) (by kernel_rfl) (by kernel_rfl) (e := Extern.MapsClone.clone) (by kernel_rfl), run_maps_clone_sl w 48 hb]
  simp only [Result.andThen]
  rw [Oper.upon_value]
  go_wp2
  rw [run_typeAssert_map_sl _ 48 20 _ _ _ Try.underlying48]
  simp only [Result.andThen]
  rw [Oper.upon_value]
  go_wp2
  go_ret
  exact ⟨rfl, HT.out, (Below.refl _ _).alloc (Nat.le_refl _) _⟩

/-- append([]operation{}, l...) -/
theorem wpList_clone (w : World) {ops : Array Oper} {rest : List Oper} {o : Oper} {a : Act} {Q : Exit → Act → World → Prop} (hgd : o.guard = none) (s x : Operand)
    (ho : o.op = .call { callee := .builtin .append, args := #[s, x], argTypes := #[49, 49] })
    {q n c : Nat} {ad : Addr} {fs : List Value} (hs : a.eval s = .slice (some ⟨q, 0, none⟩) 0 0) (hq : w.heap[q]? = some (.cells #[] 60 (0, 0))) (hx : a.eval x = .slice (some ad) n c) (hn : n = fs.length)
    (hcell : ∀ j u, fs[j]? = some u → w.cell? (ad.add j) = some u) (h1 : ∀ u ∈ fs, u.oneCell' = true) (hlen : n ≤ 1099511627776)
    (h : ∀ A' c' w', PRow w' (fun k => q ≤ k) A' n c' fs → Below q w w' → wpList Try.prog ops Q rest (a.put o.dst (.slice A' n c')) w') : wpList Try.prog ops Q (o :: rest) a w := by
  refine wpList_plain hgd fun K hK => ?_
  obtain ⟨i0, hi, hz0, hz1, hz2⟩ := info_parts info_op
  have hlt : q < w.heap.size := (Array.getElem?_eq_some_iff.1 hq).1
  have hown : w.ownsRow q 60 1 (.slice (some ⟨q, 0, none⟩) 0 0) 0 [] := ⟨rfl, .inr ⟨q, 0, #[], rfl, Nat.le_refl _, hq, Nat.le_refl _, Nat.zero_le _, rfl, rfl⟩⟩
  obtain ⟨v', w', hr, h2, h3, _, h5⟩ := run_append_own_at (P := Try.prog) w q 49 o.type 60 i0 _ 1 8 Try.underlying49 hi hz0 hz1 hz2 rfl (by decide) (.slice (some ⟨q, 0, none⟩) 0 0) 0 [] hown ad n c fs (by omega) hcell h1
    (by unfold maxLen; omega) (by omega) (Nat.le_of_lt hlt)
  rw [Nat.zero_add, List.nil_append] at h2
  unfold Oper.wp execOp
  simp only [ho, resolve, invoke, builtin, Sem.run_bind, Sem.run_pure, Result.andThen_ok, List.map_toArray, List.map_cons, List.map_nil, hs, hx, hr]
  obtain ⟨A', c', rfl⟩ := own_shape h2
  refine hK _ _ (h A' c' w' ⟨hn, ⟨h2.1, ?_⟩, fun g hg => ?_⟩ ⟨h3.os, h3.tape, h3.output, h3.size, fun k hk => h3.block k (by omega) (fun e => by
    have := Option.some.inj e; show False; have e2 : k = q := this; omega)⟩)
  · rcases h2.2 with h0 | ⟨g, cap, cur, hv, _, r⟩
    · exact .inl h0
    · exact .inr ⟨g, cap, cur, hv, Nat.zero_le _, r⟩
  · rcases h5 with e | e
    · rw [e] at hg
      have : q = g := Option.some.inj hg
      omega
    · rw [e] at hg
      have := Option.some.inj hg
      omega

theorem PRow.of_mine {w : World} {M M' : Nat → Prop} {A : Option Addr} {n c : Nat} {fs : List Value} (h : PRow w M A n c fs) (hm : ∀ g, (Value.slice A n c).ownBlock = some g → M' g) : PRow w M' A n c fs := ⟨h.len, h.own, hm⟩
theorem PRow.addr {w : World} {M : Nat → Prop} {A : Option Addr} {n c : Nat} {fs : List Value} (h : PRow w M A n c fs) : (A = none ∧ n = 0 ∧ c = 0) ∨ ∃ g, A = some ⟨g, 0, none⟩ ∧ g < w.heap.size ∧ ∀ j u, fs[j]? = some u → w.cell? ((⟨g, 0, none⟩ : Addr).add j) = some u := by
  rcases h.own.2 with ⟨hv, h0⟩ | ⟨g, cap, cur, hv, _, hg, _⟩
  · injection hv with e1 e2 e3
    exact .inl ⟨e1, h0, e3⟩
  · have hA : A = some ⟨g, 0, none⟩ := by injection hv
    exact .inr ⟨g, hA, (Array.getElem?_eq_some_iff.1 hg).1, fun j u hu => h.own.cells (g := g) (by rw [hA]; rfl) _ _ hu⟩

set_option maxHeartbeats 2000000 in
set_option maxRecDepth 100000 in
theorem clone_row {w : World} {M : Nat → Prop} {A : Option Addr} {n c : Nat} {fs : List Value} (h : PRow w M A n c fs) (h1 : ∀ u ∈ fs, u.oneCell' = true) (hn : n ≤ 1000000) :
    Calls Try.prog 22 #[.slice A n c] w fun e w' => ∃ A' c', e = .returned (.slice A' n c') ∧ PRow w' (fun k => w.heap.size ≤ k) A' n c' fs ∧ Below w.heap.size w w' := by
  rcases h.addr with ⟨rfl, rfl, rfl⟩ | ⟨g, rfl, hg, hc⟩
  · have hf : fs = [] := by have := h.len; exact List.eq_nil_of_length_eq_zero this.symm
    subst hf
    have he := fun W => Go.Lib.run_eql_slice_nil (P := Try.prog) W 49 60 none 0 0 0 0 Try.underlying49
    clear h h1 hn
    go_enter Try.func22, Try.ntmps22
    go_wp2_with fail
    go_ret
    exact ⟨none, 0, rfl, PRow.nil _ _, Below.refl _ _⟩
  · have HQ := hid (show (w.alloc (.cells #[] 60)).heap[w.heap.size]? = some (.cells #[] 60 (0, 0)) from heap_alloc_new w _)
    have HB := hid (show Below w.heap.size w (w.alloc (.cells #[] 60)) from (Below.refl _ _).alloc (Nat.le_refl _) _)
    have hblk : ∀ j, ((⟨g, 0, none⟩ : Addr).add j).block = g := fun j => by unfold Addr.add; split <;> rfl
    have HC := hid (fun (j : Nat) (u : Value) (hu : fs[j]? = some u) => (World.cell?_of_block (a := (⟨g, 0, none⟩ : Addr).add j) (HB.out.block _ (by rw [hblk]; exact hg))).trans (hc j u hu))
    clear hblk
    have H1 := hid h1
    have HN := hid (show n ≤ 1099511627776 by omega)
    have HL := hid h.len
    have he := fun W => Go.Lib.run_eql_slice_nil (P := Try.prog) W 49 60 (some ⟨g, 0, none⟩) n c 0 0 Try.underlying49
    clear h h1 hn hc
    go_enter Try.func22, Try.ntmps22
    go_wp2_with (at_builtin; refine wpList_clone _ rfl _ _ rfl rfl HQ.out rfl HL.out HC.out H1.out HN.out ?_; intro A7 c7 w7 hr7 hb7; have HR7 := hid (And.intro hr7 (HB.out.trans hb7)); clear hr7 hb7)
    go_ret
    exact ⟨A7, c7, rfl, HR7.out.1, HR7.out.2⟩

set_option maxHeartbeats 4000000 in
set_option maxRecDepth 100000 in
theorem copy_is {w : World} {d g c n cap nc : Nat} {A : Option Addr} {ch : Chg} {fs : List Value} {M R : Nat → Prop} {s : Dk} (h : DIn w d g c A n cap ch nc fs M R s) (hpl : s.pend.length ≤ 1000000) :
    Calls Try.prog 14 #[.pointer (some ⟨d, 0, none⟩)] w fun e w' =>
      ∃ d2 M2 R2, e = .returned (.pointer (some ⟨d2, 0, none⟩)) ∧ DA6 w' d2 M2 R2 s ∧ (∀ k, M2 k → w.heap.size ≤ k) ∧ (∀ k, R2 k → ¬ M k) ∧ Below w.heap.size w w' := by
  have HH := hid h
  have HD := hid (h.lt d (.inl h.md))
  have HN := hid (show n ≤ 1000000 by have := h.row.len.trans h.ops.len; omega)
  have H1 := hid (show ∀ u ∈ fs, u.oneCell' = true from fun u hu => by
    obtain ⟨k, hk⟩ := List.mem_iff_getElem?.1 hu
    have hkl : k < s.pend.length := by rw [← h.ops.len]; exact (List.getElem?_eq_some_iff.1 hk).1
    exact (h.ops.at_ k _ u (List.getElem?_eq_getElem hkl) hk).one)
  obtain ⟨d0, d1, d2, d3, d4, d5, _, _, _, _⟩ := six h.blk
  have hd := h.lt d (.inl h.md)
  have hb0 : Below w.heap.size w (w.alloc (.cells #[.int .i64 (s.size : Int), .int .i64 s.limit, .int .i64 (s.used : Int), .map (some g), .map (some c), .slice A n cap] 51)) := (Below.refl _ _).alloc (Nat.le_refl _) _
  have HB0 := hid hb0
  have HN0 := hid (Blk.new w 51 #[.int .i64 (s.size : Int), .int .i64 s.limit, .int .i64 (s.used : Int), .map (some g), .map (some c), .slice A n cap])
  have HCL := hid (clone_tab (h.below hb0).gt)
  clear h hpl hb0
  go_enter Try.func14, Try.ntmps14
  go_wp2_with fail
  generalize w.alloc (.cells #[.int .i64 (s.size : Int), .int .i64 s.limit, .int .i64 (s.used : Int), .map (some g), .map (some c), .slice A n cap] 51) = w0 at *
  go_fit HCL.out
  rintro e w1 ⟨rfl, ht1, hb1⟩
  have HLT := hid (show w.heap.size < w0.heap.size from HN0.out.lt)
  have hn1 := HN0.out.below hb1 HN0.out.lt
  have hbb1 : Below w.heap.size w w1 := HB0.out.trans (hb1.mono (Nat.le_of_lt HLT.out))
  have HN1 := hid (show Blk (w1.setCell ⟨w.heap.size, 3, none⟩ (.map (some w0.heap.size))) w.heap.size 51 #[.int .i64 (s.size : Int), .int .i64 s.limit, .int .i64 (s.used : Int), .map (some w0.heap.size), .map (some c), .slice A n cap] from by simpa using hn1.set 3 (.map (some w0.heap.size)))
  have HB1 := hid (hbb1.setCell (p := ⟨w.heap.size, 3, none⟩) (Nat.le_refl _) (.map (some w0.heap.size)))
  have HG1 := hid (ht1.only (r := w.heap.size) ((Only.refl _ _).set (i := 3) (.map (some w0.heap.size))) (by have := HLT.out; omega))
  have HCC := hid (clone_tab (HH.out.below HB1.out).ct)
  obtain ⟨m0, m1, m2, m3, m4, m5, _, _, _, _⟩ := six hn1
  have k3 : w1.frozen? ⟨w.heap.size, 3, none⟩ = false := hn1.free 3
  have k4 := HB1.out.cell (p := ⟨d, 4, none⟩) HD.out
  rw [d4] at k4
  clear ht1 hb1 hbb1 hn1
  go_wp2_with fail
  generalize w1.setCell ⟨w.heap.size, 3, none⟩ (.map (some w0.heap.size)) = w2 at *
  obtain ⟨g2, hg2⟩ : ∃ g2, g2 = w0.heap.size := ⟨_, rfl⟩
  rw [← hg2] at HN1 HG1
  have HGE := hid (show w.heap.size ≤ g2 by rw [hg2]; exact Nat.le_of_lt HLT.out)
  clear m0 m1 m2 m3 m4 m5 k3 k4
  go_fit HCC.out
  rintro e w3 ⟨rfl, ht3, hb3⟩
  have HLT2 := hid (show w.heap.size < w2.heap.size ∧ g2 < w2.heap.size from ⟨HN1.out.lt, HG1.out.lt⟩)
  have hn3 := HN1.out.below hb3 HN1.out.lt
  have hbb3 : Below w.heap.size w w3 := HB1.out.trans (hb3.mono (Nat.le_of_lt HLT2.out.1))
  have ho3 : Only w.heap.size w3 (w3.setCell ⟨w.heap.size, 4, none⟩ (.map (some w2.heap.size))) := (Only.refl _ _).set _
  have HN3 := hid (show Blk (w3.setCell ⟨w.heap.size, 4, none⟩ (.map (some w2.heap.size))) w.heap.size 51 #[.int .i64 (s.size : Int), .int .i64 s.limit, .int .i64 (s.used : Int), .map (some g2), .map (some w2.heap.size), .slice A n cap] from by simpa using hn3.set 4 (.map (some w2.heap.size)))
  have HB3 := hid (hbb3.setCell (p := ⟨w.heap.size, 4, none⟩) (Nat.le_refl _) (.map (some w2.heap.size)))
  have HG3 := hid ((HG1.out.below hb3).only ho3 (HG1.out.below hb3 |>.ne_blk hn3))
  have HC3 := hid (ht3.only ho3 (ht3.ne_blk hn3))
  have HCR := hid (clone_row (HH.out.below HB3.out).row H1.out HN.out)
  have k3 : w3.frozen? ⟨w.heap.size, 4, none⟩ = false := hn3.free 4
  have m4 : w3.cell? ⟨w.heap.size, 4, none⟩ = some (.map (some c)) := hn3.cell 4
  have k5 := HB3.out.cell (p := ⟨d, 5, none⟩) HD.out
  rw [d5] at k5
  clear ht3 hb3 hbb3 ho3 hn3
  go_wp2_with fail
  generalize w3.setCell ⟨w.heap.size, 4, none⟩ (.map (some w2.heap.size)) = w4 at *
  obtain ⟨c2, hc2⟩ : ∃ c2, c2 = w2.heap.size := ⟨_, rfl⟩
  rw [← hc2] at HN3 HC3
  have HGE2 := hid (show w.heap.size ≤ c2 ∧ g2 ≠ c2 by rw [hc2]; exact ⟨Nat.le_of_lt HLT2.out.1, by have := HLT2.out.2; omega⟩)
  clear m4 k3 k5
  go_fit HCR.out
  rintro e w5 ⟨A', c', rfl, hr5, hb5⟩
  have hn5 := HN3.out.below hb5 HN3.out.lt
  have hbb5 : Below w.heap.size w w5 := HB3.out.trans (hb5.mono (Nat.le_of_lt HN3.out.lt))
  have k6 : w5.frozen? ⟨w.heap.size, 5, none⟩ = false := hn5.free 5
  have m5 : w5.cell? ⟨w.heap.size, 5, none⟩ = some (.slice A n cap) := hn5.cell 5
  have ho5 : Only w.heap.size w5 (w5.setCell ⟨w.heap.size, 5, none⟩ (.slice A' n c')) := (Only.refl _ _).set _
  have HN5 := hid (show Blk (w5.setCell ⟨w.heap.size, 5, none⟩ (.slice A' n c')) w.heap.size 51 #[.int .i64 (s.size : Int), .int .i64 s.limit, .int .i64 (s.used : Int), .map (some g2), .map (some c2), .slice A' n c'] from by simpa using hn5.set 5 (.slice A' n c'))
  have HB5 := hid (hbb5.setCell (p := ⟨w.heap.size, 5, none⟩) (Nat.le_refl _) (.slice A' n c'))
  have HG5 := hid ((HG3.out.below hb5).only ho5 (HG3.out.below hb5 |>.ne_blk hn5))
  have HC5 := hid ((HC3.out.below hb5).only ho5 (HC3.out.below hb5 |>.ne_blk hn5))
  have HR5 := hid (hr5.only ho5 (hr5.ne hn5 (by decide)))
  have HWS := hid (show w.heap.size < w4.heap.size from HN3.out.lt)
  clear hr5 hb5 hbb5 ho5 hn5 hg2 hc2
  go_wp2_with fail
  generalize w5.setCell ⟨w.heap.size, 5, none⟩ (.slice A' n c') = w6 at *
  go_ret
  refine ⟨w.heap.size, fun k => w.heap.size ≤ k ∧ k < w6.heap.size, R, rfl, ⟨g2, c2, A', n, c', ch, nc, fs, ?_⟩, fun k hk => hk.1, fun k hk hm => HH.out.mr k hm hk, HB5.out⟩
  exact ⟨HN5.out, HG5.out, HC5.out, HR5.out.of_mine (fun k hk => ⟨by have := HR5.out.mine k hk; have := HWS.out; omega, HR5.out.lt k hk⟩), HH.out.ops.keep (fun k hk => HB5.out.block k (HH.out.lt k (.inr hk))), ⟨Nat.le_refl _, HN5.out.lt⟩, ⟨HGE.out, HG5.out.lt⟩, ⟨HGE2.out.1, HC5.out.lt⟩, HGE2.out.2,
    fun k hk => hk.elim (fun hk => hk.2) (fun hk => Nat.lt_of_lt_of_le (HH.out.lt k (.inr hk)) HB5.out.size), fun k hk hr => by have := HH.out.lt k (.inr hr); omega, HH.out.pl⟩

end Go.Proofs.Ytlemoaigcakmcaa
