/-
  The landed cache: link behind the ends; Get.
-/
import Derived.Test.YtdhjjjagjkencaaRem
namespace Go.Proofs.Ytdhjjjagjkencaa
open Go Go.RowKit

theorem link_in {w : World} {eb p : Nat} {ps : List Nat} {vl : Nat → En} {pv nx : Nat → Nat} {x y : Value} {z : En} (h : Nodes w (fun c => c = eb ∨ c ∈ ps) vl pv nx) (hr : RingOk eb ps nx pv) (hp : p ∉ eb :: ps) (hP : Blk w p 57 #[.int .i64 z.i, .string (bst z.b), .bool z.d, x, y]) :
    Calls Try.prog 23 #[(.pointer (some ⟨p, 0, none⟩)), (.pointer (some ⟨eb, 0, none⟩))] w fun e w' => e = .returned (.tuple #[]) ∧ (∃ pv' nx', Nodes w' (fun c => c = eb ∨ c ∈ p :: ps) (updE vl p z) pv' nx' ∧ RingOk eb (p :: ps) nx' pv') ∧ Within (fun c => c = eb ∨ c ∈ p :: ps) w w' := by
  obtain ⟨ro, hb⟩ := hr.in_ hp
  have hbL : nx eb = eb ∨ nx eb ∈ ps := (List.mem_append.1 hb).elim .inr (fun q => .inl (by simpa using q))
  have hnp : ¬ (p = eb ∨ p ∈ ps) := fun q => hp (by simpa using q)
  have mem : ∀ c, (c = eb ∨ c ∈ p :: ps) ↔ (c = p ∨ c = eb ∨ c ∈ ps) := fun c => by simp; constructor <;> (rintro (h | h | h) <;> simp [h])
  exact (link_any h hnp hP (.inl rfl) hbL).mono fun e w' ⟨h1, h2, h3⟩ => ⟨h1, ⟨_, _, h2.mono fun c hc => (mem c).1 hc, ro⟩, h3.mono fun c hc => (mem c).2 hc⟩

/-- a cache on blocks of S: its entries are l -/
structure CA (S : Nat → Prop) (w : World) (cb room : Nat) (l : List En) : Prop where
  out : ∃ mb eb ps vl pv nx m, CaIn w cb room mb eb ps vl pv nx m ∧ l = ps.map vl ∧ ∀ k, CaS cb mb eb ps k → S k
  low : ∀ k, S k → k < w.heap.size
theorem CA.keep {S : Nat → Prop} {w w' : World} {cb room : Nat} {l : List En} (h : CA S w cb room l) (hk : ∀ k, S k → w'.heap[k]? = w.heap[k]?) (hs : w.heap.size ≤ w'.heap.size) : CA S w' cb room l := by
  obtain ⟨mb, eb, ps, vl, pv, nx, m, h1, h2, h3⟩ := h.out
  exact ⟨⟨mb, eb, ps, vl, pv, nx, m, h1.keep fun k q => hk k (h3 k q), h2, h3⟩, fun k q => Nat.lt_of_lt_of_le (h.low k q) hs⟩
theorem CA.step {S : Nat → Prop} {w w' : World} {cb room : Nat} {l : List En} (h : CA S w cb room l) (hb : Below w.heap.size w w') : CA S w' cb room l := h.keep (fun k q => hb.block k (h.low k q)) hb.size

/-- what is told of a place -/
def GotA (k : Int) (l : List En) (e : Ending) : Prop := match l[posE k l]? with
  | none => e = .returned (.tuple #[.string ⟨#[]⟩, .int .i64 111])
  | some x => e = .returned (.tuple #[.string (bst x.b), .int .i64 0])

theorem CaIn.fronted {cb room mb eb p : Nat} {l1 l2 : List Nat} {vl : Nat → En} {pv nx : Nat → Nat} {m : TabF} {w w' : World} (h : CaIn w cb room mb eb (l1 ++ p :: l2) vl pv nx m) (hk : ∀ k, k = cb ∨ k = mb → w'.heap[k]? = w.heap[k]?) {vl' : Nat → En} {pv' nx' : Nat → Nat}
    (hn : Nodes w' (fun k => k = eb ∨ k ∈ l1 ++ p :: l2) vl' pv' nx') (hr : RingOk eb (p :: (l1 ++ l2)) nx' pv') (hv : ∀ b ∈ l1 ++ p :: l2, (vl' b).i = (vl b).i) : CaIn w' cb room mb eb (p :: (l1 ++ l2)) vl' pv' nx' m := by
  have mem : ∀ b, b ∈ p :: (l1 ++ l2) ↔ b ∈ l1 ++ p :: l2 := fun b => by simp; constructor <;> (rintro (h | h | h) <;> simp [h])
  have hlen : (p :: (l1 ++ l2)).length = (l1 ++ p :: l2).length := by simp; omega
  refine ⟨(hk cb (.inl rfl)).trans h.blk, ?_, hn.mono fun c hc => hc.imp id (mem c).1, hr, ?_, ?_⟩
  · rw [hlen]; exact h.tab.of_block (hk mb (.inr rfl))
  · exact (h.is.vals hv).front
  · exact (h.ids.vals hv).sub fun b hb => (mem b).1 hb

set_option maxHeartbeats 4000000 in
set_option maxRecDepth 100000 in
theorem get_any {S : Nat → Prop} {w : World} {cb room : Nat} {l : List En} (k : Int) (h : CA S w cb room l) :
    Calls Try.prog 12 #[(.pointer (some ⟨cb, 0, none⟩)), .int .i64 k] w fun e w' => GotA k l e ∧ CA S w' cb room (getE k l) ∧ Within S w w' := by
  obtain ⟨mb, eb, ps, vl, pv, nx, m, hc, rfl, hS⟩ := h.out
  have HLOW := hid h.low
  have HS := hid hS
  have HT := hid hc.tab
  have c1 := hc.blk.cell 1
  have c2 := hc.blk.cell 2
  rcases hc.look k with ⟨h1, h2, _⟩ | ⟨l1, p, l2, rfl, h2, h3, h4, h5, h6⟩
  · have e1 : (ps.map vl)[posE k (ps.map vl)]? = none := List.getElem?_eq_none h2
    unfold GotA getE
    rw [e1]
    have HV := hid (show (m k).getD (.pointer none) = .pointer none by rw [h1]; rfl)
    have HQ := hid (show (m k).isSome = false by rw [h1]; rfl)
    have HH := hid h
    clear hc hS h1 h2 e1 h
    go_enter Try.func12, Try.ntmps12
    go_wp2_with (at_lookup; refine wpList_lookOk _ rfl _ _ 58 rfl 3 55 Try.underlying58 Try.underlying3 (zero_pos _) rfl HT.out k rfl HV.out HQ.out ?_)
    refine bodyPost_ret (v := .tuple #[.string ⟨#[]⟩, .int .i64 111]) (by simp [results, Try.results12, go_sem, *]) rfl ?_
    exact ⟨rfl, HH.out, Within.refl _ _⟩
  · unfold GotA getE
    rw [h4]
    dsimp only
    rw [h5]
    have HV := hid (show (m k).getD (.pointer none) = .pointer (some ⟨p, 0, none⟩) by rw [h6]; rfl)
    have HQ := hid (show (m k).isSome = true by rw [h6]; rfl)
    have HC := hid hc
    have HU := hid (unlink_in hc)
    have HRI := hid hc.ring.out.1
    have hnp : p ∉ eb :: (l1 ++ l2) := by
      have hn := List.nodup_cons.1 hc.ring.nodup
      have h2 := List.nodup_append.1 hn.2
      intro q
      rcases List.mem_cons.1 q with q | q
      · exact hn.1 (by rw [← q]; simp)
      · rcases List.mem_append.1 q with q | q
        · exact h2.2.2 p q p (by simp) rfl
        · exact (List.nodup_cons.1 h2.2.1).1 q
    have HNP := hid hnp
    have HAP := hid hc.apart
    clear h hc hS h2 h3 h4 h5 h6 hnp
    generalize upd pv (nx p) (pv p) = pv1 at *
    generalize upd nx (pv p) (nx p) = nx1 at *
    go_enter Try.func12, Try.ntmps12
    go_wp2_with (at_lookup; refine wpList_lookOk _ rfl _ _ 58 rfl 3 55 Try.underlying58 Try.underlying3 (zero_pos _) rfl HT.out k rfl HV.out HQ.out ?_)
    go_fit HU.out
    rintro e w2 ⟨rfl, hn2, hw2⟩
    have HN2 := hid hn2
    have HW2 := hid hw2
    have HK := hid (link_in (p := p) (z := vl p) (HN2.out.mono (fun c hc => hc.imp id (fun q => by simp at q ⊢; rcases q with h | h <;> simp [h]))) HRI.out HNP.out (HN2.out.at_ p (.inr (by simp))))
    have hcb := HC.out.blk.within hw2 (fun hk => (HAP.out.2 cb hk).1 rfl)
    have c2' := hcb.cell 2
    clear hn2 hw2 HU c1 c2 hcb
    go_wp2_with fail
    go_fit HK.out
    rintro e w3 ⟨rfl, ⟨pv3, nx3, hn3, hr3⟩, hw3⟩
    have hup : updE vl p (vl p) = vl := funext fun c => by unfold updE; split <;> simp [*]
    rw [hup] at hn3
    have hn3 := hn3.mono (L' := fun k => k = eb ∨ k ∈ l1 ++ p :: l2) (fun c hc => hc.imp id (fun q => by simp at q ⊢; rcases q with h | h | h <;> simp [h]))
    have HN3 := hid hn3
    have HR3 := hid hr3
    have HW3 := hid (HW2.out.trans (hw3.mono (fun c hc => hc.imp id (fun q => by simp at q ⊢; rcases q with h | h | h <;> simp [h]))))
    have d1 := (five (hn3.at_ p (.inr (by simp)))).2.1
    clear hn3 hr3 hw3 HK HN2 HW2 c2'
    go_wp2_with fail
    refine bodyPost_ret (v := .tuple #[.string (bst (vl p).b), .int .i64 0]) (by simp [results, Try.results12, go_sem, *]) rfl ?_
    have hk : ∀ k, k = cb ∨ k = mb → w3.heap[k]? = w.heap[k]? := fun k hk => HW3.out.block k (HC.out.lt (hk.imp id .inl)) (fun q => by have := HAP.out.2 k q; rcases hk with e | e; exact this.1 e; exact this.2 e)
    refine ⟨rfl, ⟨⟨mb, eb, p :: (l1 ++ l2), vl, pv3, nx3, m, HC.out.fronted hk HN3.out HR3.out (fun _ _ => rfl), rfl, fun k hk => HS.out k ?_⟩, fun k hk => Nat.lt_of_lt_of_le (HLOW.out k hk) HW3.out.size⟩, HW3.out.mono fun k hk => HS.out k (.inr (.inr hk))⟩
    unfold CaS at hk ⊢
    simp at hk ⊢
    rcases hk with h | h | h | h | h | h <;> simp [h]

end Go.Proofs.Ytdhjjjagjkencaa
