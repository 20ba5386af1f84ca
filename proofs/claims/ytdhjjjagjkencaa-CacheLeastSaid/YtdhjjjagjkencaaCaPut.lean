/-
  The landed cache: New, Put.
-/
import Derived.Test.YtdhjjjagjkencaaCaGet
namespace Go.Proofs.Ytdhjjjagjkencaa
open Go Go.RowKit

/-- what New answers -/
def NewA (w : World) (r : Int) (e : Ending) (w' : World) : Prop :=
  if r < 1 ∨ 1024 < r then e = .returned (.tuple #[.pointer none, .int .i64 110]) ∧ w' = w
  else ∃ cb, e = .returned (.tuple #[(.pointer (some ⟨cb, 0, none⟩)), .int .i64 0]) ∧ CA (fun k => w.heap.size ≤ k ∧ k < w'.heap.size) w' cb r.toNat [] ∧ Below w.heap.size w w'
set_option maxHeartbeats 4000000 in
set_option maxRecDepth 100000 in
theorem new_any (r : Int) (w : World) : Calls Try.prog 7 #[.int .i64 r] w (NewA w r) := by
  unfold NewA
  by_cases hb : r < 1
  · simp only [if_pos (show r < 1 ∨ 1024 < r from .inl hb)]
    go_enter Try.func7, Try.ntmps7
    go_wp2_with fail
    go_ret2
    exact ⟨rfl, rfl⟩
  by_cases hb2 : 1024 < r
  · simp only [if_pos (show r < 1 ∨ 1024 < r from .inr hb2)]
    go_enter Try.func7, Try.ntmps7
    go_wp2_with fail
    go_ret2
    exact ⟨rfl, rfl⟩
  simp only [if_neg (show ¬ (r < 1 ∨ 1024 < r) by omega)]
  obtain ⟨R, rfl⟩ : ∃ R : Nat, r = (R : Int) := ⟨r.toNat, by omega⟩
  rw [Int.toNat_natCast]
  have hmm := @run_makeMap Try.prog
  have HB1 := hid ((Below.refl w.heap.size w).alloc (Nat.le_refl _) (.cells #[.int .i64 0, .string ⟨#[]⟩, .bool false, .pointer none, .pointer none] 57))
  have HQ1 := hid (Blk.new w 57 #[.int .i64 0, .string ⟨#[]⟩, .bool false, .pointer none, .pointer none])
  go_enter Try.func7, Try.ntmps7
  go_upto_region 4 with fail
  generalize w.alloc (.cells #[.int .i64 0, .string ⟨#[]⟩, .bool false, .pointer none, .pointer none] 57) = w1 at *
  obtain ⟨eb, he⟩ : ∃ eb, w.heap.size = eb := ⟨_, rfl⟩
  rw [he] at HQ1 ⊢
  have HE := hid he
  clear he
  have x3 := HQ1.out.cell 3
  have x4 := HQ1.out.cell 4
  have f3 := HQ1.out.free 3
  have f4 := HQ1.out.free 4
  have hq2 : Blk ((w1.setCell ⟨eb, 3, none⟩ (.pointer (some ⟨eb, 0, none⟩))).setCell ⟨eb, 4, none⟩ (.pointer (some ⟨eb, 0, none⟩))) eb 57 (pcell ⟨0, [], false⟩ eb eb) := by
    have := (HQ1.out.set 3 (.pointer (some ⟨eb, 0, none⟩))).set 4 (.pointer (some ⟨eb, 0, none⟩))
    simpa [pcell, bst] using this
  have HQ2 := hid hq2
  have HB2 := hid ((HB1.out.setCell (p := ⟨eb, 3, none⟩) (Nat.le_of_eq HE.out) (.pointer (some ⟨eb, 0, none⟩))).setCell (p := ⟨eb, 4, none⟩) (Nat.le_of_eq HE.out) (.pointer (some ⟨eb, 0, none⟩)))
  clear hq2
  go_upto_region 5 with fail
  clear x3 x4 f3 f4 HQ1 HB1
  generalize (w1.setCell ⟨eb, 3, none⟩ (.pointer (some ⟨eb, 0, none⟩))).setCell ⟨eb, 4, none⟩ (.pointer (some ⟨eb, 0, none⟩)) = w2 at *
  have HT3 := hid (Tab.made w2)
  have HQ3 := hid (HQ2.out.alloc (.map #[] 0))
  have HB3 := hid (HB2.out.alloc HB2.out.size (.map #[] 0))
  have HS3 := hid (show (w2.alloc (.map #[] 0)).heap.size = w2.heap.size + 1 by simp)
  go_wp2_with fail
  have HC4 := hid (Blk.new (w2.alloc (.map #[] 0)) 60 #[.int .i64 (R : Int), .map (some w2.heap.size), (.pointer (some ⟨eb, 0, none⟩))])
  have HT4 := hid (HT3.out.alloc (.cells #[.int .i64 (R : Int), .map (some w2.heap.size), (.pointer (some ⟨eb, 0, none⟩))] 60))
  have HQ4 := hid (HQ3.out.alloc (.cells #[.int .i64 (R : Int), .map (some w2.heap.size), (.pointer (some ⟨eb, 0, none⟩))] 60))
  have HB4 := hid (HB3.out.alloc HB3.out.size (.cells #[.int .i64 (R : Int), .map (some w2.heap.size), (.pointer (some ⟨eb, 0, none⟩))] 60))
  have hc4 := HC4.out
  rw [HS3.out] at hc4
  have hs4 : ((w2.alloc (.map #[] 0)).alloc (.cells #[.int .i64 (R : Int), .map (some w2.heap.size), (.pointer (some ⟨eb, 0, none⟩))] 60)).heap.size = w2.heap.size + 2 := by simp
  go_ret2
  refine ⟨_, rfl, ⟨⟨_, eb, [], fun _ => ⟨0, [], false⟩, fun _ => eb, fun _ => eb, _, ⟨hc4, HT4.out, ⟨fun c hc => ?_⟩, RingOk.empty eb rfl rfl, fun i v => by simp, fun a ha => by simp at ha⟩, rfl, fun k hk => ?_⟩, fun k hk => hk.2⟩, HB4.out⟩
  · obtain rfl : c = eb := by simpa using hc
    exact HQ4.out
  · have := HB2.out.size
    have h2 := HQ2.out.lt
    have h3 := HE.out
    rw [hs4]
    unfold CaS at hk
    simp at hk
    omega

/-- what Put answers -/
def PutA (R : Nat) (O : List En) (e : Ending) : Prop := match O[R]? with
  | none => e = .returned (.tuple #[.agg #[.int .i64 0, .string ⟨#[]⟩, .bool false], .bool false])
  | some y => e = .returned (.tuple #[y.val, .bool true])
/-- a cache whose entry p has just been taken out of the ring, or made, and tabled -/
structure Mid (S : Nat → Prop) (w w2 : World) (cb R mb eb g : Nat) (k : Int) (b : List UInt8) (d : Bool) (l : List En) (p : Nat) (b0 : List UInt8) (d0 : Bool) (x y : Value) (ps : List Nat) (vl : Nat → En) (pv nx : Nat → Nat) (m : TabF) : Prop where
  blk : Blk w2 cb 60 #[.int .i64 (R : Int), .map (some mb), (.pointer (some ⟨eb, 0, none⟩))]
  tab : Tab w2 mb m (ps.length + 1)
  nodes : Nodes w2 (fun c => c = eb ∨ c ∈ ps) vl pv nx
  pblk : Blk w2 p 57 #[.int .i64 k, .string (bst b0), .bool d0, x, y]
  ring : RingOk eb ps nx pv
  new : p ∉ eb :: ps
  is : TabIs m (p :: ps) (updE vl p ⟨k, b, d0 || d⟩)
  ids : Ids (p :: ps) (updE vl p ⟨k, b, d0 || d⟩)
  lst : ⟨k, b, d0 || d⟩ :: ps.map vl = inE k b d l
  few : ps.length ≤ R
  set : ∀ c, CaS cb mb eb ps c → S c
  pin : S p ∨ (w.heap.size ≤ p ∧ p < w2.heap.size)
  gblk : Blk w2 g 32 #[.int .i64 0, .string ⟨#[]⟩, .bool false]
  gnew : g = w.heap.size
  gm : mb ≠ g
  within : Within S w w2
theorem map_updE {vl : Nat → En} {p : Nat} {x : En} {ps : List Nat} (h : p ∉ ps) : ps.map (updE vl p x) = ps.map vl := List.map_congr_left fun _ hc => updE_ne (fun e => h (e ▸ hc))
/-- the entry written, linked in front -/
structure Put5 (S : Nat → Prop) (w w2 : World) (cb R mb eb g : Nat) (O : List En) (ps : List Nat) (vl : Nat → En) (pv nx : Nat → Nat) (m : TabF) : Prop where
  ca : CaIn w2 cb R mb eb ps vl pv nx m
  lst : ps.map vl = O
  set : ∀ c, CaS cb mb eb ps c → S c ∨ (w.heap.size ≤ c ∧ c < w2.heap.size)
  gblk : Blk w2 g 32 #[.int .i64 0, .string ⟨#[]⟩, .bool false]
  gnew : g = w.heap.size
  gm : mb ≠ g
  within : Within S w w2
  few : ps.length ≤ R + 1
theorem Put5.step {S : Nat → Prop} {w w2 w3 : World} {cb R mb eb g : Nat} {O : List En} {ps : List Nat} {vl : Nat → En} {pv nx : Nat → Nat} {m : TabF} (h : Put5 S w w2 cb R mb eb g O ps vl pv nx m) (hb : Below w2.heap.size w2 w3) : Put5 S w w3 cb R mb eb g O ps vl pv nx m :=
  ⟨h.ca.step hb, h.lst, fun _ hc => (h.set _ hc).imp id (fun q => ⟨q.1, Nat.lt_of_lt_of_le q.2 hb.size⟩), (hb.block g h.gblk.lt).trans h.gblk, h.gnew, h.gm, h.within.then (Within.of_below (M := S) hb) (fun _ q => .inl q), h.few⟩
set_option maxHeartbeats 4000000 in
set_option maxRecDepth 100000 in
theorem put_any {S : Nat → Prop} {w : World} {cb R : Nat} {l : List En} (k : Int) (b : List UInt8) (d : Bool) (h : CA S w cb R l) (hl : l.length ≤ R) :
    Calls Try.prog 10 #[(.pointer (some ⟨cb, 0, none⟩)), .int .i64 k, .string (bst b), .bool d] w fun e w' => PutA R (inE k b d l) e ∧ CA (fun c => S c ∨ (w.heap.size ≤ c ∧ c < w'.heap.size)) w' cb R (putE R k b d l) ∧ Within S w w' := by
  obtain ⟨mb, eb, ps, vl, pv, nx, m, hc, hll, hS⟩ := h.out
  have hb1 := (Below.refl w.heap.size w).alloc (Nat.le_refl _) (.cells #[.int .i64 0, .string ⟨#[]⟩, .bool false] 32)
  have hc1 := hc.step hb1
  have HLOW := hid h.low
  have HS := hid hS
  have HC1 := hid hc1
  have HT := hid hc1.tab
  have HG1 := hid (Blk.new w 32 #[.int .i64 0, .string ⟨#[]⟩, .bool false])
  have HB1 := hid hb1
  have HLK := hid (hc.look k)
  have HLL := hid hll
  have HFEW := hid (show ps.length ≤ R by have := hl; rw [hll] at this; simpa using this)
  obtain ⟨V, hV⟩ : ∃ V, (m k).getD (.pointer none) = V := ⟨_, rfl⟩
  obtain ⟨Q, hQ⟩ : ∃ Q, (m k).isSome = Q := ⟨_, rfl⟩
  have HV := hid hV
  have HQ := hid hQ
  have c1 := hc1.blk.cell 1
  have HAP := hid hc.apart
  have HGM := hid (show mb ≠ w.heap.size ∧ (∀ c, c = eb ∨ c ∈ ps → c ≠ w.heap.size) from ⟨fun e => by have := hc.lt (k := mb) (.inr (.inl rfl)); omega, fun _ q e => by have := hc.lt (.inr (.inr q)); omega⟩)
  clear h hc hc1 hb1 hS hV hQ hl hll
  go_enter Try.func10, Try.ntmps10
  go_upto_region 1 with fail
  generalize w.alloc (.cells #[.int .i64 0, .string ⟨#[]⟩, .bool false] 32) = w1 at *
  obtain ⟨g, hg⟩ : ∃ g, w.heap.size = g := ⟨_, rfl⟩
  rw [hg] at HG1 HGM ⊢
  have HGE := hid hg
  clear hg
  go_upto_if 21 with (at_lookup; refine wpList_lookOk _ rfl _ _ 58 rfl 3 55 Try.underlying58 Try.underlying3 (zero_pos _) rfl HT.out k rfl HV.out HQ.out ?_)
  clear c1
  go_cut [10] from 11 (fun s wr => ∃ p, s = (.pointer (some ⟨p, 0, none⟩)) ∧ Kept (∃ b0 d0 x y ps2 vl2 pv2 nx2 m2, Mid S w wr cb R mb eb g k b d l p b0 d0 x y ps2 vl2 pv2 nx2 m2))
  case first =>
    rcases HLK.out with ⟨h1, h2, h3⟩ | ⟨l1, p, l2, rfl, h2, h3, h4, h5, h6⟩
    · obtain rfl : Q = false := by rw [← HQ.out, h1]; rfl
      have hap := HAP.out
      have hgm := HGM.out
      have hb2 := (Below.refl w1.heap.size w1).alloc (Nat.le_refl _) (.cells #[.int .i64 k, .string ⟨#[]⟩, .bool false, .pointer none, .pointer none] 57)
      have HC2 := hid (HC1.out.step hb2)
      have HP2 := hid (Blk.new w1 57 #[.int .i64 k, .string ⟨#[]⟩, .bool false, .pointer none, .pointer none])
      have HG2 := hid (HG1.out.alloc (.cells #[.int .i64 k, .string ⟨#[]⟩, .bool false, .pointer none, .pointer none] 57))
      have HW2 := hid ((Within.of_below (M := S) HB1.out).then (Within.of_below (M := S) hb2) (fun _ q => .inl q))
      have HN1 := hid h1
      have HN3 := hid h3
      have HDE := hid (show dE k l = false ∧ outE (posE k l) l = l by
        rw [← HLL.out] at h2
        refine ⟨?_, outE_all h2⟩
        unfold dE
        rw [List.getElem?_eq_none h2]; rfl)
      have hpn : ∀ c, CaS cb mb eb ps c → c ≠ w1.heap.size := fun c hc e => by have := HC1.out.lt hc; omega
      have hpw : w.heap.size ≤ w1.heap.size := HB1.out.size
      have HPN := hid (And.intro hpn hpw)
      clear h1 h2 h3 hap hgm hb2 hpn hpw
      go_upto_region 5 with fail
      generalize w1.alloc (.cells #[.int .i64 k, .string ⟨#[]⟩, .bool false, .pointer none, .pointer none] 57) = w2 at *
      obtain ⟨p, hp⟩ : ∃ p, w1.heap.size = p := ⟨_, rfl⟩
      rw [hp] at HP2 HPN ⊢
      clear hp
      have HT2 := hid HC2.out.tab
      have c1 := HC2.out.blk.cell 1
      go_wp2_with (at_mapUpdate; refine wpList_put _ rfl _ _ _ 58 rfl 3 55 Try.underlying58 Try.underlying3 rfl HT2.out k rfl (.pointer (some ⟨p, 0, none⟩)) rfl ?_; intro w3 ht ho hs; have HT3 := hid (And.intro ht ho); clear ht ho hs; go_frame)
      go_meet
      case rel =>
        have ho := HT3.out.2
        have hmp : p ≠ mb := fun e => HPN.out.1 mb (.inr (.inl rfl)) e.symm
        have ht := HT3.out.1
        rw [HN1.out] at ht
        have hpp : p ∉ ps := fun hm => HPN.out.1 p (.inr (.inr (.inr hm))) rfl
        have hne : ∀ c, c ∈ ps → c ≠ p := fun c hm e => hpp (by rw [← e]; exact hm)
        refine ⟨p, rfl, hid ⟨[], false, _, _, ps, vl, pv, nx, _, HC2.out.blk.grown ho (fun e => by injection e with e; exact HAP.out.1 e.symm), ht, HC2.out.nodes.keep (fun c hc => ho.block c (HC2.out.nodes.at_ c hc).lt (fun e => by injection e with e; exact (HAP.out.2 c hc).2 e)), HP2.out.grown ho (fun e => by injection e with e; exact hmp e), HC2.out.ring, ?_, ?_, ?_, ?_, HFEW.out, HS.out, .inr ⟨HPN.out.2, Nat.lt_of_lt_of_le HP2.out.lt ho.size⟩, HG2.out.grown ho (fun e => by injection e with e; exact HGM.out.1 e.symm), HGE.out.symm, HGM.out.1, HW2.out.then (Within.of_only (M := S) ho (.inl (HS.out mb (.inr (.inl rfl))))) (fun _ q => .inl q)⟩⟩
        · intro hm
          rcases List.mem_cons.1 hm with e | hm
          · exact HPN.out.1 p (.inr (.inr (.inl e))) rfl
          · exact hpp hm
        · have := HC2.out.is.add (p := p) (vl' := updE vl p ⟨k, b, false || d⟩) (by rw [updE_eq]; exact HN1.out) (fun c hc => updE_ne (hne c hc))
          rw [updE_eq] at this
          exact this
        · intro a1 ha1 a2 ha2 he
          rcases List.mem_cons.1 ha1 with rfl | h1
          · rcases List.mem_cons.1 ha2 with rfl | h2
            · rfl
            · rw [updE_eq, updE_ne (hne a2 h2)] at he
              exact absurd he.symm (HN3.out a2 h2)
          · rcases List.mem_cons.1 ha2 with rfl | h2
            · rw [updE_eq, updE_ne (hne a1 h1)] at he
              exact absurd he (HN3.out a1 h1)
            · rw [updE_ne (hne a1 h1), updE_ne (hne a2 h2)] at he
              exact HC2.out.ids a1 h1 a2 h2 he
        · unfold inE
          rw [HDE.out.1, HDE.out.2, HLL.out, Bool.or_comm]
    · obtain rfl : Q = true := by rw [← HQ.out, h6]; rfl
      obtain rfl : V = .pointer (some ⟨p, 0, none⟩) := by rw [← HV.out, h6]; rfl
      have HU := hid (unlink_in HC1.out)
      have HRI := hid HC1.out.ring.out.1
      have hnp : p ∉ eb :: (l1 ++ l2) := by
        have hn := List.nodup_cons.1 HC1.out.ring.nodup
        have h2 := List.nodup_append.1 hn.2
        intro q
        rcases List.mem_cons.1 q with q | q
        · exact hn.1 (by rw [← q]; simp)
        · rcases List.mem_append.1 q with q | q
          · exact h2.2.2 p q p (by simp) rfl
          · exact (List.nodup_cons.1 h2.2.1).1 q
      have HF := hid (And.intro hnp h2)
      have HDE := hid (show dE k l = (vl p).d ∧ outE (posE k l) l = (l1 ++ l2).map vl by
        rw [HLL.out]
        refine ⟨?_, h5⟩
        unfold dE
        rw [h4]; rfl)
      clear h2 h3 h4 h5 h6 hnp
      generalize upd pv (nx p) (pv p) = pv1 at *
      generalize upd nx (pv p) (nx p) = nx1 at *
      go_wp2_with fail
      go_fit HU.out
      rintro e w2 ⟨rfl, hn2, hw2⟩
      have HN2 := hid hn2
      have HW2 := hid hw2
      clear hn2 hw2
      go_wp2_with fail
      go_meet
      case rel => 
        have hN := HN2.out
        have hW := HW2.out
        obtain ⟨f1, f2⟩ := HF.out
        have hpp : p ∉ eb :: (l1 ++ l2) := f1
        have mem : ∀ c, c ∈ p :: (l1 ++ l2) ↔ c ∈ l1 ++ p :: l2 := fun c => by simp; constructor <;> (rintro (h | h | h) <;> simp [h])
        have hpp2 : ∀ c ∈ l1 ++ l2, c ≠ p := fun c hc e => hpp (by rw [← e]; exact List.mem_cons_of_mem _ hc)
        have hv : ∀ c ∈ l1 ++ p :: l2, (updE vl p ⟨k, b, (vl p).d || d⟩ c).i = (vl c).i := fun c _ => by
          by_cases e : c = p
          · subst e; rw [updE_eq]; exact f2.symm
          · rw [updE_ne e]
        have hb0 := hN.at_ p (.inr (by simp))
        have hb1 : Blk w2 p 57 #[.int .i64 k, .string (bst (vl p).b), .bool (vl p).d, (.pointer (some ⟨pv1 p, 0, none⟩)), (.pointer (some ⟨nx1 p, 0, none⟩))] := by rw [← f2]; exact hb0
        refine ⟨p, rfl, hid ⟨(vl p).b, (vl p).d, _, _, l1 ++ l2, vl, _, _, m, HC1.out.blk.within hW (fun hk => (HAP.out.2 cb hk).1 rfl), ?_, hN.mono (fun c hc => hc.imp id (fun q => (mem c).1 (List.mem_cons_of_mem _ q))), hb1, HRI.out, hpp, (HC1.out.is.vals hv).front, (HC1.out.ids.vals hv).sub (fun c hc => (mem c).1 hc), ?_, ?_, ?_, .inl (HS.out p (.inr (.inr (.inr (by simp))))), HG1.out.within hW (fun hk => HGM.out.2 g hk rfl), HGE.out.symm, HGM.out.1, (Within.of_below (M := S) HB1.out).then hW (fun c hc => .inl (HS.out c (.inr (.inr hc))))⟩⟩
        · have : (l1 ++ l2).length + 1 = (l1 ++ p :: l2).length := by simp; omega
          rw [this]
          exact HC1.out.tab.within hW (fun hk => (HAP.out.2 mb hk).2 rfl)
        · unfold inE
          rw [HDE.out.1, HDE.out.2, Bool.or_comm]
        · have := HFEW.out
          simp at this ⊢; omega
        · intro c hc
          refine HS.out c ?_
          unfold CaS at hc ⊢
          rcases hc with h | h | h | h
          · exact .inl h
          · exact .inr (.inl h)
          · exact .inr (.inr (.inl h))
          · exact .inr (.inr (.inr ((mem c).1 (List.mem_cons_of_mem _ h))))
  case rest =>
    obtain ⟨p, rfl, HM0⟩ := hcut
    obtain ⟨b0, d0, x, y, ps2, vl2, pv2, nx2, m2, HM1⟩ := HM0.out
    have HM := hid HM1
    clear HM0 HM1 HLK HLL HFEW HV HQ HAP HC1 HT HG1 HB1 HGM HS HGE
    have y0 := HM.out.pblk.cell 1
    have y1 := HM.out.pblk.cell 2
    have y2 := HM.out.pblk.free 1
    have y3 := HM.out.pblk.free 2
    have y4 := HM.out.pblk.cell 0
    cases d0 with
    | true =>
      go_upto_region 8 with fail
      have hp4 : Blk ((wc.setCell ⟨p, 1, none⟩ (.string (bst b))).setCell ⟨p, 2, none⟩ (.bool true)) p 57 #[.int .i64 k, .string (bst b), .bool true, x, y] := by
        have := (HM.out.pblk.set 1 (.string (bst b))).set 2 (.bool true)
        simpa using this
      have hoff : ∀ c, c ≠ p → ((wc.setCell ⟨p, 1, none⟩ (.string (bst b))).setCell ⟨p, 2, none⟩ (.bool true)).heap[c]? = wc.heap[c]? := fun c hc => (Below.heap_setCell _ ⟨p, 2, none⟩ _ c hc).trans (Below.heap_setCell _ ⟨p, 1, none⟩ _ c hc)
      have HW4 := hid ((HM.out.within.set (p := ⟨p, 1, none⟩) (HM.out.pin.imp id (·.1)) (.string (bst b))).set (p := ⟨p, 2, none⟩) (HM.out.pin.imp id (·.1)) (.bool true))
      have HS4 := hid (show wc.heap.size ≤ ((wc.setCell ⟨p, 1, none⟩ (.string (bst b))).setCell ⟨p, 2, none⟩ (.bool true)).heap.size by simp [World.setCell])
      have HP4 := hid hp4
      have HO4 := hid hoff
      clear hp4 hoff y0 y1 y2 y3 y4
      generalize (wc.setCell ⟨p, 1, none⟩ (.string (bst b))).setCell ⟨p, 2, none⟩ (.bool true) = w4 at *
      have hpe : ∀ c, c = eb ∨ c ∈ ps2 → c ≠ p := fun c hc e => HM.out.new (by rw [← e]; simpa using hc)
      have hN4 := HM.out.nodes.keep fun c hc => HO4.out c (hpe c hc)
      have hC4 : Blk w4 cb 60 _ := (HO4.out cb (HM.out.blk.ne HM.out.pblk (by decide))).trans HM.out.blk
      have hT4 := HM.out.tab.of_block (HO4.out mb (HM.out.tab.ne_blk HM.out.pblk))
      have hG4 : Blk w4 g 32 _ := (HO4.out g (HM.out.gblk.ne HM.out.pblk (by decide))).trans HM.out.gblk
      have HN4 := hid hN4
      have HC4 := hid hC4
      have HT4 := hid hT4
      have HG4 := hid hG4
      have HL := hid (link_in (z := ⟨k, b, true⟩) hN4 HM.out.ring HM.out.new HP4.out)
      have c2 := hC4.cell 2
      clear hpe hN4 hC4 hT4 hG4
      go_wp2_with fail
      go_fit HL.out
      rintro e w5 ⟨rfl, ⟨pv5, nx5, hn5, hr5⟩, hw5⟩
      have hap : ∀ c, c = eb ∨ c ∈ p :: ps2 → c ≠ cb ∧ c ≠ mb ∧ c ≠ g := fun c hc => by
        have hb := hn5.at_ c hc
        have hb4 : ∃ cs, Blk w4 c 57 cs := by
          rcases hc with hc | hc
          · exact ⟨_, HN4.out.at_ c (.inl hc)⟩
          · rcases List.mem_cons.1 hc with rfl | hc
            · exact ⟨_, HP4.out⟩
            · exact ⟨_, HN4.out.at_ c (.inr hc)⟩
        obtain ⟨cs, hb4⟩ := hb4
        exact ⟨hb4.ne HC4.out (by decide), (HT4.out.ne_blk hb4).symm, hb4.ne HG4.out (by decide)⟩
      have HP5 := hid (show Put5 S w w5 cb R mb eb g (inE k b d l) (p :: ps2) (updE vl2 p ⟨k, b, true⟩) pv5 nx5 m2 from
        ⟨⟨HC4.out.within hw5 (fun q => (hap cb q).1 rfl), HT4.out.within hw5 (fun q => (hap mb q).2.1 rfl), hn5, hr5, HM.out.is, HM.out.ids⟩,
         by rw [List.map_cons, updE_eq, map_updE (fun hm => HM.out.new (List.mem_cons_of_mem _ hm))]; exact HM.out.lst,
         fun c hc => (by
          unfold CaS at hc
          have hs : ∀ c, CaS cb mb eb ps2 c → S c ∨ (w.heap.size ≤ c ∧ c < w5.heap.size) := fun c hc => .inl (HM.out.set c hc)
          rcases hc with h | h | h | h
          · exact hs c (.inl h)
          · exact hs c (.inr (.inl h))
          · exact hs c (.inr (.inr (.inl h)))
          · rcases List.mem_cons.1 h with rfl | h
            · exact HM.out.pin.imp id (fun q => ⟨q.1, Nat.lt_of_lt_of_le q.2 (Nat.le_trans HS4.out hw5.size)⟩)
            · exact hs c (.inr (.inr (.inr h)))),
         HG4.out.within hw5 (fun q => (hap g q).2.2 rfl), HM.out.gnew, HM.out.gm,
         HW4.out.then hw5 (fun c hc => (by
          rcases hc with h | h
          · exact .inl (HM.out.set c (.inr (.inr (.inl h))))
          · rcases List.mem_cons.1 h with rfl | h
            · exact HM.out.pin.imp id (·.1)
            · exact .inl (HM.out.set c (.inr (.inr (.inr h)))))),
         by have := HM.out.few; simp; omega⟩)
      clear hn5 hr5 hw5 hap HL HN4 HC4 HT4 HG4 HP4 HO4 HS4 HW4 HM c2
      generalize p :: ps2 = ps5 at *
      generalize updE vl2 p ⟨k, b, true⟩ = vl5 at *
      have HLEN := hid (fun (W : World) (hW : Beyond w5 W) => len_any (HP5.out.ca.step hW))
      have hc0 := HP5.out.ca.blk.cell 0
      have hcl := HP5.out.ca.blk.lt
      have HC0 := hid (And.intro hc0 hcl)
      have z0 : ∀ W, Beyond w5 W → W.cell? ⟨cb, 0, none⟩ = some (.int .i64 (R : Int)) := fun W hW => (Below.cell hW HC0.out.2).trans HC0.out.1
      clear hc0 hcl
      by_cases hle : ps5.length ≤ R
      · have hle' : (ps5.length : Int) ≤ (R : Int) := by omega
        go_upto_region 9 with fail
        refine wp_region_held_drew (S := Beyond w5) (by kernel_rfl) (Beyond.drew _) (fun hS => ?_)
        refine stT 0 hS ?_
        try simp only [putr]
        refine stT 2 hS ?_
        try simp only [putr]
        refine stT 3 hS ?_
        try simp only [putr]
        refine stT 4 hS ?_
        try simp only [putr]
        refine stT 5 hS ?_
        try simp only [putr]
        refine rdH [1] ?_
        refine rcH (fun K hK => ?_) AllReadyH.nil
        go_simp
        go_fit (HLEN.out _ hS)
        rintro e wa ⟨rfl, rfl⟩
        have hS1 := hS
        refine hK.out _ _ (by assumption) (fun _ => ?_)
        clear hK K hS
        have hS := hS1
        try simp only [putr]
        refine stT 6 hS ?_
        try simp only [putr]
        refine wpAnyH_done (by kernel_rfl) ?_ _
        have HP6 := hid (HP5.out.step ((Below.refl _ _).drew))
        clear hS hS1 HLEN z0 HC0 HP5
        generalize w5.drew = w6 at *
        have HG6 := hid HP6.out.gblk
        have HW6 := hid HP6.out.within
        have HGE := hid HP6.out.gnew.symm
        have x0 := HG6.out.cell 0
        have x1 := HG6.out.cell 1
        have x2 := HG6.out.cell 2
        have f0 := HG6.out.free 0
        have f1 := HG6.out.free 1
        have f2 := HG6.out.free 2
        go_wp2_with fail
        have hz : Blk (((w6.setCell ⟨g, 0, none⟩ (.int .i64 0)).setCell ⟨g, 1, none⟩ (.string ⟨#[]⟩)).setCell ⟨g, 2, none⟩ (.bool false)) g 32 #[.int .i64 0, .string ⟨#[]⟩, .bool false] := by
          have := ((HG6.out.set 0 (.int .i64 0)).set 1 (.string ⟨#[]⟩)).set 2 (.bool false)
          simpa using this
        have hk : ∀ k, k ≠ g → (((w6.setCell ⟨g, 0, none⟩ (.int .i64 0)).setCell ⟨g, 1, none⟩ (.string ⟨#[]⟩)).setCell ⟨g, 2, none⟩ (.bool false)).heap[k]? = w6.heap[k]? := fun k hk => (Below.heap_setCell _ ⟨g, 2, none⟩ _ k hk).trans ((Below.heap_setCell _ ⟨g, 1, none⟩ _ k hk).trans (Below.heap_setCell _ ⟨g, 0, none⟩ _ k hk))
        have hw : Within S w (((w6.setCell ⟨g, 0, none⟩ (.int .i64 0)).setCell ⟨g, 1, none⟩ (.string ⟨#[]⟩)).setCell ⟨g, 2, none⟩ (.bool false)) := ((HW6.out.set (p := ⟨g, 0, none⟩) (.inr (Nat.le_of_eq HGE.out)) _).set (p := ⟨g, 1, none⟩) (.inr (Nat.le_of_eq HGE.out)) _).set (p := ⟨g, 2, none⟩) (.inr (Nat.le_of_eq HGE.out)) _
        have HZ := hid hz
        have HK := hid hk
        have HW := hid hw
        have HSZ := hid (show (((w6.setCell ⟨g, 0, none⟩ (.int .i64 0)).setCell ⟨g, 1, none⟩ (.string ⟨#[]⟩)).setCell ⟨g, 2, none⟩ (.bool false)).heap.size = w6.heap.size by simp [World.setCell])
        clear hz hk hw
        generalize ((w6.setCell ⟨g, 0, none⟩ (.int .i64 0)).setCell ⟨g, 1, none⟩ (.string ⟨#[]⟩)).setCell ⟨g, 2, none⟩ (.bool false) = w9 at *
        have t0 := HZ.out.cell 0
        have t1 := HZ.out.cell 1
        have t2 := HZ.out.cell 2
        refine bodyPost_ret (v := .tuple #[.agg #[.int .i64 0, .string ⟨#[]⟩, .bool false], .bool false]) (by simp [results, Try.results10, go_sem, *]) rfl ?_
        have hO := HP6.out.lst
        have hlen : (inE k b d l).length = ps5.length := by rw [← hO, List.length_map]
        have h1 : (inE k b d l)[R]? = none := List.getElem?_eq_none (by omega)
        have h2 : putE R k b d l = ps5.map vl5 := by unfold putE; rw [List.take_of_length_le (by omega), hO]
        have hne : ∀ c, CaS cb mb eb ps5 c → c ≠ g := fun c hc e => by
          subst e
          rcases hc with h | h | h
          · exact HG6.out.ne HP6.out.ca.blk (by decide) h
          · exact HP6.out.gm h.symm
          · exact HG6.out.ne (HP6.out.ca.nodes.at_ _ h) (by decide) rfl
        have hsz : w9.heap.size = w6.heap.size := HSZ.out
        refine ⟨by unfold PutA; rw [h1], ⟨⟨mb, eb, ps5, vl5, pv5, nx5, m2, HP6.out.ca.keep (fun c hc => HK.out c (hne c hc)), h2, fun c hc => by rw [hsz]; exact HP6.out.set c hc⟩, fun c hc => ?_⟩, HW.out⟩
        rw [hsz] at hc ⊢
        rcases hc with hc | hc
        · exact Nat.lt_of_lt_of_le (HLOW.out c hc) HW6.out.size
        · exact hc.2
      · have hle' : ¬ (ps5.length : Int) ≤ (R : Int) := by omega
        go_upto_region 9 with fail
        refine wp_region_held_drew (S := Beyond w5) (by kernel_rfl) (Beyond.drew _) (fun hS => ?_)
        refine stT 0 hS ?_
        try simp only [putr]
        refine stT 2 hS ?_
        try simp only [putr]
        refine stT 3 hS ?_
        try simp only [putr]
        refine stT 4 hS ?_
        try simp only [putr]
        refine stT 5 hS ?_
        try simp only [putr]
        refine rdH [1] ?_
        refine rcH (fun K hK => ?_) AllReadyH.nil
        go_simp
        go_fit (HLEN.out _ hS)
        rintro e wa ⟨rfl, rfl⟩
        have hS1 := hS
        refine hK.out _ _ (by assumption) (fun _ => ?_)
        clear hK K hS
        have hS := hS1
        try simp only [putr]
        refine stT 6 hS ?_
        try simp only [putr]
        refine wpAnyH_done (by kernel_rfl) ?_ _
        have HP6 := hid (HP5.out.step ((Below.refl _ _).drew))
        clear hS hS1 HLEN z0 HC0 HP5
        generalize w5.drew = w6 at *
        have HG6 := hid HP6.out.gblk
        have HW6 := hid HP6.out.within
        have HGE := hid HP6.out.gnew.symm
        have x0 := HG6.out.cell 0
        have x1 := HG6.out.cell 1
        have x2 := HG6.out.cell 2
        have f0 := HG6.out.free 0
        have f1 := HG6.out.free 1
        have f2 := HG6.out.free 2
        obtain ⟨xs, q, hxq⟩ : ∃ xs q, ps5 = xs ++ q :: [] := ⟨ps5.dropLast, ps5.getLast (by intro e; subst e; simp at hle), (List.dropLast_concat_getLast _).symm⟩
        subst hxq
        have hq : pv5 eb = q := HP6.out.ca.ring.last
        have HRM := hid (remove_any HP6.out.ca)
        have c2 := HP6.out.ca.blk.cell 2
        have e3 := (five (HP6.out.ca.nodes.at_ eb (.inl rfl))).2.2.2.1
        rw [hq] at e3
        clear x0 x1 x2 f0 f1 f2
        go_wp2_with fail
        go_fit HRM.out
        rintro e w7 ⟨rfl, ⟨pv7, nx7, m7, hc7⟩, hw7⟩
        have hne : ∀ c, CaS cb mb eb (xs ++ q :: []) c → c ≠ g := fun c hc e => by
          subst e
          rcases hc with h | h | h
          · exact HG6.out.ne HP6.out.ca.blk (by decide) h
          · exact HP6.out.gm h.symm
          · exact HG6.out.ne (HP6.out.ca.nodes.at_ _ h) (by decide) rfl
        have HNE := hid hne
        have HC7 := hid hc7
        have HG7 := hid (HG6.out.within hw7 (fun hc => hne g hc rfl))
        have hw77 : Within S w w7 := HW6.out.then hw7 (fun c hc => (HP6.out.set c hc).imp id (·.1))
        have HW7 := hid hw77
        have HSS := hid hw7.size
        obtain ⟨z, hz⟩ : ∃ z, vl5 q = z := ⟨_, rfl⟩
        have HZQ := hid hz
        unfold En.val
        rw [hz]
        clear hz hc7 hw7 hw77 hne c2 e3 hq HRM
        have x0 := HG7.out.cell 0
        have x1 := HG7.out.cell 1
        have x2 := HG7.out.cell 2
        have f0 := HG7.out.free 0
        have f1 := HG7.out.free 1
        have f2 := HG7.out.free 2
        go_wp2_with fail
        have hz : Blk (((w7.setCell ⟨g, 0, none⟩ (.int .i64 z.i)).setCell ⟨g, 1, none⟩ (.string (bst z.b))).setCell ⟨g, 2, none⟩ (.bool z.d)) g 32 #[.int .i64 z.i, .string (bst z.b), .bool z.d] := by
          have := ((HG7.out.set 0 (.int .i64 z.i)).set 1 (.string (bst z.b))).set 2 (.bool z.d)
          simpa using this
        have hk : ∀ k, k ≠ g → (((w7.setCell ⟨g, 0, none⟩ (.int .i64 z.i)).setCell ⟨g, 1, none⟩ (.string (bst z.b))).setCell ⟨g, 2, none⟩ (.bool z.d)).heap[k]? = w7.heap[k]? := fun k hk => (Below.heap_setCell _ ⟨g, 2, none⟩ _ k hk).trans ((Below.heap_setCell _ ⟨g, 1, none⟩ _ k hk).trans (Below.heap_setCell _ ⟨g, 0, none⟩ _ k hk))
        have hw : Within S w (((w7.setCell ⟨g, 0, none⟩ (.int .i64 z.i)).setCell ⟨g, 1, none⟩ (.string (bst z.b))).setCell ⟨g, 2, none⟩ (.bool z.d)) := ((HW7.out.set (p := ⟨g, 0, none⟩) (.inr (Nat.le_of_eq HGE.out)) _).set (p := ⟨g, 1, none⟩) (.inr (Nat.le_of_eq HGE.out)) _).set (p := ⟨g, 2, none⟩) (.inr (Nat.le_of_eq HGE.out)) _
        have HZ := hid hz
        have HK := hid hk
        have HW := hid hw
        have HSZ := hid (show (((w7.setCell ⟨g, 0, none⟩ (.int .i64 z.i)).setCell ⟨g, 1, none⟩ (.string (bst z.b))).setCell ⟨g, 2, none⟩ (.bool z.d)).heap.size = w7.heap.size by simp [World.setCell])
        clear hz hk hw
        generalize ((w7.setCell ⟨g, 0, none⟩ (.int .i64 z.i)).setCell ⟨g, 1, none⟩ (.string (bst z.b))).setCell ⟨g, 2, none⟩ (.bool z.d) = w9 at *
        have t0 := HZ.out.cell 0
        have t1 := HZ.out.cell 1
        have t2 := HZ.out.cell 2
        refine bodyPost_ret (v := .tuple #[.agg #[.int .i64 z.i, .string (bst z.b), .bool z.d], .bool true]) (by simp [results, Try.results10, go_sem, *]) rfl ?_
        have hO := HP6.out.lst
        have hfew := HP6.out.few
        have hlen : xs.length = R := by simp at hle hfew; omega
        have h1 : (inE k b d l)[R]? = some z := by rw [← hO, ← hlen, ← HZQ.out]; simp
        have h2 : putE R k b d l = (xs ++ []).map vl5 := by unfold putE; rw [← hO, ← hlen]; simp
        have hsz : w9.heap.size = w7.heap.size := HSZ.out
        have hcs : ∀ c, CaS cb mb eb (xs ++ []) c → CaS cb mb eb (xs ++ q :: []) c := fun c hc => by
          unfold CaS at hc ⊢
          simp at hc ⊢
          rcases hc with h | h | h | h <;> simp [h]
        refine ⟨by unfold PutA; rw [h1]; rfl, ⟨⟨mb, eb, xs ++ [], vl5, pv7, nx7, m7, HC7.out.keep (fun c hc => HK.out c (HNE.out c (hcs c hc))), h2, fun c hc => (HP6.out.set c (hcs c hc)).imp id (fun q => ⟨q.1, by rw [hsz]; exact Nat.lt_of_lt_of_le q.2 HSS.out⟩)⟩, fun c hc => ?_⟩, HW.out⟩
        rw [hsz] at hc ⊢
        rcases hc with hc | hc
        · exact Nat.lt_of_lt_of_le (HLOW.out c hc) HW7.out.size
        · exact hc.2
    | false =>
      go_upto_region 8 with fail
      have hp4 : Blk ((wc.setCell ⟨p, 1, none⟩ (.string (bst b))).setCell ⟨p, 2, none⟩ (.bool d)) p 57 #[.int .i64 k, .string (bst b), .bool d, x, y] := by
        have := (HM.out.pblk.set 1 (.string (bst b))).set 2 (.bool d)
        simpa using this
      have hoff : ∀ c, c ≠ p → ((wc.setCell ⟨p, 1, none⟩ (.string (bst b))).setCell ⟨p, 2, none⟩ (.bool d)).heap[c]? = wc.heap[c]? := fun c hc => (Below.heap_setCell _ ⟨p, 2, none⟩ _ c hc).trans (Below.heap_setCell _ ⟨p, 1, none⟩ _ c hc)
      have HW4 := hid ((HM.out.within.set (p := ⟨p, 1, none⟩) (HM.out.pin.imp id (·.1)) (.string (bst b))).set (p := ⟨p, 2, none⟩) (HM.out.pin.imp id (·.1)) (.bool d))
      have HS4 := hid (show wc.heap.size ≤ ((wc.setCell ⟨p, 1, none⟩ (.string (bst b))).setCell ⟨p, 2, none⟩ (.bool d)).heap.size by simp [World.setCell])
      have HP4 := hid hp4
      have HO4 := hid hoff
      clear hp4 hoff y0 y1 y2 y3 y4
      generalize (wc.setCell ⟨p, 1, none⟩ (.string (bst b))).setCell ⟨p, 2, none⟩ (.bool d) = w4 at *
      have hpe : ∀ c, c = eb ∨ c ∈ ps2 → c ≠ p := fun c hc e => HM.out.new (by rw [← e]; simpa using hc)
      have hN4 := HM.out.nodes.keep fun c hc => HO4.out c (hpe c hc)
      have hC4 : Blk w4 cb 60 _ := (HO4.out cb (HM.out.blk.ne HM.out.pblk (by decide))).trans HM.out.blk
      have hT4 := HM.out.tab.of_block (HO4.out mb (HM.out.tab.ne_blk HM.out.pblk))
      have hG4 : Blk w4 g 32 _ := (HO4.out g (HM.out.gblk.ne HM.out.pblk (by decide))).trans HM.out.gblk
      have HN4 := hid hN4
      have HC4 := hid hC4
      have HT4 := hid hT4
      have HG4 := hid hG4
      have HL := hid (link_in (z := ⟨k, b, d⟩) hN4 HM.out.ring HM.out.new HP4.out)
      have c2 := hC4.cell 2
      clear hpe hN4 hC4 hT4 hG4
      go_wp2_with fail
      go_fit HL.out
      rintro e w5 ⟨rfl, ⟨pv5, nx5, hn5, hr5⟩, hw5⟩
      have hap : ∀ c, c = eb ∨ c ∈ p :: ps2 → c ≠ cb ∧ c ≠ mb ∧ c ≠ g := fun c hc => by
        have hb := hn5.at_ c hc
        have hb4 : ∃ cs, Blk w4 c 57 cs := by
          rcases hc with hc | hc
          · exact ⟨_, HN4.out.at_ c (.inl hc)⟩
          · rcases List.mem_cons.1 hc with rfl | hc
            · exact ⟨_, HP4.out⟩
            · exact ⟨_, HN4.out.at_ c (.inr hc)⟩
        obtain ⟨cs, hb4⟩ := hb4
        exact ⟨hb4.ne HC4.out (by decide), (HT4.out.ne_blk hb4).symm, hb4.ne HG4.out (by decide)⟩
      have HP5 := hid (show Put5 S w w5 cb R mb eb g (inE k b d l) (p :: ps2) (updE vl2 p ⟨k, b, d⟩) pv5 nx5 m2 from
        ⟨⟨HC4.out.within hw5 (fun q => (hap cb q).1 rfl), HT4.out.within hw5 (fun q => (hap mb q).2.1 rfl), hn5, hr5, HM.out.is, HM.out.ids⟩,
         by rw [List.map_cons, updE_eq, map_updE (fun hm => HM.out.new (List.mem_cons_of_mem _ hm))]; exact HM.out.lst,
         fun c hc => (by
          unfold CaS at hc
          have hs : ∀ c, CaS cb mb eb ps2 c → S c ∨ (w.heap.size ≤ c ∧ c < w5.heap.size) := fun c hc => .inl (HM.out.set c hc)
          rcases hc with h | h | h | h
          · exact hs c (.inl h)
          · exact hs c (.inr (.inl h))
          · exact hs c (.inr (.inr (.inl h)))
          · rcases List.mem_cons.1 h with rfl | h
            · exact HM.out.pin.imp id (fun q => ⟨q.1, Nat.lt_of_lt_of_le q.2 (Nat.le_trans HS4.out hw5.size)⟩)
            · exact hs c (.inr (.inr (.inr h)))),
         HG4.out.within hw5 (fun q => (hap g q).2.2 rfl), HM.out.gnew, HM.out.gm,
         HW4.out.then hw5 (fun c hc => (by
          rcases hc with h | h
          · exact .inl (HM.out.set c (.inr (.inr (.inl h))))
          · rcases List.mem_cons.1 h with rfl | h
            · exact HM.out.pin.imp id (·.1)
            · exact .inl (HM.out.set c (.inr (.inr (.inr h)))))),
         by have := HM.out.few; simp; omega⟩)
      clear hn5 hr5 hw5 hap HL HN4 HC4 HT4 HG4 HP4 HO4 HS4 HW4 HM c2
      generalize p :: ps2 = ps5 at *
      generalize updE vl2 p ⟨k, b, d⟩ = vl5 at *
      have HLEN := hid (fun (W : World) (hW : Beyond w5 W) => len_any (HP5.out.ca.step hW))
      have hc0 := HP5.out.ca.blk.cell 0
      have hcl := HP5.out.ca.blk.lt
      have HC0 := hid (And.intro hc0 hcl)
      have z0 : ∀ W, Beyond w5 W → W.cell? ⟨cb, 0, none⟩ = some (.int .i64 (R : Int)) := fun W hW => (Below.cell hW HC0.out.2).trans HC0.out.1
      clear hc0 hcl
      by_cases hle : ps5.length ≤ R
      · have hle' : (ps5.length : Int) ≤ (R : Int) := by omega
        go_upto_region 9 with fail
        refine wp_region_held_drew (S := Beyond w5) (by kernel_rfl) (Beyond.drew _) (fun hS => ?_)
        refine stT 0 hS ?_
        try simp only [putr]
        refine stT 2 hS ?_
        try simp only [putr]
        refine stT 3 hS ?_
        try simp only [putr]
        refine stT 4 hS ?_
        try simp only [putr]
        refine stT 5 hS ?_
        try simp only [putr]
        refine rdH [1] ?_
        refine rcH (fun K hK => ?_) AllReadyH.nil
        go_simp
        go_fit (HLEN.out _ hS)
        rintro e wa ⟨rfl, rfl⟩
        have hS1 := hS
        refine hK.out _ _ (by assumption) (fun _ => ?_)
        clear hK K hS
        have hS := hS1
        try simp only [putr]
        refine stT 6 hS ?_
        try simp only [putr]
        refine wpAnyH_done (by kernel_rfl) ?_ _
        have HP6 := hid (HP5.out.step ((Below.refl _ _).drew))
        clear hS hS1 HLEN z0 HC0 HP5
        generalize w5.drew = w6 at *
        have HG6 := hid HP6.out.gblk
        have HW6 := hid HP6.out.within
        have HGE := hid HP6.out.gnew.symm
        have x0 := HG6.out.cell 0
        have x1 := HG6.out.cell 1
        have x2 := HG6.out.cell 2
        have f0 := HG6.out.free 0
        have f1 := HG6.out.free 1
        have f2 := HG6.out.free 2
        go_wp2_with fail
        have hz : Blk (((w6.setCell ⟨g, 0, none⟩ (.int .i64 0)).setCell ⟨g, 1, none⟩ (.string ⟨#[]⟩)).setCell ⟨g, 2, none⟩ (.bool false)) g 32 #[.int .i64 0, .string ⟨#[]⟩, .bool false] := by
          have := ((HG6.out.set 0 (.int .i64 0)).set 1 (.string ⟨#[]⟩)).set 2 (.bool false)
          simpa using this
        have hk : ∀ k, k ≠ g → (((w6.setCell ⟨g, 0, none⟩ (.int .i64 0)).setCell ⟨g, 1, none⟩ (.string ⟨#[]⟩)).setCell ⟨g, 2, none⟩ (.bool false)).heap[k]? = w6.heap[k]? := fun k hk => (Below.heap_setCell _ ⟨g, 2, none⟩ _ k hk).trans ((Below.heap_setCell _ ⟨g, 1, none⟩ _ k hk).trans (Below.heap_setCell _ ⟨g, 0, none⟩ _ k hk))
        have hw : Within S w (((w6.setCell ⟨g, 0, none⟩ (.int .i64 0)).setCell ⟨g, 1, none⟩ (.string ⟨#[]⟩)).setCell ⟨g, 2, none⟩ (.bool false)) := ((HW6.out.set (p := ⟨g, 0, none⟩) (.inr (Nat.le_of_eq HGE.out)) _).set (p := ⟨g, 1, none⟩) (.inr (Nat.le_of_eq HGE.out)) _).set (p := ⟨g, 2, none⟩) (.inr (Nat.le_of_eq HGE.out)) _
        have HZ := hid hz
        have HK := hid hk
        have HW := hid hw
        have HSZ := hid (show (((w6.setCell ⟨g, 0, none⟩ (.int .i64 0)).setCell ⟨g, 1, none⟩ (.string ⟨#[]⟩)).setCell ⟨g, 2, none⟩ (.bool false)).heap.size = w6.heap.size by simp [World.setCell])
        clear hz hk hw
        generalize ((w6.setCell ⟨g, 0, none⟩ (.int .i64 0)).setCell ⟨g, 1, none⟩ (.string ⟨#[]⟩)).setCell ⟨g, 2, none⟩ (.bool false) = w9 at *
        have t0 := HZ.out.cell 0
        have t1 := HZ.out.cell 1
        have t2 := HZ.out.cell 2
        refine bodyPost_ret (v := .tuple #[.agg #[.int .i64 0, .string ⟨#[]⟩, .bool false], .bool false]) (by simp [results, Try.results10, go_sem, *]) rfl ?_
        have hO := HP6.out.lst
        have hlen : (inE k b d l).length = ps5.length := by rw [← hO, List.length_map]
        have h1 : (inE k b d l)[R]? = none := List.getElem?_eq_none (by omega)
        have h2 : putE R k b d l = ps5.map vl5 := by unfold putE; rw [List.take_of_length_le (by omega), hO]
        have hne : ∀ c, CaS cb mb eb ps5 c → c ≠ g := fun c hc e => by
          subst e
          rcases hc with h | h | h
          · exact HG6.out.ne HP6.out.ca.blk (by decide) h
          · exact HP6.out.gm h.symm
          · exact HG6.out.ne (HP6.out.ca.nodes.at_ _ h) (by decide) rfl
        have hsz : w9.heap.size = w6.heap.size := HSZ.out
        refine ⟨by unfold PutA; rw [h1], ⟨⟨mb, eb, ps5, vl5, pv5, nx5, m2, HP6.out.ca.keep (fun c hc => HK.out c (hne c hc)), h2, fun c hc => by rw [hsz]; exact HP6.out.set c hc⟩, fun c hc => ?_⟩, HW.out⟩
        rw [hsz] at hc ⊢
        rcases hc with hc | hc
        · exact Nat.lt_of_lt_of_le (HLOW.out c hc) HW6.out.size
        · exact hc.2
      · have hle' : ¬ (ps5.length : Int) ≤ (R : Int) := by omega
        go_upto_region 9 with fail
        refine wp_region_held_drew (S := Beyond w5) (by kernel_rfl) (Beyond.drew _) (fun hS => ?_)
        refine stT 0 hS ?_
        try simp only [putr]
        refine stT 2 hS ?_
        try simp only [putr]
        refine stT 3 hS ?_
        try simp only [putr]
        refine stT 4 hS ?_
        try simp only [putr]
        refine stT 5 hS ?_
        try simp only [putr]
        refine rdH [1] ?_
        refine rcH (fun K hK => ?_) AllReadyH.nil
        go_simp
        go_fit (HLEN.out _ hS)
        rintro e wa ⟨rfl, rfl⟩
        have hS1 := hS
        refine hK.out _ _ (by assumption) (fun _ => ?_)
        clear hK K hS
        have hS := hS1
        try simp only [putr]
        refine stT 6 hS ?_
        try simp only [putr]
        refine wpAnyH_done (by kernel_rfl) ?_ _
        have HP6 := hid (HP5.out.step ((Below.refl _ _).drew))
        clear hS hS1 HLEN z0 HC0 HP5
        generalize w5.drew = w6 at *
        have HG6 := hid HP6.out.gblk
        have HW6 := hid HP6.out.within
        have HGE := hid HP6.out.gnew.symm
        have x0 := HG6.out.cell 0
        have x1 := HG6.out.cell 1
        have x2 := HG6.out.cell 2
        have f0 := HG6.out.free 0
        have f1 := HG6.out.free 1
        have f2 := HG6.out.free 2
        obtain ⟨xs, q, hxq⟩ : ∃ xs q, ps5 = xs ++ q :: [] := ⟨ps5.dropLast, ps5.getLast (by intro e; subst e; simp at hle), (List.dropLast_concat_getLast _).symm⟩
        subst hxq
        have hq : pv5 eb = q := HP6.out.ca.ring.last
        have HRM := hid (remove_any HP6.out.ca)
        have c2 := HP6.out.ca.blk.cell 2
        have e3 := (five (HP6.out.ca.nodes.at_ eb (.inl rfl))).2.2.2.1
        rw [hq] at e3
        clear x0 x1 x2 f0 f1 f2
        go_wp2_with fail
        go_fit HRM.out
        rintro e w7 ⟨rfl, ⟨pv7, nx7, m7, hc7⟩, hw7⟩
        have hne : ∀ c, CaS cb mb eb (xs ++ q :: []) c → c ≠ g := fun c hc e => by
          subst e
          rcases hc with h | h | h
          · exact HG6.out.ne HP6.out.ca.blk (by decide) h
          · exact HP6.out.gm h.symm
          · exact HG6.out.ne (HP6.out.ca.nodes.at_ _ h) (by decide) rfl
        have HNE := hid hne
        have HC7 := hid hc7
        have HG7 := hid (HG6.out.within hw7 (fun hc => hne g hc rfl))
        have hw77 : Within S w w7 := HW6.out.then hw7 (fun c hc => (HP6.out.set c hc).imp id (·.1))
        have HW7 := hid hw77
        have HSS := hid hw7.size
        obtain ⟨z, hz⟩ : ∃ z, vl5 q = z := ⟨_, rfl⟩
        have HZQ := hid hz
        unfold En.val
        rw [hz]
        clear hz hc7 hw7 hw77 hne c2 e3 hq HRM
        have x0 := HG7.out.cell 0
        have x1 := HG7.out.cell 1
        have x2 := HG7.out.cell 2
        have f0 := HG7.out.free 0
        have f1 := HG7.out.free 1
        have f2 := HG7.out.free 2
        go_wp2_with fail
        have hz : Blk (((w7.setCell ⟨g, 0, none⟩ (.int .i64 z.i)).setCell ⟨g, 1, none⟩ (.string (bst z.b))).setCell ⟨g, 2, none⟩ (.bool z.d)) g 32 #[.int .i64 z.i, .string (bst z.b), .bool z.d] := by
          have := ((HG7.out.set 0 (.int .i64 z.i)).set 1 (.string (bst z.b))).set 2 (.bool z.d)
          simpa using this
        have hk : ∀ k, k ≠ g → (((w7.setCell ⟨g, 0, none⟩ (.int .i64 z.i)).setCell ⟨g, 1, none⟩ (.string (bst z.b))).setCell ⟨g, 2, none⟩ (.bool z.d)).heap[k]? = w7.heap[k]? := fun k hk => (Below.heap_setCell _ ⟨g, 2, none⟩ _ k hk).trans ((Below.heap_setCell _ ⟨g, 1, none⟩ _ k hk).trans (Below.heap_setCell _ ⟨g, 0, none⟩ _ k hk))
        have hw : Within S w (((w7.setCell ⟨g, 0, none⟩ (.int .i64 z.i)).setCell ⟨g, 1, none⟩ (.string (bst z.b))).setCell ⟨g, 2, none⟩ (.bool z.d)) := ((HW7.out.set (p := ⟨g, 0, none⟩) (.inr (Nat.le_of_eq HGE.out)) _).set (p := ⟨g, 1, none⟩) (.inr (Nat.le_of_eq HGE.out)) _).set (p := ⟨g, 2, none⟩) (.inr (Nat.le_of_eq HGE.out)) _
        have HZ := hid hz
        have HK := hid hk
        have HW := hid hw
        have HSZ := hid (show (((w7.setCell ⟨g, 0, none⟩ (.int .i64 z.i)).setCell ⟨g, 1, none⟩ (.string (bst z.b))).setCell ⟨g, 2, none⟩ (.bool z.d)).heap.size = w7.heap.size by simp [World.setCell])
        clear hz hk hw
        generalize ((w7.setCell ⟨g, 0, none⟩ (.int .i64 z.i)).setCell ⟨g, 1, none⟩ (.string (bst z.b))).setCell ⟨g, 2, none⟩ (.bool z.d) = w9 at *
        have t0 := HZ.out.cell 0
        have t1 := HZ.out.cell 1
        have t2 := HZ.out.cell 2
        refine bodyPost_ret (v := .tuple #[.agg #[.int .i64 z.i, .string (bst z.b), .bool z.d], .bool true]) (by simp [results, Try.results10, go_sem, *]) rfl ?_
        have hO := HP6.out.lst
        have hfew := HP6.out.few
        have hlen : xs.length = R := by simp at hle hfew; omega
        have h1 : (inE k b d l)[R]? = some z := by rw [← hO, ← hlen, ← HZQ.out]; simp
        have h2 : putE R k b d l = (xs ++ []).map vl5 := by unfold putE; rw [← hO, ← hlen]; simp
        have hsz : w9.heap.size = w7.heap.size := HSZ.out
        have hcs : ∀ c, CaS cb mb eb (xs ++ []) c → CaS cb mb eb (xs ++ q :: []) c := fun c hc => by
          unfold CaS at hc ⊢
          simp at hc ⊢
          rcases hc with h | h | h | h <;> simp [h]
        refine ⟨by unfold PutA; rw [h1]; rfl, ⟨⟨mb, eb, xs ++ [], vl5, pv7, nx7, m7, HC7.out.keep (fun c hc => HK.out c (HNE.out c (hcs c hc))), h2, fun c hc => (HP6.out.set c (hcs c hc)).imp id (fun q => ⟨q.1, by rw [hsz]; exact Nat.lt_of_lt_of_le q.2 HSS.out⟩)⟩, fun c hc => ?_⟩, HW.out⟩
        rw [hsz] at hc ⊢
        rcases hc with hc | hc
        · exact Nat.lt_of_lt_of_le (HLOW.out c hc) HW7.out.size
        · exact hc.2

end Go.Proofs.Ytdhjjjagjkencaa
