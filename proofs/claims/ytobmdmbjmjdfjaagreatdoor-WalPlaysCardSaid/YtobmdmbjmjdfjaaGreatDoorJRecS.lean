/-
  The closure that keeps a record: append to the variable it holds. record.decode with the two functions that Scan gives it, and Scan. What the laws' walks take of package record, shown of its code.
-/
import Derived.Test.YtobmdmbjmjdfjaaGreatDoorRNext
import Derived.Test.YtobmdmbjmjdfjaaGreatDoorJRec
import Derived.Test.YtobmdmbjmjdfjaaGreatDoorJRecF
namespace Go.Proofs.YtobmdmbjmjdfjaaGreatDoor
open Go Go.RowKit

def SlotAt (w : World) (s : Nat) (done : List Rc) : Prop := ∃ A m c, Blk w s 38 #[.slice A m c] ∧ RcRow w (s + 1) A m c done
theorem SlotAt.lt {w : World} {s : Nat} {done : List Rc} (h : SlotAt w s done) : s < w.heap.size := by
  obtain ⟨_, _, _, hb, _⟩ := h
  exact hb.lt
theorem SlotAt.step {w w' : World} {s : Nat} {done : List Rc} (h : SlotAt w s done) (hb : Below w.heap.size w w') : SlotAt w' s done := by
  obtain ⟨A, m, c, h1, h2⟩ := h
  exact ⟨A, m, c, h1.below hb h1.lt, h2.below hb⟩
theorem SlotAt.only {w w' : World} {s r : Nat} {done : List Rc} (h : SlotAt w s done) (ho : Only r w w') (hr : r < s) : SlotAt w' s done := by
  obtain ⟨A, m, c, h1, h2⟩ := h
  refine ⟨A, m, c, h1.grown ho (fun e => by injection e; omega), h2.1, h2.2.kept ho (.inr fun e => ?_)⟩
  have := (h2.2.lt r e).1
  omega

set_option maxHeartbeats 4000000 in
set_option maxRecDepth 100000 in
theorem keep_is {w : World} {s q : Nat} {b : List UInt8} {done : List Rc} (h : SlotAt w s done) (hl : done.length ≤ 100000) :
    Calls Tryz.prog 102 #[.agg #[.int .u64 (q : Int), .string (bst b)], .pointer (some ⟨s, 0, none⟩)] w fun e w' => e = .returned (.tuple #[]) ∧ SlotAt w' s (done ++ [(q, b)]) ∧ Below s w w' := by
  obtain ⟨A, m, c, hb, hr⟩ := h
  have HLN := hid (show done.length + [(q, b)].length ≤ 1099511627776 by simp; omega)
  have hlt := hb.lt
  have HLT := hid hlt
  have hb1 : Below w.heap.size w ((w.alloc (.cells #[.int .u64 (q : Int), .string (bst b)] 70)).alloc (.cells #[.int .u64 (q : Int), .string (bst b)] 70)) :=
    ((Below.refl _ _).alloc (Nat.le_refl _) _).alloc (by simp) _
  have HB1 := hid hb1
  have HR1 := hid (hr.below hb1)
  have HS1 := hid (hb.below hb1 hlt)
  have HO1 := hid (show RcAt ((w.alloc (.cells #[.int .u64 (q : Int), .string (bst b)] 70)).alloc (.cells #[.int .u64 (q : Int), .string (bst b)] 70)) (w.heap.size + 2) (some ⟨w.heap.size + 1, 0, none⟩) [(q, b)] from by
    have := RcAt.one (w.alloc (.cells #[.int .u64 (q : Int), .string (bst b)] 70)) (q, b)
    simpa using this)
  have HSZ := hid (show s + 1 ≤ ((w.alloc (.cells #[.int .u64 (q : Int), .string (bst b)] 70)).alloc (.cells #[.int .u64 (q : Int), .string (bst b)] 70)).heap.size by simp; omega)
  have c0 : w.cell? ⟨s, 0, none⟩ = some (.slice A m c) := hb.cell 0
  clear hb1 hb hr
  go_enter Tryz.func102, Tryz.ntmps102
  go_wp2_with (at_builtin; go_must (refine wpList_append_rc _ rfl _ _ rfl (s + 1) rfl HR1.out rfl rfl HO1.out HLN.out HSZ.out ?_))
  intro A7 m7 c7 w7 hr7 hm7 hb7 hg7
  have hs7 : Blk w7 s 38 #[.slice A m c] := HS1.out.below hb7 (by omega)
  have f0 := hs7.free 0
  have d0 : w7.cell? ⟨s, 0, none⟩ = some (.slice A m c) := hs7.cell 0
  have HF := hid (And.intro hr7 (And.intro hb7 hs7))
  clear hr7 hb7 hg7 hs7
  go_wp2_with fail
  go_end0
  obtain ⟨hr7, hb7, hs7⟩ := HF.out
  have hne : (Value.slice A7 m7 c7).ownBlock ≠ some s := fun e => by have := (hr7.2.lt s e).1; omega
  refine ⟨rfl, ⟨A7, m7, c7, hs7.set 0 _, hr7.1, ownsRow_setCell_other hr7.2 hne _⟩, ?_⟩
  exact Below.setCell (p := ⟨s, 0, none⟩) ((HB1.out.mono (Nat.le_of_lt HLT.out)).trans (hb7.mono (Nat.le_succ s))) (Nat.le_refl _) _

structure Sc (w wr : World) (r s : Nat) (A : Option Addr) (c B : Nat) (l : List UInt8) (q0 : Nat) (done : List Rc) (k q : Nat) : Prop where
  lg : Lg wr r A c B l k q
  out : SlotAt wr s done
  rs : r < s
  below : Below r w wr
  len : done.length * 10 ≤ k
  all : rscan l q0 = (done ++ (rscan (l.drop k) q).1, k + (rscan (l.drop k) q).2)
def ScEnd (w wr : World) (r s : Nat) (A : Option Addr) (c B : Nat) (l : List UInt8) (q0 : Nat) : Prop := ∃ q, Lg wr r A c B l (rscan l q0).2 q ∧ SlotAt wr s (rscan l q0).1 ∧ Below r w wr
section
variable {w wr w' : World} {r s c B k q q0 : Nat} {A : Option Addr} {l : List UInt8} {done : List Rc}
theorem Sc.step (h : Sc w wr r s A c B l q0 done k q) (hb : Below wr.heap.size wr w') : Sc w w' r s A c B l q0 done k q :=
  ⟨h.lg.below hb h.lg.lt', h.out.step hb, h.rs, h.below.trans (hb.mono (Nat.le_of_lt h.lg.lt')), h.len, h.all⟩
theorem Sc.end_ (h : Sc w wr r s A c B l q0 done k q) (hs : rscan (l.drop k) q = ([], 0)) : ScEnd w wr r s A c B l q0 := by
  have ha := h.all
  rw [hs, List.append_nil, Nat.add_zero] at ha
  rw [ScEnd, ha]
  exact ⟨q, h.lg, h.out, h.below⟩
theorem Sc.full (h : Sc w wr r s A c B l q0 done k q) (hd : l.length / 10 ≤ done.length) : ScEnd w wr r s A c B l q0 := by
  refine h.end_ (scan_stop fun p b j hg => ?_)
  have h1 := rget_len hg
  have h2 := h.len
  rw [List.length_drop] at h1
  omega
end
theorem getsAt {w : World} {A : Option Addr} {B c k p j : Nat} {l b : List UInt8} {r : Nat} {A' : Option Addr} {q : Nat} (h : Lg w r A' c B l k q) (hA : At w B A (l.drop k)) (hg : rget (l.drop k) = some (p, b, j)) : GetsAt w A (l.length - k) (c - k) p (bst b) j true := fun W hW => by
  have h1 := rget_any.get (A := A) (m := l.length - k) (c := c - k) (hA.below (hW.mono (Nat.le_trans h.hB (Nat.le_of_lt h.lt')))) (by rw [List.length_drop]) (by have := h.hc; omega) (Nat.le_trans (Nat.le_trans h.hB (Nat.le_of_lt h.lt')) hW.size) (by rw [List.length_drop]; have := h.hl; omega)
  rw [hg] at h1
  exact h1
theorem getsNo {w : World} {A : Option Addr} {B c k : Nat} {l : List UInt8} {r : Nat} {A' : Option Addr} {q : Nat} (h : Lg w r A' c B l k q) (hA : At w B A (l.drop k)) (hg : rget (l.drop k) = none) : GetsAt w A (l.length - k) (c - k) 0 ⟨#[]⟩ 0 false := fun W hW => by
  have h1 := rget_any.get (A := A) (m := l.length - k) (c := c - k) (hA.below (hW.mono (Nat.le_trans h.hB (Nat.le_of_lt h.lt')))) (by rw [List.length_drop]) (by have := h.hc; omega) (Nat.le_trans (Nat.le_trans h.hB (Nat.le_of_lt h.lt')) hW.size) (by rw [List.length_drop]; have := h.hl; omega)
  rw [hg] at h1
  exact h1

theorem next_stops {w : World} {r c B k q : Nat} {A : Option Addr} {l : List UInt8} (h : Lg w r A c B l k q) (hno : ∀ p b j, rget (l.drop k) = some (p, b, j) → p ≠ q) :
    Calls Tryz.prog 101 #[.pointer (some ⟨r, 0, none⟩)] w fun e w' => e = .returned (.tuple #[.agg #[.int .u64 0, .string ⟨#[]⟩], .bool false]) ∧ Below w.heap.size w w' := by
  obtain ⟨A2, hsl, hA2⟩ := slice_from (n := k) h.at_ rfl h.hc h.hk
  cases hg : rget (l.drop k) with
  | none => exact next_none h hsl (getsNo h hA2 hg)
  | some x =>
    obtain ⟨p, b, j⟩ := x
    exact next_other h hsl (getsAt h hA2 hg) (by have := hno p b j hg; simp; omega)
theorem next_goes {w : World} {r c B k q j : Nat} {A : Option Addr} {l b : List UInt8} (h : Lg w r A c B l k q) (hg : rget (l.drop k) = some (q, b, j)) :
    Calls Tryz.prog 101 #[.pointer (some ⟨r, 0, none⟩)] w fun e w' => e = .returned (.tuple #[.agg #[.int .u64 (q : Int), .string (bst b)], .bool true]) ∧ Lg w' r A c B l (k + j) (next64 q) ∧ Only r w w' := by
  obtain ⟨A2, hsl, hA2⟩ := slice_from (n := k) h.at_ rfl h.hc h.hk
  exact next_some h hsl (getsAt h hA2 hg) (by have h1 := rget_len hg; have := h.hk; rw [List.length_drop] at h1; omega)

set_option maxHeartbeats 4000000 in
set_option maxRecDepth 100000 in
theorem decode_is {w : World} {r s c B q0 : Nat} {A : Option Addr} {l : List UInt8} (h : Sc w w r s A c B l q0 [] 0 q0) :
    Calls Tryz.prog 100 #[.int .i64 ((l.length / 10 : Nat) : Int), (.func (.func 101) #[.pointer (some ⟨r, 0, none⟩)] #[]), (.func (.func 102) #[] #[.pointer (some ⟨s, 0, none⟩)])] w fun e w' => e = .returned (.tuple #[]) ∧ ScEnd w w' r s A c B l q0 := by
  have HS0 := hid h
  have hl5 := h.lg.hl
  obtain ⟨M, hM⟩ : ∃ M, l.length / 10 = M := ⟨_, rfl⟩
  have HM := hid hM
  have hM5 : M ≤ 500 := by omega
  rw [hM]
  clear h hM
  go_enter Tryz.func100, Tryz.ntmps100
  go_wp2_with fail
  go_loopw [9] (fun i wr => ∃ (done : List Rc) (k q : Nat), done.length ≤ M ∧ i = .int .i64 (done.length : Int) ∧ Kept (Sc w wr r s A c B l q0 done k q)) (fun i _ => M - (intOf i).toNat)
  case atStart => exact ⟨[], 0, q0, by simp, rfl, HS0⟩
  case round =>
    clear HS0
    obtain ⟨done, k, q, hdM, rfl, HS⟩ := hrel
    by_cases hlast : done.length = M
    · go_wp2_with fail
      go_end0
      exact ⟨rfl, HS.out.full (by rw [HM.out]; omega)⟩
    · have hlt : (done.length : Int) < (M : Int) := by omega
      by_cases hgo : ∃ b j, rget (l.drop k) = some (q, b, j)
      · obtain ⟨b, j, hg⟩ := hgo
        have HN := hid (next_goes HS.out.lg hg)
        have HG := hid (rget_len hg)
        have HST := hid (scan_go hg)
        clear hg
        go_wp2_with fail
        go_fit HN.out
        rintro e w3 ⟨rfl, hl3, ho3⟩
        have HL3 := hid hl3
        have HO3 := hid (HS.out.out.only ho3 HS.out.rs)
        have HB3 := hid (HS.out.below.trans (ho3.below (Nat.le_refl _) (Nat.le_of_lt HS.out.lg.lt')))
        clear hl3 ho3
        go_wp2_with fail
        have hb4 : Below w3.heap.size w3 (w3.alloc (.cells #[.int .u64 (q : Int), .string (bst b)] 70)) := (Below.refl _ _).alloc (Nat.le_refl _) _
        go_fit (keep_is (HO3.out.step hb4) (by omega))
        rintro e w5 ⟨rfl, ho5, hb5⟩
        have HS5 := hid (show Sc w w5 r s A c B l q0 (done ++ [(q, b)]) (k + j) (next64 q) from
          ⟨(HL3.out.below hb4 HL3.out.lt').below hb5 HS.out.rs, ho5, HS.out.rs, (HB3.out.trans (hb4.mono (Nat.le_of_lt HL3.out.lt'))).trans (hb5.mono (Nat.le_of_lt HS.out.rs)),
            by have := HS.out.len; have := HG.out; simp; omega, by
            rw [HS.out.all, HST.out, List.drop_drop]
            simp only [List.append_assoc, List.singleton_append, Nat.add_assoc]⟩)
        clear ho5 hb5 hb4
        go_wp2_with fail
        go_roundw
        case rel => exact ⟨_, k + j, next64 q, by simp; omega, by simp, HS5⟩
        case measure => simp [intOf]; omega
      · have HN := hid (next_stops HS.out.lg (fun p b j hg e => hgo ⟨b, j, by rw [← e]; exact hg⟩))
        have HST := hid (scan_stop (l := l.drop k) (q := q) (fun p b j hg e => hgo ⟨b, j, by rw [← e]; exact hg⟩))
        clear hgo
        go_wp2_with fail
        go_fit HN.out
        rintro e w3 ⟨rfl, hb3⟩
        have HS3 := hid (HS.out.step hb3)
        clear hb3
        go_wp2_with fail
        refine bodyPost_ret (results_none rfl _ _ _) rfl ?_
        exact ⟨rfl, (HS3.out.step ((Below.refl _ _).alloc (Nat.le_refl _) _)).end_ HST.out⟩

set_option maxHeartbeats 4000000 in
set_option maxRecDepth 100000 in
theorem rscan_any {A0 : Option Addr} {m0 cc0 B0 : Nat} {l : List UInt8} {q0 : Nat} {w : World} (hA0 : At w B0 A0 l) (hm0 : m0 = l.length) (hcc0 : m0 ≤ cc0) (hB0 : B0 ≤ w.heap.size) (hl : l.length ≤ 5000) (hq0 : q0 < 18446744073709551616) :
    Calls Tryz.prog 75 #[.slice A0 m0 cc0, .int .u64 (q0 : Int)] w fun e w' => ∃ A m c, e = .returned (.tuple #[.slice A m c, .int .i64 ((rscan l q0).2 : Int)]) ∧ RcRow w' w.heap.size A m c (rscan l q0).1 ∧ Below w.heap.size w w' := by
  subst hm0
  have hb2 : Below w.heap.size w ((w.alloc (.cells #[.slice A0 l.length cc0, .int .i64 0, .int .u64 (q0 : Int)] 180)).alloc (.cells #[.slice none 0 0] 38)) := ((Below.refl _ _).alloc (Nat.le_refl _) _).alloc (by simp) _
  have hx := Blk.new (w.alloc (.cells #[.slice A0 l.length cc0, .int .i64 0, .int .u64 (q0 : Int)] 180)) 38 #[.slice none 0 0]
  have hlg := (Blk.new w 180 #[.slice A0 l.length cc0, .int .i64 0, .int .u64 (q0 : Int)]).alloc (.cells #[.slice none 0 0] 38)
  rw [show (w.alloc (.cells #[.slice A0 l.length cc0, .int .i64 0, .int .u64 (q0 : Int)] 180)).heap.size = w.heap.size + 1 by simp] at hx
  have HS := hid (show ∀ W, W = ((w.alloc (.cells #[.slice A0 l.length cc0, .int .i64 0, .int .u64 (q0 : Int)] 180)).alloc (.cells #[.slice none 0 0] 38)) → Sc W W w.heap.size (w.heap.size + 1) A0 cc0 B0 l q0 [] 0 q0 from by
    rintro W rfl
    exact ⟨⟨hlg, hA0.below (hb2.mono hB0), hB0, hcc0, hl, Nat.zero_le _, hq0⟩, ⟨none, 0, 0, hx, RcRow.nil _ _⟩, by omega, Below.refl _ _, Nat.le_refl _, by rw [List.drop_zero, List.nil_append, Nat.zero_add]⟩)
  have HB2 := hid hb2
  clear hA0 hb2 hx hlg
  go_enter Tryz.func75, Tryz.ntmps75
  go_wp2_with fail
  generalize (w.alloc (.cells #[.slice A0 l.length cc0, .int .i64 0, .int .u64 (q0 : Int)] 180)).alloc (.cells #[.slice none 0 0] 38) = w2 at *
  go_fit (decode_is (HS.out w2 rfl))
  rintro e w3 ⟨rfl, hE⟩
  have HE := hid hE
  obtain ⟨q, hlg, hsl, hb3⟩ := hE
  have HB3 := hid hb3
  obtain ⟨A, m, c, hx, hr⟩ := hsl
  obtain ⟨l0, l1, l2, f0, f1, f2⟩ := three hlg.blk
  have x0 := hx.cell 0
  have HR := hid hr
  generalize hra : (rscan l q0).1 = R at *
  generalize hrb : (rscan l q0).2 = K at *
  have HRA := hid hra
  have HRB := hid hrb
  clear hlg hx hr hb3 hra hrb HE
  go_wp2_with fail
  go_quiet (fail)
  go_wp2_with fail
  go_ret2
  rw [HRA.out, HRB.out]
  have hd := below_drewN (Below.refl w3.heap.size w3) nq
  have hr := HR.out.below hd
  exact ⟨A, m, c, rfl, ⟨hr.1, Joins.ownsRow_le hr.2 (by omega)⟩, (HB2.out.trans HB3.out).trans (hd.mono (Nat.le_trans HB2.out.size HB3.out.size))⟩

theorem rface : RFace where
  putNo := fun h3 h4 => rput_no h3 h4
  putYes := fun hq hb hT => rput_yes hq hb hT
  get := fun hA hm hc hB hl _ => rget_any.get hA hm hc hB hl
  scan := fun hA hm hc hB hl hq _ => (rscan_any hA hm hc hB hl hq).mono fun _ _ ⟨A, m, c, e1, hr, hb⟩ => ⟨A, m, c, e1, hr.at_, hr.1, hr.cap, hb⟩

end Go.Proofs.YtobmdmbjmjdfjaaGreatDoor
