/-
  Of.
-/
import Derived.Test.YtcodljegicoeeaaSpFns
import Derived.Test.YtcodljegicoeeaaSpTake
import Derived.Test.YtcodljegicoeeaaReader
import Derived.Test.YtcodljegicoeeaaClone
namespace Go.Proofs.Ytcodljegicoeeaa
open Go Go.RowKit

/-- a space, or none -/
def GotSp (w : World) (base : Nat) (o : Option (List Bool)) (e : Ending) : Prop := match o with
  | none => e = .returned (.tuple #[.pointer none, .int .i64 93])
  | some l => ∃ s, e = .returned (.tuple #[.pointer (some ⟨s, 0, none⟩), .int .i64 0]) ∧ SpIn w s l ∧ base ≤ s
theorem rcnt_bad {k : Nat} {b : List UInt8} (h : (rnum b).2.2 ≠ 0 ∨ k < (rnum b).1) : (rcount (k : Int) b).1 = 0 ∧ (rcount (k : Int) b).2.1 = b ∧ (rcount (k : Int) b).2.2 ≠ 0 := by
  unfold rcount
  by_cases h0 : (rnum b).2.2 ≠ 0
  · rw [if_pos h0]; exact ⟨rfl, rfl, h0⟩
  · rw [if_neg h0]
    have h1 : k < (rnum b).1 := h.resolve_left h0
    rw [if_pos (.inr (by omega))]
    exact ⟨rfl, rfl, fun e => by cases e⟩
theorem rcnt_good {k : Nat} {b : List UInt8} (h0 : (rnum b).2.2 = 0) (h1 : (rnum b).1 ≤ k) : rcount (k : Int) b = ((rnum b).1, (rnum b).2.1, 0) := by
  unfold rcount
  rw [if_neg (by rw [h0]; simp), if_neg (by omega)]
/-- the space under way: what was read, and free pages behind it -/
def fillB (n : Nat) (acc : List Bool) : List Bool := acc ++ List.replicate (n - acc.length) false
theorem fillB_len {n : Nat} {acc : List Bool} (h : acc.length ≤ n) : (fillB n acc).length = n := by unfold fillB; simp; omega
theorem fillB_free {n : Nat} {acc : List Bool} (h : acc.length < n) : fillB n acc = fillB n (acc ++ [false]) := by
  unfold fillB
  obtain ⟨k, hk⟩ : ∃ k, n - acc.length = k + 1 := ⟨n - acc.length - 1, by omega⟩
  rw [hk, List.replicate_succ, List.length_append, List.length_singleton, show n - (acc.length + 1) = k by omega]
  simp
theorem fillB_take {n : Nat} {acc : List Bool} (h : acc.length < n) : turnB (fillB n acc) (acc.length : Int) true = (fillB n (acc ++ [true]), 0) := by
  have hl := fillB_len (Nat.le_of_lt h)
  obtain ⟨k, hk⟩ : ∃ k, n - acc.length = k + 1 := ⟨n - acc.length - 1, by omega⟩
  have e : fillB n acc = acc ++ false :: List.replicate k false := by unfold fillB; rw [hk, List.replicate_succ]
  have e2 : fillB n (acc ++ [true]) = acc ++ true :: List.replicate k false := by
    unfold fillB
    rw [List.length_append, List.length_singleton, show n - (acc.length + 1) = k by omega]
    simp
  unfold turnB
  rw [if_pos ⟨by unfold inB; simp; omega, by rw [hasB_nat, e]; simp⟩, e2, e]
  simp

/-- the running state of Of's loop -/
structure OfAt (w0 w : World) (n s r : Nat) (b : List UInt8) (acc : List Bool) (t : Bool) : Prop where
  sp : SpIn w s (fillB n acc)
  le : acc.length ≤ n
  blw : Below w0.heap.size w0 w
  out : ∃ rest e, Rd w r rest e ∧ ((e = 0 ∧ ofGo n [] false b = ofGo n acc t rest) ∨ (e ≠ 0 ∧ acc = [] ∧ t = true ∧ ofGo n [] false b = none))

def tOf : Value → Nat
  | .bool true => 0
  | _ => 1
/-- one more run -/
structure RunIs (w : World) (n r : Nat) (b : List UInt8) (acc : List Bool) (t : Bool) (v : Nat) (rest : List UInt8) (e' : Nat) : Prop where
  le : v ≤ n - acc.length
  call : Calls Try.prog 27 #[.pointer (some ⟨r, 0, none⟩), .int .i64 ((n - acc.length : Nat) : Int)] w fun e w' => e = .returned (.int .i64 (v : Int)) ∧ Rd w' r rest e' ∧ Only r w w'
  bad : v = 0 → (0 < acc.length ∨ t = true) → ofGo n [] false b = none
  next : ¬ (v = 0 ∧ (0 < acc.length ∨ t = true)) → (e' = 0 ∧ ofGo n [] false b = ofGo n (acc ++ List.replicate v t) (!t) rest) ∨ (e' ≠ 0 ∧ acc ++ List.replicate v t = [] ∧ (!t) = true ∧ ofGo n [] false b = none)
theorem run_is {w : World} {n r e0 : Nat} {b rest : List UInt8} {acc : List Bool} {t : Bool} (hrd : Rd w r rest e0) (hlt : acc.length < n) (hn : n ≤ 256)
    (hst : (e0 = 0 ∧ ofGo n [] false b = ofGo n acc t rest) ∨ (e0 ≠ 0 ∧ acc = [] ∧ t = true ∧ ofGo n [] false b = none)) : ∃ v rest' e', RunIs w n r b acc t v rest' e' := by
  have hmost : -9223372036854775808 ≤ ((n - acc.length : Nat) : Int) ∧ ((n - acc.length : Nat) : Int) ≤ 9223372036854775807 := by omega
  rcases hst with ⟨rfl, hst⟩ | ⟨he, rfl, rfl, hst⟩
  · have HC := get_count r _ hmost rest w hrd
    by_cases hb : (rnum rest).2.2 ≠ 0 ∨ n - acc.length < (rnum rest).1
    · obtain ⟨q1, q2, q3⟩ := rcnt_bad hb
      rw [q1] at HC
      have hbr : badRun n acc.length t rest := by
        rcases hb with h | h
        · exact .inl h
        · exact .inr (.inl h)
      have hno : ofGo n [] false b = none := by rw [hst, ofGo_bad hlt hbr]
      refine ⟨0, _, _, Nat.zero_le _, HC, fun _ _ => hno, fun h => .inr ⟨q3, ?_, ?_, hno⟩⟩
      · have : acc = [] := by
          rcases acc with _ | ⟨x, r⟩
          · rfl
          · exact absurd ⟨rfl, .inl (by simp)⟩ h
        simp [this]
      · cases t with
        | true => exact absurd ⟨rfl, .inr rfl⟩ h
        | false => rfl
    · have h0 : (rnum rest).2.2 = 0 := Classical.byContradiction fun e => hb (.inl e)
      have h1 : (rnum rest).1 ≤ n - acc.length := by
        rcases Nat.lt_or_ge (n - acc.length) (rnum rest).1 with e | e
        · exact absurd (.inr e) hb
        · exact e
      rw [rcnt_good h0 h1] at HC
      refine ⟨_, _, _, h1, HC, fun hv hor => ?_, fun h => .inl ⟨rfl, ?_⟩⟩
      · rw [hst, ofGo_bad hlt (.inr (.inr ⟨hv, hor⟩))]
      · rw [hst, ofGo_run hlt (by
          rintro (h2 | h2 | h2)
          · exact h2 h0
          · omega
          · exact h h2)]
  · exact ⟨0, rest, e0, Nat.zero_le _, get_count_not r e0 _ rest w hrd he, fun _ _ => hst, fun h => absurd ⟨rfl, .inr rfl⟩ h⟩
theorem rep_succ (acc : List Bool) (j : Nat) (t : Bool) : acc ++ List.replicate (j + 1) t = (acc ++ List.replicate j t) ++ [t] := by rw [List.append_assoc, List.replicate_succ']

set_option maxHeartbeats 8000000 in
set_option maxRecDepth 100000 in
theorem of_any {A : Option Addr} {m c B : Nat} {b : List UInt8} {w : World} (hA : At w B A b) (hm : m = b.length) (hB : B ≤ w.heap.size) (hl : b.length ≤ 100000) :
    Calls Try.prog 14 #[.slice A m c] w fun e w' => GotSp w' w.heap.size (sof b) e ∧ Below w.heap.size w w' := by
  have HR := hid (read_any (c := c) hA hm hB (by omega))
  clear hA hm hB
  go_enter Try.func14, Try.ntmps14
  go_wp2_with fail
  go_fit HR.out
  rintro e w1 ⟨r, rfl, hr1, hrb1, hb1⟩
  have HR1 := hid hr1
  have HRB := hid hrb1
  have HB1 := hid hb1
  clear hr1 hrb1 hb1
  by_cases hbad : (rnum b).2.2 ≠ 0 ∨ 256 < (rnum b).1
  · obtain ⟨q1, q2, q3⟩ := rcnt_bad (k := 256) hbad
    have HC := hid (get_count r 256 (by decide) b w1 HR1.out)
    rw [show ((256 : Int)) = ((256 : Nat) : Int) from rfl, q1] at HC
    have HS := hid (show sof b = none by unfold sof; rw [if_pos (by unfold badN; rcases hbad with h | h; exact .inl h; exact .inr (.inr h))])
    have HN := hid (fun (W : World) => new_no (n := 0) (w := W) (.inl (by decide)))
    clear hbad q1 q2 q3
    go_wp2_with fail
    go_fit HC.out
    rintro e w2 ⟨rfl, _, ho2⟩
    have HB2 := hid (HB1.out.grown ho2 HB1.out.size (fun k hk => by injection hk with hk; have := HRB.out; omega))
    clear ho2
    go_wp2_with fail
    go_fit (HN.out w2)
    rintro e w3 ⟨rfl, rfl⟩
    go_wp2_with fail
    go_ret2
    rw [HS.out]
    exact ⟨rfl, HB2.out⟩
  · have h0 : (rnum b).2.2 = 0 := Classical.byContradiction fun e => hbad (.inl e)
    have h1 : (rnum b).1 ≤ 256 := by rcases Nat.lt_or_ge 256 (rnum b).1 with e | e; exact absurd (.inr e) hbad; exact e
    have q := rcnt_good (k := 256) h0 h1
    have HC := hid (get_count r 256 (by decide) b w1 HR1.out)
    rw [show ((256 : Int)) = ((256 : Nat) : Int) from rfl, q] at HC
    dsimp only at HC
    by_cases hz : (rnum b).1 < 1
    · have HS := hid (show sof b = none by unfold sof; rw [if_pos (.inr (.inl hz))])
      have HN := hid (fun (W : World) => new_no (n := 0) (w := W) (.inl (by decide)))
      rw [show (rnum b).1 = 0 by omega] at HC
      clear hbad q h0 h1 hz
      go_wp2_with fail
      go_fit HC.out
      rintro e w2 ⟨rfl, _, ho2⟩
      have HB2 := hid (HB1.out.grown ho2 HB1.out.size (fun k hk => by injection hk with hk; have := HRB.out; omega))
      clear ho2
      go_wp2_with fail
      go_fit (HN.out w2)
      rintro e w3 ⟨rfl, rfl⟩
      go_wp2_with fail
      go_ret2
      rw [HS.out]
      exact ⟨rfl, HB2.out⟩
    · have HS := hid (show sof b = (ofGo (rnum b).1 [] false (rnum b).2.1).bind fun x => if x.2 = [] then some x.1 else none by unfold sof; rw [if_neg (by unfold badN; omega)])
      have hn1 : 1 ≤ (rnum b).1 := by omega
      have hlb := rnum_len b
      generalize (rnum b).1 = n at *
      generalize (rnum b).2.1 = b1 at *
      have HN := hid (fun (W : World) => new_yes (n := n) (w := W) hn1 h1)
      clear hbad q h0 hz
      go_wp2_with fail
      go_fit HC.out
      rintro e w2 ⟨rfl, hr2, ho2⟩
      have HR2 := hid hr2
      have HB2 := hid (HB1.out.grown ho2 HB1.out.size (fun k hk => by injection hk with hk; have := HRB.out; omega))
      clear ho2 hr2 HB1 HR1
      go_wp2_with fail
      go_fit (HN.out w2)
      rintro e w3 ⟨rfl, hs3, hb3⟩
      have HR3 := hid (HR2.out.step hb3)
      have HB3 := hid (below_step HB2.out hb3)
      have HS3 := hid hs3
      have HRS := hid HR2.out.lt
      have HWS := hid HB2.out.size
      clear hs3 hb3 HR2 HB2 HN HC HR
      generalize w2.heap.size = s at *
      go_wp2_with fail
      go_loopw [7, 8] (fun i v wr => ∃ (acc : List Bool) (t : Bool), i = .int .i64 (acc.length : Int) ∧ v = .bool t ∧ Kept (OfAt w wr n s r b1 acc t)) (fun i v _ => 2 * (n - (intOf i).toNat) + tOf v)
      case atStart => exact ⟨[], false, rfl, rfl, hid ⟨by unfold fillB; simpa using HS3.out, Nat.zero_le _, HB3.out, _, 0, HR3.out, .inl ⟨rfl, rfl⟩⟩⟩
      case round =>
        obtain ⟨acc, t, rfl, rfl, HO⟩ := hrel
        obtain ⟨hsp, hle, hbl, rest, e0, hrd, hst⟩ := HO.out
        have HSP := hid hsp
        have HBL := hid hbl
        have HRD := hid hrd
        have hc0 := hsp.c0
        rw [fillB_len hle] at hc0
        clear HO hsp hbl hrd HB3 HR3 HS3
        by_cases hlt : acc.length < n
        · have hw1 : IntKind.i64.wrap ((n : Int) - (acc.length : Int)) = ((n - acc.length : Nat) : Int) := by rw [IntWalk.i64_in _ ⟨by omega, by omega⟩]; omega
          obtain ⟨v, rest', e', HRI⟩ := run_is HRD.out hlt h1 hst
          obtain ⟨hv, hcall, hbad, hnext⟩ := HRI
          have HCL := hid hcall
          have HBAD := hid hbad
          have HNX := hid hnext
          clear hcall hbad hnext hst HRD
          by_cases hv0 : v = 0
          · subst hv0
            by_cases hpos : 0 < acc.length
            · have HNO := hid (HBAD.out rfl (.inl hpos))
              have HS2 := hid (show sof b = none by rw [HS.out, HNO.out]; rfl)
              go_wp2_with fail
              go_fit HCL.out
              rintro e w5 ⟨rfl, hr5, ho5⟩
              have HR5 := hid hr5
              have HB5 := hid (HBL.out.grown ho5 HBL.out.size (fun k hk => by injection hk with hk; have := HRB.out; omega))
              have HS5 := hid (HSP.out.only ho5 (Nat.ne_of_gt HRS.out))
              clear hr5 ho5
              go_wp2_with fail
              go_ret2
              rw [HS2.out]
              exact ⟨rfl, HB5.out⟩
            · cases t with
              | true =>
                have HNO := hid (HBAD.out rfl (.inr rfl))
                have HS2 := hid (show sof b = none by rw [HS.out, HNO.out]; rfl)
                go_wp2_with fail
                go_fit HCL.out
                rintro e w5 ⟨rfl, hr5, ho5⟩
                have HR5 := hid hr5
                have HB5 := hid (HBL.out.grown ho5 HBL.out.size (fun k hk => by injection hk with hk; have := HRB.out; omega))
                have HS5 := hid (HSP.out.only ho5 (Nat.ne_of_gt HRS.out))
                clear hr5 ho5
                go_wp2_with fail
                go_ret2
                rw [HS2.out]
                exact ⟨rfl, HB5.out⟩
              | false =>
                have HST := hid (HNX.out (fun h => h.2.elim hpos (fun e => by cases e)))
                go_wp2_with fail
                go_fit HCL.out
                rintro e w5 ⟨rfl, hr5, ho5⟩
                have HR5 := hid hr5
                have HB5 := hid (HBL.out.grown ho5 HBL.out.size (fun k hk => by injection hk with hk; have := HRB.out; omega))
                have HS5 := hid (HSP.out.only ho5 (Nat.ne_of_gt HRS.out))
                clear hr5 ho5
                go_wp2_with fail
                go_loopw [7, 46] (fun i jj wq => ∃ j : Nat, i = .int .i64 ((acc.length + j : Nat) : Int) ∧ jj = .int .i64 (j : Int) ∧ j ≤ 0 ∧ Kept (SpIn wq s (fillB n (acc ++ List.replicate j false))) ∧ Kept (Rd wq r rest' e') ∧ Kept (Below w.heap.size w wq)) (fun _ jj _ => 0 - (intOf jj).toNat)
                case atStart => exact ⟨0, rfl, rfl, Nat.zero_le _, by simpa using HS5, HR5, HB5⟩
                case round =>
                  obtain ⟨j, rfl, rfl, hj, HSJ, HRJ, HBJ⟩ := hrel
                  clear HS5 HR5 HB5
                  by_cases hjv : j < 0
                  · omega
                  · obtain rfl : j = 0 := by omega
                    go_wp2_with fail
                    go_roundw
                    case rel => exact ⟨acc ++ List.replicate 0 false, !false, by rw [List.length_append, List.length_replicate], rfl, hid ⟨HSJ.out, by rw [List.length_append, List.length_replicate]; omega, HBJ.out, rest', e', HRJ.out, HST.out⟩⟩
                    case measure => simp [intOf, tOf]
          · have HST := hid (HNX.out (fun h => hv0 h.1))
            go_wp2_with fail
            go_fit HCL.out
            rintro e w5 ⟨rfl, hr5, ho5⟩
            have HR5 := hid hr5
            have HB5 := hid (HBL.out.grown ho5 HBL.out.size (fun k hk => by injection hk with hk; have := HRB.out; omega))
            have HS5 := hid (HSP.out.only ho5 (Nat.ne_of_gt HRS.out))
            clear hr5 ho5
            go_wp2_with fail
            go_loopw [7, 46] (fun i jj wq => ∃ j : Nat, i = .int .i64 ((acc.length + j : Nat) : Int) ∧ jj = .int .i64 (j : Int) ∧ j ≤ v ∧ Kept (SpIn wq s (fillB n (acc ++ List.replicate j t))) ∧ Kept (Rd wq r rest' e') ∧ Kept (Below w.heap.size w wq)) (fun _ jj _ => v - (intOf jj).toNat)
            case atStart => exact ⟨0, rfl, rfl, Nat.zero_le _, by simpa using HS5, HR5, HB5⟩
            case round =>
              obtain ⟨j, rfl, rfl, hj, HSJ, HRJ, HBJ⟩ := hrel
              clear HS5 HR5 HB5
              by_cases hjv : j < v
              · have hla : (acc ++ List.replicate j t).length = acc.length + j := by rw [List.length_append, List.length_replicate]
                cases t with
                | true =>
                  have HCM := hid (claim_any HSJ.out ((acc.length + j : Nat) : Int))
                  have hft := fillB_take (n := n) (acc := acc ++ List.replicate j true) (by rw [hla]; omega)
                  rw [hla] at hft
                  rw [hft] at HCM
                  clear hft hla
                  go_wp2_with fail
                  go_fit HCM.out
                  rintro e w6 ⟨rfl, hs6, ho6⟩
                  have HS6 := hid (show SpIn w6 s (fillB n (acc ++ List.replicate (j + 1) true)) by rw [rep_succ]; exact hs6)
                  have HR6 := hid (HRJ.out.below (ho6.below (Nat.le_refl s) (Nat.le_of_lt HSJ.out.lt)) HRS.out)
                  have HB6 := hid (HBJ.out.grown ho6 HBJ.out.size (fun k hk => by injection hk with hk; have := HWS.out; omega))
                  clear hs6 ho6
                  go_wp2_with fail
                  go_roundw
                  case rel => exact ⟨j + 1, by go_num, by go_num, by omega, HS6, HR6, HB6⟩
                  case measure => simp [intOf]; omega
                | false =>
                  have HS6 := hid (show SpIn wr s (fillB n (acc ++ List.replicate (j + 1) false)) by rw [rep_succ, ← fillB_free (by rw [hla]; omega)]; exact HSJ.out)
                  clear hla
                  go_wp2_with fail
                  go_roundw
                  case rel => exact ⟨j + 1, by go_num, by go_num, by omega, HS6, HRJ, HBJ⟩
                  case measure => simp [intOf]; omega
              · obtain rfl : j = v := by omega
                go_wp2_with fail
                go_roundw
                case rel => exact ⟨acc ++ List.replicate j t, !t, by rw [List.length_append, List.length_replicate], rfl, hid ⟨HSJ.out, by rw [List.length_append, List.length_replicate]; omega, HBJ.out, rest', e', HRJ.out, HST.out⟩⟩
                case measure => cases t <;> simp [intOf, tOf] <;> omega
        · obtain ⟨rfl, hst2⟩ : e0 = 0 ∧ ofGo n [] false b1 = ofGo n acc t rest := by
            rcases hst with h | ⟨_, h, _⟩
            · exact h
            · subst h; simp at hlt; omega
          rw [ofGo_end hlt] at hst2
          rw [hst2] at HS
          clear hst
          have HE := hid (end_any r 0 rest wr HRD.out)
          have hacc : acc.length = n := by omega
          rcases rest with _ | ⟨x, rest⟩
          · have HS2 := hid (show sof b = some acc by rw [HS.out]; rfl)
            rw [show endOf [] 0 = 0 from rfl] at HE
            have HSP2 := hid (show SpIn wr s acc by have := HSP.out; unfold fillB at this; rw [hacc] at this; simpa using this)
            clear hst2 HS HSP
            go_wp2_with fail
            go_fit HE.out
            rintro e w5 ⟨rfl, rfl⟩
            go_wp2_with fail
            go_ret2
            rw [HS2.out]
            exact ⟨⟨s, rfl, HSP2.out, HWS.out⟩, HBL.out⟩
          · have HS2 := hid (show sof b = none by rw [HS.out]; rfl)
            rw [show endOf (x :: rest) 0 = 31 by simp [endOf]] at HE
            clear hst2 HS HSP
            go_wp2_with fail
            go_fit HE.out
            rintro e w5 ⟨rfl, rfl⟩
            go_wp2_with fail
            go_ret2
            rw [HS2.out]
            exact ⟨rfl, HBL.out⟩

end Go.Proofs.Ytcodljegicoeeaa
