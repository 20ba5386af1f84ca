/-
  The document's space: Of.
-/
import Derived.Test.YtcodljegicoeeaaRefSpB
import Derived.Test.YtcodljegicoeeaaRefFNum
namespace Go.Proofs.Ytcodljegicoeeaa
open Go Go.RowKit

def slLen : Value → Nat
  | .slice _ n _ => n
  | _ => 0
/-- flags, or not -/
def GotFl (w : World) (o : Option (List Bool)) (e : Ending) : Prop := match o with
  | none => ∃ A n c, e = .returned (.tuple #[.slice A n c, .bool false])
  | some l => ∃ A n c, e = .returned (.tuple #[.slice A n c, .bool true]) ∧ FL w A n c l
set_option maxHeartbeats 8000000 in
set_option maxRecDepth 100000 in
theorem refOf_any {b : List UInt8} {w : World} (hl : b.length ≤ 60000) :
    Calls Try.prog 15 #[.string (bst b)] w fun e w' => GotFl w' (sof b) e ∧ Below w.heap.size w w' := by
  have HN := hid (refNum_any b w (by omega))
  go_enter Try.func15, Try.ntmps15
  go_wp2_with fail
  go_fit HN.out
  rintro e w1 ⟨rfl, hb1⟩
  have HB1 := hid hb1
  have hnl := rnum_lt b
  have hrl := rnum_len b
  have HS0 := hid (show sof b = _ from rfl)
  unfold sof at HS0
  clear hb1 HN
  by_cases hbad : badN b
  · have HS := hid (show sof b = none by unfold sof; rw [if_pos hbad])
    clear HS0
    unfold badN at hbad
    by_cases he : (rnum b).2.2 = 0
    · have hbad2 := hbad.resolve_left (fun h => h he)
      clear hbad
      generalize (rnum b).1 = n at *
      by_cases h1 : n < 1
      · go_wp2_with fail
        go_ret2
        rw [HS.out]
        exact ⟨⟨_, _, _, rfl⟩, HB1.out⟩
      · have h2 : 256 < n := hbad2.resolve_left h1
        go_wp2_with fail
        go_ret2
        rw [HS.out]
        exact ⟨⟨_, _, _, rfl⟩, HB1.out⟩
    · generalize (rnum b).2.2 = e0 at *
      generalize (rnum b).1 = n at *
      clear hbad
      go_wp2_with fail
      go_ret2
      rw [HS.out]
      exact ⟨⟨_, _, _, rfl⟩, HB1.out⟩
  · have HS := hid (show sof b = (ofGo (rnum b).1 [] false (rnum b).2.1).bind fun x => if x.2 = [] then some x.1 else none by unfold sof; rw [if_neg hbad])
    unfold badN at hbad
    have he : (rnum b).2.2 = 0 := Classical.byContradiction fun e => hbad (.inl e)
    have h1 : ¬ (rnum b).1 < 1 := fun e => hbad (.inr (.inl e))
    have h2 : ¬ 256 < (rnum b).1 := fun e => hbad (.inr (.inr e))
    rw [he]
    clear hbad HS0
    generalize (rnum b).1 = n at *
    generalize (rnum b).2.1 = b1 at *
    have HB2 := hid ((HB1.out.alloc HB1.out.size (.cells #[] 4)))
    have HR2 := hid (GRow.empty (E := eBool) (e := 4) w1 (base := w.heap.size) (g := w1.heap.size) rfl HB1.out.size)
    clear he
    go_wp2_with fail
    generalize w1.alloc (.cells #[] 4) = w2 at *
    generalize w1.heap.size = g1 at *
    go_loopw [5, 7, 8] (fun s v tv wr => ∃ (rest : List UInt8) (A : Option Addr) (m c : Nat) (acc : List Bool) (t : Bool), s = .string (bst rest) ∧ v = .slice A m c ∧ tv = .bool t ∧ m ≤ n ∧ Kept (rest.length ≤ 60000) ∧ Kept (GRow eBool 4 wr w.heap.size A m c acc) ∧ Kept (ofGo n [] false b1 = ofGo n acc t rest) ∧ Kept (Below w.heap.size w wr)) (fun _ v tv _ => 2 * (n - slLen v) + tOf tv)
    case atStart => exact ⟨b1, _, 0, 0, [], false, rfl, rfl, rfl, Nat.zero_le _, hid (by omega), HR2, hid rfl, HB2⟩
    case round =>
      obtain ⟨rest, A, m, c, acc, t, rfl, rfl, rfl, hm, HRL, HR, HG, HB⟩ := hrel
      clear HB2 HR2
      by_cases hlt : m < n
      · have HNM := hid (refNum_any rest wr (by have := HRL.out; omega))
        go_wp2_with fail
        go_fit HNM.out
        rintro e w5 ⟨rfl, hb5⟩
        have HB5 := hid (HB.out.trans (hb5.mono HB.out.size))
        have HR5 := hid (HR.out.below hb5)
        have hml : m = acc.length := HR.out.1
        have hnl2 := rnum_lt rest
        have HRL2 := hid (show (rnum rest).2.1.length ≤ 60000 by have := rnum_len rest; have := HRL.out; omega)
        clear hb5 HB HR HNM
        by_cases hbr : badRun n acc.length t rest
        · have HNO := hid (show sof b = none by rw [HS.out, HG.out, ofGo_bad (by omega) hbr]; rfl)
          unfold badRun at hbr
          rw [← hml] at hbr
          by_cases he : (rnum rest).2.2 = 0
          · have hbr2 := hbr.resolve_left (fun h => h he)
            rw [he]
            clear hbr he
            generalize (rnum rest).1 = v at *
            generalize (rnum rest).2.1 = rest' at *
            have hwn : IntKind.u64.wrap ((n : Int) - (m : Int)) = ((n - m : Nat) : Int) := by rw [IntWalk.u64_in _ ⟨by omega, by omega⟩]; omega
            have hwm : IntKind.u64.wrap (m : Int) = (m : Int) := IntWalk.u64_in _ ⟨by omega, by omega⟩
            clear hml
            by_cases hgt : n - m < v
            · have hgt' : ((n - m : Nat) : Int) < (v : Int) := by omega
              clear hbr2
              go_wp2_with fail
              go_ret2
              rw [HNO.out]
              exact ⟨⟨_, _, _, rfl⟩, HB5.out⟩
            · obtain ⟨rfl, hor⟩ := hbr2.resolve_left hgt
              have hgt' : ¬ ((n - m : Nat) : Int) < 0 := by omega
              by_cases hm0 : 0 < m
              · clear hor
                go_wp2_with fail
                go_ret2
                rw [HNO.out]
                exact ⟨⟨_, _, _, rfl⟩, HB5.out⟩
              · obtain rfl : t = true := hor.resolve_left hm0
                obtain rfl : m = 0 := by omega
                go_wp2_with fail
                go_ret2
                rw [HNO.out]
                exact ⟨⟨_, _, _, rfl⟩, HB5.out⟩
          · generalize (rnum rest).2.2 = e0 at *
            generalize (rnum rest).1 = v at *
            generalize (rnum rest).2.1 = rest' at *
            clear hbr hml
            go_wp2_with fail
            go_ret2
            rw [HNO.out]
            exact ⟨⟨_, _, _, rfl⟩, HB5.out⟩
        · have HG2 := hid (show ofGo n [] false b1 = ofGo n (acc ++ List.replicate (rnum rest).1 t) (!t) (rnum rest).2.1 by rw [HG.out, ofGo_run (by omega) hbr])
          unfold badRun at hbr
          rw [← hml] at hbr
          have he : (rnum rest).2.2 = 0 := Classical.byContradiction fun e => hbr (.inl e)
          have hv : ¬ n - m < (rnum rest).1 := fun e => hbr (.inr (.inl e))
          have hz : ¬ ((rnum rest).1 = 0 ∧ (0 < m ∨ t = true)) := fun e => hbr (.inr (.inr e))
          rw [he]
          have HML := hid hml
          clear hbr he hml HG
          generalize (rnum rest).1 = v at *
          generalize (rnum rest).2.1 = rest' at *
          have hwn : IntKind.u64.wrap ((n : Int) - (m : Int)) = ((n - m : Nat) : Int) := by rw [IntWalk.u64_in _ ⟨by omega, by omega⟩]; omega
          have hwm : IntKind.u64.wrap (m : Int) = (m : Int) := IntWalk.u64_in _ ⟨by omega, by omega⟩
          have hgt' : ¬ ((n - m : Nat) : Int) < (v : Int) := by omega
          have HZ := hid hz
          by_cases hv0 : v = 0
          · subst hv0
            obtain rfl : m = 0 := by
              rcases Nat.eq_zero_or_pos m with h | h
              · exact h
              · exact absurd ⟨rfl, .inl h⟩ hz
            cases t with
            | true => exact absurd ⟨rfl, .inr rfl⟩ hz
            | false =>
              clear hz
              go_wp2_with fail
              go_loopw [7, 12] (fun s jj wq => ∃ (j m2 c2 : Nat) (A2 : Option Addr), s = .slice A2 m2 c2 ∧ jj = .int .u64 (j : Int) ∧ j ≤ 0 ∧ m2 = 0 + j ∧ Kept (GRow eBool 4 wq w.heap.size A2 m2 c2 (acc ++ List.replicate j false)) ∧ Kept (Below w.heap.size w wq)) (fun _ jj _ => 0 - (intOf jj).toNat)
              case atStart => exact ⟨0, 0, c, A, rfl, rfl, Nat.zero_le _, rfl, by simpa using HR5, HB5⟩
              case round =>
                obtain ⟨j, m2, c2, A2, rfl, rfl, hj, hm2, HRJ, HBJ⟩ := hrel
                clear HR5 HB5
                by_cases hjv : j < 0
                · omega
                · obtain rfl : j = 0 := by omega
                  go_wp2_with fail
                  go_roundw
                  case rel => exact ⟨rest', A2, m2, c2, acc ++ List.replicate 0 false, !false, rfl, rfl, rfl, by omega, HRL2, HRJ, HG2, HBJ⟩
                  case measure => subst hm2; simp [slLen, tOf]
          · clear hz
            go_wp2_with fail
            go_loopw [7, 12] (fun s jj wq => ∃ (j m2 c2 : Nat) (A2 : Option Addr), s = .slice A2 m2 c2 ∧ jj = .int .u64 (j : Int) ∧ j ≤ v ∧ m2 = m + j ∧ Kept (GRow eBool 4 wq w.heap.size A2 m2 c2 (acc ++ List.replicate j t)) ∧ Kept (Below w.heap.size w wq)) (fun _ jj _ => v - (intOf jj).toNat)
            case atStart => exact ⟨0, m, c, A, rfl, rfl, Nat.zero_le _, rfl, by simpa using HR5, HB5⟩
            case round =>
              obtain ⟨j, m2, c2, A2, rfl, rfl, hj, hm2, HRJ, HBJ⟩ := hrel
              clear HR5 HB5
              by_cases hjv : j < v
              · have HLA := hid (show (acc ++ List.replicate j t).length + ([t] : List Bool).length ≤ 1099511627776 by rw [List.length_append, List.length_replicate, List.length_singleton, ← HML.out]; omega)
                go_wp2_with (at_builtin; go_must (refine wpList_append_g _ rfl _ _ eBool gi_bool (by decide) rfl w.heap.size rfl (HRJ.out.alloc _) rfl rfl (GAt.one _ t 4 rfl) HLA.out (HBJ.out.alloc HBJ.out.size _).size ?_); intro A6 m6 c6 w6 hr6 hc6 hb6 hg6)
                have HR6 := hid (show GRow eBool 4 w6 w.heap.size A6 m6 c6 (acc ++ List.replicate (j + 1) t) by rw [rep_succ]; exact hr6)
                have HB6 := hid ((HBJ.out.alloc HBJ.out.size (.cells #[.bool t] 4)).trans hb6)
                have hm6 : m6 = m2 + 1 := by have := hr6.1; have := HRJ.out.1; simp at *; omega
                clear hr6 hb6 hg6 HLA
                go_roundw
                case rel => exact ⟨j + 1, m6, c6, A6, rfl, by go_num, by omega, by omega, HR6, HB6⟩
                case measure => simp [intOf]; omega
              · obtain rfl : j = v := by omega
                go_wp2_with fail
                go_roundw
                case rel => exact ⟨rest', A2, m2, c2, acc ++ List.replicate j t, !t, rfl, rfl, rfl, by omega, HRL2, HRJ, HG2, HBJ⟩
                case measure => cases t <;> simp [slLen, tOf] <;> omega
      · have HG2 := hid (show ofGo n acc t rest = some (acc, rest) from ofGo_end (by have := HR.out.1; omega))
        have hfl : FL wr A m c acc := ⟨HR.out.at_, HR.out.1, HR.out.cap⟩
        have HFL := hid hfl
        have hbz := bst_toList rest
        clear hfl HR
        rcases rest with _ | ⟨x, rest⟩
        · have HS2 := hid (show sof b = some acc by rw [HS.out, HG.out, HG2.out]; rfl)
          clear HG HG2
          go_wp2_with fail
          go_ret2
          rw [HS2.out]
          exact ⟨⟨A, m, c, rfl, HFL.out⟩, HB.out⟩
        · have HS2 := hid (show sof b = none by rw [HS.out, HG.out, HG2.out]; rfl)
          clear HG HG2
          go_wp2_with fail
          go_ret2
          rw [HS2.out]
          exact ⟨⟨A, m, c, by simp⟩, HB.out⟩

end Go.Proofs.Ytcodljegicoeeaa
