/-
  The register of the sum, bit by bit: its algebra. No function of the program is named here. Numbers of 32 bits as the walk has them. sum.Step by its contract. The table of sum: its closure, the function that makes it, and shift, by their contracts. sum.makeTable by its contract. sum's shift by its contract. sum.More and sum.Of by their contracts. sum.Seal and sum.Open by their contracts.
-/
import Derived.Test.YtngclmjefadokaaDoorJBytes
import Derived.Laws.BitsAllLaws
import Derived.Deep.DeepFit
import Derived.Deep.OwnRows
import Derived.Laws.Rows
import Derived.Laws.Tables
import Derived.Deep.WholeRow
import Derived.Test.YtngclmjefadokaaDoorJNum
namespace Go.Proofs.YtngclmjefadokaaDoor

/-- one bit more -/
def poly : BitVec 32 := 0x04c11db7#32
def rstep (r : BitVec 32) (b : Bool) : BitVec 32 := (r <<< 1) ^^^ (if (r.msb ^^ b) = true then poly else 0#32)
def feed (r : BitVec 32) (l : List Bool) : BitVec 32 := l.foldl rstep r
theorem feed_cons (r : BitVec 32) (b : Bool) (l : List Bool) : feed r (b :: l) = feed (rstep r b) l := rfl
theorem feed_nil (r : BitVec 32) : feed r [] = r := rfl
theorem feed_append (r : BitVec 32) (l k : List Bool) : feed r (l ++ k) = feed (feed r l) k := by simp [feed]

theorem xor_swap (a b c d : BitVec 32) : (a ^^^ b) ^^^ (c ^^^ d) = (a ^^^ c) ^^^ (b ^^^ d) := by
  rw [BitVec.xor_assoc, BitVec.xor_assoc, ← BitVec.xor_assoc b c d, BitVec.xor_comm b c, BitVec.xor_assoc c b d]
theorem xor_if (p q : Bool) : (if (p ^^ q) = true then poly else 0#32) = (if p = true then poly else 0#32) ^^^ (if q = true then poly else 0#32) := by
  cases p <;> cases q <;> simp
theorem rstep_xor (r s : BitVec 32) (b c : Bool) : rstep (r ^^^ s) (b ^^ c) = rstep r b ^^^ rstep s c := by
  unfold rstep
  have e : ((r ^^^ s).msb ^^ (b ^^ c)) = ((r.msb ^^ b) ^^ (s.msb ^^ c)) := by
    rw [BitVec.msb_xor]; cases r.msb <;> cases s.msb <;> cases b <;> cases c <;> rfl
  rw [e, xor_if, BitVec.shiftLeft_xor_distrib, xor_swap]

/-- feeding is the same of differences -/
theorem feed_xor (f g : Nat → Bool) : ∀ (n : Nat) (l : List Nat), l.length = n → ∀ (r s : BitVec 32), feed (r ^^^ s) (l.map fun q => (f q ^^ g q)) = feed r (l.map f) ^^^ feed s (l.map g) := by
  intro n
  induction n with
  | zero => intro l hl r s; obtain rfl := List.eq_nil_of_length_eq_zero hl; rfl
  | succ n ih =>
    intro l hl r s
    match l, hl with
    | q :: t, hl =>
      simp only [List.map_cons, feed_cons, rstep_xor]
      exact ih t (by simpa using hl) _ _

theorem rstep_low (r : BitVec 32) (b : Bool) : (rstep r b).getLsbD 0 = (r.msb ^^ b) := by
  unfold rstep
  cases r.msb <;> cases b <;> simp [poly]
theorem shl_inj {r s : BitVec 32} (h : r <<< 1 = s <<< 1) (hm : r.msb = s.msb) : r = s := by
  apply BitVec.eq_of_getLsbD_eq
  intro i hi
  by_cases h31 : i = 31
  · subst h31
    simpa [BitVec.msb_eq_getLsbD_last] using hm
  · have := congrArg (fun x => x.getLsbD (i + 1)) h
    simp only [BitVec.getLsbD_shiftLeft] at this
    simpa [show i + 1 < 32 by omega] using this
theorem rstep_inj {r s : BitVec 32} {b : Bool} (h : rstep r b = rstep s b) : r = s := by
  have hl := congrArg (fun x => x.getLsbD 0) h
  simp only [rstep_low] at hl
  have hm : r.msb = s.msb := by revert hl; cases r.msb <;> cases s.msb <;> cases b <;> simp
  refine shl_inj ?_ hm
  unfold rstep at h
  rw [hm] at h
  have := congrArg (fun x => x ^^^ (if (s.msb ^^ b) = true then poly else 0#32)) h
  simpa [BitVec.xor_assoc] using this
theorem feed_inj : ∀ {l : List Bool} {r s : BitVec 32}, feed r l = feed s l → r = s
  | [], _, _, h => h
  | _ :: t, _, _, h => rstep_inj (feed_inj (l := t) h)

theorem feed_zeros : ∀ (n : Nat), feed 0#32 (List.replicate n false) = 0#32
  | 0 => rfl
  | n + 1 => by
    rw [List.replicate_succ, feed_cons]
    exact feed_zeros n

/-- bits at the top of a register, the first one topmost -/
def pack : List Bool → BitVec 32
  | [] => 0#32
  | b :: t => (if b = true then 0x80000000#32 else 0#32) ^^^ (pack t >>> 1)
theorem pack_low : ∀ (l : List Bool) (i : Nat), i + l.length < 32 → (pack l).getLsbD i = false
  | [], i, _ => by simp [pack]
  | b :: t, i, h => by
    have := pack_low t (1 + i) (by simp at h; omega)
    rw [pack, BitVec.getLsbD_xor, BitVec.getLsbD_ushiftRight, this]
    have h31 : i < 31 := by simp at h; omega
    cases b
    · simp
    · simp only [if_true]
      have e : (0x80000000#32).getLsbD i = false := by
        have : ∀ j : Fin 31, (0x80000000#32).getLsbD j.1 = false := by decide
        exact this ⟨i, h31⟩
      rw [e]; rfl
theorem pack_top (b : Bool) (t : List Bool) : (pack (b :: t)).msb = b := by
  rw [pack, BitVec.msb_xor, BitVec.msb_ushiftRight]
  cases b <;> simp <;> decide
theorem pack_shl (b : Bool) (t : List Bool) (h : t.length ≤ 31) : pack (b :: t) <<< 1 = pack t := by
  apply BitVec.eq_of_getLsbD_eq
  intro i hi
  rw [BitVec.getLsbD_shiftLeft]
  by_cases h0 : i = 0
  · subst h0
    simp
    rw [← BitVec.getLsbD_eq_getElem]
    exact pack_low t 0 (by omega)
  · rw [pack, BitVec.getLsbD_xor, BitVec.getLsbD_ushiftRight]
    have e : (if b = true then 0x80000000#32 else 0#32).getLsbD (i - 1) = false := by
      have : ∀ j : Fin 31, (0x80000000#32).getLsbD j.1 = false := by decide
      cases b
      · simp
      · exact this ⟨i - 1, by omega⟩
    rw [e, show 1 + (i - 1) = i by omega]
    simp [hi, h0]
theorem feed_pack : ∀ (l : List Bool), l.length ≤ 32 → feed (pack l) l = 0#32
  | [], _ => rfl
  | b :: t, h => by
    rw [feed_cons]
    have e : rstep (pack (b :: t)) b = pack t := by
      unfold rstep
      rw [pack_top, pack_shl b t (by simpa using h)]
      simp
    rw [e]
    exact feed_pack t (by simp at h; omega)
theorem pack_zero : ∀ (l : List Bool), l.length ≤ 32 → pack l = 0#32 → ∀ b ∈ l, b = false
  | [], _, _ => by simp
  | b :: t, h, e => by
    have h1 : b = false := by rw [← pack_top b t, e]; rfl
    have h2 : pack t = 0#32 := by rw [← pack_shl b t (by simpa using h), e]; rfl
    intro c hc
    rcases List.mem_cons.1 hc with rfl | hc
    · exact h1
    · exact pack_zero t (by simp at h; omega) h2 c hc
/-- bits turned within 32 in a row, one at least -/
theorem burst (k m : Nat) (e : List Bool) (he : e.length ≤ 32) (h : feed 0#32 (List.replicate k false ++ e ++ List.replicate m false) = 0#32) : ∀ b ∈ e, b = false := by
  rw [feed_append, feed_append, feed_zeros] at h
  have h1 : feed 0#32 e = 0#32 := feed_inj (h.trans (feed_zeros m).symm)
  exact pack_zero e he (feed_inj ((feed_pack e he).trans h1.symm))

/-- where the bits fed are the register's own top ones it is shifted alone -/
theorem feed_match : ∀ (l : List Bool) (r : BitVec 32), l.length ≤ 32 → (∀ i b, l[i]? = some b → r.getLsbD (31 - i) = b) → feed r l = r <<< l.length
  | [], r, _, _ => by simp [feed]
  | b :: t, r, hl, h => by
    have h0 : r.msb = b := by rw [BitVec.msb_eq_getLsbD_last]; exact h 0 b rfl
    have e : rstep r b = r <<< 1 := by unfold rstep; rw [h0]; simp
    rw [feed_cons, e, feed_match t (r <<< 1) (by simp at hl; omega) ?_, ← BitVec.shiftLeft_add]
    · rw [show 1 + t.length = (b :: t).length by simp; omega]
    · intro i c hc
      have hi := (List.getElem?_eq_some_iff.1 hc).1
      simp at hl
      have := h (i + 1) c (by simpa using hc)
      rw [BitVec.getLsbD_shiftLeft]
      simpa [show 31 - i - 1 = 31 - (i + 1) by omega, show ¬ (31 - i < 1) by omega, show 31 - i < 32 by omega] using this

/-- four bits of a number, the top one first -/
def bits4 (c : BitVec 32) : List Bool := [c.getLsbD 3, c.getLsbD 2, c.getLsbD 1, c.getLsbD 0]
/-- what the table holds -/
def tab (c : BitVec 32) : BitVec 32 := feed (c <<< 28) [false, false, false, false]
theorem nib (r c : BitVec 32) (hc : c.toNat < 16) : feed r (bits4 c) = (r <<< 4) ^^^ tab ((r >>> 28) ^^^ c) := by
  have hz : ∀ i, 4 ≤ i → c.getLsbD i = false := fun i hi => by
    rw [BitVec.getLsbD, Nat.testBit_lt_two_pow (Nat.lt_of_lt_of_le hc (Nat.pow_le_pow_right (by decide) hi : 2 ^ 4 ≤ 2 ^ i))]
  have e : r = (((r >>> 28) ^^^ c) <<< 28) ^^^ (r ^^^ (((r >>> 28) ^^^ c) <<< 28)) := by
    rw [BitVec.xor_comm r, ← BitVec.xor_assoc, BitVec.xor_self, BitVec.zero_xor]
  have l : ∀ a b : BitVec 32, feed (a ^^^ b) (bits4 c) = feed a [false, false, false, false] ^^^ feed b (bits4 c) := fun a b => by
    have := feed_xor (fun _ => false) (fun q => (bits4 c)[q]?.getD false) 4 [0, 1, 2, 3] rfl a b
    simpa [bits4] using this
  have m : feed (r ^^^ (((r >>> 28) ^^^ c) <<< 28)) (bits4 c) = r <<< 4 := by
    rw [feed_match _ _ (by simp [bits4]) ?_]
    · rw [show (bits4 c).length = 4 from rfl, BitVec.shiftLeft_xor_distrib, ← BitVec.shiftLeft_add]
      simp
    · intro i b hb
      have hi : i < 4 := (List.getElem?_eq_some_iff.1 hb).1
      have d : r.getLsbD (31 - i) = (r >>> 28).getLsbD (3 - i) := by
        rw [BitVec.getLsbD_ushiftRight, show 28 + (3 - i) = 31 - i by omega]
      have d2 : (r ^^^ (((r >>> 28) ^^^ c) <<< 28)).getLsbD (31 - i) = c.getLsbD (3 - i) := by
        rw [BitVec.getLsbD_xor, BitVec.getLsbD_shiftLeft, BitVec.getLsbD_xor, show 31 - i - 28 = 3 - i by omega, d]
        simp [show 31 - i < 32 by omega, show ¬ (31 - i < 28) by omega]
      rw [d2]
      match i, hi, hb with
      | 0, _, hb => simpa [bits4] using hb
      | 1, _, hb => simpa [bits4] using hb
      | 2, _, hb => simpa [bits4] using hb
      | 3, _, hb => simpa [bits4] using hb
  have := l (((r >>> 28) ^^^ c) <<< 28) (r ^^^ (((r >>> 28) ^^^ c) <<< 28))
  rw [← e, m] at this
  rw [this, BitVec.xor_comm]
  rfl

/-- a byte's bits, the top one first -/
def bits8 (x : UInt8) : List Bool := (List.range 8).map fun k => x.toNat.testBit (7 - k)
def feedB (r : BitVec 32) (l : List UInt8) : BitVec 32 := l.foldl (fun r x => feed r (bits8 x)) r
theorem feedB_snoc (r : BitVec 32) (l : List UInt8) (x : UInt8) : feedB r (l ++ [x]) = feed (feedB r l) (bits8 x) := by simp [feedB]
theorem feedB_append (r : BitVec 32) (l k : List UInt8) : feedB r (l ++ k) = feedB (feedB r l) k := by simp [feedB]
/-- the sum of bytes behind some whose sum is told -/
def more (s : BitVec 32) (l : List UInt8) : BitVec 32 := ~~~(feedB (~~~s) l)
theorem more_append (s : BitVec 32) (l k : List UInt8) : more s (l ++ k) = more (more s l) k := by
  simp [more, feedB_append]
theorem high (x : UInt8) : ((BitVec.ofNat 32 x.toNat) >>> 4).toNat < 16 := by
  have := x.toNat_lt
  simp [Nat.shiftRight_eq_div_pow]; omega
theorem low (x : UInt8) : ((BitVec.ofNat 32 x.toNat) &&& 15#32).toNat < 16 := by
  rw [BitVec.toNat_and]
  exact Nat.lt_of_le_of_lt Nat.and_le_right (by decide)
theorem bits8_two (x : UInt8) : bits8 x = bits4 ((BitVec.ofNat 32 x.toNat) >>> 4) ++ bits4 ((BitVec.ofNat 32 x.toNat) &&& 15#32) := by
  have hb : ∀ i (h : i < 32), (BitVec.ofNat 32 x.toNat)[i]'h = x.toNat.testBit i := fun i h => by
    rw [← BitVec.getLsbD_eq_getElem, BitVec.getLsbD_ofNat]; simp [h]
  simp [bits8, bits4, List.range_succ, hb]
theorem byte_two (r : BitVec 32) (x : UInt8) : feed r (bits8 x) = feed (feed r (bits4 ((BitVec.ofNat 32 x.toNat) >>> 4))) (bits4 ((BitVec.ofNat 32 x.toNat) &&& 15#32)) := by
  rw [bits8_two, feed_append]

end Go.Proofs.YtngclmjefadokaaDoor

namespace Go.Proofs.YtngclmjefadokaaDoor
open Go Go.RowKit

/-- a number of 32 bits -/
def v32 (r : BitVec 32) : Int := (r.toNat : Int)
theorem v32_lo (r : BitVec 32) : 0 ≤ v32 r := Int.natCast_nonneg _
theorem v32_hi (r : BitVec 32) : v32 r < 4294967296 := by have := r.isLt; unfold v32; omega
theorem v32_inj {r s : BitVec 32} (h : v32 r = v32 s) : r = s := BitVec.eq_of_toNat_eq (by unfold v32 at h; omega)
theorem v32_of {n : Int} (h0 : 0 ≤ n) (h1 : n < 4294967296) : ∃ r, n = v32 r := ⟨BitVec.ofNat 32 n.toNat, by
  unfold v32
  rw [BitVec.toNat_ofNat, Nat.mod_eq_of_lt (by omega)]
  omega⟩
theorem v32_xor (a b : BitVec 32) : bits .xor .u32 (v32 a) (v32 b) = v32 (a ^^^ b) := by
  unfold v32
  rw [u32_xor_nat _ _ (by have := a.isLt; omega) (by have := b.isLt; omega), BitVec.toNat_xor]
theorem v32_and (a b : BitVec 32) : bits .and .u32 (v32 a) (v32 b) = v32 (a &&& b) := by
  unfold v32
  rw [u32_and_nat _ _ (by have := a.isLt; omega) (by have := b.isLt; omega), BitVec.toNat_and]
theorem v32_ones : v32 (BitVec.allOnes 32) = IntKind.u32.max := by decide
theorem v32_not (a : BitVec 32) : bits .xor .u32 IntKind.u32.max (v32 a) = v32 (~~~a) := by
  rw [← v32_ones, v32_xor, BitVec.allOnes_xor]
theorem v32_shl (a : BitVec 32) (k : Nat) : v32 a * 2 ^ k % 4294967296 = v32 (a <<< k) := by
  unfold v32
  rw [BitVec.toNat_shiftLeft, Nat.shiftLeft_eq, Int.natCast_emod, Int.natCast_mul, Int.natCast_pow]
  rfl
theorem v32_shr (a : BitVec 32) (k : Nat) : v32 a / 2 ^ k = v32 (a >>> k) := by
  unfold v32
  rw [BitVec.toNat_ushiftRight, Nat.shiftRight_eq_div_pow, Int.natCast_ediv, Int.natCast_pow]
  rfl
theorem v32_poly : v32 poly = 79764919 := by decide
theorem v32_msb (a : BitVec 32) : (v32 a / 2147483648 == 1) = a.msb := by
  have h := a.isLt
  have e : a.msb = decide (2147483648 ≤ a.toNat) := by rw [BitVec.msb_eq_decide]
  rw [e, Bool.eq_iff_iff]
  unfold v32
  simp
  omega
theorem v32_sub (a : BitVec 32) : 4294967295 - v32 a = v32 (~~~a) := by
  have := a.isLt
  unfold v32
  rw [BitVec.toNat_not]
  omega

end Go.Proofs.YtngclmjefadokaaDoor

namespace Go.Proofs.YtngclmjefadokaaDoor
open Go Go.RowKit

set_option maxHeartbeats 400000 in
theorem step_any (s : BitVec 32) (b : Bool) (w : World) :
    Calls Tryd.prog 98 #[.int .u32 (v32 s), .bool b] w fun e w' => e = .returned (.int .u32 (v32 (~~~(rstep (~~~s) b)))) ∧ w = w' := by
  have hsg : IntKind.u32.signed = false := rfl
  have hn := v32_not s
  obtain ⟨R, hR⟩ : ∃ R, R = ~~~s := ⟨_, rfl⟩
  rw [← hR] at hn ⊢
  clear hR
  have h0 := v32_lo R
  have h1 := v32_hi R
  have hm := v32_msb R
  have hs := v32_shl R 1
  rw [Int.pow_one] at hs
  cases hb : (R.msb ^^ b)
  · have e : rstep R b = R <<< 1 := by unfold rstep; rw [hb]; simp
    have ht : (R.msb == b) = true := by revert hb; cases R.msb <;> cases b <;> simp
    rw [e]
    clear e hb
    have hn2 := v32_not (R <<< 1)
    go_enter Tryd.func98, Tryd.ntmps98
    go_wp2
    go_ret
    exact ⟨rfl, rfl⟩
  · have e : rstep R b = R <<< 1 ^^^ poly := by unfold rstep; rw [hb]; simp
    have ht : (R.msb == b) = false := by revert hb; cases R.msb <;> cases b <;> simp
    rw [e]
    clear e hb
    have hp := v32_xor (R <<< 1) poly
    rw [v32_poly] at hp
    have hn2 := v32_not (R <<< 1 ^^^ poly)
    go_enter Tryd.func98, Tryd.ntmps98
    go_wp2
    go_ret
    exact ⟨rfl, rfl⟩

end Go.Proofs.YtngclmjefadokaaDoor

namespace Go.Proofs.YtngclmjefadokaaDoor
open Go Go.RowKit

/-- after k steps over zero bits -/
def zs (k : Nat) : List Bool := List.replicate k false
theorem zs_snoc (r : BitVec 32) (k : Nat) : feed r (zs (k + 1)) = rstep (feed r (zs k)) false := by
  unfold zs
  rw [List.replicate_succ', feed_append]; rfl

theorem v32_ofNat (c : Nat) (h : c < 4294967296) : v32 (BitVec.ofNat 32 c) = (c : Int) := by
  unfold v32; rw [BitVec.toNat_ofNat, Nat.mod_eq_of_lt (by omega)]
theorem top4 (c : Nat) (hc : c < 16) : (c : Int) * (268435456 : Int) = v32 (BitVec.ofNat 32 c <<< 28) := by
  rw [← v32_shl, v32_ofNat c (by omega)]
  omega

set_option maxHeartbeats 400000 in
theorem fill_any (base b c : Nat) (f : Nat → Value) (w : World) (h : w.rowIs b 167 16 f) (hc : c < 16) (hb : base ≤ b) :
    Calls Tryd.prog 97 #[.int .i64 (c : Int), .pointer (some ⟨b, 0, none⟩)] w fun e w' =>
      e = .returned (.tuple #[]) ∧ w'.rowIs b 167 16 (fun j => if j = c then .int .u32 (v32 (tab (BitVec.ofNat 32 c))) else f j) ∧ Below base w w' := by
  have hsg : IntKind.u32.signed = false := rfl
  have hcc := h.cell hc
  have hcz := h.frozen c
  have H := hid h
  clear h
  obtain ⟨R, hR⟩ : ∃ R, R = BitVec.ofNat 32 c <<< 28 := ⟨_, rfl⟩
  have ht := top4 c hc
  have hn := v32_not R
  rw [← hR] at ht
  have HR := hid hR
  have HT := hid (show Value.int .u32 (bits .xor .u32 IntKind.u32.max ((c : Int) * 268435456)) = .int .u32 (v32 (~~~R)) by rw [ht, hn])
  clear hR ht hn
  go_enter Tryd.func97, Tryd.ntmps97
  go_wp2
  go_loop [3, 8] (fun s i => ∃ k : Nat, k ≤ 4 ∧ i = .int .i64 (k : Int) ∧ s = .int .u32 (v32 (~~~(feed R (zs k))))) (fun _ i => 4 - (intOf i).toNat)
  case atStart => exact ⟨0, Nat.zero_le _, rfl, HT.out⟩
  case round =>
    obtain ⟨k, hk, rfl, rfl⟩ := hrel
    by_cases hlt : k < 4
    · obtain ⟨S, hS⟩ : ∃ S, S = ~~~(feed R (zs k)) := ⟨_, rfl⟩
      rw [← hS]
      have HS := hid hS
      clear hS
      go_wp2_with fail
      go_fit (step_any S false w)
      rintro e w' ⟨rfl, rfl⟩
      go_wp2_with fail
      go_round
      case rel => exact ⟨k + 1, by omega, by go_num, by rw [HS.out, BitVec.not_not, ← zs_snoc]⟩
      case measure => simp [intOf]; omega
    · have hk4 : k = 4 := by omega
      subst hk4
      have hn := v32_not (~~~(feed R (zs 4)))
      rw [BitVec.not_not] at hn
      have e4 : tab (BitVec.ofNat 32 c) = feed R (zs 4) := by rw [HR.out]; rfl
      have E4 := hid e4
      clear e4 hlt hk
      go_wp2
      go_end0
      exact ⟨rfl, by rw [E4.out]; exact H.out.set c _, (Below.refl base w).setCell hb _⟩

end Go.Proofs.YtngclmjefadokaaDoor

namespace Go.Proofs.YtngclmjefadokaaDoor
open Go Go.RowKit

/-- what the table reads as -/
def tabF (c : Nat) : Value := .int .u32 (v32 (tab (BitVec.ofNat 32 c)))
def tabCells : Array Value := ((List.range 16).map tabF).toArray
theorem infoTable : (Tryd.prog.info? 167).map (fun i => (i.zero, i.size)) = some (some (.agg (List.replicate 16 (.int .u32 0)).toArray), 16) := by kernel_rfl

theorem zeros_row {n : Nat} {b : Nat} {w : World} {t : TypeId} (h : w.heap[b]? = some (.cells (List.replicate n (Value.int .u32 0)).toArray t (0, 0))) : w.rowIs b t n (fun _ => .int .u32 0) :=
  ⟨_, h, by simp, fun i hi => by simp [hi]⟩
theorem tabCells_of {w : World} {b : Nat} {t : TypeId} (h : w.rowIs b t 16 tabF) : w.heap[b]? = some (.cells tabCells t (0, 0)) := by
  obtain ⟨c, hb, hn, hc⟩ := h
  have e : c = tabCells := by
    apply Array.ext_getElem?
    intro i
    by_cases hi : i < 16
    · rw [hc i hi]; simp [tabCells, hi]
    · rw [Array.getElem?_eq_none (by omega), Array.getElem?_eq_none (by simp [tabCells]; omega)]
  rw [hb, e]

theorem tabCells_one : tabCells.all (·.oneCell') = true := by
  rw [Array.all_eq_true_iff_forall_mem]
  intro v hv
  have hv' : v ∈ (List.range 16).map tabF := by simpa [tabCells] using hv
  obtain ⟨i, _, rfl⟩ := List.mem_map.1 hv'
  rfl
theorem below_setRow {B g : Nat} {a w : World} (h : Below B a w) (hg : B ≤ g) (cs : Array Value) : Below B a (w.setRow g cs) :=
  ⟨h.os, h.tape, h.output, by rw [setRow_size]; exact h.size, fun k hk => by rw [setRow_other w g k cs (by omega)]; exact h.block k hk⟩

set_option maxHeartbeats 400000 in
theorem makeTable_any (w : World) :
    Calls Tryd.prog 94 #[] w fun e w' => e = .returned (.agg tabCells) ∧ Below w.heap.size w w' := by
  have hz := (zero_of_info infoTable).1
  have hi := (zero_of_info infoTable).2
  have Hi := hid hi
  clear hi
  obtain ⟨Z, hZ⟩ : ∃ Z, Z = (List.replicate 16 (Value.int .u32 0)).toArray := ⟨_, rfl⟩
  rw [← hZ] at hz
  have HZ := hid hZ
  clear hZ
  go_enter Tryd.func94, Tryd.ntmps94
  go_wp2
  have hZ := HZ.out
  have h0 := (zeros_row (n := 16) (by rw [heap_alloc_new w _, hZ]) : (w.alloc (.cells Z 167)).rowIs w.heap.size 167 16 _).alloc (.cells Z 167)
  have h1 : ((w.alloc (.cells Z 167)).alloc (.cells Z 167)).rowIs (w.alloc (.cells Z 167)).heap.size 167 16 (fun _ => .int .u32 0) := zeros_row (by rw [heap_alloc_new _ _, hZ])
  clear hZ
  have hs : (w.alloc (.cells Z 167)).heap.size = w.heap.size + 1 := by simp
  rw [hs] at h1
  have hb : Below w.heap.size w ((w.alloc (.cells Z 167)).alloc (.cells Z 167)) := ((Below.refl _ _).alloc (Nat.le_refl _) _).alloc (by simp) _
  have HK := hid (And.intro h0 (And.intro h1 hb))
  clear h0 h1 hb hs
  go_loopw [3, 5] (fun _ i wr => ∃ k : Nat, k ≤ 16 ∧ i = .int .i64 (k : Int) ∧ wr.rowIs w.heap.size 167 16 (fun _ => .int .u32 0) ∧
      wr.rowIs (w.heap.size + 1) 167 16 (fun j => if j < k then tabF j else .int .u32 0) ∧ Below w.heap.size w wr) (fun _ i _ => 16 - (intOf i).toNat)
  case atStart => exact ⟨0, Nat.zero_le _, rfl, HK.out.1, HK.out.2.1.congr fun i _ => by simp, HK.out.2.2⟩
  case round =>
    obtain ⟨k, hk, rfl, h0, h1, hb⟩ := hrel
    by_cases hlt : k < 16
    · have HP := hid (fill_any (w.heap.size + 1) (w.heap.size + 1) k _ wr h1 hlt (Nat.le_refl _))
      have H0 := hid h0
      have HB := hid hb
      clear h0 h1 hb
      go_wp2_with fail
      go_fit HP.out
      rintro e w2 ⟨rfl, h1, hb2⟩
      have H1 := hid h1
      clear h1
      go_wp2_with fail
      go_roundw
      case rel =>
        refine ⟨k + 1, by omega, by go_num, ?_, ?_, ?_⟩
        · exact H0.out.of_block (hb2.block _ (by omega))
        · refine H1.out.congr fun i hi => ?_
          by_cases e : i = k
          · subst e; simp [tabF]
          · by_cases e2 : i < k
            · simp [e, e2, show i < k + 1 by omega]
            · simp [e, e2, show ¬ i < k + 1 by omega]
        · exact HB.out.trans (hb2.mono (by omega))
      case measure => simp [intOf]; omega
    · have hk16 : k = 16 := by omega
      subst hk16
      have ht := tabCells_of (h1.congr fun i hi => by simp [hi])
      have H0 := hid h0
      have HB := hid hb
      have HT := hid ht
      clear h0 h1 hb ht
      obtain ⟨c0, hc0, hn0, _⟩ := H0.out
      have HC := hid hc0
      have hsz : (Tryd.prog.info? 167).map (·.size) = some tabCells.size := Hi.out
      have hcs : c0.size = tabCells.size := hn0
      have hone := tabCells_one
      have HS := hid (And.intro hsz (And.intro hcs hone))
      clear hc0 hn0 hsz hcs hone H0
      go_wp2_with (first
        | (with_reducible refine wpList_load_row rfl 167 (.tmp 1) rfl (w.heap.size + 1) rfl 167 tabCells (0, 0) _ HT.out Tryd.underlying167 rfl HS.out.1 ?_)
        | (with_reducible refine wpList_store_row rfl 167 (.tmp 0) (.tmp 12) rfl w.heap.size tabCells rfl rfl 167 c0 HC.out HS.out.1 HS.out.2.1 HS.out.2.2 ?_))
      refine bodyPost_ret (v := .agg tabCells) ?_ rfl ⟨rfl, ?_⟩
      · exact results_cell_row rfl _ _ w.heap.size 167 tabCells (0, 0) _ rfl (setRow_heap _ _ _ _ _ _ HC.out) Tryd.underlying167 rfl HS.out.1
      · exact below_setRow HB.out (Nat.le_refl _) _

end Go.Proofs.YtngclmjefadokaaDoor

namespace Go.Proofs.YtngclmjefadokaaDoor
open Go Go.RowKit

theorem v32_toNat (x : BitVec 32) : (v32 x).toNat = x.toNat := by unfold v32; rfl
theorem tabF_at (x : BitVec 32) : tabF x.toNat = .int .u32 (v32 (tab x)) := by
  unfold tabF; rw [BitVec.ofNat_toNat]; rfl
theorem shr28 (r : BitVec 32) : (r >>> 28).toNat < 16 := by
  have := r.isLt
  rw [BitVec.toNat_ushiftRight, Nat.shiftRight_eq_div_pow]; omega
theorem xor16 (a b : BitVec 32) (ha : a.toNat < 16) (hb : b.toNat < 16) : (a ^^^ b).toNat < 16 := by
  rw [BitVec.toNat_xor]; exact Nat.xor_lt_two_pow (n := 4) ha hb

set_option maxHeartbeats 400000 in
theorem shift_any (b : Nat) (r c : BitVec 32) (w : World) (hc : c.toNat < 16) (h : w.rowIs b 167 16 tabF) :
    Calls Tryd.prog 95 #[.pointer (some ⟨b, 0, none⟩), .int .u32 (v32 r), .int .u32 (v32 c)] w fun e w' => e = .returned (.int .u32 (v32 (feed r (bits4 c)))) ∧ w = w' := by
  have hN := nib r c hc
  have hx := xor16 _ _ (shr28 r) hc
  obtain ⟨x, hX⟩ : ∃ x, x = (r >>> 28) ^^^ c := ⟨_, rfl⟩
  have h1 := v32_shr r 28
  have h2 := v32_xor (r >>> 28) c
  have h3 := v32_shl r 4
  have h4 := v32_xor (r <<< 4) (tab x)
  rw [← hX] at h2 hN hx
  have hcell := h.cell hx
  rw [tabF_at] at hcell
  have e1 := v32_toNat x
  rw [← e1] at hcell
  have hb0 := v32_lo x
  have hb1 : v32 x < 16 := by unfold v32; omega
  have hr0 := v32_lo r
  have hr1 := v32_hi r
  rw [hN]
  rw [show (2 : Int) ^ 28 = 268435456 by decide] at h1
  rw [show (2 : Int) ^ 4 = 16 by decide] at h3
  clear e1 hx hN hX h hc
  go_enter Tryd.func95, Tryd.ntmps95
  go_wp2
  go_ret
  exact ⟨rfl, rfl⟩

end Go.Proofs.YtngclmjefadokaaDoor

namespace Go.Proofs.YtngclmjefadokaaDoor
open Go Go.RowKit

theorem feedB_take {l : List UInt8} {k : Nat} {x : UInt8} (r : BitVec 32) (h : l[k]? = some x) : feedB r (l.take (k + 1)) = feed (feedB r (l.take k)) (bits8 x) := by
  have hk := (List.getElem?_eq_some_iff.1 h).1
  have hx := (List.getElem?_eq_some_iff.1 h).2
  rw [List.take_succ_eq_append_getElem hk, feedB_snoc, hx]
theorem x_shr (x : UInt8) : (x.toNat : Int) / (16 : Int) = v32 (BitVec.ofNat 32 x.toNat >>> 4) := by
  have := x.toNat_lt
  rw [← v32_shr, v32_ofNat _ (by omega)]
  rfl
theorem x_and (x : UInt8) : bits .and .u32 (x.toNat : Int) 15 = v32 (BitVec.ofNat 32 x.toNat &&& 15#32) := by
  have := x.toNat_lt
  rw [← v32_and, v32_ofNat _ (by omega)]
  rfl

theorem tabF_row {w : World} {b : Nat} {t : TypeId} (h : w.heap[b]? = some (.cells tabCells t (0, 0))) : w.rowIs b t 16 tabF :=
  ⟨_, h, by simp [tabCells], fun i hi => by simp [tabCells, hi]⟩
theorem At.past {w : World} {B : Nat} {A : Option Addr} {l : List UInt8} (h : At w B A l) (hB : B ≤ w.heap.size) (o : Obj) : At (w.alloc o) B A l := h.keep fun p hp => World.cell?_alloc_lt w o p (by omega)

set_option maxHeartbeats 400000 in
theorem more_any (A : Option Addr) (m c B : Nat) (s : BitVec 32) (l : List UInt8) (w : World) (hm : m = l.length) (hA : At w B A l) (hB : B ≤ w.heap.size) (hl : l.length ≤ 70368744177664) :
    Calls Tryd.prog 87 #[.int .u32 (v32 s), .slice A m c] w fun e w' => e = .returned (.int .u32 (v32 (more s l))) ∧ Below w.heap.size w w' := by
  have hsg : IntKind.u32.signed = false := rfl
  have hz := (zero_of_info infoTable).1
  have hi := (zero_of_info infoTable).2
  have Hi := hid (show (Tryd.prog.info? 167).map (·.size) = some tabCells.size from hi)
  clear hi
  obtain ⟨Z, hZ⟩ : ∃ Z, Z = (List.replicate 16 (Value.int .u32 0)).toArray := ⟨_, rfl⟩
  rw [← hZ] at hz
  have HZ := hid (show Z.size = tabCells.size by rw [hZ]; rfl)
  clear hZ
  have HO := hid tabCells_one
  have hn := v32_not s
  have HA := hid hA
  have HM := hid hm
  have hmb : m ≤ 70368744177664 := by omega
  clear hA hm
  go_enter Tryd.func87, Tryd.ntmps87
  go_wp2_with fail
  go_fit (makeTable_any w)
  rintro e w1 ⟨rfl, hb1⟩
  have HC := hid (heap_alloc_new w1 (.cells Z 167))
  go_wp2_with (with_reducible refine wpList_store_row rfl 167 (.tmp 5) (.tmp 9) rfl w1.heap.size tabCells rfl rfl 167 Z HC.out Hi.out HZ.out HO.out ?_)
  rw [World.setRow_alloc_new]
  have hrow : (w1.alloc (.cells tabCells 167)).rowIs w1.heap.size 167 16 tabF := tabF_row (heap_alloc_new w1 _)
  have hA2 : At (w1.alloc (.cells tabCells 167)) B A l := (HA.out.below (hb1.mono hB)).past (Nat.le_trans hB hb1.size) _
  have hb2 : Below w.heap.size w (w1.alloc (.cells tabCells 167)) := hb1.alloc hb1.size _
  have HR := hid hrow
  have HB := hid hb2
  have HA2 := hid hA2
  clear hA2 hrow hb2 hb1 hn hz HC HO HZ Hi HA
  go_loop [6, 14] (fun r i => ∃ k : Nat, k ≤ m ∧ i = .int .i64 (k : Int) ∧ r = .int .u32 (v32 (feedB (~~~s) (l.take k)))) (fun _ i => m - (intOf i).toNat)
  case atStart => exact ⟨0, Nat.zero_le _, rfl, rfl⟩
  case round =>
    obtain ⟨k, hk, rfl, rfl⟩ := hrel
    by_cases hlt : k < m
    · obtain ⟨x, hx⟩ : ∃ x, l[k]? = some x := ⟨_, List.getElem?_eq_getElem (by have := HM.out; omega)⟩
      obtain ⟨b, off, rfl, hbB, hcell⟩ := HA2.out (by have := HM.out; omega)
      have hk1 := hcell k x hx
      have HT := hid (feedB_take (~~~s) hx)
      have hx0 := x.toNat_lt
      have hxi : (x.toNat : Int) < 256 := by omega
      have e1 := x_shr x
      have e2 := x_and x
      have h1 := high x
      have h2 := low x
      have h8 := byte_two (feedB (~~~s) (l.take k)) x
      obtain ⟨R, hR⟩ : ∃ R, R = feedB (~~~s) (l.take k) := ⟨_, rfl⟩
      rw [← hR] at HT h8 ⊢
      obtain ⟨c1, hc1⟩ : ∃ c, c = BitVec.ofNat 32 x.toNat >>> 4 := ⟨_, rfl⟩
      obtain ⟨c2, hc2⟩ : ∃ c, c = BitVec.ofNat 32 x.toNat &&& 15#32 := ⟨_, rfl⟩
      rw [← hc1] at e1 h1 h8
      rw [← hc2] at e2 h2 h8
      have H8 := hid h8
      have H1 := hid h1
      have H2 := hid h2
      clear hR hc1 hc2 h8 h1 h2 hx hcell
      go_wp2_with fail
      go_fit (shift_any w1.heap.size R c1 _ H1.out HR.out)
      rintro e w' ⟨rfl, rfl⟩
      go_wp2_with fail
      go_fit (shift_any w1.heap.size (feed R (bits4 c1)) c2 _ H2.out HR.out)
      rintro e w' ⟨rfl, rfl⟩
      go_wp2_with fail
      go_round
      case rel => exact ⟨k + 1, by omega, by go_num, by rw [HT.out, H8.out]⟩
      case measure => simp [intOf]; omega
    · have hkm : k = m := by omega
      have e3 : l.take k = l := List.take_of_length_le (by have := HM.out; omega)
      rw [e3]
      have hn := v32_not (feedB (~~~s) l)
      clear e3 hkm
      go_wp2
      go_ret
      exact ⟨rfl, HB.out⟩

theorem of_any (A : Option Addr) (m c B : Nat) (l : List UInt8) (w : World) (hm : m = l.length) (hA : At w B A l) (hB : B ≤ w.heap.size) (hl : l.length ≤ 70368744177664) :
    Calls Tryd.prog 72 #[.slice A m c] w fun e w' => e = .returned (.int .u32 (v32 (more 0#32 l))) ∧ Below w.heap.size w w' := by
  have HM := hid (more_any A m c B 0#32 l w hm hA hB hl)
  have e0 : v32 0#32 = 0 := rfl
  rw [e0] at HM
  clear hm hA e0
  go_enter Tryd.func72, Tryd.ntmps72
  go_wp2_with fail
  go_fit HM.out
  rintro e w1 ⟨rfl, hb1⟩
  go_wp2_with fail
  go_ret
  exact ⟨rfl, hb1⟩

end Go.Proofs.YtngclmjefadokaaDoor

namespace Go.Proofs.YtngclmjefadokaaDoor
open Go Go.RowKit

/-- the four bytes of a sum -/
def sum4 (l : List UInt8) : List UInt8 := be (more 0#32 l).toNat 4
theorem sum4_length (l : List UInt8) : (sum4 l).length = 4 := be_length _ _

set_option maxHeartbeats 400000 in
theorem seal_any (A : Option Addr) (m c B : Nat) (l : List UInt8) (w : World) (hm : m = l.length) (hA : At w B A l) (hB : B ≤ w.heap.size) (hl : l.length ≤ 70368744177664) (hT : Table w) :
    Calls Tryd.prog 68 #[.slice A m c] w fun e w' => ∃ A' m' c', e = .returned (.slice A' m' c') ∧ Row w' w.heap.size 5 A' m' c' (l ++ sum4 l) ∧ Below w.heap.size w w' := by
  have HM := hid (of_any A m c B l w hm hA hB hl)
  have HA := hid hA
  have HT := hid hT
  have HL := hid hm
  have h0 := v32_lo (more 0#32 l)
  have h1 := v32_hi (more 0#32 l)
  clear hm hA hT
  go_enter Tryd.func68, Tryd.ntmps68
  go_wp2_with fail
  go_fit HM.out
  rintro e w1 ⟨rfl, hb1⟩
  have HB1 := hid hb1
  have HP := hid (put_is (v := (more 0#32 l).toNat) (n := 4) (c := c) HL.out (HA.out.below (hb1.mono hB)) (Nat.le_trans hB hb1.size) hl (HT.out.step hb1) (by decide) (by decide)
    (Nat.div_eq_of_lt (more 0#32 l).isLt) (Nat.lt_trans (more 0#32 l).isLt (by decide)))
  clear hb1
  go_wp2_with fail
  go_fit HP.out
  rintro e w2 ⟨A2, m2, c2, rfl, hr2, hb2⟩
  have HR := hid hr2
  have HB2 := hid hb2
  clear hr2 hb2
  go_wp2_with fail
  go_ret
  exact ⟨A2, m2, c2, rfl, ⟨HR.out.1, Joins.ownsRow_le HR.out.2 HB1.out.size⟩, below_step HB1.out HB2.out⟩

set_option maxHeartbeats 400000 in
theorem open_short (A : Option Addr) (m c : Nat) (w : World) (hm : m < 4) :
    Calls Tryd.prog 56 #[.slice A m c] w fun e w' => e = .returned (.tuple #[.slice none 0 0, .int .i64 20]) ∧ w = w' := by
  go_enter Tryd.func56, Tryd.ntmps56
  go_wp2
  go_ret2
  exact ⟨rfl, rfl⟩

theorem v32_wrap (r : BitVec 32) : IntKind.u64.wrap (v32 r) = v32 r := by
  have h0 := v32_lo r
  have h1 := v32_hi r
  rw [IntKind.wrap_u64]; omega
theorem get_four {A : Option Addr} {c B m : Nat} {l : List UInt8} {w : World} (hm : m = 4) (hl : l.length = 4) (hA : At w B A l) (hB : B ≤ w.heap.size) (hc : m ≤ c) :
    Calls Tryd.prog 71 #[.slice A m c, .int .i64 4] w fun e w' =>
      ∃ A' m' c', e = .returned (.tuple #[.int .u64 (ofBe l : Int), .slice A' m' c', .int .i64 0]) ∧ Below w.heap.size w w' := by
  refine (get_is (n := 4) (N := 4) (l := l) (hm.trans hl.symm) rfl hA hB (by omega) hc (by decide) (by decide) (by omega)).mono fun e w' ⟨A', m', c', h1, _, h3⟩ => ⟨A', m', c', ?_, h3⟩
  rw [h1, List.take_of_length_le (by omega)]

theorem four_is (l k : List UInt8) (hk : k.length = 4) : k = sum4 l ↔ ofBe k = (more 0#32 l).toNat := by
  constructor
  · rintro rfl
    exact ofBe_be 4 _ (Nat.lt_of_lt_of_le (more 0#32 l).isLt (by decide))
  · intro h
    rw [← be_ofBe k 4 hk, h]
    rfl

set_option maxHeartbeats 400000 in
theorem open_wrong (A : Option Addr) (c B n : Nat) (l : List UInt8) (w : World) (hm : n + 4 = l.length) (hc : n + 4 ≤ c) (hA : At w B A l) (hB : B ≤ w.heap.size) (hl : l.length ≤ 70368744177664) (hno : l.drop n ≠ sum4 (l.take n)) :
    Calls Tryd.prog 56 #[.slice A (n + 4) c] w fun e w' => e = .returned (.tuple #[.slice none 0 0, .int .i64 21]) ∧ Below w.heap.size w w' := by
  have hnb : n ≤ 70368744177664 := by omega
  have hcn : ¬ c = n := by omega
  have hd : (l.drop n).length = 4 := by rw [List.length_drop]; omega
  have ht : (l.take n).length = n := by rw [List.length_take]; omega
  rw [Ne, four_is _ _ hd] at hno
  obtain ⟨N, hN⟩ : ∃ N, N = ofBe (l.drop n) := ⟨_, rfl⟩
  have hne : ((N : Int) == v32 (more 0#32 (l.take n))) = false ∧ ((N : Int) != v32 (more 0#32 (l.take n))) = true := by
    unfold v32; simp; omega
  obtain ⟨hne1, hne2⟩ := hne
  have hwr := v32_wrap (more 0#32 (l.take n))
  have hsl := hA.cut (k := n) (by omega : l.length ≤ c)
  rw [if_neg hcn] at hsl
  obtain ⟨b, off, rfl, hbB, hcell⟩ := hA (by omega)
  have e2 : (⟨b, off, none⟩ : Addr).add n = ⟨b, off + n, none⟩ := by unfold Addr.add; split <;> simp_all
  rw [Option.map_some, e2] at hsl
  have hpre : At w B (some ⟨b, off, none⟩) (l.take n) := fun _ => ⟨b, off, rfl, hbB, fun j x hj => hcell j x (by rw [List.getElem?_take] at hj; split at hj <;> simp_all)⟩
  have HS := hid (get_four (m := 4) (c := c - n) rfl hd hsl hB (by omega))
  rw [← hN] at HS
  have HP := hid hpre
  have HT := hid ht
  clear hA hm hcell hsl e2 hno hN hd ht hpre
  go_enter Tryd.func56, Tryd.ntmps56
  go_wp2_with fail
  go_fit HS.out
  rintro e w1 ⟨A1, m1, c1, rfl, hb1⟩
  have HB1 := hid hb1
  clear hb1
  go_wp2_with fail
  go_fit (of_any (some ⟨b, off, none⟩) n c B (l.take n) w1 HT.out.symm (HP.out.below (HB1.out.mono hB)) (Nat.le_trans hB HB1.out.size) (by rw [HT.out]; exact hnb))
  rintro e w2 ⟨rfl, hb2⟩
  have HB2 := hid hb2
  clear hb2
  go_wp2_with fail
  go_ret2
  exact ⟨rfl, below_step HB1.out HB2.out⟩

set_option maxHeartbeats 400000 in
theorem open_good (A : Option Addr) (c B n : Nat) (l : List UInt8) (w : World) (hm : n + 4 = l.length) (hc : n + 4 ≤ c) (hA : At w B A l) (hB : B ≤ w.heap.size) (hl : l.length ≤ 70368744177664) (hno : l.drop n = sum4 (l.take n)) :
    Calls Tryd.prog 56 #[.slice A (n + 4) c] w fun e w' => ∃ A' m' c', e = .returned (.tuple #[.slice A' m' c', .int .i64 0]) ∧ Row w' w.heap.size 5 A' m' c' (l.take n) ∧ Below w.heap.size w w' := by
  obtain ⟨i0, hi, hz0, hz1, hz2⟩ := info_parts info_byte
  have HI := hid (And.intro hi (And.intro hz0 (And.intro hz1 hz2)))
  clear hi hz0 hz1 hz2
  have hnb : n ≤ 70368744177664 := by omega
  have hcn : ¬ c = n := by omega
  have hd : (l.drop n).length = 4 := by rw [List.length_drop]; omega
  have ht : (l.take n).length = n := by rw [List.length_take]; omega
  rw [four_is _ _ hd] at hno
  have hpx : ∀ (j : Nat) (x : UInt8), (l.take n)[j]? = some x → l[j]? = some x := fun j x hj => by rw [List.getElem?_take] at hj; split at hj <;> simp_all
  obtain ⟨p, hp⟩ : ∃ p, p = l.take n := ⟨_, rfl⟩
  rw [← hp] at ht hno hpx ⊢
  obtain ⟨N, hN⟩ : ∃ N, N = ofBe (l.drop n) := ⟨_, rfl⟩
  have hne : ((N : Int) == v32 (more 0#32 p)) = true ∧ ((N : Int) != v32 (more 0#32 p)) = false := by
    unfold v32; simp; omega
  obtain ⟨hne1, hne2⟩ := hne
  have hwr := v32_wrap (more 0#32 p)
  have hsl := hA.cut (k := n) (by omega : l.length ≤ c)
  rw [if_neg hcn] at hsl
  obtain ⟨b, off, rfl, hbB, hcell⟩ := hA (by omega)
  have e2 : (⟨b, off, none⟩ : Addr).add n = ⟨b, off + n, none⟩ := by unfold Addr.add; split <;> simp_all
  rw [Option.map_some, e2] at hsl
  have hpre : At w B (some ⟨b, off, none⟩) p := fun _ => ⟨b, off, rfl, hbB, fun j x hj => hcell j x (hpx j x hj)⟩
  have HS := hid (get_four (m := 4) (c := c - n) rfl hd hsl hB (by omega))
  rw [← hN] at HS
  have HP := hid hpre
  have HT := hid ht
  clear hA hm hcell hsl e2 hno hN hd ht hpre hpx hp
  go_enter Tryd.func56, Tryd.ntmps56
  go_wp2_with fail
  go_fit HS.out
  rintro e w1 ⟨A1, m1, c1, rfl, hb1⟩
  have HB1 := hid hb1
  clear hb1
  go_wp2_with fail
  go_fit (of_any (some ⟨b, off, none⟩) n c B p w1 HT.out.symm (HP.out.below (HB1.out.mono hB)) (Nat.le_trans hB HB1.out.size) (by rw [HT.out]; exact hnb))
  rintro e w2 ⟨rfl, hb2⟩
  have HB2 := hid hb2
  clear hb2
  have hown := own_empty w2 5
  have HO := hid hown
  have hs : (w2.alloc (.cells #[] 5)).heap.size = w2.heap.size + 1 := by simp
  have HZ := hid hs
  have HA3 := hid (((HP.out.below (HB1.out.mono hB)).below (HB2.out.mono (Nat.le_trans hB HB1.out.size))).past (Nat.le_trans hB (Nat.le_trans HB1.out.size HB2.out.size)) (.cells #[] 5))
  clear hown hs
  go_wp2_with (first
    | (at_builtin; go_must (refine wpList_append_bs _ rfl _ _ _ rfl w2.heap.size 5 i0 Tryd.underlying98 HI.out.1 HI.out.2.1 HI.out.2.2.1 HI.out.2.2.2 (.slice (some ⟨w2.heap.size, 0, none⟩) 0 0) [] p rfl HO.out (some ⟨b, off, none⟩) n c rfl HT.out.symm (HA3.out.more ?le) ?len ?base ?_)))
  case le => rw [HZ.out]; exact Nat.le_trans hB (Nat.le_trans HB1.out.size (Nat.le_trans HB2.out.size (Nat.le_succ _)))
  case len => rw [HT.out]; simp; omega
  case base => rw [HZ.out]; exact Nat.le_succ _
  intro A4 c4 w4 hown4 hg4 hat4
  have HF := hid (And.intro hown4 (And.intro hg4 hat4))
  clear hown4 hg4 hat4
  go_wp2_with fail
  go_ret2
  refine ⟨A4, _, c4, rfl, ⟨rfl, ?_⟩, ?_⟩
  · have := HF.out.1
    exact Joins.ownsRow_le this (Nat.le_trans HB1.out.size HB2.out.size)
  · have h1 : Below w2.heap.size w2 (w2.alloc (.cells #[] 5)) := (Below.refl _ _).alloc (Nat.le_refl _) _
    have h2 := h1.grown HF.out.2.1 (by rw [HZ.out]; exact Nat.le_succ _) (fun k hk => by have := HO.out.lt k hk; exact this.1)
    exact below_step (below_step HB1.out HB2.out) h2

end Go.Proofs.YtngclmjefadokaaDoor
