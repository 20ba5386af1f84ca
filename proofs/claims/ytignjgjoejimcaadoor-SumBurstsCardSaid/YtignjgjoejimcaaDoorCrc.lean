/-
  The register of the sum, bit by bit: its algebra. No function of the program is named here.
-/
import Derived.Test.YtignjgjoejimcaaDoorBase
namespace Go.Proofs.YtignjgjoejimcaaDoor

/-- one bit more -/
def poly : BitVec 32 := 0x04c11db7#32
def rstep (r : BitVec 32) (b : Bool) : BitVec 32 := (r <<< 1) ^^^ (if (r.msb ^^ b) = true then poly else 0#32)
def feed (r : BitVec 32) (l : List Bool) : BitVec 32 := l.foldl rstep r
theorem feed_cons (r : BitVec 32) (b : Bool) (l : List Bool) : feed r (b :: l) = feed (rstep r b) l := rfl
theorem feed_nil (r : BitVec 32) : feed r [] = r := rfl
theorem feed_append (r : BitVec 32) (l k : List Bool) : feed r (l ++ k) = feed (feed r l) k := by simp [feed]

theorem xor_swap (a b c d : BitVec 32) : (a ^^^ b) ^^^ (c ^^^ d) = (a ^^^ c) ^^^ (b ^^^ d) := by
  rw [BitVec.xor_assoc, BitVec.xor_assoc, ← BitVec.xor_assoc b c d, BitVec.xor_comm b c, BitVec.xor_assoc c b d]
theorem xor_if (p q : Bool) : (if (p ^^ q) = true then poly else 0#32) = (if p = true then poly else 0#32) ^^^ (if q = true then poly else 0#32) := by
  cases p <;> cases q <;> simp
theorem rstep_xor (r s : BitVec 32) (b c : Bool) : rstep (r ^^^ s) (b ^^ c) = rstep r b ^^^ rstep s c := by
  unfold rstep
  have e : ((r ^^^ s).msb ^^ (b ^^ c)) = ((r.msb ^^ b) ^^ (s.msb ^^ c)) := by
    rw [BitVec.msb_xor]; cases r.msb <;> cases s.msb <;> cases b <;> cases c <;> rfl
  rw [e, xor_if, BitVec.shiftLeft_xor_distrib, xor_swap]

/-- feeding is the same of differences -/
theorem feed_xor (f g : Nat → Bool) : ∀ (n : Nat) (l : List Nat), l.length = n → ∀ (r s : BitVec 32), feed (r ^^^ s) (l.map fun q => (f q ^^ g q)) = feed r (l.map f) ^^^ feed s (l.map g) := by
  intro n
  induction n with
  | zero => intro l hl r s; obtain rfl := List.eq_nil_of_length_eq_zero hl; rfl
  | succ n ih =>
    intro l hl r s
    match l, hl with
    | q :: t, hl =>
      simp only [List.map_cons, feed_cons, rstep_xor]
      exact ih t (by simpa using hl) _ _

theorem rstep_low (r : BitVec 32) (b : Bool) : (rstep r b).getLsbD 0 = (r.msb ^^ b) := by
  unfold rstep
  cases r.msb <;> cases b <;> simp [poly]
theorem shl_inj {r s : BitVec 32} (h : r <<< 1 = s <<< 1) (hm : r.msb = s.msb) : r = s := by
  apply BitVec.eq_of_getLsbD_eq
  intro i hi
  by_cases h31 : i = 31
  · subst h31
    simpa [BitVec.msb_eq_getLsbD_last] using hm
  · have := congrArg (fun x => x.getLsbD (i + 1)) h
    simp only [BitVec.getLsbD_shiftLeft] at this
    simpa [show i + 1 < 32 by omega] using this
theorem rstep_inj {r s : BitVec 32} {b : Bool} (h : rstep r b = rstep s b) : r = s := by
  have hl := congrArg (fun x => x.getLsbD 0) h
  simp only [rstep_low] at hl
  have hm : r.msb = s.msb := by revert hl; cases r.msb <;> cases s.msb <;> cases b <;> simp
  refine shl_inj ?_ hm
  unfold rstep at h
  rw [hm] at h
  have := congrArg (fun x => x ^^^ (if (s.msb ^^ b) = true then poly else 0#32)) h
  simpa [BitVec.xor_assoc] using this
theorem feed_inj : ∀ {l : List Bool} {r s : BitVec 32}, feed r l = feed s l → r = s
  | [], _, _, h => h
  | _ :: t, _, _, h => rstep_inj (feed_inj (l := t) h)

theorem feed_zeros : ∀ (n : Nat), feed 0#32 (List.replicate n false) = 0#32
  | 0 => rfl
  | n + 1 => by
    rw [List.replicate_succ, feed_cons]
    exact feed_zeros n

/-- bits at the top of a register, the first one topmost -/
def pack : List Bool → BitVec 32
  | [] => 0#32
  | b :: t => (if b = true then 0x80000000#32 else 0#32) ^^^ (pack t >>> 1)
theorem pack_low : ∀ (l : List Bool) (i : Nat), i + l.length < 32 → (pack l).getLsbD i = false
  | [], i, _ => by simp [pack]
  | b :: t, i, h => by
    have := pack_low t (1 + i) (by simp at h; omega)
    rw [pack, BitVec.getLsbD_xor, BitVec.getLsbD_ushiftRight, this]
    have h31 : i < 31 := by simp at h; omega
    cases b
    · simp
    · simp only [if_true]
      have e : (0x80000000#32).getLsbD i = false := by
        have : ∀ j : Fin 31, (0x80000000#32).getLsbD j.1 = false := by decide
        exact this ⟨i, h31⟩
      rw [e]; rfl
theorem pack_top (b : Bool) (t : List Bool) : (pack (b :: t)).msb = b := by
  rw [pack, BitVec.msb_xor, BitVec.msb_ushiftRight]
  cases b <;> simp <;> decide
theorem pack_shl (b : Bool) (t : List Bool) (h : t.length ≤ 31) : pack (b :: t) <<< 1 = pack t := by
  apply BitVec.eq_of_getLsbD_eq
  intro i hi
  rw [BitVec.getLsbD_shiftLeft]
  by_cases h0 : i = 0
  · subst h0
    simp
    rw [← BitVec.getLsbD_eq_getElem]
    exact pack_low t 0 (by omega)
  · rw [pack, BitVec.getLsbD_xor, BitVec.getLsbD_ushiftRight]
    have e : (if b = true then 0x80000000#32 else 0#32).getLsbD (i - 1) = false := by
      have : ∀ j : Fin 31, (0x80000000#32).getLsbD j.1 = false := by decide
      cases b
      · simp
      · exact this ⟨i - 1, by omega⟩
    rw [e, show 1 + (i - 1) = i by omega]
    simp [hi, h0]
theorem feed_pack : ∀ (l : List Bool), l.length ≤ 32 → feed (pack l) l = 0#32
  | [], _ => rfl
  | b :: t, h => by
    rw [feed_cons]
    have e : rstep (pack (b :: t)) b = pack t := by
      unfold rstep
      rw [pack_top, pack_shl b t (by simpa using h)]
      simp
    rw [e]
    exact feed_pack t (by simp at h; omega)
theorem pack_zero : ∀ (l : List Bool), l.length ≤ 32 → pack l = 0#32 → ∀ b ∈ l, b = false
  | [], _, _ => by simp
  | b :: t, h, e => by
    have h1 : b = false := by rw [← pack_top b t, e]; rfl
    have h2 : pack t = 0#32 := by rw [← pack_shl b t (by simpa using h), e]; rfl
    intro c hc
    rcases List.mem_cons.1 hc with rfl | hc
    · exact h1
    · exact pack_zero t (by simp at h; omega) h2 c hc
/-- bits turned within 32 in a row, one at least -/
theorem burst (k m : Nat) (e : List Bool) (he : e.length ≤ 32) (h : feed 0#32 (List.replicate k false ++ e ++ List.replicate m false) = 0#32) : ∀ b ∈ e, b = false := by
  rw [feed_append, feed_append, feed_zeros] at h
  have h1 : feed 0#32 e = 0#32 := feed_inj (h.trans (feed_zeros m).symm)
  exact pack_zero e he (feed_inj ((feed_pack e he).trans h1.symm))

/-- where the bits fed are the register's own top ones it is shifted alone -/
theorem feed_match : ∀ (l : List Bool) (r : BitVec 32), l.length ≤ 32 → (∀ i b, l[i]? = some b → r.getLsbD (31 - i) = b) → feed r l = r <<< l.length
  | [], r, _, _ => by simp [feed]
  | b :: t, r, hl, h => by
    have h0 : r.msb = b := by rw [BitVec.msb_eq_getLsbD_last]; exact h 0 b rfl
    have e : rstep r b = r <<< 1 := by unfold rstep; rw [h0]; simp
    rw [feed_cons, e, feed_match t (r <<< 1) (by simp at hl; omega) ?_, ← BitVec.shiftLeft_add]
    · rw [show 1 + t.length = (b :: t).length by simp; omega]
    · intro i c hc
      have hi := (List.getElem?_eq_some_iff.1 hc).1
      simp at hl
      have := h (i + 1) c (by simpa using hc)
      rw [BitVec.getLsbD_shiftLeft]
      simpa [show 31 - i - 1 = 31 - (i + 1) by omega, show ¬ (31 - i < 1) by omega, show 31 - i < 32 by omega] using this

/-- four bits of a number, the top one first -/
def bits4 (c : BitVec 32) : List Bool := [c.getLsbD 3, c.getLsbD 2, c.getLsbD 1, c.getLsbD 0]
/-- what the table holds -/
def tab (c : BitVec 32) : BitVec 32 := feed (c <<< 28) [false, false, false, false]
theorem nib (r c : BitVec 32) (hc : c.toNat < 16) : feed r (bits4 c) = (r <<< 4) ^^^ tab ((r >>> 28) ^^^ c) := by
  have hz : ∀ i, 4 ≤ i → c.getLsbD i = false := fun i hi => by
    rw [BitVec.getLsbD, Nat.testBit_lt_two_pow (Nat.lt_of_lt_of_le hc (Nat.pow_le_pow_right (by decide) hi : 2 ^ 4 ≤ 2 ^ i))]
  have e : r = (((r >>> 28) ^^^ c) <<< 28) ^^^ (r ^^^ (((r >>> 28) ^^^ c) <<< 28)) := by
    rw [BitVec.xor_comm r, ← BitVec.xor_assoc, BitVec.xor_self, BitVec.zero_xor]
  have l : ∀ a b : BitVec 32, feed (a ^^^ b) (bits4 c) = feed a [false, false, false, false] ^^^ feed b (bits4 c) := fun a b => by
    have := feed_xor (fun _ => false) (fun q => (bits4 c)[q]?.getD false) 4 [0, 1, 2, 3] rfl a b
    simpa [bits4] using this
  have m : feed (r ^^^ (((r >>> 28) ^^^ c) <<< 28)) (bits4 c) = r <<< 4 := by
    rw [feed_match _ _ (by simp [bits4]) ?_]
    · rw [show (bits4 c).length = 4 from rfl, BitVec.shiftLeft_xor_distrib, ← BitVec.shiftLeft_add]
      simp
    · intro i b hb
      have hi : i < 4 := (List.getElem?_eq_some_iff.1 hb).1
      have d : r.getLsbD (31 - i) = (r >>> 28).getLsbD (3 - i) := by
        rw [BitVec.getLsbD_ushiftRight, show 28 + (3 - i) = 31 - i by omega]
      have d2 : (r ^^^ (((r >>> 28) ^^^ c) <<< 28)).getLsbD (31 - i) = c.getLsbD (3 - i) := by
        rw [BitVec.getLsbD_xor, BitVec.getLsbD_shiftLeft, BitVec.getLsbD_xor, show 31 - i - 28 = 3 - i by omega, d]
        simp [show 31 - i < 32 by omega, show ¬ (31 - i < 28) by omega]
      rw [d2]
      match i, hi, hb with
      | 0, _, hb => simpa [bits4] using hb
      | 1, _, hb => simpa [bits4] using hb
      | 2, _, hb => simpa [bits4] using hb
      | 3, _, hb => simpa [bits4] using hb
  have := l (((r >>> 28) ^^^ c) <<< 28) (r ^^^ (((r >>> 28) ^^^ c) <<< 28))
  rw [← e, m] at this
  rw [this, BitVec.xor_comm]
  rfl

/-- a byte's bits, the top one first -/
def bits8 (x : UInt8) : List Bool := (List.range 8).map fun k => x.toNat.testBit (7 - k)
def feedB (r : BitVec 32) (l : List UInt8) : BitVec 32 := l.foldl (fun r x => feed r (bits8 x)) r
theorem feedB_snoc (r : BitVec 32) (l : List UInt8) (x : UInt8) : feedB r (l ++ [x]) = feed (feedB r l) (bits8 x) := by simp [feedB]
theorem feedB_append (r : BitVec 32) (l k : List UInt8) : feedB r (l ++ k) = feedB (feedB r l) k := by simp [feedB]
/-- the sum of bytes behind some whose sum is told -/
def more (s : BitVec 32) (l : List UInt8) : BitVec 32 := ~~~(feedB (~~~s) l)
theorem more_append (s : BitVec 32) (l k : List UInt8) : more s (l ++ k) = more (more s l) k := by
  simp [more, feedB_append]
theorem high (x : UInt8) : ((BitVec.ofNat 32 x.toNat) >>> 4).toNat < 16 := by
  have := x.toNat_lt
  simp [Nat.shiftRight_eq_div_pow]; omega
theorem low (x : UInt8) : ((BitVec.ofNat 32 x.toNat) &&& 15#32).toNat < 16 := by
  rw [BitVec.toNat_and]
  exact Nat.lt_of_le_of_lt Nat.and_le_right (by decide)
theorem bits8_two (x : UInt8) : bits8 x = bits4 ((BitVec.ofNat 32 x.toNat) >>> 4) ++ bits4 ((BitVec.ofNat 32 x.toNat) &&& 15#32) := by
  have hb : ∀ i (h : i < 32), (BitVec.ofNat 32 x.toNat)[i]'h = x.toNat.testBit i := fun i h => by
    rw [← BitVec.getLsbD_eq_getElem, BitVec.getLsbD_ofNat]; simp [h]
  simp [bits8, bits4, List.range_succ, hb]
theorem byte_two (r : BitVec 32) (x : UInt8) : feed r (bits8 x) = feed (feed r (bits4 ((BitVec.ofNat 32 x.toNat) >>> 4))) (bits4 ((BitVec.ofNat 32 x.toNat) &&& 15#32)) := by
  rw [bits8_two, feed_append]

end Go.Proofs.YtignjgjoejimcaaDoor
