/-
  Bits turned within 32 in a row are seen: plain functions.
-/
import Derived.Test.YtignjgjoejimcaaDoorSeal
namespace Go.Proofs.YtignjgjoejimcaaDoor

def bitsOf (l : List UInt8) : List Bool := l.flatMap bits8
theorem bitsOf_append (l k : List UInt8) : bitsOf (l ++ k) = bitsOf l ++ bitsOf k := by simp [bitsOf]
theorem feedB_bits : ∀ (l : List UInt8) (r : BitVec 32), feedB r l = feed r (bitsOf l)
  | [], _ => rfl
  | x :: l, r => by
    have h1 : feedB r (x :: l) = feedB (feed r (bits8 x)) l := rfl
    have h2 : bitsOf (x :: l) = bits8 x ++ bitsOf l := rfl
    rw [h1, h2, feed_append, feedB_bits l]
def bitAt (l : List UInt8) (q : Nat) : Bool := (l[q / 8]?.getD 0).toNat.testBit (7 - q % 8)
theorem bitAt_old (l : List UInt8) (x : UInt8) (q : Nat) (h : q < 8 * l.length) : bitAt (l ++ [x]) q = bitAt l q := by
  unfold bitAt
  rw [List.getElem?_append_left (by omega)]
theorem bitAt_new (l : List UInt8) (x : UInt8) (k : Nat) (h : k < 8) : bitAt (l ++ [x]) (8 * l.length + k) = x.toNat.testBit (7 - k) := by
  unfold bitAt
  rw [show (8 * l.length + k) / 8 = l.length by omega, show (8 * l.length + k) % 8 = k by omega]
  simp
theorem bitsOf_at (l : List UInt8) : bitsOf l = (List.range (8 * l.length)).map (bitAt l) := by
  have h : ∀ n, ∀ l : List UInt8, l.length = n → bitsOf l = (List.range (8 * l.length)).map (bitAt l) := by
    intro n
    induction n with
    | zero => intro l hl; obtain rfl := List.eq_nil_of_length_eq_zero hl; rfl
    | succ n ih =>
      intro l hl
      obtain ⟨a, x, rfl⟩ : ∃ a x, l = a ++ [x] := ⟨_, _, (List.dropLast_concat_getLast (by intro e; subst e; simp at hl)).symm⟩
      have h1 := ih a (by simpa using hl)
      rw [bitsOf_append, h1, show 8 * (a ++ [x]).length = 8 * a.length + 8 by simp; omega, List.range_add, List.map_append, List.map_map]
      congr 1
      · apply List.map_congr_left
        intro q hq
        exact (bitAt_old a x q (by simpa using hq)).symm
      · have : bitsOf [x] = bits8 x := by simp [bitsOf]
        rw [this]
        unfold bits8
        apply List.map_congr_left
        intro k hk
        exact (bitAt_new a x k (by simpa using hk)).symm
  exact h _ l rfl

/-- the bits of a number, the top one first -/
def bits32 (c : BitVec 32) : List Bool := (List.range 32).map fun i => c.getLsbD (31 - i)
theorem pack_bits : ∀ (n : Nat) (f : Nat → Bool), n ≤ 32 → ∀ i, (pack ((List.range n).map f)).getLsbD i = (decide (i < 32) && decide (31 - i < n) && f (31 - i))
  | 0, f, _, i => by simp [pack]
  | n + 1, f, hn, i => by
    rw [List.range_succ_eq_map, List.map_cons, List.map_map, pack, BitVec.getLsbD_xor, BitVec.getLsbD_ushiftRight, pack_bits n _ (by omega)]
    by_cases h31 : i = 31
    · subst h31
      have e : (0x80000000#32).getLsbD 31 = true := by decide
      cases f 0 <;> simp
    · have e : (if f 0 = true then 0x80000000#32 else 0#32).getLsbD i = false := by
        cases f 0
        · simp
        · simp only [if_true]
          by_cases hi : i < 32
          · have : ∀ j : Fin 32, j.1 ≠ 31 → (0x80000000#32).getLsbD j.1 = false := by decide
            exact this ⟨i, hi⟩ h31
          · exact BitVec.getLsbD_of_ge _ _ (by omega)
      rw [e, Bool.false_xor]
      by_cases hi : i < 32
      · have e1 : 31 - i = 31 - (1 + i) + 1 := by omega
        rw [Function.comp_apply, show (31 - (1 + i)).succ = 31 - i by omega]
        by_cases hn2 : 31 - i < n + 1
        · simp [hi, hn2, show 1 + i < 32 by omega, show 31 - (1 + i) < n by omega]
        · simp [hn2, show ¬ 31 - (1 + i) < n by omega]
      · simp [hi, show ¬ 1 + i < 32 by omega]
theorem pack_bits32 (c : BitVec 32) : pack (bits32 c) = c := by
  apply BitVec.eq_of_getLsbD_eq
  intro i hi
  unfold bits32
  rw [pack_bits 32 _ (by decide) i, show 31 - (31 - i) = i by omega]
  simp only [hi, decide_true, Bool.true_and, show 31 - i < 32 by omega]
theorem feed_word (r c : BitVec 32) : feed r (bits32 c) = feed (r ^^^ c) (zs 32) := by
  have h := feed_xor (fun _ => false) (fun i => c.getLsbD (31 - i)) 32 (List.range 32) (by simp) (r ^^^ c) c
  have e1 : r ^^^ c ^^^ c = r := by rw [BitVec.xor_assoc, BitVec.xor_self, BitVec.xor_zero]
  have e2 : (List.range 32).map (fun q => (false ^^ c.getLsbD (31 - q))) = bits32 c := by simp [bits32]
  have e3 : (List.range 32).map (fun _ => false) = zs 32 := by rfl
  have e4 : feed c (bits32 c) = 0#32 := by
    have := feed_pack (bits32 c) (by simp [bits32])
    rwa [pack_bits32] at this
  rw [e1, e2, e3] at h
  rw [h]
  show feed (r ^^^ c) (zs 32) ^^^ feed c (bits32 c) = _
  rw [e4, BitVec.xor_zero]
theorem bits_four (k : List UInt8) (hk : k.length = 4) : bitsOf k = bits32 (BitVec.ofNat 32 (ofBe k)) := by
  match k, hk with
  | [a, b, c, d], _ =>
    have hA := a.toNat_lt
    have hB := b.toNat_lt
    have hC := c.toNat_lt
    have hD := d.toNat_lt
    have e : ofBe [a, b, c, d] = 256 * (256 * (256 * a.toNat + b.toNat) + c.toNat) + d.toNat := by simp [ofBe]
    rw [e, bitsOf_at]
    unfold bits32
    have low : ∀ x y i, y < 256 → i < 8 → (256 * x + y).testBit i = y.testBit i := fun x y i hy hi => by
      rw [show 256 = 2 ^ 8 from rfl, Nat.testBit_two_pow_mul_add x (by simpa using hy) i, if_pos hi]
    have high : ∀ x y i, y < 256 → (256 * x + y).testBit (8 + i) = x.testBit i := fun x y i hy => by
      rw [show 256 = 2 ^ 8 from rfl, Nat.testBit_two_pow_mul_add x (by simpa using hy) (8 + i), if_neg (by omega), Nat.add_sub_cancel_left]
    apply List.map_congr_left
    intro q hq
    have hq : q < 32 := by simpa using hq
    rw [BitVec.getLsbD_ofNat]
    simp only [show 31 - q < 32 by omega, decide_true, Bool.true_and]
    unfold bitAt
    rcases (by omega : q / 8 = 0 ∨ q / 8 = 1 ∨ q / 8 = 2 ∨ q / 8 = 3) with h | h | h | h
    · rw [h, show 31 - q = 8 + (8 + (8 + (7 - q % 8))) by omega, high _ _ _ hD, high _ _ _ hC, high _ _ _ hB]; simp
    · rw [h, show 31 - q = 8 + (8 + (7 - q % 8)) by omega, high _ _ _ hD, high _ _ _ hC, low _ _ _ hB (by omega)]; simp
    · rw [h, show 31 - q = 8 + (7 - q % 8) by omega, high _ _ _ hD, low _ _ _ hC (by omega)]; simp
    · rw [h, show 31 - q = 7 - q % 8 by omega, low _ _ _ hD (by omega)]; simp

/-- sealed bytes are those over which the register ends at one fixed number -/
theorem sealed_iff (l : List UInt8) (n : Nat) (h : l.length = n + 4) : l.drop n = sum4 (l.take n) ↔ feed (~~~0#32) (bitsOf l) = feed (BitVec.allOnes 32) (zs 32) := by
  have hd : (l.drop n).length = 4 := by rw [List.length_drop]; omega
  rw [four_is _ _ hd]
  have e : bitsOf l = bitsOf (l.take n) ++ bits32 (BitVec.ofNat 32 (ofBe (l.drop n))) := by
    rw [← bits_four _ hd, ← bitsOf_append, List.take_append_drop]
  have hlt : ofBe (l.drop n) < 2 ^ 32 := by have := ofBe_lt (l.drop n); rw [hd] at this; simpa using this
  rw [e, feed_append, feed_word, ← feedB_bits]
  obtain ⟨c, hc⟩ : ∃ c, c = BitVec.ofNat 32 (ofBe (l.drop n)) := ⟨_, rfl⟩
  have hcn : c.toNat = ofBe (l.drop n) := by rw [hc, BitVec.toNat_ofNat, Nat.mod_eq_of_lt hlt]
  rw [← hc, ← hcn]
  unfold more
  obtain ⟨R, hR⟩ : ∃ R, R = feedB (~~~0#32) (l.take n) := ⟨_, rfl⟩
  rw [← hR]
  constructor
  · intro h1
    have h2 : c = ~~~R := BitVec.eq_of_toNat_eq h1
    rw [h2]
    congr 1
    rw [← BitVec.allOnes_xor, BitVec.xor_comm (BitVec.allOnes 32), ← BitVec.xor_assoc, BitVec.xor_self, BitVec.zero_xor]
  · intro h1
    have h2 := feed_inj h1
    have h3 : c = ~~~R := by
      rw [← BitVec.xor_allOnes, ← h2, ← BitVec.xor_assoc, BitVec.xor_self, BitVec.zero_xor]
    rw [h3]

/-- which bits are turned -/
def err (from_ I : Nat) (B : BitVec 32) (q : Nat) : Bool := decide (from_ ≤ q ∧ q < from_ + I) && B.getLsbD (31 - (q - from_))
theorem err_list (F I N : Nat) (B : BitVec 32) (h : F + I ≤ N) : (List.range N).map (err F I B) = List.replicate F false ++ (List.range I).map (fun j => B.getLsbD (31 - j)) ++ List.replicate (N - F - I) false := by
  apply List.ext_getElem?
  intro q
  simp only [List.getElem?_map, List.getElem?_append, List.length_append, List.length_replicate, List.length_map, List.length_range, List.getElem?_replicate]
  by_cases hq : q < N
  · rw [List.getElem?_range hq, Option.map_some]
    by_cases h1 : q < F + I
    · rw [if_pos h1]
      by_cases h2 : q < F
      · rw [if_pos h2, if_pos h2]; unfold err; simp; omega
      · rw [if_neg h2, List.getElem?_range (by omega), Option.map_some]
        unfold err
        simp [h1, show F ≤ q by omega]
    · rw [if_neg h1, if_pos (by omega)]
      unfold err
      simp; omega
  · rw [List.getElem?_eq_none (by simp; omega), if_neg (by omega), if_neg (by omega)]
    rfl
theorem seen (l k : List UInt8) (n F I : Nat) (B : BitVec 32) (hl : l.length = n + 4) (hk : k.length = n + 4) (hI : I ≤ 32) (hF : F + I ≤ 8 * (n + 4))
    (hd : ∀ q, q < 8 * (n + 4) → bitAt k q = (bitAt l q ^^ err F I B q)) (hs : l.drop n = sum4 (l.take n)) (ht : ∃ j, j < I ∧ B.getLsbD (31 - j) = true) : k.drop n ≠ sum4 (k.take n) := by
  rw [sealed_iff l n hl] at hs
  rw [Ne, sealed_iff k n hk]
  intro hv
  have e : bitsOf k = (List.range (8 * (n + 4))).map (fun q => (bitAt l q ^^ err F I B q)) := by
    rw [bitsOf_at, hk]
    apply List.map_congr_left
    intro q hq
    exact hd q (by simpa using hq)
  have h := feed_xor (bitAt l) (err F I B) _ (List.range (8 * (n + 4))) rfl (~~~0#32) 0#32
  rw [BitVec.xor_zero, ← e, hv, ← hl, ← bitsOf_at, hs, hl] at h
  have h0 : feed 0#32 ((List.range (8 * (n + 4))).map (err F I B)) = 0#32 := by
    have := congrArg (fun x => feed (BitVec.allOnes 32) (zs 32) ^^^ x) h
    simp only [BitVec.xor_self, ← BitVec.xor_assoc, BitVec.zero_xor] at this
    exact this.symm
  rw [err_list F I _ B hF] at h0
  obtain ⟨j, hj, hb⟩ := ht
  have := burst _ _ _ (by simpa using hI) h0 (B.getLsbD (31 - j)) (List.mem_map.2 ⟨j, by simpa using hj, rfl⟩)
  rw [hb] at this
  cases this

/-- one bit turned -/
theorem bitAt_flip (l : List UInt8) (k : Nat) (x y : UInt8) (hk : l[k / 8]? = some x) (hy : y.toNat = x.toNat ^^^ 128 >>> (k % 8)) (q : Nat) : bitAt (l.set (k / 8) y) q = (bitAt l q ^^ decide (q = k)) := by
  have hlt := (List.getElem?_eq_some_iff.1 hk).1
  unfold bitAt
  by_cases h : k / 8 = q / 8
  · rw [← h, List.getElem?_set_self hlt, hk]
    simp only [Option.getD_some]
    rw [hy, Nat.testBit_xor]
    congr 1
    have e : 128 >>> (k % 8) = 2 ^ (7 - k % 8) := by
      have : ∀ m : Fin 8, 128 >>> m.1 = 2 ^ (7 - m.1) := by decide
      exact this ⟨k % 8, by omega⟩
    rw [e, Nat.testBit_two_pow]
    simp only [decide_eq_decide]
    omega
  · rw [List.getElem?_set_ne h]
    have : q ≠ k := by intro e; subst e; exact h rfl
    simp [this]
theorem err_next (F I : Nat) (B : BitVec 32) (q : Nat) : err F (I + 1) B q = (err F I B q ^^ (decide (q = F + I) && B.getLsbD (31 - I))) := by
  unfold err
  by_cases h1 : q = F + I
  · subst h1
    simp
  · by_cases h2 : F ≤ q ∧ q < F + I
    · simp [h1, h2, show q < F + (I + 1) by omega]
    · simp [h1, h2, show ¬ (F ≤ q ∧ q < F + (I + 1)) by omega]

end Go.Proofs.YtignjgjoejimcaaDoor
