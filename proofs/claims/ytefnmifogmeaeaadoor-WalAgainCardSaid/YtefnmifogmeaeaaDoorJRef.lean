/-
  A field, and what stands first as one: plain functions. The document's step of a register, by its contract. The document's step and sum, by their contracts. The document's sealing and opening, by their contracts. The document's opening, by its contract. string([]byte{x}). The document's numbers in n bytes, by their contracts. The document's reading of a varint, by its contract. The document's Num: by its contract. The document's Take: by its contract. The document's varint, by its contract. The document's Text: by its contract.
-/
import Derived.Test.YtefnmifogmeaeaaDoorJCode
import Derived.Test.YtefnmifogmeaeaaDoorJSum
import Derived.Test.YtefnmifogmeaeaaDoorJBytes
import Derived.Deep.DeepFit
import Derived.Test.YtefnmifogmeaeaaDoorJNum
import Derived.Test.YtefnmifogmeaeaaDoorJVars
import Derived.BigQuiet
import Derived.Deep.QuietTactic
namespace Go.Proofs.YtefnmifogmeaeaaDoor
open Go Go.RowKit

/-- a field: its kind, its number, its text, its flag, the most -/
structure Fd where
  k : Int
  v : Nat
  s : List UInt8
  y : Bool
  m : Int
def Fd.val (f : Fd) : Value := .agg #[.int .i64 f.k, .int .u64 (f.v : Int), .string (bst f.s), .bool f.y, .int .i64 f.m]

/-- a field of a kind that stands first: it, what is left, what is wrong -/
def tk (k : Nat) (most : Int) (l : List UInt8) : Fd × List UInt8 × Nat :=
  if k = 0 then (⟨0, (rnum l).1, [], false, 0⟩, (rnum l).2)
  else if k = 1 then (⟨1, 0, (rtext l).1, false, 0⟩, (rtext l).2)
  else if k = 2 then (⟨2, 0, [], (rflag l).1, 0⟩, (rflag l).2)
  else (⟨3, (rcount most l).1, [], false, 0⟩, (rcount most l).2)
def zeroFd (k : Nat) : Fd := ⟨k, 0, [], false, 0⟩

theorem five {w : World} {b : Nat} {t : TypeId} {a0 a1 a2 a3 a4 : Value} (h : Blk w b t #[a0, a1, a2, a3, a4]) :
    w.cell? ⟨b, 0, none⟩ = some a0 ∧ w.cell? ⟨b, 1, none⟩ = some a1 ∧ w.cell? ⟨b, 2, none⟩ = some a2 ∧ w.cell? ⟨b, 3, none⟩ = some a3 ∧ w.cell? ⟨b, 4, none⟩ = some a4 ∧
      w.frozen? ⟨b, 0, none⟩ = false ∧ w.frozen? ⟨b, 1, none⟩ = false ∧ w.frozen? ⟨b, 2, none⟩ = false ∧ w.frozen? ⟨b, 3, none⟩ = false ∧ w.frozen? ⟨b, 4, none⟩ = false :=
  ⟨h.cell 0, h.cell 1, h.cell 2, h.cell 3, h.cell 4, h.free 0, h.free 1, h.free 2, h.free 3, h.free 4⟩

/-- a field's bytes -/
def enc (f : Fd) : List UInt8 := if f.k = 1 then vbytes f.s.length ++ f.s else if f.k = 2 then [if f.y then 1 else 0] else vbytes f.v
theorem enc_num {f : Fd} (h1 : f.k ≠ 1) (h2 : f.k ≠ 2) : enc f = vbytes f.v := by unfold enc; rw [if_neg h1, if_neg h2]
theorem enc_text {f : Fd} (h1 : f.k = 1) : enc f = vbytes f.s.length ++ f.s := by unfold enc; rw [if_pos h1]
theorem enc_flag {f : Fd} (h2 : f.k = 2) : enc f = [if f.y then 1 else 0] := by unfold enc; rw [if_neg (by omega), if_pos h2]
theorem enc_len (f : Fd) : (enc f).length ≤ 20 + f.s.length := by
  unfold enc
  split
  · rw [List.length_append, vbytes_length]; have := vlen_le f.s.length; omega
  · split
    · simp; omega
    · rw [vbytes_length]; have := vlen_le f.v; omega

end Go.Proofs.YtefnmifogmeaeaaDoor

namespace Go.Proofs.YtefnmifogmeaeaaDoor
open Go Go.RowKit

theorem xor_mod (a b k : Nat) : (a ^^^ b) % 2 ^ (k + 1) = (a ^^^ b) % 2 ^ k + (if a / 2 ^ k % 2 = b / 2 ^ k % 2 then 0 else 2 ^ k) := by
  have e : (a ^^^ b) / 2 ^ k % 2 = if a / 2 ^ k % 2 = b / 2 ^ k % 2 then 0 else 1 := by
    rw [Nat.xor_div_two_pow]
    have h1 := Nat.mod_two_eq_zero_or_one (a / 2 ^ k)
    have h2 := Nat.mod_two_eq_zero_or_one (b / 2 ^ k)
    have h3 := Nat.xor_mod_two_pow (a := a / 2 ^ k) (b := b / 2 ^ k) (n := 1)
    rw [Nat.pow_one] at h3
    rw [h3]
    rcases h1 with h1 | h1 <;> rcases h2 with h2 | h2 <;> rw [h1, h2] <;> rfl
  rw [Nat.mod_pow_succ, e]
  congr 1
  split <;> simp

end Go.Proofs.YtefnmifogmeaeaaDoor

namespace Go.Proofs.YtefnmifogmeaeaaDoor
open Go Go.RowKit

/-- a bit as a number -/
def bitI (b : Bool) : Int := if b then 1 else 0
theorem v32_top (r : BitVec 32) : v32 r / (2147483648 : Int) = bitI r.msb := by
  have h := v32_msb r
  have h0 := v32_lo r
  have h1 := v32_hi r
  unfold bitI
  by_cases hm : r.msb = true
  · rw [hm] at h ⊢
    simpa using h
  · have hm' : r.msb = false := by simpa using hm
    rw [hm'] at h ⊢
    simp at h
    simp
    omega
theorem v32_dbl (r : BitVec 32) : (2 : Int) * v32 r % (4294967296 : Int) = v32 (r <<< 1) := by
  rw [← v32_shl, Int.pow_one, Int.mul_comm]

theorem bits8_take (x : UInt8) (k : Nat) (hk : k < 8) : (bits8 x).take (k + 1) = (bits8 x).take k ++ [x.toNat.testBit (7 - k)] := by
  rw [List.take_succ_eq_append_getElem (by simpa [bits8] using hk)]
  simp [bits8]
theorem bit_at (x : Nat) (k : Nat) (hk : k < 8) : ((x / (128 / 2 ^ k) % 2 : Nat) : Int) = bitI (x.testBit (7 - k)) := by
  have e : 128 / 2 ^ k = 2 ^ (7 - k) := by
    rw [show 128 = 2 ^ 7 from rfl, Nat.pow_div (by omega) (by decide)]
  rw [e, Nat.testBit_eq_decide_div_mod_eq]
  unfold bitI
  have h := Nat.mod_two_eq_zero_or_one (x / 2 ^ (7 - k))
  rcases h with h | h <;> rw [h] <;> rfl

theorem bit_walk (x p : Nat) (hx : x < 256) : (IntKind.u64.wrap ((x : Int) / (p : Int))).tmod 2 = ((x / p % 2 : Nat) : Int) := by
  have h : x / p ≤ x := Nat.div_le_self _ _
  rw [← Int.natCast_ediv]
  obtain ⟨q, hq⟩ : ∃ q, q = x / p := ⟨_, rfl⟩
  rw [← hq] at h ⊢
  rw [IntKind.wrap_u64, Int.emod_eq_of_lt (by omega) (by omega), Int.tmod_eq_emod_of_nonneg (by omega)]
  omega

end Go.Proofs.YtefnmifogmeaeaaDoor

namespace Go.Proofs.YtefnmifogmeaeaaDoor
open Go Go.RowKit

theorem sum4_cells (l : List UInt8) (v : Int) (hv : v = v32 (more 0#32 l)) :
    #[Value.int .u8 (v / (16777216 : Int)), .int .u8 (v / (65536 : Int) % (256 : Int)), .int .u8 (v / (256 : Int) % (256 : Int)), .int .u8 (v % (256 : Int))] = (bs (sum4 l)).toArray := by
  have h := (more 0#32 l).isLt
  have e : v = ((more 0#32 l).toNat : Int) := hv
  obtain ⟨n, hn⟩ : ∃ n, n = (more 0#32 l).toNat := ⟨_, rfl⟩
  rw [← hn] at e h
  have e4 : sum4 l = [UInt8.ofNat (n / 256 ^ 3), UInt8.ofNat (n / 256 ^ 2), UInt8.ofNat (n / 256 ^ 1), UInt8.ofNat (n / 256 ^ 0)] := by
    unfold sum4
    rw [← hn]
    rfl
  rw [e4, e]
  simp only [bs, List.map_cons, List.map_nil, UInt8.toNat_ofNat']
  congr 1
  simp only [List.cons.injEq, Value.int.injEq, true_and, and_true]
  omega

theorem sum4_conv (l : List UInt8) (v : Int) (hv : v = v32 (more 0#32 l)) (W : World) :
    (convert 53 9 (.slice (some ⟨W.heap.size, 0, none⟩) 4 4)).run Tryd.prog
      (W.alloc (.cells #[Value.int .u8 (v / (16777216 : Int)), .int .u8 (v / (65536 : Int) % (256 : Int)), .int .u8 (v / (256 : Int) % (256 : Int)), .int .u8 (v % (256 : Int))] 5)) =
    .ok (.string (bst (sum4 l))) (W.alloc (.cells #[Value.int .u8 (v / (16777216 : Int)), .int .u8 (v / (65536 : Int) % (256 : Int)), .int .u8 (v / (256 : Int) % (256 : Int)), .int .u8 (v % (256 : Int))] 5)) := by
  rw [sum4_cells l v hv]
  exact str_of (At.lits W (sum4 l) 5 rfl) (sum4_length l).symm

end Go.Proofs.YtefnmifogmeaeaaDoor

namespace Go.Proofs.YtefnmifogmeaeaaDoor
open Go Go.RowKit

theorem bst_inj {a b : List UInt8} (h : bst a = bst b) : a = b := by
  have := congrArg (fun s => s.data.toList) h
  simpa [bst] using this
theorem bst_take2 (l : List UInt8) (n : Nat) : (bst l).extract 0 n = bst (l.take n) := by
  apply ByteArray.ext
  simp [bst]

end Go.Proofs.YtefnmifogmeaeaaDoor

namespace Go.Proofs.YtefnmifogmeaeaaDoor
open Go Go.RowKit

theorem conv_one (x : UInt8) (W : World) :
    (convert 53 9 (.slice (some ⟨W.heap.size, 0, none⟩) 1 1)).run Tryd.prog (W.alloc (.cells #[.int .u8 (x.toNat : Int)] 5)) = .ok (.string (bst [x])) (W.alloc (.cells #[.int .u8 (x.toNat : Int)] 5)) := by
  refine run_convert_bytes_back _ _ _ _ ⟨W.heap.size, 0, none⟩ 1 [x] Tryd.underlying53 Tryd.underlying5 Tryd.underlying9 ?_
  intro j hj
  obtain rfl : j = 0 := by simp at hj; omega
  have e1 : (⟨W.heap.size, 0, none⟩ : Addr).add 0 = ⟨W.heap.size, 0, none⟩ := by unfold Addr.add; simp
  rw [e1]
  exact cell_of_one (heap_alloc_new W _)

theorem conv_num (n : Int) (x : UInt8) (h : n = (x.toNat : Int)) (W : World) :
    (convert 53 9 (.slice (some ⟨W.heap.size, 0, none⟩) 1 1)).run Tryd.prog (W.alloc (.cells #[.int .u8 n] 5)) = .ok (.string (bst [x])) (W.alloc (.cells #[.int .u8 n] 5)) := by
  subst h
  exact conv_one x W

end Go.Proofs.YtefnmifogmeaeaaDoor

namespace Go.Proofs.YtefnmifogmeaeaaDoor
open Go Go.RowKit

theorem mul_add_wrap (q : Nat) (x : UInt8) (h : q < 72057594037927936) : IntKind.u64.wrap (IntKind.u64.wrap (256 * (q : Int)) + IntKind.u64.wrap (x.toNat : Int)) = ((256 * q + x.toNat : Nat) : Int) := by
  have := x.toNat_lt
  rw [IntKind.wrap_u64, IntKind.wrap_u64, IntKind.wrap_u64]; omega

end Go.Proofs.YtefnmifogmeaeaaDoor

namespace Go.Proofs.YtefnmifogmeaeaaDoor
open Go Go.RowKit

theorem sum_wrap {q k p : Nat} {x : UInt8} (hp : p = 128 ^ k) (hq : q < 128 ^ k) (hk : k ≤ 8 ∨ k ≤ 9 ∧ x.toNat ≤ 1) :
    IntKind.u64.wrap ((q : Int) + IntKind.u64.wrap ((x.toNat : Int) % 128 * (p : Int))) = ((q + x.toNat % 128 * 128 ^ k : Nat) : Int) := by
  rw [← hp] at hq ⊢
  have hm : x.toNat % 128 * p ≤ 9223372036854775808 := by
    rcases hk with h | ⟨h, h1⟩
    · have h8 : p ≤ 128 ^ 8 := by rw [hp]; exact Nat.pow_le_pow_right (by decide) h
      have : x.toNat % 128 * p ≤ 127 * 128 ^ 8 := Nat.mul_le_mul (by omega) h8
      omega
    · have h8 : p ≤ 128 ^ 9 := by rw [hp]; exact Nat.pow_le_pow_right (by decide) h
      have : x.toNat % 128 * p ≤ 1 * 128 ^ 9 := Nat.mul_le_mul (by omega) h8
      omega
  have h9 : p ≤ 9223372036854775808 := by
    have : p ≤ 128 ^ 9 := by rw [hp]; exact Nat.pow_le_pow_right (by decide) (by omega)
    omega
  have e : (x.toNat : Int) % 128 * (p : Int) = ((x.toNat % 128 * p : Nat) : Int) := by simp
  rw [e, IntKind.wrap_u64, IntKind.wrap_u64]
  omega
theorem power_wrap {k p : Nat} (hp : p = 128 ^ k) (hk : k ≤ 8) : IntKind.u64.wrap ((p : Int) * 128) = ((128 ^ (k + 1) : Nat) : Int) := by
  have h8 : p ≤ 128 ^ 8 := by rw [hp]; exact Nat.pow_le_pow_right (by decide) hk
  rw [Nat.pow_succ, ← hp, IntKind.wrap_u64]
  omega
theorem ret3i {a b c d : Int} {e : Value} (h : a = b) (h2 : c = d) : Ending.returned (.tuple #[.int .u64 a, .int .i64 c, e]) = Ending.returned (.tuple #[.int .u64 b, .int .i64 d, e]) := by rw [h, h2]

end Go.Proofs.YtefnmifogmeaeaaDoor

namespace Go.Proofs.YtefnmifogmeaeaaDoor
open Go Go.RowKit

end Go.Proofs.YtefnmifogmeaeaaDoor

namespace Go.Proofs.YtefnmifogmeaeaaDoor
open Go Go.RowKit

theorem two_below {w w2 : World} {c0 c1 : Array Value} {t : TypeId} (h : Below ((w.alloc (.cells c0 t)).alloc (.cells c1 t)).heap.size ((w.alloc (.cells c0 t)).alloc (.cells c1 t)) w2) : Blk w2 w.heap.size t c0 ∧ Blk w2 (w.heap.size + 1) t c1 := by
  refine ⟨Blk.below (Blk.alloc (Blk.new w _ _) _) h (by simp; omega), ?_⟩
  have h1 := Blk.new (w.alloc (.cells c0 t)) t c1
  rw [show (w.alloc (.cells c0 t)).heap.size = w.heap.size + 1 by simp] at h1
  exact Blk.below h1 h (by simp)

theorem bst_ne (x : UInt8) (l : List UInt8) : (bst (x :: l)).toList ≠ [] := by rw [bst_toList]; simp

/-- the document's Take, but for flags: what comes of the number that stands first -/
def TookRef (k : Nat) (most : Int) (l : List UInt8) (w : World) (e : Ending) (w' : World) : Prop :=
  e = .returned (.tuple #[(tk k most l).1.val, .string (bst (tk k most l).2.1), .int .i64 ((tk k most l).2.2 : Int)]) ∧ Below w.heap.size w w'

end Go.Proofs.YtefnmifogmeaeaaDoor

namespace Go.Proofs.YtefnmifogmeaeaaDoor
open Go Go.RowKit

theorem vbytes_prefix (v k : Nat) (h : k < vlen v) : (vbytes v).take (k + 1) = (vbytes v).take k ++ [vbyte v k] := vbytes_take v k h

end Go.Proofs.YtefnmifogmeaeaaDoor

namespace Go.Proofs.YtefnmifogmeaeaaDoor
open Go Go.RowKit

end Go.Proofs.YtefnmifogmeaeaaDoor
