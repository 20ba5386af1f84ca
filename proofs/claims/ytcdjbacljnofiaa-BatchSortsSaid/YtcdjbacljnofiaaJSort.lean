/-
  The library's stable sort as plain functions of an array, step for step. What the walks of the library's stable sort want of a program: so the program is a letter there, and a write's number of cells too. The library's swapRangeCmpFunc, over any program that has it. The library's rotateCmpFunc, over any program that has it. The library's symMergeCmpFunc, over any program that has it. The library's symMergeCmpFunc, the right row of one. The library's symMergeCmpFunc, rows of more; and the whole. The library's insertionSortCmpFunc, over any program that has it: the library's own theorem, laid here.
-/
import Derived.Shelf.SlSortCmp.KitK
import Derived.Test.YtcdjbacljnofiaaProg
import Derived.Sort.WalkB2
import Derived.Sort.WalkB12
import Derived.Deep.LoopGhost
import Derived.Test.YtcdjbacljnofiaaJBytes
import Derived.BigQuiet
import Derived.Deep.Cut
namespace Go.Proofs.Ytcdjbacljnofiaa
open Go Go.Sort

section
variable {α : Type} [Inhabited α]

/-- n elements from a on change places with n from b on -/
def swaps (a b : Nat) : Nat → Array α → Array α
  | 0, d => d
  | n + 1, d => swaps (a + 1) (b + 1) n (swp d a b)
theorem swaps_size (n : Nat) : ∀ (a b : Nat) (d : Array α), (swaps a b n d).size = d.size := by
  induction n with
  | zero => intro a b d; rfl
  | succ n ih => intro a b d; rw [swaps, ih, size_swp]
/-- .. by what is left to do -/
theorem swaps_go {a b n k : Nat} (d : Array α) (h : k < n) : swaps (a + k) (b + k) (n - k) d = swaps (a + (k + 1)) (b + (k + 1)) (n - (k + 1)) (swp d (a + k) (b + k)) := by
  obtain ⟨m, hm⟩ : ∃ m, n - k = m + 1 := ⟨n - k - 1, by omega⟩
  rw [hm, swaps, show n - (k + 1) = m by omega, Nat.add_assoc, Nat.add_assoc]
theorem swaps_end {a b n k : Nat} (d : Array α) (h : ¬ k < n) : swaps (a + k) (b + k) (n - k) d = d := by
  rw [show n - k = 0 by omega]; rfl

/-- rotation, by exchanges of blocks; f bounds the rounds -/
def rot (m : Nat) : Nat → Nat → Nat → Array α → Array α
  | 0, i, _, d => swaps (m - i) m i d
  | f + 1, i, j, d => if i = j then swaps (m - i) m i d else if j < i then rot m f (i - j) j (swaps (m - i) m j d) else rot m f i (j - i) (swaps (m - i) (m + j - i) i d)
theorem rot_size (m : Nat) (f : Nat) : ∀ (i j : Nat) (d : Array α), (rot m f i j d).size = d.size := by
  induction f with
  | zero => intro i j d; rw [rot, swaps_size]
  | succ f ih =>
    intro i j d
    rw [rot]
    split
    · rw [swaps_size]
    · split
      · rw [ih, swaps_size]
      · rw [ih, swaps_size]

/-- the place where p ends, sought by halves -/
def bsr (p : Nat → Bool) : Nat → Nat → Nat → Nat
  | 0, i, _ => i
  | f + 1, i, j => if i < j then (if p ((i + j) / 2) then bsr p f ((i + j) / 2 + 1) j else bsr p f i ((i + j) / 2)) else i
theorem bsr_le (p : Nat → Bool) (f : Nat) : ∀ (i j : Nat), i ≤ j → i ≤ bsr p f i j ∧ bsr p f i j ≤ j := by
  induction f with
  | zero => intro i j h; exact ⟨Nat.le_refl _, h⟩
  | succ f ih =>
    intro i j h
    rw [bsr]
    split
    · split
      · have := ih ((i + j) / 2 + 1) j (by omega); omega
      · have := ih i ((i + j) / 2) (by omega); omega
    · omega
theorem bsr_edge (p : Nat → Bool) (f : Nat) : ∀ (i j : Nat), j - i ≤ f → (i < bsr p f i j → p (bsr p f i j - 1) = true) ∧ (bsr p f i j < j → p (bsr p f i j) = false) := by
  induction f with
  | zero => intro i j h; exact ⟨fun h' => absurd h' (by simp [bsr]), fun h' => by have : i < j := h'; omega⟩
  | succ f ih =>
    intro i j h
    rw [bsr]
    by_cases hij : i < j
    · rw [if_pos hij]
      cases hp : p ((i + j) / 2) with
      | true =>
        rw [if_pos rfl]
        have := ih ((i + j) / 2 + 1) j (by omega)
        have hl := bsr_le p f ((i + j) / 2 + 1) j (by omega)
        refine ⟨fun _ => ?_, this.2⟩
        by_cases he : (i + j) / 2 + 1 < bsr p f ((i + j) / 2 + 1) j
        · exact this.1 he
        · rw [show bsr p f ((i + j) / 2 + 1) j = (i + j) / 2 + 1 by omega, Nat.add_sub_cancel]; exact hp
      | false =>
        rw [if_neg (by simp)]
        have := ih i ((i + j) / 2) (by omega)
        have hl := bsr_le p f i ((i + j) / 2) (by omega)
        refine ⟨this.1, fun _ => ?_⟩
        by_cases he : bsr p f i ((i + j) / 2) < (i + j) / 2
        · exact this.2 he
        · rw [show bsr p f i ((i + j) / 2) = (i + j) / 2 by omega]; exact hp
    · rw [if_neg hij]
      exact ⟨fun h' => absurd h' (Nat.lt_irrefl _), fun h' => absurd h' hij⟩
theorem bsr_up {p : Nat → Bool} {f i j : Nat} (h : i < j) (hp : p ((i + j) / 2) = true) : bsr p (f + 1) i j = bsr p f ((i + j) / 2 + 1) j := by
  rw [bsr, if_pos h, if_pos hp]
theorem bsr_dn {p : Nat → Bool} {f i j : Nat} (h : i < j) (hp : p ((i + j) / 2) = false) : bsr p (f + 1) i j = bsr p f i ((i + j) / 2) := by
  rw [bsr, if_pos h, if_neg (by rw [hp]; simp)]
/-- more rounds than are wanted change nothing -/
theorem bsr_fuel (p : Nat → Bool) (f : Nat) : ∀ (i j g : Nat), j - i ≤ f → j - i ≤ g → bsr p f i j = bsr p g i j := by
  induction f with
  | zero =>
    intro i j g h _
    cases g with
    | zero => rfl
    | succ g => rw [bsr, bsr, if_neg (by omega)]
  | succ f ih =>
    intro i j g h hg
    by_cases hij : i < j
    · obtain ⟨g, rfl⟩ : ∃ g', g = g' + 1 := ⟨g - 1, by omega⟩
      rw [bsr, bsr, if_pos hij, if_pos hij, ih _ _ g (by omega) (by omega), ih _ _ g (by omega) (by omega)]
    · cases g with
      | zero => rw [bsr, bsr, if_neg hij]
      | succ g => rw [bsr, bsr, if_neg hij, if_neg hij]

/-- element k goes up to place e, one exchange after the other -/
def upw (e : Nat) : Nat → Nat → Array α → Array α
  | 0, _, d => d
  | f + 1, k, d => if k < e then upw e f (k + 1) (swp d k (k + 1)) else d
theorem upw_size (e f : Nat) : ∀ (k : Nat) (d : Array α), (upw e f k d).size = d.size := by
  induction f with
  | zero => intro k d; rfl
  | succ f ih => intro k d; rw [upw]; split; rw [ih, size_swp]; rfl
/-- element k goes down to place i -/
def dnw (i : Nat) : Nat → Nat → Array α → Array α
  | 0, _, d => d
  | f + 1, k, d => if i < k then dnw i f (k - 1) (swp d k (k - 1)) else d
theorem dnw_size (i f : Nat) : ∀ (k : Nat) (d : Array α), (dnw i f k d).size = d.size := by
  induction f with
  | zero => intro k d; rfl
  | succ f ih => intro k d; rw [dnw]; split; rw [ih, size_swp]; rfl

variable (cf : α → α → Int)
def pUp (d : Array α) (a : Nat) (h : Nat) : Bool := decide (cf d[h]! d[a]! < 0)
def pDn (d : Array α) (m : Nat) (h : Nat) : Bool := !decide (cf d[m]! d[h]! < 0)
def pMid (d : Array α) (p : Nat) (c : Nat) : Bool := !decide (cf d[p - c]! d[c]! < 0)
/-- symMerge's cut -/
def cutS (a m b : Nat) : Nat := if (a + b) / 2 < m then (a + b) / 2 + m - b else a
def cutR (a m b : Nat) : Nat := if (a + b) / 2 < m then (a + b) / 2 else m
def cut (d : Array α) (a m b : Nat) : Nat := bsr (pMid cf d ((a + b) / 2 + m - 1)) (cutR a m b - cutS a m b) (cutS a m b) (cutR a m b)
/-- merging two neighbouring rows in place; f bounds the depth -/
def symM : Nat → Array α → Nat → Nat → Nat → Array α
  | 0, d, _, _, _ => d
  | f + 1, d, a, m, b =>
    if m - a = 1 then upw (bsr (pUp cf d a) (b - m) m b - 1) (b - a) a d
    else if b - m = 1 then dnw (bsr (pDn cf d m) (m - a) a m) (m - a) m d
    else
      let s := cut cf d a m b
      let e := (a + b) / 2 + m - s
      let d1 := if s < m ∧ m < e then rot m (e - s) (m - s) (e - m) d else d
      let d2 := if a < s ∧ s < (a + b) / 2 then symM f d1 a s ((a + b) / 2) else d1
      if (a + b) / 2 < e ∧ e < b then symM f d2 ((a + b) / 2) e b else d2
theorem symM_size (f : Nat) : ∀ (d : Array α) (a m b : Nat), (symM cf f d a m b).size = d.size := by
  induction f with
  | zero => intro d a m b; rfl
  | succ f ih =>
    intro d a m b
    rw [symM]
    split
    · rw [upw_size]
    · split
      · rw [dnw_size]
      · dsimp only
        split <;> split <;> split <;> simp only [ih, rot_size]
end

end Go.Proofs.Ytcdjbacljnofiaa

namespace Go.Proofs.Ytcdjbacljnofiaa
open Go Go.Sort

structure SLaid (P : Program) (k : Nat) : Prop where
  mixed : P.follows .mixedOrders = true
  aE : ∀ w, (isAgg 43).run P w = .ok true w
  zE : ∀ w, (Go.sizeOf 43).run P w = .ok k w
  t0 : P.underlying 0 = some (TypeDesc.tuple #[])
  a0 : ∀ w, (isAgg 0).run P w = .ok false w
  z0 : ∀ w, (Go.sizeOf 0).run P w = .ok 1 w
  v0 : ∀ w, (zeroValue 0).run P w = .ok (Value.tuple #[]) w
  t3 : P.underlying 3 = some (TypeDesc.int IntKind.i64)
  a3 : ∀ w, (isAgg 3).run P w = .ok false w
  z3 : ∀ w, (Go.sizeOf 3).run P w = .ok 1 w
  v3 : ∀ w, (zeroValue 3).run P w = .ok (Value.int IntKind.i64 0) w
  t4 : P.underlying 4 = some (TypeDesc.bool)
  a4 : ∀ w, (isAgg 4).run P w = .ok false w
  z4 : ∀ w, (Go.sizeOf 4).run P w = .ok 1 w
  v4 : ∀ w, (zeroValue 4).run P w = .ok (Value.bool false) w
  t23 : P.underlying 23 = some (TypeDesc.slice 43)
  a23 : ∀ w, (isAgg 23).run P w = .ok false w
  z23 : ∀ w, (Go.sizeOf 23).run P w = .ok 1 w
  v23 : ∀ w, (zeroValue 23).run P w = .ok (Value.slice none 0 0) w
  t50 : P.underlying 50 = some (TypeDesc.func #[43, 43] #[3] false)
  a50 : ∀ w, (isAgg 50).run P w = .ok false w
  z50 : ∀ w, (Go.sizeOf 50).run P w = .ok 1 w
  v50 : ∀ w, (zeroValue 50).run P w = .ok (Value.nilFunc) w
  t95 : P.underlying 95 = some (TypeDesc.int IntKind.u64)
  a95 : ∀ w, (isAgg 95).run P w = .ok false w
  z95 : ∀ w, (Go.sizeOf 95).run P w = .ok 1 w
  v95 : ∀ w, (zeroValue 95).run P w = .ok (Value.int IntKind.u64 0) w
  swap : P.funcs[77]? = some Try.f77
  rotate : P.funcs[74]? = some Try.f74
  merge : P.funcs[63]? = some Try.f63
  insert : P.funcs[62]? = some Try.f62
  stable : P.funcs[48]? = some Try.f48
  sort : P.funcs[31]? = some Try.f31
theorem sLaid : SLaid Try.prog 3 where
  mixed := by kernel_rfl
  aE := Try.isAgg43
  zE := Try.sizeOf43
  t0 := Try.underlying0
  a0 := Try.isAgg0
  z0 := Try.sizeOf0
  v0 := Try.zeroValue0
  t3 := Try.underlying3
  a3 := Try.isAgg3
  z3 := Try.sizeOf3
  v3 := Try.zeroValue3
  t4 := Try.underlying4
  a4 := Try.isAgg4
  z4 := Try.sizeOf4
  v4 := Try.zeroValue4
  t23 := Try.underlying23
  a23 := Try.isAgg23
  z23 := Try.sizeOf23
  v23 := Try.zeroValue23
  t50 := Try.underlying50
  a50 := Try.isAgg50
  z50 := Try.sizeOf50
  v50 := Try.zeroValue50
  t95 := Try.underlying95
  a95 := Try.isAgg95
  z95 := Try.sizeOf95
  v95 := Try.zeroValue95
  swap := Try.func77
  rotate := Try.func74
  merge := Try.func63
  insert := Try.func62
  stable := Try.func48
  sort := Try.func31

/-- a struct's cells are swapped whole -/
structure SRow (P : Program) {α : Type} [Inhabited α] (enc : α → List Value) (k : Nat) (w0 : World) (blk off : Nat) (d0 : Array α) : Prop where
  L : SLaid P k
  R : RowK enc k w0 blk off d0
  sz : d0.size < 1099511627776
end Go.Proofs.Ytcdjbacljnofiaa

namespace Go.Proofs.Ytcdjbacljnofiaa
open Go Go.Shelf Go.RowKit Go.Sort Go.Lib
variable {P : Program} {α : Type} [Inhabited α] {enc : α → List Value} {k : Nat} {w0 : World} {blk off : Nat} {d0 : Array α}

set_option maxHeartbeats 4000000 in
set_option maxRecDepth 1000000 in
theorem swapRange_any (G : SRow P enc k w0 blk off d0) (fv : Value) (cap a b n : Nat) (d : Array α) (w : World) (hs : d.size = d0.size) (S : SWK enc k w0 blk off d w) (ha : a + n ≤ d0.size) (hb : b + n ≤ d0.size) :
    Calls P 77 #[.slice (some ⟨blk, off, none⟩) d0.size cap, .int .i64 (a : Int), .int .i64 (b : Int), .int .i64 (n : Int), fv] w fun e w' =>
      e = .returned (.tuple #[]) ∧ SWK enc k w0 blk off (swaps a b n d) w' := by
  have L := G.L
  have R := G.R
  have hsz := G.sz
  have aE := L.aE; have zE := L.zE
  have mixed := L.mixed; have t0 := L.t0; have a0 := L.a0; have z0 := L.z0; have v0 := L.v0; have t3 := L.t3; have a3 := L.a3; have z3 := L.z3; have v3 := L.v3; have t4 := L.t4; have a4 := L.a4; have z4 := L.z4; have v4 := L.v4; have t23 := L.t23; have a23 := L.a23; have z23 := L.z23; have v23 := L.v23; have t50 := L.t50; have a50 := L.a50; have z50 := L.z50; have v50 := L.v50
  have FG := L.swap
  clear L
  have S0 : Aside (SWK enc k w0 blk off d w) := S
  clear S
  go_enter FG, Try.ntmps77
  go_wp2
  go_loopg [10] n (fun kx s10 wr => ∃ (i : Nat) (dk : Array α), s10 = .int .i64 (i : Int) ∧ i ≤ n ∧ n - i ≤ kx ∧ dk.size = d.size ∧ Aside (SWK enc k w0 blk off dk wr) ∧ Hid (swaps (a + i) (b + i) (n - i) dk = swaps a b n d))
  case atStart => exact ⟨0, d, rfl, Nat.zero_le _, Nat.le_refl _, rfl, S0, (show _ = _ from rfl)⟩
  case round =>
    clear S0
    obtain ⟨i, dk, rfl, hi, hkx, hds, S1, HE⟩ := hrel
    by_cases hlt : i < n
    · have hltz : (i : Int) < (n : Int) := by omega
      go_wp2_with fail
      have ea : ((a : Int) + (i : Int)).toNat = a + i := by omega
      have pa : (0 : Int) ≤ (a : Int) + (i : Int) := by omega
      have ba : (a : Int) + (i : Int) < (d0.size : Int) := by omega
      have ra : IntKind.i64.wrap ((a : Int) + (i : Int)) = (a : Int) + (i : Int) := by rw [IntKind.wrap_i64]; omega
      have ec : ((b : Int) + (i : Int)).toNat = b + i := by omega
      have pc : (0 : Int) ≤ (b : Int) + (i : Int) := by omega
      have bc : (b : Int) + (i : Int) < (d0.size : Int) := by omega
      have rc : IntKind.i64.wrap ((b : Int) + (i : Int)) = (b : Int) + (i : Int) := by rw [IntKind.wrap_i64]; omega
      have S2 : Aside (SWK enc k w0 blk off (swp dk (a + i) (b + i)) ((wr.drew.setCells blk (off + (a + i) * k) (enc dk[b + i]!)).setCells blk (off + (b + i) * k) (enc dk[a + i]!))) := S1.out.swapped R (a + i) (b + i) (by omega) (by omega)
      have la := S1.out.ld1 R (by omega) P (a + i) (by omega)
      have lb := S1.out.ld1 R (by omega) P (b + i) (by omega)
      have sa := S1.out.st1 R (by omega) P (a + i) (by omega) dk[b + i]!
      have sb := S1.out.st2 R (by omega) P (a + i) (b + i) (by omega) (by omega) dk[b + i]! dk[a + i]!
      have na : (enc dk[a + i]!).length = k := R.hk _
      have nb : (enc dk[b + i]!).length = k := R.hk _
      generalize enc dk[a + i]! = cI at S2 la sb na
      generalize enc dk[b + i]! = cJ at S2 lb sa sb nb
      clear S1
      go_wp2_with fail
      go_big_region_o
      clear la lb sa sb
      generalize (wr.drew.setCells blk (off + (a + i) * k) cJ).setCells blk (off + (b + i) * k) cI = w2 at S2 ⊢
      go_wp2
      go_roundg (n - (i + 1))
      case measure => omega
      case rel =>
        exact ⟨i + 1, swp dk (a + i) (b + i), by go_num, by omega, Nat.le_refl _, by rw [size_swp]; exact hds, S2, (show _ = _ by rw [← HE.out, swaps_go dk hlt])⟩
    · have hltz : ¬ (i : Int) < (n : Int) := by omega
      go_wp2
      go_end0
      refine ⟨rfl, ?_⟩
      rw [← HE.out, swaps_end dk hlt]
      exact S1.out

end Go.Proofs.Ytcdjbacljnofiaa

namespace Go.Proofs.Ytcdjbacljnofiaa
open Go Go.Shelf Go.RowKit Go.Sort Go.Lib
variable {P : Program} {α : Type} [Inhabited α] {enc : α → List Value} {k : Nat} {w0 : World} {blk off : Nat} {d0 : Array α}

theorem rot_end {α : Type} [Inhabited α] (m f i : Nat) (d : Array α) : rot m f i i d = swaps (m - i) m i d := by
  cases f with
  | zero => rfl
  | succ f => rw [rot, if_pos rfl]
theorem rot_big {α : Type} [Inhabited α] {m f i j : Nat} (d : Array α) (h : j < i) : rot m (f + 1) i j d = rot m f (i - j) j (swaps (m - i) m j d) := by
  rw [rot, if_neg (by omega), if_pos h]
theorem rot_small {α : Type} [Inhabited α] {m f i j : Nat} (d : Array α) (h : i < j) : rot m (f + 1) i j d = rot m f i (j - i) (swaps (m - i) (m + j - i) i d) := by
  rw [rot, if_neg (by omega), if_neg (by omega)]

set_option maxHeartbeats 4000000 in
set_option maxRecDepth 1000000 in
theorem rotate_any (G : SRow P enc k w0 blk off d0) (fv : Value) (cap a m b : Nat) (d : Array α) (w : World) (hs : d.size = d0.size) (S : SWK enc k w0 blk off d w) (ha : a < m) (hm : m < b) (hb : b ≤ d0.size) :
    Calls P 74 #[.slice (some ⟨blk, off, none⟩) d0.size cap, .int .i64 (a : Int), .int .i64 (m : Int), .int .i64 (b : Int), fv] w fun e w' =>
      e = .returned (.tuple #[]) ∧ SWK enc k w0 blk off (rot m (b - a) (m - a) (b - m) d) w' := by
  have L := G.L
  have R := G.R
  have hsz := G.sz
  have aE := L.aE; have zE := L.zE
  have mixed := L.mixed; have t0 := L.t0; have a0 := L.a0; have z0 := L.z0; have v0 := L.v0; have t3 := L.t3; have a3 := L.a3; have z3 := L.z3; have v3 := L.v3; have t4 := L.t4; have a4 := L.a4; have z4 := L.z4; have v4 := L.v4; have t23 := L.t23; have a23 := L.a23; have z23 := L.z23; have v23 := L.v23; have t50 := L.t50; have a50 := L.a50; have z50 := L.z50; have v50 := L.v50
  have FG := L.rotate
  have e1 : ∀ args w, (callFunc 77 args).run P w = .ok (.enter 77 args) w := enters_of L.swap (by kernel_rfl) rfl
  clear L
  have S0 : Aside (SWK enc k w0 blk off d w) := S
  clear S
  have i0 : (m : Int) - (a : Int) = ((m - a : Nat) : Int) := by omega
  have j0 : (b : Int) - (m : Int) = ((b - m : Nat) : Int) := by omega
  go_enter FG, Try.ntmps74
  go_wp2
  go_loopg [10, 11] (b - a) (fun kx s10 s11 wr => ∃ (i j f : Nat) (dk : Array α), s10 = .int .i64 (i : Int) ∧ s11 = .int .i64 (j : Int) ∧ 0 < i ∧ 0 < j ∧ i ≤ m ∧ m + j ≤ d0.size ∧ i + j ≤ kx ∧ dk.size = d0.size ∧ Aside (SWK enc k w0 blk off dk wr) ∧ Hid (i + j ≤ f ∧ rot m f i j dk = rot m (b - a) (m - a) (b - m) d))
  case atStart => exact ⟨m - a, b - m, b - a, d, rfl, rfl, by omega, by omega, by omega, by omega, by omega, hs, S0, ⟨by omega, rfl⟩⟩
  case round =>
    clear S0
    obtain ⟨i, j, f, dk, rfl, rfl, hi, hj, him, hjs, hkx, hds, S1, HE⟩ := hrel
    clear i0 j0
    have x1 : (m : Int) - (i : Int) = ((m - i : Nat) : Int) := by omega
    by_cases heq : i = j
    · subst heq
      have hc := swapRange_any G fv cap (m - i) m i dk wr hds S1.out (by omega) (by omega)
      have HC := hid hc
      clear hc
      go_wp2_with fail
      go_at_fn 77
      refine HC.out.mono ?_
      rintro e w' ⟨rfl, S2⟩
      go_wp2
      go_end0
      refine ⟨rfl, ?_⟩
      rw [← HE.out.2, rot_end]
      exact S2
    · have hne : ¬ (i : Int) = (j : Int) := by omega
      obtain ⟨f, rfl⟩ : ∃ f', f = f' + 1 := by have := HE.out.1; exact ⟨f - 1, by omega⟩
      by_cases hlt : j < i
      · have hltz : (j : Int) < (i : Int) := by omega
        have hc := swapRange_any G fv cap (m - i) m j dk wr hds S1.out (by omega) (by omega)
        have HC := hid hc
        have x2 : (i : Int) - (j : Int) = ((i - j : Nat) : Int) := by omega
        clear hc
        go_wp2_with fail
        go_at_fn 77
        refine HC.out.mono ?_
        rintro e w' ⟨rfl, S2⟩
        have S3 : Aside _ := S2
        clear S2
        go_wp2
        go_roundg (i - j + j)
        case measure => omega
        case rel => exact ⟨i - j, j, f, swaps (m - i) m j dk, rfl, rfl, by omega, hj, by omega, hjs, Nat.le_refl _, by rw [swaps_size]; exact hds, S3, (show _ ∧ _ from ⟨by have := HE.out.1; omega, by rw [← rot_big dk hlt]; exact HE.out.2⟩)⟩
      · have hltz : ¬ (j : Int) < (i : Int) := by omega
        have hc := swapRange_any G fv cap (m - i) (m + j - i) i dk wr hds S1.out (by omega) (by omega)
        have HC := hid hc
        have x2 : (j : Int) - (i : Int) = ((j - i : Nat) : Int) := by omega
        have x3 : (m : Int) + (j : Int) - (i : Int) = ((m + j - i : Nat) : Int) := by omega
        clear hc
        go_wp2_with fail
        go_at_fn 77
        refine HC.out.mono ?_
        rintro e w' ⟨rfl, S2⟩
        have S3 : Aside _ := S2
        clear S2
        go_wp2
        go_roundg (i + (j - i))
        case measure => omega
        case rel => exact ⟨i, j - i, f, swaps (m - i) (m + j - i) i dk, rfl, rfl, hi, by omega, him, by omega, Nat.le_refl _, by rw [swaps_size]; exact hds, S3, (show _ ∧ _ from ⟨by have := HE.out.1; omega, by rw [← rot_small dk (by omega)]; exact HE.out.2⟩)⟩

end Go.Proofs.Ytcdjbacljnofiaa

namespace Go.Proofs.Ytcdjbacljnofiaa
open Go Go.Shelf Go.RowKit Go.Sort Go.Lib
variable {P : Program} {α : Type} [Inhabited α] {enc : α → List Value} {k : Nat} {w0 : World} {blk off : Nat} {d0 : Array α}

theorem bsr_done {p : Nat → Bool} {f i j : Nat} (h : ¬ i < j) : bsr p f i j = i := by
  cases f with
  | zero => rfl
  | succ f => rw [bsr, if_neg h]
theorem upw_go {α : Type} [Inhabited α] {e f k : Nat} (d : Array α) (h : k < e) : upw e (f + 1) k d = upw e f (k + 1) (swp d k (k + 1)) := by rw [upw, if_pos h]
theorem upw_end {α : Type} [Inhabited α] {e f k : Nat} (d : Array α) (h : ¬ k < e) : upw e f k d = d := by
  cases f with
  | zero => rfl
  | succ f => rw [upw, if_neg h]
theorem dnw_go {α : Type} [Inhabited α] {i f k : Nat} (d : Array α) (h : i < k) : dnw i (f + 1) k d = dnw i f (k - 1) (swp d k (k - 1)) := by rw [dnw, if_pos h]
theorem dnw_end {α : Type} [Inhabited α] {i f k : Nat} (d : Array α) (h : ¬ i < k) : dnw i f k d = d := by
  cases f with
  | zero => rfl
  | succ f => rw [dnw, if_neg h]
theorem symM_up {α : Type} [Inhabited α] (cf : α → α → Int) (f : Nat) (d : Array α) (a m b : Nat) (h : m - a = 1) : symM cf (f + 1) d a m b = upw (bsr (pUp cf d a) (b - m) m b - 1) (b - a) a d := by rw [symM, if_pos h]
theorem symM_dn {α : Type} [Inhabited α] (cf : α → α → Int) (f : Nat) (d : Array α) (a m b : Nat) (h : ¬ m - a = 1) (h' : b - m = 1) : symM cf (f + 1) d a m b = dnw (bsr (pDn cf d m) (m - a) a m) (m - a) m d := by rw [symM, if_neg h, if_pos h']
theorem symM_mid {α : Type} [Inhabited α] (cf : α → α → Int) {f : Nat} {d d1 d2 d3 : Array α} {a m b s e mid : Nat} (h : ¬ m - a = 1) (h' : ¬ b - m = 1) (hm : mid = (a + b) / 2) (hs : s = cut cf d a m b) (he : e = mid + m - s)
    (h1 : (if s < m ∧ m < e then rot m (e - s) (m - s) (e - m) d else d) = d1) (h2 : (if a < s ∧ s < mid then symM cf f d1 a s mid else d1) = d2) (h3 : (if mid < e ∧ e < b then symM cf f d2 mid e b else d2) = d3) : symM cf (f + 1) d a m b = d3 := by
  subst hm hs he h1 h2 h3
  rw [symM, if_neg h, if_neg h']

set_option maxHeartbeats 8000000 in
set_option maxRecDepth 1000000 in
theorem symUp_any (G : SRow P enc k w0 blk off d0) (cf : α → α → Int) (g : Nat) (cb : Array Value) (eg : ∀ args w, (callFunc g args).run P w = .ok (.enter g args) w) (hcmp : CmpLays P g cb enc k cf blk off d0.size w0) (cap : Nat) (f0 a m b : Nat) (d : Array α) (w : World) (hs : d.size = d0.size) (S : SWK enc k w0 blk off d w) (ha : a < m) (hm : m < b) (hb : b ≤ d0.size) (h1 : m - a = 1) :
    Calls P 63 #[.slice (some ⟨blk, off, none⟩) d0.size cap, .int .i64 (a : Int), .int .i64 (m : Int), .int .i64 (b : Int), .func (.func g) #[] cb] w fun e w' =>
      e = .returned (.tuple #[]) ∧ SWK enc k w0 blk off (symM cf (f0 + 1) d a m b) w' := by
  have L := G.L
  have R := G.R
  have hsz := G.sz
  have aE := L.aE; have zE := L.zE
  have mixed := L.mixed; have t0 := L.t0; have a0 := L.a0; have z0 := L.z0; have v0 := L.v0; have t3 := L.t3; have a3 := L.a3; have z3 := L.z3; have v3 := L.v3; have t4 := L.t4; have a4 := L.a4; have z4 := L.z4; have v4 := L.v4; have t23 := L.t23; have a23 := L.a23; have z23 := L.z23; have v23 := L.v23; have t50 := L.t50; have a50 := L.a50; have z50 := L.z50; have v50 := L.v50; have t95 := L.t95; have a95 := L.a95; have z95 := L.z95; have v95 := L.v95
  have u0 := run_underlying L.t0; have u3 := run_underlying L.t3; have u4 := run_underlying L.t4; have u23 := run_underlying L.t23; have u95 := run_underlying L.t95
  have FG := L.merge
  have e1 : ∀ args w, (callFunc 74 args).run P w = .ok (.enter 74 args) w := enters_of L.rotate (by kernel_rfl) rfl
  have e2 : ∀ args w, (callFunc 63 args).run P w = .ok (.enter 63 args) w := enters_of L.merge (by kernel_rfl) rfl
  clear L
  have HC := hid hcmp
  have S0 : Aside (SWK enc k w0 blk off d w) := S
  clear S hcmp
  have h1z : (m : Int) - (a : Int) = 1 := by omega
  go_enter FG, Try.ntmps63
  go_wp2
  go_loopg [10, 11] (b - m) (fun kx si sj wr => ∃ (i j f : Nat), si = .int .i64 (i : Int) ∧ sj = .int .i64 (j : Int) ∧ m ≤ i ∧ i ≤ j ∧ j ≤ b ∧ j - i ≤ kx ∧ Aside (SWK enc k w0 blk off d wr) ∧ Hid (j - i ≤ f ∧ bsr (pUp cf d a) f i j = bsr (pUp cf d a) (b - m) m (b)))
  case atStart => exact ⟨m, b, b - m, rfl, rfl, Nat.le_refl _, by omega, Nat.le_refl _, Nat.le_refl _, S0, (show _ ∧ _ from ⟨Nat.le_refl _, rfl⟩)⟩
  case round =>
    clear S0
    obtain ⟨i, j, f, rfl, rfl, hi0, hij, hj0, hkx, S1, HE⟩ := hrel
    by_cases hlt : i < j
    · have hltz : (i : Int) < (j : Int) := by omega
      obtain ⟨f, rfl⟩ : ∃ f', f = f' + 1 := by have := HE.out.1; exact ⟨f - 1, by omega⟩
      obtain ⟨h, hh⟩ : ∃ h, h = (i + j) / 2 := ⟨_, rfl⟩
      have HH := hid hh
      have HHZ := hid (show ((i : Int) + (j : Int)) / 2 = (h : Int) by omega)
      have hhi : i ≤ h := by omega
      have hhj : h < j := by omega
      clear hh
      go_wp2_with fail
      rw [HHZ.out]
      cases hp : decide (cf d[h]! d[a]! < 0) with
      | true =>
        have PB := hid (show (pUp cf d a) ((i + j) / 2) = true by rw [← HH.out]; simp only [pUp]; rw [hp])
        have exc : ((h : Int) : Int).toNat = h := by omega
        have pxc : (0 : Int) ≤ (h : Int) := by omega
        have bxc : (h : Int) < (d0.size : Int) := by omega
        have rxc : IntKind.i64.wrap ((h : Int)) = (h : Int) := by rw [IntKind.wrap_i64]; omega
        have eyc : ((a : Int) : Int).toNat = a := by omega
        have pyc : (0 : Int) ≤ (a : Int) := by omega
        have byc : (a : Int) < (d0.size : Int) := by omega
        have ryc : IntKind.i64.wrap ((a : Int)) = (a : Int) := by rw [IntKind.wrap_i64]; omega
        obtain ⟨xc, hxc⟩ : ∃ x, x = d[h]! := ⟨_, rfl⟩
        obtain ⟨yc, hyc⟩ : ∃ x, x = d[a]! := ⟨_, rfl⟩
        have lxc := S1.out.ld R (by omega) P (h) (by omega)
        have lyc := S1.out.ld R (by omega) P (a) (by omega)
        rw [← hxc] at lxc
        rw [← hyc] at lyc
        have hcc := S1.out.cmp HC.out (by omega) xc yc
        have hvc : cf xc yc < 0 := by rw [hxc, hyc]; exact of_decide_eq_true hp
        have hdc : decide (cf xc yc < 0) = true := decide_eq_true hvc
        clear hxc hyc
        go_wp2_with fail
        go_quiet_grown (first | (go_at_fn g; refine Calls.grown_of (hcc _ _)))
        have S2 : Aside (SWK enc k w0 blk off d (grow (wr.drewN nq) osq)) := S1.out.grown nq osq
        clear lxc lyc hcc S1
        generalize grow (wr.drewN nq) osq = w2 at S2 ⊢
        clear nq osq
        go_wp2_with fail
        go_roundg (j - (h + 1))
        case measure => omega
        case rel => exact ⟨h + 1, j, f, by go_num, rfl, by omega, by omega, by omega, Nat.le_refl _, S2, (show _ ∧ _ from ⟨by have := HE.out.1; omega, by rw [HH.out, ← bsr_up hlt PB.out]; exact HE.out.2⟩)⟩
      | false =>
        have PB := hid (show (pUp cf d a) ((i + j) / 2) = false by rw [← HH.out]; simp only [pUp]; rw [hp])
        have exc : ((h : Int) : Int).toNat = h := by omega
        have pxc : (0 : Int) ≤ (h : Int) := by omega
        have bxc : (h : Int) < (d0.size : Int) := by omega
        have rxc : IntKind.i64.wrap ((h : Int)) = (h : Int) := by rw [IntKind.wrap_i64]; omega
        have eyc : ((a : Int) : Int).toNat = a := by omega
        have pyc : (0 : Int) ≤ (a : Int) := by omega
        have byc : (a : Int) < (d0.size : Int) := by omega
        have ryc : IntKind.i64.wrap ((a : Int)) = (a : Int) := by rw [IntKind.wrap_i64]; omega
        obtain ⟨xc, hxc⟩ : ∃ x, x = d[h]! := ⟨_, rfl⟩
        obtain ⟨yc, hyc⟩ : ∃ x, x = d[a]! := ⟨_, rfl⟩
        have lxc := S1.out.ld R (by omega) P (h) (by omega)
        have lyc := S1.out.ld R (by omega) P (a) (by omega)
        rw [← hxc] at lxc
        rw [← hyc] at lyc
        have hcc := S1.out.cmp HC.out (by omega) xc yc
        have hvc : ¬ cf xc yc < 0 := by rw [hxc, hyc]; exact of_decide_eq_false hp
        have hdc : decide (cf xc yc < 0) = false := decide_eq_false hvc
        clear hxc hyc
        go_wp2_with fail
        go_quiet_grown (first | (go_at_fn g; refine Calls.grown_of (hcc _ _)))
        have S2 : Aside (SWK enc k w0 blk off d (grow (wr.drewN nq) osq)) := S1.out.grown nq osq
        clear lxc lyc hcc S1
        generalize grow (wr.drewN nq) osq = w2 at S2 ⊢
        clear nq osq
        go_wp2_with fail
        go_roundg (h - i)
        case measure => omega
        case rel => exact ⟨i, h, f, rfl, by go_num, by omega, by omega, by omega, Nat.le_refl _, S2, (show _ ∧ _ from ⟨by have := HE.out.1; omega, by rw [HH.out, ← bsr_dn hlt PB.out]; exact HE.out.2⟩)⟩
    · have hltz : ¬ (i : Int) < (j : Int) := by omega
      have HI := hid (show i = bsr (pUp cf d a) (b - m) m (b) from (bsr_done hlt).symm.trans HE.out.2)
      clear HE
      have x1 : (i : Int) - 1 = ((i - 1 : Nat) : Int) := by omega
      go_wp2_with fail
      go_loopg [13] (b - a) (fun kx sk wr => ∃ (q f : Nat) (dk : Array α), sk = .int .i64 (q : Int) ∧ a ≤ q ∧ q ≤ i - 1 ∧ i - 1 - q ≤ kx ∧ dk.size = d0.size ∧ Aside (SWK enc k w0 blk off dk wr) ∧ Hid (i - 1 - q ≤ f ∧ upw (i - 1) f q dk = upw (i - 1) (b - a) a d))
      case atStart => exact ⟨a, b - a, d, rfl, Nat.le_refl _, by omega, by omega, hs, S1, (show _ ∧ _ from ⟨by omega, rfl⟩)⟩
      case round =>
        clear S1
        obtain ⟨q, f, dk, rfl, hq, hqi, hkx, hds, S1, HE⟩ := hrel
        by_cases hlt2 : q < i - 1
        · have hltz2 : (q : Int) < ((i - 1 : Nat) : Int) := by omega
          obtain ⟨f, rfl⟩ : ∃ f', f = f' + 1 := by have := HE.out.1; exact ⟨f - 1, by omega⟩
          have exs : ((q : Int) : Int).toNat = q := by omega
          have pxs : (0 : Int) ≤ (q : Int) := by omega
          have bxs : (q : Int) < (d0.size : Int) := by omega
          have rxs : IntKind.i64.wrap ((q : Int)) = (q : Int) := by rw [IntKind.wrap_i64]; omega
          have eys : (((q : Int) + 1) : Int).toNat = q + 1 := by omega
          have pys : (0 : Int) ≤ ((q : Int) + 1) := by omega
          have bys : ((q : Int) + 1) < (d0.size : Int) := by omega
          have rys : IntKind.i64.wrap (((q : Int) + 1)) = ((q : Int) + 1) := by rw [IntKind.wrap_i64]; omega
          have S2 : Aside (SWK enc k w0 blk off (swp dk (q) (q + 1)) ((wr.drew.setCells blk (off + (q) * k) (enc dk[q + 1]!)).setCells blk (off + (q + 1) * k) (enc dk[q]!))) := S1.out.swapped R (q) (q + 1) (by omega) (by omega)
          have las := S1.out.ld1 R (by omega) P (q) (by omega)
          have lbs := S1.out.ld1 R (by omega) P (q + 1) (by omega)
          have sas := S1.out.st1 R (by omega) P (q) (by omega) dk[q + 1]!
          have sbs := S1.out.st2 R (by omega) P (q) (q + 1) (by omega) (by omega) dk[q + 1]! dk[q]!
          have nas : (enc dk[q]!).length = k := R.hk _
          have nbs : (enc dk[q + 1]!).length = k := R.hk _
          generalize enc dk[q]! = cIs at S2 las sbs nas
          generalize enc dk[q + 1]! = cJs at S2 lbs sas sbs nbs
          clear S1
          go_wp2_with fail
          go_big_region_o
          clear las lbs sas sbs
          generalize (wr.drew.setCells blk (off + (q) * k) cJs).setCells blk (off + (q + 1) * k) cIs = w2 at S2 ⊢
          go_wp2
          go_roundg (i - 1 - (q + 1))
          case measure => omega
          case rel => exact ⟨q + 1, f, swp dk q (q + 1), by go_num, by omega, by omega, Nat.le_refl _, by rw [size_swp]; exact hds, S2, (show _ ∧ _ from ⟨by have := HE.out.1; omega, by rw [← upw_go dk hlt2]; exact HE.out.2⟩)⟩
        · have hltz2 : ¬ (q : Int) < ((i - 1 : Nat) : Int) := by omega
          go_wp2
          (try simp only [Exit.inBlock, Exit.then]); refine bodyPost_ret (results_none rfl _ _ _) rfl ?_
          refine ⟨rfl, ?_⟩
          have h2 := HE.out.2
          rw [upw_end dk hlt2, HI.out] at h2
          rw [symM_up cf f0 d a m b h1, ← h2]
          exact S1.out

end Go.Proofs.Ytcdjbacljnofiaa

namespace Go.Proofs.Ytcdjbacljnofiaa
open Go Go.Shelf Go.RowKit Go.Sort Go.Lib
variable {P : Program} {α : Type} [Inhabited α] {enc : α → List Value} {k : Nat} {w0 : World} {blk off : Nat} {d0 : Array α}

set_option maxHeartbeats 8000000 in
set_option maxRecDepth 1000000 in
theorem symDn_any (G : SRow P enc k w0 blk off d0) (cf : α → α → Int) (g : Nat) (cb : Array Value) (eg : ∀ args w, (callFunc g args).run P w = .ok (.enter g args) w) (hcmp : CmpLays P g cb enc k cf blk off d0.size w0) (cap : Nat) (f0 a m b : Nat) (d : Array α) (w : World) (hs : d.size = d0.size) (S : SWK enc k w0 blk off d w) (ha : a < m) (hm : m < b) (hb : b ≤ d0.size) (h1 : ¬ m - a = 1) (h2 : b - m = 1) :
    Calls P 63 #[.slice (some ⟨blk, off, none⟩) d0.size cap, .int .i64 (a : Int), .int .i64 (m : Int), .int .i64 (b : Int), .func (.func g) #[] cb] w fun e w' =>
      e = .returned (.tuple #[]) ∧ SWK enc k w0 blk off (symM cf (f0 + 1) d a m b) w' := by
  have L := G.L
  have R := G.R
  have hsz := G.sz
  have aE := L.aE; have zE := L.zE
  have mixed := L.mixed; have t0 := L.t0; have a0 := L.a0; have z0 := L.z0; have v0 := L.v0; have t3 := L.t3; have a3 := L.a3; have z3 := L.z3; have v3 := L.v3; have t4 := L.t4; have a4 := L.a4; have z4 := L.z4; have v4 := L.v4; have t23 := L.t23; have a23 := L.a23; have z23 := L.z23; have v23 := L.v23; have t50 := L.t50; have a50 := L.a50; have z50 := L.z50; have v50 := L.v50; have t95 := L.t95; have a95 := L.a95; have z95 := L.z95; have v95 := L.v95
  have u0 := run_underlying L.t0; have u3 := run_underlying L.t3; have u4 := run_underlying L.t4; have u23 := run_underlying L.t23; have u95 := run_underlying L.t95
  have FG := L.merge
  have e1 : ∀ args w, (callFunc 74 args).run P w = .ok (.enter 74 args) w := enters_of L.rotate (by kernel_rfl) rfl
  have e2 : ∀ args w, (callFunc 63 args).run P w = .ok (.enter 63 args) w := enters_of L.merge (by kernel_rfl) rfl
  clear L
  have HC := hid hcmp
  have S0 : Aside (SWK enc k w0 blk off d w) := S
  clear S hcmp
  have h1z : ¬ ((m : Int) - (a : Int) = 1) := by omega
  have h1b : ((m : Int) - (a : Int) == 1) = false := by simpa using h1z
  have h2z : (b : Int) - (m : Int) = 1 := by omega
  have h2b : ((b : Int) - (m : Int) == 1) = true := by simpa using h2z
  go_enter FG, Try.ntmps63
  go_wp2
  go_loopg [14, 15] (m - a) (fun kx si sj wr => ∃ (i j f : Nat), si = .int .i64 (i : Int) ∧ sj = .int .i64 (j : Int) ∧ a ≤ i ∧ i ≤ j ∧ j ≤ m ∧ j - i ≤ kx ∧ Aside (SWK enc k w0 blk off d wr) ∧ Hid (j - i ≤ f ∧ bsr (pDn cf d m) f i j = bsr (pDn cf d m) (m - a) a (m)))
  case atStart => exact ⟨a, m, m - a, rfl, rfl, Nat.le_refl _, by omega, Nat.le_refl _, Nat.le_refl _, S0, (show _ ∧ _ from ⟨Nat.le_refl _, rfl⟩)⟩
  case round =>
    clear S0
    obtain ⟨i, j, f, rfl, rfl, hi0, hij, hj0, hkx, S1, HE⟩ := hrel
    by_cases hlt : i < j
    · have hltz : (i : Int) < (j : Int) := by omega
      obtain ⟨f, rfl⟩ : ∃ f', f = f' + 1 := by have := HE.out.1; exact ⟨f - 1, by omega⟩
      obtain ⟨h, hh⟩ : ∃ h, h = (i + j) / 2 := ⟨_, rfl⟩
      have HH := hid hh
      have HHZ := hid (show ((i : Int) + (j : Int)) / 2 = (h : Int) by omega)
      have hhi : i ≤ h := by omega
      have hhj : h < j := by omega
      clear hh
      go_wp2_with fail
      rw [HHZ.out]
      cases hp : decide (cf d[m]! d[h]! < 0) with
      | true =>
        have PB := hid (show (pDn cf d m) ((i + j) / 2) = false by rw [← HH.out]; simp only [pDn]; rw [hp]; rfl)
        have exc : ((m : Int) : Int).toNat = m := by omega
        have pxc : (0 : Int) ≤ (m : Int) := by omega
        have bxc : (m : Int) < (d0.size : Int) := by omega
        have rxc : IntKind.i64.wrap ((m : Int)) = (m : Int) := by rw [IntKind.wrap_i64]; omega
        have eyc : ((h : Int) : Int).toNat = h := by omega
        have pyc : (0 : Int) ≤ (h : Int) := by omega
        have byc : (h : Int) < (d0.size : Int) := by omega
        have ryc : IntKind.i64.wrap ((h : Int)) = (h : Int) := by rw [IntKind.wrap_i64]; omega
        obtain ⟨xc, hxc⟩ : ∃ x, x = d[m]! := ⟨_, rfl⟩
        obtain ⟨yc, hyc⟩ : ∃ x, x = d[h]! := ⟨_, rfl⟩
        have lxc := S1.out.ld R (by omega) P (m) (by omega)
        have lyc := S1.out.ld R (by omega) P (h) (by omega)
        rw [← hxc] at lxc
        rw [← hyc] at lyc
        have hcc := S1.out.cmp HC.out (by omega) xc yc
        have hvc : cf xc yc < 0 := by rw [hxc, hyc]; exact of_decide_eq_true hp
        have hdc : decide (cf xc yc < 0) = true := decide_eq_true hvc
        clear hxc hyc
        go_wp2_with fail
        go_quiet_grown (first | (go_at_fn g; refine Calls.grown_of (hcc _ _)))
        have S2 : Aside (SWK enc k w0 blk off d (grow (wr.drewN nq) osq)) := S1.out.grown nq osq
        clear lxc lyc hcc S1
        generalize grow (wr.drewN nq) osq = w2 at S2 ⊢
        clear nq osq
        go_wp2_with fail
        go_roundg (h - i)
        case measure => omega
        case rel => exact ⟨i, h, f, rfl, by go_num, by omega, by omega, by omega, Nat.le_refl _, S2, (show _ ∧ _ from ⟨by have := HE.out.1; omega, by rw [HH.out, ← bsr_dn hlt PB.out]; exact HE.out.2⟩)⟩
      | false =>
        have PB := hid (show (pDn cf d m) ((i + j) / 2) = true by rw [← HH.out]; simp only [pDn]; rw [hp]; rfl)
        have exc : ((m : Int) : Int).toNat = m := by omega
        have pxc : (0 : Int) ≤ (m : Int) := by omega
        have bxc : (m : Int) < (d0.size : Int) := by omega
        have rxc : IntKind.i64.wrap ((m : Int)) = (m : Int) := by rw [IntKind.wrap_i64]; omega
        have eyc : ((h : Int) : Int).toNat = h := by omega
        have pyc : (0 : Int) ≤ (h : Int) := by omega
        have byc : (h : Int) < (d0.size : Int) := by omega
        have ryc : IntKind.i64.wrap ((h : Int)) = (h : Int) := by rw [IntKind.wrap_i64]; omega
        obtain ⟨xc, hxc⟩ : ∃ x, x = d[m]! := ⟨_, rfl⟩
        obtain ⟨yc, hyc⟩ : ∃ x, x = d[h]! := ⟨_, rfl⟩
        have lxc := S1.out.ld R (by omega) P (m) (by omega)
        have lyc := S1.out.ld R (by omega) P (h) (by omega)
        rw [← hxc] at lxc
        rw [← hyc] at lyc
        have hcc := S1.out.cmp HC.out (by omega) xc yc
        have hvc : ¬ cf xc yc < 0 := by rw [hxc, hyc]; exact of_decide_eq_false hp
        have hdc : decide (cf xc yc < 0) = false := decide_eq_false hvc
        clear hxc hyc
        go_wp2_with fail
        go_quiet_grown (first | (go_at_fn g; refine Calls.grown_of (hcc _ _)))
        have S2 : Aside (SWK enc k w0 blk off d (grow (wr.drewN nq) osq)) := S1.out.grown nq osq
        clear lxc lyc hcc S1
        generalize grow (wr.drewN nq) osq = w2 at S2 ⊢
        clear nq osq
        go_wp2_with fail
        go_roundg (j - (h + 1))
        case measure => omega
        case rel => exact ⟨h + 1, j, f, by go_num, rfl, by omega, by omega, by omega, Nat.le_refl _, S2, (show _ ∧ _ from ⟨by have := HE.out.1; omega, by rw [HH.out, ← bsr_up hlt PB.out]; exact HE.out.2⟩)⟩
    · have hltz : ¬ (i : Int) < (j : Int) := by omega
      have HI := hid (show i = bsr (pDn cf d m) (m - a) a (m) from (bsr_done hlt).symm.trans HE.out.2)
      clear HE
      go_wp2_with fail
      go_loopg [17] (m - a) (fun kx sk wr => ∃ (q f : Nat) (dk : Array α), sk = .int .i64 (q : Int) ∧ i ≤ q ∧ q ≤ m ∧ q - i ≤ kx ∧ dk.size = d0.size ∧ Aside (SWK enc k w0 blk off dk wr) ∧ Hid (q - i ≤ f ∧ dnw i f q dk = dnw i (m - a) m d))
      case atStart => exact ⟨m, m - a, d, rfl, by omega, by omega, by omega, hs, S1, (show _ ∧ _ from ⟨by omega, rfl⟩)⟩
      case round =>
        clear S1
        obtain ⟨q, f, dk, rfl, hq, hqi, hkx, hds, S1, HE⟩ := hrel
        by_cases hlt2 : i < q
        · have hltz2 : (i : Int) < (q : Int) := by omega
          obtain ⟨f, rfl⟩ : ∃ f', f = f' + 1 := by have := HE.out.1; exact ⟨f - 1, by omega⟩
          have exs : ((q : Int) : Int).toNat = q := by omega
          have pxs : (0 : Int) ≤ (q : Int) := by omega
          have bxs : (q : Int) < (d0.size : Int) := by omega
          have rxs : IntKind.i64.wrap ((q : Int)) = (q : Int) := by rw [IntKind.wrap_i64]; omega
          have eys : (((q : Int) - 1) : Int).toNat = q - 1 := by omega
          have pys : (0 : Int) ≤ ((q : Int) - 1) := by omega
          have bys : ((q : Int) - 1) < (d0.size : Int) := by omega
          have rys : IntKind.i64.wrap (((q : Int) - 1)) = ((q : Int) - 1) := by rw [IntKind.wrap_i64]; omega
          have S2 : Aside (SWK enc k w0 blk off (swp dk (q) (q - 1)) ((wr.drew.setCells blk (off + (q) * k) (enc dk[q - 1]!)).setCells blk (off + (q - 1) * k) (enc dk[q]!))) := S1.out.swapped R (q) (q - 1) (by omega) (by omega)
          have las := S1.out.ld1 R (by omega) P (q) (by omega)
          have lbs := S1.out.ld1 R (by omega) P (q - 1) (by omega)
          have sas := S1.out.st1 R (by omega) P (q) (by omega) dk[q - 1]!
          have sbs := S1.out.st2 R (by omega) P (q) (q - 1) (by omega) (by omega) dk[q - 1]! dk[q]!
          have nas : (enc dk[q]!).length = k := R.hk _
          have nbs : (enc dk[q - 1]!).length = k := R.hk _
          generalize enc dk[q]! = cIs at S2 las sbs nas
          generalize enc dk[q - 1]! = cJs at S2 lbs sas sbs nbs
          clear S1
          go_wp2_with fail
          go_big_region_o
          clear las lbs sas sbs
          generalize (wr.drew.setCells blk (off + (q) * k) cJs).setCells blk (off + (q - 1) * k) cIs = w2 at S2 ⊢
          go_wp2
          go_roundg (q - 1 - i)
          case measure => omega
          case rel => exact ⟨q - 1, f, swp dk q (q - 1), by first | go_num | (congr 1; omega), by omega, by omega, Nat.le_refl _, by rw [size_swp]; exact hds, S2, (show _ ∧ _ from ⟨by have := HE.out.1; omega, by rw [← dnw_go dk hlt2]; exact HE.out.2⟩)⟩
        · have hltz2 : ¬ (i : Int) < (q : Int) := by omega
          go_wp2
          (try simp only [Exit.inBlock, Exit.then]); refine bodyPost_ret (results_none rfl _ _ _) rfl ?_
          refine ⟨rfl, ?_⟩
          have h3 := HE.out.2
          rw [dnw_end dk hlt2, HI.out] at h3
          rw [symM_dn cf f0 d a m b h1 h2, ← h3]
          exact S1.out

end Go.Proofs.Ytcdjbacljnofiaa

namespace Go.Proofs.Ytcdjbacljnofiaa
open Go Go.Shelf Go.RowKit Go.Sort Go.Lib
variable {P : Program} {α : Type} [Inhabited α] {enc : α → List Value} {k : Nat} {w0 : World} {blk off : Nat} {d0 : Array α}

set_option maxHeartbeats 8000000 in
set_option maxRecDepth 1000000 in
theorem symMid_any (G : SRow P enc k w0 blk off d0) (cf : α → α → Int) (g : Nat) (cb : Array Value) (eg : ∀ args w, (callFunc g args).run P w = .ok (.enter g args) w) (hcmp : CmpLays P g cb enc k cf blk off d0.size w0) (cap : Nat) (f0 a m b : Nat) (d : Array α) (w : World) (hs : d.size = d0.size) (S : SWK enc k w0 blk off d w) (ha : a < m) (hm : m < b) (hb : b ≤ d0.size) (h1 : ¬ m - a = 1) (h2 : ¬ b - m = 1) (hIH : ∀ (a m b : Nat) (d : Array α) (w : World), d.size = d0.size → SWK enc k w0 blk off d w → a < m → m < b → b ≤ d0.size → b - a ≤ f0 → Calls P 63 #[.slice (some ⟨blk, off, none⟩) d0.size cap, .int .i64 (a : Int), .int .i64 (m : Int), .int .i64 (b : Int), .func (.func g) #[] cb] w fun e w' => e = .returned (.tuple #[]) ∧ SWK enc k w0 blk off (symM cf f0 d a m b) w') (hf : b - a ≤ f0 + 1) :
    Calls P 63 #[.slice (some ⟨blk, off, none⟩) d0.size cap, .int .i64 (a : Int), .int .i64 (m : Int), .int .i64 (b : Int), .func (.func g) #[] cb] w fun e w' =>
      e = .returned (.tuple #[]) ∧ SWK enc k w0 blk off (symM cf (f0 + 1) d a m b) w' := by
  have L := G.L
  have R := G.R
  have hsz := G.sz
  have aE := L.aE; have zE := L.zE
  have mixed := L.mixed; have t0 := L.t0; have a0 := L.a0; have z0 := L.z0; have v0 := L.v0; have t3 := L.t3; have a3 := L.a3; have z3 := L.z3; have v3 := L.v3; have t4 := L.t4; have a4 := L.a4; have z4 := L.z4; have v4 := L.v4; have t23 := L.t23; have a23 := L.a23; have z23 := L.z23; have v23 := L.v23; have t50 := L.t50; have a50 := L.a50; have z50 := L.z50; have v50 := L.v50; have t95 := L.t95; have a95 := L.a95; have z95 := L.z95; have v95 := L.v95
  have u0 := run_underlying L.t0; have u3 := run_underlying L.t3; have u4 := run_underlying L.t4; have u23 := run_underlying L.t23; have u95 := run_underlying L.t95
  have FG := L.merge
  have e1 : ∀ args w, (callFunc 74 args).run P w = .ok (.enter 74 args) w := enters_of L.rotate (by kernel_rfl) rfl
  have e2 : ∀ args w, (callFunc 63 args).run P w = .ok (.enter 63 args) w := enters_of L.merge (by kernel_rfl) rfl
  clear L
  have HC := hid hcmp
  have S0 : Aside (SWK enc k w0 blk off d w) := S
  clear S hcmp
  have h1z : ¬ ((m : Int) - (a : Int) = 1) := by omega
  have h1b : ((m : Int) - (a : Int) == 1) = false := by simpa using h1z
  have h2z : ¬ ((b : Int) - (m : Int) = 1) := by omega
  have h2b : ((b : Int) - (m : Int) == 1) = false := by simpa using h2z
  have IH := hid hIH
  clear hIH
  obtain ⟨mid, hmid⟩ : ∃ mid, mid = (a + b) / 2 := ⟨_, rfl⟩
  have HMZ := hid (show ((a : Int) + (b : Int)) / 2 = (mid : Int) by omega)
  have HM := hid hmid
  have hma : a < mid := by omega
  have hmb : mid < b := by omega
  obtain ⟨n, hn⟩ : ∃ n, n = mid + m := ⟨_, rfl⟩
  have hnz : (mid : Int) + (m : Int) = (n : Int) := by omega
  obtain ⟨p, hp⟩ : ∃ p, p = n - 1 := ⟨_, rfl⟩
  have hpz : (n : Int) - 1 = (p : Int) := by omega
  have hp0 := hid (show p = (a + b) / 2 + m - 1 by omega)
  go_enter FG, Try.ntmps63
  go_upto_region 25 with fail
  rw [HMZ.out]
  by_cases hbig : mid < m
  · have hbigz : (mid : Int) < (m : Int) := by omega
    obtain ⟨s0, hsn⟩ : ∃ s0, s0 = n - b := ⟨_, rfl⟩
    have hsz0 : (n : Int) - (b : Int) = (s0 : Int) := by omega
    have hs0 := hid (show s0 = cutS a m b by unfold cutS; rw [← hmid, if_pos hbig, hsn, hn])
    have hr0 := hid (show mid = cutR a m b by unfold cutR; rw [← hmid, if_pos hbig])
    have q1 : a ≤ s0 := by omega
    have q2 : s0 ≤ mid := by omega
    have q5 : n - s0 ≤ b := by omega
    have q6 : p < b + s0 := by omega
    have q7 : n - 1 = p := by omega
    have q8 : n - mid = m := by omega
    have q9 : mid ≤ n := by omega
    clear hsn hmid hn hp
    go_wp2
    go_loopg [20, 21] (mid - s0) (fun kx si sj wr => ∃ (i j f : Nat), si = .int .i64 (i : Int) ∧ sj = .int .i64 (j : Int) ∧ s0 ≤ i ∧ i ≤ j ∧ j ≤ mid ∧ j - i ≤ kx ∧ Aside (SWK enc k w0 blk off d wr) ∧ Hid (j - i ≤ f ∧ bsr (pMid cf d p) f i j = bsr (pMid cf d p) (mid - s0) s0 (mid)))
    case atStart => exact ⟨s0, mid, mid - s0, rfl, rfl, Nat.le_refl _, by omega, Nat.le_refl _, Nat.le_refl _, S0, (show _ ∧ _ from ⟨Nat.le_refl _, rfl⟩)⟩
    case round =>
      clear S0
      obtain ⟨i, j, f, rfl, rfl, hi0, hij, hj0, hkx, S1, HE⟩ := hrel
      by_cases hlt : i < j
      · have hltz : (i : Int) < (j : Int) := by omega
        obtain ⟨f, rfl⟩ : ∃ f', f = f' + 1 := by have := HE.out.1; exact ⟨f - 1, by omega⟩
        obtain ⟨h, hh⟩ : ∃ h, h = (i + j) / 2 := ⟨_, rfl⟩
        have HH := hid hh
        have HHZ := hid (show ((i : Int) + (j : Int)) / 2 = (h : Int) by omega)
        have hhi : i ≤ h := by omega
        have hhj : h < j := by omega
        clear hh
        obtain ⟨q, hq⟩ : ∃ q, q = p - h := ⟨_, rfl⟩
        have hqz : (p : Int) - (h : Int) = (q : Int) := by omega
        have hq1 : q < b := by omega
        have HQ := hid hq
        clear hq
        go_wp2_with fail
        rw [HHZ.out]
        cases hp : decide (cf d[q]! d[h]! < 0) with
        | true =>
          have PB := hid (show (pMid cf d p) ((i + j) / 2) = false by rw [← HH.out]; simp only [pMid]; rw [← HQ.out, hp]; rfl)
          have exc : ((q : Int) : Int).toNat = q := by omega
          have pxc : (0 : Int) ≤ (q : Int) := by omega
          have bxc : (q : Int) < (d0.size : Int) := by omega
          have rxc : IntKind.i64.wrap ((q : Int)) = (q : Int) := by rw [IntKind.wrap_i64]; omega
          have eyc : ((h : Int) : Int).toNat = h := by omega
          have pyc : (0 : Int) ≤ (h : Int) := by omega
          have byc : (h : Int) < (d0.size : Int) := by omega
          have ryc : IntKind.i64.wrap ((h : Int)) = (h : Int) := by rw [IntKind.wrap_i64]; omega
          obtain ⟨xc, hxc⟩ : ∃ x, x = d[q]! := ⟨_, rfl⟩
          obtain ⟨yc, hyc⟩ : ∃ x, x = d[h]! := ⟨_, rfl⟩
          have lxc := S1.out.ld R (by omega) P (q) (by omega)
          have lyc := S1.out.ld R (by omega) P (h) (by omega)
          rw [← hxc] at lxc
          rw [← hyc] at lyc
          have hcc := S1.out.cmp HC.out (by omega) xc yc
          have hvc : cf xc yc < 0 := by rw [hxc, hyc]; exact of_decide_eq_true hp
          have hdc : decide (cf xc yc < 0) = true := decide_eq_true hvc
          clear hxc hyc
          go_wp2_with fail
          go_quiet_grown (first | (go_at_fn g; refine Calls.grown_of (hcc _ _)))
          have S2 : Aside (SWK enc k w0 blk off d (grow (wr.drewN nq) osq)) := S1.out.grown nq osq
          clear lxc lyc hcc S1
          generalize grow (wr.drewN nq) osq = w2 at S2 ⊢
          clear nq osq
          go_wp2_with fail
          go_roundg (h - i)
          case measure => omega
          case rel => exact ⟨i, h, f, rfl, by go_num, by omega, by omega, by omega, Nat.le_refl _, S2, (show _ ∧ _ from ⟨by have := HE.out.1; omega, by rw [HH.out, ← bsr_dn hlt PB.out]; exact HE.out.2⟩)⟩
        | false =>
          have PB := hid (show (pMid cf d p) ((i + j) / 2) = true by rw [← HH.out]; simp only [pMid]; rw [← HQ.out, hp]; rfl)
          have exc : ((q : Int) : Int).toNat = q := by omega
          have pxc : (0 : Int) ≤ (q : Int) := by omega
          have bxc : (q : Int) < (d0.size : Int) := by omega
          have rxc : IntKind.i64.wrap ((q : Int)) = (q : Int) := by rw [IntKind.wrap_i64]; omega
          have eyc : ((h : Int) : Int).toNat = h := by omega
          have pyc : (0 : Int) ≤ (h : Int) := by omega
          have byc : (h : Int) < (d0.size : Int) := by omega
          have ryc : IntKind.i64.wrap ((h : Int)) = (h : Int) := by rw [IntKind.wrap_i64]; omega
          obtain ⟨xc, hxc⟩ : ∃ x, x = d[q]! := ⟨_, rfl⟩
          obtain ⟨yc, hyc⟩ : ∃ x, x = d[h]! := ⟨_, rfl⟩
          have lxc := S1.out.ld R (by omega) P (q) (by omega)
          have lyc := S1.out.ld R (by omega) P (h) (by omega)
          rw [← hxc] at lxc
          rw [← hyc] at lyc
          have hcc := S1.out.cmp HC.out (by omega) xc yc
          have hvc : ¬ cf xc yc < 0 := by rw [hxc, hyc]; exact of_decide_eq_false hp
          have hdc : decide (cf xc yc < 0) = false := decide_eq_false hvc
          clear hxc hyc
          go_wp2_with fail
          go_quiet_grown (first | (go_at_fn g; refine Calls.grown_of (hcc _ _)))
          have S2 : Aside (SWK enc k w0 blk off d (grow (wr.drewN nq) osq)) := S1.out.grown nq osq
          clear lxc lyc hcc S1
          generalize grow (wr.drewN nq) osq = w2 at S2 ⊢
          clear nq osq
          go_wp2_with fail
          go_roundg (j - (h + 1))
          case measure => omega
          case rel => exact ⟨h + 1, j, f, by go_num, rfl, by omega, by omega, by omega, Nat.le_refl _, S2, (show _ ∧ _ from ⟨by have := HE.out.1; omega, by rw [HH.out, ← bsr_up hlt PB.out]; exact HE.out.2⟩)⟩
      · have hltz : ¬ (i : Int) < (j : Int) := by omega
        have HI := hid (show i = bsr (pMid cf d p) (mid - s0) s0 (mid) from (bsr_done hlt).symm.trans HE.out.2)
        clear HE
        obtain ⟨e, he⟩ : ∃ e, e = n - i := ⟨_, rfl⟩
        have hez : (n : Int) - (i : Int) = (e : Int) := by omega
        have hme : m ≤ e := by omega
        have heb : e ≤ b := by omega
        have HE2 := hid (show e = mid + m - i by omega)
        have HI2 := hid (show i = cut cf d a m b by rw [HI.out]; unfold cut; rw [← hs0.out, ← hr0.out, ← hp0.out])
        clear he
        by_cases c1 : i < m
        · have c1z : (i : Int) < (m : Int) := by omega
          by_cases c2 : m < e
          · have c2z : (m : Int) < (e : Int) := by omega
            have hc := rotate_any G (.func (.func g) #[] cb) cap i m e d wr hs S1.out c1 c2 (by omega)
            have HC1 := hid hc
            clear hc
            go_wp2_with fail
            go_at_fn 74
            refine HC1.out.mono ?_
            rintro e6 w6 ⟨rfl, S6⟩
            have S6 : Aside _ := S6
            by_cases c3 : a < i
            · have c3z : (a : Int) < (i : Int) := by omega
              by_cases c4 : i < mid
              · have c4z : (i : Int) < (mid : Int) := by omega
                have hc := IH.out a i mid (rot m (e - i) (m - i) (e - m) d) w6 (by rw [rot_size]; exact hs) S6.out c3 c4 (by omega) (by omega)
                have HC2 := hid hc
                clear hc
                go_wp2_with fail
                go_at_fn 63
                refine HC2.out.mono ?_
                rintro e7 w7 ⟨rfl, S7⟩
                have S7 : Aside _ := S7
                by_cases c5 : mid < e
                · have c5z : (mid : Int) < (e : Int) := by omega
                  by_cases c6 : e < b
                  · have c6z : (e : Int) < (b : Int) := by omega
                    have hc := IH.out mid e b (symM cf f0 (rot m (e - i) (m - i) (e - m) d) a i mid) w7 (by rw [symM_size, rot_size]; exact hs) S7.out c5 c6 (by omega) (by omega)
                    have HC3 := hid hc
                    clear hc
                    go_wp2_with fail
                    go_at_fn 63
                    refine HC3.out.mono ?_
                    rintro e w' ⟨rfl, S9⟩
                    have S9 : Aside _ := S9
                    go_wp2
                    go_end0
                    refine ⟨rfl, ?_⟩
                    rw [symM_mid cf h1 h2 HM.out HI2.out HE2.out (if_pos ⟨by assumption, by assumption⟩) (if_pos ⟨by assumption, by assumption⟩) (if_pos ⟨by assumption, by assumption⟩)]
                    exact S9.out
                  · have c6z : ¬ (e : Int) < (b : Int) := by omega
                    go_wp2
                    go_end0
                    refine ⟨rfl, ?_⟩
                    rw [symM_mid cf h1 h2 HM.out HI2.out HE2.out (if_pos ⟨by assumption, by assumption⟩) (if_pos ⟨by assumption, by assumption⟩) (if_neg (fun h => absurd h.2 (by assumption)))]
                    exact S7.out
                · have c5z : ¬ (mid : Int) < (e : Int) := by omega
                  go_wp2
                  go_end0
                  refine ⟨rfl, ?_⟩
                  rw [symM_mid cf h1 h2 HM.out HI2.out HE2.out (if_pos ⟨by assumption, by assumption⟩) (if_pos ⟨by assumption, by assumption⟩) (if_neg (fun h => absurd h.1 (by assumption)))]
                  exact S7.out
              · have c4z : ¬ (i : Int) < (mid : Int) := by omega
                by_cases c5 : mid < e
                · have c5z : (mid : Int) < (e : Int) := by omega
                  by_cases c6 : e < b
                  · have c6z : (e : Int) < (b : Int) := by omega
                    have hc := IH.out mid e b (rot m (e - i) (m - i) (e - m) d) w6 (by rw [rot_size]; exact hs) S6.out c5 c6 (by omega) (by omega)
                    have HC3 := hid hc
                    clear hc
                    go_wp2_with fail
                    go_at_fn 63
                    refine HC3.out.mono ?_
                    rintro e w' ⟨rfl, S9⟩
                    have S9 : Aside _ := S9
                    go_wp2
                    go_end0
                    refine ⟨rfl, ?_⟩
                    rw [symM_mid cf h1 h2 HM.out HI2.out HE2.out (if_pos ⟨by assumption, by assumption⟩) (if_neg (fun h => absurd h.2 (by assumption))) (if_pos ⟨by assumption, by assumption⟩)]
                    exact S9.out
                  · have c6z : ¬ (e : Int) < (b : Int) := by omega
                    go_wp2
                    go_end0
                    refine ⟨rfl, ?_⟩
                    rw [symM_mid cf h1 h2 HM.out HI2.out HE2.out (if_pos ⟨by assumption, by assumption⟩) (if_neg (fun h => absurd h.2 (by assumption))) (if_neg (fun h => absurd h.2 (by assumption)))]
                    exact S6.out
                · have c5z : ¬ (mid : Int) < (e : Int) := by omega
                  go_wp2
                  go_end0
                  refine ⟨rfl, ?_⟩
                  rw [symM_mid cf h1 h2 HM.out HI2.out HE2.out (if_pos ⟨by assumption, by assumption⟩) (if_neg (fun h => absurd h.2 (by assumption))) (if_neg (fun h => absurd h.1 (by assumption)))]
                  exact S6.out
            · have c3z : ¬ (a : Int) < (i : Int) := by omega
              by_cases c5 : mid < e
              · have c5z : (mid : Int) < (e : Int) := by omega
                by_cases c6 : e < b
                · have c6z : (e : Int) < (b : Int) := by omega
                  have hc := IH.out mid e b (rot m (e - i) (m - i) (e - m) d) w6 (by rw [rot_size]; exact hs) S6.out c5 c6 (by omega) (by omega)
                  have HC3 := hid hc
                  clear hc
                  go_wp2_with fail
                  go_at_fn 63
                  refine HC3.out.mono ?_
                  rintro e w' ⟨rfl, S9⟩
                  have S9 : Aside _ := S9
                  go_wp2
                  go_end0
                  refine ⟨rfl, ?_⟩
                  rw [symM_mid cf h1 h2 HM.out HI2.out HE2.out (if_pos ⟨by assumption, by assumption⟩) (if_neg (fun h => absurd h.1 (by assumption))) (if_pos ⟨by assumption, by assumption⟩)]
                  exact S9.out
                · have c6z : ¬ (e : Int) < (b : Int) := by omega
                  go_wp2
                  go_end0
                  refine ⟨rfl, ?_⟩
                  rw [symM_mid cf h1 h2 HM.out HI2.out HE2.out (if_pos ⟨by assumption, by assumption⟩) (if_neg (fun h => absurd h.1 (by assumption))) (if_neg (fun h => absurd h.2 (by assumption)))]
                  exact S6.out
              · have c5z : ¬ (mid : Int) < (e : Int) := by omega
                go_wp2
                go_end0
                refine ⟨rfl, ?_⟩
                rw [symM_mid cf h1 h2 HM.out HI2.out HE2.out (if_pos ⟨by assumption, by assumption⟩) (if_neg (fun h => absurd h.1 (by assumption))) (if_neg (fun h => absurd h.1 (by assumption)))]
                exact S6.out
          · have c2z : ¬ (m : Int) < (e : Int) := by omega
            by_cases c3 : a < i
            · have c3z : (a : Int) < (i : Int) := by omega
              by_cases c4 : i < mid
              · have c4z : (i : Int) < (mid : Int) := by omega
                have hc := IH.out a i mid (d) wr (by exact hs) S1.out c3 c4 (by omega) (by omega)
                have HC2 := hid hc
                clear hc
                go_wp2_with fail
                go_at_fn 63
                refine HC2.out.mono ?_
                rintro e7 w7 ⟨rfl, S7⟩
                have S7 : Aside _ := S7
                by_cases c5 : mid < e
                · have c5z : (mid : Int) < (e : Int) := by omega
                  by_cases c6 : e < b
                  · have c6z : (e : Int) < (b : Int) := by omega
                    have hc := IH.out mid e b (symM cf f0 (d) a i mid) w7 (by rw [symM_size]; exact hs) S7.out c5 c6 (by omega) (by omega)
                    have HC3 := hid hc
                    clear hc
                    go_wp2_with fail
                    go_at_fn 63
                    refine HC3.out.mono ?_
                    rintro e w' ⟨rfl, S9⟩
                    have S9 : Aside _ := S9
                    go_wp2
                    go_end0
                    refine ⟨rfl, ?_⟩
                    rw [symM_mid cf h1 h2 HM.out HI2.out HE2.out (if_neg (fun h => absurd h.2 (by assumption))) (if_pos ⟨by assumption, by assumption⟩) (if_pos ⟨by assumption, by assumption⟩)]
                    exact S9.out
                  · have c6z : ¬ (e : Int) < (b : Int) := by omega
                    go_wp2
                    go_end0
                    refine ⟨rfl, ?_⟩
                    rw [symM_mid cf h1 h2 HM.out HI2.out HE2.out (if_neg (fun h => absurd h.2 (by assumption))) (if_pos ⟨by assumption, by assumption⟩) (if_neg (fun h => absurd h.2 (by assumption)))]
                    exact S7.out
                · have c5z : ¬ (mid : Int) < (e : Int) := by omega
                  go_wp2
                  go_end0
                  refine ⟨rfl, ?_⟩
                  rw [symM_mid cf h1 h2 HM.out HI2.out HE2.out (if_neg (fun h => absurd h.2 (by assumption))) (if_pos ⟨by assumption, by assumption⟩) (if_neg (fun h => absurd h.1 (by assumption)))]
                  exact S7.out
              · have c4z : ¬ (i : Int) < (mid : Int) := by omega
                by_cases c5 : mid < e
                · have c5z : (mid : Int) < (e : Int) := by omega
                  by_cases c6 : e < b
                  · have c6z : (e : Int) < (b : Int) := by omega
                    have hc := IH.out mid e b (d) wr (by exact hs) S1.out c5 c6 (by omega) (by omega)
                    have HC3 := hid hc
                    clear hc
                    go_wp2_with fail
                    go_at_fn 63
                    refine HC3.out.mono ?_
                    rintro e w' ⟨rfl, S9⟩
                    have S9 : Aside _ := S9
                    go_wp2
                    go_end0
                    refine ⟨rfl, ?_⟩
                    rw [symM_mid cf h1 h2 HM.out HI2.out HE2.out (if_neg (fun h => absurd h.2 (by assumption))) (if_neg (fun h => absurd h.2 (by assumption))) (if_pos ⟨by assumption, by assumption⟩)]
                    exact S9.out
                  · have c6z : ¬ (e : Int) < (b : Int) := by omega
                    go_wp2
                    go_end0
                    refine ⟨rfl, ?_⟩
                    rw [symM_mid cf h1 h2 HM.out HI2.out HE2.out (if_neg (fun h => absurd h.2 (by assumption))) (if_neg (fun h => absurd h.2 (by assumption))) (if_neg (fun h => absurd h.2 (by assumption)))]
                    exact S1.out
                · have c5z : ¬ (mid : Int) < (e : Int) := by omega
                  go_wp2
                  go_end0
                  refine ⟨rfl, ?_⟩
                  rw [symM_mid cf h1 h2 HM.out HI2.out HE2.out (if_neg (fun h => absurd h.2 (by assumption))) (if_neg (fun h => absurd h.2 (by assumption))) (if_neg (fun h => absurd h.1 (by assumption)))]
                  exact S1.out
            · have c3z : ¬ (a : Int) < (i : Int) := by omega
              by_cases c5 : mid < e
              · have c5z : (mid : Int) < (e : Int) := by omega
                by_cases c6 : e < b
                · have c6z : (e : Int) < (b : Int) := by omega
                  have hc := IH.out mid e b (d) wr (by exact hs) S1.out c5 c6 (by omega) (by omega)
                  have HC3 := hid hc
                  clear hc
                  go_wp2_with fail
                  go_at_fn 63
                  refine HC3.out.mono ?_
                  rintro e w' ⟨rfl, S9⟩
                  have S9 : Aside _ := S9
                  go_wp2
                  go_end0
                  refine ⟨rfl, ?_⟩
                  rw [symM_mid cf h1 h2 HM.out HI2.out HE2.out (if_neg (fun h => absurd h.2 (by assumption))) (if_neg (fun h => absurd h.1 (by assumption))) (if_pos ⟨by assumption, by assumption⟩)]
                  exact S9.out
                · have c6z : ¬ (e : Int) < (b : Int) := by omega
                  go_wp2
                  go_end0
                  refine ⟨rfl, ?_⟩
                  rw [symM_mid cf h1 h2 HM.out HI2.out HE2.out (if_neg (fun h => absurd h.2 (by assumption))) (if_neg (fun h => absurd h.1 (by assumption))) (if_neg (fun h => absurd h.2 (by assumption)))]
                  exact S1.out
              · have c5z : ¬ (mid : Int) < (e : Int) := by omega
                go_wp2
                go_end0
                refine ⟨rfl, ?_⟩
                rw [symM_mid cf h1 h2 HM.out HI2.out HE2.out (if_neg (fun h => absurd h.2 (by assumption))) (if_neg (fun h => absurd h.1 (by assumption))) (if_neg (fun h => absurd h.1 (by assumption)))]
                exact S1.out
        · have c1z : ¬ (i : Int) < (m : Int) := by omega
          by_cases c3 : a < i
          · have c3z : (a : Int) < (i : Int) := by omega
            by_cases c4 : i < mid
            · have c4z : (i : Int) < (mid : Int) := by omega
              have hc := IH.out a i mid (d) wr (by exact hs) S1.out c3 c4 (by omega) (by omega)
              have HC2 := hid hc
              clear hc
              go_wp2_with fail
              go_at_fn 63
              refine HC2.out.mono ?_
              rintro e7 w7 ⟨rfl, S7⟩
              have S7 : Aside _ := S7
              by_cases c5 : mid < e
              · have c5z : (mid : Int) < (e : Int) := by omega
                by_cases c6 : e < b
                · have c6z : (e : Int) < (b : Int) := by omega
                  have hc := IH.out mid e b (symM cf f0 (d) a i mid) w7 (by rw [symM_size]; exact hs) S7.out c5 c6 (by omega) (by omega)
                  have HC3 := hid hc
                  clear hc
                  go_wp2_with fail
                  go_at_fn 63
                  refine HC3.out.mono ?_
                  rintro e w' ⟨rfl, S9⟩
                  have S9 : Aside _ := S9
                  go_wp2
                  go_end0
                  refine ⟨rfl, ?_⟩
                  rw [symM_mid cf h1 h2 HM.out HI2.out HE2.out (if_neg (fun h => absurd h.1 (by assumption))) (if_pos ⟨by assumption, by assumption⟩) (if_pos ⟨by assumption, by assumption⟩)]
                  exact S9.out
                · have c6z : ¬ (e : Int) < (b : Int) := by omega
                  go_wp2
                  go_end0
                  refine ⟨rfl, ?_⟩
                  rw [symM_mid cf h1 h2 HM.out HI2.out HE2.out (if_neg (fun h => absurd h.1 (by assumption))) (if_pos ⟨by assumption, by assumption⟩) (if_neg (fun h => absurd h.2 (by assumption)))]
                  exact S7.out
              · have c5z : ¬ (mid : Int) < (e : Int) := by omega
                go_wp2
                go_end0
                refine ⟨rfl, ?_⟩
                rw [symM_mid cf h1 h2 HM.out HI2.out HE2.out (if_neg (fun h => absurd h.1 (by assumption))) (if_pos ⟨by assumption, by assumption⟩) (if_neg (fun h => absurd h.1 (by assumption)))]
                exact S7.out
            · have c4z : ¬ (i : Int) < (mid : Int) := by omega
              by_cases c5 : mid < e
              · have c5z : (mid : Int) < (e : Int) := by omega
                by_cases c6 : e < b
                · have c6z : (e : Int) < (b : Int) := by omega
                  have hc := IH.out mid e b (d) wr (by exact hs) S1.out c5 c6 (by omega) (by omega)
                  have HC3 := hid hc
                  clear hc
                  go_wp2_with fail
                  go_at_fn 63
                  refine HC3.out.mono ?_
                  rintro e w' ⟨rfl, S9⟩
                  have S9 : Aside _ := S9
                  go_wp2
                  go_end0
                  refine ⟨rfl, ?_⟩
                  rw [symM_mid cf h1 h2 HM.out HI2.out HE2.out (if_neg (fun h => absurd h.1 (by assumption))) (if_neg (fun h => absurd h.2 (by assumption))) (if_pos ⟨by assumption, by assumption⟩)]
                  exact S9.out
                · have c6z : ¬ (e : Int) < (b : Int) := by omega
                  go_wp2
                  go_end0
                  refine ⟨rfl, ?_⟩
                  rw [symM_mid cf h1 h2 HM.out HI2.out HE2.out (if_neg (fun h => absurd h.1 (by assumption))) (if_neg (fun h => absurd h.2 (by assumption))) (if_neg (fun h => absurd h.2 (by assumption)))]
                  exact S1.out
              · have c5z : ¬ (mid : Int) < (e : Int) := by omega
                go_wp2
                go_end0
                refine ⟨rfl, ?_⟩
                rw [symM_mid cf h1 h2 HM.out HI2.out HE2.out (if_neg (fun h => absurd h.1 (by assumption))) (if_neg (fun h => absurd h.2 (by assumption))) (if_neg (fun h => absurd h.1 (by assumption)))]
                exact S1.out
          · have c3z : ¬ (a : Int) < (i : Int) := by omega
            by_cases c5 : mid < e
            · have c5z : (mid : Int) < (e : Int) := by omega
              by_cases c6 : e < b
              · have c6z : (e : Int) < (b : Int) := by omega
                have hc := IH.out mid e b (d) wr (by exact hs) S1.out c5 c6 (by omega) (by omega)
                have HC3 := hid hc
                clear hc
                go_wp2_with fail
                go_at_fn 63
                refine HC3.out.mono ?_
                rintro e w' ⟨rfl, S9⟩
                have S9 : Aside _ := S9
                go_wp2
                go_end0
                refine ⟨rfl, ?_⟩
                rw [symM_mid cf h1 h2 HM.out HI2.out HE2.out (if_neg (fun h => absurd h.1 (by assumption))) (if_neg (fun h => absurd h.1 (by assumption))) (if_pos ⟨by assumption, by assumption⟩)]
                exact S9.out
              · have c6z : ¬ (e : Int) < (b : Int) := by omega
                go_wp2
                go_end0
                refine ⟨rfl, ?_⟩
                rw [symM_mid cf h1 h2 HM.out HI2.out HE2.out (if_neg (fun h => absurd h.1 (by assumption))) (if_neg (fun h => absurd h.1 (by assumption))) (if_neg (fun h => absurd h.2 (by assumption)))]
                exact S1.out
            · have c5z : ¬ (mid : Int) < (e : Int) := by omega
              go_wp2
              go_end0
              refine ⟨rfl, ?_⟩
              rw [symM_mid cf h1 h2 HM.out HI2.out HE2.out (if_neg (fun h => absurd h.1 (by assumption))) (if_neg (fun h => absurd h.1 (by assumption))) (if_neg (fun h => absurd h.1 (by assumption)))]
              exact S1.out
  · have hbigz : ¬ (mid : Int) < (m : Int) := by omega
    have hs0 := hid (show a = cutS a m b by unfold cutS; rw [← hmid, if_neg hbig])
    have hr0 := hid (show m = cutR a m b by unfold cutR; rw [← hmid, if_neg hbig])
    have q2 : a ≤ m := by omega
    have q5 : n - a ≤ b := by omega
    have q6 : p < b + a := by omega
    have q7 : n - 1 = p := by omega
    have q8 : n - mid = m := by omega
    have q9 : mid ≤ n := by omega
    clear hmid hn hp
    go_wp2
    go_loopg [20, 21] (m - a) (fun kx si sj wr => ∃ (i j f : Nat), si = .int .i64 (i : Int) ∧ sj = .int .i64 (j : Int) ∧ a ≤ i ∧ i ≤ j ∧ j ≤ m ∧ j - i ≤ kx ∧ Aside (SWK enc k w0 blk off d wr) ∧ Hid (j - i ≤ f ∧ bsr (pMid cf d p) f i j = bsr (pMid cf d p) (m - a) a (m)))
    case atStart => exact ⟨a, m, m - a, rfl, rfl, Nat.le_refl _, by omega, Nat.le_refl _, Nat.le_refl _, S0, (show _ ∧ _ from ⟨Nat.le_refl _, rfl⟩)⟩
    case round =>
      clear S0
      obtain ⟨i, j, f, rfl, rfl, hi0, hij, hj0, hkx, S1, HE⟩ := hrel
      by_cases hlt : i < j
      · have hltz : (i : Int) < (j : Int) := by omega
        obtain ⟨f, rfl⟩ : ∃ f', f = f' + 1 := by have := HE.out.1; exact ⟨f - 1, by omega⟩
        obtain ⟨h, hh⟩ : ∃ h, h = (i + j) / 2 := ⟨_, rfl⟩
        have HH := hid hh
        have HHZ := hid (show ((i : Int) + (j : Int)) / 2 = (h : Int) by omega)
        have hhi : i ≤ h := by omega
        have hhj : h < j := by omega
        clear hh
        obtain ⟨q, hq⟩ : ∃ q, q = p - h := ⟨_, rfl⟩
        have hqz : (p : Int) - (h : Int) = (q : Int) := by omega
        have hq1 : q < b := by omega
        have HQ := hid hq
        clear hq
        go_wp2_with fail
        rw [HHZ.out]
        cases hp : decide (cf d[q]! d[h]! < 0) with
        | true =>
          have PB := hid (show (pMid cf d p) ((i + j) / 2) = false by rw [← HH.out]; simp only [pMid]; rw [← HQ.out, hp]; rfl)
          have exc : ((q : Int) : Int).toNat = q := by omega
          have pxc : (0 : Int) ≤ (q : Int) := by omega
          have bxc : (q : Int) < (d0.size : Int) := by omega
          have rxc : IntKind.i64.wrap ((q : Int)) = (q : Int) := by rw [IntKind.wrap_i64]; omega
          have eyc : ((h : Int) : Int).toNat = h := by omega
          have pyc : (0 : Int) ≤ (h : Int) := by omega
          have byc : (h : Int) < (d0.size : Int) := by omega
          have ryc : IntKind.i64.wrap ((h : Int)) = (h : Int) := by rw [IntKind.wrap_i64]; omega
          obtain ⟨xc, hxc⟩ : ∃ x, x = d[q]! := ⟨_, rfl⟩
          obtain ⟨yc, hyc⟩ : ∃ x, x = d[h]! := ⟨_, rfl⟩
          have lxc := S1.out.ld R (by omega) P (q) (by omega)
          have lyc := S1.out.ld R (by omega) P (h) (by omega)
          rw [← hxc] at lxc
          rw [← hyc] at lyc
          have hcc := S1.out.cmp HC.out (by omega) xc yc
          have hvc : cf xc yc < 0 := by rw [hxc, hyc]; exact of_decide_eq_true hp
          have hdc : decide (cf xc yc < 0) = true := decide_eq_true hvc
          clear hxc hyc
          go_wp2_with fail
          go_quiet_grown (first | (go_at_fn g; refine Calls.grown_of (hcc _ _)))
          have S2 : Aside (SWK enc k w0 blk off d (grow (wr.drewN nq) osq)) := S1.out.grown nq osq
          clear lxc lyc hcc S1
          generalize grow (wr.drewN nq) osq = w2 at S2 ⊢
          clear nq osq
          go_wp2_with fail
          go_roundg (h - i)
          case measure => omega
          case rel => exact ⟨i, h, f, rfl, by go_num, by omega, by omega, by omega, Nat.le_refl _, S2, (show _ ∧ _ from ⟨by have := HE.out.1; omega, by rw [HH.out, ← bsr_dn hlt PB.out]; exact HE.out.2⟩)⟩
        | false =>
          have PB := hid (show (pMid cf d p) ((i + j) / 2) = true by rw [← HH.out]; simp only [pMid]; rw [← HQ.out, hp]; rfl)
          have exc : ((q : Int) : Int).toNat = q := by omega
          have pxc : (0 : Int) ≤ (q : Int) := by omega
          have bxc : (q : Int) < (d0.size : Int) := by omega
          have rxc : IntKind.i64.wrap ((q : Int)) = (q : Int) := by rw [IntKind.wrap_i64]; omega
          have eyc : ((h : Int) : Int).toNat = h := by omega
          have pyc : (0 : Int) ≤ (h : Int) := by omega
          have byc : (h : Int) < (d0.size : Int) := by omega
          have ryc : IntKind.i64.wrap ((h : Int)) = (h : Int) := by rw [IntKind.wrap_i64]; omega
          obtain ⟨xc, hxc⟩ : ∃ x, x = d[q]! := ⟨_, rfl⟩
          obtain ⟨yc, hyc⟩ : ∃ x, x = d[h]! := ⟨_, rfl⟩
          have lxc := S1.out.ld R (by omega) P (q) (by omega)
          have lyc := S1.out.ld R (by omega) P (h) (by omega)
          rw [← hxc] at lxc
          rw [← hyc] at lyc
          have hcc := S1.out.cmp HC.out (by omega) xc yc
          have hvc : ¬ cf xc yc < 0 := by rw [hxc, hyc]; exact of_decide_eq_false hp
          have hdc : decide (cf xc yc < 0) = false := decide_eq_false hvc
          clear hxc hyc
          go_wp2_with fail
          go_quiet_grown (first | (go_at_fn g; refine Calls.grown_of (hcc _ _)))
          have S2 : Aside (SWK enc k w0 blk off d (grow (wr.drewN nq) osq)) := S1.out.grown nq osq
          clear lxc lyc hcc S1
          generalize grow (wr.drewN nq) osq = w2 at S2 ⊢
          clear nq osq
          go_wp2_with fail
          go_roundg (j - (h + 1))
          case measure => omega
          case rel => exact ⟨h + 1, j, f, by go_num, rfl, by omega, by omega, by omega, Nat.le_refl _, S2, (show _ ∧ _ from ⟨by have := HE.out.1; omega, by rw [HH.out, ← bsr_up hlt PB.out]; exact HE.out.2⟩)⟩
      · have hltz : ¬ (i : Int) < (j : Int) := by omega
        have HI := hid (show i = bsr (pMid cf d p) (m - a) a (m) from (bsr_done hlt).symm.trans HE.out.2)
        clear HE
        obtain ⟨e, he⟩ : ∃ e, e = n - i := ⟨_, rfl⟩
        have hez : (n : Int) - (i : Int) = (e : Int) := by omega
        have hme : m ≤ e := by omega
        have heb : e ≤ b := by omega
        have HE2 := hid (show e = mid + m - i by omega)
        have HI2 := hid (show i = cut cf d a m b by rw [HI.out]; unfold cut; rw [← hs0.out, ← hr0.out, ← hp0.out])
        clear he
        by_cases c1 : i < m
        · have c1z : (i : Int) < (m : Int) := by omega
          by_cases c2 : m < e
          · have c2z : (m : Int) < (e : Int) := by omega
            have hc := rotate_any G (.func (.func g) #[] cb) cap i m e d wr hs S1.out c1 c2 (by omega)
            have HC1 := hid hc
            clear hc
            go_wp2_with fail
            go_at_fn 74
            refine HC1.out.mono ?_
            rintro e6 w6 ⟨rfl, S6⟩
            have S6 : Aside _ := S6
            by_cases c3 : a < i
            · have c3z : (a : Int) < (i : Int) := by omega
              by_cases c4 : i < mid
              · have c4z : (i : Int) < (mid : Int) := by omega
                have hc := IH.out a i mid (rot m (e - i) (m - i) (e - m) d) w6 (by rw [rot_size]; exact hs) S6.out c3 c4 (by omega) (by omega)
                have HC2 := hid hc
                clear hc
                go_wp2_with fail
                go_at_fn 63
                refine HC2.out.mono ?_
                rintro e7 w7 ⟨rfl, S7⟩
                have S7 : Aside _ := S7
                by_cases c5 : mid < e
                · have c5z : (mid : Int) < (e : Int) := by omega
                  by_cases c6 : e < b
                  · have c6z : (e : Int) < (b : Int) := by omega
                    have hc := IH.out mid e b (symM cf f0 (rot m (e - i) (m - i) (e - m) d) a i mid) w7 (by rw [symM_size, rot_size]; exact hs) S7.out c5 c6 (by omega) (by omega)
                    have HC3 := hid hc
                    clear hc
                    go_wp2_with fail
                    go_at_fn 63
                    refine HC3.out.mono ?_
                    rintro e w' ⟨rfl, S9⟩
                    have S9 : Aside _ := S9
                    go_wp2
                    go_end0
                    refine ⟨rfl, ?_⟩
                    rw [symM_mid cf h1 h2 HM.out HI2.out HE2.out (if_pos ⟨by assumption, by assumption⟩) (if_pos ⟨by assumption, by assumption⟩) (if_pos ⟨by assumption, by assumption⟩)]
                    exact S9.out
                  · have c6z : ¬ (e : Int) < (b : Int) := by omega
                    go_wp2
                    go_end0
                    refine ⟨rfl, ?_⟩
                    rw [symM_mid cf h1 h2 HM.out HI2.out HE2.out (if_pos ⟨by assumption, by assumption⟩) (if_pos ⟨by assumption, by assumption⟩) (if_neg (fun h => absurd h.2 (by assumption)))]
                    exact S7.out
                · have c5z : ¬ (mid : Int) < (e : Int) := by omega
                  go_wp2
                  go_end0
                  refine ⟨rfl, ?_⟩
                  rw [symM_mid cf h1 h2 HM.out HI2.out HE2.out (if_pos ⟨by assumption, by assumption⟩) (if_pos ⟨by assumption, by assumption⟩) (if_neg (fun h => absurd h.1 (by assumption)))]
                  exact S7.out
              · have c4z : ¬ (i : Int) < (mid : Int) := by omega
                by_cases c5 : mid < e
                · have c5z : (mid : Int) < (e : Int) := by omega
                  by_cases c6 : e < b
                  · have c6z : (e : Int) < (b : Int) := by omega
                    have hc := IH.out mid e b (rot m (e - i) (m - i) (e - m) d) w6 (by rw [rot_size]; exact hs) S6.out c5 c6 (by omega) (by omega)
                    have HC3 := hid hc
                    clear hc
                    go_wp2_with fail
                    go_at_fn 63
                    refine HC3.out.mono ?_
                    rintro e w' ⟨rfl, S9⟩
                    have S9 : Aside _ := S9
                    go_wp2
                    go_end0
                    refine ⟨rfl, ?_⟩
                    rw [symM_mid cf h1 h2 HM.out HI2.out HE2.out (if_pos ⟨by assumption, by assumption⟩) (if_neg (fun h => absurd h.2 (by assumption))) (if_pos ⟨by assumption, by assumption⟩)]
                    exact S9.out
                  · have c6z : ¬ (e : Int) < (b : Int) := by omega
                    go_wp2
                    go_end0
                    refine ⟨rfl, ?_⟩
                    rw [symM_mid cf h1 h2 HM.out HI2.out HE2.out (if_pos ⟨by assumption, by assumption⟩) (if_neg (fun h => absurd h.2 (by assumption))) (if_neg (fun h => absurd h.2 (by assumption)))]
                    exact S6.out
                · have c5z : ¬ (mid : Int) < (e : Int) := by omega
                  go_wp2
                  go_end0
                  refine ⟨rfl, ?_⟩
                  rw [symM_mid cf h1 h2 HM.out HI2.out HE2.out (if_pos ⟨by assumption, by assumption⟩) (if_neg (fun h => absurd h.2 (by assumption))) (if_neg (fun h => absurd h.1 (by assumption)))]
                  exact S6.out
            · have c3z : ¬ (a : Int) < (i : Int) := by omega
              by_cases c5 : mid < e
              · have c5z : (mid : Int) < (e : Int) := by omega
                by_cases c6 : e < b
                · have c6z : (e : Int) < (b : Int) := by omega
                  have hc := IH.out mid e b (rot m (e - i) (m - i) (e - m) d) w6 (by rw [rot_size]; exact hs) S6.out c5 c6 (by omega) (by omega)
                  have HC3 := hid hc
                  clear hc
                  go_wp2_with fail
                  go_at_fn 63
                  refine HC3.out.mono ?_
                  rintro e w' ⟨rfl, S9⟩
                  have S9 : Aside _ := S9
                  go_wp2
                  go_end0
                  refine ⟨rfl, ?_⟩
                  rw [symM_mid cf h1 h2 HM.out HI2.out HE2.out (if_pos ⟨by assumption, by assumption⟩) (if_neg (fun h => absurd h.1 (by assumption))) (if_pos ⟨by assumption, by assumption⟩)]
                  exact S9.out
                · have c6z : ¬ (e : Int) < (b : Int) := by omega
                  go_wp2
                  go_end0
                  refine ⟨rfl, ?_⟩
                  rw [symM_mid cf h1 h2 HM.out HI2.out HE2.out (if_pos ⟨by assumption, by assumption⟩) (if_neg (fun h => absurd h.1 (by assumption))) (if_neg (fun h => absurd h.2 (by assumption)))]
                  exact S6.out
              · have c5z : ¬ (mid : Int) < (e : Int) := by omega
                go_wp2
                go_end0
                refine ⟨rfl, ?_⟩
                rw [symM_mid cf h1 h2 HM.out HI2.out HE2.out (if_pos ⟨by assumption, by assumption⟩) (if_neg (fun h => absurd h.1 (by assumption))) (if_neg (fun h => absurd h.1 (by assumption)))]
                exact S6.out
          · have c2z : ¬ (m : Int) < (e : Int) := by omega
            by_cases c3 : a < i
            · have c3z : (a : Int) < (i : Int) := by omega
              by_cases c4 : i < mid
              · have c4z : (i : Int) < (mid : Int) := by omega
                have hc := IH.out a i mid (d) wr (by exact hs) S1.out c3 c4 (by omega) (by omega)
                have HC2 := hid hc
                clear hc
                go_wp2_with fail
                go_at_fn 63
                refine HC2.out.mono ?_
                rintro e7 w7 ⟨rfl, S7⟩
                have S7 : Aside _ := S7
                by_cases c5 : mid < e
                · have c5z : (mid : Int) < (e : Int) := by omega
                  by_cases c6 : e < b
                  · have c6z : (e : Int) < (b : Int) := by omega
                    have hc := IH.out mid e b (symM cf f0 (d) a i mid) w7 (by rw [symM_size]; exact hs) S7.out c5 c6 (by omega) (by omega)
                    have HC3 := hid hc
                    clear hc
                    go_wp2_with fail
                    go_at_fn 63
                    refine HC3.out.mono ?_
                    rintro e w' ⟨rfl, S9⟩
                    have S9 : Aside _ := S9
                    go_wp2
                    go_end0
                    refine ⟨rfl, ?_⟩
                    rw [symM_mid cf h1 h2 HM.out HI2.out HE2.out (if_neg (fun h => absurd h.2 (by assumption))) (if_pos ⟨by assumption, by assumption⟩) (if_pos ⟨by assumption, by assumption⟩)]
                    exact S9.out
                  · have c6z : ¬ (e : Int) < (b : Int) := by omega
                    go_wp2
                    go_end0
                    refine ⟨rfl, ?_⟩
                    rw [symM_mid cf h1 h2 HM.out HI2.out HE2.out (if_neg (fun h => absurd h.2 (by assumption))) (if_pos ⟨by assumption, by assumption⟩) (if_neg (fun h => absurd h.2 (by assumption)))]
                    exact S7.out
                · have c5z : ¬ (mid : Int) < (e : Int) := by omega
                  go_wp2
                  go_end0
                  refine ⟨rfl, ?_⟩
                  rw [symM_mid cf h1 h2 HM.out HI2.out HE2.out (if_neg (fun h => absurd h.2 (by assumption))) (if_pos ⟨by assumption, by assumption⟩) (if_neg (fun h => absurd h.1 (by assumption)))]
                  exact S7.out
              · have c4z : ¬ (i : Int) < (mid : Int) := by omega
                by_cases c5 : mid < e
                · have c5z : (mid : Int) < (e : Int) := by omega
                  by_cases c6 : e < b
                  · have c6z : (e : Int) < (b : Int) := by omega
                    have hc := IH.out mid e b (d) wr (by exact hs) S1.out c5 c6 (by omega) (by omega)
                    have HC3 := hid hc
                    clear hc
                    go_wp2_with fail
                    go_at_fn 63
                    refine HC3.out.mono ?_
                    rintro e w' ⟨rfl, S9⟩
                    have S9 : Aside _ := S9
                    go_wp2
                    go_end0
                    refine ⟨rfl, ?_⟩
                    rw [symM_mid cf h1 h2 HM.out HI2.out HE2.out (if_neg (fun h => absurd h.2 (by assumption))) (if_neg (fun h => absurd h.2 (by assumption))) (if_pos ⟨by assumption, by assumption⟩)]
                    exact S9.out
                  · have c6z : ¬ (e : Int) < (b : Int) := by omega
                    go_wp2
                    go_end0
                    refine ⟨rfl, ?_⟩
                    rw [symM_mid cf h1 h2 HM.out HI2.out HE2.out (if_neg (fun h => absurd h.2 (by assumption))) (if_neg (fun h => absurd h.2 (by assumption))) (if_neg (fun h => absurd h.2 (by assumption)))]
                    exact S1.out
                · have c5z : ¬ (mid : Int) < (e : Int) := by omega
                  go_wp2
                  go_end0
                  refine ⟨rfl, ?_⟩
                  rw [symM_mid cf h1 h2 HM.out HI2.out HE2.out (if_neg (fun h => absurd h.2 (by assumption))) (if_neg (fun h => absurd h.2 (by assumption))) (if_neg (fun h => absurd h.1 (by assumption)))]
                  exact S1.out
            · have c3z : ¬ (a : Int) < (i : Int) := by omega
              by_cases c5 : mid < e
              · have c5z : (mid : Int) < (e : Int) := by omega
                by_cases c6 : e < b
                · have c6z : (e : Int) < (b : Int) := by omega
                  have hc := IH.out mid e b (d) wr (by exact hs) S1.out c5 c6 (by omega) (by omega)
                  have HC3 := hid hc
                  clear hc
                  go_wp2_with fail
                  go_at_fn 63
                  refine HC3.out.mono ?_
                  rintro e w' ⟨rfl, S9⟩
                  have S9 : Aside _ := S9
                  go_wp2
                  go_end0
                  refine ⟨rfl, ?_⟩
                  rw [symM_mid cf h1 h2 HM.out HI2.out HE2.out (if_neg (fun h => absurd h.2 (by assumption))) (if_neg (fun h => absurd h.1 (by assumption))) (if_pos ⟨by assumption, by assumption⟩)]
                  exact S9.out
                · have c6z : ¬ (e : Int) < (b : Int) := by omega
                  go_wp2
                  go_end0
                  refine ⟨rfl, ?_⟩
                  rw [symM_mid cf h1 h2 HM.out HI2.out HE2.out (if_neg (fun h => absurd h.2 (by assumption))) (if_neg (fun h => absurd h.1 (by assumption))) (if_neg (fun h => absurd h.2 (by assumption)))]
                  exact S1.out
              · have c5z : ¬ (mid : Int) < (e : Int) := by omega
                go_wp2
                go_end0
                refine ⟨rfl, ?_⟩
                rw [symM_mid cf h1 h2 HM.out HI2.out HE2.out (if_neg (fun h => absurd h.2 (by assumption))) (if_neg (fun h => absurd h.1 (by assumption))) (if_neg (fun h => absurd h.1 (by assumption)))]
                exact S1.out
        · have c1z : ¬ (i : Int) < (m : Int) := by omega
          by_cases c3 : a < i
          · have c3z : (a : Int) < (i : Int) := by omega
            by_cases c4 : i < mid
            · have c4z : (i : Int) < (mid : Int) := by omega
              have hc := IH.out a i mid (d) wr (by exact hs) S1.out c3 c4 (by omega) (by omega)
              have HC2 := hid hc
              clear hc
              go_wp2_with fail
              go_at_fn 63
              refine HC2.out.mono ?_
              rintro e7 w7 ⟨rfl, S7⟩
              have S7 : Aside _ := S7
              by_cases c5 : mid < e
              · have c5z : (mid : Int) < (e : Int) := by omega
                by_cases c6 : e < b
                · have c6z : (e : Int) < (b : Int) := by omega
                  have hc := IH.out mid e b (symM cf f0 (d) a i mid) w7 (by rw [symM_size]; exact hs) S7.out c5 c6 (by omega) (by omega)
                  have HC3 := hid hc
                  clear hc
                  go_wp2_with fail
                  go_at_fn 63
                  refine HC3.out.mono ?_
                  rintro e w' ⟨rfl, S9⟩
                  have S9 : Aside _ := S9
                  go_wp2
                  go_end0
                  refine ⟨rfl, ?_⟩
                  rw [symM_mid cf h1 h2 HM.out HI2.out HE2.out (if_neg (fun h => absurd h.1 (by assumption))) (if_pos ⟨by assumption, by assumption⟩) (if_pos ⟨by assumption, by assumption⟩)]
                  exact S9.out
                · have c6z : ¬ (e : Int) < (b : Int) := by omega
                  go_wp2
                  go_end0
                  refine ⟨rfl, ?_⟩
                  rw [symM_mid cf h1 h2 HM.out HI2.out HE2.out (if_neg (fun h => absurd h.1 (by assumption))) (if_pos ⟨by assumption, by assumption⟩) (if_neg (fun h => absurd h.2 (by assumption)))]
                  exact S7.out
              · have c5z : ¬ (mid : Int) < (e : Int) := by omega
                go_wp2
                go_end0
                refine ⟨rfl, ?_⟩
                rw [symM_mid cf h1 h2 HM.out HI2.out HE2.out (if_neg (fun h => absurd h.1 (by assumption))) (if_pos ⟨by assumption, by assumption⟩) (if_neg (fun h => absurd h.1 (by assumption)))]
                exact S7.out
            · have c4z : ¬ (i : Int) < (mid : Int) := by omega
              by_cases c5 : mid < e
              · have c5z : (mid : Int) < (e : Int) := by omega
                by_cases c6 : e < b
                · have c6z : (e : Int) < (b : Int) := by omega
                  have hc := IH.out mid e b (d) wr (by exact hs) S1.out c5 c6 (by omega) (by omega)
                  have HC3 := hid hc
                  clear hc
                  go_wp2_with fail
                  go_at_fn 63
                  refine HC3.out.mono ?_
                  rintro e w' ⟨rfl, S9⟩
                  have S9 : Aside _ := S9
                  go_wp2
                  go_end0
                  refine ⟨rfl, ?_⟩
                  rw [symM_mid cf h1 h2 HM.out HI2.out HE2.out (if_neg (fun h => absurd h.1 (by assumption))) (if_neg (fun h => absurd h.2 (by assumption))) (if_pos ⟨by assumption, by assumption⟩)]
                  exact S9.out
                · have c6z : ¬ (e : Int) < (b : Int) := by omega
                  go_wp2
                  go_end0
                  refine ⟨rfl, ?_⟩
                  rw [symM_mid cf h1 h2 HM.out HI2.out HE2.out (if_neg (fun h => absurd h.1 (by assumption))) (if_neg (fun h => absurd h.2 (by assumption))) (if_neg (fun h => absurd h.2 (by assumption)))]
                  exact S1.out
              · have c5z : ¬ (mid : Int) < (e : Int) := by omega
                go_wp2
                go_end0
                refine ⟨rfl, ?_⟩
                rw [symM_mid cf h1 h2 HM.out HI2.out HE2.out (if_neg (fun h => absurd h.1 (by assumption))) (if_neg (fun h => absurd h.2 (by assumption))) (if_neg (fun h => absurd h.1 (by assumption)))]
                exact S1.out
          · have c3z : ¬ (a : Int) < (i : Int) := by omega
            by_cases c5 : mid < e
            · have c5z : (mid : Int) < (e : Int) := by omega
              by_cases c6 : e < b
              · have c6z : (e : Int) < (b : Int) := by omega
                have hc := IH.out mid e b (d) wr (by exact hs) S1.out c5 c6 (by omega) (by omega)
                have HC3 := hid hc
                clear hc
                go_wp2_with fail
                go_at_fn 63
                refine HC3.out.mono ?_
                rintro e w' ⟨rfl, S9⟩
                have S9 : Aside _ := S9
                go_wp2
                go_end0
                refine ⟨rfl, ?_⟩
                rw [symM_mid cf h1 h2 HM.out HI2.out HE2.out (if_neg (fun h => absurd h.1 (by assumption))) (if_neg (fun h => absurd h.1 (by assumption))) (if_pos ⟨by assumption, by assumption⟩)]
                exact S9.out
              · have c6z : ¬ (e : Int) < (b : Int) := by omega
                go_wp2
                go_end0
                refine ⟨rfl, ?_⟩
                rw [symM_mid cf h1 h2 HM.out HI2.out HE2.out (if_neg (fun h => absurd h.1 (by assumption))) (if_neg (fun h => absurd h.1 (by assumption))) (if_neg (fun h => absurd h.2 (by assumption)))]
                exact S1.out
            · have c5z : ¬ (mid : Int) < (e : Int) := by omega
              go_wp2
              go_end0
              refine ⟨rfl, ?_⟩
              rw [symM_mid cf h1 h2 HM.out HI2.out HE2.out (if_neg (fun h => absurd h.1 (by assumption))) (if_neg (fun h => absurd h.1 (by assumption))) (if_neg (fun h => absurd h.1 (by assumption)))]
              exact S1.out

/-- the whole of it -/
theorem symMerge_any (G : SRow P enc k w0 blk off d0) (cf : α → α → Int) (g : Nat) (cb : Array Value) (eg : ∀ args w, (callFunc g args).run P w = .ok (.enter g args) w) (hcmp : CmpLays P g cb enc k cf blk off d0.size w0) (cap : Nat) (f : Nat) : ∀ (a m b : Nat) (d : Array α) (w : World), d.size = d0.size → SWK enc k w0 blk off d w → a < m → m < b → b ≤ d0.size → b - a ≤ f →
    Calls P 63 #[.slice (some ⟨blk, off, none⟩) d0.size cap, .int .i64 (a : Int), .int .i64 (m : Int), .int .i64 (b : Int), .func (.func g) #[] cb] w fun e w' =>
      e = .returned (.tuple #[]) ∧ SWK enc k w0 blk off (symM cf f d a m b) w' := by
  induction f with
  | zero => intro a m b d w _ _ h1 h2 _ h3; omega
  | succ f ih =>
    intro a m b d w hs S ha hm hb hf
    by_cases h1 : m - a = 1
    · exact symUp_any G cf g cb eg hcmp cap f a m b d w hs S ha hm hb h1
    · by_cases h2 : b - m = 1
      · exact symDn_any G cf g cb eg hcmp cap f a m b d w hs S ha hm hb h1 h2
      · exact symMid_any G cf g cb eg hcmp cap f a m b d w hs S ha hm hb h1 h2 ih hf

end Go.Proofs.Ytcdjbacljnofiaa

namespace Go.Proofs.Ytcdjbacljnofiaa
open Go Go.Shelf Go.RowKit Go.Sort Go.Lib
variable {P : Program} {α : Type} [Inhabited α] {enc : α → List Value} {k : Nat} {w0 : World} {blk off : Nat} {d0 : Array α}

def insRen : Go.Shelf.Ren := ⟨fun | 20 => 62 | n => n, fun | 0 => 0 | 3 => 3 | 4 => 4 | 22 => 23 | 24 => 43 | 25 => 50 | n => n, fun n => n⟩
theorem insLays (L : SLaid P k) : SlLaysF0.n20 P insRen where
  mixed := L.mixed
  f20 := ⟨ "slices.insertionSortCmpFunc[lapstone/api.Write]", by decide, L.insert.trans (congrArg some (by kernel_rfl))⟩
  t0 := L.t0
  a0 := L.a0
  z0 := L.z0
  v0 := L.v0
  t3 := L.t3
  a3 := L.a3
  z3 := L.z3
  v3 := L.v3
  t4 := L.t4
  a4 := L.a4
  z4 := L.z4
  v4 := L.v4
  t22 := L.t23
  a22 := L.a23
  z22 := L.z23
  v22 := L.v23
  t25 := L.t50
  a25 := L.a50
  z25 := L.z50
  v25 := L.v50

theorem CmpLays.on {g : Nat} {cb : Array Value} {cf : α → α → Int} {size : Nat} {W : World} {d : Array α} (h : CmpLays P g cb enc k cf blk off size w0) (S : SWK enc k w0 blk off d W) (hblk : blk < w0.heap.size) (hs : d.size = size) : CmpLays P g cb enc k cf blk off size W := by
  intro m os dk hd x y
  obtain ⟨n', os', e⟩ : SWK enc k w0 blk off dk (sortWorldK enc k W blk off m dk os) := S.on hblk m dk os (by rw [hd, hs])
  rw [e]
  exact h n' os' dk hd x y

theorem insInner_size {α : Type} [Inhabited α] (lt : α → α → Bool) (a : Nat) : ∀ (j : Nat) (d : Array α), (insInner lt a j d).size = d.size
  | 0, d => rfl
  | j + 1, d => by
    rw [insInner]
    split
    · rw [insInner_size lt a j, size_swp]
    · rfl
theorem insOuter_size {α : Type} [Inhabited α] (lt : α → α → Bool) (a b : Nat) : ∀ (n i : Nat) (d : Array α), b - i = n → (insOuter lt a b i d).size = d.size
  | 0, i, d, h => by rw [insOuter, if_neg (by omega)]
  | n + 1, i, d, h => by rw [insOuter, if_pos (by omega), insOuter_size lt a b n (i + 1) _ (by omega), insInner_size]
theorem insertionSort_size {α : Type} [Inhabited α] (lt : α → α → Bool) (d : Array α) (a b : Nat) : (Sort.insertionSort lt d a b).size = d.size := insOuter_size lt a b _ _ _ rfl

theorem insert_any (G : SRow P enc k w0 blk off d0) (cf : α → α → Int) (g : Nat) (cb : Array Value) (eg : ∀ args w, (callFunc g args).run P w = .ok (.enter g args) w) (hcmp : CmpLays P g cb enc k cf blk off d0.size w0) (cap a b : Nat) (d : Array α) (w : World) (hs : d.size = d0.size) (S : SWK enc k w0 blk off d w) (hab : a ≤ b) (hb : b ≤ d0.size) :
    Calls P 62 #[.slice (some ⟨blk, off, none⟩) d0.size cap, .int .i64 (a : Int), .int .i64 (b : Int), .func (.func g) #[] cb] w fun e w' =>
      e = .returned (.tuple #[]) ∧ SWK enc k w0 blk off (Sort.insertionSort (ltOf cf) d a b) w' := by
  have h := AnyQ.insertionSortCmpFunc (insLays G.L) k G.L.aE G.L.zE enc G.R.hk G.R.h1 cf g cb blk off cap a b d w eg (by rw [hs]; exact CmpLays.on hcmp S G.R.hblk hs) (S.holds G.R.hblk G.R.hH hs) (S.lt G.R.hblk) hab (by rw [hs]; exact hb) (by have := G.sz; omega)
  rw [hs] at h
  refine Calls.mono h ?_
  rintro e w' ⟨rfl, n, os, rfl⟩
  refine ⟨rfl, S.on G.R.hblk n _ os ?_⟩
  rw [insertionSort_size]

end Go.Proofs.Ytcdjbacljnofiaa
