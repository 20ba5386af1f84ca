/-
  The document's Append of a log: under way, the ways that change nothing.
-/
import Derived.Test.YtobmdmbjmjdfjaaGreatDoorR8Trunc
import Derived.Test.YtobmdmbjmjdfjaaGreatDoorJRec
import Derived.Test.YtobmdmbjmjdfjaaGreatDoorR8Bump
import Derived.Deep.CutRange
namespace Go.Proofs.YtobmdmbjmjdfjaaGreatDoor
open Go Go.RowKit

structure Ap8 (s : Dk) (l : Wl) (body : List UInt8) : Prop where
  body : body.length ≤ 32768
  size : 1 ≤ l.size
  i : ∀ x ∈ l.live, x.i < l.n ∧ x.base < 18446744073709551616 ∧ x.count < 18446744073709551616
  cur : l.stream ≠ [] → l.live ≠ []
  stream : l.stream.length ≤ 512 * l.size
  place : l.at_ + l.n * l.size ≤ 65536
  pend : s.pend.length ≤ 800000
  room : ¬ l.fresh < 0 → l.live.length + 1 ≤ 64
theorem ap_last {s : Dk} {l : Wl} {body st0 : List UInt8} {live' : List Sg} {K from_ : Nat} {fr : Int} {z : Sg} (ha : Ap8 s l body) (hn : l.n ≤ 64)
    (hd : ApTo l body live' st0 from_ fr)
    (hz : live'[K]? = some z) (hl : K + 1 = live'.length) : z.i ≤ 64 := by
  rcases hd with h | h
  · rw [h.2.2.1] at hz hl
    have hk9 : K = l.live.length := by rw [List.length_append, List.length_singleton] at hl; omega
    subst hk9
    rw [List.getElem?_append_right (Nat.le_refl _), Nat.sub_self] at hz
    simp at hz
    have h4 := nextI_lt (fun i => !usedBy l.live i) l.n l.n (Nat.le_refl _)
    have h5 : l.fresh < (l.n : Int) := h4
    rw [← hz]
    show l.fresh.toNat ≤ 64
    omega
  · rw [h.2.1] at hz
    have := ha.i z (List.mem_of_getElem? hz)
    omega
theorem ap_from {s : Dk} {l : Wl} {body st0 : List UInt8} {live' : List Sg} {from_ fs : Nat} {fr : Int} (ha : Ap8 s l body) (hs : l.size ≤ 64)
    (hd : ApTo l body live' st0 from_ fr)
    (hf : fs = from_ / 512) : fs ≤ 200 := by
  have := ha.stream
  rcases hd with h | h
  · rw [hf, h.2.2.2.2.1]; decide
  · rw [hf, h.2.2.2.1]; omega
theorem wrap_200 {k : Nat} (h : k ≤ 200) : wrap64 (k : Int) = (k : Int) := by unfold wrap64; omega
theorem wrap_small {k : Nat} (h : k ≤ 64) : wrap64 (k : Int) = (k : Int) := by unfold wrap64; omega
theorem wrap_small2 {k : Nat} (h : k ≤ 64) : IntKind.i64.wrap (k : Int) = (k : Int) := by rw [IntKind.wrap_i64]; omega
theorem wrap_512 {k q : Nat} (h : k ≤ 200) (hq : q = 512 * k) : IntKind.i64.wrap (512 * (k : Int)) = (q : Int) := by rw [IntKind.wrap_i64]; omega
def PPB (P : Nat → Prop) (w : World) (gn : Nat) (Al : Option Addr) (ml cl : Nat) : Nat → Prop := fun k => (P k ∧ k < w.heap.size) ∨ (w.heap.size + 2 ≤ k ∧ k ≠ gn ∧ (Value.slice Al ml cl).ownBlock ≠ some k)
theorem bump_len : ∀ L : List Sg, (Wl.bump L).length = L.length
  | [] => rfl
  | [_] => rfl
  | _ :: y :: L => by
    show (Wl.bump (y :: L)).length + 1 = _
    rw [bump_len (y :: L)]
    rfl
theorem app_made {P P' : Nat → Prop} {w w0 : World} {v0 : Value} {s s1 : Dk} {l : Wl} {body st0 st : List UInt8} {live' : List Sg} {from_ K c' bb off : Nat} {fr : Int} {a b : Int} {A1 A2 A3 : Option Addr} {n1 n2 n3 c1 c2 c3 : Nat}
    (h : W8 P w0 v0 s l) (ha : Ap8 s l body) (hd : ApTo l body live' st0 from_ fr) (hl : K + 1 = live'.length) (hst : st.length ≤ 40000)
    (hD : D6 P' w (.agg #[.int .i64 a, .int .i64 b, .slice A1 n1 c1, .slice A2 n2 c2, .slice A3 n3 c3]) s1) (hG : GAt eSg w w.heap.size (some ⟨bb, off, none⟩) (Wl.bump live')) (hI : P' bb) (hc : K + 1 ≤ c') :
    W8 P' w (.agg #[.int .i64 a, .int .i64 b, .slice A1 n1 c1, .slice A2 n2 c2, .slice A3 n3 c3, .int .i64 (l.at_ : Int), .int .i64 (l.n : Int), .int .i64 (l.size : Int), .slice (some ⟨bb, off, none⟩) (K + 1) c', .string (bst st), .int .u64 (l.seq : Int), .int .u64 (l.synced : Int)]) s1 { l with live := Wl.bump live', stream := st, last := l.seq } := by
  have hlen : (Wl.bump live').length = K + 1 := by rw [bump_len, hl]
  have h64 : K + 1 ≤ 64 := by
    rcases hd with h1 | h1
    · have := ha.room h1.2.1
      rw [hl, h1.2.2.1, List.length_append, List.length_singleton]
      exact this
    · rw [hl, h1.2.1]
      exact h.live
  refine ⟨⟨a, b, A1, A2, A3, some ⟨bb, off, none⟩, n1, n2, n3, c1, c2, c3, c', ?_, hD, hG, ?_, ?_⟩, h.at_, h.n, h.size, ?_, m64_lt _, h.synced, hst⟩
  · show _ = Value.agg #[_, _, _, _, _, _, _, _, .slice _ (Wl.bump live').length _, _, _, _]
    rw [hlen]
  · intro b' off' e' _
    injection e' with e'
    injection e' with e1 _ _
    subst e1
    exact hI
  · show (Wl.bump live').length ≤ c'
    rw [hlen]
    exact hc
  · show (Wl.bump live').length ≤ 64
    rw [hlen]
    exact h64
theorem wrap_q512 {k q : Nat} (h : k ≤ 200) (hq : q = 512 * k) : IntKind.i64.wrap ((q : Int) + 512) = ((q + 512 : Nat) : Int) := by rw [IntKind.wrap_i64]; omega
theorem wrap_mul1 {i n : Nat} (h : i ≤ 64) (hn : n ≤ 64) : IntKind.i64.wrap ((i : Int) * (n : Int)) = (i : Int) * (n : Int) := by
  have : i * n ≤ 64 * 64 := Nat.mul_le_mul h hn
  rw [IntKind.wrap_i64]
  have e : (i : Int) * (n : Int) = ((i * n : Nat) : Int) := by simp
  omega
theorem wrap_mul2 {p a i n : Nat} (hp : p = a + i * n) (ha : a ≤ 65536) (h : i ≤ 64) (hn : n ≤ 64) : IntKind.i64.wrap ((a : Int) + (i : Int) * (n : Int)) = (p : Int) := by
  have : i * n ≤ 64 * 64 := Nat.mul_le_mul h hn
  have e : (i : Int) * (n : Int) = ((i * n : Nat) : Int) := by simp
  rw [IntKind.wrap_i64, e]
  omega
theorem wrap_mul3 {p a i n k : Nat} (hp : p = a + i * n) (ha : a ≤ 65536) (h : i ≤ 64) (hn : n ≤ 64) (hk : k ≤ 200) : IntKind.i64.wrap ((p : Int) + (k : Int)) = (p : Int) + (k : Int) := by
  have : i * n ≤ 64 * 64 := Nat.mul_le_mul h hn
  rw [IntKind.wrap_i64]
  omega
theorem off5 {w : World} {g j : Nat} (h : j ≠ g) (v0 v1 v2 v3 v4 : Value) : (((((w.setCell ⟨g, 0, none⟩ v0).setCell ⟨g, 1, none⟩ v1).setCell ⟨g, 2, none⟩ v2).setCell ⟨g, 3, none⟩ v3).setCell ⟨g, 4, none⟩ v4).heap[j]? = w.heap[j]? := by
  rw [Below.heap_setCell _ _ _ _ h, Below.heap_setCell _ _ _ _ h, Below.heap_setCell _ _ _ _ h, Below.heap_setCell _ _ _ _ h, Below.heap_setCell _ _ _ _ h]
theorem off6 {w : World} {g j : Nat} (h : j ≠ g) (v0 v1 v2 v3 v4 v9 : Value) : ((((((w.setCell ⟨g, 0, none⟩ v0).setCell ⟨g, 1, none⟩ v1).setCell ⟨g, 2, none⟩ v2).setCell ⟨g, 3, none⟩ v3).setCell ⟨g, 4, none⟩ v4).setCell ⟨g, 9, none⟩ v9).heap[j]? = w.heap[j]? := by
  rw [Below.heap_setCell _ _ _ _ h, off5 h]
def Q8 (P : Nat → Prop) (w : World) : Nat → Prop := fun j => (P j ∧ j < w.heap.size) ∨ w.heap.size + 2 ≤ j
theorem w8_cut {P : Nat → Prop} {w w' : World} {s s' : Dk} {l : Wl} {a b a3 b3 : Int} {A1 A2 A3 C1 C2 C3 A : Option Addr} {n1 n2 n3 c1 c2 c3 k1 k2 k3 e1 e2 e3 nl c : Nat} (h : W8 P w (.agg #[.int .i64 a, .int .i64 b, .slice A1 n1 c1, .slice A2 n2 c2, .slice A3 n3 c3, .int .i64 (l.at_ : Int), .int .i64 (l.n : Int), .int .i64 (l.size : Int), .slice A nl c, .string (bst l.stream), .int .u64 (l.last : Int), .int .u64 (l.synced : Int)]) s l) (hb : Below w.heap.size w w')
    (hD : D6 (Q8 P w) w' (.agg #[.int .i64 a3, .int .i64 b3, .slice C1 k1 e1, .slice C2 k2 e2, .slice C3 k3 e3]) s') : W8 (Q8 P w) w' (.agg #[.int .i64 a3, .int .i64 b3, .slice C1 k1 e1, .slice C2 k2 e2, .slice C3 k3 e3, .int .i64 (l.at_ : Int), .int .i64 (l.n : Int), .int .i64 (l.size : Int), .slice A nl c, .string ⟨#[]⟩, .int .u64 (l.last : Int), .int .u64 (l.synced : Int)]) s' { l with stream := [] } := by
  obtain ⟨a', b', A1', A2', A3', A', n1', n2', n3', c1', c2', c3', c', hv, h1, h2, h3, h4⟩ := h.bound.shape
  obtain ⟨rfl, rfl, rfl⟩ : A = A' ∧ nl = l.live.length ∧ c = c' := by
    simp at hv
    exact ⟨hv.2.2.2.2.2.1, hv.2.2.2.2.2.2.1, hv.2.2.2.2.2.2.2⟩
  exact ⟨⟨a3, b3, C1, C2, C3, A, k1, k2, k3, e1, e2, e3, c, rfl, hD, (h2.below hb).more hb.size, h3.weak fun k hk => .inl hk, h4⟩, h.at_, h.n, h.size, h.live, h.last, h.synced, Nat.zero_le _⟩
theorem bst_mid {st : List UInt8} {q e : Nat} (he : e = min (q + 512) st.length) : (bst st).extract q e = bst ((st.drop q).take 512) := by
  subst he
  apply ByteArray.ext
  apply Array.toList_inj.1
  simp [bst]
  omega
theorem quo_512 {k : Nat} : ((k : Int) / 512) = ((k / 512 : Nat) : Int) := by omega
set_option maxHeartbeats 16000000 in
set_option maxRecDepth 100000 in
theorem app8_any {P : Nat → Prop} {w : World} {v : Value} {s : Dk} {l : Wl} {body : List UInt8} (h : W8 P w v s l) (ha : Ap8 s l body) :
    Calls Tryz.prog 11 #[v, .string (bst body)] w fun e w' => ∃ v', e = .returned (.tuple #[v', .int .u64 (l.appN body s : Int), .int .i64 (l.appWhy body s : Int)]) ∧ W8 (fun k => P k ∨ w.heap.size ≤ k) w' v' (l.appD body s) (l.app body s) ∧ Below w.heap.size w w' := by
  obtain ⟨a, b, A1, A2, A3, A, n1, n2, n3, c1, c2, c3, c, rfl, hsh⟩ := h.bound.shape
  clear hsh
  have HW := hid h
  have HA := hid ha
  obtain ⟨nl, hnl⟩ : ∃ nl, nl = l.live.length := ⟨_, rfl⟩
  rw [← hnl] at HW ⊢
  have HNL := hid hnl
  have hnl64 : nl ≤ 64 := by rw [hnl]; exact h.live
  have hln64 : l.n ≤ 64 := h.n
  have hsz64 : l.size ≤ 64 := h.size
  have hbody := ha.body
  have hsq : l.seq < 18446744073709551616 := m64_lt _
  have HPB := hid (fun (W : World) => refRPut_yes l.seq body W hsq hbody)
  have HPH := hid (fun (W : World) => refRPut_yes l.seq hdr W hsq (by decide))
  rw [show renc l.seq body = l.rec_ body from rfl] at HPB
  rw [show renc l.seq hdr = l.head from rfl, show bst hdr = ⟨#[115, 101, 103, 109, 101, 110, 116]⟩ from rfl] at HPH
  have hwq : IntKind.u64.wrap ((l.last : Int) + 1) = (l.seq : Int) := by rw [IntKind.wrap_u64]; unfold Wl.seq m64; omega
  obtain ⟨hn, hhn⟩ : ∃ n, n = l.head.length := ⟨_, rfl⟩
  obtain ⟨rn, hrn⟩ : ∃ n, n = (l.rec_ body).length := ⟨_, rfl⟩
  have HHN := hid hhn
  have HRN := hid hrn
  have hln : hn ≤ 100 := by rw [hhn]; exact Nat.le_trans (renc_le _ _) (by decide)
  have hrl : rn ≤ 40000 := by rw [hrn]; exact Nat.le_trans (renc_le _ _) (by omega)
  have zh : (bst l.head).size = hn := (bst_size _).trans hhn.symm
  have zr : (bst (l.rec_ body)).size = rn := (bst_size _).trans hrn.symm
  have hws : IntKind.i64.wrap ((hn : Int) + (rn : Int)) = ((hn + rn : Nat) : Int) := by rw [IntKind.wrap_i64]; omega
  have hws5 : IntKind.i64.wrap (512 * (l.size : Int)) = ((512 * l.size : Nat) : Int) := by rw [IntKind.wrap_i64]; omega
  have hlo : l.long body = decide (512 * l.size < hn + rn) := by unfold Wl.long; rw [← hhn, ← hrn, decide_eq_false (show ¬ 32768 < body.length by omega), Bool.false_or]
  have HB1 := hid (show Below w.heap.size w ((w.alloc (.cells #[.int .i64 a, .int .i64 b, .slice A1 n1 c1, .slice A2 n2 c2, .slice A3 n3 c3, .int .i64 (l.at_ : Int), .int .i64 (l.n : Int), .int .i64 (l.size : Int), .slice A nl c, .string (bst l.stream), .int .u64 (l.last : Int), .int .u64 (l.synced : Int)] 43)).alloc (.cells #[.int .i64 0, .int .i64 0, .slice none 0 0, .slice none 0 0, .slice none 0 0, .int .i64 0, .int .i64 0, .int .i64 0, .slice none 0 0, .string ⟨#[]⟩, .int .u64 0, .int .u64 0] 43)) from ((Below.refl _ _).alloc (Nat.le_refl _) _).alloc (by simp) _)
  have HX1 := hid (show Blk ((w.alloc (.cells #[.int .i64 a, .int .i64 b, .slice A1 n1 c1, .slice A2 n2 c2, .slice A3 n3 c3, .int .i64 (l.at_ : Int), .int .i64 (l.n : Int), .int .i64 (l.size : Int), .slice A nl c, .string (bst l.stream), .int .u64 (l.last : Int), .int .u64 (l.synced : Int)] 43)).alloc (.cells #[.int .i64 0, .int .i64 0, .slice none 0 0, .slice none 0 0, .slice none 0 0, .int .i64 0, .int .i64 0, .int .i64 0, .slice none 0 0, .string ⟨#[]⟩, .int .u64 0, .int .u64 0] 43)) w.heap.size 43 #[.int .i64 a, .int .i64 b, .slice A1 n1 c1, .slice A2 n2 c2, .slice A3 n3 c3, .int .i64 (l.at_ : Int), .int .i64 (l.n : Int), .int .i64 (l.size : Int), .slice A nl c, .string (bst l.stream), .int .u64 (l.last : Int), .int .u64 (l.synced : Int)] from (Blk.new w _ _).alloc _)
  have hZ := Blk.new (w.alloc (.cells #[.int .i64 a, .int .i64 b, .slice A1 n1 c1, .slice A2 n2 c2, .slice A3 n3 c3, .int .i64 (l.at_ : Int), .int .i64 (l.n : Int), .int .i64 (l.size : Int), .slice A nl c, .string (bst l.stream), .int .u64 (l.last : Int), .int .u64 (l.synced : Int)] 43)) 43 #[.int .i64 0, .int .i64 0, .slice none 0 0, .slice none 0 0, .slice none 0 0, .int .i64 0, .int .i64 0, .int .i64 0, .slice none 0 0, .string ⟨#[]⟩, .int .u64 0, .int .u64 0]
  rw [show (w.alloc (.cells #[.int .i64 a, .int .i64 b, .slice A1 n1 c1, .slice A2 n2 c2, .slice A3 n3 c3, .int .i64 (l.at_ : Int), .int .i64 (l.n : Int), .int .i64 (l.size : Int), .slice A nl c, .string (bst l.stream), .int .u64 (l.last : Int), .int .u64 (l.synced : Int)] 43)).heap.size = w.heap.size + 1 by simp] at hZ
  have HZ1 := hid hZ
  have HSZ1 := hid (show ((w.alloc (.cells #[.int .i64 a, .int .i64 b, .slice A1 n1 c1, .slice A2 n2 c2, .slice A3 n3 c3, .int .i64 (l.at_ : Int), .int .i64 (l.n : Int), .int .i64 (l.size : Int), .slice A nl c, .string (bst l.stream), .int .u64 (l.last : Int), .int .u64 (l.synced : Int)] 43)).alloc (.cells #[.int .i64 0, .int .i64 0, .slice none 0 0, .slice none 0 0, .slice none 0 0, .int .i64 0, .int .i64 0, .int .i64 0, .slice none 0 0, .string ⟨#[]⟩, .int .u64 0, .int .u64 0] 43)).heap.size = w.heap.size + 2 by simp)
  clear hZ h ha hnl hhn hrn hbody hsq
  by_cases h1 : 512 * l.size < hn + rn
  · have h1i : ((hn + rn : Nat) : Int) > ((512 * l.size : Nat) : Int) := by omega
    obtain ⟨e1, e2, e3, e4⟩ := app_long (s := s) (show l.long body = true by rw [hlo]; exact decide_eq_true h1)
    rw [e1, e2, e3, e4]
    clear e1 e2 e3 e4 hlo h1
    go_enter Tryz.func11, Tryz.ntmps11
    go_upto_region 1 with fail
    generalize (w.alloc (.cells #[.int .i64 a, .int .i64 b, .slice A1 n1 c1, .slice A2 n2 c2, .slice A3 n3 c3, .int .i64 (l.at_ : Int), .int .i64 (l.n : Int), .int .i64 (l.size : Int), .slice A nl c, .string (bst l.stream), .int .u64 (l.last : Int), .int .u64 (l.synced : Int)] 43)).alloc (.cells #[.int .i64 0, .int .i64 0, .slice none 0 0, .slice none 0 0, .slice none 0 0, .int .i64 0, .int .i64 0, .int .i64 0, .slice none 0 0, .string ⟨#[]⟩, .int .u64 0, .int .u64 0] 43) = w1 at *
    have x0 := HX1.out.cell 0
    have x1 := HX1.out.cell 1
    have x2 := HX1.out.cell 2
    have x3 := HX1.out.cell 3
    have x4 := HX1.out.cell 4
    have x5 := HX1.out.cell 5
    have x6 := HX1.out.cell 6
    have x7 := HX1.out.cell 7
    have x8 := HX1.out.cell 8
    have x9 := HX1.out.cell 9
    have x10 := HX1.out.cell 10
    have x11 := HX1.out.cell 11
    go_wp2_with fail
    go_fit (HPB.out w1)
    rintro e w2 ⟨rfl, hb2⟩
    have HB2 := hid (HB1.out.trans (hb2.mono HB1.out.size))
    have HX2 := hid (HX1.out.below hb2 HX1.out.lt)
    have HZ2 := hid (HZ1.out.below hb2 HZ1.out.lt)
    clear hb2 x0 x1 x2 x3 x4 x5 x6 x7 x8 x9 x10 x11
    go_wp2_with fail
    go_fit (HPH.out w2)
    rintro e w3 ⟨rfl, hb3⟩
    have HB3 := hid (HB2.out.trans (hb3.mono HB2.out.size))
    have HX3 := hid (HX2.out.below hb3 HX2.out.lt)
    have HZ3 := hid (HZ2.out.below hb3 HZ2.out.lt)
    clear hb3 HX2 HZ2 HB2 HX1 HZ1
    have x0 := HX3.out.cell 0
    have x1 := HX3.out.cell 1
    have x2 := HX3.out.cell 2
    have x3 := HX3.out.cell 3
    have x4 := HX3.out.cell 4
    have x5 := HX3.out.cell 5
    have x6 := HX3.out.cell 6
    have x7 := HX3.out.cell 7
    have x8 := HX3.out.cell 8
    have x9 := HX3.out.cell 9
    have x10 := HX3.out.cell 10
    have x11 := HX3.out.cell 11
    have z0 := HZ3.out.cell 0
    have zf0 := HZ3.out.free 0
    have z1 := HZ3.out.cell 1
    have zf1 := HZ3.out.free 1
    have z2 := HZ3.out.cell 2
    have zf2 := HZ3.out.free 2
    have z3 := HZ3.out.cell 3
    have zf3 := HZ3.out.free 3
    have z4 := HZ3.out.cell 4
    have zf4 := HZ3.out.free 4
    have z5 := HZ3.out.cell 5
    have zf5 := HZ3.out.free 5
    have z6 := HZ3.out.cell 6
    have zf6 := HZ3.out.free 6
    have z7 := HZ3.out.cell 7
    have zf7 := HZ3.out.free 7
    have z8 := HZ3.out.cell 8
    have zf8 := HZ3.out.free 8
    have z9 := HZ3.out.cell 9
    have zf9 := HZ3.out.free 9
    have z10 := HZ3.out.cell 10
    have zf10 := HZ3.out.free 10
    have z11 := HZ3.out.cell 11
    have zf11 := HZ3.out.free 11
    go_wp2_with fail
    refine bodyPost_ret (v := .tuple #[.agg #[.int .i64 a, .int .i64 b, .slice A1 n1 c1, .slice A2 n2 c2, .slice A3 n3 c3, .int .i64 (l.at_ : Int), .int .i64 (l.n : Int), .int .i64 (l.size : Int), .slice A nl c, .string (bst l.stream), .int .u64 (l.last : Int), .int .u64 (l.synced : Int)], .int .u64 0, .int .i64 81]) (by simp [results, Tryz.results11, go_sem, *]) rfl ⟨_, rfl, ?_⟩
    have key : ∀ wf, Off2 (w.heap.size + 1) (w.heap.size + 1) w3 wf → W8 (fun k => P k ∨ w.heap.size ≤ k) wf (.agg #[.int .i64 a, .int .i64 b, .slice A1 n1 c1, .slice A2 n2 c2, .slice A3 n3 c3, .int .i64 (l.at_ : Int), .int .i64 (l.n : Int), .int .i64 (l.size : Int), .slice A nl c, .string (bst l.stream), .int .u64 (l.last : Int), .int .u64 (l.synced : Int)]) s l ∧ Below w.heap.size w wf := by
      intro wf ho
      have hb := ho.below HB3.out (Nat.le_succ _) (Nat.le_succ _)
      exact ⟨(HW.out.step hb).weak fun _ hk => .inl hk, hb⟩
    exact key _ (((((((((((((Off2.refl w3).setg 0 _).setg 1 _).setg 2 _).setg 3 _).setg 4 _).setg 5 _).setg 6 _).setg 7 _).setg 8 _).setg 9 _).setg 10 _).setg 11 _)
  · have h1i : ¬ ((hn + rn : Nat) : Int) > ((512 * l.size : Nat) : Int) := by omega
    have HLG := hid (show ¬ l.long body = true by rw [hlo, decide_eq_false h1]; decide)
    clear hlo h1
    go_enter Tryz.func11, Tryz.ntmps11
    go_upto_region 1 with fail
    generalize (w.alloc (.cells #[.int .i64 a, .int .i64 b, .slice A1 n1 c1, .slice A2 n2 c2, .slice A3 n3 c3, .int .i64 (l.at_ : Int), .int .i64 (l.n : Int), .int .i64 (l.size : Int), .slice A nl c, .string (bst l.stream), .int .u64 (l.last : Int), .int .u64 (l.synced : Int)] 43)).alloc (.cells #[.int .i64 0, .int .i64 0, .slice none 0 0, .slice none 0 0, .slice none 0 0, .int .i64 0, .int .i64 0, .int .i64 0, .slice none 0 0, .string ⟨#[]⟩, .int .u64 0, .int .u64 0] 43) = w1 at *
    have x0 := HX1.out.cell 0
    have x1 := HX1.out.cell 1
    have x2 := HX1.out.cell 2
    have x3 := HX1.out.cell 3
    have x4 := HX1.out.cell 4
    have x5 := HX1.out.cell 5
    have x6 := HX1.out.cell 6
    have x7 := HX1.out.cell 7
    have x8 := HX1.out.cell 8
    have x9 := HX1.out.cell 9
    have x10 := HX1.out.cell 10
    have x11 := HX1.out.cell 11
    go_wp2_with fail
    go_fit (HPB.out w1)
    rintro e w2 ⟨rfl, hb2⟩
    have HB2 := hid (HB1.out.trans (hb2.mono HB1.out.size))
    have HX2 := hid (HX1.out.below hb2 HX1.out.lt)
    have HZ2 := hid (HZ1.out.below hb2 HZ1.out.lt)
    clear hb2 x0 x1 x2 x3 x4 x5 x6 x7 x8 x9 x10 x11
    go_wp2_with fail
    go_fit (HPH.out w2)
    rintro e w3 ⟨rfl, hb3⟩
    have HB3 := hid (HB2.out.trans (hb3.mono HB2.out.size))
    have HX3 := hid (HX2.out.below hb3 HX2.out.lt)
    have HZ3 := hid (HZ2.out.below hb3 HZ2.out.lt)
    clear hb3 HX2 HZ2 HB2 HX1 HZ1
    have x0 := HX3.out.cell 0
    have x1 := HX3.out.cell 1
    have x2 := HX3.out.cell 2
    have x3 := HX3.out.cell 3
    have x4 := HX3.out.cell 4
    have x5 := HX3.out.cell 5
    have x6 := HX3.out.cell 6
    have x7 := HX3.out.cell 7
    have x8 := HX3.out.cell 8
    have x9 := HX3.out.cell 9
    have x10 := HX3.out.cell 10
    have x11 := HX3.out.cell 11
    go_upto_region 6 with fail
    go_upto_region 7 with fail
    obtain ⟨gn, hgn⟩ : ∃ g, g = w3.heap.size := ⟨_, rfl⟩
    have hn4 := Blk.new w3 43 #[.int .i64 a, .int .i64 b, .slice A1 n1 c1, .slice A2 n2 c2, .slice A3 n3 c3, .int .i64 (l.at_ : Int), .int .i64 (l.n : Int), .int .i64 (l.size : Int), .slice A nl c, .string (bst l.stream), .int .u64 (l.last : Int), .int .u64 (l.synced : Int)]
    have hsz4 : (w3.alloc (.cells #[.int .i64 a, .int .i64 b, .slice A1 n1 c1, .slice A2 n2 c2, .slice A3 n3 c3, .int .i64 (l.at_ : Int), .int .i64 (l.n : Int), .int .i64 (l.size : Int), .slice A nl c, .string (bst l.stream), .int .u64 (l.last : Int), .int .u64 (l.synced : Int)] 43)).heap.size = gn + 1 := by simp [hgn]
    rw [← hgn] at hn4 ⊢
    have HN4 := hid hn4
    have HX4 := hid (HX3.out.alloc (.cells #[.int .i64 a, .int .i64 b, .slice A1 n1 c1, .slice A2 n2 c2, .slice A3 n3 c3, .int .i64 (l.at_ : Int), .int .i64 (l.n : Int), .int .i64 (l.size : Int), .slice A nl c, .string (bst l.stream), .int .u64 (l.last : Int), .int .u64 (l.synced : Int)] 43))
    have HZ4 := hid (HZ3.out.alloc (.cells #[.int .i64 a, .int .i64 b, .slice A1 n1 c1, .slice A2 n2 c2, .slice A3 n3 c3, .int .i64 (l.at_ : Int), .int .i64 (l.n : Int), .int .i64 (l.size : Int), .slice A nl c, .string (bst l.stream), .int .u64 (l.last : Int), .int .u64 (l.synced : Int)] 43))
    have HB4 := hid (HB3.out.alloc HB3.out.size (.cells #[.int .i64 a, .int .i64 b, .slice A1 n1 c1, .slice A2 n2 c2, .slice A3 n3 c3, .int .i64 (l.at_ : Int), .int .i64 (l.n : Int), .int .i64 (l.size : Int), .slice A nl c, .string (bst l.stream), .int .u64 (l.last : Int), .int .u64 (l.synced : Int)] 43))
    have HGN := hid (show w.heap.size + 2 ≤ gn by rw [hgn]; have := HZ3.out.lt; omega)
    have HS4 := hid hsz4
    generalize w3.alloc (.cells #[.int .i64 a, .int .i64 b, .slice A1 n1 c1, .slice A2 n2 c2, .slice A3 n3 c3, .int .i64 (l.at_ : Int), .int .i64 (l.n : Int), .int .i64 (l.size : Int), .slice A nl c, .string (bst l.stream), .int .u64 (l.last : Int), .int .u64 (l.synced : Int)] 43) = w4 at *
    have HSG := hid (show gn < w4.heap.size from HN4.out.lt)
    clear hn4 hsz4 hgn HX3 HZ3 HB3 HB1 x0 x1 x2 x3 x4 x5 x6 x7 x8 x9 x10 x11
    have x8 : (w4.alloc (.cells #[] 84)).cell? ⟨w.heap.size, 8, none⟩ = some (.slice A nl c) := (HX4.out.alloc (.cells #[] 84)).cell 8
    have HRE := hid (show GRow eSg 84 (w4.alloc (.cells #[] 84)) w4.heap.size (some ⟨w4.heap.size, 0, none⟩) 0 0 [] from GRow.empty w4 rfl (Nat.le_refl _))
    have HGL := hid (show GAt eSg (w4.alloc (.cells #[] 84)) w.heap.size A l.live from HW.out.inv.2.1.below (HB4.out.alloc HB4.out.size _))
    have HLN := hid (show ([] : List Sg).length + l.live.length ≤ 1099511627776 by rw [← HNL.out]; simp; omega)
    have HSE := hid (show w4.heap.size ≤ (w4.alloc (.cells #[] 84)).heap.size by simp)
    go_wp2_with (at_builtin; go_must (refine wpList_append_own _ rfl _ _ eSg gi_sg (by decide) rfl w4.heap.size rfl HRE.out rfl HNL.out HGL.out HLN.out HSE.out ?_))
    intro A6 m6 c6 w6 hr6 hc6 hb6 hw6 ho6
    have hm6 : nl = m6 := by rw [HNL.out]; exact hr6.1.symm
    subst hm6
    have HN6 := hid ((HN4.out.alloc (.cells #[] 84)).below hb6 HN4.out.lt)
    have hg := HN4.out.lt
    have n8 := HN6.out.cell 8
    have f8 := HN6.out.free 8
    have HX7 := hid (((HX4.out.alloc (.cells #[] 84)).below hb6 HX4.out.lt).far (p := ⟨gn, 8, none⟩) (by show w.heap.size ≠ gn; have := HGN.out; omega) (.slice A6 nl c6))
    have HZ7 := hid (((HZ4.out.alloc (.cells #[] 84)).below hb6 HZ4.out.lt).far (p := ⟨gn, 8, none⟩) (by show w.heap.size + 1 ≠ gn; have := HGN.out; omega) (.slice A6 nl c6))
    have HN7 := hid (show Blk (w6.setCell ⟨gn, 8, none⟩ (.slice A6 nl c6)) gn 43 #[.int .i64 a, .int .i64 b, .slice A1 n1 c1, .slice A2 n2 c2, .slice A3 n3 c3, .int .i64 (l.at_ : Int), .int .i64 (l.n : Int), .int .i64 (l.size : Int), .slice A6 nl c6, .string (bst l.stream), .int .u64 (l.last : Int), .int .u64 (l.synced : Int)] from by simpa using HN6.out.set 8 (.slice A6 nl c6))
    have HR7 := hid (show GRow eSg 84 (w6.setCell ⟨gn, 8, none⟩ (.slice A6 nl c6)) w4.heap.size A6 nl c6 l.live from hr6.set (p := ⟨gn, 8, none⟩) hg (.slice A6 nl c6))
    have HB7 := hid ((((HB4.out.alloc HB4.out.size (.cells #[] 84)).trans (hb6.mono (by have := HGN.out; omega)))).setCell (p := ⟨gn, 8, none⟩) (by show w.heap.size ≤ gn; have := HGN.out; omega) (.slice A6 nl c6))
    have HBS := hid (show w4.heap.size ≤ (w6.setCell ⟨gn, 8, none⟩ (.slice A6 nl c6)).heap.size from by simpa using Nat.le_trans HSE.out hw6.size)
    clear hr6 hc6 hb6 hw6 ho6 HRE HGL HLN HSE HX4 HZ4 HN4 HB4 hg HN6
    go_upto_region 8 with fail
    generalize w6.setCell ⟨gn, 8, none⟩ (.slice A6 nl c6) = w7 at *
    clear x8 n8 f8
    have x9 := HX7.out.cell 9
    have x7 := HX7.out.cell 7
    have x6 := HX7.out.cell 6
    go_upto_region 9 with fail
    go_cut [74] from 60 to 73 (fun x74 wx => x74 = .bool (l.wants body) ∧ wx = w7)
    case first =>
      by_cases hse : l.stream = []
      · have HWT := hid (show l.wants body = true by unfold Wl.wants; rw [hse]; rfl)
        have hsb : (bst l.stream).toList = [] := by rw [hse]; exact bst_toList []
        clear hse
        go_wp2_with fail
        go_meet
        case rel => exact ⟨by rw [HWT.out], rfl⟩
      · have hsb : ¬ (bst l.stream).toList = [] := by rw [bst_toList]; exact hse
        have hs0 : (bst l.stream).size = l.stream.length := bst_size _
        have hwt : IntKind.i64.wrap ((l.stream.length : Int) + (rn : Int)) = ((l.stream.length + rn : Nat) : Int) := by have := HA.out.stream; rw [IntKind.wrap_i64]; omega
        go_wp2_with fail
        go_meet
        case rel =>
          refine ⟨congrArg Value.bool ?_, rfl⟩
          rw [bst_toList]
          unfold Wl.wants
          rw [← HRN.out]
          congr 1
          exact decide_eq_decide.2 (by omega)
    case rest =>
      obtain ⟨rfl, hwc⟩ := hcut
      obtain rfl : w7 = wc := hwc.symm
      have hs0 : (bst l.stream).size = l.stream.length := bst_size _
      go_upto_if 74 with fail
      rw [hs0]
      go_cut [13, 14] from 74 to 99 (fun x13 x14 wx => ∃ (live' : List Sg) (st0 : List UInt8) (from_ : Nat) (fr : Int) (A' : Option Addr) (m' c' : Nat), x13 = .int .i64 (from_ : Int) ∧ x14 = .int .i64 fr ∧ Kept (Blk wx w.heap.size 43 #[.int .i64 a, .int .i64 b, .slice A1 n1 c1, .slice A2 n2 c2, .slice A3 n3 c3, .int .i64 (l.at_ : Int), .int .i64 (l.n : Int), .int .i64 (l.size : Int), .slice A nl c, .string (bst l.stream), .int .u64 (l.last : Int), .int .u64 (l.synced : Int)]) ∧ Kept (Blk wx (w.heap.size + 1) 43 #[.int .i64 0, .int .i64 0, .slice none 0 0, .slice none 0 0, .slice none 0 0, .int .i64 0, .int .i64 0, .int .i64 0, .slice none 0 0, .string ⟨#[]⟩, .int .u64 0, .int .u64 0]) ∧ Kept (Blk wx gn 43 #[.int .i64 a, .int .i64 b, .slice A1 n1 c1, .slice A2 n2 c2, .slice A3 n3 c3, .int .i64 (l.at_ : Int), .int .i64 (l.n : Int), .int .i64 (l.size : Int), .slice A' m' c', .string (bst st0), .int .u64 (l.last : Int), .int .u64 (l.synced : Int)]) ∧ Kept (GRow eSg 84 wx w4.heap.size A' m' c' live') ∧ Kept (Below w.heap.size w wx) ∧ Kept (w4.heap.size ≤ wx.heap.size) ∧ Kept (ApTo l body live' st0 from_ fr))
      case first =>
        cases hwt : l.wants body with
        | true =>
          have HWT := hid hwt
          clear hwt hs0
          have x6 := HX7.out.cell 6
          have hwn1 : IntKind.i64.wrap ((l.n : Int) - 1) = (l.n : Int) - 1 := by rw [IntKind.wrap_i64]; omega
          obtain ⟨f, hf⟩ : ∃ f : Nat → Bool, f = fun i => !usedBy l.live i := ⟨_, rfl⟩
          have HFI := hid hf
          have HFR := hid (show nextI f l.n l.n = l.fresh by rw [hf]; rfl)
          clear hf
          go_wp2_with fail
          go_loopw [14, 15] (fun x y wr => ∃ k4 : Nat, k4 ≤ l.n ∧ x = .int .i64 (nextI f l.n k4) ∧ y = .int .i64 ((l.n : Int) - 1 - (k4 : Int)) ∧ Kept (Below w7.heap.size w7 wr)) (fun _ y _ => (intOf y + 1).toNat)
          case atStart => exact ⟨0, Nat.zero_le _, rfl, by congr 1; omega, hid (Below.refl _ _)⟩
          case round =>
            clear x6 x7 x9
            obtain ⟨k4, hk4, rfl, rfl, HB⟩ := hrel
            have HX8 := hid (HX7.out.below HB.out HX7.out.lt)
            have x0 := HX8.out.cell 0
            have x1 := HX8.out.cell 1
            have x2 := HX8.out.cell 2
            have x3 := HX8.out.cell 3
            have x4 := HX8.out.cell 4
            have x5 := HX8.out.cell 5
            have x6 := HX8.out.cell 6
            have x7 := HX8.out.cell 7
            have x8 := HX8.out.cell 8
            have x9 := HX8.out.cell 9
            have x10 := HX8.out.cell 10
            have x11 := HX8.out.cell 11
            by_cases hlt : k4 < l.n
            · obtain ⟨i4, hi4⟩ : ∃ i4 : Nat, (l.n : Int) - 1 - (k4 : Int) = (i4 : Int) := ⟨l.n - 1 - k4, by omega⟩
              have hi4' : l.n - 1 - k4 = i4 := by omega
              have hni : nextI f l.n (k4 + 1) = if f i4 then (i4 : Int) else nextI f l.n k4 := by rw [nextI, hi4']
              have hge : (i4 : Int) ≥ 0 := by omega
              rw [hi4]
              have hfi : f i4 = !usedBy l.live i4 := congrFun HFI.out i4
              cases hus : usedBy l.live i4 with
              | true =>
                have HNI := hid (show nextI f l.n (k4 + 1) = nextI f l.n k4 by rw [hni, hfi, hus]; rfl)
                have HUS := hid hus
                clear hni hfi hus
                go_wp2_with fail
                go_fit (used8_any i4 (HW.out.step (HB7.out.trans (HB.out.mono HB7.out.size))))
                rw [show l.used i4 = usedBy l.live i4 from rfl, HUS.out]
                rintro e w8 ⟨rfl, hb8⟩
                have HB8 := hid (HB.out.trans (hb8.mono HB.out.size))
                clear hb8
                go_wp2_with fail
                go_roundw
                case rel => exact ⟨k4 + 1, by omega, by rw [HNI.out], by congr 1; omega, HB8⟩
                case measure => first | (simp [intOf]; done) | (simp [intOf]; omega)
              | false =>
                have HNI := hid (show nextI f l.n (k4 + 1) = (i4 : Int) by rw [hni, hfi, hus]; rfl)
                have HUS := hid hus
                clear hni hfi hus
                go_wp2_with fail
                go_fit (used8_any i4 (HW.out.step (HB7.out.trans (HB.out.mono HB7.out.size))))
                rw [show l.used i4 = usedBy l.live i4 from rfl, HUS.out]
                rintro e w8 ⟨rfl, hb8⟩
                have HB8 := hid (HB.out.trans (hb8.mono HB.out.size))
                clear hb8
                go_wp2_with fail
                go_roundw
                case rel => exact ⟨k4 + 1, by omega, by rw [HNI.out], by congr 1; omega, HB8⟩
                case measure => first | (simp [intOf]; done) | (simp [intOf]; omega)
            · obtain rfl : k4 = l.n := by omega
              have hge : ¬ ((l.n : Int) - 1 - (l.n : Int) ≥ 0) := by omega
              rw [HFR.out]
              have HZ8 := hid (HZ7.out.below HB.out HZ7.out.lt)
              have HB8 := hid (HB7.out.trans (HB.out.mono HB7.out.size))
              by_cases hfr : l.fresh < 0
              · have HE := hid (app_full (s := s) HLG.out HWT.out hfr)
                have z0 := HZ8.out.cell 0
                have zf0 := HZ8.out.free 0
                have z1 := HZ8.out.cell 1
                have zf1 := HZ8.out.free 1
                have z2 := HZ8.out.cell 2
                have zf2 := HZ8.out.free 2
                have z3 := HZ8.out.cell 3
                have zf3 := HZ8.out.free 3
                have z4 := HZ8.out.cell 4
                have zf4 := HZ8.out.free 4
                have z5 := HZ8.out.cell 5
                have zf5 := HZ8.out.free 5
                have z6 := HZ8.out.cell 6
                have zf6 := HZ8.out.free 6
                have z7 := HZ8.out.cell 7
                have zf7 := HZ8.out.free 7
                have z8 := HZ8.out.cell 8
                have zf8 := HZ8.out.free 8
                have z9 := HZ8.out.cell 9
                have zf9 := HZ8.out.free 9
                have z10 := HZ8.out.cell 10
                have zf10 := HZ8.out.free 10
                have z11 := HZ8.out.cell 11
                have zf11 := HZ8.out.free 11
                go_wp2_with fail
                refine bodyPost_ret (v := .tuple #[.agg #[.int .i64 a, .int .i64 b, .slice A1 n1 c1, .slice A2 n2 c2, .slice A3 n3 c3, .int .i64 (l.at_ : Int), .int .i64 (l.n : Int), .int .i64 (l.size : Int), .slice A nl c, .string (bst l.stream), .int .u64 (l.last : Int), .int .u64 (l.synced : Int)], .int .u64 0, .int .i64 82]) (by simp [results, Tryz.results11, go_sem, *]) rfl ⟨_, by rw [HE.out.1, HE.out.2.2.2]; rfl, ?_⟩
                rw [HE.out.2.1, HE.out.2.2.1]
                have key : ∀ wf, Off2 (w.heap.size + 1) (w.heap.size + 1) wr wf → W8 (fun k => P k ∨ w.heap.size ≤ k) wf (.agg #[.int .i64 a, .int .i64 b, .slice A1 n1 c1, .slice A2 n2 c2, .slice A3 n3 c3, .int .i64 (l.at_ : Int), .int .i64 (l.n : Int), .int .i64 (l.size : Int), .slice A nl c, .string (bst l.stream), .int .u64 (l.last : Int), .int .u64 (l.synced : Int)]) s l ∧ Below w.heap.size w wf := by
                  intro wf ho
                  have hb := ho.below HB8.out (Nat.le_succ _) (Nat.le_succ _)
                  exact ⟨(HW.out.step hb).weak fun _ hk => .inl hk, hb⟩
                exact key _ (((((((((((((Off2.refl wr).setg 0 _).setg 1 _).setg 2 _).setg 3 _).setg 4 _).setg 5 _).setg 6 _).setg 7 _).setg 8 _).setg 9 _).setg 10 _).setg 11 _)
              · obtain ⟨fz, hfz⟩ : ∃ n : Nat, l.fresh = (n : Int) := ⟨l.fresh.toNat, by omega⟩
                have HFZ := hid hfz
                rw [hfz]
                have HFN := hid hfr
                have HN8 := hid (HN7.out.below HB.out HN7.out.lt)
                have HR8 := hid (HR7.out.below HB.out)
                have HX9 := hid (HX8.out)
                have n8 := HN8.out.cell 8
                have HLN := hid (show l.live.length + ([⟨fz, l.seq, 0⟩] : List Sg).length ≤ 1099511627776 by rw [← HNL.out]; simp; omega)
                have HS9 := hid (show w4.heap.size ≤ (wr.alloc (.cells #[.int .i64 (fz : Int), .int .u64 (l.seq : Int), .int .u64 0] 84)).heap.size from Nat.le_trans HBS.out (Nat.le_trans HB.out.size (by simp)))
                clear hfr hfz hlt HN7 HX7 HZ7 HR7 HX8 x0 x1 x2 x3 x4 x5 x6 x7 x8 x9 x10 x11
                go_wp2_with (at_builtin; go_must (refine wpList_append_own _ rfl _ _ eSg gi_sg (by decide) rfl w4.heap.size rfl (HR8.out.alloc _) rfl rfl (GAt.one_at (w := wr) (x := ⟨fz, l.seq, 0⟩) rfl rfl) HLN.out HS9.out ?_))
                intro A9 m9 c9 w9 hr9 hc9 hb9 hw9 ho9
                have HN9 := hid ((HN8.out.alloc (.cells #[.int .i64 (fz : Int), .int .u64 (l.seq : Int), .int .u64 0] 84)).below hb9 (by have := HSG.out; omega))
                have n9 := HN9.out.cell 8
                have f9 := HN9.out.free 8
                have n10 := HN9.out.cell 9
                have f10 := HN9.out.free 9
                clear n8
                go_wp2_with fail
                go_meet
                case rel =>
                  refine ⟨l.live ++ [⟨fz, l.seq, 0⟩], l.head, 0, fz, A9, m9, c9, rfl, rfl, hid ((((HX9.out.alloc (.cells #[.int .i64 (fz : Int), .int .u64 (l.seq : Int), .int .u64 0] 84)).below hb9 (by have := HSG.out; have := HGN.out; omega)).far (p := ⟨gn, 8, none⟩) (by show w.heap.size ≠ gn; have := HGN.out; omega) _).far (p := ⟨gn, 9, none⟩) (by show w.heap.size ≠ gn; have := HGN.out; omega) _), hid ((((HZ8.out.alloc (.cells #[.int .i64 (fz : Int), .int .u64 (l.seq : Int), .int .u64 0] 84)).below hb9 (by have := HSG.out; have := HGN.out; omega)).far (p := ⟨gn, 8, none⟩) (by show w.heap.size + 1 ≠ gn; have := HGN.out; omega) _).far (p := ⟨gn, 9, none⟩) (by show w.heap.size + 1 ≠ gn; have := HGN.out; omega) _), hid (by simpa using (HN9.out.set 8 (.slice A9 m9 c9)).set 9 (.string (bst l.head))), hid ((hr9.set (p := ⟨gn, 8, none⟩) HSG.out _).set (p := ⟨gn, 9, none⟩) HSG.out _), hid ((((HB8.out.alloc HB8.out.size (.cells #[.int .i64 (fz : Int), .int .u64 (l.seq : Int), .int .u64 0] 84)).trans (hb9.mono (by have := HSG.out; have := HGN.out; omega))).setCell (p := ⟨gn, 8, none⟩) (by show w.heap.size ≤ gn; have := HGN.out; omega) _).setCell (p := ⟨gn, 9, none⟩) (by show w.heap.size ≤ gn; have := HGN.out; omega) _), hid (by simpa using Nat.le_trans HS9.out hw9.size), hid (by unfold ApTo; exact .inl ⟨HWT.out, Int.not_lt.2 HFN.out, by rw [HFZ.out]; rfl, rfl, rfl, HFZ.out.symm⟩)⟩
        | false =>
          have HWT := hid (show ¬ l.wants body = true by rw [hwt]; decide)
          clear hwt hs0
          go_wp2_with fail
          go_meet
          case rel => exact ⟨l.live, l.stream, l.stream.length, -1, A6, nl, c6, rfl, rfl, HX7, HZ7, HN7, HR7, HB7, HBS, hid (by unfold ApTo; exact .inr ⟨HWT.out, rfl, rfl, rfl, rfl⟩)⟩
      case rest =>
        obtain ⟨live', st0, from_, fr, A', m', c', rfl, rfl, HX, HZ, HN, HR, HB, HBS, HD⟩ := hcut
        clear HX7 HZ7 HN7 HR7 HB7 hs0 x6 x7 x9
        have hlw := HR.out.1
        obtain ⟨K, hK, hK64⟩ : ∃ K, m' = K + 1 ∧ K ≤ 64 := by
          have hnl := HNL.out
          rcases HD.out with h | h
          · exact ⟨l.live.length, by rw [hlw, h.2.2.1]; simp, by omega⟩
          · have hne : l.live ≠ [] := HA.out.cur (fun e => h.1 (by unfold Wl.wants; rw [e]; rfl))
            exact ⟨l.live.length - 1, by have := List.length_pos_iff.2 hne; rw [hlw, h.2.1]; omega, by omega⟩
        subst hK
        have HST0 := hid (show st0.length + rn ≤ 512 * l.size by
          rcases HD.out with h | h
          · rw [h.2.2.2.1, ← HHN.out]; omega
          · have h1 := h.1
            unfold Wl.wants at h1
            rw [h.2.2.1, HRN.out]
            simp at h1
            omega)
        obtain ⟨st, hst⟩ : ∃ st, st = st0 ++ l.rec_ body := ⟨_, rfl⟩
        have happ : bst st0 ++ bst (l.rec_ body) = bst st := by rw [bst_append, ← hst]
        have HSL := hid (show st.length = st0.length + rn by rw [hst, List.length_append, ← HRN.out])
        have HSTT := hid hst
        have hz0 := bst_size st0
        have hns : ¬ (9223372036854775807 < st0.length + rn) := by have := HST0.out; omega
        clear hst hlw
        have n9 := HN.out.cell 9
        have f9 := HN.out.free 9
        go_upto_region 20 with fail
        clear hns hz0 zh zr hws hws5 hwq
        have HX0 := hid (HX.out.far (p := ⟨gn, 9, none⟩) (by show w.heap.size ≠ gn; have := HGN.out; omega) (.string (bst st)))
        have HZ0 := hid (HZ.out.far (p := ⟨gn, 9, none⟩) (by show w.heap.size + 1 ≠ gn; have := HGN.out; omega) (.string (bst st)))
        have HN0 := hid (show Blk (wc.setCell ⟨gn, 9, none⟩ (.string (bst st))) gn 43 #[.int .i64 a, .int .i64 b, .slice A1 n1 c1, .slice A2 n2 c2, .slice A3 n3 c3, .int .i64 (l.at_ : Int), .int .i64 (l.n : Int), .int .i64 (l.size : Int), .slice A' (K + 1) c', .string (bst st), .int .u64 (l.last : Int), .int .u64 (l.synced : Int)] from by simpa using HN.out.set 9 (.string (bst st)))
        have HR0 := hid (HR.out.set (p := ⟨gn, 9, none⟩) HSG.out (.string (bst st)))
        have HB0 := hid (HB.out.setCell (p := ⟨gn, 9, none⟩) (by show w.heap.size ≤ gn; have := HGN.out; omega) (.string (bst st)))
        have HBS0 := hid (show w4.heap.size ≤ (wc.setCell ⟨gn, 9, none⟩ (.string (bst st))).heap.size by simpa using HBS.out)
        generalize wc.setCell ⟨gn, 9, none⟩ (.string (bst st)) = wd at *
        clear HX HZ HN HR HB HBS n9 f9 happ
        obtain ⟨bb, off, z, rfl, hbb, hz, d0, d1, d2⟩ := HR0.out.at_.sg (i := K) (by rw [← HR0.out.1]; exact Nat.lt_succ_self K)
        have HZL := hid hz
        have HZI := hid (ap_last HA.out hln64 HD.out hz HR0.out.1)
        clear d1 d2 hbb hz
        obtain ⟨fs, hfs⟩ : ∃ k, k = from_ / 512 := ⟨_, rfl⟩
        have HPL := hid (show st.length ≤ 512 * (fs + l.size) by have := HSL.out; have := HST0.out; omega)
        obtain ⟨pz, hpz⟩ : ∃ p : Nat, p = l.at_ + z.i * l.size := ⟨_, rfl⟩
        have HPZ := hid (show l.place z.i = (pz : Int) by unfold Wl.place; rw [hpz])
        have HPQ := hid hpz
        have HD0 := hid (show D6 (PPB P w gn (some ⟨bb, off, none⟩) (K + 1) c') wd (.agg #[.int .i64 a, .int .i64 b, .slice A1 n1 c1, .slice A2 n2 c2, .slice A3 n3 c3]) s from (HW.out.inv.1.bound.keep HB0.out.size fun k hk => HB0.out.block k hk.2).weak fun k hk => .inl hk)
        clear hpz
        have hwk : wrap64 (K : Int) = (K : Int) := wrap_small hK64
        have hwk2 : IntKind.i64.wrap (K : Int) = (K : Int) := wrap_small2 hK64
        have hq : (from_ : Int) / 512 = (fs : Int) := by rw [hfs]; exact quo_512
        have HFS := hid hfs
        have n8 := HN0.out.cell 8
        have HF2 := hid (ap_from HA.out hsz64 HD.out hfs)
        have hwf : wrap64 (fs : Int) = (fs : Int) := wrap_200 HF2.out
        clear hfs
        go_wp2_with fail
        go_loopw [17] (fun x wr => ∃ (k g : Nat) (s1 : Dk) (a2 b2 : Int) (B1 B2 B3 : Option Addr) (m1 m2 m3 d1 d2 d3 : Nat), x = .int .i64 (k : Int) ∧ Kept (wrSt s (pz : Int) st l.size fs = wrSt s1 (pz : Int) st g k) ∧ Kept (st.length ≤ 512 * (k + g)) ∧ Kept (s1.pend.length ≤ 800000 + k ∧ k ≤ 200) ∧ Kept (Blk wr w.heap.size 43 #[.int .i64 a, .int .i64 b, .slice A1 n1 c1, .slice A2 n2 c2, .slice A3 n3 c3, .int .i64 (l.at_ : Int), .int .i64 (l.n : Int), .int .i64 (l.size : Int), .slice A nl c, .string (bst l.stream), .int .u64 (l.last : Int), .int .u64 (l.synced : Int)]) ∧ Kept (Blk wr (w.heap.size + 1) 43 #[.int .i64 0, .int .i64 0, .slice none 0 0, .slice none 0 0, .slice none 0 0, .int .i64 0, .int .i64 0, .int .i64 0, .slice none 0 0, .string ⟨#[]⟩, .int .u64 0, .int .u64 0]) ∧ Kept (Blk wr gn 43 #[.int .i64 a2, .int .i64 b2, .slice B1 m1 d1, .slice B2 m2 d2, .slice B3 m3 d3, .int .i64 (l.at_ : Int), .int .i64 (l.n : Int), .int .i64 (l.size : Int), .slice (some ⟨bb, off, none⟩) (K + 1) c', .string (bst st), .int .u64 (l.last : Int), .int .u64 (l.synced : Int)]) ∧ Kept (D6 (PPB P w gn (some ⟨bb, off, none⟩) (K + 1) c') wr (.agg #[.int .i64 a2, .int .i64 b2, .slice B1 m1 d1, .slice B2 m2 d2, .slice B3 m3 d3]) s1) ∧ Kept (GRow eSg 84 wr w4.heap.size (some ⟨bb, off, none⟩) (K + 1) c' live') ∧ Kept (Below w.heap.size w wr) ∧ Kept (w4.heap.size ≤ wr.heap.size)) (fun x _ => 400 - (intOf x).toNat)
        case atStart => exact ⟨fs, l.size, s, a, b, A1, A2, A3, n1, n2, n3, c1, c2, c3, rfl, hid rfl, HPL, hid ⟨Nat.le_trans HA.out.pend (Nat.le_add_right _ _), HF2.out⟩, HX0, HZ0, HN0, HD0, HR0, HB0, HBS0⟩
        case round =>
          clear HX0 HZ0 HN0 HD0 HR0 HB0 HBS0 HPL n8 d0 hwk hwk2 hq hwf
          obtain ⟨k, g, s1, a2, b2, B1, B2, B3, m1, m2, m3, d1, d2, d3, rfl, HWR, HGE, HPE, HX, HZ, HN, HDD, HR, HB, HBS⟩ := hrel
          obtain ⟨q, hqk⟩ : ∃ q, q = 512 * k := ⟨_, rfl⟩
          have hk200 := HPE.out.2
          have hw5 : IntKind.i64.wrap (512 * (k : Int)) = (q : Int) := wrap_512 hk200 hqk
          have n9 := HN.out.cell 9
          have hst : (bst st).size = st.length := bst_size _
          by_cases hgo : q < st.length
          · have hgo2 : (q : Int) < (st.length : Int) := by omega
            obtain ⟨e, he⟩ : ∃ e, e = min (q + 512) st.length := ⟨_, rfl⟩
            have HE0 := hid he
            have HQK := hid hqk
            have HGO := hid hgo
            have hwe : IntKind.i64.wrap ((q : Int) + 512) = ((q + 512 : Nat) : Int) := wrap_q512 hk200 hqk
            clear he hqk hgo
            go_upto_if 131 with fail
            go_cut [18] from 132 to 134 (fun x18 wx => x18 = .int .i64 (e : Int) ∧ wx = wr)
            case first =>
              by_cases h5 : st.length < q + 512
              · have h5i : (st.length : Int) < ((q + 512 : Nat) : Int) := by omega
                have HE1 := hid (show st.length = e by rw [HE0.out, Nat.min_eq_right (by omega)])
                clear h5
                go_wp2_with fail
                go_meet
                case rel => exact ⟨by rw [HE1.out], rfl⟩
              · have h5i : ¬ (st.length : Int) < ((q + 512 : Nat) : Int) := by omega
                have HE1 := hid (show q + 512 = e by rw [HE0.out, Nat.min_eq_left (by omega)])
                clear h5
                go_wp2_with fail
                go_meet
                case rel => exact ⟨by rw [← HE1.out, Int.natCast_add]; rfl, rfl⟩
            case rest =>
              obtain ⟨rfl, hwq⟩ := hcut
              obtain rfl : wr = wc := hwq.symm
              have HWR6 := hid (fun (W : World) (hW : Beyond wr W) => write6_any ((pz : Int) + (k : Int)) (b := (st.drop (512 * k)).take 512) (HDD.out.bound.step hW) (by have := HPE.out; omega))
              have u0 : ∀ W, Beyond wr W → W.cell? ⟨gn, 0, none⟩ = some (.int .i64 a2) := fun W hW => (HN.out.below hW HN.out.lt).cell 0
              have u1 : ∀ W, Beyond wr W → W.cell? ⟨gn, 1, none⟩ = some (.int .i64 b2) := fun W hW => (HN.out.below hW HN.out.lt).cell 1
              have u2 : ∀ W, Beyond wr W → W.cell? ⟨gn, 2, none⟩ = some (.slice B1 m1 d1) := fun W hW => (HN.out.below hW HN.out.lt).cell 2
              have u3 : ∀ W, Beyond wr W → W.cell? ⟨gn, 3, none⟩ = some (.slice B2 m2 d2) := fun W hW => (HN.out.below hW HN.out.lt).cell 3
              have u4 : ∀ W, Beyond wr W → W.cell? ⟨gn, 4, none⟩ = some (.slice B3 m3 d3) := fun W hW => (HN.out.below hW HN.out.lt).cell 4
              have u9 : ∀ W, Beyond wr W → W.cell? ⟨gn, 9, none⟩ = some (.string (bst st)) := fun W hW => (HN.out.below hW HN.out.lt).cell 9
              have v5 : ∀ W, Beyond wr W → W.cell? ⟨w.heap.size, 5, none⟩ = some (.int .i64 (l.at_ : Int)) := fun W hW => (HX.out.below hW HX.out.lt).cell 5
              have v7 : ∀ W, Beyond wr W → W.cell? ⟨w.heap.size, 7, none⟩ = some (.int .i64 (l.size : Int)) := fun W hW => (HX.out.below hW HX.out.lt).cell 7
              obtain ⟨ps, hps⟩ : ∃ ps, (pz : Int) + (k : Int) = ps := ⟨_, rfl⟩
              have HPS := hid hps
              rw [hps] at HWR6
              have hm1 : IntKind.i64.wrap ((z.i : Int) * (l.size : Int)) = (z.i : Int) * (l.size : Int) := wrap_mul1 HZI.out hsz64
              have hm2 : IntKind.i64.wrap ((l.at_ : Int) + (z.i : Int) * (l.size : Int)) = (pz : Int) := wrap_mul2 HPQ.out HW.out.at_ HZI.out hsz64
              have hm3 : IntKind.i64.wrap ((pz : Int) + (k : Int)) = ps := (wrap_mul3 HPQ.out HW.out.at_ HZI.out hsz64 hk200).trans hps
              clear hps
              obtain ⟨sec, hsec⟩ : ∃ sec, (st.drop (512 * k)).take 512 = sec := ⟨_, rfl⟩
              have HSEC := hid hsec
              have hse : (bst st).extract q e = bst sec := by rw [← hsec, ← HQK.out]; exact bst_mid HE0.out
              rw [hsec] at HWR6
              clear hsec
              have hqe : (q : Int) ≤ (e : Int) := by have := HE0.out; have := HGO.out; omega
              have hel : (e : Int) ≤ (st.length : Int) := by have := HE0.out; omega
              go_upto_region 27 with fail
              go_cut [19, 20] from 135 to 155 (fun x19 x20 wx => ∃ (gd : Nat) (a3 b3 : Int) (C1 C2 C3 : Option Addr) (k1 k2 k3 e1 e2 e3 : Nat), x19 = .pointer (some ⟨gd, 0, none⟩) ∧ x20 = .int .i64 (s1.why ps sec : Int) ∧ Kept (Blk wx gd 33 #[.int .i64 a3, .int .i64 b3, .slice C1 k1 e1, .slice C2 k2 e2, .slice C3 k3 e3]) ∧ Kept (D6 (fun j => (PPB P w gn (some ⟨bb, off, none⟩) (K + 1) c' j ∧ j < wr.heap.size) ∨ wr.heap.size ≤ j) wx (.agg #[.int .i64 a3, .int .i64 b3, .slice C1 k1 e1, .slice C2 k2 e2, .slice C3 k3 e3]) (s1.write ps sec)) ∧ Kept (Beyond wr wx) ∧ Kept (wr.heap.size ≤ gd))
              case first =>
                refine wp_region_held_drew (S := Beyond wr) (by kernel_rfl) (Beyond.drew _) (fun hS => ?_)
                refine stT 0 hS ?_; (try simp only [putr]); refine stT 1 hS ?_; (try simp only [putr]); refine stT 2 hS ?_; (try simp only [putr]); refine stT 3 hS ?_; (try simp only [putr]); refine stT 4 hS ?_; (try simp only [putr]); refine stT 5 hS ?_; (try simp only [putr]); refine stT 6 hS ?_; (try simp only [putr]); refine stT 7 hS ?_; (try simp only [putr]); refine stT 8 hS ?_; (try simp only [putr]); refine stT 9 hS ?_; (try simp only [putr]); refine stT 10 hS ?_; (try simp only [putr]); refine stT 11 hS ?_; (try simp only [putr]); refine stT 12 hS ?_; (try simp only [putr]); refine stT 13 hS ?_; (try simp only [putr]); refine stT 14 hS ?_; (try simp only [putr]); refine stT 15 hS ?_; (try simp only [putr]); refine stT 16 hS ?_; (try simp only [putr]); refine rdH [17, 21] ?_; refine rcH (fun K hK => ?_) ?_
                · go_simp
                  go_fit (HWR6.out _ hS)
                  rintro e w6 ⟨v6, rfl, hd6, hb6⟩
                  have hS17 := Beyond.step hS hb6
                  obtain ⟨a3, b3, C1, C2, C3, k1, k2, k3, e1, e2, e3, rfl⟩ := hd6.shape
                  have HD6 := hid hd6
                  clear hd6 hb6
                  refine hK.out _ _ (by assumption) (fun _ => ?_); clear hK K hS; have hS := hS17; refine stT 18 hS ?_; (try simp only [putr]); refine stT 19 hS ?_; (try simp only [putr]); refine stT 20 hS ?_; (try simp only [putr]); refine rdH [21] ?_; refine rcH (fun K hK => ?_) AllReadyH.nil; go_simp
                  refine hK.out _ _ (Beyond.step hS ((Below.refl _ _).alloc (Nat.le_refl _) _)) (fun hS21 => ?_)
                  have HG := hid (show Blk (w6.alloc (.cells #[.int .i64 0, .int .i64 0, .slice none 0 0, .slice none 0 0, .slice none 0 0] 33)) w6.heap.size 33 #[.int .i64 0, .int .i64 0, .slice none 0 0, .slice none 0 0, .slice none 0 0] from Blk.new w6 33 #[.int .i64 0, .int .i64 0, .slice none 0 0, .slice none 0 0, .slice none 0 0])
                  have HGZ := hid (show wr.heap.size ≤ w6.heap.size from Below.size hS)
                  have g0 := HG.out.cell 0
                  have g1 := HG.out.cell 1
                  have g2 := HG.out.cell 2
                  have g3 := HG.out.cell 3
                  have g4 := HG.out.cell 4
                  have gf0 := HG.out.free 0
                  have gf1 := HG.out.free 1
                  have gf2 := HG.out.free 2
                  have gf3 := HG.out.free 3
                  have gf4 := HG.out.free 4
                  clear hK K hS; have hS := hS21; (try simp only [putr]); refine rdH [22] ?_; refine rcH (fun K hK => ?_) AllReadyH.nil; go_simp
                  refine hK.out _ _ (Beyond.step hS17 ((Below.refl _ _).alloc (Nat.le_refl _) _)) (fun hS22 => ?_)
                  clear hK K hS; have hS := hS22; (try simp only [Act.put]); refine stT 23 hS ?_; (try simp only [putr]); refine wpAnyH_done (by kernel_rfl) ?_ _
                  go_wp2_with fail
                  go_meet
                  case rel => exact ⟨w6.heap.size, a3, b3, C1, C2, C3, k1, k2, k3, e1, e2, e3, rfl, rfl, hid (Blk.new w6 _ _), hid ((HD6.out.step ((Below.refl _ _).alloc (Nat.le_refl _) _)).weak fun j hj => hj.imp id (fun h => h)), hid hS, HGZ⟩
                refine rcH (fun K hK => ?_) AllReadyH.nil
                · go_simp
                  refine hK.out _ _ (Beyond.step hS ((Below.refl _ _).alloc (Nat.le_refl _) _)) (fun hS21 => ?_)
                  have HG := hid (show Blk (wr.alloc (.cells #[.int .i64 0, .int .i64 0, .slice none 0 0, .slice none 0 0, .slice none 0 0] 33)).drew wr.heap.size 33 #[.int .i64 0, .int .i64 0, .slice none 0 0, .slice none 0 0, .slice none 0 0] from Blk.new wr 33 #[.int .i64 0, .int .i64 0, .slice none 0 0, .slice none 0 0, .slice none 0 0])
                  have HGZ := hid (show wr.heap.size ≤ wr.heap.size from Nat.le_refl _)
                  clear hK K hS; have hS := hS21; (try simp only [putr]); refine rdH [17] ?_; refine rcH (fun K hK => ?_) AllReadyH.nil; go_simp
                  go_fit (HWR6.out _ hS)
                  rintro e w6 ⟨v6, rfl, hd6, hb6⟩
                  have hS17 := Beyond.step hS hb6
                  obtain ⟨a3, b3, C1, C2, C3, k1, k2, k3, e1, e2, e3, rfl⟩ := hd6.shape
                  have HG := hid (HG.out.below hb6 HG.out.lt)
                  have g0 := HG.out.cell 0
                  have g1 := HG.out.cell 1
                  have g2 := HG.out.cell 2
                  have g3 := HG.out.cell 3
                  have g4 := HG.out.cell 4
                  have gf0 := HG.out.free 0
                  have gf1 := HG.out.free 1
                  have gf2 := HG.out.free 2
                  have gf3 := HG.out.free 3
                  have gf4 := HG.out.free 4
                  have HD6 := hid hd6
                  clear hd6 hb6
                  refine hK.out _ _ (by assumption) (fun _ => ?_); clear hK K hS; have hS := hS17; refine stT 18 hS ?_; (try simp only [putr]); refine stT 19 hS ?_; (try simp only [putr]); refine stT 20 hS ?_; (try simp only [putr]); refine rdH [22] ?_; refine rcH (fun K hK => ?_) AllReadyH.nil; go_simp
                  refine hK.out _ _ ((Below.setCell (Below.setCell (Below.setCell (Below.setCell (Below.setCell hS (p := ⟨wr.heap.size, 0, none⟩) HGZ.out _) (p := ⟨wr.heap.size, 1, none⟩) HGZ.out _) (p := ⟨wr.heap.size, 2, none⟩) HGZ.out _) (p := ⟨wr.heap.size, 3, none⟩) HGZ.out _) (p := ⟨wr.heap.size, 4, none⟩) HGZ.out _)) (fun hS22 => ?_)
                  clear hK K hS; have hS := hS22; (try simp only [Act.put]); refine stT 23 hS ?_; (try simp only [putr]); refine wpAnyH_done (by kernel_rfl) ?_ _
                  have hne : ∀ j, ((PPB P w gn (some ⟨bb, off, none⟩) (K + 1) c' j ∧ j < wr.heap.size) ∨ (wr.alloc (.cells #[.int .i64 0, .int .i64 0, .slice none 0 0, .slice none 0 0, .slice none 0 0] 33)).drew.heap.size ≤ j) → j ≠ wr.heap.size := by
                    rintro j (h | h)
                    · omega
                    · simp at h; omega
                  go_wp2_with fail
                  go_meet
                  case rel => exact ⟨wr.heap.size, a3, b3, C1, C2, C3, k1, k2, k3, e1, e2, e3, rfl, rfl, hid (by simpa using ((((HG.out.set 0 (.int .i64 a3)).set 1 (.int .i64 b3)).set 2 (.slice C1 k1 e1)).set 3 (.slice C2 k2 e2)).set 4 (.slice C3 k3 e3)), hid ((HD6.out.keep (by simp) (fun j hj => off5 (hne j hj) _ _ _ _ _)).weak fun j hj => hj.imp id (fun h => by simp at h; omega)), hid hS, HGZ⟩
              case rest =>
                obtain ⟨gd, a3, b3, C1, C2, C3, k1, k2, k3, e1, e2, e3, rfl, rfl, HG, HD6, HBY, HGZ⟩ := hcut
                have HLT := hid HN.out.lt
                have HN2 := hid (HN.out.below HBY.out HN.out.lt)
                have HX2 := hid (HX.out.below HBY.out HX.out.lt)
                have HZ2 := hid (HZ.out.below HBY.out HZ.out.lt)
                have HR2 := hid (HR.out.below HBY.out)
                have HB2 := hid (HB.out.trans (HBY.out.mono HB.out.size))
                have HBS2 := hid (Nat.le_trans HBS.out HBY.out.size)
                have HLN := hid HR.out.1
                have HRO := hid (fun (j : Nat) (hj : (Value.slice (some ⟨bb, off, none⟩) (K + 1) c').ownBlock = some j) => (HR.out.2.lt j hj).2)
                have gg0 := HG.out.cell 0
                have gg1 := HG.out.cell 1
                have gg2 := HG.out.cell 2
                have gg3 := HG.out.cell 3
                have gg4 := HG.out.cell 4
                have nn0 := HN2.out.cell 0
                have nnf0 := HN2.out.free 0
                have nn1 := HN2.out.cell 1
                have nnf1 := HN2.out.free 1
                have nn2 := HN2.out.cell 2
                have nnf2 := HN2.out.free 2
                have nn3 := HN2.out.cell 3
                have nnf3 := HN2.out.free 3
                have nn4 := HN2.out.cell 4
                have nnf4 := HN2.out.free 4
                clear u0 u1 u2 u3 u4 u9 v5 v7 hm1 hm2 hm3 hse hqe hel hw5 hst hwe hgo2 HX HZ HN HR HB HBS HDD HWR6 n9
                go_upto_region 29 with fail
                have HN3 := hid (show Blk (((((wc.setCell ⟨gn, 0, none⟩ (.int .i64 a3)).setCell ⟨gn, 1, none⟩ (.int .i64 b3)).setCell ⟨gn, 2, none⟩ (.slice C1 k1 e1)).setCell ⟨gn, 3, none⟩ (.slice C2 k2 e2)).setCell ⟨gn, 4, none⟩ (.slice C3 k3 e3)) gn 43 #[.int .i64 a3, .int .i64 b3, .slice C1 k1 e1, .slice C2 k2 e2, .slice C3 k3 e3, .int .i64 (l.at_ : Int), .int .i64 (l.n : Int), .int .i64 (l.size : Int), .slice (some ⟨bb, off, none⟩) (K + 1) c', .string (bst st), .int .u64 (l.last : Int), .int .u64 (l.synced : Int)] from by simpa using (((((HN2.out.set 0 (.int .i64 a3)).set 1 (.int .i64 b3)).set 2 (.slice C1 k1 e1)).set 3 (.slice C2 k2 e2)).set 4 (.slice C3 k3 e3)))
                have HD3 := hid (HD6.out.keep (w' := (((((wc.setCell ⟨gn, 0, none⟩ (.int .i64 a3)).setCell ⟨gn, 1, none⟩ (.int .i64 b3)).setCell ⟨gn, 2, none⟩ (.slice C1 k1 e1)).setCell ⟨gn, 3, none⟩ (.slice C2 k2 e2)).setCell ⟨gn, 4, none⟩ (.slice C3 k3 e3))) (by simp) (fun j hj => off5 (by
                  rintro rfl
                  rcases hj with ⟨h | h, _⟩ | h
                  · have := HGN.out; omega
                  · exact h.2.1 rfl
                  · have := HLT.out; omega) _ _ _ _ _))
                have HX3 := hid (show Blk (((((wc.setCell ⟨gn, 0, none⟩ (.int .i64 a3)).setCell ⟨gn, 1, none⟩ (.int .i64 b3)).setCell ⟨gn, 2, none⟩ (.slice C1 k1 e1)).setCell ⟨gn, 3, none⟩ (.slice C2 k2 e2)).setCell ⟨gn, 4, none⟩ (.slice C3 k3 e3)) w.heap.size 43 #[.int .i64 a, .int .i64 b, .slice A1 n1 c1, .slice A2 n2 c2, .slice A3 n3 c3, .int .i64 (l.at_ : Int), .int .i64 (l.n : Int), .int .i64 (l.size : Int), .slice A nl c, .string (bst l.stream), .int .u64 (l.last : Int), .int .u64 (l.synced : Int)] from (off5 (by have := HGN.out; omega) _ _ _ _ _).trans HX2.out)
                have HZ3 := hid (show Blk (((((wc.setCell ⟨gn, 0, none⟩ (.int .i64 a3)).setCell ⟨gn, 1, none⟩ (.int .i64 b3)).setCell ⟨gn, 2, none⟩ (.slice C1 k1 e1)).setCell ⟨gn, 3, none⟩ (.slice C2 k2 e2)).setCell ⟨gn, 4, none⟩ (.slice C3 k3 e3)) (w.heap.size + 1) 43 #[.int .i64 0, .int .i64 0, .slice none 0 0, .slice none 0 0, .slice none 0 0, .int .i64 0, .int .i64 0, .int .i64 0, .slice none 0 0, .string ⟨#[]⟩, .int .u64 0, .int .u64 0] from (off5 (by have := HGN.out; omega) _ _ _ _ _).trans HZ2.out)
                have HG3 := hid (show Blk (((((wc.setCell ⟨gn, 0, none⟩ (.int .i64 a3)).setCell ⟨gn, 1, none⟩ (.int .i64 b3)).setCell ⟨gn, 2, none⟩ (.slice C1 k1 e1)).setCell ⟨gn, 3, none⟩ (.slice C2 k2 e2)).setCell ⟨gn, 4, none⟩ (.slice C3 k3 e3)) gd 33 #[.int .i64 a3, .int .i64 b3, .slice C1 k1 e1, .slice C2 k2 e2, .slice C3 k3 e3] from (off5 (by have := HGZ.out; have := HLT.out; omega) _ _ _ _ _).trans HG.out)
                have HR3 := hid ((((((HR2.out.set (p := ⟨gn, 0, none⟩) HSG.out (.int .i64 a3)).set (p := ⟨gn, 1, none⟩) HSG.out (.int .i64 b3)).set (p := ⟨gn, 2, none⟩) HSG.out (.slice C1 k1 e1)).set (p := ⟨gn, 3, none⟩) HSG.out (.slice C2 k2 e2)).set (p := ⟨gn, 4, none⟩) HSG.out (.slice C3 k3 e3)))
                have HB3 := hid ((((((HB2.out.setCell (p := ⟨gn, 0, none⟩) (by show w.heap.size ≤ gn; have := HGN.out; omega) (.int .i64 a3)).setCell (p := ⟨gn, 1, none⟩) (by show w.heap.size ≤ gn; have := HGN.out; omega) (.int .i64 b3)).setCell (p := ⟨gn, 2, none⟩) (by show w.heap.size ≤ gn; have := HGN.out; omega) (.slice C1 k1 e1)).setCell (p := ⟨gn, 3, none⟩) (by show w.heap.size ≤ gn; have := HGN.out; omega) (.slice C2 k2 e2)).setCell (p := ⟨gn, 4, none⟩) (by show w.heap.size ≤ gn; have := HGN.out; omega) (.slice C3 k3 e3)))
                have HBS3 := hid (show w4.heap.size ≤ (((((wc.setCell ⟨gn, 0, none⟩ (.int .i64 a3)).setCell ⟨gn, 1, none⟩ (.int .i64 b3)).setCell ⟨gn, 2, none⟩ (.slice C1 k1 e1)).setCell ⟨gn, 3, none⟩ (.slice C2 k2 e2)).setCell ⟨gn, 4, none⟩ (.slice C3 k3 e3)).heap.size by simpa using HBS2.out)
                clear gg0 gg1 gg2 gg3 gg4 nn0 nn1 nn2 nn3 nn4 nnf0 nnf1 nnf2 nnf3 nnf4 HN2 HX2 HZ2 HR2 HB2 HBS2 HD6 HG HBY
                generalize (((((wc.setCell ⟨gn, 0, none⟩ (.int .i64 a3)).setCell ⟨gn, 1, none⟩ (.int .i64 b3)).setCell ⟨gn, 2, none⟩ (.slice C1 k1 e1)).setCell ⟨gn, 3, none⟩ (.slice C2 k2 e2)).setCell ⟨gn, 4, none⟩ (.slice C3 k3 e3)) = w8 at *
                by_cases hwhy : s1.why ps sec = 0
                · rw [hwhy]
                  have HWY := hid hwhy
                  clear hwhy
                  obtain ⟨g', hg', hge', hwr'⟩ := wrSt_go (s := s1) (p := (pz : Int)) (by rw [← HQK.out]; exact HGO.out) HGE.out
                  rw [HPS.out, HSEC.out, if_pos HWY.out] at hwr'
                  have HWR2 := hid (HWR.out.trans hwr')
                  have HGE2 := hid hge'
                  have HPE2 := hid (show (s1.write ps sec).pend.length ≤ 800000 + (k + 1) ∧ k + 1 ≤ 200 from ⟨by have := Dk.write_len s1 ps sec; have := HPE.out; omega, by have := HGO.out; have := HQK.out; have := HSL.out; have := HST0.out; omega⟩)
                  clear hg' hge' hwr' HWR HGE HPE
                  go_wp2_with fail
                  go_roundw
                  case rel => exact ⟨k + 1, g', s1.write ps sec, a3, b3, C1, C2, C3, k1, k2, k3, e1, e2, e3, by go_num, HWR2, HGE2, HPE2, HX3, HZ3, HN3, hid (HD3.out.weak fun j hj => hj.elim (fun h => h.1) (fun h => .inr ⟨by have := HLT.out; have := HGN.out; omega, by have := HLT.out; omega, fun e9 => by have := (HRO.out _ e9); omega⟩)), HR3, HB3, HBS3⟩
                  case measure => simp [intOf]; omega
                · obtain ⟨g', -, -, hwr'⟩ := wrSt_go (s := s1) (p := (pz : Int)) (by rw [← HQK.out]; exact HGO.out) HGE.out
                  rw [HPS.out, HSEC.out, if_neg hwhy] at hwr'
                  have hww : s1.write ps sec = s1 := by unfold Dk.write; rw [if_neg hwhy]
                  rw [hww] at HD3
                  have HE := hid (HD.out.bad HLG.out HZL.out HLN.out HSTT.out HFS.out HPZ.out hwhy (HWR.out.trans hwr'))
                  have HPD := hid (show s1.pend.length ≤ 900000 by have := HPE.out; omega)
                  clear hwr' hww HWR HGE HPE HN3 HR3 HBS3
                  generalize s1.why ps sec = er at *
                  have gg0 := HG3.out.cell 0
                  have gg1 := HG3.out.cell 1
                  have gg2 := HG3.out.cell 2
                  have gg3 := HG3.out.cell 3
                  have gg4 := HG3.out.cell 4
                  have xx0 := HX3.out.cell 0
                  have xxf0 := HX3.out.free 0
                  have xx1 := HX3.out.cell 1
                  have xxf1 := HX3.out.free 1
                  have xx2 := HX3.out.cell 2
                  have xxf2 := HX3.out.free 2
                  have xx3 := HX3.out.cell 3
                  have xxf3 := HX3.out.free 3
                  have xx4 := HX3.out.cell 4
                  have xxf4 := HX3.out.free 4
                  have xx5 := HX3.out.cell 5
                  have xxf5 := HX3.out.free 5
                  have xx6 := HX3.out.cell 6
                  have xxf6 := HX3.out.free 6
                  have xx7 := HX3.out.cell 7
                  have xxf7 := HX3.out.free 7
                  have xx8 := HX3.out.cell 8
                  have xxf8 := HX3.out.free 8
                  have xx9 := HX3.out.cell 9
                  have xxf9 := HX3.out.free 9
                  have xx10 := HX3.out.cell 10
                  have xxf10 := HX3.out.free 10
                  have xx11 := HX3.out.cell 11
                  have xxf11 := HX3.out.free 11
                  go_upto_region 31 with fail
                  have HX4 := hid (show Blk ((((((w8.setCell ⟨w.heap.size, 0, none⟩ (.int .i64 a3)).setCell ⟨w.heap.size, 1, none⟩ (.int .i64 b3)).setCell ⟨w.heap.size, 2, none⟩ (.slice C1 k1 e1)).setCell ⟨w.heap.size, 3, none⟩ (.slice C2 k2 e2)).setCell ⟨w.heap.size, 4, none⟩ (.slice C3 k3 e3)).setCell ⟨w.heap.size, 9, none⟩ (.string ⟨#[]⟩)) w.heap.size 43 #[.int .i64 a3, .int .i64 b3, .slice C1 k1 e1, .slice C2 k2 e2, .slice C3 k3 e3, .int .i64 (l.at_ : Int), .int .i64 (l.n : Int), .int .i64 (l.size : Int), .slice A nl c, .string ⟨#[]⟩, .int .u64 (l.last : Int), .int .u64 (l.synced : Int)] from by simpa using ((((((HX3.out.set 0 (.int .i64 a3)).set 1 (.int .i64 b3)).set 2 (.slice C1 k1 e1)).set 3 (.slice C2 k2 e2)).set 4 (.slice C3 k3 e3)).set 9 (.string ⟨#[]⟩)))
                  have HZ4 := hid (show Blk ((((((w8.setCell ⟨w.heap.size, 0, none⟩ (.int .i64 a3)).setCell ⟨w.heap.size, 1, none⟩ (.int .i64 b3)).setCell ⟨w.heap.size, 2, none⟩ (.slice C1 k1 e1)).setCell ⟨w.heap.size, 3, none⟩ (.slice C2 k2 e2)).setCell ⟨w.heap.size, 4, none⟩ (.slice C3 k3 e3)).setCell ⟨w.heap.size, 9, none⟩ (.string ⟨#[]⟩)) (w.heap.size + 1) 43 #[.int .i64 0, .int .i64 0, .slice none 0 0, .slice none 0 0, .slice none 0 0, .int .i64 0, .int .i64 0, .int .i64 0, .slice none 0 0, .string ⟨#[]⟩, .int .u64 0, .int .u64 0] from (off6 (by omega) _ _ _ _ _ _).trans HZ3.out)
                  have HD4 := hid ((HD3.out.keep (w' := ((((((w8.setCell ⟨w.heap.size, 0, none⟩ (.int .i64 a3)).setCell ⟨w.heap.size, 1, none⟩ (.int .i64 b3)).setCell ⟨w.heap.size, 2, none⟩ (.slice C1 k1 e1)).setCell ⟨w.heap.size, 3, none⟩ (.slice C2 k2 e2)).setCell ⟨w.heap.size, 4, none⟩ (.slice C3 k3 e3)).setCell ⟨w.heap.size, 9, none⟩ (.string ⟨#[]⟩))) (by simp) (fun j hj => off6 (by
                    rintro rfl
                    rcases hj with ⟨h | h, _⟩ | h
                    · omega
                    · omega
                    · have := HLT.out; have := HGN.out; omega) _ _ _ _ _ _)).weak (P' := Q8 P w) (fun j hj => by
                    rcases hj with ⟨h | h, _⟩ | h
                    · exact .inl h
                    · exact .inr h.1
                    · exact .inr (by have := HLT.out; have := HGN.out; omega)))
                  have HB4 := hid ((((((HB3.out.setCell (p := ⟨w.heap.size, 0, none⟩) (Nat.le_refl _) (.int .i64 a3)).setCell (p := ⟨w.heap.size, 1, none⟩) (Nat.le_refl _) (.int .i64 b3)).setCell (p := ⟨w.heap.size, 2, none⟩) (Nat.le_refl _) (.slice C1 k1 e1)).setCell (p := ⟨w.heap.size, 3, none⟩) (Nat.le_refl _) (.slice C2 k2 e2)).setCell (p := ⟨w.heap.size, 4, none⟩) (Nat.le_refl _) (.slice C3 k3 e3)).setCell (p := ⟨w.heap.size, 9, none⟩) (Nat.le_refl _) (.string ⟨#[]⟩))
                  clear gg0 gg1 gg2 gg3 gg4 xx0 xx1 xx2 xx3 xx4 xx5 xx6 xx7 xx8 xx9 xx10 xx11 xxf0 xxf1 xxf2 xxf3 xxf4 xxf5 xxf6 xxf7 xxf8 xxf9 xxf10 xxf11 HX3 HZ3 HD3 HB3 HG3
                  generalize ((((((w8.setCell ⟨w.heap.size, 0, none⟩ (.int .i64 a3)).setCell ⟨w.heap.size, 1, none⟩ (.int .i64 b3)).setCell ⟨w.heap.size, 2, none⟩ (.slice C1 k1 e1)).setCell ⟨w.heap.size, 3, none⟩ (.slice C2 k2 e2)).setCell ⟨w.heap.size, 4, none⟩ (.slice C3 k3 e3)).setCell ⟨w.heap.size, 9, none⟩ (.string ⟨#[]⟩)) = w9 at *
                  have HS9 := hid (show w.heap.size + 2 ≤ w9.heap.size from by have := HZ4.out.lt; omega)
                  have H9 := hid (w8_cut HW.out HB4.out HD4.out)
                  rcases HE.out.2.2 with ⟨h0, hfz, hD, hL⟩ | ⟨hfm, hD, hL⟩
                  · have HEW := hid HE.out.1
                    have HEN := hid HE.out.2.1
                    have HED := hid hD
                    have HEL := hid hL
                    clear hD hL HE h0 HD
                    subst hfz
                    have hzi0 : ((z.i : Int) ≥ 0) := by omega
                    have xx0 := HX4.out.cell 0
                    have xx1 := HX4.out.cell 1
                    have xx2 := HX4.out.cell 2
                    have xx3 := HX4.out.cell 3
                    have xx4 := HX4.out.cell 4
                    have xx5 := HX4.out.cell 5
                    have xx6 := HX4.out.cell 6
                    have xx7 := HX4.out.cell 7
                    have xx8 := HX4.out.cell 8
                    have xx9 := HX4.out.cell 9
                    have xx10 := HX4.out.cell 10
                    have xx11 := HX4.out.cell 11
                    go_wp2_with fail
                    go_fit (free8_any z.i H9.out HZI.out HPD.out)
                    rintro e w10 ⟨v10, rfl, hw10, hb10⟩
                    have HW10 := hid hw10
                    have HB10 := hid (HB4.out.trans (hb10.mono HB4.out.size))
                    have HX10 := hid (HX4.out.below hb10 HX4.out.lt)
                    have HZ10 := hid (HZ4.out.below hb10 HZ4.out.lt)
                    clear hw10 hb10 HX4 HZ4 HB4 xx0 xx1 xx2 xx3 xx4 xx5 xx6 xx7 xx8 xx9 xx10 xx11
                    go_wp2_with fail
                    go_fit (sync8_any HW10.out)
                    rintro e w11 ⟨v11, rfl, hw11, hb11⟩
                    have HW11 := hid hw11
                    have HB11 := hid (HB10.out.trans (hb11.mono HB10.out.size))
                    have HX11 := hid (HX10.out.below hb11 HX10.out.lt)
                    have HZ11 := hid (HZ10.out.below hb11 HZ10.out.lt)
                    obtain ⟨a5, b5, D1, D2, D3, D4, o1, o2, o3, p1, p2, p3, p4, rfl, -⟩ := hw11.shape
                    clear hw11 hb11 HX10 HZ10 HB10
                    have xx0 := HX11.out.cell 0
                    have xxf0 := HX11.out.free 0
                    have xx1 := HX11.out.cell 1
                    have xxf1 := HX11.out.free 1
                    have xx2 := HX11.out.cell 2
                    have xxf2 := HX11.out.free 2
                    have xx3 := HX11.out.cell 3
                    have xxf3 := HX11.out.free 3
                    have xx4 := HX11.out.cell 4
                    have xxf4 := HX11.out.free 4
                    have xx5 := HX11.out.cell 5
                    have xxf5 := HX11.out.free 5
                    have xx6 := HX11.out.cell 6
                    have xxf6 := HX11.out.free 6
                    have xx7 := HX11.out.cell 7
                    have xxf7 := HX11.out.free 7
                    have xx8 := HX11.out.cell 8
                    have xxf8 := HX11.out.free 8
                    have xx9 := HX11.out.cell 9
                    have xxf9 := HX11.out.free 9
                    have xx10 := HX11.out.cell 10
                    have xxf10 := HX11.out.free 10
                    have xx11 := HX11.out.cell 11
                    have xxf11 := HX11.out.free 11
                    have zz0 := HZ11.out.cell 0
                    have zzf0 := HZ11.out.free 0
                    have zz1 := HZ11.out.cell 1
                    have zzf1 := HZ11.out.free 1
                    have zz2 := HZ11.out.cell 2
                    have zzf2 := HZ11.out.free 2
                    have zz3 := HZ11.out.cell 3
                    have zzf3 := HZ11.out.free 3
                    have zz4 := HZ11.out.cell 4
                    have zzf4 := HZ11.out.free 4
                    have zz5 := HZ11.out.cell 5
                    have zzf5 := HZ11.out.free 5
                    have zz6 := HZ11.out.cell 6
                    have zzf6 := HZ11.out.free 6
                    have zz7 := HZ11.out.cell 7
                    have zzf7 := HZ11.out.free 7
                    have zz8 := HZ11.out.cell 8
                    have zzf8 := HZ11.out.free 8
                    have zz9 := HZ11.out.cell 9
                    have zzf9 := HZ11.out.free 9
                    have zz10 := HZ11.out.cell 10
                    have zzf10 := HZ11.out.free 10
                    have zz11 := HZ11.out.cell 11
                    have zzf11 := HZ11.out.free 11
                    go_wp2_with fail
                    refine bodyPost_ret (v := .tuple #[.agg #[.int .i64 a5, .int .i64 b5, .slice D1 o1 p1, .slice D2 o2 p2, .slice D3 o3 p3, .int .i64 (l.at_ : Int), .int .i64 (l.n : Int), .int .i64 (l.size : Int), .slice D4 l.live.length p4, .string (bst []), .int .u64 (l.last : Int), .int .u64 (l.last : Int)], .int .u64 0, .int .i64 er]) (by simp [results, Tryz.results11, go_sem, *]) rfl ⟨_, by rw [HEW.out, HEN.out]; rfl, ?_⟩
                    rw [HED.out, HEL.out]
                    have key : ∀ wf, Off2 w.heap.size (w.heap.size + 1) w11 wf → W8 (fun k => P k ∨ w.heap.size ≤ k) wf (.agg #[.int .i64 a5, .int .i64 b5, .slice D1 o1 p1, .slice D2 o2 p2, .slice D3 o3 p3, .int .i64 (l.at_ : Int), .int .i64 (l.n : Int), .int .i64 (l.size : Int), .slice D4 l.live.length p4, .string (bst []), .int .u64 (l.last : Int), .int .u64 (l.last : Int)]) (freeN s1 (l.place z.i) l.size).sync { l with stream := [], synced := l.last } ∧ Below w.heap.size w wf := by
                      intro wf ho
                      have hb := ho.below HB11.out (Nat.le_refl _) (Nat.le_succ _)
                      refine ⟨((HW11.out.keep (Nat.le_of_eq ho.size.symm) (fun k hk => ho.block k ?_ ?_))).weak (fun k hk => ?_), hb⟩
                      · have := HS9.out; rcases hk with (h | h) | h <;> omega
                      · have := HS9.out; rcases hk with (h | h) | h <;> omega
                      · have := HS9.out; rcases hk with (h | h) | h
                        · exact .inl h.1
                        · exact .inr (by omega)
                        · exact .inr (by omega)
                    exact key _ (((((((((((((((((((((((((Off2.refl w11).setg 0 _).setg 1 _).setg 2 _).setg 3 _).setg 4 _).setg 5 _).setg 6 _).setg 7 _).setg 8 _).setg 9 _).setg 10 _).setg 11 _).seth 0 _).seth 1 _).seth 2 _).seth 3 _).seth 4 _).seth 5 _).seth 6 _).seth 7 _).seth 8 _).seth 9 _).seth 10 _).seth 11 _)
                  · have HEW := hid HE.out.1
                    have HEN := hid HE.out.2.1
                    have HED := hid hD
                    have HEL := hid hL
                    clear hD hL HE HD
                    subst hfm
                    have xx0 := HX4.out.cell 0
                    have xx1 := HX4.out.cell 1
                    have xx2 := HX4.out.cell 2
                    have xx3 := HX4.out.cell 3
                    have xx4 := HX4.out.cell 4
                    have xx5 := HX4.out.cell 5
                    have xx6 := HX4.out.cell 6
                    have xx7 := HX4.out.cell 7
                    have xx8 := HX4.out.cell 8
                    have xx9 := HX4.out.cell 9
                    have xx10 := HX4.out.cell 10
                    have xx11 := HX4.out.cell 11
                    have zz0 := HZ4.out.cell 0
                    have zzf0 := HZ4.out.free 0
                    have zz1 := HZ4.out.cell 1
                    have zzf1 := HZ4.out.free 1
                    have zz2 := HZ4.out.cell 2
                    have zzf2 := HZ4.out.free 2
                    have zz3 := HZ4.out.cell 3
                    have zzf3 := HZ4.out.free 3
                    have zz4 := HZ4.out.cell 4
                    have zzf4 := HZ4.out.free 4
                    have zz5 := HZ4.out.cell 5
                    have zzf5 := HZ4.out.free 5
                    have zz6 := HZ4.out.cell 6
                    have zzf6 := HZ4.out.free 6
                    have zz7 := HZ4.out.cell 7
                    have zzf7 := HZ4.out.free 7
                    have zz8 := HZ4.out.cell 8
                    have zzf8 := HZ4.out.free 8
                    have zz9 := HZ4.out.cell 9
                    have zzf9 := HZ4.out.free 9
                    have zz10 := HZ4.out.cell 10
                    have zzf10 := HZ4.out.free 10
                    have zz11 := HZ4.out.cell 11
                    have zzf11 := HZ4.out.free 11
                    go_wp2_with fail
                    refine bodyPost_ret (v := .tuple #[.agg #[.int .i64 a3, .int .i64 b3, .slice C1 k1 e1, .slice C2 k2 e2, .slice C3 k3 e3, .int .i64 (l.at_ : Int), .int .i64 (l.n : Int), .int .i64 (l.size : Int), .slice A nl c, .string ⟨#[]⟩, .int .u64 (l.last : Int), .int .u64 (l.synced : Int)], .int .u64 0, .int .i64 er]) (by simp [results, Tryz.results11, go_sem, *]) rfl ⟨_, by rw [HEW.out, HEN.out]; rfl, ?_⟩
                    rw [HED.out, HEL.out]
                    have key : ∀ wf, Off2 (w.heap.size + 1) (w.heap.size + 1) w9 wf → W8 (fun k => P k ∨ w.heap.size ≤ k) wf (.agg #[.int .i64 a3, .int .i64 b3, .slice C1 k1 e1, .slice C2 k2 e2, .slice C3 k3 e3, .int .i64 (l.at_ : Int), .int .i64 (l.n : Int), .int .i64 (l.size : Int), .slice A nl c, .string ⟨#[]⟩, .int .u64 (l.last : Int), .int .u64 (l.synced : Int)]) s1 { l with stream := [] } ∧ Below w.heap.size w wf := by
                      intro wf ho
                      have hb := ho.below HB4.out (Nat.le_succ _) (Nat.le_succ _)
                      refine ⟨((H9.out.keep (Nat.le_of_eq ho.size.symm) (fun k hk => ho.block k ?_ ?_))).weak (fun k hk => ?_), hb⟩
                      · rcases hk with h | h <;> omega
                      · rcases hk with h | h <;> omega
                      · rcases hk with h | h
                        · exact .inl h.1
                        · exact .inr (by omega)
                    exact key _ (((((((((((((Off2.refl w9).setg 0 _).setg 1 _).setg 2 _).setg 3 _).setg 4 _).setg 5 _).setg 6 _).setg 7 _).setg 8 _).setg 9 _).setg 10 _).setg 11 _)
          · have hgo2 : ¬ (q : Int) < (st.length : Int) := by omega
            have HE := hid (HD.out.done HLG.out HZL.out HR.out.1 HSTT.out HFS.out HPZ.out (by rw [HWR.out]; exact wrSt_end (by rw [← hqk]; exact hgo)))
            obtain ⟨bb', off', z', he, hbb, hz', d0, d1, d2⟩ := HR.out.at_.sg (i := K) (by rw [← HR.out.1]; exact Nat.lt_succ_self K)
            obtain ⟨rfl, rfl⟩ : bb = bb' ∧ off = off' := by simpa using he
            obtain rfl : z = z' := by have := HZL.out; rw [hz'] at this; exact (Option.some.inj this).symm
            have HOW := hid (slice_own HR.out)
            have f2 : wr.frozen? ⟨bb, off + K * 3 + 2, none⟩ = false := HOW.out.2.2.2 _
            have n8 := HN.out.cell 8
            clear hgo hqk he hbb hz' d0 d1
            go_upto_region 34 with fail
            clear hw5 hst hgo2 n9
            have hwk : wrap64 (K : Int) = (K : Int) := wrap_small hK64
            have hwk2 : IntKind.i64.wrap (K : Int) = (K : Int) := wrap_small2 hK64
            go_upto_region 35 with fail
            rw [wrap_cnt]
            have hbg : w4.heap.size ≤ bb := HOW.out.2.1
            have HA5 := hid (HR.out.at_.bump HR.out.1 HZL.out)
            have HN5 := hid (HN.out.far (p := ⟨bb, off + K * 3 + 2, none⟩) (by show gn ≠ bb; have := HSG.out; omega) (.int .u64 ((m64 (z.count + 1) : Nat) : Int)))
            have HZ5 := hid (HZ.out.far (p := ⟨bb, off + K * 3 + 2, none⟩) (by show w.heap.size + 1 ≠ bb; have := HSG.out; have := HGN.out; omega) (.int .u64 ((m64 (z.count + 1) : Nat) : Int)))
            have HD5 := hid (HDD.out.keep (w' := wr.setCell ⟨bb, off + K * 3 + 2, none⟩ (.int .u64 ((m64 (z.count + 1) : Nat) : Int))) (by simp) (fun k hk => Below.heap_setCell _ _ _ _ (by
              show k ≠ bb
              rintro rfl
              rcases hk with ⟨_, h2⟩ | ⟨_, _, h3⟩
              · have := HSG.out; have := HGN.out; omega
              · exact h3 HOW.out.1)))
            have HB5 := hid (HB.out.setCell (p := ⟨bb, off + K * 3 + 2, none⟩) (by show w.heap.size ≤ bb; have := HSG.out; have := HGN.out; omega) (.int .u64 ((m64 (z.count + 1) : Nat) : Int)))
            have HS5 := hid (show wr.heap.size = (wr.setCell ⟨bb, off + K * 3 + 2, none⟩ (.int .u64 ((m64 (z.count + 1) : Nat) : Int))).heap.size by simp)
            have HCP := hid HR.out.cap
            have HLK := hid HR.out.1
            have HBG := hid hbg
            rw [HS5.out] at HA5
            clear HX HZ HN HDD HR HB HBS hwk hwk2 n8 d2 f2 hbg HS5
            generalize wr.setCell ⟨bb, off + K * 3 + 2, none⟩ (.int .u64 ((m64 (z.count + 1) : Nat) : Int)) = w5 at *
            have n10 := HN5.out.cell 10
            have f10 := HN5.out.free 10
            go_upto_region 36 with fail
            have HN6 := hid (show Blk (w5.setCell ⟨gn, 10, none⟩ (.int .u64 (l.seq : Int))) gn 43 #[.int .i64 a2, .int .i64 b2, .slice B1 m1 d1, .slice B2 m2 d2, .slice B3 m3 d3, .int .i64 (l.at_ : Int), .int .i64 (l.n : Int), .int .i64 (l.size : Int), .slice (some ⟨bb, off, none⟩) (K + 1) c', .string (bst st), .int .u64 (l.seq : Int), .int .u64 (l.synced : Int)] from by simpa using HN5.out.set 10 (.int .u64 (l.seq : Int)))
            have HZ6 := hid (HZ5.out.far (p := ⟨gn, 10, none⟩) (by show w.heap.size + 1 ≠ gn; have := HGN.out; omega) (.int .u64 (l.seq : Int)))
            have HD6 := hid (HD5.out.keep (w' := w5.setCell ⟨gn, 10, none⟩ (.int .u64 (l.seq : Int))) (by simp) (fun k hk => Below.heap_setCell _ _ _ _ (by
              show k ≠ gn
              rintro rfl
              rcases hk with ⟨_, h2⟩ | ⟨_, h3, _⟩
              · have := HGN.out; omega
              · exact h3 rfl)))
            have HB6 := hid (HB5.out.setCell (p := ⟨gn, 10, none⟩) (by show w.heap.size ≤ gn; have := HGN.out; omega) (.int .u64 (l.seq : Int)))
            have HA6 := hid (HA5.out.kept (w' := w5.setCell ⟨gn, 10, none⟩ (.int .u64 (l.seq : Int))) (P := fun k => k ≠ gn) (fun b' off' e' _ => by
              injection e' with e'
              injection e' with e1 _ _
              subst e1
              have := HBG.out; have := HSG.out; omega) (B' := (w5.setCell ⟨gn, 10, none⟩ (.int .u64 (l.seq : Int))).heap.size) (by simp) (fun k hk => Below.heap_setCell _ _ _ _ hk))
            clear n10 f10 HN5 HZ5 HD5 HB5 HA5
            generalize w5.setCell ⟨gn, 10, none⟩ (.int .u64 (l.seq : Int)) = w6 at *
            have n0 := HN6.out.cell 0
            have n1 := HN6.out.cell 1
            have n2 := HN6.out.cell 2
            have n3 := HN6.out.cell 3
            have n4 := HN6.out.cell 4
            have n5 := HN6.out.cell 5
            have n6 := HN6.out.cell 6
            have n7 := HN6.out.cell 7
            have n8 := HN6.out.cell 8
            have n9 := HN6.out.cell 9
            have n10 := HN6.out.cell 10
            have n11 := HN6.out.cell 11
            have z0 := HZ6.out.cell 0
            have zf0 := HZ6.out.free 0
            have z1 := HZ6.out.cell 1
            have zf1 := HZ6.out.free 1
            have z2 := HZ6.out.cell 2
            have zf2 := HZ6.out.free 2
            have z3 := HZ6.out.cell 3
            have zf3 := HZ6.out.free 3
            have z4 := HZ6.out.cell 4
            have zf4 := HZ6.out.free 4
            have z5 := HZ6.out.cell 5
            have zf5 := HZ6.out.free 5
            have z6 := HZ6.out.cell 6
            have zf6 := HZ6.out.free 6
            have z7 := HZ6.out.cell 7
            have zf7 := HZ6.out.free 7
            have z8 := HZ6.out.cell 8
            have zf8 := HZ6.out.free 8
            have z9 := HZ6.out.cell 9
            have zf9 := HZ6.out.free 9
            have z10 := HZ6.out.cell 10
            have zf10 := HZ6.out.free 10
            have z11 := HZ6.out.cell 11
            have zf11 := HZ6.out.free 11
            go_wp2_with fail
            refine bodyPost_ret (v := .tuple #[.agg #[.int .i64 a2, .int .i64 b2, .slice B1 m1 d1, .slice B2 m2 d2, .slice B3 m3 d3, .int .i64 (l.at_ : Int), .int .i64 (l.n : Int), .int .i64 (l.size : Int), .slice (some ⟨bb, off, none⟩) (K + 1) c', .string (bst st), .int .u64 (l.seq : Int), .int .u64 (l.synced : Int)], .int .u64 (l.seq : Int), .int .i64 0]) (by simp [results, Tryz.results11, go_sem, *]) rfl ⟨_, by rw [HE.out.1, HE.out.2.2.2]; rfl, ?_⟩
            rw [HE.out.2.1, HE.out.2.2.1]
            have key : ∀ wf, Off2 (w.heap.size + 1) (w.heap.size + 1) w6 wf → W8 (fun k => P k ∨ w.heap.size ≤ k) wf (.agg #[.int .i64 a2, .int .i64 b2, .slice B1 m1 d1, .slice B2 m2 d2, .slice B3 m3 d3, .int .i64 (l.at_ : Int), .int .i64 (l.n : Int), .int .i64 (l.size : Int), .slice (some ⟨bb, off, none⟩) (K + 1) c', .string (bst st), .int .u64 (l.seq : Int), .int .u64 (l.synced : Int)]) s1 { l with live := Wl.bump live', stream := st, last := l.seq } ∧ Below w.heap.size w wf := by
              intro wf ho
              have hb := ho.below HB6.out (Nat.le_succ _) (Nat.le_succ _)
              have h8 := app_made (st := st) (P' := fun k => PPB P w gn (some ⟨bb, off, none⟩) (K + 1) c' k ∨ k = bb) HW.out HA.out HD.out HLK.out (by have := HSL.out; have := HST0.out; omega) (HD6.out.weak fun k hk => .inl hk) HA6.out (.inr rfl) HCP.out
              have hne : ∀ k, (PPB P w gn (some ⟨bb, off, none⟩) (K + 1) c' k ∨ k = bb) → k ≠ w.heap.size + 1 := by
                have := HBG.out; have := HSG.out; have := HGN.out
                rintro k ((h | h) | h)
                · omega
                · omega
                · omega
              refine ⟨(h8.keep (Nat.le_of_eq ho.size.symm) (fun k hk => ho.block k (hne k hk) (hne k hk))).weak (fun k hk => ?_), hb⟩
              rcases hk with (h | h) | h
              · exact .inl h.1
              · exact .inr (by omega)
              · exact .inr (by have := HBG.out; have := HSG.out; have := HGN.out; omega)
            exact key _ (((((((((((((Off2.refl w6).setg 0 _).setg 1 _).setg 2 _).setg 3 _).setg 4 _).setg 5 _).setg 6 _).setg 7 _).setg 8 _).setg 9 _).setg 10 _).setg 11 _)

end Go.Proofs.YtobmdmbjmjdfjaaGreatDoor
