/-
  The landed Truncate.
-/
import Derived.Test.YtobmdmbjmjdfjaaGreatDoorWAppend
namespace Go.Proofs.YtobmdmbjmjdfjaaGreatDoor
open Go Go.RowKit

structure Lk (l : Wl) : Prop where
  next : ∀ i x y, l.live[i]? = some x → l.live[i + 1]? = some y → y.base = x.base + x.count
  last : ∀ x, l.live.getLast? = some x → l.last + 1 = x.base + x.count
  small : ∀ x ∈ l.live, 1 ≤ x.base + x.count ∧ x.base + x.count < 9223372036854775808
theorem Lk.stays {l : Wl} (h : Lk l) {x : Sg} (hx : x ∈ l.live) (seq : Nat) : x.stays seq = (decide (seq < x.base + x.count - 1) && decide (x.base ≤ x.base + x.count - 1)) := by
  obtain ⟨h1, h2⟩ := h.small x hx
  unfold Sg.stays
  have : m64 (x.base + x.count + 18446744073709551615) = x.base + x.count - 1 := by unfold m64; omega
  rw [this, Bool.and_comm, show decide (0 < x.count) = decide (x.base ≤ x.base + x.count - 1) from decide_eq_decide.2 (by omega)]
set_option maxHeartbeats 8000000 in
set_option maxRecDepth 100000 in
theorem end_is {w : World} {b d c cc : Nat} {A C : Option Addr} {N : Nat → Prop} {l : Wl} (h : LIn w b d A c C cc N l) (hk : Lk l) {i : Nat} {x : Sg} (hx : l.live[i]? = some x) :
    Calls Tryz.prog 39 #[.pointer (some ⟨b, 0, none⟩), .int .i64 (i : Int)] w fun e w' => e = .returned (.int .u64 ((x.base + x.count - 1 : Nat) : Int)) ∧ w' = w := by
  have x4 : w.cell? ⟨b, 4, none⟩ = some (.slice A l.live.length c) := h.blk.cell 4
  have x5 : w.cell? ⟨b, 5, none⟩ = some (.int .u64 (l.last : Int)) := h.blk.cell 5
  have hi := (List.getElem?_eq_some_iff.1 hx).1
  have hll := h.pl.live
  obtain ⟨hs1, hs2⟩ := hk.small x (List.mem_of_getElem? hx)
  have hw : IntKind.i64.wrap ((i : Int) + 1) = ((i + 1 : Nat) : Int) := by rw [IntKind.wrap_i64]; omega
  by_cases hlt : i + 1 < l.live.length
  · have hlt' : ((i + 1 : Nat) : Int) < (l.live.length : Int) := by omega
    obtain ⟨bb, off, y, rfl, hb, hy, d0, d1⟩ := h.used.at_.en (i := i + 1) (by rw [List.length_map]; exact hlt)
    rw [List.getElem?_map] at hy
    obtain ⟨z, hz, rfl⟩ := Option.map_eq_some_iff.1 hy
    have hzb : z.base = x.base + x.count := hk.next i x z hx hz
    have hwk : IntKind.u64.wrap ((z.base : Int) - 1) = ((x.base + x.count - 1 : Nat) : Int) := by rw [IntKind.wrap_u64]; omega
    have e1 : w.cell? ⟨bb, off + (i + 1) * 2 + 1, none⟩ = some (.int .u64 (z.base : Int)) := d1
    clear d1 h hk hx hy hz d0 hs1 hs2 hi hzb hlt
    go_enter Tryz.func39, Tryz.ntmps39
    go_wp2_with fail
    go_ret
    exact ⟨rfl, rfl⟩
  · have hlt' : ¬ ((i + 1 : Nat) : Int) < (l.live.length : Int) := by omega
    have hla : l.last = x.base + x.count - 1 := by
      have : l.live.getLast? = some x := by rw [List.getLast?_eq_getElem?, show l.live.length - 1 = i by omega]; exact hx
      have := hk.last x this
      omega
    rw [hla] at x5
    clear h hk hx hs1 hs2 hi hla hlt
    go_enter Tryz.func39, Tryz.ntmps39
    go_wp2_with fail
    go_ret
    exact ⟨rfl, rfl⟩

theorem Wl.streamAt_zero' (l : Wl) (seq : Nat) : (if 0 = l.live.length then l.truncStream seq else l.stream) = l.stream := by
  split
  · rename_i h
    have : l.live = [] := List.length_eq_zero_iff.1 h.symm
    unfold truncStream
    rw [this]
    rfl
  · rfl
theorem Wl.streamAt_step' (l : Wl) (seq : Nat) {k : Nat} {x : Sg} (hx : l.live[k]? = some x) : (if k + 1 = l.live.length then l.truncStream seq else l.stream) = if x.stays seq = true then l.stream else if k + 1 = l.live.length then [] else l.stream := by
  have hk := (List.getElem?_eq_some_iff.1 hx).1
  by_cases h1 : k + 1 = l.live.length
  · rw [if_pos h1, if_pos h1]
    unfold truncStream
    have : l.live.getLast? = some x := by rw [List.getLast?_eq_getElem?, show l.live.length - 1 = k by omega]; exact hx
    rw [this]
  · rw [if_neg h1, if_neg h1]
    split <;> rfl
theorem Wl.truncS_step' (l : Wl) (seq : Nat) (s : Dk) {k : Nat} {x : Sg} (hx : l.live[k]? = some x) : l.truncS seq s (k + 1) = if x.stays seq = true then l.truncS seq s k else freeN (l.truncS seq s k) (l.place x.i) l.size := by
  rw [truncS, hx]
theorem filt_step' {L : List Sg} (seq : Nat) {k : Nat} {x : Sg} (hx : L[k]? = some x) : (L.take (k + 1)).filter (·.stays seq) = (L.take k).filter (·.stays seq) ++ if x.stays seq = true then [x] else [] := by
  rw [List.take_add_one, hx, List.filter_append]
  congr 1
  by_cases h : x.stays seq = true <;> simp [h]
theorem truncS_pend' (l : Wl) (seq : Nat) (s : Dk) (hs : l.size ≤ 64) : ∀ k, (l.truncS seq s k).pend.length ≤ s.pend.length + 64 * k
  | 0 => Nat.le_refl _
  | k + 1 => by
    have ih := truncS_pend' l seq s hs k
    unfold Wl.truncS
    split
    · split
      · omega
      · rename_i x _ _
        have := freeN_len (l.truncS seq s k) (l.place x.i) l.size
        omega
    · omega
theorem cur_is {l : Wl} (h : LPl l) {k : Nat} {x : Sg} (hx : l.live[k]? = some x) (hs : l.stream ≠ []) : (x.en == curE l) = decide (k + 1 = l.live.length) := by
  have hk := (List.getElem?_eq_some_iff.1 hx).1
  unfold curE
  rw [if_neg hs]
  by_cases h1 : k + 1 = l.live.length
  · have : l.live.getLast? = some x := by rw [List.getLast?_eq_getElem?, show l.live.length - 1 = k by omega]; exact hx
    rw [this, decide_eq_true h1]
    simp
  · rw [decide_eq_false h1]
    obtain ⟨y, hy⟩ : ∃ y, l.live.getLast? = some y := by
      cases hg : l.live.getLast? with
      | none => rw [List.getLast?_eq_none_iff.1 hg] at hk; simp at hk
      | some y => exact ⟨y, rfl⟩
    rw [hy]
    have hy2 : l.live[l.live.length - 1]? = some y := by rw [← List.getLast?_eq_getElem?]; exact hy
    have hne : x.i ≠ y.i := fun e => by
      have h3 := h.nodup
      have e1 : (l.live.map (·.i))[k]? = some x.i := by rw [List.getElem?_map, hx]; rfl
      have e2 : (l.live.map (·.i))[l.live.length - 1]? = some x.i := by rw [List.getElem?_map, hy2, e]; rfl
      have := (List.getElem?_inj (by simpa using hk) h3).1 (e1.trans e2.symm)
      omega
    simp [Sg.en, hne]
theorem used_set {w : World} {b d c cc ck mk B : Nat} {A C Ak : Option Addr} {N : Nat → Prop} {l : Wl} {live' : List Sg} (h : LIn w b d A c C cc N l) (hr : GRow eEn 73 w B Ak mk ck (live'.map (·.en))) (hcu : curE { l with live := live' } = curE l) (hp : LPl { l with live := live' }) :
    LIn (w.setCell ⟨b, 4, none⟩ (.slice Ak mk ck)) b d Ak ck C cc (fun g => N g ∨ (Value.slice Ak mk ck).ownBlock = some g) { l with live := live' } ∧ Only b w (w.setCell ⟨b, 4, none⟩ (.slice Ak mk ck)) := by
  have ho : Only b w (w.setCell ⟨b, 4, none⟩ (.slice Ak mk ck)) := (Only.refl _ _).set _
  have hm : mk = live'.length := by rw [hr.1]; simp
  subst hm
  refine ⟨⟨?_, ?_, ⟨h.bytes.1, h.bytes.2.kept ho (.inr (own_off h.bytes.2 h.blk (by decide)))⟩, h.nil, .inl h.mb, fun g hg => .inr hg, fun g hg => .inl (h.mc g hg), fun g hg => ?_, hp⟩, ho⟩
  · rw [hcu]
    have := h.blk.set 4 (.slice Ak live'.length ck)
    simpa using this
  · have hr0 : GRow eEn 73 w 0 Ak live'.length ck (live'.map (·.en)) := hr.le (Nat.zero_le _)
    exact hr0.kept ho (.inr (own_off hr.2 h.blk (by decide)))
  · rcases hg with hg | hg
    · exact Nat.lt_of_lt_of_le (h.lt g hg) ho.size
    · exact Nat.lt_of_lt_of_le (hr.2.lt g hg).2 ho.size

set_option maxHeartbeats 8000000 in
set_option maxRecDepth 100000 in
theorem free_log2 {w : World} {b d : Nat} {N M R : Nat → Prop} {s : Dk} {l : Wl} (h : WA w b d N M R s l) {i : Nat} (hi : i ≤ l.n) (hp : s.pend.length ≤ 900000) :
    Calls Tryz.prog 27 #[.pointer (some ⟨b, 0, none⟩), .int .i64 (i : Int)] w fun e w' => e = .returned (.tuple #[]) ∧ ∃ M' R', WA w' b d N M' R' (freeN s (l.place i) l.size) l ∧ Turns M R w M' R' w' := by
  have HW := hid h
  have HI := hid hi
  have HP := hid hp
  obtain ⟨n, hn⟩ : ∃ n, n = l.size := ⟨_, rfl⟩
  have HN := hid hn
  obtain ⟨p, hpl⟩ : ∃ p : Int, p = l.place i := ⟨_, rfl⟩
  have HPL := hid hpl
  obtain ⟨A, c, C, cc, hl⟩ := h.log
  have hsz : n ≤ 64 := by rw [hn]; exact hl.pl.size
  have HQ := hid (show 0 ≤ p ∧ p ≤ 65536 by have := hl.pl.at_ hi; rw [hpl]; unfold Wl.place; omega)
  have x3 := hl.blk.cell 3
  rw [← hn] at x3
  rw [← hpl, ← hn]
  clear h hl hn hi hp hpl
  go_enter Tryz.func27, Tryz.ntmps27
  go_wp2_with fail
  go_loopw [9] (fun j wr => ∃ k : Nat, k ≤ n ∧ j = .int .i64 (k : Int) ∧ Kept (∃ M' R', WA wr b d N M' R' (freeN s p k) l ∧ Turns M R w M' R' wr)) (fun j _ => n - (intOf j).toNat)
  case atStart => exact ⟨0, Nat.zero_le _, rfl, hid ⟨M, R, HW.out, Turns.of_below (Below.refl _ _)⟩⟩
  case round =>
    obtain ⟨k, hk, rfl, HK⟩ := hrel
    obtain ⟨M1, R1, h1, ht1⟩ := HK.out
    obtain ⟨A, c, C, cc, hl⟩ := h1.log
    by_cases hlt : k < n
    · have hw : IntKind.i64.wrap (p + (k : Int)) = p + (k : Int) := by rw [IntKind.wrap_i64]; have := HQ.out; omega
      have x0 := hl.blk.cell 0
      have HSE := hid (fun (W : World) (hW : Below wr.heap.size wr W) => sector_is (hl.below hW) HI.out)
      rw [← HPL.out] at HSE
      have HFR := hid (fun (W : World) (hW : Below wr.heap.size wr W) => face.free (i := p + (k : Int)) (h1.disk.step hW) (by have := freeN_len s p k; have := HP.out; omega))
      have HX := hid (fun (W : World) (hW : Below wr.heap.size wr W) => (hl.below hW).blk.cell 0)
      have H1 := hid h1
      have HT1 := hid ht1
      clear h1 ht1 hl HK
      go_wp2_with fail
      refine wp_region_any (by kernel_rfl) ?_
      try (change wpAny _ _ _ _ _ _ _ (World.drew _))
      refine stA 0 ?_; (try simp only [putr]); refine stA 1 ?_; (try simp only [putr]); refine stA 2 ?_; (try simp only [putr]); refine stA 4 ?_; (try simp only [putr]); refine stA 5 ?_; (try simp only [putr]); refine stA 7 ?_; (try simp only [putr]); refine rdA [3, 6] ?_; refine rcA (fun KK hKK => ?_) ?_
      · go_simp; refine hKK _ _ ?_; clear hKK KK; (try simp only [putr]); refine rdA [6] ?_; refine rcA (fun KK hKK => ?_) AllReady.nil; go_simp
        go_fit (HSE.out _ (Beyond.drew wr))
        rintro e w5 ⟨rfl, hb5⟩
        refine hKK _ _ ?_; clear hKK KK
        have HB5 := hid (below_step (Beyond.drew wr) hb5)
        have x0 := HX.out w5 HB5.out
        clear hb5
        (try simp only [putr]); refine stA 8 ?_; (try simp only [putr]); refine rdA [9] ?_; refine rcA (fun KK hKK => ?_) AllReady.nil; go_simp
        go_fit (HFR.out _ HB5.out)
        rintro e w6 ⟨rfl, M', R', hd, ht⟩
        refine hKK _ _ ?_; clear hKK KK
        have HW6 := hid ((H1.out.step HB5.out).disk' hd ht)
        have HT6 := hid (HT1.out.trans' (Turns.behind HB5.out ht))
        clear hd ht
        (try simp only [putr]); refine wpAny_done (by kernel_rfl) ?_ _
        go_wp2_with fail
        go_roundw
        case rel => exact ⟨k + 1, by omega, by go_num, hid ⟨M', R', HW6.out, HT6.out⟩⟩
        case measure => simp [intOf]; omega
      refine rcA (fun KK hKK => ?_) AllReady.nil
      · go_simp
        go_fit (HSE.out _ (Beyond.drew wr))
        rintro e w5 ⟨rfl, hb5⟩
        refine hKK _ _ ?_; clear hKK KK
        have HB5 := hid (below_step (Beyond.drew wr) hb5)
        have x0 := HX.out w5 HB5.out
        clear hb5
        (try simp only [putr]); refine stA 8 ?_; (try simp only [putr]); refine rdA [3] ?_; refine rcA (fun KK hKK => ?_) AllReady.nil; go_simp; refine hKK _ _ ?_; clear hKK KK; (try simp only [putr]); refine rdA [9] ?_; refine rcA (fun KK hKK => ?_) AllReady.nil; go_simp
        go_fit (HFR.out _ HB5.out)
        rintro e w6 ⟨rfl, M', R', hd, ht⟩
        refine hKK _ _ ?_; clear hKK KK
        have HW6 := hid ((H1.out.step HB5.out).disk' hd ht)
        have HT6 := hid (HT1.out.trans' (Turns.behind HB5.out ht))
        clear hd ht
        (try simp only [putr]); refine wpAny_done (by kernel_rfl) ?_ _
        go_wp2_with fail
        go_roundw
        case rel => exact ⟨k + 1, by omega, by go_num, hid ⟨M', R', HW6.out, HT6.out⟩⟩
        case measure => simp [intOf]; omega
    · obtain rfl : k = n := by omega
      have H1 := hid h1
      have HT1 := hid ht1
      clear h1 ht1 hl HK
      go_wp2_with fail
      go_end0
      exact ⟨rfl, M1, R1, H1.out, HT1.out⟩

structure Tr8 (w wr : World) (b d : Nat) (N M R M1 R1 : Nat → Prop) (s : Dk) (l : Wl) (seq k : Nat) (A : Option Addr) (c : Nat) (Ak : Option Addr) (mk ck : Nat) : Prop where
  wa : WA wr b d N M1 R1 (l.truncS seq s k) { l with stream := if k = l.live.length then l.truncStream seq else l.stream }
  turns : LTurns N M R w N M1 R1 wr
  old : GRow eEn 73 wr 0 A l.live.length c (l.live.map (·.en))
  row : GRow eEn 73 wr w.heap.size Ak mk ck (((l.live.take k).filter (·.stays seq)).map (·.en))
  apart : ∀ g, (Value.slice Ak mk ck).ownBlock = some g → ¬ N g ∧ ¬ M1 g ∧ ¬ R1 g
theorem Tr8.step {w wr w' : World} {b d : Nat} {N M R M1 R1 : Nat → Prop} {s : Dk} {l : Wl} {seq k : Nat} {A : Option Addr} {c : Nat} {Ak : Option Addr} {mk ck : Nat} (h : Tr8 w wr b d N M R M1 R1 s l seq k A c Ak mk ck) (hb : Below wr.heap.size wr w') : Tr8 w w' b d N M R M1 R1 s l seq k A c Ak mk ck :=
  ⟨h.wa.step hb, h.turns.trans (LTurns.of_below hb), h.old.below hb, h.row.below hb, h.apart⟩
theorem WA.hold {w w' : World} {b d : Nat} {N M R : Nat → Prop} {s : Dk} {l : Wl} (h : WA w b d N M R s l) (hs : w.heap.size ≤ w'.heap.size) (hk : ∀ k, k < w.heap.size → N k ∨ M k ∨ R k → w'.heap[k]? = w.heap[k]?) : WA w' b d N M R s l := by
  obtain ⟨⟨A, c, C, cc, h1⟩, h2, h3⟩ := h
  exact ⟨⟨A, c, C, cc, h1.keep hs fun k hn => hk k (h1.lt k hn) (.inl hn)⟩, h2.keep hs fun k hm => hk k (h2.lt k hm) (.inr hm), h3⟩
theorem WA.lt {w : World} {b d : Nat} {N M R : Nat → Prop} {s : Dk} {l : Wl} (h : WA w b d N M R s l) : ∀ k, N k ∨ M k ∨ R k → k < w.heap.size := fun k hk => by
  obtain ⟨⟨_, _, _, _, h1⟩, h2, _⟩ := h
  exact hk.elim (h1.lt k) (h2.lt k)
theorem Tr8.push {w w5 w6 : World} {b d : Nat} {N M R M1 R1 : Nat → Prop} {s : Dk} {l : Wl} {seq k : Nat} {A : Option Addr} {c : Nat} {Ak A6 : Option Addr} {mk ck m6 c6 : Nat} {o : Obj} (h : Tr8 w w5 b d N M R M1 R1 s l seq k A c Ak mk ck) (hmu : ∀ g, (Value.slice A l.live.length c).ownBlock = some g → N g)
    (h1 : l.truncS seq s (k + 1) = l.truncS seq s k) (h2 : (if k + 1 = l.live.length then l.truncStream seq else l.stream) = (if k = l.live.length then l.truncStream seq else l.stream)) (hw : (w5.alloc o).grownBy w6 (Value.slice Ak mk ck).ownBlock) (hr : GRow eEn 73 w6 w.heap.size A6 m6 c6 (((l.live.take (k + 1)).filter (·.stays seq)).map (·.en)))
    (ho : (Value.slice A6 m6 c6).ownBlock = (Value.slice Ak mk ck).ownBlock ∨ (Value.slice A6 m6 c6).ownBlock = some (w5.heap.size + 1)) : Tr8 w w6 b d N M R M1 R1 s l seq (k + 1) A c A6 m6 c6 := by
  have hst : ∀ q, q < w5.heap.size → (Value.slice Ak mk ck).ownBlock ≠ some q → w6.heap[q]? = w5.heap[q]? := fun q hq hne => (hw.block q (Nat.lt_of_lt_of_le hq (by simp)) (fun e => hne e.symm)).trans (Below.heap_alloc _ _ _ hq)
  have hsz : w5.heap.size ≤ w6.heap.size := Nat.le_trans (by simp) hw.size
  have hlt := h.wa.lt
  refine ⟨?_, ⟨?_, h.turns.own, h.turns.held⟩, grow_of h.old hmu (fun g hg => hst g (hlt g (.inl hg)) (fun e => (h.apart g e).1 hg)), hr, fun g hg => ?_⟩
  · rw [h1, h2]
    exact h.wa.hold hsz (fun q hq hn => hst q hq (fun e => by
      have := h.apart q e
      rcases hn with hn | hn | hn
      · exact this.1 hn
      · exact this.2.1 hn
      · exact this.2.2 hn))
  · exact h.turns.within.then (M' := fun q => (Value.slice Ak mk ck).ownBlock = some q) ⟨hw.os, hw.tape, hw.output, hsz, fun q hq hne => hst q hq hne⟩ (fun q hq => .inr (h.row.2.lt q hq).1)
  · rcases ho with ho | ho
    · exact h.apart g (ho ▸ hg)
    · rw [ho] at hg
      injection hg with hg
      exact ⟨fun y => by have := hlt g (.inl y); omega, fun y => by have := hlt g (.inr (.inl y)); omega, fun y => by have := hlt g (.inr (.inr y)); omega⟩
theorem stream_next {l : Wl} (h : LPl l) {k : Nat} {x : Sg} (hx : l.live[k]? = some x) : (if k + 1 = l.live.length then [] else l.stream) = if (x.en == curE l) = true then [] else l.stream := by
  by_cases hs : l.stream = []
  · rw [hs]; simp
  · rw [cur_is h hx hs]
    by_cases h1 : k + 1 = l.live.length <;> simp [h1]
theorem Tr8.freed {w w5 w6 wf : World} {b d : Nat} {N M R M1 R1 M2 R2 : Nat → Prop} {s : Dk} {l : Wl} {seq k : Nat} {A : Option Addr} {c : Nat} {Ak : Option Addr} {mk ck : Nat} {st : List UInt8} {x : Sg} (h : Tr8 w w5 b d N M R M1 R1 s l seq k A c Ak mk ck) (hmu : ∀ g, (Value.slice A l.live.length c).ownBlock = some g → N g)
    (h1 : l.truncS seq s (k + 1) = freeN (l.truncS seq s k) (l.place x.i) l.size) (h2 : (if k + 1 = l.live.length then l.truncStream seq else l.stream) = st) (h3 : ((l.live.take (k + 1)).filter (·.stays seq)) = ((l.live.take k).filter (·.stays seq))) (ht : Turns M1 R1 w5 M2 R2 w6) (ho : Only b w6 wf) (hwf : WA wf b d N M2 R2 (freeN (l.truncS seq s k) (l.place x.i) l.size) { l with stream := st }) (hb : N b) (hA : (Value.slice A l.live.length c).ownBlock ≠ some b) : Tr8 w wf b d N M R M2 R2 s l seq (k + 1) A c Ak mk ck := by
  have hlt := h.wa.lt
  have ha := h.wa.apart
  have hok : ∀ g, (Value.slice Ak mk ck).ownBlock = some g → g < w5.heap.size := fun g hg => (h.row.2.lt g hg).2
  refine ⟨by rw [h1, h2]; exact hwf, (h.turns.trans (LTurns.of_turns ht)).trans (LTurns.of_only ho hb), ?_, ?_, fun g hg => ⟨(h.apart g hg).1, fun y => ?_, fun y => ?_⟩⟩
  · refine grow_of (N := fun g => (Value.slice A l.live.length c).ownBlock = some g) h.old (fun g hg => hg) (fun g hg => (ho.block g (Nat.lt_of_lt_of_le (hlt g (.inl (hmu g hg))) ht.size) (fun e => by injection e with e; subst e; exact hA hg)).trans (ht.block g (hlt g (.inl (hmu g hg))) (ha g (hmu g hg)).1))
  · rw [h3]
    refine grow_of (N := fun g => (Value.slice Ak mk ck).ownBlock = some g) h.row (fun g hg => hg) (fun g hg => (ho.block g (Nat.lt_of_lt_of_le (hok g hg) ht.size) (fun e => by injection e with e; subst e; exact (h.apart _ hg).1 hb)).trans (ht.block g (hok g hg) (h.apart g hg).2.1))
  · rcases ht.own g y with z | z
    · exact (h.apart g hg).2.1 z
    · have := hok g hg; omega
  · rcases ht.held g y with z | z
    · exact (h.apart g hg).2.2 z
    · have := hok g hg; omega
theorem Lk.re {l : Wl} (h : Lk l) (st : List UInt8) : Lk { l with stream := st } := ⟨h.next, h.last, h.small⟩
theorem filt_last {l : Wl} {seq : Nat} (h : l.truncStream seq ≠ []) (hp : LPl l) : (l.live.filter (·.stays seq)).getLast? = l.live.getLast? ∧ l.live.filter (·.stays seq) ≠ [] ∧ l.truncStream seq = l.stream := by
  unfold Wl.truncStream at h ⊢
  cases hg : l.live.getLast? with
  | none =>
    rw [hg] at h
    exact absurd (List.getLast?_eq_none_iff.1 hg) (hp.cur h)
  | some x =>
    rw [hg] at h
    dsimp only at h ⊢
    by_cases hs : x.stays seq = true
    · rw [if_pos hs]
      have hne : l.live ≠ [] := fun e => by rw [e] at hg; cases hg
      have he : l.live = l.live.dropLast ++ [x] := by
        have := List.dropLast_concat_getLast hne
        rw [List.getLast?_eq_some_getLast hne] at hg
        injection hg with hg
        rw [hg] at this
        exact this.symm
      have hf : l.live.filter (·.stays seq) = l.live.dropLast.filter (·.stays seq) ++ [x] := by
        conv => lhs; rw [he]
        rw [List.filter_append]
        congr 1
        simp [hs]
      exact ⟨by rw [hf, List.getLast?_concat], by rw [hf]; simp, rfl⟩
    · rw [if_neg hs] at h
      exact absurd rfl h
theorem LPl.filt {l : Wl} {seq : Nat} (hp : LPl l) : LPl { l with live := l.live.filter (·.stays seq), stream := l.truncStream seq } := by
  refine ⟨hp.n2, hp.n, hp.s1, hp.size, hp.place, (List.Sublist.map _ List.filter_sublist).nodup hp.nodup, fun x hx => hp.lt x (List.mem_filter.1 hx).1, hp.last, hp.synced, ?_, fun h => (filt_last h hp).2.1⟩
  show (l.truncStream seq).length ≤ 512 * l.size
  by_cases h : l.truncStream seq = []
  · rw [h]; exact Nat.zero_le _
  · rw [(filt_last h hp).2.2]; exact hp.stream
theorem curE_filt {l : Wl} {seq : Nat} (hp : LPl l) : curE { l with live := l.live.filter (·.stays seq), stream := l.truncStream seq } = curE { l with stream := l.truncStream seq } := by
  unfold curE
  dsimp only
  by_cases h : l.truncStream seq = []
  · rw [if_pos h, if_pos h]
  · rw [if_neg h, if_neg h, (filt_last h hp).1]

set_option maxHeartbeats 8000000 in
set_option maxRecDepth 100000 in
theorem trunc_log {w : World} {b d : Nat} {N M R : Nat → Prop} {s : Dk} {l : Wl} (h : WA w b d N M R s l) (hk : Lk l) (seq : Nat) (hp : s.pend.length ≤ 800000) :
    Calls Tryz.prog 14 #[.pointer (some ⟨b, 0, none⟩), .int .u64 (seq : Int)] w fun e w' => e = .returned (.int .i64 (l.truncWhy seq : Int)) ∧ ∃ N' M' R', WA w' b d N' M' R' (l.truncD seq s) (l.trunc seq) ∧ LTurns N M R w N' M' R' w' := by
  obtain ⟨A, c, C, cc, hl⟩ := h.log
  have HW := hid h
  have HK := hid hk
  have HP := hid hp
  have HPL := hid hl.pl
  have hll := hl.pl.live
  obtain ⟨nl, hnl⟩ : ∃ nl, nl = l.live.length := ⟨_, rfl⟩
  have HNL := hid hnl
  have hnl64 : nl ≤ 64 := by rw [hnl]; exact hll
  have x4 : w.cell? ⟨b, 4, none⟩ = some (.slice A nl c) := by rw [hnl]; exact hl.blk.cell 4
  have x5 : w.cell? ⟨b, 5, none⟩ = some (.int .u64 (l.last : Int)) := hl.blk.cell 5
  have HMU := hid hl.mu
  have HT0 := hid (show Tr8 w w b d N M R M R s l seq 0 A c none 0 0 from ⟨by rw [l.streamAt_zero' seq]; exact h, LTurns.refl _ _ _ _, hl.used, ⟨rfl, World.ownsRow_nil _ _ _ _⟩, fun g hg => by cases hg⟩)
  clear h hk hp hl hnl hll
  by_cases hsl : l.last < seq
  · have hgt : (seq : Int) > (l.last : Int) := by omega
    have e1 : l.truncWhy seq = 83 := if_pos hsl
    have e2 : l.truncD seq s = s := if_pos hsl
    have e3 : l.trunc seq = l := if_pos hsl
    rw [e1, e2, e3]
    clear e1 e2 e3 hsl
    go_enter Tryz.func14, Tryz.ntmps14
    go_wp2_with fail
    go_ret
    exact ⟨rfl, N, M, R, HW.out, LTurns.refl _ _ _ _⟩
  · have hgt : ¬ (seq : Int) > (l.last : Int) := by omega
    have e1 : l.truncWhy seq = 0 := if_neg hsl
    have e2 : l.truncD seq s = (l.truncS seq s nl).sync := by unfold Wl.truncD; rw [if_neg hsl, HNL.out]
    have e3 : l.trunc seq = { l with live := l.live.filter (·.stays seq), stream := l.truncStream seq, synced := l.last } := if_neg hsl
    rw [e1, e2, e3]
    clear e1 e2 e3 hsl
    go_enter Tryz.func14, Tryz.ntmps14
    go_wp2_with fail
    go_loopw [5, 20] (fun x5 x20 wr => ∃ (k : Nat) (M1 R1 : Nat → Prop) (Ak : Option Addr) (mk ck : Nat), k ≤ nl ∧ x5 = .slice Ak mk ck ∧ x20 = .int .i64 (k : Int) ∧ Kept (Tr8 w wr b d N M R M1 R1 s l seq k A c Ak mk ck)) (fun _ x _ => nl - (intOf x).toNat)
    case atStart => exact ⟨0, M, R, none, 0, 0, Nat.zero_le _, rfl, rfl, HT0⟩
    case round =>
      clear HT0 x4 x5 HW
      obtain ⟨k, M1, R1, Ak, mk, ck, hk, rfl, rfl, HT⟩ := hrel
      by_cases hlt : k < nl
      · have hlt' : (k : Int) < (nl : Int) := by omega
        obtain ⟨bb, off, y, rfl, hbb, hy, d0, d1⟩ := HT.out.old.at_.en (i := k) (by rw [List.length_map, ← HNL.out]; exact hlt)
        rw [List.getElem?_map] at hy
        obtain ⟨x, hx, rfl⟩ := Option.map_eq_some_iff.1 hy
        have HXK := hid hx
        have hxm := List.mem_of_getElem? hx
        have HXN := hid (Nat.le_of_lt (HPL.out.lt x hxm).1)
        have HST := hid (l.streamAt_step' seq hx)
        have HTS := hid (l.truncS_step' seq s hx)
        have HFT := hid (filt_step' seq hx)
        have HSK := hid (show (if k = l.live.length then l.truncStream seq else l.stream) = l.stream from if_neg (by rw [← HNL.out]; omega))
        have e0 : wr.cell? ⟨bb, off + k * 2, none⟩ = some (.int .i64 (x.i : Int)) := d0
        have e1 : wr.cell? ⟨bb, off + k * 2 + 1, none⟩ = some (.int .u64 (x.base : Int)) := d1
        have HB9 := hid (show Below wr.heap.size wr (wr.alloc (.cells #[.int .i64 (x.i : Int), .int .u64 (x.base : Int)] 73)) from (Below.refl _ _).alloc (Nat.le_refl _) _)
        have hy9 := Blk.new wr 73 #[.int .i64 (x.i : Int), .int .u64 (x.base : Int)]
        obtain ⟨g8, hg8⟩ : ∃ g, g = wr.heap.size := ⟨_, rfl⟩
        rw [← hg8] at hy9
        have HY := hid hy9
        have HG8 := hid hg8
        have HS := hid (HK.out.stays hxm seq)
        obtain ⟨E, hE⟩ : ∃ E, E = x.base + x.count - 1 := ⟨_, rfl⟩
        rw [← hE] at HS
        have HE := hid hE
        clear hy d0 d1 hbb hy9 hE hxm
        go_upto_region 7 with fail
        rw [← hg8]
        generalize wr.alloc (.cells #[.int .i64 (x.i : Int), .int .u64 (x.base : Int)] 73) = w5 at *
        have HT5 := hid (HT.out.step HB9.out)
        have HGM := hid (show ¬ M1 g8 from fun z => by have := HT.out.wa.lt g8 (.inr (.inl z)); have := HG8.out; omega)
        have HW5 := hid HT5.out.wa
        rw [HSK.out] at HW5
        obtain ⟨A5, c5, C5, cc5, hl5⟩ := HW5.out.log
        have h9 := end_is hl5 (HK.out.re l.stream) (i := k) (x := x) hx
        rw [← HE.out] at h9
        have HEN := hid h9
        have HL5 := hid hl5
        clear HT HB9 hg8 e0 e1 hx h9 hl5
        go_wp2_with fail
        go_fit HEN.out
        rintro e w6 ⟨rfl, hw⟩
        obtain rfl : w5 = w6 := hw.symm
        have y0 := HY.out.cell 0
        have y1 := HY.out.cell 1
        clear HEN hw
        by_cases hss : x.stays seq = true
        · have HS2 := hid hss
          rw [HS.out] at hss
          simp only [Bool.and_eq_true, decide_eq_true_eq] at hss
          have b1 : (E : Int) > (seq : Int) := by omega
          have b2 : (E : Int) ≥ (x.base : Int) := by omega
          have HLN := hid (show (((l.live.take k).filter (·.stays seq)).map (·.en)).length + 1 ≤ 1099511627776 by
            have := List.length_filter_le (·.stays seq) (l.live.take k)
            rw [List.length_take] at this
            rw [List.length_map]
            omega)
          have HS9 := hid (show w.heap.size ≤ (w5.alloc (.cells #[.int .i64 (x.i : Int), .int .u64 (x.base : Int)] 73)).heap.size from Nat.le_trans HT5.out.turns.within.size (by simp))
          clear hss
          go_wp2_with (at_builtin; go_must (refine wpList_append_own _ rfl _ _ eEn gi_en (by decide) rfl w.heap.size rfl (HT5.out.row.alloc _) rfl rfl (GAt.one_at (w := w5) (x := ((x.i, x.base) : En)) rfl rfl) HLN.out HS9.out ?_))
          intro A6 m6 c6 w6 hr6 hc6 hb6 hw6 ho6
          have HT6 := hid (Tr8.push HT5.out HMU.out (o := .cells #[.int .i64 (x.i : Int), .int .u64 (x.base : Int)] 73) (by rw [HTS.out, if_pos HS2.out]) (by rw [HST.out, if_pos HS2.out, HSK.out]) hw6 (show GRow eEn 73 w6 w.heap.size A6 m6 c6 (((l.live.take (k + 1)).filter (·.stays seq)).map (·.en)) from by rw [HFT.out, if_pos HS2.out, List.map_append]; exact hr6) ho6)
          clear hr6 hc6 hb6 hw6 ho6 y0 y1
          go_wp2_with fail
          go_roundw
          case rel => exact ⟨k + 1, M1, R1, A6, m6, c6, by omega, rfl, by go_num, HT6⟩
          case measure => simp [intOf]; omega
        · have HS2 := hid hss
          rw [HS.out] at hss
          have HPE := hid (show (l.truncS seq s k).pend.length ≤ 900000 by have := truncS_pend' l seq s HPL.out.size k; have := HP.out; omega)
          by_cases hc1 : seq < E
          · have b1 : (E : Int) > (seq : Int) := by omega
            have b2 : ¬ (E : Int) ≥ (x.base : Int) := fun hb => hss (by simp [hc1]; omega)
            clear hss hc1
            have HFR := hid (free_log2 HW5.out (i := x.i) HXN.out HPE.out)
            rw [show Wl.place { l with stream := l.stream } x.i = l.place x.i from rfl, show Wl.size { l with stream := l.stream } = l.size from rfl] at HFR
            go_wp2_with fail
            go_fit HFR.out
            rintro e w6 ⟨rfl, M2, R2, hw6, ht6⟩
            clear y0 y1
            have HW6 := hid hw6
            have HT6 := hid ht6
            have HY6 := hid (show Blk w6 g8 _ _ from (ht6.block g8 HY.out.lt HGM.out).trans HY.out)
            obtain ⟨A6, c6, C6, cc6, hl6⟩ := hw6.log
            have HL6 := hid hl6
            have HNb := hid hl6.mb
            have HAB := hid (show (Value.slice (some ⟨bb, off, none⟩) l.live.length c).ownBlock ≠ some b from own_off HT5.out.old.2 HL5.out.blk (by decide))
            have y0 := HY6.out.cell 0
            have y1 := HY6.out.cell 1
            have x7 : w6.cell? ⟨b, 7, none⟩ = some (.int .i64 ((curE l).1 : Int)) := hl6.blk.cell 7
            have x8 : w6.cell? ⟨b, 8, none⟩ = some (.int .u64 ((curE l).2 : Int)) := hl6.blk.cell 8
            have heq := eql_en x.en (curE l)
            have heq : ∀ W, (binOp .eql 73 (.agg #[.int .i64 (x.i : Int), .int .u64 (x.base : Int)]) (.agg #[.int .i64 ((curE l).1 : Int), .int .u64 ((curE l).2 : Int)])).run Tryz.prog W = .ok (.bool (x.en == curE l)) W := heq
            have HSN := hid (stream_next HPL.out HXK.out)
            clear hw6 ht6 hl6 HFR
            cases hF : x.en == curE l with
            | true =>
              rw [hF] at heq HSN
              clear hF
              go_wp2_with fail
              go_quiet (fail)
              generalize hw0 : World.drewN _ _ = w7
              have HB7 := hid (show Below w6.heap.size w6 w7 from by rw [← hw0]; exact below_drewN (Below.refl _ _) _)
              clear hw0 x7 x8 y0 y1
              have HSTP := hid (stop_is (HL6.out.below HB7.out))
              go_wp2_with fail
              go_fit HSTP.out
              rintro e w8 ⟨rfl, hl8, ho8⟩
              have HT8 := hid (Tr8.freed (st := []) (x := x) HT5.out HMU.out (by rw [HTS.out, if_neg HS2.out]) (by rw [HST.out, if_neg HS2.out, HSN.out]; simp) (by rw [HFT.out, if_neg HS2.out, List.append_nil]) (HT6.out.trans' (Turns.of_below HB7.out)) ho8 ((HW6.out.step HB7.out).log' hl8 ho8) HNb.out HAB.out)
              clear hl8 ho8 HSTP
              go_wp2_with fail
              go_roundw
              case rel => exact ⟨k + 1, M2, R2, Ak, mk, ck, by omega, rfl, by go_num, HT8⟩
              case measure => simp [intOf]; omega
            | false =>
              rw [hF] at heq HSN
              clear hF
              go_wp2_with fail
              go_quiet (fail)
              generalize hw0 : World.drewN _ _ = w7
              have HB7 := hid (show Below w6.heap.size w6 w7 from by rw [← hw0]; exact below_drewN (Below.refl _ _) _)
              clear hw0 x7 x8 y0 y1
              have HT8 := hid (Tr8.freed (st := l.stream) (x := x) HT5.out HMU.out (by rw [HTS.out, if_neg HS2.out]) (by rw [HST.out, if_neg HS2.out, HSN.out]; simp) (by rw [HFT.out, if_neg HS2.out, List.append_nil]) (HT6.out.trans' (Turns.of_below HB7.out)) (Only.refl _ _) (HW6.out.step HB7.out) HNb.out HAB.out)
              go_wp2_with fail
              go_roundw
              case rel => exact ⟨k + 1, M2, R2, Ak, mk, ck, by omega, rfl, by go_num, HT8⟩
              case measure => simp [intOf]; omega
          · have b1 : ¬ (E : Int) > (seq : Int) := by omega
            clear hss hc1
            have HFR := hid (free_log2 HW5.out (i := x.i) HXN.out HPE.out)
            rw [show Wl.place { l with stream := l.stream } x.i = l.place x.i from rfl, show Wl.size { l with stream := l.stream } = l.size from rfl] at HFR
            go_wp2_with fail
            go_fit HFR.out
            rintro e w6 ⟨rfl, M2, R2, hw6, ht6⟩
            clear y0 y1
            have HW6 := hid hw6
            have HT6 := hid ht6
            have HY6 := hid (show Blk w6 g8 _ _ from (ht6.block g8 HY.out.lt HGM.out).trans HY.out)
            obtain ⟨A6, c6, C6, cc6, hl6⟩ := hw6.log
            have HL6 := hid hl6
            have HNb := hid hl6.mb
            have HAB := hid (show (Value.slice (some ⟨bb, off, none⟩) l.live.length c).ownBlock ≠ some b from own_off HT5.out.old.2 HL5.out.blk (by decide))
            have y0 := HY6.out.cell 0
            have y1 := HY6.out.cell 1
            have x7 : w6.cell? ⟨b, 7, none⟩ = some (.int .i64 ((curE l).1 : Int)) := hl6.blk.cell 7
            have x8 : w6.cell? ⟨b, 8, none⟩ = some (.int .u64 ((curE l).2 : Int)) := hl6.blk.cell 8
            have heq := eql_en x.en (curE l)
            have heq : ∀ W, (binOp .eql 73 (.agg #[.int .i64 (x.i : Int), .int .u64 (x.base : Int)]) (.agg #[.int .i64 ((curE l).1 : Int), .int .u64 ((curE l).2 : Int)])).run Tryz.prog W = .ok (.bool (x.en == curE l)) W := heq
            have HSN := hid (stream_next HPL.out HXK.out)
            clear hw6 ht6 hl6 HFR
            cases hF : x.en == curE l with
            | true =>
              rw [hF] at heq HSN
              clear hF
              go_wp2_with fail
              go_quiet (fail)
              generalize hw0 : World.drewN _ _ = w7
              have HB7 := hid (show Below w6.heap.size w6 w7 from by rw [← hw0]; exact below_drewN (Below.refl _ _) _)
              clear hw0 x7 x8 y0 y1
              have HSTP := hid (stop_is (HL6.out.below HB7.out))
              go_wp2_with fail
              go_fit HSTP.out
              rintro e w8 ⟨rfl, hl8, ho8⟩
              have HT8 := hid (Tr8.freed (st := []) (x := x) HT5.out HMU.out (by rw [HTS.out, if_neg HS2.out]) (by rw [HST.out, if_neg HS2.out, HSN.out]; simp) (by rw [HFT.out, if_neg HS2.out, List.append_nil]) (HT6.out.trans' (Turns.of_below HB7.out)) ho8 ((HW6.out.step HB7.out).log' hl8 ho8) HNb.out HAB.out)
              clear hl8 ho8 HSTP
              go_wp2_with fail
              go_roundw
              case rel => exact ⟨k + 1, M2, R2, Ak, mk, ck, by omega, rfl, by go_num, HT8⟩
              case measure => simp [intOf]; omega
            | false =>
              rw [hF] at heq HSN
              clear hF
              go_wp2_with fail
              go_quiet (fail)
              generalize hw0 : World.drewN _ _ = w7
              have HB7 := hid (show Below w6.heap.size w6 w7 from by rw [← hw0]; exact below_drewN (Below.refl _ _) _)
              clear hw0 x7 x8 y0 y1
              have HT8 := hid (Tr8.freed (st := l.stream) (x := x) HT5.out HMU.out (by rw [HTS.out, if_neg HS2.out]) (by rw [HST.out, if_neg HS2.out, HSN.out]; simp) (by rw [HFT.out, if_neg HS2.out, List.append_nil]) (HT6.out.trans' (Turns.of_below HB7.out)) (Only.refl _ _) (HW6.out.step HB7.out) HNb.out HAB.out)
              go_wp2_with fail
              go_roundw
              case rel => exact ⟨k + 1, M2, R2, Ak, mk, ck, by omega, rfl, by go_num, HT8⟩
              case measure => simp [intOf]; omega
      · obtain rfl : k = nl := by omega
        have hlt' : ¬ (k : Int) < (k : Int) := by omega
        have hst : (if k = l.live.length then l.truncStream seq else l.stream) = l.truncStream seq := if_pos HNL.out
        have hwa := HT.out.wa
        rw [hst] at hwa
        have hrow := HT.out.row
        rw [HNL.out, List.take_length] at hrow
        obtain ⟨A9, c9, C9, cc9, hl⟩ := hwa.log
        have x4 := hl.blk.cell 4
        have f4 := hl.blk.free 4
        have HUS := hid (used_set (live' := l.live.filter (·.stays seq)) hl hrow (curE_filt HPL.out) HPL.out.filt)
        have HNb := hid hl.mb
        have hd := hwa.disk
        have ha := hwa.apart
        have HW9 := hid (show WA (wr.setCell ⟨b, 4, none⟩ (.slice Ak mk ck)) b d (fun g => N g ∨ (Value.slice Ak mk ck).ownBlock = some g) M1 R1 (l.truncS seq s k) { l with live := l.live.filter (·.stays seq), stream := l.truncStream seq } from
          ⟨⟨_, _, _, _, HUS.out.1⟩, hd.keep HUS.out.2.size (fun g hg => HUS.out.2.block g (hd.lt g hg) (fun e => by
            injection e with e
            subst e
            exact hg.elim (ha _ HNb.out).1 (ha _ HNb.out).2)), fun g hg => hg.elim (ha g) (fun e => (HT.out.apart g e).2)⟩)
        have HT9 := hid (show LTurns N M R w (fun g => N g ∨ (Value.slice Ak mk ck).ownBlock = some g) M1 R1 (wr.setCell ⟨b, 4, none⟩ (.slice Ak mk ck)) from by
          have ht := HT.out.turns.trans (LTurns.of_only (N := N) (M := M1) (R := R1) HUS.out.2 HNb.out)
          exact ⟨ht.within, fun g hg => by
            rcases hg with (hg | hg) | hg
            · exact ht.own g (.inl hg)
            · exact .inr (HT.out.row.2.lt g hg).1
            · exact ht.own g (.inr hg), ht.held⟩)
        clear hst hwa hrow hl hd ha
        go_upto_region 15 with fail
        generalize wr.setCell ⟨b, 4, none⟩ (.slice Ak mk ck) = w9 at *
        clear x4 f4
        go_wp2_with fail
        go_fit (sync_log HW9.out)
        rintro e w10 ⟨rfl, M2, R2, hw, ht⟩
        have HWA := hid hw
        have HTA := hid (HT9.out.trans ht)
        clear hw ht
        go_wp2_with fail
        go_ret
        exact ⟨rfl, _, M2, R2, HWA.out, HTA.out⟩

end Go.Proofs.YtobmdmbjmjdfjaaGreatDoor
