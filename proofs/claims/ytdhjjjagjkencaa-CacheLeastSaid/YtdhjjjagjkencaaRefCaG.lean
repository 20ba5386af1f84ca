/-
  The document's cache: Get.
-/
import Derived.Test.YtdhjjjagjkencaaRefCa
import Derived.Test.YtdhjjjagjkencaaGen2
import Derived.Test.YtdhjjjagjkencaaRegion
import Derived.Deep.DeepFit
import Derived.Deep.Cut
namespace Go.Proofs.Ytdhjjjagjkencaa
open Go Go.RowKit

theorem Beyond.alloc {w W : World} (h : Beyond w W) (o : Obj) : Beyond w (W.alloc o) := Below.alloc h (Below.size h) o
/-- what Get answers -/
def GotE (B0 : Nat) (k : Int) (A : Option Addr) (n c : Nat) (l : List En) (e : Ending) (w' : World) : Prop := match l[posE k l]? with
  | none => e = .returned (.tuple #[.slice A n c, .string ⟨#[]⟩, .int .i64 111])
  | some x => ∃ A' m' c', e = .returned (.tuple #[.slice A' m' c', .string (bst x.b), .int .i64 0]) ∧ ES w' w'.heap.size A' m' c' (x :: outE (posE k l) l) ∧ In (fun k => B0 ≤ k) A' (x :: outE (posE k l) l)
set_option maxHeartbeats 4000000 in
set_option maxRecDepth 100000 in
theorem refGetE_any {k : Int} {A : Option Addr} {n c B : Nat} {l : List En} {w : World} (h : ES w B A n c l) (hn : n ≤ 1000000) :
    Calls Try.prog 11 #[.slice A n c, .int .i64 k] w fun e w' => GotE w.heap.size k A n c l e w' ∧ Below w.heap.size w w' := by
  have HF := hid (refFindE_any (k := k) h)
  unfold GotE
  by_cases hp : posE k l < l.length
  · obtain ⟨x, hx, hk⟩ := posE_at hp
    rw [hx]
    have hfi : findI k l = (posE k l : Int) := if_pos hp
    rw [hfi] at HF
    obtain ⟨j, hj⟩ : ∃ j, posE k l = j := ⟨_, rfl⟩
    rw [hj] at HF hx hp ⊢
    have HA := hid h
    have HOL := hid (show (outE j l).length ≤ 1000000 by have := outE_le l j; have := h.len; omega)
    have hlt : j < n := by rw [h.len]; exact hp
    have hge : ¬ (j : Int) < 0 := by omega
    have hmost := h.most
    have HWO := hid (fun (W : World) (hW : Beyond w W) => refWithout_any (j := (j : Int)) (J := j) (h.step hW) (fun q _ => by omega))
    obtain ⟨b, off, y, rfl, hb, hy, c0, c1, c2⟩ := h.at_.get (i := j) hp
    obtain rfl : y = x := by rw [hx] at hy; injection hy with hy; exact hy.symm
    have HBB := hid (Nat.lt_of_lt_of_le hb h.low)
    have HCC := hid (And.intro c0 (And.intro c1 c2))
    have z0 : ∀ W, Beyond w W → W.cell? ⟨b, off + j * 3, none⟩ = some (.int .i64 y.i) := fun W hW => (Below.cell hW HBB.out).trans HCC.out.1
    have z1 : ∀ W, Beyond w W → W.cell? ⟨b, off + j * 3 + 1, none⟩ = some (.string (bst y.b)) := fun W hW => (Below.cell hW HBB.out).trans HCC.out.2.1
    have z2 : ∀ W, Beyond w W → W.cell? ⟨b, off + j * 3 + 2, none⟩ = some (.bool y.d) := fun W hW => (Below.cell hW HBB.out).trans HCC.out.2.2
    clear h hx hp hk hfi hj hb hy c0 c1 c2
    go_enter Try.func11, Try.ntmps11
    go_wp2_with fail
    go_fit HF.out
    rintro e w' ⟨rfl, hw⟩
    rw [hw]
    clear hw w'
    go_upto_region 4 with fail
    refine wp_region_held_drew (S := Beyond w) (by kernel_rfl) (Beyond.drew _) (fun hS => ?_)
    refine stT 0 hS ?_
    try simp only [putr]
    refine stT 1 hS ?_
    try simp only [putr]
    refine stT 2 hS ?_
    try simp only [putr]
    refine stT 3 hS ?_
    try simp only [putr]
    refine stT 5 hS ?_
    try simp only [putr]
    refine stT 6 hS ?_
    try simp only [putr]
    refine stT 9 hS ?_
    try simp only [putr]
    refine stT 10 hS ?_
    try simp only [putr]
    refine stT 11 hS ?_
    try simp only [putr]
    refine stT 12 hS ?_
    try simp only [putr]
    refine stT 13 hS ?_
    try simp only [putr]
    refine rdH [4, 7] ?_
    refine rcH (fun K hK => ?_) ?_
    · skip
      go_simp
      refine hK.out _ _ ((Beyond.alloc hS _)) (fun hS4 => ?_)
      have HRB := hid (GRow.single (E := eEn) (e := 32) (x := y) (base := w.heap.size) w.drew rfl (Nat.le_refl _))
      clear hK K hS
      have hS := hS4
      try simp only [putr]
      refine rdH [7] ?_
      refine rcH (fun K hK => ?_) AllReadyH.nil
      go_simp
      go_fit (HWO.out _ hS)
      rintro e wa ⟨A5, m5, c5, rfl, hr5, hba⟩
      have hS7 := Beyond.step hS hba
      have HRC := hid hr5
      have HRB := hid (HRB.out.below hba)
      clear hr5 hba
      refine hK.out _ _ (by assumption) (fun _ => ?_)
      clear hK K hS
      have hS := hS7
      try simp only [putr]
      refine rdH [8] ?_
      refine rcH (fun K hK => ?_) AllReadyH.nil
      refine wp_append_g _ (.tmp 18) (.tmp 21) eEn gi_en (by decide) rfl w.heap.size rfl HRB.out rfl HRC.out.1 HRC.out.at_ (by have := HOL.out; simp only [List.length_singleton]; omega) (Below.size hS) ?_
      intro A7 m7 c7 w7 hr7 hc7 hb7 hg7
      refine hK.out _ _ (Below.trans hS hb7) (fun hS8 => ?_)
      have HR7 := hid hr7
      have HC7 := hid hc7
      clear hr7 hc7 hb7 hg7
      clear hK K hS
      have hS := hS8
      try simp only [putr]
      refine stT 14 hS ?_
      try simp only [putr]
      refine stT 15 hS ?_
      try simp only [putr]
      refine stT 16 hS ?_
      try simp only [putr]
      refine wpAnyH_done (by kernel_rfl) ?_ _
      go_wp2_with fail
      refine bodyPost_ret (v := .tuple #[.slice A7 m7 c7, .string (bst y.b), .int .i64 0]) (by simp [results, Try.results11, go_sem, *]) rfl ?_
      exact ⟨⟨_, _, _, rfl, ES.row (l := y :: outE j l) HR7.out (by have := HOL.out; rw [List.length_cons]; omega), GRow.in_ HR7.out⟩, hS⟩
    refine rcH (fun K hK => ?_) AllReadyH.nil
    · skip
      go_simp
      go_fit (HWO.out _ hS)
      rintro e wa ⟨A5, m5, c5, rfl, hr5, hba⟩
      have hS7 := Beyond.step hS hba
      have HRC := hid hr5
      clear hr5 hba
      refine hK.out _ _ (by assumption) (fun _ => ?_)
      clear hK K hS
      have hS := hS7
      try simp only [putr]
      refine rdH [4] ?_
      refine rcH (fun K hK => ?_) AllReadyH.nil
      go_simp
      refine hK.out _ _ ((Beyond.alloc hS _)) (fun hS4 => ?_)
      have HRB := hid (GRow.single (E := eEn) (e := 32) (x := y) (base := w.heap.size) wa rfl (Below.size hS))
      have HRC := hid (HRC.out.alloc (.cells #[.int .i64 y.i, .string (bst y.b), .bool y.d] 32))
      clear hK K hS
      have hS := hS4
      try simp only [putr]
      refine rdH [8] ?_
      refine rcH (fun K hK => ?_) AllReadyH.nil
      refine wp_append_g _ (.tmp 18) (.tmp 21) eEn gi_en (by decide) rfl w.heap.size rfl HRB.out rfl HRC.out.1 HRC.out.at_ (by have := HOL.out; simp only [List.length_singleton]; omega) (Below.size hS) ?_
      intro A7 m7 c7 w7 hr7 hc7 hb7 hg7
      refine hK.out _ _ (Below.trans hS hb7) (fun hS8 => ?_)
      have HR7 := hid hr7
      have HC7 := hid hc7
      clear hr7 hc7 hb7 hg7
      clear hK K hS
      have hS := hS8
      try simp only [putr]
      refine stT 14 hS ?_
      try simp only [putr]
      refine stT 15 hS ?_
      try simp only [putr]
      refine stT 16 hS ?_
      try simp only [putr]
      refine wpAnyH_done (by kernel_rfl) ?_ _
      go_wp2_with fail
      refine bodyPost_ret (v := .tuple #[.slice A7 m7 c7, .string (bst y.b), .int .i64 0]) (by simp [results, Try.results11, go_sem, *]) rfl ?_
      exact ⟨⟨_, _, _, rfl, ES.row (l := y :: outE j l) HR7.out (by have := HOL.out; rw [List.length_cons]; omega), GRow.in_ HR7.out⟩, hS⟩
  · have hx : l[posE k l]? = none := List.getElem?_eq_none (by omega)
    rw [hx]
    have hfi : findI k l = -1 := if_neg hp
    rw [hfi] at HF
    clear h hp hx hfi
    go_enter Try.func11, Try.ntmps11
    go_wp2_with fail
    go_fit HF.out
    rintro e w' ⟨rfl, hw⟩
    rw [hw]
    clear hw w'
    go_wp2_with fail
    refine bodyPost_ret (v := .tuple #[.slice A n c, .string ⟨#[]⟩, .int .i64 111]) (by simp [results, Try.results11, go_sem, *]) rfl ?_
    exact ⟨rfl, Below.refl _ _⟩

end Go.Proofs.Ytdhjjjagjkencaa
