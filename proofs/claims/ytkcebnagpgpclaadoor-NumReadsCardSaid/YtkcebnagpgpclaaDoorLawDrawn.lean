/-
  NumGets, NumReads, NumOnly: their walks.
-/
import Derived.Test.YtkcebnagpgpclaaDoorRegion
namespace Go.Proofs.YtkcebnagpgpclaaDoor
open Go Go.RowKit

theorem bst_drop (s : List UInt8) (n : Nat) : (bst s).extract n s.length = bst (s.drop n) := by
  apply ByteArray.ext
  apply Array.toList_inj.1
  simp [bst, List.take_of_length_le]
theorem bst_take (s : List UInt8) (n : Nat) : (bst s).extract 0 n = bst (s.take n) := by
  apply ByteArray.ext
  apply Array.toList_inj.1
  simp [bst]

theorem getVar_all (s : List UInt8) {A : Option Addr} {c B : Nat} {w : World} (hA : At w B A s) (hB : B ≤ w.heap.size) (hl : s.length ≤ 70368744177664) (hc : s.length ≤ c) :
    Calls Tryd.prog 19 #[.slice A s.length c] w (GotVar w s (rdv 0 0 s)) := getVar_any A c B s w hA hB hl hc

theorem rdv_err {i acc : Nat} : ∀ {l : List UInt8} {v n e : Nat}, rdv i acc l = (v, n, e) → e ≠ 0 → v = 0 ∧ n = 0 ∧ (e = 10 ∨ e = 12) := by
  intro l
  induction l generalizing i acc with
  | nil => intro v n e h _; simp [rdv] at h; omega
  | cons x r ih =>
    intro v n e h he
    by_cases hf : i = 9 ∧ 1 < x.toNat ∨ x.toNat = 0 ∧ 0 < i
    · rw [rdv_form hf] at h; simp at h; omega
    · by_cases hx : x.toNat < 128
      · rw [rdv_last hf hx] at h; simp at h; omega
      · rw [rdv_more (by omega) hx] at h
        exact ih h he


set_option maxHeartbeats 4000000 in
theorem only_walk (s : List UInt8) (w : World) (hT : Table w) :
    Calls Tryd.prog 8 #[.string (bst s)] w fun e w' => e = .returned (.bool true) ∧ Below w.heap.size w w' := by
  have HT := hid hT
  have hz := bst_size s
  clear hT
  by_cases hlen : 1000 < s.length
  · go_enter Tryd.func8, Tryd.ntmps8
    go_wp2_with fail
    go_fit (awake_yes w HT.out)
    rintro e w1 ⟨rfl, hb1⟩
    go_wp2_with fail
    go_ret
    exact ⟨rfl, hb1⟩
  · obtain ⟨o, ho⟩ : ∃ o, o = rdv 0 0 s := ⟨_, rfl⟩
    obtain ⟨v, n, e0⟩ := o
    have HO := hid ho.symm
    clear ho
    by_cases he : e0 = 0
    · subst he
      obtain ⟨hb, hv⟩ := rdv_back HO.out
      have HV := hid hv
      have happ := bst_append (vbytes v) (s.drop n)
      rw [hb] at happ
      have hz3 := bst_size (vbytes v)
      have hz4 := bst_size (s.drop n)
      rw [vbytes_length] at hz3
      rw [List.length_drop] at hz4
      have hvl := vlen_le v
      clear hv hb
      go_enter Tryd.func8, Tryd.ntmps8
      go_wp2_with (with_reducible refine wpList_bytes_of _ rfl (.tmp 11) 9 24 5 rfl Tryd.underlying9 Tryd.underlying24 Tryd.underlying5 s rfl ?_; intro A1 c1 w1 hc1 hA1 hb1)
      go_fit (getVar_is rfl HO.out hA1 (Nat.le_refl _) (by omega) hc1)
      rintro e w2 ⟨A2, m2, c2, rfl, hr2, hb2⟩
      have HB2 := hid (below_step hb1 hb2)
      have HR := hid hr2
      clear hA1 hb1 hc1 hr2 hb2
      have hcv : ∀ W, Beyond w2 W → (convert 24 9 (.slice A2 m2 c2)).run Tryd.prog W = .ok (.string (bst (s.drop n))) W := fun W hW => str_of (HR.out.at_.below hW) HR.out.1
      have HT2 := hid (HT.out.step HB2.out)
      have hns : ¬ (9223372036854775807 < vlen v + (s.length - n)) := by omega
      go_wp2_with fail
      refine wp_region_held_drew (S := Beyond w2) (by kernel_rfl) (Beyond.drew _) (fun hS => ?_)
      refine wpAnyH_ready (rs := [0]) (by kernel_rfl) (by simp) ?_
      refine AllReadyH.cons (by simp only [List.getElem?_toArray, List.getElem?_cons_succ, List.getElem?_cons_zero]; rfl) (fun K hK => ?_) AllReadyH.nil
      go_simp
      go_fit (awake_yes _ (Beyond.table hS HT2.out))
      rintro e w3 ⟨rfl, hb3⟩
      have hS0 := Beyond.step hS hb3
      refine hK.out _ _ (by assumption) (fun _ => ?_)
      clear hK K hS
      have hS := hS0
      try simp only [Act.put, List.setIfInBounds_toArray, List.set_cons_zero, List.set_cons_succ]
      refine take_step (i := 1) (by simp only [List.getElem?_toArray, List.getElem?_cons_succ, List.getElem?_cons_zero]; rfl) (by kernel_rfl) (by kernel_rfl) (by kernel_rfl) (by intro _ _ _ h; exact h) (by rfl) (fun W hW => by go_simp; first | done | with_reducible rfl) hS ?_
      try simp only [Act.put, List.setIfInBounds_toArray, List.set_cons_zero, List.set_cons_succ]
      first | (refine take_step (i := 2) (by simp only [List.getElem?_toArray, List.getElem?_cons_succ, List.getElem?_cons_zero]; rfl) (by kernel_rfl) (by kernel_rfl) (by kernel_rfl) (by intro _ _ _ h; exact h) (by rfl) (fun W hW => by go_simp; first | done | with_reducible rfl) hS ?_) | (refine skip_step (i := 2) (by simp only [List.getElem?_toArray, List.getElem?_cons_succ, List.getElem?_cons_zero]; rfl) (by kernel_rfl) (by kernel_rfl) (by kernel_rfl) (by intro _ _ _ h; exact h) (by rfl) hS ?_)
      try simp only [Act.put, List.setIfInBounds_toArray, List.set_cons_zero, List.set_cons_succ]
      first | (refine take_step (i := 3) (by simp only [List.getElem?_toArray, List.getElem?_cons_succ, List.getElem?_cons_zero]; rfl) (by kernel_rfl) (by kernel_rfl) (by kernel_rfl) (by intro _ _ _ h; exact h) (by rfl) (fun W hW => by go_simp; first | done | with_reducible rfl) hS ?_) | (refine skip_step (i := 3) (by simp only [List.getElem?_toArray, List.getElem?_cons_succ, List.getElem?_cons_zero]; rfl) (by kernel_rfl) (by kernel_rfl) (by kernel_rfl) (by intro _ _ _ h; exact h) (by rfl) hS ?_)
      try simp only [Act.put, List.setIfInBounds_toArray, List.set_cons_zero, List.set_cons_succ]
      first | (refine take_step (i := 4) (by simp only [List.getElem?_toArray, List.getElem?_cons_succ, List.getElem?_cons_zero]; rfl) (by kernel_rfl) (by kernel_rfl) (by kernel_rfl) (by intro _ _ _ h; exact h) (by rfl) (fun W hW => by go_simp; first | done | with_reducible rfl) hS ?_) | (refine skip_step (i := 4) (by simp only [List.getElem?_toArray, List.getElem?_cons_succ, List.getElem?_cons_zero]; rfl) (by kernel_rfl) (by kernel_rfl) (by kernel_rfl) (by intro _ _ _ h; exact h) (by rfl) hS ?_)
      try simp only [Act.put, List.setIfInBounds_toArray, List.set_cons_zero, List.set_cons_succ]
      first | (refine take_step (i := 5) (by simp only [List.getElem?_toArray, List.getElem?_cons_succ, List.getElem?_cons_zero]; rfl) (by kernel_rfl) (by kernel_rfl) (by kernel_rfl) (by intro _ _ _ h; exact h) (by rfl) (fun W hW => by go_simp; first | done | with_reducible rfl) hS ?_) | (refine skip_step (i := 5) (by simp only [List.getElem?_toArray, List.getElem?_cons_succ, List.getElem?_cons_zero]; rfl) (by kernel_rfl) (by kernel_rfl) (by kernel_rfl) (by intro _ _ _ h; exact h) (by rfl) hS ?_)
      try simp only [Act.put, List.setIfInBounds_toArray, List.set_cons_zero, List.set_cons_succ]
      first | (refine take_step (i := 8) (by simp only [List.getElem?_toArray, List.getElem?_cons_succ, List.getElem?_cons_zero]; rfl) (by kernel_rfl) (by kernel_rfl) (by kernel_rfl) (by intro _ _ _ h; exact h) (by rfl) (fun W hW => by go_simp; first | done | with_reducible rfl) hS ?_) | (refine skip_step (i := 8) (by simp only [List.getElem?_toArray, List.getElem?_cons_succ, List.getElem?_cons_zero]; rfl) (by kernel_rfl) (by kernel_rfl) (by kernel_rfl) (by intro _ _ _ h; exact h) (by rfl) hS ?_)
      try simp only [Act.put, List.setIfInBounds_toArray, List.set_cons_zero, List.set_cons_succ]
      first | (refine take_step (i := 9) (by simp only [List.getElem?_toArray, List.getElem?_cons_succ, List.getElem?_cons_zero]; rfl) (by kernel_rfl) (by kernel_rfl) (by kernel_rfl) (by intro _ _ _ h; exact h) (by rfl) (fun W hW => by go_simp; first | done | with_reducible rfl) hS ?_) | (refine skip_step (i := 9) (by simp only [List.getElem?_toArray, List.getElem?_cons_succ, List.getElem?_cons_zero]; rfl) (by kernel_rfl) (by kernel_rfl) (by kernel_rfl) (by intro _ _ _ h; exact h) (by rfl) hS ?_)
      try simp only [Act.put, List.setIfInBounds_toArray, List.set_cons_zero, List.set_cons_succ]
      first | (refine take_step (i := 11) (by simp only [List.getElem?_toArray, List.getElem?_cons_succ, List.getElem?_cons_zero]; rfl) (by kernel_rfl) (by kernel_rfl) (by kernel_rfl) (by intro _ _ _ h; exact h) (by rfl) (fun W hW => by go_simp; first | done | with_reducible rfl) hS ?_) | (refine skip_step (i := 11) (by simp only [List.getElem?_toArray, List.getElem?_cons_succ, List.getElem?_cons_zero]; rfl) (by kernel_rfl) (by kernel_rfl) (by kernel_rfl) (by intro _ _ _ h; exact h) (by rfl) hS ?_)
      try simp only [Act.put, List.setIfInBounds_toArray, List.set_cons_zero, List.set_cons_succ]
      refine wpAnyH_ready (rs := [6]) (by kernel_rfl) (by simp) ?_
      refine AllReadyH.cons (by simp only [List.getElem?_toArray, List.getElem?_cons_succ, List.getElem?_cons_zero]; rfl) (fun K hK => ?_) AllReadyH.nil
      go_simp
      go_fit (putVar_is (A := none) (c := 0) (m := 0) (l := []) (v := v) rfl (At.nil _ 0 _) (Nat.zero_le _) (by simp) HV.out)
      rintro e w4 ⟨A4, m4, c4, rfl, hr4, hb4⟩
      have hS6 := Beyond.step hS hb4
      have HR4 := hid hr4
      clear hr4
      have hcv4 : ∀ W, Beyond w4 W → (convert 24 9 (.slice A4 m4 c4)).run Tryd.prog W = .ok (.string (bst (vbytes v))) W := fun W hW => str_of (HR4.out.at_.below hW) HR4.out.1
      clear hcv
      refine hK.out _ _ (by assumption) (fun _ => ?_)
      clear hK K hS
      have hS := hS6
      try simp only [Act.put, List.setIfInBounds_toArray, List.set_cons_zero, List.set_cons_succ]
      refine wpAnyH_more (S' := Beyond w4) (fun W hW => Beyond.trans hS hW) ?_
      have hS := Beyond.refl w4
      first | (refine take_step (i := 7) (by simp only [List.getElem?_toArray, List.getElem?_cons_succ, List.getElem?_cons_zero]; rfl) (by kernel_rfl) (by kernel_rfl) (by kernel_rfl) (by intro _ _ _ h; exact h) (by rfl) (fun W hW => by go_simp; first | done | with_reducible rfl) hS ?_) | (refine skip_step (i := 7) (by simp only [List.getElem?_toArray, List.getElem?_cons_succ, List.getElem?_cons_zero]; rfl) (by kernel_rfl) (by kernel_rfl) (by kernel_rfl) (by intro _ _ _ h; exact h) (by rfl) hS ?_)
      try simp only [Act.put, List.setIfInBounds_toArray, List.set_cons_zero, List.set_cons_succ]
      first | (refine take_step (i := 10) (by simp only [List.getElem?_toArray, List.getElem?_cons_succ, List.getElem?_cons_zero]; rfl) (by kernel_rfl) (by kernel_rfl) (by kernel_rfl) (by intro _ _ _ h; exact h) (by rfl) (fun W hW => by go_simp; first | done | with_reducible rfl) hS ?_) | (refine skip_step (i := 10) (by simp only [List.getElem?_toArray, List.getElem?_cons_succ, List.getElem?_cons_zero]; rfl) (by kernel_rfl) (by kernel_rfl) (by kernel_rfl) (by intro _ _ _ h; exact h) (by rfl) hS ?_)
      try simp only [Act.put, List.setIfInBounds_toArray, List.set_cons_zero, List.set_cons_succ]
      first | (refine take_step (i := 12) (by simp only [List.getElem?_toArray, List.getElem?_cons_succ, List.getElem?_cons_zero]; rfl) (by kernel_rfl) (by kernel_rfl) (by kernel_rfl) (by intro _ _ _ h; exact h) (by rfl) (fun W hW => by go_simp; first | done | with_reducible rfl) hS ?_) | (refine skip_step (i := 12) (by simp only [List.getElem?_toArray, List.getElem?_cons_succ, List.getElem?_cons_zero]; rfl) (by kernel_rfl) (by kernel_rfl) (by kernel_rfl) (by intro _ _ _ h; exact h) (by rfl) hS ?_)
      try simp only [Act.put, List.setIfInBounds_toArray, List.set_cons_zero, List.set_cons_succ]
      first | (refine take_step (i := 13) (by simp only [List.getElem?_toArray, List.getElem?_cons_succ, List.getElem?_cons_zero]; rfl) (by kernel_rfl) (by kernel_rfl) (by kernel_rfl) (by intro _ _ _ h; exact h) (by rfl) (fun W hW => by go_simp; first | done | with_reducible rfl) hS ?_) | (refine skip_step (i := 13) (by simp only [List.getElem?_toArray, List.getElem?_cons_succ, List.getElem?_cons_zero]; rfl) (by kernel_rfl) (by kernel_rfl) (by kernel_rfl) (by intro _ _ _ h; exact h) (by rfl) hS ?_)
      try simp only [Act.put, List.setIfInBounds_toArray, List.set_cons_zero, List.set_cons_succ]
      refine take_step (i := 14) (by simp only [List.getElem?_toArray, List.getElem?_cons_succ, List.getElem?_cons_zero]; rfl) (by kernel_rfl) (by kernel_rfl) (by kernel_rfl) (by intro _ _ _ h; exact h) (by rfl) (fun W hW => by go_simp; first | done | with_reducible rfl) hS ?_
      try simp only [Act.put, List.setIfInBounds_toArray, List.set_cons_zero, List.set_cons_succ]
      refine take_step (i := 15) (by simp only [List.getElem?_toArray, List.getElem?_cons_succ, List.getElem?_cons_zero]; rfl) (by kernel_rfl) (by kernel_rfl) (by kernel_rfl) (by intro _ _ _ h; exact h) (by rfl) (fun W hW => by go_simp; first | done | with_reducible rfl) hS ?_
      try simp only [Act.put, List.setIfInBounds_toArray, List.set_cons_zero, List.set_cons_succ]
      refine wpAnyH_done (by kernel_rfl) ?_ _
      go_wp2_with fail
      go_ret
      exact ⟨rfl, below_step HB2.out hS6⟩
    · have HE := hid he
      obtain ⟨h1, h2, h3⟩ := rdv_err HO.out he
      have ht : ((e0 : Int) != 0) = true := (nat_ne he).2
      have ht2 : ((e0 : Int) == 0) = false := (nat_ne he).1
      clear he h3
      go_enter Tryd.func8, Tryd.ntmps8
      go_wp2_with (with_reducible refine wpList_bytes_of _ rfl (.tmp 11) 9 24 5 rfl Tryd.underlying9 Tryd.underlying24 Tryd.underlying5 s rfl ?_; intro A1 c1 w1 hc1 hA1 hb1)
      go_fit (getVar_not rfl (by rw [HO.out, h1, h2]) HE.out hA1 (Nat.le_refl _) (by omega) hc1)
      rintro e w2 ⟨rfl, rfl⟩
      have HB1 := hid hb1
      clear hA1 hb1 hc1 h1 h2
      have HT1 := hid (HT.out.step HB1.out)
      go_wp2_with fail
      refine wp_region_held_drew (S := Beyond w1) (by kernel_rfl) (Beyond.drew _) (fun hS => ?_)
      refine wpAnyH_ready (rs := [0]) (by kernel_rfl) (by simp) ?_
      refine AllReadyH.cons (by simp only [List.getElem?_toArray, List.getElem?_cons_succ, List.getElem?_cons_zero]; rfl) (fun K hK => ?_) AllReadyH.nil
      go_simp
      go_fit (awake_yes _ (Beyond.table hS HT1.out))
      rintro e w3 ⟨rfl, hb3⟩
      have hS0 := Beyond.step hS hb3
      refine hK.out _ _ (by assumption) (fun _ => ?_)
      clear hK K hS
      have hS := hS0
      try simp only [Act.put, List.setIfInBounds_toArray, List.set_cons_zero, List.set_cons_succ]
      refine take_step (i := 1) (by simp only [List.getElem?_toArray, List.getElem?_cons_succ, List.getElem?_cons_zero]; rfl) (by kernel_rfl) (by kernel_rfl) (by kernel_rfl) (by intro _ _ _ h; exact h) (by rfl) (fun W hW => by go_simp; first | done | with_reducible rfl) hS ?_
      try simp only [Act.put, List.setIfInBounds_toArray, List.set_cons_zero, List.set_cons_succ]
      first | (refine take_step (i := 2) (by simp only [List.getElem?_toArray, List.getElem?_cons_succ, List.getElem?_cons_zero]; rfl) (by kernel_rfl) (by kernel_rfl) (by kernel_rfl) (by intro _ _ _ h; exact h) (by rfl) (fun W hW => by go_simp; first | done | with_reducible rfl) hS ?_) | (refine skip_step (i := 2) (by simp only [List.getElem?_toArray, List.getElem?_cons_succ, List.getElem?_cons_zero]; rfl) (by kernel_rfl) (by kernel_rfl) (by kernel_rfl) (by intro _ _ _ h; exact h) (by rfl) hS ?_)
      try simp only [Act.put, List.setIfInBounds_toArray, List.set_cons_zero, List.set_cons_succ]
      first | (refine take_step (i := 3) (by simp only [List.getElem?_toArray, List.getElem?_cons_succ, List.getElem?_cons_zero]; rfl) (by kernel_rfl) (by kernel_rfl) (by kernel_rfl) (by intro _ _ _ h; exact h) (by rfl) (fun W hW => by go_simp; first | done | with_reducible rfl) hS ?_) | (refine skip_step (i := 3) (by simp only [List.getElem?_toArray, List.getElem?_cons_succ, List.getElem?_cons_zero]; rfl) (by kernel_rfl) (by kernel_rfl) (by kernel_rfl) (by intro _ _ _ h; exact h) (by rfl) hS ?_)
      try simp only [Act.put, List.setIfInBounds_toArray, List.set_cons_zero, List.set_cons_succ]
      first | (refine take_step (i := 4) (by simp only [List.getElem?_toArray, List.getElem?_cons_succ, List.getElem?_cons_zero]; rfl) (by kernel_rfl) (by kernel_rfl) (by kernel_rfl) (by intro _ _ _ h; exact h) (by rfl) (fun W hW => by go_simp; first | done | with_reducible rfl) hS ?_) | (refine skip_step (i := 4) (by simp only [List.getElem?_toArray, List.getElem?_cons_succ, List.getElem?_cons_zero]; rfl) (by kernel_rfl) (by kernel_rfl) (by kernel_rfl) (by intro _ _ _ h; exact h) (by rfl) hS ?_)
      try simp only [Act.put, List.setIfInBounds_toArray, List.set_cons_zero, List.set_cons_succ]
      first | (refine take_step (i := 5) (by simp only [List.getElem?_toArray, List.getElem?_cons_succ, List.getElem?_cons_zero]; rfl) (by kernel_rfl) (by kernel_rfl) (by kernel_rfl) (by intro _ _ _ h; exact h) (by rfl) (fun W hW => by go_simp; first | done | with_reducible rfl) hS ?_) | (refine skip_step (i := 5) (by simp only [List.getElem?_toArray, List.getElem?_cons_succ, List.getElem?_cons_zero]; rfl) (by kernel_rfl) (by kernel_rfl) (by kernel_rfl) (by intro _ _ _ h; exact h) (by rfl) hS ?_)
      try simp only [Act.put, List.setIfInBounds_toArray, List.set_cons_zero, List.set_cons_succ]
      refine skip_step (i := 6) (by simp only [List.getElem?_toArray, List.getElem?_cons_succ, List.getElem?_cons_zero]; rfl) (by kernel_rfl) (by kernel_rfl) (by kernel_rfl) (by intro _ _ _ h; exact h) (by rfl) hS ?_
      try simp only [Act.put, List.setIfInBounds_toArray, List.set_cons_zero, List.set_cons_succ]
      first | (refine take_step (i := 7) (by simp only [List.getElem?_toArray, List.getElem?_cons_succ, List.getElem?_cons_zero]; rfl) (by kernel_rfl) (by kernel_rfl) (by kernel_rfl) (by intro _ _ _ h; exact h) (by rfl) (fun W hW => by go_simp; first | done | with_reducible rfl) hS ?_) | (refine skip_step (i := 7) (by simp only [List.getElem?_toArray, List.getElem?_cons_succ, List.getElem?_cons_zero]; rfl) (by kernel_rfl) (by kernel_rfl) (by kernel_rfl) (by intro _ _ _ h; exact h) (by rfl) hS ?_)
      try simp only [Act.put, List.setIfInBounds_toArray, List.set_cons_zero, List.set_cons_succ]
      first | (refine take_step (i := 8) (by simp only [List.getElem?_toArray, List.getElem?_cons_succ, List.getElem?_cons_zero]; rfl) (by kernel_rfl) (by kernel_rfl) (by kernel_rfl) (by intro _ _ _ h; exact h) (by rfl) (fun W hW => by go_simp; first | done | with_reducible rfl) hS ?_) | (refine skip_step (i := 8) (by simp only [List.getElem?_toArray, List.getElem?_cons_succ, List.getElem?_cons_zero]; rfl) (by kernel_rfl) (by kernel_rfl) (by kernel_rfl) (by intro _ _ _ h; exact h) (by rfl) hS ?_)
      try simp only [Act.put, List.setIfInBounds_toArray, List.set_cons_zero, List.set_cons_succ]
      first | (refine take_step (i := 9) (by simp only [List.getElem?_toArray, List.getElem?_cons_succ, List.getElem?_cons_zero]; rfl) (by kernel_rfl) (by kernel_rfl) (by kernel_rfl) (by intro _ _ _ h; exact h) (by rfl) (fun W hW => by go_simp; first | done | with_reducible rfl) hS ?_) | (refine skip_step (i := 9) (by simp only [List.getElem?_toArray, List.getElem?_cons_succ, List.getElem?_cons_zero]; rfl) (by kernel_rfl) (by kernel_rfl) (by kernel_rfl) (by intro _ _ _ h; exact h) (by rfl) hS ?_)
      try simp only [Act.put, List.setIfInBounds_toArray, List.set_cons_zero, List.set_cons_succ]
      first | (refine take_step (i := 10) (by simp only [List.getElem?_toArray, List.getElem?_cons_succ, List.getElem?_cons_zero]; rfl) (by kernel_rfl) (by kernel_rfl) (by kernel_rfl) (by intro _ _ _ h; exact h) (by rfl) (fun W hW => by go_simp; first | done | with_reducible rfl) hS ?_) | (refine skip_step (i := 10) (by simp only [List.getElem?_toArray, List.getElem?_cons_succ, List.getElem?_cons_zero]; rfl) (by kernel_rfl) (by kernel_rfl) (by kernel_rfl) (by intro _ _ _ h; exact h) (by rfl) hS ?_)
      try simp only [Act.put, List.setIfInBounds_toArray, List.set_cons_zero, List.set_cons_succ]
      first | (refine take_step (i := 11) (by simp only [List.getElem?_toArray, List.getElem?_cons_succ, List.getElem?_cons_zero]; rfl) (by kernel_rfl) (by kernel_rfl) (by kernel_rfl) (by intro _ _ _ h; exact h) (by rfl) (fun W hW => by go_simp; first | done | with_reducible rfl) hS ?_) | (refine skip_step (i := 11) (by simp only [List.getElem?_toArray, List.getElem?_cons_succ, List.getElem?_cons_zero]; rfl) (by kernel_rfl) (by kernel_rfl) (by kernel_rfl) (by intro _ _ _ h; exact h) (by rfl) hS ?_)
      try simp only [Act.put, List.setIfInBounds_toArray, List.set_cons_zero, List.set_cons_succ]
      first | (refine take_step (i := 12) (by simp only [List.getElem?_toArray, List.getElem?_cons_succ, List.getElem?_cons_zero]; rfl) (by kernel_rfl) (by kernel_rfl) (by kernel_rfl) (by intro _ _ _ h; exact h) (by rfl) (fun W hW => by go_simp; first | done | with_reducible rfl) hS ?_) | (refine skip_step (i := 12) (by simp only [List.getElem?_toArray, List.getElem?_cons_succ, List.getElem?_cons_zero]; rfl) (by kernel_rfl) (by kernel_rfl) (by kernel_rfl) (by intro _ _ _ h; exact h) (by rfl) hS ?_)
      try simp only [Act.put, List.setIfInBounds_toArray, List.set_cons_zero, List.set_cons_succ]
      first | (refine take_step (i := 13) (by simp only [List.getElem?_toArray, List.getElem?_cons_succ, List.getElem?_cons_zero]; rfl) (by kernel_rfl) (by kernel_rfl) (by kernel_rfl) (by intro _ _ _ h; exact h) (by rfl) (fun W hW => by go_simp; first | done | with_reducible rfl) hS ?_) | (refine skip_step (i := 13) (by simp only [List.getElem?_toArray, List.getElem?_cons_succ, List.getElem?_cons_zero]; rfl) (by kernel_rfl) (by kernel_rfl) (by kernel_rfl) (by intro _ _ _ h; exact h) (by rfl) hS ?_)
      try simp only [Act.put, List.setIfInBounds_toArray, List.set_cons_zero, List.set_cons_succ]
      refine take_step (i := 14) (by simp only [List.getElem?_toArray, List.getElem?_cons_succ, List.getElem?_cons_zero]; rfl) (by kernel_rfl) (by kernel_rfl) (by kernel_rfl) (by intro _ _ _ h; exact h) (by rfl) (fun W hW => by go_simp; first | done | with_reducible rfl) hS ?_
      try simp only [Act.put, List.setIfInBounds_toArray, List.set_cons_zero, List.set_cons_succ]
      refine take_step (i := 15) (by simp only [List.getElem?_toArray, List.getElem?_cons_succ, List.getElem?_cons_zero]; rfl) (by kernel_rfl) (by kernel_rfl) (by kernel_rfl) (by intro _ _ _ h; exact h) (by rfl) (fun W hW => by go_simp; first | done | with_reducible rfl) hS ?_
      try simp only [Act.put, List.setIfInBounds_toArray, List.set_cons_zero, List.set_cons_succ]
      refine wpAnyH_done (by kernel_rfl) ?_ _
      go_wp2_with fail
      go_ret
      exact ⟨rfl, below_step HB1.out hS⟩

theorem rdv_len {s : List UInt8} {v n : Nat} (h : rdv 0 0 s = (v, n, 0)) : n ≤ s.length := by
  obtain ⟨hb, hv⟩ := rdv_back h
  have h2 := rdv_vbytes hv (s.drop n)
  rw [hb, h] at h2
  simp only [Prod.mk.injEq, true_and, and_true] at h2
  have := congrArg List.length hb
  rw [List.length_append, vbytes_length] at this
  omega
theorem refGetVar_is {s : List UInt8} {v n e0 : Nat} {w : World} (hr : rdv 0 0 s = (v, n, e0)) (hl : s.length ≤ 4096) :
    Calls Tryd.prog 20 #[.string (bst s)] w fun e w' => e = .returned (.tuple #[.int .u64 (v : Int), .int .i64 (n : Int), .int .i64 (e0 : Int)]) ∧ w = w' := by
  have h := refGetVar_any s w hl
  rw [hr] at h
  exact h

set_option maxHeartbeats 4000000 in
theorem reads_walk (s : List UInt8) (w : World) (hT : Table w) :
    Calls Tryd.prog 6 #[.string (bst s)] w fun e w' => e = .returned (.bool true) ∧ Below w.heap.size w w' := by
  have HT := hid hT
  have hz := bst_size s
  clear hT
  by_cases hlen : 1000 < s.length
  · go_enter Tryd.func6, Tryd.ntmps6
    go_wp2_with fail
    go_fit (awake_yes w HT.out)
    rintro e w1 ⟨rfl, hb1⟩
    go_wp2_with fail
    go_ret
    exact ⟨rfl, hb1⟩
  · obtain ⟨o, ho⟩ : ∃ o, o = rdv 0 0 s := ⟨_, rfl⟩
    obtain ⟨v, n, e0⟩ := o
    have HO := hid ho.symm
    clear ho
    by_cases he : e0 = 0
    · subst he
      have hn := rdv_len HO.out
      have hni : (n : Int) ≤ (s.length : Int) := by omega
      have hex := bst_drop s n
      go_enter Tryd.func6, Tryd.ntmps6
      go_wp2_with (with_reducible refine wpList_bytes_of _ rfl (.tmp 14) 9 24 5 rfl Tryd.underlying9 Tryd.underlying24 Tryd.underlying5 s rfl ?_; intro A1 c1 w1 hc1 hA1 hb1)
      go_fit (getVar_is rfl HO.out hA1 (Nat.le_refl _) (by omega) hc1)
      rintro e w2 ⟨A2, m2, c2, rfl, hr2, hb2⟩
      have HB2 := hid (below_step hb1 hb2)
      have HR := hid hr2
      clear hA1 hb1 hc1 hr2 hb2
      have hcv : ∀ W, Beyond w2 W → (convert 24 9 (.slice A2 m2 c2)).run Tryd.prog W = .ok (.string (bst (s.drop n))) W := fun W hW => str_of (HR.out.at_.below hW) HR.out.1
      have HT2 := hid (HT.out.step HB2.out)
      go_wp2_with fail
      go_fit (refGetVar_is HO.out (by omega))
      rintro e w3 ⟨rfl, rfl⟩
      go_wp2_with fail
      refine wp_region_held_drew (S := Beyond w2) (by kernel_rfl) (Beyond.drew _) (fun hS => ?_)
      refine wpAnyH_ready (rs := [0]) (by kernel_rfl) (by simp) ?_
      refine AllReadyH.cons (by simp only [List.getElem?_toArray, List.getElem?_cons_succ, List.getElem?_cons_zero]; rfl) (fun K hK => ?_) AllReadyH.nil
      go_simp
      go_fit (awake_yes _ (Beyond.table hS HT2.out))
      rintro e w3 ⟨rfl, hb3⟩
      have hS0 := Beyond.step hS hb3
      refine hK.out _ _ (by assumption) (fun _ => ?_)
      clear hK K hS
      have hS := hS0
      try simp only [Act.put, List.setIfInBounds_toArray, List.set_cons_zero, List.set_cons_succ]
      refine take_step (i := 1) (by simp only [List.getElem?_toArray, List.getElem?_cons_succ, List.getElem?_cons_zero]; rfl) (by kernel_rfl) (by kernel_rfl) (by kernel_rfl) (by intro _ _ _ h; exact h) (by rfl) (fun W hW => by go_simp; first | done | with_reducible rfl) hS ?_
      try simp only [Act.put, List.setIfInBounds_toArray, List.set_cons_zero, List.set_cons_succ]
      first | (refine take_step (i := 2) (by simp only [List.getElem?_toArray, List.getElem?_cons_succ, List.getElem?_cons_zero]; rfl) (by kernel_rfl) (by kernel_rfl) (by kernel_rfl) (by intro _ _ _ h; exact h) (by rfl) (fun W hW => by go_simp; first | done | with_reducible rfl) hS ?_) | (refine skip_step (i := 2) (by simp only [List.getElem?_toArray, List.getElem?_cons_succ, List.getElem?_cons_zero]; rfl) (by kernel_rfl) (by kernel_rfl) (by kernel_rfl) (by intro _ _ _ h; exact h) (by rfl) hS ?_)
      try simp only [Act.put, List.setIfInBounds_toArray, List.set_cons_zero, List.set_cons_succ]
      first | (refine take_step (i := 3) (by simp only [List.getElem?_toArray, List.getElem?_cons_succ, List.getElem?_cons_zero]; rfl) (by kernel_rfl) (by kernel_rfl) (by kernel_rfl) (by intro _ _ _ h; exact h) (by rfl) (fun W hW => by go_simp; first | done | with_reducible rfl) hS ?_) | (refine skip_step (i := 3) (by simp only [List.getElem?_toArray, List.getElem?_cons_succ, List.getElem?_cons_zero]; rfl) (by kernel_rfl) (by kernel_rfl) (by kernel_rfl) (by intro _ _ _ h; exact h) (by rfl) hS ?_)
      try simp only [Act.put, List.setIfInBounds_toArray, List.set_cons_zero, List.set_cons_succ]
      first | (refine take_step (i := 4) (by simp only [List.getElem?_toArray, List.getElem?_cons_succ, List.getElem?_cons_zero]; rfl) (by kernel_rfl) (by kernel_rfl) (by kernel_rfl) (by intro _ _ _ h; exact h) (by rfl) (fun W hW => by go_simp; first | done | with_reducible rfl) hS ?_) | (refine skip_step (i := 4) (by simp only [List.getElem?_toArray, List.getElem?_cons_succ, List.getElem?_cons_zero]; rfl) (by kernel_rfl) (by kernel_rfl) (by kernel_rfl) (by intro _ _ _ h; exact h) (by rfl) hS ?_)
      try simp only [Act.put, List.setIfInBounds_toArray, List.set_cons_zero, List.set_cons_succ]
      refine take_step (i := 5) (by simp only [List.getElem?_toArray, List.getElem?_cons_succ, List.getElem?_cons_zero]; rfl) (by kernel_rfl) (by kernel_rfl) (by kernel_rfl) (by intro _ _ _ h; exact h) (by rfl) (fun W hW => by go_simp; first | done | with_reducible rfl) hS ?_
      try simp only [Act.put, List.setIfInBounds_toArray, List.set_cons_zero, List.set_cons_succ]
      refine take_step (i := 6) (by simp only [List.getElem?_toArray, List.getElem?_cons_succ, List.getElem?_cons_zero]; rfl) (by kernel_rfl) (by kernel_rfl) (by kernel_rfl) (by intro _ _ _ h; exact h) (by rfl) (fun W hW => by go_simp; first | done | with_reducible rfl) hS ?_
      try simp only [Act.put, List.setIfInBounds_toArray, List.set_cons_zero, List.set_cons_succ]
      first | (refine take_step (i := 7) (by simp only [List.getElem?_toArray, List.getElem?_cons_succ, List.getElem?_cons_zero]; rfl) (by kernel_rfl) (by kernel_rfl) (by kernel_rfl) (by intro _ _ _ h; exact h) (by rfl) (fun W hW => by go_simp; first | done | with_reducible rfl) hS ?_) | (refine skip_step (i := 7) (by simp only [List.getElem?_toArray, List.getElem?_cons_succ, List.getElem?_cons_zero]; rfl) (by kernel_rfl) (by kernel_rfl) (by kernel_rfl) (by intro _ _ _ h; exact h) (by rfl) hS ?_)
      try simp only [Act.put, List.setIfInBounds_toArray, List.set_cons_zero, List.set_cons_succ]
      first | (refine take_step (i := 8) (by simp only [List.getElem?_toArray, List.getElem?_cons_succ, List.getElem?_cons_zero]; rfl) (by kernel_rfl) (by kernel_rfl) (by kernel_rfl) (by intro _ _ _ h; exact h) (by rfl) (fun W hW => by go_simp; first | done | with_reducible rfl) hS ?_) | (refine skip_step (i := 8) (by simp only [List.getElem?_toArray, List.getElem?_cons_succ, List.getElem?_cons_zero]; rfl) (by kernel_rfl) (by kernel_rfl) (by kernel_rfl) (by intro _ _ _ h; exact h) (by rfl) hS ?_)
      try simp only [Act.put, List.setIfInBounds_toArray, List.set_cons_zero, List.set_cons_succ]
      first | (refine take_step (i := 9) (by simp only [List.getElem?_toArray, List.getElem?_cons_succ, List.getElem?_cons_zero]; rfl) (by kernel_rfl) (by kernel_rfl) (by kernel_rfl) (by intro _ _ _ h; exact h) (by rfl) (fun W hW => by go_simp; first | done | with_reducible rfl) hS ?_) | (refine skip_step (i := 9) (by simp only [List.getElem?_toArray, List.getElem?_cons_succ, List.getElem?_cons_zero]; rfl) (by kernel_rfl) (by kernel_rfl) (by kernel_rfl) (by intro _ _ _ h; exact h) (by rfl) hS ?_)
      try simp only [Act.put, List.setIfInBounds_toArray, List.set_cons_zero, List.set_cons_succ]
      first | (refine take_step (i := 10) (by simp only [List.getElem?_toArray, List.getElem?_cons_succ, List.getElem?_cons_zero]; rfl) (by kernel_rfl) (by kernel_rfl) (by kernel_rfl) (by intro _ _ _ h; exact h) (by rfl) (fun W hW => by go_simp; first | done | with_reducible rfl) hS ?_) | (refine skip_step (i := 10) (by simp only [List.getElem?_toArray, List.getElem?_cons_succ, List.getElem?_cons_zero]; rfl) (by kernel_rfl) (by kernel_rfl) (by kernel_rfl) (by intro _ _ _ h; exact h) (by rfl) hS ?_)
      try simp only [Act.put, List.setIfInBounds_toArray, List.set_cons_zero, List.set_cons_succ]
      first | (refine take_step (i := 11) (by simp only [List.getElem?_toArray, List.getElem?_cons_succ, List.getElem?_cons_zero]; rfl) (by kernel_rfl) (by kernel_rfl) (by kernel_rfl) (by intro _ _ _ h; exact h) (by rfl) (fun W hW => by go_simp; first | done | with_reducible rfl) hS ?_) | (refine skip_step (i := 11) (by simp only [List.getElem?_toArray, List.getElem?_cons_succ, List.getElem?_cons_zero]; rfl) (by kernel_rfl) (by kernel_rfl) (by kernel_rfl) (by intro _ _ _ h; exact h) (by rfl) hS ?_)
      try simp only [Act.put, List.setIfInBounds_toArray, List.set_cons_zero, List.set_cons_succ]
      first | (refine take_step (i := 12) (by simp only [List.getElem?_toArray, List.getElem?_cons_succ, List.getElem?_cons_zero]; rfl) (by kernel_rfl) (by kernel_rfl) (by kernel_rfl) (by intro _ _ _ h; exact h) (by rfl) (fun W hW => by go_simp; first | done | with_reducible rfl) hS ?_) | (refine skip_step (i := 12) (by simp only [List.getElem?_toArray, List.getElem?_cons_succ, List.getElem?_cons_zero]; rfl) (by kernel_rfl) (by kernel_rfl) (by kernel_rfl) (by intro _ _ _ h; exact h) (by rfl) hS ?_)
      try simp only [Act.put, List.setIfInBounds_toArray, List.set_cons_zero, List.set_cons_succ]
      refine take_step (i := 13) (by simp only [List.getElem?_toArray, List.getElem?_cons_succ, List.getElem?_cons_zero]; rfl) (by kernel_rfl) (by kernel_rfl) (by kernel_rfl) (by intro _ _ _ h; exact h) (by rfl) (fun W hW => by go_simp; first | done | with_reducible rfl) hS ?_
      try simp only [Act.put, List.setIfInBounds_toArray, List.set_cons_zero, List.set_cons_succ]
      refine take_step (i := 14) (by simp only [List.getElem?_toArray, List.getElem?_cons_succ, List.getElem?_cons_zero]; rfl) (by kernel_rfl) (by kernel_rfl) (by kernel_rfl) (by intro _ _ _ h; exact h) (by rfl) (fun W hW => by go_simp; first | done | with_reducible rfl) hS ?_
      try simp only [Act.put, List.setIfInBounds_toArray, List.set_cons_zero, List.set_cons_succ]
      first | (refine take_step (i := 15) (by simp only [List.getElem?_toArray, List.getElem?_cons_succ, List.getElem?_cons_zero]; rfl) (by kernel_rfl) (by kernel_rfl) (by kernel_rfl) (by intro _ _ _ h; exact h) (by rfl) (fun W hW => by go_simp; first | done | with_reducible rfl) hS ?_) | (refine skip_step (i := 15) (by simp only [List.getElem?_toArray, List.getElem?_cons_succ, List.getElem?_cons_zero]; rfl) (by kernel_rfl) (by kernel_rfl) (by kernel_rfl) (by intro _ _ _ h; exact h) (by rfl) hS ?_)
      try simp only [Act.put, List.setIfInBounds_toArray, List.set_cons_zero, List.set_cons_succ]
      first | (refine take_step (i := 16) (by simp only [List.getElem?_toArray, List.getElem?_cons_succ, List.getElem?_cons_zero]; rfl) (by kernel_rfl) (by kernel_rfl) (by kernel_rfl) (by intro _ _ _ h; exact h) (by rfl) (fun W hW => by go_simp; first | done | with_reducible rfl) hS ?_) | (refine skip_step (i := 16) (by simp only [List.getElem?_toArray, List.getElem?_cons_succ, List.getElem?_cons_zero]; rfl) (by kernel_rfl) (by kernel_rfl) (by kernel_rfl) (by intro _ _ _ h; exact h) (by rfl) hS ?_)
      try simp only [Act.put, List.setIfInBounds_toArray, List.set_cons_zero, List.set_cons_succ]
      refine take_step (i := 17) (by simp only [List.getElem?_toArray, List.getElem?_cons_succ, List.getElem?_cons_zero]; rfl) (by kernel_rfl) (by kernel_rfl) (by kernel_rfl) (by intro _ _ _ h; exact h) (by rfl) (fun W hW => by go_simp; first | done | with_reducible rfl) hS ?_
      try simp only [Act.put, List.setIfInBounds_toArray, List.set_cons_zero, List.set_cons_succ]
      refine take_step (i := 18) (by simp only [List.getElem?_toArray, List.getElem?_cons_succ, List.getElem?_cons_zero]; rfl) (by kernel_rfl) (by kernel_rfl) (by kernel_rfl) (by intro _ _ _ h; exact h) (by rfl) (fun W hW => by go_simp; first | done | with_reducible rfl) hS ?_
      try simp only [Act.put, List.setIfInBounds_toArray, List.set_cons_zero, List.set_cons_succ]
      refine wpAnyH_done (by kernel_rfl) ?_ _
      go_wp2_with fail
      go_ret
      exact ⟨rfl, below_step HB2.out hS⟩
    · have HE := hid he
      obtain ⟨h1, h2, h3⟩ := rdv_err HO.out he
      have ht : ((e0 : Int) != 0) = true := (nat_ne he).2
      have ht2 : ((e0 : Int) == 0) = false := (nat_ne he).1
      clear he h3
      go_enter Tryd.func6, Tryd.ntmps6
      go_wp2_with (with_reducible refine wpList_bytes_of _ rfl (.tmp 14) 9 24 5 rfl Tryd.underlying9 Tryd.underlying24 Tryd.underlying5 s rfl ?_; intro A1 c1 w1 hc1 hA1 hb1)
      go_fit (getVar_not rfl (by rw [HO.out, h1, h2]) HE.out hA1 (Nat.le_refl _) (by omega) hc1)
      rintro e w2 ⟨rfl, rfl⟩
      have HB1 := hid hb1
      clear hA1 hb1 hc1
      have HT1 := hid (HT.out.step HB1.out)
      go_wp2_with fail
      go_fit (refGetVar_is HO.out (by omega))
      rintro e w3 ⟨rfl, rfl⟩
      clear h1 h2
      go_wp2_with fail
      go_fit (awake_yes w1 HT1.out)
      rintro e w4 ⟨rfl, hb4⟩
      go_wp2_with fail
      go_ret
      exact ⟨rfl, below_step HB1.out hb4⟩

set_option maxHeartbeats 4000000 in
theorem gets_walk (s : List UInt8) (n : Int) (w : World) (hT : Table w) :
    Calls Tryd.prog 4 #[.string (bst s), .int .i64 n] w fun e w' => e = .returned (.bool true) ∧ Below w.heap.size w w' := by
  have HT := hid hT
  have hz := bst_size s
  clear hT
  by_cases hlen : 1000 < s.length
  · go_enter Tryd.func4, Tryd.ntmps4
    go_wp2_with fail
    go_fit (awake_yes w HT.out)
    rintro e w1 ⟨rfl, hb1⟩
    go_wp2_with fail
    go_ret
    exact ⟨rfl, hb1⟩
  · by_cases hn : 1 ≤ n ∧ n ≤ 8
    · obtain ⟨N, rfl⟩ : ∃ N : Nat, n = N := ⟨n.toNat, by omega⟩
      have h1 : 1 ≤ N := by omega
      have h8 : N ≤ 8 := by omega
      clear hn
      by_cases hs : s.length < N
      · go_enter Tryd.func4, Tryd.ntmps4
        go_wp2_with (with_reducible refine wpList_bytes_of _ rfl (.tmp 13) 9 24 5 rfl Tryd.underlying9 Tryd.underlying24 Tryd.underlying5 s rfl ?_; intro A1 c1 w1 hc1 hA1 hb1)
        go_fit (get_short A1 c1 s.length N w1 h1 h8 hs)
        rintro e w2 ⟨rfl, rfl⟩
        have HB1 := hid hb1
        clear hA1 hb1 hc1
        go_wp2_with fail
        go_fit (awake_yes w1 (HT.out.step HB1.out))
        rintro e w4 ⟨rfl, hb4⟩
        go_wp2_with fail
        go_ret
        exact ⟨rfl, below_step HB1.out hb4⟩
      · have hni : (N : Int) ≤ (s.length : Int) := by omega
        have hex := bst_drop s N
        have hex2 := bst_take s N
        go_enter Tryd.func4, Tryd.ntmps4
        go_wp2_with (with_reducible refine wpList_bytes_of _ rfl (.tmp 13) 9 24 5 rfl Tryd.underlying9 Tryd.underlying24 Tryd.underlying5 s rfl ?_; intro A1 c1 w1 hc1 hA1 hb1)
        go_fit (get_is rfl rfl hA1 (Nat.le_refl _) (by omega) hc1 h1 h8 (by omega))
        rintro e w2 ⟨A2, m2, c2, rfl, hr2, hb2⟩
        have HB2 := hid (below_step hb1 hb2)
        have HR := hid hr2
        clear hA1 hb1 hc1 hr2 hb2
        have hcv : ∀ W, Beyond w2 W → (convert 24 9 (.slice A2 m2 c2)).run Tryd.prog W = .ok (.string (bst (s.drop N))) W := fun W hW => str_of (HR.out.at_.below hW) HR.out.1
        have HT2 := hid (HT.out.step HB2.out)
        go_wp2_with fail
        refine wp_region_held_drew (S := Beyond w2) (by kernel_rfl) (Beyond.drew _) (fun hS => ?_)
        refine wpAnyH_ready (rs := [0]) (by kernel_rfl) (by simp) ?_
        refine AllReadyH.cons (by simp only [List.getElem?_toArray, List.getElem?_cons_succ, List.getElem?_cons_zero]; rfl) (fun K hK => ?_) AllReadyH.nil
        go_simp
        go_fit (awake_yes _ (Beyond.table hS HT2.out))
        rintro e w3 ⟨rfl, hb3⟩
        have hS0 := Beyond.step hS hb3
        refine hK.out _ _ (by assumption) (fun _ => ?_)
        clear hK K hS
        have hS := hS0
        try simp only [Act.put, List.setIfInBounds_toArray, List.set_cons_zero, List.set_cons_succ]
        refine take_step (i := 1) (by simp only [List.getElem?_toArray, List.getElem?_cons_succ, List.getElem?_cons_zero]; rfl) (by kernel_rfl) (by kernel_rfl) (by kernel_rfl) (by intro _ _ _ h; exact h) (by rfl) (fun W hW => by go_simp; first | done | with_reducible rfl) hS ?_
        try simp only [Act.put, List.setIfInBounds_toArray, List.set_cons_zero, List.set_cons_succ]
        first | (refine take_step (i := 2) (by simp only [List.getElem?_toArray, List.getElem?_cons_succ, List.getElem?_cons_zero]; rfl) (by kernel_rfl) (by kernel_rfl) (by kernel_rfl) (by intro _ _ _ h; exact h) (by rfl) (fun W hW => by go_simp; first | done | with_reducible rfl) hS ?_) | (refine skip_step (i := 2) (by simp only [List.getElem?_toArray, List.getElem?_cons_succ, List.getElem?_cons_zero]; rfl) (by kernel_rfl) (by kernel_rfl) (by kernel_rfl) (by intro _ _ _ h; exact h) (by rfl) hS ?_)
        try simp only [Act.put, List.setIfInBounds_toArray, List.set_cons_zero, List.set_cons_succ]
        first | (refine take_step (i := 3) (by simp only [List.getElem?_toArray, List.getElem?_cons_succ, List.getElem?_cons_zero]; rfl) (by kernel_rfl) (by kernel_rfl) (by kernel_rfl) (by intro _ _ _ h; exact h) (by rfl) (fun W hW => by go_simp; first | done | with_reducible rfl) hS ?_) | (refine skip_step (i := 3) (by simp only [List.getElem?_toArray, List.getElem?_cons_succ, List.getElem?_cons_zero]; rfl) (by kernel_rfl) (by kernel_rfl) (by kernel_rfl) (by intro _ _ _ h; exact h) (by rfl) hS ?_)
        try simp only [Act.put, List.setIfInBounds_toArray, List.set_cons_zero, List.set_cons_succ]
        first | (refine take_step (i := 4) (by simp only [List.getElem?_toArray, List.getElem?_cons_succ, List.getElem?_cons_zero]; rfl) (by kernel_rfl) (by kernel_rfl) (by kernel_rfl) (by intro _ _ _ h; exact h) (by rfl) (fun W hW => by go_simp; first | done | with_reducible rfl) hS ?_) | (refine skip_step (i := 4) (by simp only [List.getElem?_toArray, List.getElem?_cons_succ, List.getElem?_cons_zero]; rfl) (by kernel_rfl) (by kernel_rfl) (by kernel_rfl) (by intro _ _ _ h; exact h) (by rfl) hS ?_)
        try simp only [Act.put, List.setIfInBounds_toArray, List.set_cons_zero, List.set_cons_succ]
        first | (refine take_step (i := 5) (by simp only [List.getElem?_toArray, List.getElem?_cons_succ, List.getElem?_cons_zero]; rfl) (by kernel_rfl) (by kernel_rfl) (by kernel_rfl) (by intro _ _ _ h; exact h) (by rfl) (fun W hW => by go_simp; first | done | with_reducible rfl) hS ?_) | (refine skip_step (i := 5) (by simp only [List.getElem?_toArray, List.getElem?_cons_succ, List.getElem?_cons_zero]; rfl) (by kernel_rfl) (by kernel_rfl) (by kernel_rfl) (by intro _ _ _ h; exact h) (by rfl) hS ?_)
        try simp only [Act.put, List.setIfInBounds_toArray, List.set_cons_zero, List.set_cons_succ]
        refine wpAnyH_ready (rs := [6]) (by kernel_rfl) (by simp) ?_
        refine AllReadyH.cons (by simp only [List.getElem?_toArray, List.getElem?_cons_succ, List.getElem?_cons_zero]; rfl) (fun K hK => ?_) AllReadyH.nil
        go_simp
        go_fit (refGet_any (s.take N) _ (by rw [List.length_take]; omega))
        rintro e w4 ⟨rfl, rfl⟩
        have hS6 := hS
        refine hK.out _ _ (by assumption) (fun _ => ?_)
        clear hK K hS
        have hS := hS6
        try simp only [Act.put, List.setIfInBounds_toArray, List.set_cons_zero, List.set_cons_succ]
        first | (refine take_step (i := 7) (by simp only [List.getElem?_toArray, List.getElem?_cons_succ, List.getElem?_cons_zero]; rfl) (by kernel_rfl) (by kernel_rfl) (by kernel_rfl) (by intro _ _ _ h; exact h) (by rfl) (fun W hW => by go_simp; first | done | with_reducible rfl) hS ?_) | (refine skip_step (i := 7) (by simp only [List.getElem?_toArray, List.getElem?_cons_succ, List.getElem?_cons_zero]; rfl) (by kernel_rfl) (by kernel_rfl) (by kernel_rfl) (by intro _ _ _ h; exact h) (by rfl) hS ?_)
        try simp only [Act.put, List.setIfInBounds_toArray, List.set_cons_zero, List.set_cons_succ]
        refine take_step (i := 8) (by simp only [List.getElem?_toArray, List.getElem?_cons_succ, List.getElem?_cons_zero]; rfl) (by kernel_rfl) (by kernel_rfl) (by kernel_rfl) (by intro _ _ _ h; exact h) (by rfl) (fun W hW => by go_simp; first | done | with_reducible rfl) hS ?_
        try simp only [Act.put, List.setIfInBounds_toArray, List.set_cons_zero, List.set_cons_succ]
        refine take_step (i := 9) (by simp only [List.getElem?_toArray, List.getElem?_cons_succ, List.getElem?_cons_zero]; rfl) (by kernel_rfl) (by kernel_rfl) (by kernel_rfl) (by intro _ _ _ h; exact h) (by rfl) (fun W hW => by go_simp; first | done | with_reducible rfl) hS ?_
        try simp only [Act.put, List.setIfInBounds_toArray, List.set_cons_zero, List.set_cons_succ]
        first | (refine take_step (i := 10) (by simp only [List.getElem?_toArray, List.getElem?_cons_succ, List.getElem?_cons_zero]; rfl) (by kernel_rfl) (by kernel_rfl) (by kernel_rfl) (by intro _ _ _ h; exact h) (by rfl) (fun W hW => by go_simp; first | done | with_reducible rfl) hS ?_) | (refine skip_step (i := 10) (by simp only [List.getElem?_toArray, List.getElem?_cons_succ, List.getElem?_cons_zero]; rfl) (by kernel_rfl) (by kernel_rfl) (by kernel_rfl) (by intro _ _ _ h; exact h) (by rfl) hS ?_)
        try simp only [Act.put, List.setIfInBounds_toArray, List.set_cons_zero, List.set_cons_succ]
        first | (refine take_step (i := 11) (by simp only [List.getElem?_toArray, List.getElem?_cons_succ, List.getElem?_cons_zero]; rfl) (by kernel_rfl) (by kernel_rfl) (by kernel_rfl) (by intro _ _ _ h; exact h) (by rfl) (fun W hW => by go_simp; first | done | with_reducible rfl) hS ?_) | (refine skip_step (i := 11) (by simp only [List.getElem?_toArray, List.getElem?_cons_succ, List.getElem?_cons_zero]; rfl) (by kernel_rfl) (by kernel_rfl) (by kernel_rfl) (by intro _ _ _ h; exact h) (by rfl) hS ?_)
        try simp only [Act.put, List.setIfInBounds_toArray, List.set_cons_zero, List.set_cons_succ]
        first | (refine take_step (i := 12) (by simp only [List.getElem?_toArray, List.getElem?_cons_succ, List.getElem?_cons_zero]; rfl) (by kernel_rfl) (by kernel_rfl) (by kernel_rfl) (by intro _ _ _ h; exact h) (by rfl) (fun W hW => by go_simp; first | done | with_reducible rfl) hS ?_) | (refine skip_step (i := 12) (by simp only [List.getElem?_toArray, List.getElem?_cons_succ, List.getElem?_cons_zero]; rfl) (by kernel_rfl) (by kernel_rfl) (by kernel_rfl) (by intro _ _ _ h; exact h) (by rfl) hS ?_)
        try simp only [Act.put, List.setIfInBounds_toArray, List.set_cons_zero, List.set_cons_succ]
        first | (refine take_step (i := 13) (by simp only [List.getElem?_toArray, List.getElem?_cons_succ, List.getElem?_cons_zero]; rfl) (by kernel_rfl) (by kernel_rfl) (by kernel_rfl) (by intro _ _ _ h; exact h) (by rfl) (fun W hW => by go_simp; first | done | with_reducible rfl) hS ?_) | (refine skip_step (i := 13) (by simp only [List.getElem?_toArray, List.getElem?_cons_succ, List.getElem?_cons_zero]; rfl) (by kernel_rfl) (by kernel_rfl) (by kernel_rfl) (by intro _ _ _ h; exact h) (by rfl) hS ?_)
        try simp only [Act.put, List.setIfInBounds_toArray, List.set_cons_zero, List.set_cons_succ]
        first | (refine take_step (i := 14) (by simp only [List.getElem?_toArray, List.getElem?_cons_succ, List.getElem?_cons_zero]; rfl) (by kernel_rfl) (by kernel_rfl) (by kernel_rfl) (by intro _ _ _ h; exact h) (by rfl) (fun W hW => by go_simp; first | done | with_reducible rfl) hS ?_) | (refine skip_step (i := 14) (by simp only [List.getElem?_toArray, List.getElem?_cons_succ, List.getElem?_cons_zero]; rfl) (by kernel_rfl) (by kernel_rfl) (by kernel_rfl) (by intro _ _ _ h; exact h) (by rfl) hS ?_)
        try simp only [Act.put, List.setIfInBounds_toArray, List.set_cons_zero, List.set_cons_succ]
        first | (refine take_step (i := 15) (by simp only [List.getElem?_toArray, List.getElem?_cons_succ, List.getElem?_cons_zero]; rfl) (by kernel_rfl) (by kernel_rfl) (by kernel_rfl) (by intro _ _ _ h; exact h) (by rfl) (fun W hW => by go_simp; first | done | with_reducible rfl) hS ?_) | (refine skip_step (i := 15) (by simp only [List.getElem?_toArray, List.getElem?_cons_succ, List.getElem?_cons_zero]; rfl) (by kernel_rfl) (by kernel_rfl) (by kernel_rfl) (by intro _ _ _ h; exact h) (by rfl) hS ?_)
        try simp only [Act.put, List.setIfInBounds_toArray, List.set_cons_zero, List.set_cons_succ]
        refine take_step (i := 16) (by simp only [List.getElem?_toArray, List.getElem?_cons_succ, List.getElem?_cons_zero]; rfl) (by kernel_rfl) (by kernel_rfl) (by kernel_rfl) (by intro _ _ _ h; exact h) (by rfl) (fun W hW => by go_simp; first | done | with_reducible rfl) hS ?_
        try simp only [Act.put, List.setIfInBounds_toArray, List.set_cons_zero, List.set_cons_succ]
        refine take_step (i := 17) (by simp only [List.getElem?_toArray, List.getElem?_cons_succ, List.getElem?_cons_zero]; rfl) (by kernel_rfl) (by kernel_rfl) (by kernel_rfl) (by intro _ _ _ h; exact h) (by rfl) (fun W hW => by go_simp; first | done | with_reducible rfl) hS ?_
        try simp only [Act.put, List.setIfInBounds_toArray, List.set_cons_zero, List.set_cons_succ]
        first | (refine take_step (i := 18) (by simp only [List.getElem?_toArray, List.getElem?_cons_succ, List.getElem?_cons_zero]; rfl) (by kernel_rfl) (by kernel_rfl) (by kernel_rfl) (by intro _ _ _ h; exact h) (by rfl) (fun W hW => by go_simp; first | done | with_reducible rfl) hS ?_) | (refine skip_step (i := 18) (by simp only [List.getElem?_toArray, List.getElem?_cons_succ, List.getElem?_cons_zero]; rfl) (by kernel_rfl) (by kernel_rfl) (by kernel_rfl) (by intro _ _ _ h; exact h) (by rfl) hS ?_)
        try simp only [Act.put, List.setIfInBounds_toArray, List.set_cons_zero, List.set_cons_succ]
        first | (refine take_step (i := 19) (by simp only [List.getElem?_toArray, List.getElem?_cons_succ, List.getElem?_cons_zero]; rfl) (by kernel_rfl) (by kernel_rfl) (by kernel_rfl) (by intro _ _ _ h; exact h) (by rfl) (fun W hW => by go_simp; first | done | with_reducible rfl) hS ?_) | (refine skip_step (i := 19) (by simp only [List.getElem?_toArray, List.getElem?_cons_succ, List.getElem?_cons_zero]; rfl) (by kernel_rfl) (by kernel_rfl) (by kernel_rfl) (by intro _ _ _ h; exact h) (by rfl) hS ?_)
        try simp only [Act.put, List.setIfInBounds_toArray, List.set_cons_zero, List.set_cons_succ]
        refine take_step (i := 20) (by simp only [List.getElem?_toArray, List.getElem?_cons_succ, List.getElem?_cons_zero]; rfl) (by kernel_rfl) (by kernel_rfl) (by kernel_rfl) (by intro _ _ _ h; exact h) (by rfl) (fun W hW => by go_simp; first | done | with_reducible rfl) hS ?_
        try simp only [Act.put, List.setIfInBounds_toArray, List.set_cons_zero, List.set_cons_succ]
        refine take_step (i := 21) (by simp only [List.getElem?_toArray, List.getElem?_cons_succ, List.getElem?_cons_zero]; rfl) (by kernel_rfl) (by kernel_rfl) (by kernel_rfl) (by intro _ _ _ h; exact h) (by rfl) (fun W hW => by go_simp; first | done | with_reducible rfl) hS ?_
        try simp only [Act.put, List.setIfInBounds_toArray, List.set_cons_zero, List.set_cons_succ]
        refine wpAnyH_done (by kernel_rfl) ?_ _
        go_wp2_with fail
        go_ret
        exact ⟨rfl, below_step HB2.out hS⟩
    · have HN := hid hn
      have hways : n < 1 ∨ (1 ≤ n ∧ 8 < n) := by omega
      clear hn
      rcases hways with hw | ⟨hw, hw2⟩
      all_goals
        go_enter Tryd.func4, Tryd.ntmps4
        go_wp2_with (with_reducible refine wpList_bytes_of _ rfl (.tmp 13) 9 24 5 rfl Tryd.underlying9 Tryd.underlying24 Tryd.underlying5 s rfl ?_; intro A1 c1 w1 hc1 hA1 hb1)
        go_fit (get_width A1 c1 s.length n w1 HN.out)
        rintro e w2 ⟨rfl, rfl⟩
        have HB1 := hid hb1
        clear hA1 hb1 hc1
        go_wp2_with fail
        go_fit (awake_yes w1 (HT.out.step HB1.out))
        rintro e w4 ⟨rfl, hb4⟩
        go_wp2_with fail
        go_ret
        exact ⟨rfl, below_step HB1.out hb4⟩

end Go.Proofs.YtkcebnagpgpclaaDoor
