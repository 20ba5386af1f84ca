/-
  The landed ring: unlink, link.
-/
import Derived.Test.YtdhjjjagjkencaaRing
import Derived.Test.YtdhjjjagjkencaaRegion
import Derived.Deep.DeepFit
import Derived.StillTailTactics
namespace Go.Proofs.Ytdhjjjagjkencaa
open Go Go.RowKit

theorem cell_far {w : World} {a g i j : Nat} {u : Value} (h : g ≠ a) : (w.setCell ⟨a, i, none⟩ u).cell? ⟨g, j, none⟩ = w.cell? ⟨g, j, none⟩ := World.cell?_of_block (a := ⟨g, j, none⟩) (Below.heap_setCell w _ u g h)
/-- the cells of a position that a link reads -/
def LS (p e b : Nat) (_ W : World) : Prop := W.cell? ⟨p, 3, none⟩ = some (.pointer (some ⟨e, 0, none⟩)) ∧ W.cell? ⟨p, 4, none⟩ = some (.pointer (some ⟨b, 0, none⟩))
section
variable {w : World} {L : Nat → Prop} {vl : Nat → En} {pv nx : Nat → Nat} {p e : Nat}
set_option maxHeartbeats 4000000 in
set_option maxRecDepth 100000 in
theorem unlink_any (h : Nodes w L vl pv nx) (hp : L p) (ha : L (pv p)) (hb : L (nx p)) (hpa : p ≠ pv p) (hpb : p ≠ nx p) :
    Calls Try.prog 22 #[(.pointer (some ⟨p, 0, none⟩))] w fun x w' => x = .returned (.tuple #[]) ∧ Nodes w' L vl (upd pv (nx p) (pv p)) (upd nx (pv p) (nx p)) ∧ Within L w w' := by
  have HR := hid ((h.step ((Below.refl w.heap.size w).drew)).setNext (pv p) (nx p) |>.setPrior (nx p) (pv p))
  have HW := hid ((((Within.refl L w).drew).set (p := ⟨pv p, 4, none⟩) (.inl ha) (.pointer (some ⟨nx p, 0, none⟩))).set (p := ⟨nx p, 3, none⟩) (.inl hb) (.pointer (some ⟨pv p, 0, none⟩)))
  obtain ⟨c0, c1, c2, c3, c4, _⟩ := five (h.at_ p hp)
  have a4 := (five (h.at_ (pv p) ha)).2.2.2.2.1
  have fa4 : w.drew.frozen? ⟨pv p, 4, none⟩ = false := (five (h.at_ (pv p) ha)).2.2.2.2.2.2.2.2
  have b3 := (five (h.at_ (nx p) hb)).2.2.2.1
  have fb3 : w.drew.frozen? ⟨nx p, 3, none⟩ = false := (five (h.at_ (nx p) hb)).2.2.2.2.2.2.2.1
  have fa4u : w.frozen? ⟨pv p, 4, none⟩ = false := fa4
  have fb3u : w.frozen? ⟨nx p, 3, none⟩ = false := fb3
  have a4' : w.drew.cell? ⟨pv p, 4, none⟩ = some _ := a4
  have b3' : w.drew.cell? ⟨nx p, 3, none⟩ = some _ := b3
  have c3' : w.drew.cell? ⟨p, 3, none⟩ = some _ := c3
  have c4' : w.drew.cell? ⟨p, 4, none⟩ = some _ := c4
  clear h hp ha hb c0 c1 c2
  generalize upd pv (nx p) (pv p) = pv' at *
  generalize upd nx (pv p) (nx p) = nx' at *
  generalize pv p = a at *
  generalize nx p = b at *
  have hS0 : LS p a b w w.drew := ⟨c3', c4'⟩
  have z3 : ∀ W, LS p a b w W → W.cell? ⟨p, 3, none⟩ = some (.pointer (some ⟨a, 0, none⟩)) := fun W h => h.1
  have z4 : ∀ W, LS p a b w W → W.cell? ⟨p, 4, none⟩ = some (.pointer (some ⟨b, 0, none⟩)) := fun W h => h.2
  have hs1 : LS p a b w (w.drew.setCell ⟨a, 4, none⟩ (.pointer (some ⟨b, 0, none⟩))) := ⟨by rw [cell_far hpa]; exact c3', by rw [cell_far hpa]; exact c4'⟩
  have hs2 : LS p a b w ((w.drew.setCell ⟨a, 4, none⟩ (.pointer (some ⟨b, 0, none⟩))).setCell ⟨b, 3, none⟩ (.pointer (some ⟨a, 0, none⟩))) := ⟨by rw [cell_far hpb]; exact hs1.1, by rw [cell_far hpb]; exact hs1.2⟩
  clear c3 c4 c3' c4'
  by_cases hab : a = b
  · subst hab
    go_enter Try.func22, Try.ntmps22
    refine wp_region_held_drew (S := LS p a a w) (by kernel_rfl) hS0 (fun hS => ?_)
    refine stT 0 hS ?_
    try simp only [putr]
    refine stT 1 hS ?_
    try simp only [putr]
    refine stT 2 hS ?_
    try simp only [putr]
    refine stT 3 hS ?_
    try simp only [putr]
    refine stT 4 hS ?_
    try simp only [putr]
    refine stT 5 hS ?_
    try simp only [putr]
    refine stT 6 hS ?_
    try simp only [putr]
    refine stT 7 hS ?_
    try simp only [putr]
    refine stT 8 hS ?_
    try simp only [putr]
    refine stT 9 hS ?_
    try simp only [putr]
    refine stT 10 hS ?_
    try simp only [putr]
    refine stT 11 hS ?_
    try simp only [putr]
    refine stT 12 hS ?_
    try simp only [putr]
    refine stT 13 hS ?_
    try simp only [putr]
    refine stT 14 hS ?_
    try simp only [putr]
    refine stT 15 hS ?_
    try simp only [putr]
    refine stT 16 hS ?_
    try simp only [putr]
    refine stT 17 hS ?_
    try simp only [putr]
    refine rdH [18] ?_
    refine rcH (fun K hK => ?_) AllReadyH.nil
    go_simp
    refine hK.out _ _ (hs1) (fun hS18 => ?_)
    clear hK K hS
    have hS := hS18
    try simp only [Act.put]
    refine stT 19 hS ?_
    try simp only [putr]
    refine stT 20 hS ?_
    try simp only [putr]
    refine rdH [21] ?_
    refine rcH (fun K hK => ?_) AllReadyH.nil
    go_simp
    refine hK.out _ _ (hs2) (fun hS21 => ?_)
    clear hK K hS
    have hS := hS21
    try simp only [Act.put]
    refine wpAnyH_done (by kernel_rfl) ?_ _
    go_end0
    exact ⟨rfl, HR.out, HW.out⟩
  · have hba : b ≠ a := fun q => hab q.symm
    go_enter Try.func22, Try.ntmps22
    refine wp_region_held_drew (S := LS p a b w) (by kernel_rfl) hS0 (fun hS => ?_)
    refine stT 0 hS ?_
    try simp only [putr]
    refine stT 1 hS ?_
    try simp only [putr]
    refine stT 2 hS ?_
    try simp only [putr]
    refine stT 3 hS ?_
    try simp only [putr]
    refine stT 4 hS ?_
    try simp only [putr]
    refine stT 5 hS ?_
    try simp only [putr]
    refine stT 6 hS ?_
    try simp only [putr]
    refine stT 7 hS ?_
    try simp only [putr]
    refine stT 8 hS ?_
    try simp only [putr]
    refine stT 9 hS ?_
    try simp only [putr]
    refine stT 10 hS ?_
    try simp only [putr]
    refine stT 11 hS ?_
    try simp only [putr]
    refine stT 12 hS ?_
    try simp only [putr]
    refine stT 13 hS ?_
    try simp only [putr]
    refine stT 14 hS ?_
    try simp only [putr]
    refine stT 15 hS ?_
    try simp only [putr]
    refine stT 16 hS ?_
    try simp only [putr]
    refine stT 17 hS ?_
    try simp only [putr]
    refine rdH [18] ?_
    refine rcH (fun K hK => ?_) AllReadyH.nil
    go_simp
    refine hK.out _ _ (hs1) (fun hS18 => ?_)
    clear hK K hS
    have hS := hS18
    try simp only [Act.put]
    refine stT 19 hS ?_
    try simp only [putr]
    refine stT 20 hS ?_
    try simp only [putr]
    refine rdH [21] ?_
    refine rcH (fun K hK => ?_) AllReadyH.nil
    go_simp
    refine hK.out _ _ (hs2) (fun hS21 => ?_)
    clear hK K hS
    have hS := hS21
    try simp only [Act.put]
    refine wpAnyH_done (by kernel_rfl) ?_ _
    go_end0
    exact ⟨rfl, HR.out, HW.out⟩
set_option maxHeartbeats 4000000 in
set_option maxRecDepth 100000 in
theorem link_any {x y : Value} {z : En} (h : Nodes w L vl pv nx) (hp : ¬ L p) (hP : Blk w p 57 #[.int .i64 z.i, .string (bst z.b), .bool z.d, x, y]) (he : L e) (hb : L (nx e)) :
    Calls Try.prog 23 #[(.pointer (some ⟨p, 0, none⟩)), (.pointer (some ⟨e, 0, none⟩))] w fun x w' => x = .returned (.tuple #[]) ∧ Nodes w' (fun c => c = p ∨ L c) (updE vl p z) (upd (upd pv p e) (nx e) p) (upd (upd nx p (nx e)) e p) ∧ Within (fun c => c = p ∨ L c) w w' := by
  have hpe : p ≠ e := fun q => hp (q ▸ he)
  have hpb : p ≠ nx e := fun q => hp (q ▸ hb)
  have hn2 : Nodes ((w.setCell ⟨p, 3, none⟩ (.pointer (some ⟨e, 0, none⟩))).setCell ⟨p, 4, none⟩ (.pointer (some ⟨nx e, 0, none⟩))) (fun c => c = p ∨ L c) (updE vl p z) (upd pv p e) (upd nx p (nx e)) := ⟨fun c hc => by
    by_cases q : c = p
    · subst q
      have := (hP.set 3 (.pointer (some ⟨e, 0, none⟩))).set 4 (.pointer (some ⟨nx e, 0, none⟩))
      rw [updE_eq, upd_eq, upd_eq]
      simpa [pcell, PBlk] using this
    · rw [updE_ne q, upd_ne q, upd_ne q]
      exact ((h.at_ c (hc.resolve_left q)).far q _).far q _⟩
  have HR := hid (((hn2.step ((Below.refl _ _).drew)).setNext e p).setPrior (nx e) p)
  have HW := hid ((((((Within.refl (fun c => c = p ∨ L c) w).set (p := ⟨p, 3, none⟩) (.inl (.inl rfl)) (.pointer (some ⟨e, 0, none⟩))).set (p := ⟨p, 4, none⟩) (.inl (.inl rfl)) (.pointer (some ⟨nx e, 0, none⟩))).drew).set (p := ⟨e, 4, none⟩) (.inl (.inr he)) (.pointer (some ⟨p, 0, none⟩))).set (p := ⟨nx e, 3, none⟩) (.inl (.inr hb)) (.pointer (some ⟨p, 0, none⟩)))
  have c3 := hP.cell 3
  have c4 := hP.cell 4
  have fc3 := hP.free 3
  have fc4 := hP.free 4
  obtain ⟨_, _, _, _, e4, _, _, _, _⟩ := five (h.at_ e he)
  obtain ⟨_, _, _, p3, p4, _⟩ := five (hn2.at_ p (.inl rfl))
  rw [upd_eq] at p3 p4
  obtain ⟨_, _, _, _, e4', _, _, _, fe4⟩ := five (hn2.at_ e (.inr he))
  obtain ⟨_, _, _, b3, _, _, _, fb3, _⟩ := five (hn2.at_ (nx e) (.inr hb))
  rw [upd_ne hpe.symm] at e4'
  rw [upd_ne (Ne.symm hpb)] at b3
  clear h hp hP he hb hn2
  generalize updE vl p z = vl' at *
  generalize upd (upd pv p e) (nx e) p = pv' at *
  generalize upd (upd nx p (nx e)) e p = nx' at *
  generalize pv (nx e) = q at *
  generalize nx e = b at *
  go_enter Try.func23, Try.ntmps23
  go_wp2_with fail
  generalize (w.setCell ⟨p, 3, none⟩ (.pointer (some ⟨e, 0, none⟩))).setCell ⟨p, 4, none⟩ (.pointer (some ⟨b, 0, none⟩)) = w2 at *
  clear c3 c4 fc3 fc4 e4
  have p3' : w2.drew.cell? ⟨p, 3, none⟩ = some _ := p3
  have p4' : w2.drew.cell? ⟨p, 4, none⟩ = some _ := p4
  have e4'' : w2.drew.cell? ⟨e, 4, none⟩ = some _ := e4'
  have b3' : w2.drew.cell? ⟨b, 3, none⟩ = some _ := b3
  have fe4' : w2.drew.frozen? ⟨e, 4, none⟩ = false := fe4
  have fb3' : w2.drew.frozen? ⟨b, 3, none⟩ = false := fb3
  have hS0 : LS p e b w2 w2.drew := ⟨p3', p4'⟩
  have z3 : ∀ W, LS p e b w2 W → W.cell? ⟨p, 3, none⟩ = some (.pointer (some ⟨e, 0, none⟩)) := fun W h => h.1
  have z4 : ∀ W, LS p e b w2 W → W.cell? ⟨p, 4, none⟩ = some (.pointer (some ⟨b, 0, none⟩)) := fun W h => h.2
  have hs1 : LS p e b w2 (w2.drew.setCell ⟨e, 4, none⟩ (.pointer (some ⟨p, 0, none⟩))) := ⟨by rw [cell_far (fun q => hpe q)]; exact p3', by rw [cell_far (fun q => hpe q)]; exact p4'⟩
  have hs2 : LS p e b w2 ((w2.drew.setCell ⟨e, 4, none⟩ (.pointer (some ⟨p, 0, none⟩))).setCell ⟨b, 3, none⟩ (.pointer (some ⟨p, 0, none⟩))) := ⟨by rw [cell_far (fun q => hpb q)]; exact hs1.1, by rw [cell_far (fun q => hpb q)]; exact hs1.2⟩
  clear p3 p4 p3' p4'
  by_cases heb : e = b
  · subst heb
    refine wp_region_held_drew (S := LS p e e w2) (by kernel_rfl) hS0 (fun hS => ?_)
    refine stT 0 hS ?_
    try simp only [putr]
    refine stT 1 hS ?_
    try simp only [putr]
    refine stT 2 hS ?_
    try simp only [putr]
    refine stT 3 hS ?_
    try simp only [putr]
    refine stT 4 hS ?_
    try simp only [putr]
    refine stT 5 hS ?_
    try simp only [putr]
    refine stT 6 hS ?_
    try simp only [putr]
    refine stT 7 hS ?_
    try simp only [putr]
    refine stT 8 hS ?_
    try simp only [putr]
    refine stT 9 hS ?_
    try simp only [putr]
    refine stT 10 hS ?_
    try simp only [putr]
    refine stT 11 hS ?_
    try simp only [putr]
    refine rdH [12] ?_
    refine rcH (fun K hK => ?_) AllReadyH.nil
    go_simp
    refine hK.out _ _ (hs1) (fun hS12 => ?_)
    clear hK K hS
    have hS := hS12
    try simp only [Act.put]
    refine stT 13 hS ?_
    try simp only [putr]
    refine stT 14 hS ?_
    try simp only [putr]
    refine rdH [15] ?_
    refine rcH (fun K hK => ?_) AllReadyH.nil
    go_simp
    refine hK.out _ _ (hs2) (fun hS15 => ?_)
    clear hK K hS
    have hS := hS15
    try simp only [Act.put]
    refine wpAnyH_done (by kernel_rfl) ?_ _
    go_end0
    exact ⟨rfl, HR.out, HW.out⟩
  · have hbe : b ≠ e := fun q => heb q.symm
    refine wp_region_held_drew (S := LS p e b w2) (by kernel_rfl) hS0 (fun hS => ?_)
    refine stT 0 hS ?_
    try simp only [putr]
    refine stT 1 hS ?_
    try simp only [putr]
    refine stT 2 hS ?_
    try simp only [putr]
    refine stT 3 hS ?_
    try simp only [putr]
    refine stT 4 hS ?_
    try simp only [putr]
    refine stT 5 hS ?_
    try simp only [putr]
    refine stT 6 hS ?_
    try simp only [putr]
    refine stT 7 hS ?_
    try simp only [putr]
    refine stT 8 hS ?_
    try simp only [putr]
    refine stT 9 hS ?_
    try simp only [putr]
    refine stT 10 hS ?_
    try simp only [putr]
    refine stT 11 hS ?_
    try simp only [putr]
    refine rdH [12] ?_
    refine rcH (fun K hK => ?_) AllReadyH.nil
    go_simp
    refine hK.out _ _ (hs1) (fun hS12 => ?_)
    clear hK K hS
    have hS := hS12
    try simp only [Act.put]
    refine stT 13 hS ?_
    try simp only [putr]
    refine stT 14 hS ?_
    try simp only [putr]
    refine rdH [15] ?_
    refine rcH (fun K hK => ?_) AllReadyH.nil
    go_simp
    refine hK.out _ _ (hs2) (fun hS15 => ?_)
    clear hK K hS
    have hS := hS15
    try simp only [Act.put]
    refine wpAnyH_done (by kernel_rfl) ?_ _
    go_end0
    exact ⟨rfl, HR.out, HW.out⟩
end

end Go.Proofs.Ytdhjjjagjkencaa
