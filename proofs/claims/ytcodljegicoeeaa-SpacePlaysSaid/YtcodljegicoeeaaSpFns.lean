/-
  A space's bytes, read: plain functions, and that each space has one encoding alone.
-/
import Derived.Test.YtcodljegicoeeaaSpBytes
import Derived.Test.YtcodljegicoeeaaTk
import Derived.Test.YtcodljegicoeeaaVarBack
import Derived.Test.YtcodljegicoeeaaTkVb
namespace Go.Proofs.Ytcodljegicoeeaa

/-- may a run of this length not follow? -/
def badRun (n k : Nat) (t : Bool) (b : List UInt8) : Prop := (rnum b).2.2 ≠ 0 ∨ n - k < (rnum b).1 ∨ ((rnum b).1 = 0 ∧ (0 < k ∨ t = true))
instance (n k : Nat) (t : Bool) (b : List UInt8) : Decidable (badRun n k t b) := by unfold badRun; infer_instance
def ofGo (n : Nat) (acc : List Bool) (t : Bool) (b : List UInt8) : Option (List Bool × List UInt8) :=
  if _h : acc.length < n then
    if _hb : badRun n acc.length t b then none
    else ofGo n (acc ++ List.replicate (rnum b).1 t) (!t) (rnum b).2.1
  else some (acc, b)
termination_by 2 * (n - acc.length) + (if t = true then 0 else 1)
decreasing_by
  unfold badRun at _hb
  simp only [List.length_append, List.length_replicate]
  cases t <;> simp at _hb ⊢ <;> omega
theorem ofGo_end {n : Nat} {acc : List Bool} {t : Bool} {b : List UInt8} (h : ¬ acc.length < n) : ofGo n acc t b = some (acc, b) := by rw [ofGo, dif_neg h]
theorem ofGo_bad {n : Nat} {acc : List Bool} {t : Bool} {b : List UInt8} (h : acc.length < n) (hb : badRun n acc.length t b) : ofGo n acc t b = none := by rw [ofGo, dif_pos h, dif_pos hb]
theorem ofGo_run {n : Nat} {acc : List Bool} {t : Bool} {b : List UInt8} (h : acc.length < n) (hb : ¬ badRun n acc.length t b) : ofGo n acc t b = ofGo n (acc ++ List.replicate (rnum b).1 t) (!t) (rnum b).2.1 := by rw [ofGo, dif_pos h, dif_neg hb]
/-- may a space not have this many pages? -/
def badN (b : List UInt8) : Prop := (rnum b).2.2 ≠ 0 ∨ (rnum b).1 < 1 ∨ 256 < (rnum b).1
instance (b : List UInt8) : Decidable (badN b) := by unfold badN; infer_instance
/-- the space of bytes -/
def sof (b : List UInt8) : Option (List Bool) :=
  if badN b then none else (ofGo (rnum b).1 [] false (rnum b).2.1).bind fun x => if x.2 = [] then some x.1 else none

theorem rnum_of {b : List UInt8} (h : (rnum b).2.2 = 0) : b = vbytes (rnum b).1 ++ (rnum b).2.1 := by
  have h1 := rnum_all b
  generalize rnum b = o at h h1
  cases h1 with
  | good v n _ _ _ _ hb => exact hb
  | short _ => cases h
  | form _ => cases h
theorem runs_rep (t : Bool) (m : List Bool) : ∀ (r n : Nat), runsF (List.replicate r t ++ m) t n = runsF m t (n + r)
  | 0, n => by simp
  | r + 1, n => by
    rw [List.replicate_succ, List.cons_append, runsF, if_pos rfl, runs_rep t m r (n + 1)]
    congr 1
    omega
/-- what stands in bytes is a list's runs -/
theorem ofGo_is (n : Nat) (acc : List Bool) (t : Bool) (b : List UInt8) (l : List Bool) (rest : List UInt8) (h : ofGo n acc t b = some (l, rest)) (hle : acc.length ≤ n) :
    ∃ m, l = acc ++ m ∧ acc.length + m.length = n ∧ (m = [] → b = rest) ∧ (m ≠ [] → b = venc (runsF m t 0) ++ rest) ∧ (m ≠ [] → (0 < acc.length ∨ t = true) → m.head? = some t) := by
  induction acc, t, b using ofGo.induct n with
  | case1 acc t b hlt hb => rw [ofGo_bad hlt hb] at h; cases h
  | case2 acc t b hlt hb ih =>
    rw [ofGo_run hlt hb] at h
    have hb' := hb
    unfold badRun at hb'
    have h0 : (rnum b).2.2 = 0 := Classical.byContradiction fun e => hb' (.inl e)
    have hr : (rnum b).1 ≤ n - acc.length := by
      rcases Nat.lt_or_ge (n - acc.length) (rnum b).1 with e | e
      · exact absurd (.inr (.inl e)) hb'
      · exact e
    have hz : ¬ ((rnum b).1 = 0 ∧ (0 < acc.length ∨ t = true)) := fun e => hb' (.inr (.inr e))
    have hbb := rnum_of h0
    obtain ⟨m, e1, e2, e3, e4, e5⟩ := ih h (by simp; omega)
    generalize (rnum b).1 = r at *
    generalize (rnum b).2.1 = b2 at *
    refine ⟨List.replicate r t ++ m, by rw [e1, List.append_assoc], by simp at e2 ⊢; omega, ?_, ?_, ?_⟩
    · intro e
      obtain ⟨hr0, hm0⟩ : r = 0 ∧ m = [] := by simpa using e
      subst hm0
      simp at e2
      omega
    · intro _
      rw [hbb, runs_rep, Nat.zero_add]
      by_cases hm : m = []
      · subst hm
        rw [e3 rfl]
        simp [runsF, venc]
      · have hh := e5 hm (by
          by_cases hr0 : r = 0
          · refine .inr ?_
            cases t with
            | true => exact absurd ⟨hr0, .inr rfl⟩ hz
            | false => rfl
          · exact .inl (by simp; omega))
        rw [e4 hm, runsF_turn r hh]
        simp [venc]
    · intro _ hor
      have hr0 : r ≠ 0 := fun e => hz ⟨e, hor⟩
      obtain ⟨k, rfl⟩ := Nat.exists_eq_succ_of_ne_zero hr0
      simp [List.replicate_succ]
  | case3 acc t b hlt =>
    rw [ofGo_end hlt] at h
    injection h with h
    injection h with h1 h2
    subst h1 h2
    exact ⟨[], by simp, by simp; omega, fun _ => rfl, fun e => absurd rfl e, fun e => absurd rfl e⟩
theorem sof_some {b : List UInt8} {l : List Bool} (h : sof b = some l) : 1 ≤ l.length ∧ l.length ≤ 256 ∧ sbytes l = b := by
  unfold sof at h
  by_cases hn : badN b
  · rw [if_pos hn] at h; cases h
  · rw [if_neg hn] at h
    unfold badN at hn
    have h0 : (rnum b).2.2 = 0 := Classical.byContradiction fun e => hn (.inl e)
    have h1 : 1 ≤ (rnum b).1 := by rcases Nat.lt_or_ge (rnum b).1 1 with e | e; exact absurd (.inr (.inl e)) hn; exact e
    have h2 : (rnum b).1 ≤ 256 := by rcases Nat.lt_or_ge 256 (rnum b).1 with e | e; exact absurd (.inr (.inr e)) hn; exact e
    cases hg : ofGo (rnum b).1 [] false (rnum b).2.1 with
    | none => rw [hg] at h; cases h
    | some x =>
      rw [hg] at h
      obtain ⟨l', rest⟩ := x
      simp only [Option.bind_some] at h
      by_cases hr : rest = []
      · rw [if_pos hr] at h
        injection h with h
        subst h hr
        obtain ⟨m, e1, e2, _, e4, _⟩ := ofGo_is _ _ _ _ _ _ hg (Nat.zero_le _)
        simp at e1 e2
        subst e1
        have hm : l' ≠ [] := fun e => by subst e; simp at e2; omega
        refine ⟨by omega, by omega, ?_⟩
        unfold sbytes
        rw [e2]
        have := e4 hm
        rw [List.append_nil] at this
        rw [← this]
        exact (rnum_of h0).symm
      · rw [if_neg hr] at h; cases h

theorem split_run (t : Bool) : ∀ m : List Bool, ∃ r m2, m = List.replicate r t ++ m2 ∧ (m2 ≠ [] → m2.head? = some (!t))
  | [] => ⟨0, [], rfl, fun h => absurd rfl h⟩
  | x :: m => by
    by_cases h : x = t
    · subst h
      obtain ⟨r, m2, e, h2⟩ := split_run x m
      exact ⟨r + 1, m2, by rw [List.replicate_succ, List.cons_append, ← e], h2⟩
    · exact ⟨0, x :: m, rfl, fun _ => by cases x <;> cases t <;> simp_all⟩
/-- a list's runs are read as the list -/
theorem ofGo_runs (acc : List Bool) (t : Bool) (m : List Bool) (rest : List UInt8) (hm : m ≠ []) (hh : 0 < acc.length ∨ t = true → m.head? = some t) (hl : acc.length + m.length ≤ 256) :
    ofGo (acc.length + m.length) acc t (venc (runsF m t 0) ++ rest) = some (acc ++ m, rest) := by
  obtain ⟨k, hk⟩ : ∃ k, 2 * m.length + (if t = true then 0 else 1) ≤ k := ⟨_, Nat.le_refl _⟩
  induction k generalizing acc t m with
  | zero =>
    have : m.length ≠ 0 := by simpa using hm
    omega
  | succ k ih =>
    obtain ⟨r, m2, hsp, hm2⟩ : ∃ r m2, m = List.replicate r t ++ m2 ∧ (m2 ≠ [] → m2.head? = some (!t)) := split_run t m
    have hpos : 0 < m.length := by
      have : m.length ≠ 0 := by simpa using hm
      omega
    have hln : m.length = r + m2.length := by rw [hsp]; simp
    have hruns : runsF m t 0 = r :: (if m2 = [] then [] else runsF m2 (!t) 0) := by
      rw [hsp, runs_rep, Nat.zero_add]
      by_cases e : m2 = []
      · subst e; simp [runsF]
      · rw [if_neg e, runsF_turn r (hm2 e)]
    have hr0 : r = 0 → ¬ (0 < acc.length ∨ t = true) := by
      intro e hor
      subst e
      have h1 := hh hor
      have e2 : m = m2 := by simpa using hsp
      subst e2
      rw [hm2 hm] at h1
      cases t <;> simp at h1
    have hb : venc (runsF m t 0) ++ rest = vbytes r ++ (venc (if m2 = [] then [] else runsF m2 (!t) 0) ++ rest) := by rw [hruns]; simp [venc]
    have hnum := rnum_vb (v := r) (by omega) (venc (if m2 = [] then [] else runsF m2 (!t) 0) ++ rest)
    rw [← hb] at hnum
    have hnb : ¬ badRun (acc.length + m.length) acc.length t (venc (runsF m t 0) ++ rest) := by
      unfold badRun
      rw [hnum]
      rintro (h | h | ⟨h, h2⟩)
      · exact h rfl
      · dsimp only at h; omega
      · exact hr0 h h2
    rw [ofGo_run (by omega) hnb, hnum]
    dsimp only
    by_cases e : m2 = []
    · subst e
      rw [if_pos rfl, ofGo_end (by simp at hln ⊢; omega), hsp]
      simp [venc]
    · rw [if_neg e]
      have e3 : acc.length + m.length = (acc ++ List.replicate r t).length + m2.length := by rw [hln]; simp; omega
      rw [e3, ih (acc ++ List.replicate r t) (!t) m2 e (fun _ => hm2 e) (by omega) (by
        by_cases hr : r = 0
        · have := hr0 hr
          cases t with
          | true => exact absurd (.inr rfl) this
          | false => simp at hk ⊢; omega
        · cases t <;> simp at hk ⊢ <;> omega), hsp, List.append_assoc]
theorem sof_sbytes {l : List Bool} (h1 : 1 ≤ l.length) (h2 : l.length ≤ 256) : sof (sbytes l) = some l := by
  have hnum := rnum_vb (v := l.length) (by omega) (venc (runsF l false 0))
  have hb : sbytes l = vbytes l.length ++ venc (runsF l false 0) := rfl
  rw [← hb] at hnum
  unfold sof
  rw [if_neg (by unfold badN; rw [hnum]; dsimp only; omega), hnum]
  have hg := ofGo_runs [] false l [] (by intro e; subst e; simp at h1) (by simp) (by simpa using h2)
  simp at hg
  dsimp only
  rw [hg]
  rfl
theorem sbytes_inj {l l' : List Bool} (h1 : 1 ≤ l.length) (h2 : l.length ≤ 256) (h1' : 1 ≤ l'.length) (h2' : l'.length ≤ 256) (h : sbytes l = sbytes l') : l = l' := by
  have := sof_sbytes h1 h2
  rw [h, sof_sbytes h1' h2'] at this
  injection this with this
  exact this.symm

end Go.Proofs.Ytcodljegicoeeaa
