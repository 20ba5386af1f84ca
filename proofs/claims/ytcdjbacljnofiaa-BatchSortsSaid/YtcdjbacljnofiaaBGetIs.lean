/-
  Bytes are a batch's in one way alone: plain.
-/
import Derived.Test.YtcdjbacljnofiaaBGet
import Derived.Test.YtcdjbacljnofiaaTkVb
namespace Go.Proofs.Ytcdjbacljnofiaa
open Go Go.RowKit

theorem rnum_is {l l1 : List UInt8} {v : Nat} (h : rnum l = (v, l1, 0)) : l = vbytes v ++ l1 ∧ v < 18446744073709551616 := by
  have h1 := rnum_all l
  rw [h] at h1
  cases h1 with
  | good v n hr hn hl hv hb => exact ⟨hb, hv⟩
theorem rtext_is {l K l1 : List UInt8} (h : rtext l = (K, l1, 0)) : l = vbytes K.length ++ K ++ l1 := by
  unfold rtext at h
  obtain ⟨⟨v, r, e⟩, hr⟩ : ∃ o, rnum l = o := ⟨_, rfl⟩
  rw [hr] at h
  dsimp only at h
  by_cases he : e = 0
  · subst he
    rw [if_neg (by simp)] at h
    by_cases h1 : 65536 < v
    · rw [if_pos h1] at h
      injection h with _ h
      injection h with _ h
      cases h
    · rw [if_neg h1] at h
      by_cases h2 : r.length < v
      · rw [if_pos h2] at h
        injection h with _ h
        injection h with _ h
        cases h
      · rw [if_neg h2] at h
        injection h with ha h
        injection h with hb _
        subst ha hb
        have hlen : (r.take v).length = v := by rw [List.length_take]; omega
        rw [hlen, List.append_assoc, List.take_append_drop]
        exact (rnum_is hr).1
  · rw [if_pos he] at h
    injection h with _ h
    injection h with _ h
    exact absurd h he
theorem rflag_is {l l1 : List UInt8} {g : Bool} (h : rflag l = (g, l1, 0)) : l = (if g then 1 else 0) :: l1 := by
  rcases l with _ | ⟨x, l⟩
  · cases h
  · have h' : (if 1 < x.toNat then (false, x :: l, 33) else (x.toNat == 1, l, 0)) = (g, l1, 0) := h
    by_cases h1 : 1 < x.toNat
    · rw [if_pos h1] at h'
      injection h' with _ h'
      injection h' with _ h'
      cases h'
    · rw [if_neg h1] at h'
      injection h' with ha h'
      injection h' with hb _
      subst ha hb
      by_cases h2 : x.toNat = 1
      · have : x = 1 := UInt8.toNat_inj.1 h2
        subst this
        rfl
      · have : x = 0 := UInt8.toNat_inj.1 (by show x.toNat = 0; omega)
        subst this
        rfl

theorem wenc_true (k : List UInt8) : wenc ⟨k, [], true⟩ = vbytes k.length ++ k ++ [1] := rfl
theorem wenc_false (k v : List UInt8) : wenc ⟨k, v, false⟩ = vbytes k.length ++ k ++ (0 :: (vbytes v.length ++ v)) := rfl

/-- what is read is written -/
theorem bgL_is : ∀ (j : Nat) (c r s : Nat) (acc : List Wt) (l : List UInt8) (b : Bt), bgL c r s j acc l = some b → ∃ ws, b = ⟨c, r, s, acc ++ ws⟩ ∧ ws.length = j ∧ l = ws.flatMap wenc ∧ chk b.ws = 0
  | 0, c, r, s, acc, l, b, h => by
    unfold bgL at h
    by_cases h0 : l = [] ∧ chk acc = 0
    · rw [if_pos h0] at h
      injection h with h
      subst h
      exact ⟨[], by simp, rfl, by simpa using h0.1, h0.2⟩
    · rw [if_neg h0] at h; cases h
  | j + 1, c, r, s, acc, l, b, h => by
    unfold bgL at h
    obtain ⟨⟨K, l1, e1⟩, h1⟩ : ∃ o, rtext l = o := ⟨_, rfl⟩
    rw [h1] at h
    dsimp only at h
    obtain ⟨⟨g, l2, e2⟩, h2⟩ : ∃ o, rflag l1 = o := ⟨_, rfl⟩
    rw [h2] at h
    dsimp only at h
    by_cases he1 : e1 = 0
    case neg => rw [if_pos he1] at h; cases h
    subst he1
    rw [if_neg (by simp)] at h
    by_cases he2 : e2 = 0
    case neg => rw [if_pos he2] at h; cases h
    subst he2
    rw [if_neg (by simp)] at h
    have x1 := rtext_is h1
    have x2 := rflag_is h2
    cases g with
    | true =>
      rw [if_pos rfl] at h
      obtain ⟨ws, rfl, hl, hw, hc⟩ := bgL_is j c r s _ l2 b h
      refine ⟨⟨K, [], true⟩ :: ws, by simp, by simp [hl], ?_, hc⟩
      rw [x1, x2, hw, List.flatMap_cons, wenc_true]
      simp
    | false =>
      rw [if_neg (by simp)] at h
      obtain ⟨⟨V, l3, e3⟩, h3⟩ : ∃ o, rtext l2 = o := ⟨_, rfl⟩
      rw [h3] at h
      dsimp only at h
      by_cases he3 : e3 = 0
      case neg => rw [if_pos he3] at h; cases h
      subst he3
      rw [if_neg (by simp)] at h
      have x3 := rtext_is h3
      obtain ⟨ws, rfl, hl, hw, hc⟩ := bgL_is j c r s _ l3 b h
      refine ⟨⟨K, V, false⟩ :: ws, by simp, by simp [hl], ?_, hc⟩
      rw [x1, x2, x3, hw, List.flatMap_cons, wenc_false]
      simp
theorem bget_is {l : List UInt8} {b : Bt} (h : bget l = some b) : l = benc b ∧ chk b.ws = 0 ∧ b.c < 18446744073709551616 ∧ b.r < 18446744073709551616 ∧ b.s < 18446744073709551616 := by
  unfold bget bgN at h
  obtain ⟨⟨c, l1, e1⟩, h1⟩ : ∃ o, rnum l = o := ⟨_, rfl⟩
  rw [h1] at h; dsimp only at h
  by_cases he1 : e1 = 0
  case neg => rw [if_pos he1] at h; cases h
  subst he1; rw [if_neg (by simp)] at h
  unfold bgN at h
  obtain ⟨⟨r, l2, e2⟩, h2⟩ : ∃ o, rnum l1 = o := ⟨_, rfl⟩
  rw [h2] at h; dsimp only at h
  by_cases he2 : e2 = 0
  case neg => rw [if_pos he2] at h; cases h
  subst he2; rw [if_neg (by simp)] at h
  unfold bgN at h
  obtain ⟨⟨s, l3, e3⟩, h3⟩ : ∃ o, rnum l2 = o := ⟨_, rfl⟩
  rw [h3] at h; dsimp only at h
  by_cases he3 : e3 = 0
  case neg => rw [if_pos he3] at h; cases h
  subst he3; rw [if_neg (by simp)] at h
  unfold bgN at h
  obtain ⟨⟨m, l4, e4⟩, h4⟩ : ∃ o, rnum l3 = o := ⟨_, rfl⟩
  rw [h4] at h; dsimp only at h
  by_cases he4 : e4 = 0
  case neg => rw [if_pos he4] at h; cases h
  subst he4; rw [if_neg (by simp)] at h
  unfold bgN at h
  have h' : (if 8 < m then none else bgL c r s m [] l4) = some b := h
  by_cases h8 : 8 < m
  · rw [if_pos h8] at h'; cases h'
  · rw [if_neg h8] at h'
    obtain ⟨ws, rfl, hl, hw, hc⟩ := bgL_is m c r s [] l4 b h'
    obtain ⟨x1, y1⟩ := rnum_is h1
    obtain ⟨x2, y2⟩ := rnum_is h2
    obtain ⟨x3, y3⟩ := rnum_is h3
    obtain ⟨x4, _⟩ := rnum_is h4
    refine ⟨?_, hc, y1, y2, y3⟩
    rw [x1, x2, x3, x4, hw, ← hl]
    simp [benc]

/-- what is written is read -/
theorem bgL_back : ∀ (ws : List Wt) (c r s : Nat) (acc : List Wt), (∀ x ∈ ws, x.k.length ≤ 64 ∧ x.v.length ≤ 256 ∧ (x.g = true → x.v = [])) → chk (acc ++ ws) = 0 → bgL c r s ws.length acc (ws.flatMap wenc) = some ⟨c, r, s, acc ++ ws⟩
  | [], c, r, s, acc, _, h => by
    rw [List.append_nil] at h
    show (if ([] : List UInt8) = [] ∧ chk acc = 0 then _ else _) = _
    rw [if_pos ⟨rfl, h⟩, List.append_nil]
  | ⟨k, v, g⟩ :: ws, c, r, s, acc, hx, h => by
    obtain ⟨hk, hv, hg⟩ := hx ⟨k, v, g⟩ (by simp)
    have ih := fun acc' h' => bgL_back ws c r s acc' (fun x hx' => hx x (by simp [hx'])) h'
    have hk2 : k.length ≤ 65536 := Nat.le_trans hk (by decide)
    have hv2 : v.length ≤ 65536 := Nat.le_trans hv (by decide)
    rw [List.length_cons, bgL]
    cases g with
    | true =>
      have : v = [] := hg rfl
      subst this
      have e1 : rtext ((⟨k, [], true⟩ :: ws).flatMap wenc) = (k, [1] ++ ws.flatMap wenc, 0) := by
        rw [List.flatMap_cons, wenc_true, List.append_assoc]
        exact rtext_vb hk2 _
      have e2 : rflag ([1] ++ ws.flatMap wenc) = (true, ws.flatMap wenc, 0) := rflag_vb true _
      rw [e1]
      dsimp only
      rw [e2]
      dsimp only
      rw [if_neg (by simp), if_neg (by simp), if_pos rfl, ih (acc ++ [Wt.mk k [] true]) (by rw [List.append_assoc]; exact h), List.append_assoc]
      rfl
    | false =>
      have e1 : rtext ((⟨k, v, false⟩ :: ws).flatMap wenc) = (k, [0] ++ (vbytes v.length ++ v ++ ws.flatMap wenc), 0) := by
        rw [List.flatMap_cons, wenc_false, List.append_assoc]
        have := rtext_vb hk2 ((0 :: (vbytes v.length ++ v)) ++ ws.flatMap wenc)
        rw [this]
        rfl
      have e2 : rflag ([0] ++ (vbytes v.length ++ v ++ ws.flatMap wenc)) = (false, vbytes v.length ++ v ++ ws.flatMap wenc, 0) := rflag_vb false _
      have e3 := rtext_vb hv2 (ws.flatMap wenc)
      rw [e1]
      dsimp only
      rw [e2]
      dsimp only
      rw [e3]
      dsimp only
      rw [if_neg (by simp), if_neg (by simp), if_neg (by simp), if_neg (by simp), ih (acc ++ [Wt.mk k v false]) (by rw [List.append_assoc]; exact h), List.append_assoc]
      rfl
theorem bget_benc {b : Bt} (hk : chk b.ws = 0) (hc : b.c < 18446744073709551616) (hr : b.r < 18446744073709551616) (hs : b.s < 18446744073709551616) : bget (benc b) = some b := by
  obtain ⟨c, r, s, ws⟩ := b
  have hok := chk_ok hk
  have h8 : ws.length ≤ 8 := hok.2.1
  have hb := bgL_back ws c r s [] (fun x hx => ⟨(hok.2.2 x hx).2.1, (hok.2.2 x hx).2.2.1, (hok.2.2 x hx).2.2.2⟩) hk
  have e : benc ⟨c, r, s, ws⟩ = vbytes c ++ (vbytes r ++ (vbytes s ++ (vbytes ws.length ++ ws.flatMap wenc))) := by simp [benc]
  rw [e]
  unfold bget bgN
  rw [rnum_vb hc]; dsimp only; rw [if_neg (by simp)]
  unfold bgN
  rw [rnum_vb hr]; dsimp only; rw [if_neg (by simp)]
  unfold bgN
  rw [rnum_vb hs]; dsimp only; rw [if_neg (by simp)]
  unfold bgN
  rw [rnum_vb (by omega)]; dsimp only; rw [if_neg (by simp)]
  unfold bgN
  show (if 8 < ws.length then none else bgL c r s ws.length [] (ws.flatMap wenc)) = _
  rw [if_neg (by omega), hb]
  rfl

end Go.Proofs.Ytcdjbacljnofiaa
