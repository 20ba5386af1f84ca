/-
  Lists: plain.
-/
namespace Go.Proofs.YtikggbopoajcbaaDoor

theorem drop_cons {l : List UInt8} {k : Nat} {x : UInt8} (h : l[k]? = some x) : l.drop k = x :: l.drop (k + 1) := by
  obtain ⟨hk, hx⟩ := List.getElem?_eq_some_iff.1 h
  rw [← hx]; exact List.drop_eq_getElem_cons hk

end Go.Proofs.YtikggbopoajcbaaDoor
