/-
  What is written is taken: plain.
-/
import Derived.Test.YtcodljegicoeeaaTk
namespace Go.Proofs.Ytcodljegicoeeaa
open Go Go.RowKit

/-- what is written is taken -/
theorem rnum_vb {v : Nat} (hv : v < 18446744073709551616) (t : List UInt8) : rnum (vbytes v ++ t) = (v, t, 0) := by
  rw [rnum_ok (rdv_vbytes hv t), ← vbytes_length, List.drop_left]
theorem rtext_vb {s : List UInt8} (hs : s.length ≤ 65536) (t : List UInt8) : rtext (vbytes s.length ++ s ++ t) = (s, t, 0) := by
  have h := rnum_vb (v := s.length) (by omega) (s ++ t)
  rw [← List.append_assoc] at h
  unfold rtext
  rw [h]
  rw [if_neg (by simp), if_neg (by simp; omega), if_neg (by simp)]
  simp
theorem rflag_vb (y : Bool) (t : List UInt8) : rflag ([if y then 1 else 0] ++ t) = (y, t, 0) := by
  cases y <;> rfl

end Go.Proofs.Ytcodljegicoeeaa
