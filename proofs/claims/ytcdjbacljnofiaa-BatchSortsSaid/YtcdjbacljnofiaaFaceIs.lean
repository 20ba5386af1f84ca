/-
  The landed functions meet what the laws' walks ask of them.
-/
import Derived.Test.YtcdjbacljnofiaaFace
import Derived.Test.YtcdjbacljnofiaaBSearch
import Derived.Test.YtcdjbacljnofiaaBPut
import Derived.Test.YtcdjbacljnofiaaBGetC
namespace Go.Proofs.Ytcdjbacljnofiaa
open Go Go.RowKit

theorem face : Face where
  check := fun h => check_any h.at_ h.len h.below
  sorted := fun h => sorted_any h.at_ h.len h.below (Nat.le_trans h.small (by decide))
  putNo := fun hC h0 h => bput_no hC h0 h.at_ h.len h.below
  putYes := fun hC h h1 h2 h3 => bput_yes hC h.at_ h.len h.below h1 h2 h3
  get := fun hA hm hc hB hl => bget_any hA hm hc hB hl
  meets := fun h h' => meets_any (h.at_.more h.below) (h'.at_.more h'.below) h.len h'.len (Nat.le_refl _) (Nat.le_trans h.small (by decide)) (Nat.le_trans h'.small (by decide))
  find := fun k h => find_any k h.at_ h.len h.below (Nat.le_trans h.small (by decide))
  same := fun h h' => same_any (h.at_.more h.below) (h'.at_.more h'.below) h.len h'.len (Nat.le_refl _) (Nat.le_trans h.small (by decide)) (Nat.le_trans h'.small (by decide))

end Go.Proofs.Ytcdjbacljnofiaa
