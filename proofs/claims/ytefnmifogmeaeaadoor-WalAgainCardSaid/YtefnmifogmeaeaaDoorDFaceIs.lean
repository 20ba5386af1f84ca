/-
  The landed disk is as its face says.
-/
import Derived.Test.YtefnmifogmeaeaaDoorJCrash
import Derived.Test.YtefnmifogmeaeaaDoorJLay


namespace Go.Proofs.YtefnmifogmeaeaaDoor
open Go Go.RowKit

theorem face : Face DA6 where
  lt := by rintro w d M R s ⟨g, c, A, n, cap, ch, nc, fs, h⟩; exact h.lt
  keep := by rintro w w' d M R s ⟨g, c, A, n, cap, ch, nc, fs, h⟩ hs hk; exact ⟨g, c, A, n, cap, ch, nc, fs, h.keep hs hk⟩
  newYes := by intro n w h1 h2; exact new_yes h1 h2
  newNo := by intro n w h; exact new_no h
  write := by rintro w d M R s i A n c B b ⟨g, c', A', n', cap, ch, nc, fs, h⟩ hA hn hB _ hl hp; exact write_is h hA hn hB hl hp
  read := by rintro w d M R s i ⟨g, c, A, n, cap, ch, nc, fs, h⟩; exact read_is h i -- if 65
  free := by rintro w d M R s i ⟨g, c, A, n, cap, ch, nc, fs, h⟩ hp; exact free_is h hp -- if 37
  sync := by rintro w d M R s ⟨g, c, A, n, cap, ch, nc, fs, h⟩; exact sync_is h -- if 28
  crash := by rintro w d M R s A n c B l ⟨g, c', A', n', cap, ch, nc, fs, h⟩ hA hn hB _ hl; exact crash_is h hA hn hB hl -- if 16
  used := by rintro w d M R s ⟨g, c, A, n, cap, ch, nc, fs, h⟩; exact used_is h -- if 14
  copy := by rintro w d M R s ⟨g, c, A, n, cap, ch, nc, fs, h⟩ hp; exact copy_is h hp -- if 9

end Go.Proofs.YtefnmifogmeaeaaDoor
