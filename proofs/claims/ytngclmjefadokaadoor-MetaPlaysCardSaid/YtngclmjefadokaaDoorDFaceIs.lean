/-
  The landed disk is as its face says.
-/
import Derived.Test.YtngclmjefadokaaDoorJCrash
import Derived.Test.YtngclmjefadokaaDoorJLay
namespace Go.Proofs.YtngclmjefadokaaDoor
open Go Go.RowKit

theorem face : Face DA6 where
  lt := by rintro w d M R s ⟨g, c, A, n, cap, ch, nc, fs, h⟩; exact h.lt
  keep := by rintro w w' d M R s ⟨g, c, A, n, cap, ch, nc, fs, h⟩ hs hk; exact ⟨g, c, A, n, cap, ch, nc, fs, h.keep hs hk⟩
  newYes := by intro n w h1 h2; exact new_yes h1 h2
  newNo := by intro n w h; exact new_no h
  write := by rintro w d M R s i A n c B b ⟨g, c', A', n', cap, ch, nc, fs, h⟩ hA hn hB _ hl hp; exact write_is h hA hn hB hl hp
  read := by rintro w d M R s i ⟨g, c, A, n, cap, ch, nc, fs, h⟩; exact read_is h i -- if 35
  free := by rintro w d M R s i ⟨g, c, A, n, cap, ch, nc, fs, h⟩ hp; exact free_is h hp -- if 47
  sync := by rintro w d M R s ⟨g, c, A, n, cap, ch, nc, fs, h⟩; exact sync_is h -- if 49
  crash := by rintro w d M R s A n c B l ⟨g, c', A', n', cap, ch, nc, fs, h⟩ hA hn hB _ hl; exact crash_is h hA hn hB hl -- if 15
  used := by rintro w d M R s ⟨g, c, A, n, cap, ch, nc, fs, h⟩; exact used_is h -- if 18
  limit := by rintro w d M R s n ⟨g, c, A, n', cap, ch, nc, fs, h⟩; exact (limit_is h n).mono fun e w' ⟨he, hd, ho⟩ => ⟨he, M, R, ⟨g, c, A, n', cap, ch, nc, fs, hd⟩, (Within.of_only ho (.inl h.md)).turns (fun k hk => .inl hk) (fun k hk => .inl hk)⟩ -- if 12
  pending := by rintro w d M R s ⟨g, c, A, n, cap, ch, nc, fs, h⟩; exact pending_is h -- if 19
  copy := by rintro w d M R s ⟨g, c, A, n, cap, ch, nc, fs, h⟩ hp; exact copy_is h hp -- if 21

end Go.Proofs.YtngclmjefadokaaDoor
