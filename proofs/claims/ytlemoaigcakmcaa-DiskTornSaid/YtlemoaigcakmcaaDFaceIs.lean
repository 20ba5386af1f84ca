/-
  The landed disk is as its face says.
-/
import Derived.Test.YtlemoaigcakmcaaDCopy
import Derived.Test.YtlemoaigcakmcaaDCrash
namespace Go.Proofs.Ytlemoaigcakmcaa
open Go Go.RowKit

theorem face : Face DA6 := by
  refine ⟨?_, ?_, ?_, ?_, ?_, ?_, ?_, ?_, ?_, ?_, ?_, ?_, ?_⟩
  · rintro w d M R s ⟨g, c, A, n, cap, ch, nc, fs, h⟩
    exact h.lt
  · rintro w w' d M R s ⟨g, c, A, n, cap, ch, nc, fs, h⟩ hs hk
    exact ⟨g, c, A, n, cap, ch, nc, fs, h.keep hs hk⟩
  · intro n w h1 h2
    exact new_yes h1 h2
  · intro n w h
    exact new_no h
  · rintro w d M R s i A n c B b ⟨g, c', A', n', cap, ch, nc, fs, h⟩ hA hn hB _ hl hp
    exact write_is h hA hn hB hl hp
  · rintro w d M R s i ⟨g, c, A, n, cap, ch, nc, fs, h⟩
    exact read_is h i
  · rintro w d M R s i ⟨g, c, A, n, cap, ch, nc, fs, h⟩ hp
    exact free_is h hp
  · rintro w d M R s ⟨g, c, A, n, cap, ch, nc, fs, h⟩
    exact sync_is h
  · rintro w d M R s A n c B l ⟨g, c', A', n', cap, ch, nc, fs, h⟩ hA hn hB _ hl
    exact crash_is h hA hn hB hl
  · rintro w d M R s ⟨g, c, A, n, cap, ch, nc, fs, h⟩
    exact used_is h
  · rintro w d M R s n ⟨g, c, A, n', cap, ch, nc, fs, h⟩
    refine (limit_is h n).mono fun e w' ⟨he, hd, ho⟩ => ⟨he, M, R, ⟨g, c, A, n', cap, ch, nc, fs, hd⟩, (Within.of_only ho (.inl h.md)).turns (fun k hk => .inl hk) (fun k hk => .inl hk)⟩
  · rintro w d M R s ⟨g, c, A, n, cap, ch, nc, fs, h⟩
    exact pending_is h
  · rintro w d M R s ⟨g, c, A, n, cap, ch, nc, fs, h⟩ hp
    exact copy_is h hp

end Go.Proofs.Ytlemoaigcakmcaa
