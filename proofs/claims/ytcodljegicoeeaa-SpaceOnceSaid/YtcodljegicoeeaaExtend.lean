/-
  extend: by its contracts.
-/
import Derived.Test.YtcodljegicoeeaaWords
namespace Go.Proofs.Ytcodljegicoeeaa
open Go Go.RowKit

set_option maxHeartbeats 400000 in
theorem extend_any (A : Option Addr) (c k B : Nat) (l : List UInt8) (w : World) (hA : At w B A l) (hB : B ≤ w.heap.size) (hl : l.length ≤ 70368744177664) (hk : k ≤ 4096) :
    Calls Try.prog 47 #[.slice A l.length c, .int .i64 k] w fun e w' =>
      e = .returned (.slice (some ⟨w.heap.size, 0, none⟩) l.length (l.length + k)) ∧
        w'.ownsRow w.heap.size 5 1 (.slice (some ⟨w.heap.size, 0, none⟩) l.length (l.length + k)) l.length (bs l) ∧ Below w.heap.size w w' := by
  obtain ⟨i0, hi, hz0, hz1, hz2⟩ := info_parts info_byte
  go_enter Try.func47, Try.ntmps47
  go_wp2_with (first
    | (at_make; go_must (refine wpList_make_two _ rfl _ _ 40 rfl 5 i0 (.int .u8 0) Try.underlying40 hi hz0 hz1 .i64 .i64 _ _ l.length (l.length + k) rfl rfl (by omega) (by omega) rfl (by omega) (by rw [hz2]; omega) (by omega) ?_))
    | (with_reducible refine wpList_copy_splice rfl (.tmp 13) (.tmp 14) 40 40 rfl 5 Try.underlying40 size_byte _ A _ _ _ c rfl rfl w.heap.size 0 (List.replicate (l.length + k) (.int .u8 0)) 5 (heap_alloc_new w _) (bs l) ?n ?pos ?fit (bs_one l) w.heap.size w ?below (Nat.le_refl _) ?_))
  case n => simp [bs_length]
  case fit => simp [bs_length]
  case below => exact (Below.refl _ _).alloc (Nat.le_refl _) _
  case pos =>
    intro h
    rw [bs_length] at h
    obtain ⟨b, off, rfl, hb, hc⟩ := hA h
    refine ⟨_, rfl, fun j u hu => ?_⟩
    obtain ⟨x, hx, rfl⟩ := bs_at hu
    have e1 : (⟨b, off, none⟩ : Addr).add j = ⟨b, off + j, none⟩ := by unfold Addr.add; split <;> simp_all
    rw [e1, World.cell?_alloc_lt w _ _ (by show b < w.heap.size; omega)]
    exact hc j x hx
  · intro w' hg hb
    go_wp2
    go_ret
    refine ⟨rfl, ⟨by simp [bs_length], .inr ⟨w.heap.size, _, _, rfl, Nat.le_refl _, hg.out, by omega, by unfold maxLen; omega, ?_, ?_⟩⟩, hb⟩
    · simp [splice, bs_length]
    · simp [splice, bs_length]
theorem extend_len (A : Option Addr) (m c k B : Nat) (K : Int) (l : List UInt8) (w : World) (hm : m = l.length) (hK : K = (k : Int)) (hA : At w B A l) (hB : B ≤ w.heap.size) (hl : l.length ≤ 70368744177664) (hk : k ≤ 4096) :
    Calls Try.prog 47 #[.slice A m c, .int .i64 K] w fun e w' =>
      ∃ A' m' c', e = .returned (.slice A' m' c') ∧ Row w' w.heap.size 5 A' m' c' l ∧ Below w.heap.size w w' := by
  subst hm hK
  exact (extend_any A c k B l w hA hB hl hk).mono fun e w' ⟨he, h1, h2⟩ => ⟨_, _, _, he, ⟨rfl, h1⟩, h2⟩

end Go.Proofs.Ytcodljegicoeeaa
