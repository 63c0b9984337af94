/- Rings of int: Clear. -/
import Derived.Test.YteldkihbgfgkoaaOpsInt
namespace Go.Proofs.Yteldkihbgfgkoaa
open Go.RowKit
set_option linter.unusedVariables false

theorem ri_clear_nil (w : World) : Calls Try.prog 27 #[.pointer none] w fun e w' => e = .returned (.tuple #[]) ∧ w = w' := by
  go_enter Try.func27, Try.ntmps27
  go_wp2
  refine bodyPost_ret (results_none rfl _ _ _) rfl ?_
  exact ⟨rfl, rfl⟩
theorem ri_clear_blk (b : Nat) (s : Nat) (x y z : Value) (w : World) (h : Blk w b 61 #[.int .i64 s, x, y, z]) :
    Calls Try.prog 27 #[.pointer (some ⟨b, 0, none⟩)] w fun e w' => e = .returned (.tuple #[]) ∧ Blk w' b 61 #[.int .i64 s, .slice none 0 0, .int .i64 0, .int .i64 0] ∧ Kept (fun i => i = b) w w' := by
  have c1 := h.cell 1
  have c2 := h.cell 2
  have c3 := h.cell 3
  have f1 := h.frozen 1
  have f2 := h.frozen 2
  have f3 := h.frozen 3
  have H := Lib.hid h
  clear h
  go_enter Try.func27, Try.ntmps27
  go_wp2
  go_end0
  exact ⟨rfl, ((H.out.set_ 1 _).set_ 2 _).set_ 3 _, Kept.setCell (S := fun i => i = b) (Kept.setCell (S := fun i => i = b) (Kept.setCell (S := fun i => i = b) (Kept.refl _ _) (.inl rfl) _) (.inl rfl) _) (.inl rfl) _⟩
theorem ri_clear_any (b : Nat) (g : Option Nat) (s c : Nat) (F : List Value) (w : World) (h : RingAt 61 3 1 w b g s c F) :
    Calls Try.prog 27 #[.pointer (some ⟨b, 0, none⟩)] w fun e w' => e = .returned (.tuple #[]) ∧ RingAt 61 3 1 w' b none s 0 [] ∧ Kept (Foot b g) w w' := by
  obtain ⟨_, h1, h2⟩ := h.size_le
  obtain ⟨x, y, z, hb⟩ : ∃ x y z, Blk w b 61 #[.int .i64 s, x, y, z] := by
    obtain ⟨_, _, ⟨rfl, _, h1, _⟩ | ⟨g', n, f, C, rfl, ⟨h1, _⟩, _⟩⟩ := h
    · exact ⟨_, _, _, h1⟩
    · exact ⟨_, _, _, h1⟩
  exact (ri_clear_blk b s x y z w hb).mono fun e w' ⟨he, hb', hk⟩ => ⟨he, ⟨by simp, by simp, .inl ⟨rfl, rfl, hb', h1, h2⟩⟩, hk.more fun i _ hi => .inl hi⟩
end Go.Proofs.Yteldkihbgfgkoaa
