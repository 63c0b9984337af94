/- The walk of ClockNil. -/
import Derived.Test.YtnlfnglhkpmdnaaClock
namespace Go.Proofs.Ytnlfnglhkpmdnaa
open Go.RowKit Go.OpenShut
set_option linter.unusedVariables false
theorem walk_ClockNil (a0 : Int) (w : World) (w0 : (Lit.int .u8 a0).wf = true) :
    Calls Try.prog 8 #[.int .u8 a0] w fun e w' => e = .returned (.bool true) ∧ Below w.heap.size w w' := by
  obtain ⟨b0, b1⟩ : 0 ≤ a0 ∧ a0 ≤ 255 := bounds_u8 w0
  clear w0
  have he : ∀ (b : Nat) (w : World), ClockAt w b 1 1 → Calls Try.prog 12 #[.pointer (some ⟨b, 0, none⟩)] w fun e w' => e = .returned (.int .i64 1) ∧ ∃ m, w' = w.drewN m := fun b w h =>
    epoch_any b 1 1 w (by decide) h
  have HE := Lib.hid he
  clear he
  have ht : ∀ (b : Nat) (w : World), ClockAt w b 0 1 → Calls Try.prog 13 #[.pointer (some ⟨b, 0, none⟩)] w fun e w' => e = .returned (.bool true) ∧ ClockAt w' b 1 1 ∧ w.grownBy w' (some b) := fun b w h =>
    tick_at b 0 1 w (by decide) (by decide) (by decide) h
  have HT := Lib.hid ht
  clear ht
  go_enter Try.func8, Try.ntmps8
  go_wp2_with fail
  refine (new_some (a0 + 1) _ (by omega)).mono ?_
  rintro e w1 ⟨rfl, hw1⟩
  have C1 : Hid (ClockAt w1 w.heap.size 0 (a0 + 1)) := by rw [← hw1]; exact Lib.hid (clock_new w _)
  have B1 : Below w.heap.size w w1 := by rw [← hw1]; exact (Below.refl _ _).alloc (Nat.le_refl _) _
  have S1 : w.heap.size < w1.heap.size := Blk.lt C1.out
  clear hw1
  go_wp2_with fail
  refine (new_some 1 _ (by decide)).mono ?_
  rintro e w2 ⟨rfl, hw2⟩
  have D2 : Hid (ClockAt w2 w1.heap.size 0 1) := by rw [← hw2]; exact Lib.hid (clock_new w1 1)
  have C2 : Hid (ClockAt w2 w.heap.size 0 (a0 + 1)) := by rw [← hw2]; exact Lib.hid (Blk.alloc C1.out _)
  have B2 : Below w.heap.size w w2 := by rw [← hw2]; exact B1.alloc B1.size _
  clear hw2 C1
  go_wp2_with fail
  refine (HT.out _ _ D2.out).mono ?_
  rintro e w3 ⟨rfl, c3, g3⟩
  have D3 := Lib.hid c3
  have C3 : Hid (ClockAt w3 w.heap.size 0 (a0 + 1)) := Lib.hid (Blk.grown C2.out g3 (by intro h; injection h with h; omega))
  have B3 := below_only B2 g3 B2.size (by omega)
  clear c3 g3 D2 C2
  go_wp2_with fail
  refine (alive_any _).mono ?_
  rintro e w4 ⟨rfl, hb4⟩
  have D4 : Hid (ClockAt w4 w1.heap.size 1 1) := Lib.hid (Blk.below D3.out hb4 (Blk.lt D3.out))
  have C4 : Hid (ClockAt w4 w.heap.size 0 (a0 + 1)) := Lib.hid (Blk.below C3.out hb4 (Blk.lt C3.out))
  have B4 := B3.trans (hb4.mono B3.size)
  clear D3 C3 hb4
  go_wp2_with fail
  refine (tick_nil _).mono ?_
  rintro e w' ⟨rfl, rfl⟩
  go_wp2_with fail
  refine (block_nil _).mono ?_
  rintro e w' ⟨rfl, rfl⟩
  go_wp2_with fail
  refine (epoch_nil _).mono ?_
  rintro e w' ⟨rfl, rfl⟩
  go_wp2_with fail
  refine (block_any _ _ _ _ C4.out).mono ?_
  rintro e w' ⟨rfl, rfl⟩
  go_wp2_with fail
  refine (block_any _ _ _ _ D4.out).mono ?_
  rintro e w' ⟨rfl, rfl⟩
  go_wp2_with fail
  refine (HE.out _ _ D4.out).mono ?_
  rintro e w' ⟨rfl, m, rfl⟩
  go_wp2_with fail
  go_ret
  exact ⟨rfl, below_drewN B4 _⟩
end Go.Proofs.Ytnlfnglhkpmdnaa
