/- The clock's methods, on a clock in block n with epochs of L blocks and on the nil clock; the examples of the chapter hold. -/
import Derived.Test.YtnlfnglhkpmdnaaBase
namespace Go.Proofs.Ytnlfnglhkpmdnaa
open Go.RowKit
set_option linter.unusedVariables false

theorem new_none (L : Int) (w : World) (h : L < 1) :
    Calls Try.prog 9 #[.int .i64 L] w fun e w' => e = .returned (.pointer none) ∧ w = w' := by
  go_enter Try.func9, Try.ntmps9
  go_wp2
  go_ret
  exact ⟨rfl, rfl⟩
theorem new_some (L : Int) (w : World) (h : 1 ≤ L) :
    Calls Try.prog 9 #[.int .i64 L] w fun e w' => e = .returned (.pointer (some ⟨w.heap.size, 0, none⟩)) ∧ w.alloc (.cells #[.int .i64 0, .int .i64 L] 44) = w' := by
  go_enter Try.func9, Try.ntmps9
  go_wp2
  go_ret
  exact ⟨rfl, rfl⟩

theorem block_nil (w : World) : Calls Try.prog 11 #[.pointer none] w fun e w' => e = .returned (.int .i64 0) ∧ w = w' := by
  go_enter Try.func11, Try.ntmps11
  go_wp2
  go_ret
  exact ⟨rfl, rfl⟩
theorem epoch_nil (w : World) : Calls Try.prog 12 #[.pointer none] w fun e w' => e = .returned (.int .i64 0) ∧ w = w' := by
  go_enter Try.func12, Try.ntmps12
  go_wp2
  go_ret
  exact ⟨rfl, rfl⟩
theorem tick_nil (w : World) : Calls Try.prog 13 #[.pointer none] w fun e w' => e = .returned (.bool false) ∧ w = w' := by
  go_enter Try.func13, Try.ntmps13
  go_wp2
  go_ret
  exact ⟨rfl, rfl⟩

theorem block_any (b : Nat) (n L : Int) (w : World) (h : ClockAt w b n L) :
    Calls Try.prog 11 #[.pointer (some ⟨b, 0, none⟩)] w fun e w' => e = .returned (.int .i64 n) ∧ w = w' := by
  obtain ⟨c0, c1, cf⟩ := clock_cells h
  clear h
  go_enter Try.func11, Try.ntmps11
  go_wp2_with (go_at_call 22; refine (current_any _ _ _ c0).mono ?_; rintro e w' ⟨rfl, rfl⟩)
  go_ret
  exact ⟨rfl, rfl⟩

theorem epoch_any (b : Nat) (n L : Int) (w : World) (hn : n ≤ 9223372036854775807) (h : ClockAt w b n L) :
    Calls Try.prog 12 #[.pointer (some ⟨b, 0, none⟩)] w fun e w' => e = .returned (.int .i64 (epochOf n L)) ∧ ∃ m, w' = w.drewN m := by
  obtain ⟨c0, c1, cf⟩ := clock_cells h
  clear h
  go_enter Try.func12, Try.ntmps12
  go_wp2
  go_quiet (first | (go_at_call 22; exact quiet_left (current_any _ _ _ (by simpa using c0))) | (go_at_call 17; exact quiet_left (epochOf_any _ _ _ hn)))
  go_wp2
  go_ret
  exact ⟨rfl, _, rfl⟩

theorem tick_any (b : Nat) (n L : Int) (w : World) (h0 : 0 ≤ n) (hn : n ≤ 9223372036854775806) (hL : 1 ≤ L) (h : ClockAt w b n L) :
    Calls Try.prog 13 #[.pointer (some ⟨b, 0, none⟩)] w fun e w' => e = .returned (.bool ((n + 1) % L == 0)) ∧ ∃ m, w' = (w.setCell ⟨b, 0, none⟩ (.int .i64 (n + 1))).drewN m := by
  obtain ⟨c0, c1, cf⟩ := clock_cells h
  have hz : (L == 0) = false := by simp; omega
  have d0 : (w.setCell ⟨b, 0, none⟩ (.int .i64 (n + 1))).cell? ⟨b, 0, none⟩ = some (.int .i64 (n + 1)) := Blk.cell (Blk.set_ h 0 _) 0
  clear h
  go_enter Try.func13, Try.ntmps13
  go_wp2_with (go_at_call 23; refine (advance_any _ _ _ h0 hn c0 cf).mono ?_; rintro e w' ⟨rfl, rfl⟩)
  go_quiet ((go_at_call 22; exact quiet_left (current_any _ _ _ (by simpa using d0))))
  go_wp2
  go_ret
  exact ⟨rfl, _, rfl⟩

theorem clock_new (w : World) (L : Int) : ClockAt (w.alloc (.cells #[.int .i64 0, .int .i64 L] 44)) w.heap.size 0 L := Blk.new _ _ _
/-- A tick, told by what holds behind it. -/
theorem tick_at (b : Nat) (n L : Int) (w : World) (h0 : 0 ≤ n) (hn : n ≤ 9223372036854775806) (hL : 1 ≤ L) (h : ClockAt w b n L) :
    Calls Try.prog 13 #[.pointer (some ⟨b, 0, none⟩)] w fun e w' => e = .returned (.bool ((n + 1) % L == 0)) ∧ ClockAt w' b (n + 1) L ∧ w.grownBy w' (some b) :=
  (tick_any b n L w h0 hn hL h).mono fun e w' ⟨he, m, hm⟩ => ⟨he, by subst hm; exact Blk.set_ h 0 _, by subst hm; exact only_drewN (only_setCell (only_refl _ _) (.inl rfl) _) m⟩

theorem alive_any (w : World) : Calls Try.prog 10 #[] w fun e w' => e = .returned (.bool true) ∧ Below w.heap.size w w' := by
  have ht1 : ∀ (b : Nat) (w : World), ClockAt w b 0 2 → Calls Try.prog 13 #[.pointer (some ⟨b, 0, none⟩)] w fun e w' => e = .returned (.bool false) ∧ ClockAt w' b 1 2 ∧ w.grownBy w' (some b) := fun b w h =>
    tick_at b 0 2 w (by decide) (by decide) (by decide) h
  have ht2 : ∀ (b : Nat) (w : World), ClockAt w b 1 2 → Calls Try.prog 13 #[.pointer (some ⟨b, 0, none⟩)] w fun e w' => e = .returned (.bool true) ∧ ClockAt w' b 2 2 ∧ w.grownBy w' (some b) := fun b w h =>
    tick_at b 1 2 w (by decide) (by decide) (by decide) h
  have he : ∀ (b : Nat) (w : World), ClockAt w b 2 2 → Calls Try.prog 12 #[.pointer (some ⟨b, 0, none⟩)] w fun e w' => e = .returned (.int .i64 1) ∧ ∃ m, w' = w.drewN m := fun b w h =>
    epoch_any b 2 2 w (by decide) h
  have hf : ∀ (w : World), Calls Try.prog 15 #[.int .i64 2, .int .i64 4] w fun e w' => e = .returned (.tuple #[.int .i64 8, .bool true]) ∧ w = w' := fun w =>
    first_yes 2 4 w (by decide) (by decide) (by decide) (by decide)
  have hq : ∀ (w : World), Calls Try.prog 17 #[.int .i64 9, .int .i64 4] w fun e w' => e = .returned (.int .i64 2) ∧ w = w' := fun w =>
    epochOf_any 9 4 w (by decide)
  have H1 := Lib.hid ht1
  have H2 := Lib.hid ht2
  have HE := Lib.hid he
  have HF := Lib.hid hf
  have HQ := Lib.hid hq
  clear ht1 ht2 he hf hq
  go_enter Try.func10, Try.ntmps10
  go_wp2_with fail
  refine (new_some 2 _ (by decide)).mono ?_
  rintro e w1 ⟨rfl, hw1⟩
  have C1 : Hid (ClockAt w1 w.heap.size 0 2) := by rw [← hw1]; exact Lib.hid (clock_new w 2)
  have B1 : Below w.heap.size w w1 := by rw [← hw1]; exact (Below.refl _ _).alloc (Nat.le_refl _) _
  clear hw1
  go_wp2_with fail
  refine (H1.out _ _ C1.out).mono ?_
  rintro e w2 ⟨rfl, c2, g2⟩
  have C2 := Lib.hid c2
  have B2 := below_only B1 g2 B1.size (Nat.le_refl _)
  clear c2 g2
  go_wp2_with fail
  refine (H2.out _ _ C2.out).mono ?_
  rintro e w3 ⟨rfl, c3, g3⟩
  have C3 := Lib.hid c3
  have B3 := below_only B2 g3 B2.size (Nat.le_refl _)
  clear c3 g3
  go_wp2_with fail
  refine (HF.out _).mono ?_
  rintro e w' ⟨rfl, rfl⟩
  go_wp2_with fail
  refine (HQ.out _).mono ?_
  rintro e w' ⟨rfl, rfl⟩
  go_wp2_with fail
  refine (HE.out _ _ C3.out).mono ?_
  rintro e w' ⟨rfl, m, rfl⟩
  go_wp2_with fail
  refine (block_any _ 2 2 _ (Blk.drewN C3.out m)).mono ?_
  rintro e w' ⟨rfl, rfl⟩
  go_wp2_with fail
  go_ret
  exact ⟨rfl, below_drewN B3 _⟩
end Go.Proofs.Ytnlfnglhkpmdnaa
