/- The reference's condition of a field: fields 3, 7, 11, 15, 19. -/
import Derived.Test.YtjleklhajmhekaaHolds
namespace Go.Proofs.Ytjleklhajmhekaa
open Go.RowKit
set_option linter.unusedVariables false

set_option maxRecDepth 100000 in
theorem right2 (c : Nat → Int) (w : World) :
    Calls Try.prog 23 #[.agg (cellsOf c), .int .i64 3] w fun e w' => e = .returned (.bool (rightB c 2)) ∧ Below w.heap.size w w' := by
  unfold cellsOf
  go_enter Try.func23, Try.ntmps23
  go_wp2_with (first | (go_at_call 43; refine (between_any _ _ _ _).mono ?_; rintro e w' ⟨rfl, rfl⟩))
  go_ret
  exact ⟨rfl, (Below.refl _ _).alloc (Nat.le_refl _) _⟩

set_option maxRecDepth 100000 in
theorem right6 (c : Nat → Int) (w : World) :
    Calls Try.prog 23 #[.agg (cellsOf c), .int .i64 7] w fun e w' => e = .returned (.bool (rightB c 6)) ∧ Below w.heap.size w w' := by
  by_cases h1 : c 3 ≤ c 6
  · have hd : decide (c 3 ≤ c 6) = true := by simpa using h1
    have H := Lib.hid (show rightB c 6 = decide (c 6 ≤ c 4) by simp [rightB, btw, h1])
    unfold cellsOf
    go_enter Try.func23, Try.ntmps23
    go_wp2_with (first | (go_at_call 43; refine (between_any _ _ _ _).mono ?_; rintro e w' ⟨rfl, rfl⟩))
    go_ret
    exact ⟨ret_bool H.out.symm, (Below.refl _ _).alloc (Nat.le_refl _) _⟩
  · have hd : decide (c 3 ≤ c 6) = false := by simpa using h1
    have H := Lib.hid (show rightB c 6 = false by simp [rightB, btw, h1])
    unfold cellsOf
    go_enter Try.func23, Try.ntmps23
    go_wp2_with (first | (go_at_call 43; refine (between_any _ _ _ _).mono ?_; rintro e w' ⟨rfl, rfl⟩))
    go_ret
    exact ⟨ret_bool H.out.symm, (Below.refl _ _).alloc (Nat.le_refl _) _⟩

set_option maxRecDepth 100000 in
theorem right10 (c : Nat → Int) (w : World) :
    Calls Try.prog 23 #[.agg (cellsOf c), .int .i64 11] w fun e w' => e = .returned (.bool (rightB c 10)) ∧ Below w.heap.size w w' := by
  unfold cellsOf
  go_enter Try.func23, Try.ntmps23
  go_wp2_with (first | (go_at_call 43; refine (between_any _ _ _ _).mono ?_; rintro e w' ⟨rfl, rfl⟩))
  go_ret
  exact ⟨rfl, (Below.refl _ _).alloc (Nat.le_refl _) _⟩

set_option maxRecDepth 100000 in
theorem right14 (c : Nat → Int) (w : World) :
    Calls Try.prog 23 #[.agg (cellsOf c), .int .i64 15] w fun e w' => e = .returned (.bool (rightB c 14)) ∧ Below w.heap.size w w' := by
  unfold cellsOf
  go_enter Try.func23, Try.ntmps23
  go_wp2_with (first | (go_at_call 43; refine (between_any _ _ _ _).mono ?_; rintro e w' ⟨rfl, rfl⟩))
  go_ret
  exact ⟨rfl, (Below.refl _ _).alloc (Nat.le_refl _) _⟩

set_option maxRecDepth 100000 in
theorem right18 (c : Nat → Int) (w : World) :
    Calls Try.prog 23 #[.agg (cellsOf c), .int .i64 19] w fun e w' => e = .returned (.bool (rightB c 18)) ∧ Below w.heap.size w w' := by
  unfold cellsOf
  go_enter Try.func23, Try.ntmps23
  go_wp2_with (first | (go_at_call 43; refine (between_any _ _ _ _).mono ?_; rintro e w' ⟨rfl, rfl⟩))
  go_ret
  exact ⟨rfl, (Below.refl _ _).alloc (Nat.le_refl _) _⟩

end Go.Proofs.Ytjleklhajmhekaa
