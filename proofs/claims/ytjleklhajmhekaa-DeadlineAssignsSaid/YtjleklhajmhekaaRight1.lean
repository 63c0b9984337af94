/- The reference's condition of a field: fields 2, 6, 10, 14, 18. -/
import Derived.Test.YtjleklhajmhekaaHolds
namespace Go.Proofs.Ytjleklhajmhekaa
open Go.RowKit
set_option linter.unusedVariables false

set_option maxRecDepth 100000 in
theorem right1 (c : Nat → Int) (w : World) :
    Calls Try.prog 23 #[.agg (cellsOf c), .int .i64 2] w fun e w' => e = .returned (.bool (rightB c 1)) ∧ Below w.heap.size w w' := by
  unfold cellsOf
  go_enter Try.func23, Try.ntmps23
  go_wp2_with (first | (go_at_call 43; refine (between_any _ _ _ _).mono ?_; rintro e w' ⟨rfl, rfl⟩))
  go_ret
  exact ⟨rfl, (Below.refl _ _).alloc (Nat.le_refl _) _⟩

set_option maxRecDepth 100000 in
theorem right5 (c : Nat → Int) (w : World) :
    Calls Try.prog 23 #[.agg (cellsOf c), .int .i64 6] w fun e w' => e = .returned (.bool (rightB c 5)) ∧ Below w.heap.size w w' := by
  by_cases h1 : 1 ≤ c 5
  · have hd : decide (1 ≤ c 5) = true := by simpa using h1
    have H := Lib.hid (show rightB c 5 = decide (c 5 ≤ c 2) by simp [rightB, btw, h1])
    unfold cellsOf
    go_enter Try.func23, Try.ntmps23
    go_wp2_with (first | (go_at_call 43; refine (between_any _ _ _ _).mono ?_; rintro e w' ⟨rfl, rfl⟩))
    go_ret
    exact ⟨ret_bool H.out.symm, (Below.refl _ _).alloc (Nat.le_refl _) _⟩
  · have hd : decide (1 ≤ c 5) = false := by simpa using h1
    have H := Lib.hid (show rightB c 5 = false by simp [rightB, btw, h1])
    unfold cellsOf
    go_enter Try.func23, Try.ntmps23
    go_wp2_with (first | (go_at_call 43; refine (between_any _ _ _ _).mono ?_; rintro e w' ⟨rfl, rfl⟩))
    go_ret
    exact ⟨ret_bool H.out.symm, (Below.refl _ _).alloc (Nat.le_refl _) _⟩

set_option maxRecDepth 100000 in
theorem right9 (c : Nat → Int) (w : World) :
    Calls Try.prog 23 #[.agg (cellsOf c), .int .i64 10] w fun e w' => e = .returned (.bool (rightB c 9)) ∧ Below w.heap.size w w' := by
  unfold cellsOf
  go_enter Try.func23, Try.ntmps23
  go_wp2_with (first | (go_at_call 43; refine (between_any _ _ _ _).mono ?_; rintro e w' ⟨rfl, rfl⟩))
  go_ret
  exact ⟨rfl, (Below.refl _ _).alloc (Nat.le_refl _) _⟩

set_option maxRecDepth 100000 in
theorem right13 (c : Nat → Int) (w : World) :
    Calls Try.prog 23 #[.agg (cellsOf c), .int .i64 14] w fun e w' => e = .returned (.bool (rightB c 13)) ∧ Below w.heap.size w w' := by
  unfold cellsOf
  go_enter Try.func23, Try.ntmps23
  go_wp2_with (first | (go_at_call 43; refine (between_any _ _ _ _).mono ?_; rintro e w' ⟨rfl, rfl⟩))
  go_ret
  exact ⟨rfl, (Below.refl _ _).alloc (Nat.le_refl _) _⟩

set_option maxRecDepth 100000 in
theorem right17 (c : Nat → Int) (w : World) :
    Calls Try.prog 23 #[.agg (cellsOf c), .int .i64 18] w fun e w' => e = .returned (.bool (rightB c 17)) ∧ Below w.heap.size w w' := by
  unfold cellsOf
  go_enter Try.func23, Try.ntmps23
  go_wp2_with (first | (go_at_call 43; refine (between_any _ _ _ _).mono ?_; rintro e w' ⟨rfl, rfl⟩))
  go_ret
  exact ⟨rfl, (Below.refl _ _).alloc (Nat.le_refl _) _⟩

end Go.Proofs.Ytjleklhajmhekaa
