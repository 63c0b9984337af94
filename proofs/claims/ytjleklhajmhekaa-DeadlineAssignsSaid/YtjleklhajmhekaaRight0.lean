/- The reference's condition of a field: fields 1, 5, 9, 13, 17. -/
import Derived.Test.YtjleklhajmhekaaHolds
namespace Go.Proofs.Ytjleklhajmhekaa
open Go.RowKit
set_option linter.unusedVariables false

set_option maxRecDepth 100000 in
theorem right0 (c : Nat → Int) (w : World) :
    Calls Try.prog 23 #[.agg (cellsOf c), .int .i64 1] w fun e w' => e = .returned (.bool (rightB c 0)) ∧ Below w.heap.size w w' := by
  unfold cellsOf
  go_enter Try.func23, Try.ntmps23
  go_wp2_with (first | (go_at_call 43; refine (between_any _ _ _ _).mono ?_; rintro e w' ⟨rfl, rfl⟩))
  go_ret
  exact ⟨rfl, (Below.refl _ _).alloc (Nat.le_refl _) _⟩

set_option maxRecDepth 100000 in
theorem right4 (c : Nat → Int) (w : World) :
    Calls Try.prog 23 #[.agg (cellsOf c), .int .i64 5] w fun e w' => e = .returned (.bool (rightB c 4)) ∧ Below w.heap.size w w' := by
  by_cases h1 : c 3 ≤ c 4
  · have hd : decide (c 3 ≤ c 4) = true := by simpa using h1
    have H := Lib.hid (show rightB c 4 = decide (c 4 ≤ 1152921504606846976) by simp [rightB, btw, most, h1])
    unfold cellsOf
    go_enter Try.func23, Try.ntmps23
    go_wp2_with (first | (go_at_call 43; refine (between_any _ _ _ _).mono ?_; rintro e w' ⟨rfl, rfl⟩))
    go_ret
    exact ⟨ret_bool H.out.symm, (Below.refl _ _).alloc (Nat.le_refl _) _⟩
  · have hd : decide (c 3 ≤ c 4) = false := by simpa using h1
    have H := Lib.hid (show rightB c 4 = false by simp [rightB, btw, h1])
    unfold cellsOf
    go_enter Try.func23, Try.ntmps23
    go_wp2_with (first | (go_at_call 43; refine (between_any _ _ _ _).mono ?_; rintro e w' ⟨rfl, rfl⟩))
    go_ret
    exact ⟨ret_bool H.out.symm, (Below.refl _ _).alloc (Nat.le_refl _) _⟩

set_option maxRecDepth 100000 in
theorem right8 (c : Nat → Int) (w : World) :
    Calls Try.prog 23 #[.agg (cellsOf c), .int .i64 9] w fun e w' => e = .returned (.bool (rightB c 8)) ∧ Below w.heap.size w w' := by
  unfold cellsOf
  go_enter Try.func23, Try.ntmps23
  go_wp2_with (first | (go_at_call 43; refine (between_any _ _ _ _).mono ?_; rintro e w' ⟨rfl, rfl⟩))
  go_ret
  exact ⟨rfl, (Below.refl _ _).alloc (Nat.le_refl _) _⟩

set_option maxRecDepth 100000 in
theorem right12 (c : Nat → Int) (w : World) :
    Calls Try.prog 23 #[.agg (cellsOf c), .int .i64 13] w fun e w' => e = .returned (.bool (rightB c 12)) ∧ Below w.heap.size w w' := by
  unfold cellsOf
  go_enter Try.func23, Try.ntmps23
  go_wp2_with (first | (go_at_call 43; refine (between_any _ _ _ _).mono ?_; rintro e w' ⟨rfl, rfl⟩))
  go_ret
  exact ⟨rfl, (Below.refl _ _).alloc (Nat.le_refl _) _⟩

set_option maxRecDepth 100000 in
theorem right16 (c : Nat → Int) (w : World) :
    Calls Try.prog 23 #[.agg (cellsOf c), .int .i64 17] w fun e w' => e = .returned (.bool (rightB c 16)) ∧ Below w.heap.size w w' := by
  by_cases h1 : 0 ≤ c 16
  · have hd : decide (0 ≤ c 16) = true := by simpa using h1
    by_cases h2 : c 16 < c 14
    · have hd2 : decide (c 16 < c 14) = true := by simpa using h2
      have H := Lib.hid (show rightB c 16 = decide (c 16 < c 15) by simp [rightB, h1, h2])
      unfold cellsOf
      go_enter Try.func23, Try.ntmps23
      go_wp2_with (first | (go_at_call 43; refine (between_any _ _ _ _).mono ?_; rintro e w' ⟨rfl, rfl⟩))
      go_ret
      exact ⟨ret_bool H.out.symm, (Below.refl _ _).alloc (Nat.le_refl _) _⟩
    · have hd2 : decide (c 16 < c 14) = false := by simpa using h2
      have H := Lib.hid (show rightB c 16 = false by simp [rightB, h2])
      unfold cellsOf
      go_enter Try.func23, Try.ntmps23
      go_wp2_with (first | (go_at_call 43; refine (between_any _ _ _ _).mono ?_; rintro e w' ⟨rfl, rfl⟩))
      go_ret
      exact ⟨ret_bool H.out.symm, (Below.refl _ _).alloc (Nat.le_refl _) _⟩
  · have hd : decide (0 ≤ c 16) = false := by simpa using h1
    have H := Lib.hid (show rightB c 16 = false by simp [rightB, h1])
    unfold cellsOf
    go_enter Try.func23, Try.ntmps23
    go_wp2_with (first | (go_at_call 43; refine (between_any _ _ _ _).mono ?_; rintro e w' ⟨rfl, rfl⟩))
    go_ret
    exact ⟨ret_bool H.out.symm, (Below.refl _ _).alloc (Nat.le_refl _) _⟩

end Go.Proofs.Ytjleklhajmhekaa
