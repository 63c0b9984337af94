/- The reference's condition of a field: fields 4, 8, 12, 16, 20. -/
import Derived.Test.YtjleklhajmhekaaHolds
namespace Go.Proofs.Ytjleklhajmhekaa
open Go.RowKit
set_option linter.unusedVariables false

set_option maxRecDepth 100000 in
theorem right3 (c : Nat → Int) (w : World) :
    Calls Try.prog 23 #[.agg (cellsOf c), .int .i64 4] w fun e w' => e = .returned (.bool (rightB c 3)) ∧ Below w.heap.size w w' := by
  unfold cellsOf
  go_enter Try.func23, Try.ntmps23
  go_wp2_with (first | (go_at_call 43; refine (between_any _ _ _ _).mono ?_; rintro e w' ⟨rfl, rfl⟩))
  go_ret
  exact ⟨rfl, (Below.refl _ _).alloc (Nat.le_refl _) _⟩

set_option maxRecDepth 100000 in
theorem right7 (c : Nat → Int) (w : World) :
    Calls Try.prog 23 #[.agg (cellsOf c), .int .i64 8] w fun e w' => e = .returned (.bool (rightB c 7)) ∧ Below w.heap.size w w' := by
  by_cases h1 : 1 ≤ c 7
  · have hd : decide (1 ≤ c 7) = true := by simpa using h1
    have H := Lib.hid (show rightB c 7 = decide (c 7 ≤ 1152921504606846976) by simp [rightB, btw, most, h1])
    unfold cellsOf
    go_enter Try.func23, Try.ntmps23
    go_wp2_with (first | (go_at_call 43; refine (between_any _ _ _ _).mono ?_; rintro e w' ⟨rfl, rfl⟩))
    go_ret
    exact ⟨ret_bool H.out.symm, (Below.refl _ _).alloc (Nat.le_refl _) _⟩
  · have hd : decide (1 ≤ c 7) = false := by simpa using h1
    have H := Lib.hid (show rightB c 7 = false by simp [rightB, btw, h1])
    unfold cellsOf
    go_enter Try.func23, Try.ntmps23
    go_wp2_with (first | (go_at_call 43; refine (between_any _ _ _ _).mono ?_; rintro e w' ⟨rfl, rfl⟩))
    go_ret
    exact ⟨ret_bool H.out.symm, (Below.refl _ _).alloc (Nat.le_refl _) _⟩

set_option maxRecDepth 100000 in
theorem right11 (c : Nat → Int) (w : World) :
    Calls Try.prog 23 #[.agg (cellsOf c), .int .i64 12] w fun e w' => e = .returned (.bool (rightB c 11)) ∧ Below w.heap.size w w' := by
  by_cases h1 : c 10 < c 11
  · have hd : decide (c 10 < c 11) = true := by simpa using h1
    have H := Lib.hid (show rightB c 11 = decide (c 11 ≤ 1048576) by simp [rightB, h1])
    unfold cellsOf
    go_enter Try.func23, Try.ntmps23
    go_wp2_with (first | (go_at_call 43; refine (between_any _ _ _ _).mono ?_; rintro e w' ⟨rfl, rfl⟩))
    go_ret
    exact ⟨ret_bool H.out.symm, (Below.refl _ _).alloc (Nat.le_refl _) _⟩
  · have hd : decide (c 10 < c 11) = false := by simpa using h1
    have H := Lib.hid (show rightB c 11 = false by simp [rightB, h1])
    unfold cellsOf
    go_enter Try.func23, Try.ntmps23
    go_wp2_with (first | (go_at_call 43; refine (between_any _ _ _ _).mono ?_; rintro e w' ⟨rfl, rfl⟩))
    go_ret
    exact ⟨ret_bool H.out.symm, (Below.refl _ _).alloc (Nat.le_refl _) _⟩

set_option maxRecDepth 100000 in
theorem right15 (c : Nat → Int) (w : World) :
    Calls Try.prog 23 #[.agg (cellsOf c), .int .i64 16] w fun e w' => e = .returned (.bool (rightB c 15)) ∧ Below w.heap.size w w' := by
  unfold cellsOf
  go_enter Try.func23, Try.ntmps23
  go_wp2_with (first | (go_at_call 43; refine (between_any _ _ _ _).mono ?_; rintro e w' ⟨rfl, rfl⟩))
  go_ret
  exact ⟨rfl, (Below.refl _ _).alloc (Nat.le_refl _) _⟩

set_option maxRecDepth 100000 in
theorem right19 (c : Nat → Int) (w : World) :
    Calls Try.prog 23 #[.agg (cellsOf c), .int .i64 20] w fun e w' => e = .returned (.bool (rightB c 19)) ∧ Below w.heap.size w w' := by
  by_cases h1 : 1 ≤ c 19
  · have hd : decide (1 ≤ c 19) = true := by simpa using h1
    have H := Lib.hid (show rightB c 19 = decide (c 19 ≤ 4294967296) by simp [rightB, btw, h1])
    unfold cellsOf
    go_enter Try.func23, Try.ntmps23
    go_wp2_with (first | (go_at_call 43; refine (between_any _ _ _ _).mono ?_; rintro e w' ⟨rfl, rfl⟩))
    go_ret
    exact ⟨ret_bool H.out.symm, (Below.refl _ _).alloc (Nat.le_refl _) _⟩
  · have hd : decide (1 ≤ c 19) = false := by simpa using h1
    have H := Lib.hid (show rightB c 19 = false by simp [rightB, btw, h1])
    unfold cellsOf
    go_enter Try.func23, Try.ntmps23
    go_wp2_with (first | (go_at_call 43; refine (between_any _ _ _ _).mono ?_; rintro e w' ⟨rfl, rfl⟩))
    go_ret
    exact ⟨ret_bool H.out.symm, (Below.refl _ _).alloc (Nat.le_refl _) _⟩

end Go.Proofs.Ytjleklhajmhekaa
