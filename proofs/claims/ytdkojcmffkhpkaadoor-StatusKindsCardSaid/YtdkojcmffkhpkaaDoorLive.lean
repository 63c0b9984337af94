/- Live, Final, the reference's Live. -/
import Derived.Test.YtdkojcmffkhpkaaDoorRun
namespace Go.Proofs.YtdkojcmffkhpkaaDoor
open Go Go.RowKit Go.Maps
set_option linter.unusedVariables false
set_option linter.unusedSimpArgs false
def liveB (s : Int) : Bool := decide (s = 2 ∨ s = 3)
def finalB (s : Int) : Bool := decide (s = 6 ∨ s = 7)
theorem live_any (s : Int) (w : World) : Calls Tryd.prog 14 #[.int .i64 s] w fun e w' => e = .returned (.bool (liveB s)) ∧ w = w' := by
  by_cases h2 : s = 2
  · subst h2
    go_enter Tryd.func14, Tryd.ntmps14
    go_wp2
    go_ret
    exact ⟨rfl, rfl⟩
  · by_cases h3 : s = 3
    · subst h3
      go_enter Tryd.func14, Tryd.ntmps14
      go_wp2
      go_ret
      exact ⟨rfl, rfl⟩
    · have hb : Hid (liveB s = false) := Lib.hid (by unfold liveB; simp [h2, h3])
      go_enter Tryd.func14, Tryd.ntmps14
      go_wp2
      go_ret
      exact ⟨by rw [hb.out]; simp [h2, h3], rfl⟩
theorem reflive_any (s : Int) (w : World) : Calls Tryd.prog 15 #[.int .i64 s] w fun e w' => e = .returned (.bool (liveB s)) ∧ w = w' := by
  by_cases h2 : s = 2
  · subst h2
    go_enter Tryd.func15, Tryd.ntmps15
    go_wp2
    go_ret
    exact ⟨rfl, rfl⟩
  · by_cases h3 : s = 3
    · subst h3
      go_enter Tryd.func15, Tryd.ntmps15
      go_wp2
      go_ret
      exact ⟨rfl, rfl⟩
    · have hb : Hid (liveB s = false) := Lib.hid (by unfold liveB; simp [h2, h3])
      go_enter Tryd.func15, Tryd.ntmps15
      go_wp2
      go_ret
      exact ⟨by rw [hb.out]; simp [h2, h3], rfl⟩
theorem final_any (s : Int) (w : World) : Calls Tryd.prog 13 #[.int .i64 s] w fun e w' => e = .returned (.bool (finalB s)) ∧ w = w' := by
  by_cases h2 : s = 6
  · subst h2
    go_enter Tryd.func13, Tryd.ntmps13
    go_wp2
    go_ret
    exact ⟨rfl, rfl⟩
  · by_cases h3 : s = 7
    · subst h3
      go_enter Tryd.func13, Tryd.ntmps13
      go_wp2
      go_ret
      exact ⟨rfl, rfl⟩
    · have hb : Hid (finalB s = false) := Lib.hid (by unfold finalB; simp [h2, h3])
      go_enter Tryd.func13, Tryd.ntmps13
      go_wp2
      go_ret
      exact ⟨by rw [hb.out]; simp [h2, h3], rfl⟩
theorem refN_final {s e : Int} (h : s = 6 ∨ s = 7) : refN s e = 0 := by
  unfold refN
  repeat' split
  all_goals omega
end Go.Proofs.YtdkojcmffkhpkaaDoor
