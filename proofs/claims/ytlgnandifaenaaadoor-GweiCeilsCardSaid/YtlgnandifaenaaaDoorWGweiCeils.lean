/- The walk of GweiCeils. -/
import Derived.Test.YtlgnandifaenaaaDoorLaid
namespace Go.Proofs.YtlgnandifaenaaaDoor
open Go.RowKit Go.OpenShut
set_option linter.unusedVariables false
theorem walk_GweiCeils (a0 a1 : Int) (w : World) (w0 : (Lit.int .u64 a0).wf = true) (w1 : (Lit.int .u64 a1).wf = true) (hL : laidMetH Tryd.prog Rows.gweiCeilsRow.laid w) :
    Calls Tryd.prog 7 #[.int .u64 a0, .int .u64 a1] w fun e w' => e = .returned (.bool true) ∧ Below w.heap.size w w' := by
  have ht := pow_of_laid hL
  obtain ⟨b0, b0'⟩ := bounds_u64 w0
  obtain ⟨b1, b1'⟩ := bounds_u64 w1
  clear hL w0 w1
  have HT := Lib.hid ht
  clear ht
  by_cases hd : a1 = 0
  · subst hd
    go_enter Tryd.func7, Tryd.ntmps7
    go_wp2_with fail
    refine (ceil_zero a0 _).mono ?_
    rintro e w' ⟨rfl, rfl⟩
    go_wp2_with fail
    refine (refceil_zero a0 _).mono ?_
    rintro e w' ⟨rfl, rfl⟩
    go_wp2_with fail
    refine (alive_any _ HT.out).mono ?_
    rintro e w3 ⟨rfl, hb3⟩
    go_wp2_with fail
    go_ret
    exact ⟨rfl, hb3⟩
  · have H1 := Lib.hid fun w => ceil_yes a0 a1 w b0 b0' (by omega) b1'
    have H2 := Lib.hid fun w => refceil_yes a0 a1 w b0 b0' (by omega) b1'
    clear b0 b0' b1 b1' hd
    generalize ceilQ a0 a1 = q at *
    go_enter Tryd.func7, Tryd.ntmps7
    go_wp2_with fail
    refine (H1.out _).mono ?_
    rintro e w' ⟨rfl, rfl⟩
    go_wp2_with fail
    refine (H2.out _).mono ?_
    rintro e w' ⟨rfl, rfl⟩
    go_wp2_with fail
    refine (alive_any _ HT.out).mono ?_
    rintro e w3 ⟨rfl, hb3⟩
    go_wp2_with fail
    go_ret
    exact ⟨rfl, hb3⟩
end Go.Proofs.YtlgnandifaenaaaDoor
