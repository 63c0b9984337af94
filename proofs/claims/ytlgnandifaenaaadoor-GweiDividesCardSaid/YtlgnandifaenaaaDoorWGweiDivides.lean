/- The walk of GweiDivides. -/
import Derived.Test.YtlgnandifaenaaaDoorLaid
import Derived.Test.YtlgnandifaenaaaDoorRefMul
namespace Go.Proofs.YtlgnandifaenaaaDoor
open Go.RowKit Go.OpenShut
set_option linter.unusedVariables false
theorem walk_GweiDivides (a0 a1 a2 : Int) (w : World) (w0 : (Lit.int .u64 a0).wf = true) (w1 : (Lit.int .u64 a1).wf = true) (w2 : (Lit.int .u64 a2).wf = true) (hL : laidMetH Tryd.prog Rows.gweiDividesRow.laid w) :
    Calls Tryd.prog 5 #[.int .u64 a0, .int .u64 a1, .int .u64 a2] w fun e w' => e = .returned (.bool true) ∧ Below w.heap.size w w' := by
  have ht := pow_of_laid hL
  obtain ⟨b0, b0'⟩ := bounds_u64 w0
  obtain ⟨b1, b1'⟩ := bounds_u64 w1
  obtain ⟨b2, b2'⟩ := bounds_u64 w2
  clear hL w0 w1 w2
  obtain ⟨a, rfl⟩ := Int.eq_ofNat_of_zero_le b0
  obtain ⟨b, rfl⟩ := Int.eq_ofNat_of_zero_le b1
  obtain ⟨d, rfl⟩ := Int.eq_ofNat_of_zero_le b2
  have H1 := Lib.hid fun w => muldiv_any a b d w (by omega) (by omega) (by omega)
  have H2 := Lib.hid fun w => refmuldiv_any a b d w (by omega) (by omega) (by omega)
  have HT := Lib.hid ht
  clear b0 b0' b1 b1' b2 b2' ht
  generalize mdQ a b d = q at *
  generalize mdOk a b d = o at *
  go_enter Tryd.func5, Tryd.ntmps5
  go_wp2_with fail
  refine (H1.out _).mono ?_
  rintro e w1 ⟨rfl, hb1⟩
  go_wp2_with fail
  refine (H2.out _).mono ?_
  rintro e w' ⟨rfl, rfl⟩
  go_wp2_with fail
  refine (alive_any _ (powTab_below HT.out hb1)).mono ?_
  rintro e w3 ⟨rfl, hb3⟩
  go_wp2_with fail
  go_ret
  exact ⟨rfl, hb1.trans (hb3.mono hb1.size)⟩
end Go.Proofs.YtlgnandifaenaaaDoor
