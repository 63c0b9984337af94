/- The reference's decimal. -/
import Derived.Test.YtjbbcnepeffiaaaDoorPlain
import Derived.Laws.Shifts
namespace Go.Proofs.YtjbbcnepeffiaaaDoor
open Go Go.RowKit
set_option linter.unusedVariables false
set_option linter.unusedSimpArgs false
set_option maxRecDepth 100000

theorem reffmt_any (x : Int) (h : 0 ≤ x ∧ x ≤ 18446744073709551615) (w : World) : Calls Tryd.prog 35 #[.int .u64 x] w fun e w' => e = .returned (.string (bs (Lib.decDigits x.toNat))) ∧ w = w' := by
  have h1 := refformat_any 20 x.toNat w (lt_pow20 (by omega)) (by omega)
  rwa [show ((x.toNat : Nat) : Int) = x by omega] at h1
theorem decimal_any (x : Int) (h : I64 x) (w : World) : Calls Tryd.prog 34 #[.int .i64 x] w fun e w' => e = .returned (.string (bs (Lib.itoa x))) ∧ w = w' := by
  unfold I64 at h
  by_cases hx : x < 0
  · have h1 := fun w => reffmt_any (-x) (by omega) w
    have HE : Hid (bs (Lib.itoa x) = ⟨#[45]⟩ ++ bs (Lib.decDigits (-x).toNat)) := Lib.hid (by
      unfold Lib.itoa
      rw [if_pos hx, show (-x).toNat = x.natAbs by omega]
      rfl)
    have hsz := dec_short (-x).toNat (by omega)
    have hl : (bs (Lib.decDigits (-x).toNat)).size ≤ 20 := by rw [bs_size]; exact hsz
    have hw : IntKind.u64.wrap x = x + 18446744073709551616 := by simp [IntKind.wrap, IntKind.bits, IntKind.signed]; omega
    have hw2 : IntKind.u64.wrap (-(x + 18446744073709551616)) = -x := by simp [IntKind.wrap, IntKind.bits, IntKind.signed]; omega
    have H1 := Lib.hid h1
    generalize bs (Lib.decDigits (-x).toNat) = s at *
    clear hsz h1
    go_enter Tryd.func34, Tryd.ntmps34
    go_wp2_with (fail)
    refine (H1.out _).mono ?_
    rintro e w' ⟨rfl, rfl⟩
    go_wp2_with (fail)
    go_ret
    exact ⟨by rw [HE.out]; rfl, rfl⟩
  · have h1 := fun w => reffmt_any x (by omega) w
    have HE : Hid (bs (Lib.itoa x) = bs (Lib.decDigits x.toNat)) := Lib.hid (by
      unfold Lib.itoa
      rw [if_neg hx])
    have H1 := Lib.hid h1
    generalize bs (Lib.decDigits x.toNat) = s at *
    clear h1
    have hx0 : 0 ≤ x := by omega
    have hx1 : x ≤ 9223372036854775807 := h.2
    clear hx h
    go_enter Tryd.func34, Tryd.ntmps34
    go_wp2_with (fail)
    refine (H1.out _).mono ?_
    rintro e w' ⟨rfl, rfl⟩
    go_wp2_with (fail)
    go_ret
    exact ⟨by rw [HE.out]; rfl, rfl⟩
end Go.Proofs.YtjbbcnepeffiaaaDoor
