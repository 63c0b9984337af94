/- The walk of GweiQuotients. -/
import Derived.Test.YtlgnandifaenaaaDoorLaid
namespace Go.Proofs.YtlgnandifaenaaaDoor
open Go.RowKit Go.OpenShut
set_option linter.unusedVariables false
theorem md_comm (a b d : Nat) : mdQ b a d = mdQ a b d ∧ mdOk b a d = mdOk a b d := by
  unfold mdQ mdOk; rw [Nat.mul_comm b a]; exact ⟨rfl, rfl⟩
theorem md_back (a d : Nat) (ha : a < 18446744073709551616) (hd : 1 ≤ d) : mdQ a d d = a ∧ mdOk a d d = true := by
  have e : a * d / d = a := Nat.mul_div_cancel _ hd
  have := md_yes (a := a) (b := d) hd (by rw [e]; exact ha)
  rw [e] at this
  exact ⟨this.2, this.1⟩
theorem md_zero (a : Nat) : mdQ a 0 0 = 0 ∧ mdOk a 0 0 = false := by
  have := md_no (a := a) (b := 0) (d := 0) (by omega)
  exact ⟨this.2, this.1⟩
theorem walk_GweiQuotients (a0 a1 a2 : Int) (w : World) (w0 : (Lit.int .u64 a0).wf = true) (w1 : (Lit.int .u64 a1).wf = true) (w2 : (Lit.int .u64 a2).wf = true) (hL : laidMetH Tryd.prog Rows.gweiQuotientsRow.laid w) :
    Calls Tryd.prog 6 #[.int .u64 a0, .int .u64 a1, .int .u64 a2] w fun e w' => e = .returned (.bool true) ∧ Below w.heap.size w w' := by
  have ht := pow_of_laid hL
  obtain ⟨b0, b0'⟩ := bounds_u64 w0
  obtain ⟨b1, b1'⟩ := bounds_u64 w1
  obtain ⟨b2, b2'⟩ := bounds_u64 w2
  clear hL w0 w1 w2
  obtain ⟨a, rfl⟩ := Int.eq_ofNat_of_zero_le b0
  obtain ⟨b, rfl⟩ := Int.eq_ofNat_of_zero_le b1
  obtain ⟨d, rfl⟩ := Int.eq_ofNat_of_zero_le b2
  have H1 := Lib.hid fun w => muldiv_any a b d w (by omega) (by omega) (by omega)
  have h2 := fun w => muldiv_any b a d w (by omega) (by omega) (by omega)
  rw [(md_comm a b d).1, (md_comm a b d).2] at h2
  have H2 := Lib.hid h2
  have h3 := fun w => muldiv_any a d d w (by omega) (by omega) (by omega)
  have HT := Lib.hid ht
  by_cases hd : d = 0
  · subst hd
    rw [(md_zero a).1, (md_zero a).2] at h3
    have H3 : Hid (∀ w, Calls Tryd.prog 15 #[.int .u64 a, .int .u64 0, .int .u64 0] w fun e w' => e = .returned (.tuple #[.int .u64 0, .bool false]) ∧ Below w.heap.size w w') := Lib.hid h3
    clear b0 b0' b1 b1' b2 b2' ht h2 h3
    generalize mdQ a b 0 = q at *
    generalize mdOk a b 0 = o at *
    go_enter Tryd.func6, Tryd.ntmps6
    go_wp2_with fail
    refine (H1.out _).mono ?_
    rintro e w1 ⟨rfl, hb1⟩
    go_wp2_with fail
    refine (H2.out _).mono ?_
    rintro e w2 ⟨rfl, hb2⟩
    go_wp2_with fail
    refine (H3.out _).mono ?_
    rintro e w3 ⟨rfl, hb3⟩
    go_wp2_with fail
    have hb13 := (hb1.trans (hb2.mono hb1.size)).trans (hb3.mono (Nat.le_trans hb1.size hb2.size))
    refine (alive_any _ (powTab_below HT.out hb13)).mono ?_
    rintro e w4 ⟨rfl, hb4⟩
    go_wp2_with fail
    go_ret
    exact ⟨rfl, hb13.trans (hb4.mono hb13.size)⟩
  · have hd1 : 1 ≤ d := by omega
    rw [(md_back a d (by omega) hd1).1, (md_back a d (by omega) hd1).2] at h3
    have H3 := Lib.hid h3
    have e1 : (0 : Int) < (d : Int) := by omega
    have e2 : ((d : Int) == 0) = false := by simp; omega
    clear b0 b0' b1 b1' b2 b2' ht h2 h3 hd hd1
    generalize mdQ a b d = q at *
    generalize mdOk a b d = o at *
    go_enter Tryd.func6, Tryd.ntmps6
    go_wp2_with fail
    refine (H1.out _).mono ?_
    rintro e w1 ⟨rfl, hb1⟩
    go_wp2_with fail
    refine (H2.out _).mono ?_
    rintro e w2 ⟨rfl, hb2⟩
    go_wp2_with fail
    refine (H3.out _).mono ?_
    rintro e w3 ⟨rfl, hb3⟩
    go_wp2_with fail
    have hb13 := (hb1.trans (hb2.mono hb1.size)).trans (hb3.mono (Nat.le_trans hb1.size hb2.size))
    refine (alive_any _ (powTab_below HT.out hb13)).mono ?_
    rintro e w4 ⟨rfl, hb4⟩
    go_wp2_with fail
    go_ret
    exact ⟨rfl, hb13.trans (hb4.mono hb13.size)⟩
end Go.Proofs.YtlgnandifaenaaaDoor
