/- The walk of GweiSubtracts. -/
import Derived.Test.YtlgnandifaenaaaDoorAdd
namespace Go.Proofs.YtlgnandifaenaaaDoor
open Go.RowKit Go.OpenShut
set_option linter.unusedVariables false
/-- Add at a new slice of two amounts. -/
theorem add_two (g cap : Nat) (x y : Int) (w : World) (h0 : w.cell? ⟨g, 0, none⟩ = some (.int .u64 x)) (h1 : w.cell? ⟨g, 1, none⟩ = some (.int .u64 y)) (x0 : 0 ≤ x) (y0 : 0 ≤ y) (hs : x + y ≤ 18446744073709551615) :
    Calls Tryd.prog 10 #[.slice (some ⟨g, 0, none⟩) 2 cap] w fun e w' => e = .returned (.tuple #[.int .u64 (x + y), .bool true]) ∧ w = w' := by
  have h := add_row g 0 2 cap [x, y] w (by omega) (fun i hi => by
    match i, hi with
    | 0, _ => exact h0
    | 1, _ => exact h1) (fun i => by
    match i with
    | 0 => simp; omega
    | 1 => simp; omega
    | k + 2 => simp)
  have e : sumTo [x, y] 2 = x + y := by simp [sumTo]
  have := add_yes (z := [x, y]) (n := 2) (by rw [e]; exact hs)
  rw [this.1, this.2, e] at h
  exact h
theorem walk_GweiSubtracts (a0 a1 : Int) (w : World) (w0 : (Lit.int .u64 a0).wf = true) (w1 : (Lit.int .u64 a1).wf = true) (hL : laidMetH Tryd.prog Rows.gweiSubtractsRow.laid w) :
    Calls Tryd.prog 4 #[.int .u64 a0, .int .u64 a1] w fun e w' => e = .returned (.bool true) ∧ Below w.heap.size w w' := by
  have ht := pow_of_laid hL
  obtain ⟨b0, b0'⟩ := bounds_u64 w0
  obtain ⟨b1, b1'⟩ := bounds_u64 w1
  clear hL w0 w1
  have HT := Lib.hid ht
  clear ht
  by_cases hlt : a1 > a0
  · go_enter Tryd.func4, Tryd.ntmps4
    go_wp2_with fail
    refine (sub_no a0 a1 _ hlt).mono ?_
    rintro e w' ⟨rfl, rfl⟩
    go_wp2_with fail
    refine (alive_any _ HT.out).mono ?_
    rintro e w3 ⟨rfl, hb3⟩
    go_wp2_with fail
    go_ret
    exact ⟨rfl, hb3⟩
  · have hle : a1 ≤ a0 := by omega
    have e1 : a0 - a1 + a1 = a0 := by omega
    have E1 := Lib.hid e1
    clear e1
    go_enter Tryd.func4, Tryd.ntmps4
    go_wp2_with fail
    refine (sub_yes a0 a1 _ b0 b0' b1 hle).mono ?_
    rintro e w' ⟨rfl, rfl⟩
    go_wp2_with fail
    refine (add_two _ _ (a0 - a1) a1 _ (by go_simp) (by go_simp) (by omega) (by omega) (by omega)).mono ?_
    rintro e w' ⟨rfl, rfl⟩
    rw [E1.out]
    go_wp2_with fail
    refine (alive_any _ (powTab_below HT.out ((Below.refl _ _).alloc (Nat.le_refl _) _))).mono ?_
    rintro e w3 ⟨rfl, hb3⟩
    go_wp2_with fail
    go_ret
    exact ⟨rfl, ((Below.refl _ _).alloc (Nat.le_refl _) _).trans (hb3.mono (by simp))⟩
end Go.Proofs.YtlgnandifaenaaaDoor
