/- The walk of LimitRises. -/
import Derived.Test.YthhfpkhmhhcaiaaLive
import Derived.Test.YthhfpkhmhhcaiaaTwo
namespace Go.Proofs.Ythhfpkhmhhcaiaa
open Go Go.RowKit
set_option linter.unusedVariables false
set_option linter.unusedSimpArgs false

theorem churnQ_pos {a m q : Int} (h : 1 ≤ q) : churnQ a m q = if m < a / q then a / q else m := by
  unfold churnQ
  exact if_neg (by omega)
theorem churnQ_more {a b m q : Int} (h : a ≤ b) (h1 : 1 ≤ q) : churnQ a m q ≤ churnQ b m q := by
  have hd : a / q ≤ b / q := Int.ediv_le_ediv (by omega) h
  rw [churnQ_pos h1, churnQ_pos h1]
  split <;> split <;> omega
theorem churnQ_less {b m q : Int} (h0 : 0 ≤ b) (h1 : 1 ≤ q) : churnQ b m (q + 1) ≤ churnQ b m q := by
  have hd : b / (q + 1) ≤ b / q := by
    have h2 : b / (q + 1) * q ≤ b := by
      have e := Int.ediv_mul_le b (show q + 1 ≠ 0 by omega)
      have p : 0 ≤ b / (q + 1) := Int.ediv_nonneg h0 (by omega)
      rw [Int.mul_add] at e
      omega
    exact (Int.le_ediv_iff_mul_le (by omega)).2 h2
  rw [churnQ_pos h1, churnQ_pos (by omega)]
  split <;> split <;> omega

theorem walk_LimitRises (a0 a1 : Nat → Int) (w : World) (w0 : FitsD a0) (w1 : FitsD a1) :
    Calls Try.prog 4 #[.agg (cellsD a0), .agg (cellsD a1)] w fun e w' => e = .returned (.bool true) ∧ Below w.heap.size w w' := by
  obtain ⟨x0, y0⟩ := w0 0 (by decide)
  obtain ⟨x1, y1⟩ := w0 1 (by decide)
  obtain ⟨x3, y3⟩ := w1 1 (by decide)
  clear w0 w1
  unfold cellsD
  generalize a0 0 = a at *
  generalize a0 1 = b at *
  generalize a1 0 = m at *
  generalize a1 1 = q at *
  have u0 : ((w.alloc (.cells #[.int .u64 a, .int .u64 b] 26)).alloc (.cells #[.int .u64 m, .int .u64 q] 26)).cell? ⟨w.heap.size, 0, none⟩ = some (.int .u64 a) := ((Blk.new w _ _).alloc _).cell 0
  have u1 : ((w.alloc (.cells #[.int .u64 a, .int .u64 b] 26)).alloc (.cells #[.int .u64 m, .int .u64 q] 26)).cell? ⟨w.heap.size, 1, none⟩ = some (.int .u64 b) := ((Blk.new w _ _).alloc _).cell 1
  have u2 : ((w.alloc (.cells #[.int .u64 a, .int .u64 b] 26)).alloc (.cells #[.int .u64 m, .int .u64 q] 26)).cell? ⟨w.heap.size + 1, 0, none⟩ = some (.int .u64 m) := by simp
  have u3 : ((w.alloc (.cells #[.int .u64 a, .int .u64 b] 26)).alloc (.cells #[.int .u64 m, .int .u64 q] 26)).cell? ⟨w.heap.size + 1, 1, none⟩ = some (.int .u64 q) := by simp
  have HW : Hid (Below w.heap.size w ((w.alloc (.cells #[.int .u64 a, .int .u64 b] 26)).alloc (.cells #[.int .u64 m, .int .u64 q] 26))) := Lib.hid (((Below.refl _ w).alloc (Nat.le_refl _) _).alloc (by simp) _)
  have HP := Lib.hid (fun w => churn_any a m q w x0 y0 x3 y3)
  have HQ := Lib.hid (fun w => churn_any b m q w x1 y1 x3 y3)
  by_cases h1 : b < a
  · go_enter Try.func4, Try.ntmps4
    go_wp2
    go_quiet (fail)
    go_wp2_with fail
    refine (alive_any _).mono ?_
    rintro e w1 ⟨rfl, hb⟩
    have HB := Lib.hid ((below_drewN HW.out nq).trans (hb.mono (below_drewN HW.out nq).size))
    clear hb
    go_wp2_with fail
    go_ret
    exact ⟨rfl, HB.out⟩
  by_cases h2 : q = 0
  · subst h2
    go_enter Try.func4, Try.ntmps4
    go_wp2
    go_quiet (fail)
    go_wp2_with fail
    refine (alive_any _).mono ?_
    rintro e w1 ⟨rfl, hb⟩
    have HB := Lib.hid ((below_drewN HW.out nq).trans (hb.mono (below_drewN HW.out nq).size))
    clear hb
    go_wp2_with fail
    go_ret
    exact ⟨rfl, HB.out⟩
  by_cases h3 : q = 18446744073709551615
  · subst h3
    go_enter Try.func4, Try.ntmps4
    go_wp2
    go_quiet (fail)
    go_wp2_with fail
    refine (alive_any _).mono ?_
    rintro e w1 ⟨rfl, hb⟩
    have HB := Lib.hid ((below_drewN HW.out nq).trans (hb.mono (below_drewN HW.out nq).size))
    clear hb
    go_wp2_with fail
    go_ret
    exact ⟨rfl, HB.out⟩
  have d2 : (q == 0) = false := by simpa using h2
  have d3 : (q == 18446744073709551615) = false := by simpa using h3
  have HN := Lib.hid (fun w => churn_any b m (q + 1) w x1 y1 (by omega) (by omega))
  have g1 : churnQ a m q ≤ churnQ b m q := churnQ_more (by omega) (by omega)
  have g2 : churnQ b m (q + 1) ≤ churnQ b m q := churnQ_less x1 (by omega)
  generalize churnQ a m q = p1 at *
  generalize churnQ b m q = p2 at *
  generalize churnQ b m (q + 1) = p3 at *
  go_enter Try.func4, Try.ntmps4
  go_wp2
  go_quiet (fail)
  go_wp2_with fail
  refine (alive_any _).mono ?_
  rintro e w1 ⟨rfl, hb⟩
  have HB := Lib.hid ((below_drewN HW.out nq).trans (hb.mono (below_drewN HW.out nq).size))
  clear hb u0 u1 u2 u3
  go_wp2_with fail
  refine (HP.out _).mono ?_
  rintro e w2 ⟨rfl, rfl⟩
  go_wp2_with fail
  refine (HQ.out _).mono ?_
  rintro e w2 ⟨rfl, rfl⟩
  go_wp2_with fail
  refine (HN.out _).mono ?_
  rintro e w2 ⟨rfl, rfl⟩
  go_wp2_with fail
  refine (HQ.out _).mono ?_
  rintro e w2 ⟨rfl, rfl⟩
  go_wp2_with fail
  go_ret
  exact ⟨rfl, HB.out⟩
end Go.Proofs.Ythhfpkhmhhcaiaa
