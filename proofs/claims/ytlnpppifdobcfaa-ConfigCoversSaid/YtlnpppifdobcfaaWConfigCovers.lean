/- The walk of ConfigCovers. -/
import Derived.Test.YtlnpppifdobcfaaLive
namespace Go.Proofs.Ytlnpppifdobcfaa
open Go.RowKit
set_option linter.unusedVariables false

theorem prod_bd {a b : Int} (h0 : 0 ≤ a) (h1 : a ≤ 4096) (h2 : 0 ≤ b) (h3 : b ≤ 4096) : 0 ≤ a * b ∧ a * b ≤ 16777216 :=
  ⟨Int.mul_nonneg h0 h2, Int.le_trans (Int.mul_le_mul h1 h3 h2 (by omega)) (by omega)⟩

theorem walk_ConfigCovers (a0 : Nat → Int) (w : World) (w0 : Fits a0) : Calls Try.prog 8 #[.agg (cellsOf a0)] w fun e w' => e = .returned (.bool true) ∧ Below w.heap.size w w' := by
  have R := Lib.hid (refCheck_any a0)
  have L := Lib.hid alive_any
  have K0 : Keeps w.heap.size w.heap.size 24 (cellsOf a0) w (w.alloc (.cells (cellsOf a0) 24)) := Keeps.new (Below.refl _ _) (Nat.le_refl _)
  by_cases hz : chk a0 = 0
  · have hg := good_of_chk hz
    rw [hz] at R
    clear hz
    have V := Lib.hid (visits_any a0 hg)
    have Y := Lib.hid (payments_any a0 hg)
    have S := Lib.hid (sweepBlocks_any a0 hg)
    have hb := blocks_bd hg
    have hp := perBlock_bd hg
    have hcov := blocks_cover hg
    have hm1 := prod_bd (a := blocks a0) (b := perBlock a0) (by omega) (by omega) (by omega) (by omega)
    have hm2 := prod_bd (a := blocks a0 - 1) (b := perBlock a0) (by omega) (by omega) (by omega) (by omega)
    have hd1 : decide (a0 0 ≤ blocks a0 * perBlock a0) = true := by simpa using hcov.1
    have hd2 : decide ((blocks a0 - 1) * perBlock a0 < a0 0) = true := by simpa using hcov.2
    clear hcov hg
    unfold cellsOf
    go_enter Try.func8, Try.ntmps8
    go_wp2_with (first
      | (refine wpList_load_rowG rfl 24 _ rfl w.heap.size rfl 24 (cellsOf a0) (0, 0) _ (Keeps.heap (by assumption)) Try.underlying24 rfl info24 ?_)
      | (go_at_call 9; refine (Keeps.call (by assumption) (R.out _)).mono ?_; rintro e w2 ⟨rfl, K2⟩))
    refine wp_region_class (Keeps w.heap.size w.heap.size 24 (cellsOf a0) w) (by kernel_rfl) (by kernel_rfl) K2.drew ?_
    refine q_load 24 (.tmp 1) w.heap.size 24 (cellsOf a0) _ rfl rfl rfl (fun _ h => h.1) Try.underlying24 rfl (info24' a0) ?_
    refine q_call (.int .i64 (a0 14 - a0 16)) #[.agg (cellsOf a0)] rfl (by kernel_rfl) Try.call18 (fun _ h => h.call (V.out _)) ?_
    refine q_load 24 (.tmp 1) w.heap.size 24 (cellsOf a0) _ rfl rfl rfl (fun _ h => h.1) Try.underlying24 rfl (info24' a0) ?_
    refine q_call (.int .i64 (a0 15 - a0 16)) #[.agg (cellsOf a0)] rfl (by kernel_rfl) Try.call19 (fun _ h => h.call (Y.out _)) ?_
    refine q_val (.int .i64 (perBlock a0)) rfl (fun _ => by go_simp; rfl) ?_
    refine q_val (.int .i64 (perBlock a0)) rfl (fun _ => by go_simp) ?_
    refine wpQuiet_nil ?_
    intro w3 K3
    clear K0 K2
    go_wp2_with (first
      | (refine wpList_load_rowG (o := ⟨_, .load 24 _, _, _, _, _⟩) rfl 24 _ rfl w.heap.size rfl 24 (cellsOf a0) (0, 0) _ (Keeps.heap (by assumption)) Try.underlying24 rfl info24 ?_)
      | (go_at_call 10; refine (Keeps.call (by assumption) (L.out _)).mono ?_; rintro e w5 ⟨rfl, K5⟩; have c0 : w5.cell? ⟨w.heap.size, 0, none⟩ = some (.int .i64 (a0 0)) := K5.1.cell 0)
      | (go_at_call 20; refine (Keeps.call (by assumption) (S.out _)).mono ?_; rintro e w4 ⟨rfl, K4⟩))
    go_ret
    exact ⟨rfl, K5.2.1⟩
  · have hn : (chk a0 == 0) = false := by simpa using hz
    have hn2 : (chk a0 != 0) = true := by simpa using hz
    clear hz
    unfold cellsOf
    go_enter Try.func8, Try.ntmps8
    go_wp2_with (first
      | (refine wpList_load_rowG rfl 24 _ rfl w.heap.size rfl 24 (cellsOf a0) (0, 0) _ (Keeps.heap (by assumption)) Try.underlying24 rfl info24 ?_)
      | (go_at_call 9; refine (Keeps.call (by assumption) (R.out _)).mono ?_; rintro e w2 ⟨rfl, K2⟩)
      | (go_at_call 10; refine (Keeps.call (by assumption) (L.out _)).mono ?_; rintro e w3 ⟨rfl, K3⟩))
    go_ret
    exact ⟨rfl, K3.2.1⟩
end Go.Proofs.Ytlnpppifdobcfaa
