/- SweepBlocks and the reference's Blocks. -/
import Derived.Test.YtlnpppifdobcfaaParts
import Derived.Test.YtlnpppifdobcfaaClass
import Derived.Lib.MinMax
namespace Go.Proofs.Ytlnpppifdobcfaa
open Go.RowKit
set_option linter.unusedVariables false

theorem perBlock_eq (c : Nat → Int) : perBlock c = min (c 14) (c 15) - c 16 := by unfold perBlock; omega
theorem refBlocks_any (c : Nat → Int) (hg : Good c) (w : World) :
    Calls Try.prog 21 #[.agg (cellsOf c)] w fun e w' => e = .returned (.int .i64 (blocks c)) ∧ Below w.heap.size w w' := by
  have hp := perBlock_bd hg
  have H := Lib.hid (blocks_ref hg)
  have HP := Lib.hid (perBlock_eq c)
  rw [perBlock_eq] at hp
  obtain ⟨g0, g1, g2, g3, g4, g5, g6⟩ := hg
  have hz : (min (c 14) (c 15) - c 16 == 0) = false := by simp; omega
  unfold cellsOf
  go_enter Try.func21, Try.ntmps21
  go_wp2
  go_ret
  exact ⟨ret_int (by rw [← H.out, HP.out]), (Below.refl _ _).alloc (Nat.le_refl _) _⟩

theorem info24' (c : Nat → Int) : (Try.prog.info? 24).map (·.size) = some (cellsOf c).size := info24
theorem sweepBlocks_any (c : Nat → Int) (hg : Good c) (w : World) :
    Calls Try.prog 20 #[.agg (cellsOf c)] w fun e w' => e = .returned (.int .i64 (blocks c)) ∧ Below w.heap.size w w' := by
  have V := Lib.hid (visits_any c hg)
  have Y := Lib.hid (payments_any c hg)
  have K0 : Keeps w.heap.size w.heap.size 24 (cellsOf c) w (w.alloc (.cells (cellsOf c) 24)) := Keeps.new (Below.refl _ _) (Nat.le_refl _)
  have hp := perBlock_bd hg
  have hq := quot_bd hg
  have hd : decide (perBlock c < 1) = false := by simp; omega
  have hc0 : decide (c 0 < 1) = false := by have := hg.cap0; simp; omega
  have hz : (perBlock c == 0) = false := by simp; omega
  have g0 := hg.cap0
  have g1 := hg.cap1
  have HB := Lib.hid (show blocks c = (c 0 - 1) / perBlock c + 1 from rfl)
  unfold cellsOf
  go_enter Try.func20, Try.ntmps20
  go_wp2_with (fail)
  refine wp_region_class (Keeps w.heap.size w.heap.size 24 (cellsOf c) w) (by kernel_rfl) (by kernel_rfl) K0.drew ?_
  refine q_load 24 (.tmp 1) w.heap.size 24 (cellsOf c) _ rfl rfl rfl (fun _ h => h.1) Try.underlying24 rfl (info24' c) ?_
  refine q_call (.int .i64 (c 14 - c 16)) #[.agg (cellsOf c)] rfl (by kernel_rfl) Try.call18 (fun _ h => h.call (V.out _)) ?_
  refine q_load 24 (.tmp 1) w.heap.size 24 (cellsOf c) _ rfl rfl rfl (fun _ h => h.1) Try.underlying24 rfl (info24' c) ?_
  refine q_call (.int .i64 (c 15 - c 16)) #[.agg (cellsOf c)] rfl (by kernel_rfl) Try.call19 (fun _ h => h.call (Y.out _)) ?_
  refine q_val (.int .i64 (perBlock c)) rfl (fun _ => by go_simp; rfl) ?_
  refine q_val (.int .i64 (perBlock c)) rfl (fun _ => by go_simp) ?_
  refine wpQuiet_nil ?_
  intro w1 hk
  have hc1 : w1.cell? ⟨w.heap.size, 0, none⟩ = some (.int .i64 (c 0)) := hk.1.cell 0
  have hbl := hk.2.1
  clear hk K0
  go_wp2_with (fail)
  go_ret
  exact ⟨ret_int HB.out.symm, hbl⟩
end Go.Proofs.Ytlnpppifdobcfaa
