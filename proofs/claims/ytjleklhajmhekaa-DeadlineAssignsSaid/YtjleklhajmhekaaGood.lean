/- Valid configurations: what the deadlines need of them; Default; the sweep's blocks; Sweep and the reference's. (After stage 3's texts.) -/
import Derived.Test.YtjleklhajmhekaaRefCheck
import Derived.Test.YtjleklhajmhekaaClass
import Derived.Test.YtjleklhajmhekaaFirst
import Derived.Lib.MinMax
import Derived.Laws.Tables
import Derived.Deep.WholeRow
namespace Go.Proofs.Ytjleklhajmhekaa
open Go Go.RowKit
set_option linter.unusedVariables false
set_option linter.unusedSimpArgs false
set_option maxRecDepth 100000

structure Good (c : Nat → Int) : Prop where
  cap0 : 1 ≤ c 0
  cap1 : c 0 ≤ 4096
  part : 0 ≤ c 16
  vis0 : c 16 < c 14
  pay0 : c 16 < c 15
  vis1 : c 14 ≤ 4096
  pay1 : c 15 ≤ 4096
  chu0 : 1 ≤ c 7
  chu1 : c 7 ≤ 1152921504606846976
  fcp0 : 0 ≤ c 9
  fcp1 : c 9 ≤ 1152921504606846976
  unb0 : 1 ≤ c 10
  unb1 : c 10 ≤ 1048576
  sla0 : c 10 < c 11
  sla1 : c 11 ≤ 1048576
  len0 : 1 ≤ c 13
  len1 : c 13 ≤ 4096
theorem btw_spec {v lo hi : Int} (h : btw v lo hi = true) : lo ≤ v ∧ v ≤ hi := by unfold btw at h; simpa using h
theorem bounds_u64 {n : Int} (h : (Lit.int .u64 n).wf = true) : 0 ≤ n ∧ n ≤ 18446744073709551615 := by
  simp [Lit.wf, IntKind.min, IntKind.max, IntKind.signed, IntKind.bits] at h
  omega
theorem bounds_i64 {n : Int} (h : (Lit.int .i64 n).wf = true) : -9223372036854775808 ≤ n ∧ n ≤ 9223372036854775807 := by
  simp [Lit.wf, IntKind.min, IntKind.max, IntKind.signed, IntKind.bits] at h
  omega
theorem good_of_chk {c : Nat → Int} (hf : Fits c) (h : chk c = 0) : Good c := by
  rcases chk_cases c with ⟨_, hb⟩ | ⟨k, _, _, _, e⟩
  · have h0 := btw_spec (hb 0 (by omega))
    have h7 := btw_spec (hb 7 (by omega))
    have h9 : decide (c 9 ≤ most) = true := hb 9 (by omega)
    have h10 := btw_spec (hb 10 (by omega))
    have h11 : decide (c 10 < c 11 ∧ c 11 ≤ 1048576) = true := hb 11 (by omega)
    have h13 := btw_spec (hb 13 (by omega))
    have h14 := btw_spec (hb 14 (by omega))
    have h15 := btw_spec (hb 15 (by omega))
    have h16 : decide (0 ≤ c 16 ∧ c 16 < c 14 ∧ c 16 < c 15) = true := hb 16 (by omega)
    have f9 : (Lit.int .u64 (c 9)).wf = true := hf 9 (by omega)
    simp at h9 h11 h16
    unfold most at h7 h9
    exact ⟨h0.1, h0.2, h16.1, h16.2.1, h16.2.2, h14.2, h15.2, h7.1, h7.2, (bounds_u64 f9).1, h9, h10.1, h10.2, h11.1, h11.2, h13.1, h13.2⟩
  · omega

def dflt : Nat → Int
  | 0 => 16
  | 1 => 8
  | 2 => 16
  | 3 => 64
  | 4 => 1024
  | 5 => 8
  | 6 => 128
  | 7 => 32
  | 8 => 4
  | 9 => 64
  | 10 => 2
  | 11 => 5
  | 12 => 4
  | 13 => 4
  | 14 => 6
  | 15 => 4
  | 16 => 2
  | 17 => 2
  | 18 => 1
  | 19 => 4
  | _ => 0
theorem dflt_chk : chk dflt = 0 := by decide +kernel
theorem dflt_fits : Fits dflt := by
  intro k hk
  have : k = 0 ∨ k = 1 ∨ k = 2 ∨ k = 3 ∨ k = 4 ∨ k = 5 ∨ k = 6 ∨ k = 7 ∨ k = 8 ∨ k = 9 ∨ k = 10 ∨ k = 11 ∨ k = 12 ∨ k = 13 ∨ k = 14 ∨ k = 15 ∨ k = 16 ∨ k = 17 ∨ k = 18 ∨ k = 19 := by omega
  rcases this with h | h | h | h | h | h | h | h | h | h | h | h | h | h | h | h | h | h | h | h <;> subst h <;> decide
theorem dflt_good : Good dflt := good_of_chk dflt_fits dflt_chk
theorem cells_one (c : Nat → Int) : (cellsOf c).all (·.oneCell') = true := by kernel_rfl
theorem default_any (w : World) : Calls Try.prog 24 #[] w fun e w' => e = .returned (.agg (cellsOf dflt)) ∧ Below w.heap.size w w' := by
  go_enter Try.func24, Try.ntmps24
  go_wp2_with (first | (refine wpList_build rfl 26 _ rfl (by kernel_rfl) ?_; rw [show (Try.prog.built 26 _).getD #[] = cellsOf dflt from by kernel_rfl]) | (refine wpList_store_row rfl _ _ _ rfl w.heap.size (cellsOf dflt) rfl rfl 26 _ (heap_alloc_new w _) info24 rfl (cells_one _) ?_; rw [World.setRow_alloc_new]))
  exact bodyPost_ret (v := .agg (cellsOf dflt)) (results_cell_row (fn := Try.f24) rfl _ _ w.heap.size 26 (cellsOf dflt) (0, 0) _ rfl (heap_alloc_new w _) Try.underlying26 rfl info24) rfl ⟨rfl, (Below.refl _ _).alloc (Nat.le_refl _) _⟩

theorem visits_any (c : Nat → Int) (hg : Good c) (w : World) :
    Calls Try.prog 52 #[.agg (cellsOf c)] w fun e w' => e = .returned (.int .i64 (c 14 - c 16)) ∧ Below w.heap.size w w' := by
  have g2 := hg.part
  have g3 := hg.vis0
  have g5 := hg.vis1
  unfold cellsOf
  go_enter Try.func52, Try.ntmps52
  go_wp2
  go_ret
  exact ⟨rfl, (Below.refl _ _).alloc (Nat.le_refl _) _⟩
theorem payments_any (c : Nat → Int) (hg : Good c) (w : World) :
    Calls Try.prog 53 #[.agg (cellsOf c)] w fun e w' => e = .returned (.int .i64 (c 15 - c 16)) ∧ Below w.heap.size w w' := by
  have g2 := hg.part
  have g4 := hg.pay0
  have g6 := hg.pay1
  unfold cellsOf
  go_enter Try.func53, Try.ntmps53
  go_wp2
  go_ret
  exact ⟨rfl, (Below.refl _ _).alloc (Nat.le_refl _) _⟩

def perBlock (c : Nat → Int) : Int := min (c 14 - c 16) (c 15 - c 16)
def blocks (c : Nat → Int) : Int := (c 0 - 1) / perBlock c + 1
theorem perBlock_bd {c : Nat → Int} (hg : Good c) : 1 ≤ perBlock c ∧ perBlock c ≤ 4096 := by
  have g2 := hg.part
  have g3 := hg.vis0
  have g4 := hg.pay0
  have g5 := hg.vis1
  have g6 := hg.pay1
  unfold perBlock; omega
theorem blocks_ref {c : Nat → Int} (hg : Good c) : (c 0 + perBlock c - 1) / perBlock c = blocks c := by
  have h := perBlock_bd hg
  unfold blocks
  rw [show c 0 + perBlock c - 1 = (c 0 - 1) + 1 * perBlock c by omega, Int.add_mul_ediv_right _ _ (by omega)]
theorem quot_bd {c : Nat → Int} (hg : Good c) : 0 ≤ (c 0 - 1) / perBlock c ∧ (c 0 - 1) / perBlock c ≤ 4095 := by
  have h := perBlock_bd hg
  have g0 := hg.cap0
  have g1 := hg.cap1
  exact ⟨Int.ediv_nonneg (by omega) (by omega), Int.le_trans (Int.ediv_le_self _ (by omega)) (by omega)⟩
theorem blocks_bd {c : Nat → Int} (hg : Good c) : 1 ≤ blocks c ∧ blocks c ≤ 4096 := by
  have := quot_bd hg; unfold blocks; omega
/-- The blocks cover the registry. -/
theorem blocks_cover {c : Nat → Int} (hg : Good c) : c 0 ≤ blocks c * perBlock c := by
  have h := perBlock_bd hg
  have e : blocks c = (c 0 - 1) / perBlock c + 1 := rfl
  have h1 := Int.mul_ediv_add_emod (c 0 - 1) (perBlock c)
  have h3 := Int.emod_lt_of_pos (c 0 - 1) (show 0 < perBlock c by omega)
  rw [Int.mul_comm] at h1
  rw [e, Int.add_mul]
  omega
theorem perBlock_eq (c : Nat → Int) : perBlock c = min (c 14) (c 15) - c 16 := by unfold perBlock; omega
theorem refBlocks_any (c : Nat → Int) (hg : Good c) (w : World) :
    Calls Try.prog 35 #[.agg (cellsOf c)] w fun e w' => e = .returned (.int .i64 (blocks c)) ∧ Below w.heap.size w w' := by
  have hp := perBlock_bd hg
  have H := Lib.hid (blocks_ref hg)
  have HP := Lib.hid (perBlock_eq c)
  rw [perBlock_eq] at hp
  have g0 := hg.cap0
  have g1 := hg.cap1
  have g2 := hg.part
  have g3 := hg.vis0
  have g4 := hg.pay0
  have g5 := hg.vis1
  have g6 := hg.pay1
  have hz : (min (c 14) (c 15) - c 16 == 0) = false := by simp; omega
  clear hg
  unfold cellsOf
  go_enter Try.func35, Try.ntmps35
  go_wp2
  go_ret
  exact ⟨ret_int (by rw [← H.out, HP.out]), (Below.refl _ _).alloc (Nat.le_refl _) _⟩

theorem info24' (c : Nat → Int) : (Try.prog.info? 26).map (·.size) = some (cellsOf c).size := info24
theorem sweepBlocks_any (c : Nat → Int) (hg : Good c) (w : World) :
    Calls Try.prog 33 #[.agg (cellsOf c)] w fun e w' => e = .returned (.int .i64 (blocks c)) ∧ Below w.heap.size w w' := by
  have V := Lib.hid (visits_any c hg)
  have Y := Lib.hid (payments_any c hg)
  have K0 : Keeps w.heap.size w.heap.size 26 (cellsOf c) w (w.alloc (.cells (cellsOf c) 26)) := Keeps.new (Below.refl _ _) (Nat.le_refl _)
  have hp := perBlock_bd hg
  have hq := quot_bd hg
  have hd : decide (perBlock c < 1) = false := by simp; omega
  have hc0 : decide (c 0 < 1) = false := by have := hg.cap0; simp; omega
  have hz : (perBlock c == 0) = false := by simp; omega
  have g0 := hg.cap0
  have g1 := hg.cap1
  have HB := Lib.hid (show blocks c = (c 0 - 1) / perBlock c + 1 from rfl)
  clear hg
  unfold cellsOf
  go_enter Try.func33, Try.ntmps33
  go_wp2_with (fail)
  refine wp_region_class (Keeps w.heap.size w.heap.size 26 (cellsOf c) w) (by kernel_rfl) (by kernel_rfl) K0.drew ?_
  refine q_load 26 (.tmp 1) w.heap.size 26 (cellsOf c) _ rfl rfl rfl (fun _ h => h.1) Try.underlying26 rfl (info24' c) ?_
  refine q_call (.int .i64 (c 14 - c 16)) #[.agg (cellsOf c)] rfl (by kernel_rfl) Try.call52 (fun _ h => h.call (V.out _)) ?_
  refine q_load 26 (.tmp 1) w.heap.size 26 (cellsOf c) _ rfl rfl rfl (fun _ h => h.1) Try.underlying26 rfl (info24' c) ?_
  refine q_call (.int .i64 (c 15 - c 16)) #[.agg (cellsOf c)] rfl (by kernel_rfl) Try.call53 (fun _ h => h.call (Y.out _)) ?_
  refine q_val (.int .i64 (perBlock c)) rfl (fun _ => by go_simp; rfl) ?_
  refine q_val (.int .i64 (perBlock c)) rfl (fun _ => by go_simp) ?_
  refine wpQuiet_nil ?_
  intro w1 hk
  have hc1 : w1.cell? ⟨w.heap.size, 0, none⟩ = some (.int .i64 (c 0)) := hk.1.cell 0
  have hbl := hk.2.1
  clear hk K0
  go_wp2_with (fail)
  go_ret
  exact ⟨ret_int HB.out.symm, hbl⟩

def epochOf (n L : Int) : Int := if n < 0 ∨ L < 1 then 0 else n / L
theorem epochOf_yes {n L : Int} (h0 : 0 ≤ n) (h1 : 1 ≤ L) : epochOf n L = n / L := if_neg (by omega)
theorem epochOf_any (n L : Int) (w : World) (h2 : 0 ≤ n) (hn : n ≤ 9223372036854775807) (h3 : 1 ≤ L) :
    Calls Try.prog 34 #[.int .i64 n, .int .i64 L] w fun e w' => e = .returned (.int .i64 (n / L)) ∧ w = w' := by
  have hd : decide (n < 0) = false := by simpa using h2
  have hd1 : decide (L < 1) = false := by simpa using h3
  have hz : (L == 0) = false := by simp; omega
  have q0 : 0 ≤ n / L := Int.ediv_nonneg (by omega) (by omega)
  have q1 : n / L ≤ n := Int.ediv_le_self _ (by omega)
  go_enter Try.func34, Try.ntmps34
  go_wp2
  go_ret
  exact ⟨rfl, rfl⟩
/-- P18.3. -/
def sweepN (c : Nat → Int) : Int := (blocks c - 1) / c 13
theorem sweepN_bd {c : Nat → Int} (hg : Good c) : 0 ≤ sweepN c ∧ sweepN c ≤ 4095 := by
  have h := blocks_bd hg
  have h1 := hg.len0
  unfold sweepN
  exact ⟨Int.ediv_nonneg (by omega) (by omega), Int.le_trans (Int.ediv_le_self _ (by omega)) (by omega)⟩
theorem sweep_any (c : Nat → Int) (hg : Good c) (w : World) :
    Calls Try.prog 18 #[.agg (cellsOf c)] w fun e w' => e = .returned (.int .i64 (sweepN c)) ∧ Below w.heap.size w w' := by
  have HB := Lib.hid (sweepBlocks_any c hg)
  have hb := blocks_bd hg
  have HE := Lib.hid (fun w => epochOf_any (blocks c - 1) (c 13) w (by omega) (by omega) hg.len0)
  have HS := Lib.hid (show sweepN c = (blocks c - 1) / c 13 from rfl)
  have K0 : Hid (Keeps w.heap.size w.heap.size 26 (cellsOf c) w (w.alloc (.cells (cellsOf c) 26))) := Lib.hid (Keeps.new (Below.refl _ _) (Nat.le_refl _))
  clear hg
  generalize blocks c = B at *
  go_enter Try.func18, Try.ntmps18
  go_wp2_with (first | (refine wpList_load_row rfl 26 _ rfl w.heap.size rfl 26 _ (0, 0) _ K0.out.1 Try.underlying26 rfl info24 ?_))
  refine (Keeps.call K0.out (HB.out _)).mono ?_
  rintro e w1 ⟨rfl, K1⟩
  have hc1 : w1.cell? ⟨w.heap.size, 13, none⟩ = some (.int .i64 (c 13)) := K1.1.cell 13
  have hbl := Lib.hid K1.2.1
  clear K1 K0 HB
  go_wp2_with (fail)
  refine (HE.out _).mono ?_
  rintro e w2 ⟨rfl, rfl⟩
  go_wp2_with (fail)
  go_ret
  exact ⟨ret_int HS.out.symm, hbl.out⟩
theorem refSweep_any (c : Nat → Int) (hg : Good c) (w : World) :
    Calls Try.prog 19 #[.agg (cellsOf c)] w fun e w' => e = .returned (.int .i64 (sweepN c)) ∧ Below w.heap.size w w' := by
  have HB := Lib.hid (refBlocks_any c hg)
  have hb := blocks_bd hg
  have hl := hg.len0
  have hl1 := hg.len1
  have hs := sweepN_bd hg
  have hz : (c 13 == 0) = false := by simp; omega
  have HS := Lib.hid (show sweepN c = (blocks c - 1) / c 13 from rfl)
  have hs2 : 0 ≤ (blocks c - 1) / c 13 ∧ (blocks c - 1) / c 13 ≤ 4095 := hs
  have K0 : Keeps w.heap.size w.heap.size 26 (cellsOf c) w (w.alloc (.cells (cellsOf c) 26)) := Keeps.new (Below.refl _ _) (Nat.le_refl _)
  have h13 : ∀ w', Blk w' w.heap.size 26 (cellsOf c) → w'.cell? ⟨w.heap.size, 13, none⟩ = some (.int .i64 (c 13)) := fun w' h => h.cell 13
  clear hg hs
  generalize blocks c = B at *
  go_enter Try.func19, Try.ntmps19
  go_wp2_with (fail)
  refine wp_region_class (Keeps w.heap.size w.heap.size 26 (cellsOf c) w) (by kernel_rfl) (by kernel_rfl) K0.drew ?_
  refine q_load 26 (.tmp 1) w.heap.size 26 (cellsOf c) _ rfl rfl rfl (fun _ h => h.1) Try.underlying26 rfl (info24' c) ?_
  refine q_call (.int .i64 B) #[.agg (cellsOf c)] rfl (by kernel_rfl) Try.call35 (fun _ h => h.call (HB.out _)) ?_
  refine q_val (.int .i64 (B - 1)) rfl (fun _ => by go_simp; exact IntWalk.i64_in _ (by omega)) ?_
  refine q_val (.pointer (some ⟨w.heap.size, 13, none⟩)) rfl (fun _ => by go_simp) ?_
  refine q_cell 3 _ ⟨w.heap.size, 13, none⟩ (.int .i64 (c 13)) rfl rfl rfl (fun w h => by simp [go_sem, h]) (fun w h => h13 w h.1) ?_
  refine q_val (.int .i64 ((B - 1) / c 13)) rfl (fun _ => by go_simp; rw [if_neg (by omega), Int.tdiv_eq_ediv_of_nonneg (by omega), IntWalk.i64_in _ (by omega)]) ?_
  refine q_val (.int .i64 ((B - 1) / c 13)) rfl (fun _ => by go_simp) ?_
  refine wpQuiet_nil ?_
  intro w1 hk
  have hbl := Lib.hid hk.2.1
  clear hk K0
  simp only [Act.put, List.setIfInBounds_toArray, List.set_cons_zero, List.set_cons_succ]
  go_wp2
  go_ret
  exact ⟨ret_int HS.out.symm, hbl.out⟩
end Go.Proofs.Ytjleklhajmhekaa
