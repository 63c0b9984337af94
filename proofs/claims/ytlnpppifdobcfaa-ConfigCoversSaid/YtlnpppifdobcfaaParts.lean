/- Valid, the two defaults, the sweep's numbers, the reference's blocks, IsInt. -/
import Derived.Test.YtlnpppifdobcfaaCheckC
namespace Go.Proofs.Ytlnpppifdobcfaa
open Go.RowKit
set_option linter.unusedVariables false

/-- What the sweep's numbers need of a configuration. -/
structure Good (c : Nat → Int) : Prop where
  cap0 : 1 ≤ c 0
  cap1 : c 0 ≤ 4096
  part : 0 ≤ c 16
  vis0 : c 16 < c 14
  pay0 : c 16 < c 15
  vis1 : c 14 ≤ 4096
  pay1 : c 15 ≤ 4096
theorem btw_spec {v lo hi : Int} (h : btw v lo hi = true) : lo ≤ v ∧ v ≤ hi := by unfold btw at h; simpa using h
theorem good_of_before {c : Nat → Int} (h : Before c 20) : Good c := by
  have h0 := btw_spec (h 0 (by omega))
  have h14 := btw_spec (h 14 (by omega))
  have h15 := btw_spec (h 15 (by omega))
  have h16 : decide (0 ≤ c 16 ∧ c 16 < c 14 ∧ c 16 < c 15) = true := h 16 (by omega)
  simp at h16
  exact ⟨h0.1, h0.2, h16.1, h16.2.1, h16.2.2, h14.2, h15.2⟩
theorem good_of_chk {c : Nat → Int} (h : chk c = 0) : Good c := by
  rcases chk_cases c with ⟨_, hb⟩ | ⟨k, _, _, _, e⟩
  · exact good_of_before hb
  · omega

theorem valid_any (c : Nat → Int) (w : World) :
    Calls Try.prog 12 #[.agg (cellsOf c)] w fun e w' => e = .returned (.bool (chk c == 0)) ∧ Below w.heap.size w w' := by
  have R := Lib.hid (check_any c)
  unfold cellsOf
  go_enter Try.func12, Try.ntmps12
  go_wp2_with (first | (refine wpList_load_row rfl 24 _ rfl w.heap.size rfl 24 _ (0, 0) _ (Blk.new w 24 (cellsOf c)) Try.underlying24 rfl info24 ?_) | (go_at_call 11; refine (R.out _).mono ?_; rintro e w1 ⟨rfl, hb1⟩))
  go_ret
  exact ⟨rfl, ((Below.refl _ _).alloc (Nat.le_refl _) _).trans (hb1.mono (by simp))⟩

def dflt : Nat → Int
  | 0 => 16
  | 1 => 8
  | 2 => 16
  | 3 => 64
  | 4 => 1024
  | 5 => 8
  | 6 => 128
  | 7 => 32
  | 8 => 4
  | 9 => 64
  | 10 => 2
  | 11 => 5
  | 12 => 4
  | 13 => 4
  | 14 => 6
  | 15 => 4
  | 16 => 2
  | 17 => 2
  | 18 => 1
  | 19 => 4
  | _ => 0
theorem dflt_chk : chk dflt = 0 := by decide +kernel
theorem cells_one (c : Nat → Int) : (cellsOf c).all (·.oneCell') = true := by kernel_rfl
theorem default_any (w : World) : Calls Try.prog 16 #[] w fun e w' => e = .returned (.agg (cellsOf dflt)) ∧ Below w.heap.size w w' := by
  go_enter Try.func16, Try.ntmps16
  go_wp2_with (first | (refine wpList_build rfl 24 _ rfl (by kernel_rfl) ?_; rw [show (Try.prog.built 24 _).getD #[] = cellsOf dflt from by kernel_rfl]) | (refine wpList_store_row rfl _ _ _ rfl w.heap.size (cellsOf dflt) rfl rfl 24 _ (heap_alloc_new w _) info24 rfl (cells_one _) ?_; rw [World.setRow_alloc_new]))
  exact bodyPost_ret (v := .agg (cellsOf dflt)) (results_cell_row (fn := Try.f16) rfl _ _ w.heap.size 24 (cellsOf dflt) (0, 0) _ rfl (heap_alloc_new w _) Try.underlying24 rfl info24) rfl ⟨rfl, (Below.refl _ _).alloc (Nat.le_refl _) _⟩
theorem refDefault_any (w : World) : Calls Try.prog 17 #[] w fun e w' => e = .returned (.agg (cellsOf dflt)) ∧ Below w.heap.size w w' := by
  go_enter Try.func17, Try.ntmps17
  go_wp2_with (first | (refine wpList_build rfl 24 _ rfl (by kernel_rfl) ?_; rw [show (Try.prog.built 24 _).getD #[] = cellsOf dflt from by kernel_rfl]) | (refine wpList_store_row rfl _ _ _ rfl w.heap.size (cellsOf dflt) rfl rfl 24 _ (heap_alloc_new w _) info24 rfl (cells_one _) ?_; rw [World.setRow_alloc_new]))
  exact bodyPost_ret (v := .agg (cellsOf dflt)) (results_cell_row (fn := Try.f17) rfl _ _ w.heap.size 24 (cellsOf dflt) (0, 0) _ rfl (heap_alloc_new w _) Try.underlying24 rfl info24) rfl ⟨rfl, (Below.refl _ _).alloc (Nat.le_refl _) _⟩

theorem visits_any (c : Nat → Int) (hg : Good c) (w : World) :
    Calls Try.prog 18 #[.agg (cellsOf c)] w fun e w' => e = .returned (.int .i64 (c 14 - c 16)) ∧ Below w.heap.size w w' := by
  obtain ⟨g0, g1, g2, g3, g4, g5, g6⟩ := hg
  unfold cellsOf
  go_enter Try.func18, Try.ntmps18
  go_wp2
  go_ret
  exact ⟨rfl, (Below.refl _ _).alloc (Nat.le_refl _) _⟩
theorem payments_any (c : Nat → Int) (hg : Good c) (w : World) :
    Calls Try.prog 19 #[.agg (cellsOf c)] w fun e w' => e = .returned (.int .i64 (c 15 - c 16)) ∧ Below w.heap.size w w' := by
  obtain ⟨g0, g1, g2, g3, g4, g5, g6⟩ := hg
  unfold cellsOf
  go_enter Try.func19, Try.ntmps19
  go_wp2
  go_ret
  exact ⟨rfl, (Below.refl _ _).alloc (Nat.le_refl _) _⟩

def perBlock (c : Nat → Int) : Int := min (c 14 - c 16) (c 15 - c 16)
def blocks (c : Nat → Int) : Int := (c 0 - 1) / perBlock c + 1
theorem perBlock_bd {c : Nat → Int} (hg : Good c) : 1 ≤ perBlock c ∧ perBlock c ≤ 4096 := by
  obtain ⟨g0, g1, g2, g3, g4, g5, g6⟩ := hg
  unfold perBlock; omega
theorem blocks_ref {c : Nat → Int} (hg : Good c) : (c 0 + perBlock c - 1) / perBlock c = blocks c := by
  have h := perBlock_bd hg
  unfold blocks
  rw [show c 0 + perBlock c - 1 = (c 0 - 1) + 1 * perBlock c by omega, Int.add_mul_ediv_right _ _ (by omega)]
theorem quot_bd {c : Nat → Int} (hg : Good c) : 0 ≤ (c 0 - 1) / perBlock c ∧ (c 0 - 1) / perBlock c ≤ 4095 := by
  have h := perBlock_bd hg
  obtain ⟨g0, g1, g2, g3, g4, g5, g6⟩ := hg
  exact ⟨Int.ediv_nonneg (by omega) (by omega), Int.le_trans (Int.ediv_le_self _ (by omega)) (by omega)⟩
theorem blocks_bd {c : Nat → Int} (hg : Good c) : 1 ≤ blocks c ∧ blocks c ≤ 4096 := by
  have := quot_bd hg; unfold blocks; omega
/-- The blocks cover the registry; one less does not. -/
theorem blocks_cover {c : Nat → Int} (hg : Good c) : c 0 ≤ blocks c * perBlock c ∧ (blocks c - 1) * perBlock c < c 0 := by
  have h := perBlock_bd hg
  have e : blocks c = (c 0 - 1) / perBlock c + 1 := rfl
  have h1 := Int.mul_ediv_add_emod (c 0 - 1) (perBlock c)
  have h2 := Int.emod_nonneg (c 0 - 1) (show perBlock c ≠ 0 by omega)
  have h3 := Int.emod_lt_of_pos (c 0 - 1) (show 0 < perBlock c by omega)
  rw [Int.mul_comm] at h1
  rw [e, Int.add_mul]
  constructor
  · omega
  · rw [show (c 0 - 1) / perBlock c + 1 - 1 = (c 0 - 1) / perBlock c by omega]; omega

def isIB (n : Int) : Bool := decide (n ≤ 2 ∨ (11 ≤ n ∧ n ≤ 18))
theorem isInt_any (n : Int) (w : World) : Calls Try.prog 14 #[.int .i64 n] w fun e w' => e = .returned (.bool (isIB n)) ∧ w = w' := by
  by_cases h1 : n ≤ 2
  · have hd : decide (n ≤ 2) = true := by simpa using h1
    have H := Lib.hid (show isIB n = true by simp [isIB, h1])
    go_enter Try.func14, Try.ntmps14
    go_wp2
    go_ret
    exact ⟨ret_bool H.out.symm, rfl⟩
  · have hd : decide (n ≤ 2) = false := by simpa using h1
    by_cases h2 : 11 ≤ n
    · have hd2 : decide (11 ≤ n) = true := by simpa using h2
      have H := Lib.hid (show isIB n = decide (n ≤ 18) by simp [isIB, h1, h2])
      go_enter Try.func14, Try.ntmps14
      go_wp2
      go_ret
      exact ⟨ret_bool H.out.symm, rfl⟩
    · have hd2 : decide (11 ≤ n) = false := by simpa using h2
      have H := Lib.hid (show isIB n = false by simp [isIB, h2]; omega)
      go_enter Try.func14, Try.ntmps14
      go_wp2
      go_ret
      exact ⟨ret_bool H.out.symm, rfl⟩
theorem isIB_isI (k : Nat) (hk : k < 20) : isIB ((k : Int) + 1) = isI k := by
  unfold isIB isI
  rw [Bool.eq_iff_iff]; simp; omega
end Go.Proofs.Ytlnpppifdobcfaa
