/- The walk of ConfigFirst: a case. -/
import Derived.Test.YtlnpppifdobcfaaSetI
import Derived.Test.YtlnpppifdobcfaaSetN
import Derived.Deep.DeepCutAuto
namespace Go.Proofs.Ytlnpppifdobcfaa
open Go.RowKit
set_option linter.unusedVariables false

set_option maxHeartbeats 1000000 in
theorem first_amount (a0 : Nat → Int) (k : Nat) (a2 : Int) (w : World) (hz : chk a0 = 0) (hk : k < 20) (hi : isI k = false) : Calls Try.prog 4 #[.agg (cellsOf a0), .int .i64 ((k : Int) + 1), .int .u64 a2] w fun e w' => e = .returned (.bool true) ∧ Below w.heap.size w w' := by
  have R : Hid (∀ W, _) := Lib.hid (fun W => refCheck_any a0 W)
  rw [hz] at R
  have L := Lib.hid alive_any
  have S : Hid (∀ W, Calls Try.prog 13 #[.agg (cellsOf a0), .int .i64 ((k : Int) + 1), .int .u64 a2] W fun e w' => e = .returned (.tuple #[.agg (cellsOf (upd a0 k a2)), .bool true]) ∧ Below W.heap.size W w') := Lib.hid (fun W => set_amount a0 k a2 W hk hi)
  have I : Hid (∀ W, _) := Lib.hid (fun W => isInt_any ((k : Int) + 1) W)
  rw [isIB_isI k hk, hi] at I
  have hd1 : decide ((k : Int) + 1 < 1) = false := by simp; omega
  have hd2 : decide (20 < (k : Int) + 1) = false := by simp; omega
  have HF := Lib.hid (first_upd a0 k a2 hk hz)
  have C := Lib.hid (check_any (upd a0 k a2))
  have Q := Lib.hid (refCheck_any (upd a0 k a2))
  clear hz
  have K0 : Keeps w.heap.size w.heap.size 24 (cellsOf a0) w (w.alloc (.cells (cellsOf a0) 24)) := Keeps.new (Below.refl _ _) (Nat.le_refl _)
  unfold cellsOf
  go_enter Try.func4, Try.ntmps4
  go_upto_region 4 with (first
    | (refine wpList_load_rowG (o := ⟨_, .load 24 _, _, _, _, _⟩) rfl 24 _ rfl w.heap.size rfl 24 (cellsOf a0) (0, 0) _ K0.heap Try.underlying24 rfl info24 ?_)
    | (go_at_call 9; refine (Keeps.call K0 (R.out _)).mono ?_; rintro e w1 ⟨rfl, K1⟩; clear K0; have K0 := K1; clear K1)
    | (go_at_call 13; refine (Keeps.call K0 (S.out _)).mono ?_; rintro e w2 ⟨rfl, K2⟩; clear K0; have KD := Keeps.new (t := 24) (cs := cellsOf (upd a0 k a2)) K2.2.1 K2.2.2; clear K2)
    | (refine wpList_store_row (o := ⟨_, .store 24 _ _, _, _, _, _⟩) rfl _ _ _ rfl w2.heap.size (cellsOf (upd a0 k a2)) rfl rfl 24 _ (heap_alloc_new w2 _) info24 rfl (cells_one _) ?_; rw [World.setRow_alloc_new]))
  go_upto_region 7 with (first
    | (go_at_call 14; refine (I.out _).mono ?_; rintro e wI ⟨rfl, rfl⟩)
    | (refine wpList_load_rowG (o := ⟨_, .load 24 _, _, _, _, _⟩) rfl 24 _ rfl w2.heap.size rfl 24 (cellsOf (upd a0 k a2)) (0, 0) _ KD.heap Try.underlying24 rfl info24 ?_)
    | (go_at_call 11; refine (Keeps.call KD (C.out _)).mono ?_; rintro e w5 ⟨rfl, K5⟩; clear KD))
  generalize chk (upd a0 k a2) = n at HF C Q ⊢
  have hnn : (n == n) = true := by simp
  by_cases c1 : n = 0
  · subst c1
    go_wp2_with (first
      | (go_at_call 10; refine (Keeps.call K5 (L.out _)).mono ?_; rintro e w6 ⟨rfl, K6⟩)
      | (refine wpList_load_rowG (o := ⟨_, .load 24 _, _, _, _, _⟩) rfl 24 _ rfl w2.heap.size rfl 24 (cellsOf (upd a0 k a2)) (0, 0) _ K6.heap Try.underlying24 rfl info24 ?_)
      | (go_at_call 9; refine (Keeps.call K6 (Q.out _)).mono ?_; rintro e w7 ⟨rfl, K7⟩))
    go_ret
    exact ⟨rfl, K7.2.1⟩
  · have e1 : (n == 0) = false := by simpa using c1
    by_cases c2 : (k : Int) + 1 ≤ n
    · have e2 : decide ((k : Int) + 1 ≤ n) = true := by simpa using c2
      go_wp2_with (first
        | (go_at_call 10; refine (Keeps.call K5 (L.out _)).mono ?_; rintro e w6 ⟨rfl, K6⟩)
        | (refine wpList_load_rowG (o := ⟨_, .load 24 _, _, _, _, _⟩) rfl 24 _ rfl w2.heap.size rfl 24 (cellsOf (upd a0 k a2)) (0, 0) _ K6.heap Try.underlying24 rfl info24 ?_)
        | (go_at_call 9; refine (Keeps.call K6 (Q.out _)).mono ?_; rintro e w7 ⟨rfl, K7⟩))
      go_ret
      exact ⟨rfl, K7.2.1⟩
    · have h3 : (k : Int) + 1 = 20 ∧ n = 19 := by
        rcases HF.out with h | h | h
        · exact absurd h c1
        · exact absurd h c2
        · exact h
      have e2 : decide ((k : Int) + 1 ≤ n) = false := by simpa using c2
      have e3 : ((k : Int) + 1 == 20) = true := by simp; omega
      have e4 : (n == 19) = true := by simp; omega
      clear h3
      go_wp2_with (first
        | (go_at_call 10; refine (Keeps.call K5 (L.out _)).mono ?_; rintro e w6 ⟨rfl, K6⟩)
        | (refine wpList_load_rowG (o := ⟨_, .load 24 _, _, _, _, _⟩) rfl 24 _ rfl w2.heap.size rfl 24 (cellsOf (upd a0 k a2)) (0, 0) _ K6.heap Try.underlying24 rfl info24 ?_)
        | (go_at_call 9; refine (Keeps.call K6 (Q.out _)).mono ?_; rintro e w7 ⟨rfl, K7⟩))
      go_ret
      exact ⟨rfl, K7.2.1⟩
end Go.Proofs.Ytlnpppifdobcfaa
