/- The reference's Check: the first field that fails. -/
import Derived.Test.YtjleklhajmhekaaRight
import Derived.LoopTactic
namespace Go.Proofs.Ytjleklhajmhekaa
open Go.RowKit
set_option linter.unusedVariables false

theorem info24 : (Try.prog.info? 26).map (·.size) = some 20 := by kernel_rfl
theorem below_more {B : Nat} {w w1 w2 : World} (h : Below B w w1) (h2 : Below w1.heap.size w1 w2) (hB : B ≤ w1.heap.size) : Below B w w2 := h.trans (h2.mono hB)

theorem refCheck_any (c : Nat → Int) (w : World) :
    Calls Try.prog 9 #[.agg (cellsOf c)] w fun e w' => e = .returned (.int .i64 (chk c)) ∧ Below w.heap.size w w' := by
  unfold cellsOf
  go_enter Try.func9, Try.ntmps9
  go_wp2
  go_loopw [3] (fun v wr => ∃ k : Nat, k ≤ 20 ∧ v = .int .i64 ((k : Int) + 1) ∧ Before c k ∧ Blk wr w.heap.size 26 (cellsOf c) ∧ Below w.heap.size w wr) (fun v _ => (21 - intOf v).toNat)
  case atStart => exact ⟨0, by omega, rfl, before_zero c, Blk.new _ _ _, (Below.refl _ _).alloc (Nat.le_refl _) _⟩
  case round =>
    obtain ⟨k, hk, rfl, hbf, hb, hbel⟩ := hrel
    have hlt := hb.lt
    by_cases h20 : k < 20
    · cases hr : rightB c k with
      | false =>
        have R : Hid (∀ w', _) := Lib.hid (fun w' => right_any c k h20 w')
        rw [hr] at R
        have H := Lib.hid (chk_at h20 hbf hr)
        clear hr
        go_wp2_with (first
          | (refine wpList_load_row rfl 26 _ rfl w.heap.size rfl 26 _ (0, 0) _ hb Try.underlying26 rfl info24 ?_)
          | (go_at_call 23; refine (R.out _).mono ?_; rintro e w1 ⟨rfl, hb1⟩))
        go_ret
        exact ⟨ret_int H.out.symm, below_more hbel hb1 (by omega)⟩
      | true =>
        have R : Hid (∀ w', _) := Lib.hid (fun w' => right_any c k h20 w')
        rw [hr] at R
        have H := Lib.hid (before_succ hbf hr)
        clear hr
        go_wp2_with (first
          | (refine wpList_load_row rfl 26 _ rfl w.heap.size rfl 26 _ (0, 0) _ hb Try.underlying26 rfl info24 ?_)
          | (go_at_call 23; refine (R.out _).mono ?_; rintro e w1 ⟨rfl, hb1⟩))
        go_roundw
        case rel => exact ⟨k + 1, by omega, by go_num, H.out, hb.below hb1 hlt, below_more hbel hb1 (by omega)⟩
        case measure => simp [intOf]; omega
    · obtain rfl : k = 20 := by omega
      have H := Lib.hid (chk_none hbf)
      go_wp2
      go_ret
      exact ⟨ret_int H.out.symm, hbel⟩
end Go.Proofs.Ytjleklhajmhekaa
