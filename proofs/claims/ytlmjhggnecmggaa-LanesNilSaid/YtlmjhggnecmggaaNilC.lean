/- LanesNil, no such class. (Written by mknil.py.) -/
import Derived.Test.YtlmjhggnecmggaaOneRow
import Derived.OpenShut
import Derived.LoopN
namespace Go.Proofs.Ytlmjhggnecmggaa
open Go Go.RowKit Go.OpenShut
set_option linter.unusedVariables false
set_option linter.unusedSimpArgs false

set_option maxRecDepth 100000 in
set_option maxHeartbeats 1600000 in
theorem nil_no (a0 a1 : Int) (w : World) (c0 : a0 ≠ 0) (c1 : a0 ≠ 1) : Calls Try.prog 8 #[.int .i64 a0, .int .i64 a1] w fun e w' => e = .returned (.bool true) ∧ Below w.heap.size w w' := by
  have e0 : (a0 == 0) = false := by simpa using c0
  have e1 : (a0 == 1) = false := by simpa using c1
  have HC := Lib.hid (And.intro c0 c1)
  clear c0 c1
  have HN := Lib.hid (fun w => Own.new 3 w (by omega) (by omega))
  have HX := Lib.hid (fun w => alive_any w)
  go_enter Try.func8, Try.ntmps8
  go_wp2_with fail
  refine (pop_nil _).mono ?_
  rintro e w' ⟨rfl, rfl⟩
  go_wp2_with fail
  refine (head_nil _).mono ?_
  rintro e w' ⟨rfl, rfl⟩
  go_wp2_with fail
  refine (HN.out _).mono ?_
  rintro e w1 ⟨rfl, S1, O1⟩
  clear HN
  have HP : Hid (Calls Try.prog 13 #[.pointer (some ⟨w.heap.size, 0, none⟩), .int .i64 a0, .int .i64 a1] w1 fun e w' => e = .returned (.int .i64 11) ∧ Went w w1 w.heap.size S1 3 [] [] w') := Lib.hid (by
    have := O1.out.push a0 a1
    rw [show errP 3 [] [] a0 = 11 by simp [errP, HC.out.1, HC.out.2], show pushF 3 [] a0 a1 = [] by simp [pushF, HC.out.1], show pushV 3 [] a0 a1 = [] by simp [pushV, HC.out.2]] at this
    exact this)
  go_wp2_with fail
  refine HP.out.mono ?_
  rintro e w2 ⟨rfl, S2, O2, _⟩
  clear HP O1
  go_wp2_with fail
  go_loopw [37] (fun s37 wr => ∃ k : Nat, k ≤ 2 ∧ s37 = .int .i64 k ∧ Hid (Own w wr w.heap.size S2 3 [] [])) (fun s37 _ => 2 - (intOf s37).toNat)
  case atStart => exact ⟨0, by omega, rfl, O2⟩
  case round =>
    clear O2
    obtain ⟨k, hk, rfl, O⟩ := hrel
    by_cases hlt : k < 2
    · have HA : Hid (Calls Try.prog 20 #[.pointer (some ⟨w.heap.size, 0, none⟩), .int .i64 a0] wr (ListPost wr [])) := Lib.hid (by
        have := all_any a0 O.out.1
        rwa [laneL, if_neg HC.out.1, if_neg HC.out.2] at this)
      go_wp2_with fail
      refine HA.out.mono ?_
      rintro e w3 ⟨v, rfl, ho, hb⟩
      have O3 := Lib.hid (O.out.below hb)
      have hwr := O.out.2.2.size
      have hw3 := hb.size
      obtain ⟨a, cp, rfl, _, _, _, hi⟩ := ints_of_owns (L := []) (S := fun _ => False) ho (fun _ _ h => h)
      clear hi
      have HB : Hid (Calls Try.prog 17 #[.pointer (some ⟨w.heap.size, 0, none⟩), .int .i64 a0] w3 (ListPost w3 [])) := Lib.hid (by
        have := ahead_any a0 O3.out.1
        rwa [aheadL, if_neg HC.out.1, if_neg HC.out.2] at this)
      clear ho hb HA O
      go_wp2_with fail
      refine HB.out.mono ?_
      rintro e w4 ⟨v, rfl, ho, hb⟩
      have O4 := Lib.hid (O3.out.below hb)
      obtain ⟨b, cq, rfl, _, _, _, hi⟩ := ints_of_owns (L := []) (S := fun _ => False) ho (fun _ _ h => h)
      clear hi
      clear ho hb HB O3 hwr hw3
      go_wp2_with fail
      refine wp_loop_rounds 1 ?_
      rw [rounds_succ]
      go_wp2_with fail
      refine wp_loop_rounds 1 ?_
      rw [rounds_succ]
      go_wp2_with fail
      have O9 := O4
      go_roundw
      case rel => exact ⟨k + 1, by omega, by go_num, O9⟩
      case measure => simp [intOf]; omega
    · have hlt2 : ¬ (k : Int) < 2 := by omega
      clear hlt
      go_wp2_with fail
      refine (HX.out _).mono ?_
      rintro e w3 ⟨rfl, hb⟩
      have HB := Lib.hid (O.out.below hb).2.2
      clear hb O
      go_wp2_with fail
      refine (push_nil _ _ _).mono ?_
      rintro e w' ⟨rfl, rfl⟩
      go_wp2_with fail
      refine (len_nil _ _).mono ?_
      rintro e w' ⟨rfl, rfl⟩
      go_wp2_with fail
      refine (free_nil _ _).mono ?_
      rintro e w' ⟨rfl, rfl⟩
      go_wp2_with fail
      refine (all_nil _ _).mono ?_
      rintro e w' ⟨rfl, rfl⟩
      go_wp2_with fail
      refine (ahead_nil _ _).mono ?_
      rintro e w' ⟨rfl, rfl⟩
      go_wp2_with fail
      go_ret
      exact ⟨rfl, HB.out⟩
end Go.Proofs.Ytlmjhggnecmggaa
