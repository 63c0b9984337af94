/- LanesNil, class 0. (Written by mknil.py.) -/
import Derived.Test.YtlmjhggnecmggaaOneRow
import Derived.OpenShut
import Derived.LoopN
namespace Go.Proofs.Ytlmjhggnecmggaa
open Go Go.RowKit Go.OpenShut
set_option linter.unusedVariables false
set_option linter.unusedSimpArgs false

set_option maxRecDepth 100000 in
set_option maxHeartbeats 1600000 in
theorem nil_0 (a1 : Int) (w : World) : Calls Try.prog 8 #[.int .i64 0, .int .i64 a1] w fun e w' => e = .returned (.bool true) ∧ Below w.heap.size w w' := by
  have HN := Lib.hid (fun w => Own.new 3 w (by omega) (by omega))
  have HX := Lib.hid (fun w => alive_any w)
  go_enter Try.func8, Try.ntmps8
  go_wp2_with fail
  refine (pop_nil _).mono ?_
  rintro e w' ⟨rfl, rfl⟩
  go_wp2_with fail
  refine (head_nil _).mono ?_
  rintro e w' ⟨rfl, rfl⟩
  go_wp2_with fail
  refine (HN.out _).mono ?_
  rintro e w1 ⟨rfl, S1, O1⟩
  clear HN
  have HP : Hid (Calls Try.prog 13 #[.pointer (some ⟨w.heap.size, 0, none⟩), .int .i64 0, .int .i64 a1] w1 fun e w' => e = .returned (.int .i64 0) ∧ Went w w1 w.heap.size S1 3 [a1] [] w') := Lib.hid (by
    have := O1.out.push 0 a1
    exact this)
  go_wp2_with fail
  refine HP.out.mono ?_
  rintro e w2 ⟨rfl, S2, O2, _⟩
  clear HP O1
  go_wp2_with fail
  go_loopw [37] (fun s37 wr => ∃ k : Nat, k ≤ 2 ∧ s37 = .int .i64 k ∧ Hid (Own w wr w.heap.size S2 3 [a1] [])) (fun s37 _ => 2 - (intOf s37).toNat)
  case atStart => exact ⟨0, by omega, rfl, O2⟩
  case round =>
    clear O2
    obtain ⟨k, hk, rfl, O⟩ := hrel
    by_cases hlt : k < 2
    · have HA : Hid (Calls Try.prog 20 #[.pointer (some ⟨w.heap.size, 0, none⟩), .int .i64 0] wr (ListPost wr [a1])) := Lib.hid (by
        have := all_any 0 O.out.1
        exact this)
      go_wp2_with fail
      refine HA.out.mono ?_
      rintro e w3 ⟨v, rfl, ho, hb⟩
      have O3 := Lib.hid (O.out.below hb)
      have hwr := O.out.2.2.size
      have hw3 := hb.size
      obtain ⟨g, cp, rfl, hg1, hg2, hg3, hg4, hg5⟩ := own_one ho (S := S2) (fun i hi hs => by have := O.out.1.lt i hs; omega)
      have HB : Hid (Calls Try.prog 17 #[.pointer (some ⟨w.heap.size, 0, none⟩), .int .i64 0] w3 (ListPost w3 [a1])) := Lib.hid (by
        have := ahead_any 0 O3.out.1
        exact this)
      clear ho hb HA O
      go_wp2_with fail
      refine HB.out.mono ?_
      rintro e w4 ⟨v, rfl, ho, hb⟩
      have O4 := Lib.hid (O3.out.below hb)
      obtain ⟨h, cq, rfl, hh1, hh2, hh3, hh4, hh5⟩ := own_one ho (S := S2) (fun i hi hs => by have := O3.out.1.lt i hs; omega)
      have HGH : Hid (g ≠ h ∧ ¬ S2 g ∧ ¬ S2 h ∧ w.heap.size ≤ g ∧ w.heap.size ≤ h) := Lib.hid ⟨by omega, hg5.2, hh5.2, by omega, by omega⟩
      have c1 : w4.cell? ⟨g, 0, none⟩ = some (.int .i64 a1) := (hb.cell (p := ⟨g, 0, none⟩) hg2).trans hg3
      have f1 : w4.frozen? ⟨g, 0, none⟩ = false := (World.frozen?_of_block (a := ⟨g, 0, none⟩) (hb.block g hg2)).trans hg4
      clear ho hb HB O3 hwr hw3
      have C4 := Lib.hid (And.intro c1 (And.intro f1 (And.intro hh3 hh4)))
      have I1 : Hid (IntsAt w4 (fun _ => False) (some ⟨g, 0, none⟩) [a1]) := Lib.hid (ints_one c1)
      have I2 : Hid (IntsAt w4 (fun _ => False) (some ⟨h, 0, none⟩) [a1]) := Lib.hid (ints_one hh3)
      have HE : Hid (∀ c, Calls Try.prog 16 #[.slice (some ⟨g, 0, none⟩) 1 c, .slice (some ⟨w4.heap.size, 0, none⟩) 1 1] (w4.alloc (.cells #[.int .i64 a1] 3)) fun e w' => e = .returned (.bool true) ∧ ∃ q, w' = (w4.alloc (.cells #[.int .i64 a1] 3)).drewN q) := Lib.hid (fun c => equal_same (S2 := fun _ => False) (I1.out.kept (Kept.of_below (S := fun _ => False) ((Below.refl _ _).alloc (Nat.le_refl _) _)) (fun _ _ h => h)) (IntsAt.of_blk (L := [a1]) (Blk.new _ _ _) (fun h => h)) rfl (by omega))
      clear c1 f1 hg1 hg2 hg3 hg4 hg5 hh1 hh2 hh3 hh4 hh5
      go_wp2_with fail
      refine (HE.out _).mono ?_
      rintro e w5 ⟨rfl, q, hq⟩
      have K5 : Hid (Kept (fun _ => False) w4 w5) := by rw [hq]; exact Lib.hid (((Kept.refl _ _).alloc _).drewN q)
      have HE2 : Hid (∀ c, Calls Try.prog 16 #[.slice (some ⟨h, 0, none⟩) 1 c, .slice (some ⟨w5.heap.size, 0, none⟩) 1 1] (w5.alloc (.cells #[.int .i64 a1] 3)) fun e w' => e = .returned (.bool true) ∧ ∃ q, w' = (w5.alloc (.cells #[.int .i64 a1] 3)).drewN q) := Lib.hid (fun c => equal_same (S2 := fun _ => False) ((I2.out.kept K5.out (fun _ _ h => h)).kept (Kept.of_below (S := fun _ => False) ((Below.refl _ _).alloc (Nat.le_refl _) _)) (fun _ _ h => h)) (IntsAt.of_blk (L := [a1]) (Blk.new _ _ _) (fun h => h)) rfl (by omega))
      clear hq HE I1
      go_wp2_with fail
      refine (HE2.out _).mono ?_
      rintro e w6 ⟨rfl, q, hq⟩
      have K6 : Hid (Kept (fun _ => False) w4 w6) := by rw [hq]; exact Lib.hid (K5.out.trans (((Kept.refl _ _).alloc _).drewN q) (fun _ _ h => h))
      have O6 : Hid (Own w w6 w.heap.size S2 3 [a1] []) := Lib.hid (O4.out.kept K6.out (fun _ _ h => h) (fun _ h => h.elim))
      have c1 : w6.cell? ⟨g, 0, none⟩ = some (.int .i64 a1) := K6.out.cell (fun h => h) C4.out.1
      have f1 : w6.frozen? ⟨g, 0, none⟩ = false := (K6.out.frozen (p := ⟨g, 0, none⟩) (fun h => h) (cell_lt C4.out.1)).trans C4.out.2.1
      have C6 : Hid (w6.cell? ⟨h, 0, none⟩ = some (.int .i64 a1) ∧ w6.frozen? ⟨h, 0, none⟩ = false) := Lib.hid ⟨K6.out.cell (fun h => h) C4.out.2.2.1, (K6.out.frozen (p := ⟨h, 0, none⟩) (fun h => h) (cell_lt C4.out.2.2.1)).trans C4.out.2.2.2⟩
      clear hq HE2 K6 K5 C4 O4 I2
      go_wp2_with fail
      refine wp_loop_rounds 2 ?_
      rw [rounds_succ]
      go_wp2_with fail
      obtain ⟨u, hu⟩ : ∃ u, Value.int .i64 (wrap64 (a1 + 1)) = u := ⟨_, rfl⟩
      rw [hu]
      have O7 : Hid (Own w (w6.setCell ⟨g, 0, none⟩ u) w.heap.size S2 3 [a1] []) := Lib.hid (O6.out.kept (T := fun i => i = g) (kept_set _ _ _ _) (fun i hi e => HGH.out.2.1 (by have : i = g := e; rwa [this] at hi)) (fun i e => by have : i = g := e; have := HGH.out.2.2.2.1; omega))
      have c2 : (w6.setCell ⟨g, 0, none⟩ u).cell? ⟨h, 0, none⟩ = some (.int .i64 a1) := (kept_set w6 g 0 u).cell (fun e => HGH.out.1 (Eq.symm e)) C6.out.1
      have f2 : (w6.setCell ⟨g, 0, none⟩ u).frozen? ⟨h, 0, none⟩ = false := ((kept_set w6 g 0 u).frozen (p := ⟨h, 0, none⟩) (fun e => HGH.out.1 (Eq.symm e)) (cell_lt C6.out.1)).trans C6.out.2
      clear hu c1 f1 O6 C6
      generalize w6.setCell ⟨g, 0, none⟩ u = w7 at *
      rw [rounds_succ]
      go_wp2_with fail
      refine wp_loop_rounds 2 ?_
      rw [rounds_succ]
      go_wp2_with fail
      obtain ⟨u2, hu⟩ : ∃ u, Value.int .i64 (wrap64 (a1 - 1)) = u := ⟨_, rfl⟩
      rw [hu]
      have O9 : Hid (Own w (w7.setCell ⟨h, 0, none⟩ u2) w.heap.size S2 3 [a1] []) := Lib.hid (O7.out.kept (T := fun i => i = h) (kept_set _ _ _ _) (fun i hi e => HGH.out.2.2.1 (by have : i = h := e; rwa [this] at hi)) (fun i e => by have : i = h := e; have := HGH.out.2.2.2.2; omega))
      clear hu c2 f2 O7
      generalize w7.setCell ⟨h, 0, none⟩ u2 = w9 at *
      rw [rounds_succ]
      go_wp2_with fail
      go_roundw
      case rel => exact ⟨k + 1, by omega, by go_num, O9⟩
      case measure => simp [intOf]; omega
    · have hlt2 : ¬ (k : Int) < 2 := by omega
      clear hlt
      go_wp2_with fail
      refine (HX.out _).mono ?_
      rintro e w3 ⟨rfl, hb⟩
      have HB := Lib.hid (O.out.below hb).2.2
      clear hb O
      go_wp2_with fail
      refine (push_nil _ _ _).mono ?_
      rintro e w' ⟨rfl, rfl⟩
      go_wp2_with fail
      refine (len_nil _ _).mono ?_
      rintro e w' ⟨rfl, rfl⟩
      go_wp2_with fail
      refine (free_nil _ _).mono ?_
      rintro e w' ⟨rfl, rfl⟩
      go_wp2_with fail
      refine (all_nil _ _).mono ?_
      rintro e w' ⟨rfl, rfl⟩
      go_wp2_with fail
      refine (ahead_nil _ _).mono ?_
      rintro e w' ⟨rfl, rfl⟩
      go_wp2_with fail
      go_ret
      exact ⟨rfl, HB.out⟩
end Go.Proofs.Ytlmjhggnecmggaa
