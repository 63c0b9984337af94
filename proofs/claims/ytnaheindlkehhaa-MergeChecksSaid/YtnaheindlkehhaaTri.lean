/- Three boxes: two validators and a configuration. Check's three checks. -/
import Derived.Test.YtnaheindlkehhaaPlain
import Derived.Test.YtnaheindlkehhaaClass
import Derived.Test.YtnaheindlkehhaaRefCheck
import Derived.Test.YtnaheindlkehhaaOpen
import Derived.Deep.DeepCutAuto
import Derived.Deep.QuietTactic
import Derived.LoopTactic
namespace Go.Proofs.Ytnaheindlkehhaa
open Go Go.RowKit Go.Deep
set_option linter.unusedVariables false
set_option linter.unusedSimpArgs false
set_option maxRecDepth 100000

theorem tri_three (w : World) (A B : Obj) (cs : Array Value) (t : TypeId) : Blk (((w.alloc A).alloc B).alloc (.cells cs t)) (w.heap.size + 2) t cs := by
  have := Blk.new ((w.alloc A).alloc B) t cs
  simpa using this
theorem tri_two (w : World) (A : Obj) (cs : Array Value) (t : TypeId) : Blk ((w.alloc A).alloc (.cells cs t)) (w.heap.size + 1) t cs := by
  have := Blk.new (w.alloc A) t cs
  simpa using this
/-- A function's three boxes. -/
def Tri (w W : World) (s d : Val) (c : Nat → Int) : Prop :=
  Blk W w.heap.size 24 (cellsV s) ∧ Blk W (w.heap.size + 1) 24 (cellsV d) ∧ Blk W (w.heap.size + 2) 26 (cellsOf c) ∧ Below w.heap.size w W
section
variable {w W W' : World} {s d : Val} {c : Nat → Int}
theorem Tri.new (w : World) (s d : Val) (c : Nat → Int) : Tri w (((w.alloc (.cells (cellsV s) 24)).alloc (.cells (cellsV d) 24)).alloc (.cells (cellsOf c) 26)) s d c :=
  ⟨Blk.alloc (Blk.alloc (Blk.new w _ _) _) _, Blk.alloc (tri_two w _ _ _) _, tri_three w _ _ _ _, (((Below.refl _ _).alloc (Nat.le_refl _) _).alloc (by simp) _).alloc (by simp <;> omega) _⟩
theorem Tri.next (h : Tri w W s d c) (hb : Below W.heap.size W W') : Tri w W' s d c :=
  ⟨h.1.below hb h.1.lt, h.2.1.below hb h.2.1.lt, h.2.2.1.below hb h.2.2.1.lt, h.2.2.2.trans (hb.mono h.2.2.2.size)⟩
theorem Tri.drewN (h : Tri w W s d c) (n : Nat) : Tri w (W.drewN n) s d c := ⟨h.1, h.2.1, h.2.2.1, below_drewN h.2.2.2 n⟩
theorem Tri.cells (h : Tri w W s d c) : W.cell? ⟨w.heap.size, 0, none⟩ = some (.int .u64 s.bal) ∧ W.cell? ⟨w.heap.size, 1, none⟩ = some (.int .i64 s.st) ∧ W.cell? ⟨w.heap.size, 2, none⟩ = some (.bool s.sl) ∧
    W.cell? ⟨w.heap.size + 1, 0, none⟩ = some (.int .u64 d.bal) ∧ W.cell? ⟨w.heap.size + 1, 1, none⟩ = some (.int .i64 d.st) ∧ W.cell? ⟨w.heap.size + 1, 2, none⟩ = some (.bool d.sl) ∧ W.cell? ⟨w.heap.size + 2, 6, none⟩ = some (.int .u64 (c 6)) ∧ W.cell? ⟨w.heap.size + 2, 17, none⟩ = some (.int .i64 (c 17)) :=
  ⟨h.1.cell 0, h.1.cell 1, h.1.cell 2, h.2.1.cell 0, h.2.1.cell 1, h.2.1.cell 2, h.2.2.1.cell 6, h.2.2.1.cell 17⟩
end

theorem idle_any (s d : Val) (c : Nat → Int) (w : World) :
    Calls Try.prog 37 #[.agg (cellsV s), .agg (cellsV d), .agg (cellsOf c)] w fun e w' => e = .returned (.bool (idleB s d)) ∧ Below w.heap.size w w' := by
  have T := Tri.new w s d c
  obtain ⟨-, x1, -, -, x2, -, -, -⟩ := T.cells
  have HT := Lib.hid T
  clear T
  by_cases hs : s.st = 2
  · have qs : (s.st != 2) = false := by simpa using hs
    by_cases hd : d.st = 2
    · have qd : (d.st != 2) = false := by simpa using hd
      have H : Hid (idleB s d = false) := Lib.hid (by simp [idleB, hs, hd])
      clear hs hd
      go_enter Try.func37, Try.ntmps37
      go_upto_region 1 with (fail)
      generalize ((w.alloc (.cells (cellsV s) 24)).alloc (.cells (cellsV d) 24)).alloc (.cells (cellsOf c) 26) = W at *
      go_wp2
      go_ret
      exact ⟨ret_bool H.out.symm, HT.out.2.2.2⟩
    · have qd : (d.st != 2) = true := by simpa using hd
      have H : Hid (idleB s d = true) := Lib.hid (by simp [idleB, hs, hd])
      clear hs hd
      go_enter Try.func37, Try.ntmps37
      go_upto_region 1 with (fail)
      generalize ((w.alloc (.cells (cellsV s) 24)).alloc (.cells (cellsV d) 24)).alloc (.cells (cellsOf c) 26) = W at *
      go_wp2
      go_ret
      exact ⟨ret_bool H.out.symm, HT.out.2.2.2⟩
  · have qs : (s.st != 2) = true := by simpa using hs
    have H : Hid (idleB s d = true) := Lib.hid (by simp [idleB, hs])
    clear hs
    go_enter Try.func37, Try.ntmps37
    go_upto_region 1 with (fail)
    generalize ((w.alloc (.cells (cellsV s) 24)).alloc (.cells (cellsV d) 24)).alloc (.cells (cellsOf c) 26) = W at *
    go_wp2
    go_ret
    exact ⟨ret_bool H.out.symm, HT.out.2.2.2⟩
theorem slashed_any (s d : Val) (c : Nat → Int) (w : World) :
    Calls Try.prog 38 #[.agg (cellsV s), .agg (cellsV d), .agg (cellsOf c)] w fun e w' => e = .returned (.bool (slashB s d)) ∧ Below w.heap.size w w' := by
  have T := Tri.new w s d c
  obtain ⟨-, -, x1, -, -, x2, -, -⟩ := T.cells
  have HT := Lib.hid T
  clear T
  cases hs : s.sl with
  | true =>
    rw [hs] at x1
    have H : Hid (slashB s d = true) := Lib.hid (by simp [slashB, hs])
    clear hs
    go_enter Try.func38, Try.ntmps38
    go_upto_region 1 with (fail)
    generalize ((w.alloc (.cells (cellsV s) 24)).alloc (.cells (cellsV d) 24)).alloc (.cells (cellsOf c) 26) = W at *
    go_wp2
    go_ret
    exact ⟨ret_bool H.out.symm, HT.out.2.2.2⟩
  | false =>
    rw [hs] at x1
    have H : Hid (slashB s d = d.sl) := Lib.hid (by simp [slashB, hs])
    clear hs
    go_enter Try.func38, Try.ntmps38
    go_upto_region 1 with (fail)
    generalize ((w.alloc (.cells (cellsV s) 24)).alloc (.cells (cellsV d) 24)).alloc (.cells (cellsOf c) 26) = W at *
    go_wp2
    go_ret
    exact ⟨ret_bool H.out.symm, HT.out.2.2.2⟩
/-- The sum of two amounts, as Add tells it. -/
theorem two_sum (x y : Int) : sumTo [x, y] 2 = x + y := by simp [sumTo]
theorem two_range {x y : Int} (hx : 0 ≤ x ∧ x ≤ 18446744073709551615) (hy : 0 ≤ y ∧ y ≤ 18446744073709551615) : ∀ i, 0 ≤ [x, y].getD i 0 ∧ [x, y].getD i 0 ≤ 18446744073709551615
  | 0 => hx
  | 1 => hy
  | i + 2 => by simp
theorem excessive_any (s d : Val) (c : Nat → Int) (w : World) (hs : FitsV s) (hd : FitsV d) :
    Calls Try.prog 39 #[.agg (cellsV s), .agg (cellsV d), .agg (cellsOf c)] w fun e w' => e = .returned (.bool (overB s d (c 6))) ∧ Below w.heap.size w w' := by
  have T := Tri.new w s d c
  obtain ⟨x1, -, -, x2, -, -, x3, -⟩ := T.cells
  have HT := Lib.hid T
  have HA := Lib.hid (fun (b : Nat) (w : World) (h0 : w.cell? ⟨b, 0, none⟩ = some (.int .u64 s.bal)) (h1 : w.cell? ⟨b, 1, none⟩ = some (.int .u64 d.bal)) => add_row b 0 2 2 [s.bal, d.bal] w (by omega) (fun i hi => by
    have : i = 0 ∨ i = 1 := by omega
    rcases this with rfl | rfl
    · exact h0
    · exact h1) (two_range hs.bal hd.bal))
  clear T
  by_cases h1 : s.bal + d.bal ≤ 18446744073709551615
  · have e := add_yes (z := [s.bal, d.bal]) (n := 2) (by rw [two_sum]; exact h1)
    rw [two_sum] at e
    rw [e.1, e.2] at HA
    obtain ⟨t, ht⟩ : ∃ t, s.bal + d.bal = t := ⟨_, rfl⟩
    rw [ht] at HA
    by_cases h2 : c 6 < t
    · have H : Hid (overB s d (c 6) = true) := Lib.hid (by simp [overB, ht]; omega)
      have q2 : decide (c 6 < t) = true := by simpa using h2
      clear hs hd h1 e ht h2
      go_enter Try.func39, Try.ntmps39
      go_upto_region 1 with (fail)
      generalize ((w.alloc (.cells (cellsV s) 24)).alloc (.cells (cellsV d) 24)).alloc (.cells (cellsOf c) 26) = W at *
      go_wp2_with fail
      refine (HA.out _ _ ((Blk.new W _ _).cell 0) ((Blk.new W _ _).cell 1)).mono ?_
      rintro e w1 ⟨rfl, rfl⟩
      have T2 := Lib.hid (HT.out.next ((Below.refl _ W).alloc (Nat.le_refl _) (.cells #[.int .u64 s.bal, .int .u64 d.bal] 22)))
      clear x1 x2 x3 HT HA
      generalize W.alloc (.cells #[.int .u64 s.bal, .int .u64 d.bal] 22) = W2 at *
      obtain ⟨-, -, -, -, -, -, x3, -⟩ := T2.out.cells
      go_wp2_with fail
      go_ret
      exact ⟨ret_bool H.out.symm, T2.out.2.2.2⟩
    · have H : Hid (overB s d (c 6) = false) := Lib.hid (by simp [overB, ht]; omega)
      have q2 : decide (c 6 < t) = false := by simpa using h2
      clear hs hd h1 e ht h2
      go_enter Try.func39, Try.ntmps39
      go_upto_region 1 with (fail)
      generalize ((w.alloc (.cells (cellsV s) 24)).alloc (.cells (cellsV d) 24)).alloc (.cells (cellsOf c) 26) = W at *
      go_wp2_with fail
      refine (HA.out _ _ ((Blk.new W _ _).cell 0) ((Blk.new W _ _).cell 1)).mono ?_
      rintro e w1 ⟨rfl, rfl⟩
      have T2 := Lib.hid (HT.out.next ((Below.refl _ W).alloc (Nat.le_refl _) (.cells #[.int .u64 s.bal, .int .u64 d.bal] 22)))
      clear x1 x2 x3 HT HA
      generalize W.alloc (.cells #[.int .u64 s.bal, .int .u64 d.bal] 22) = W2 at *
      obtain ⟨-, -, -, -, -, -, x3, -⟩ := T2.out.cells
      go_wp2_with fail
      go_ret
      exact ⟨ret_bool H.out.symm, T2.out.2.2.2⟩
  · have e := add_not (z := [s.bal, d.bal]) (n := 2) (by rw [two_sum]; exact h1)
    rw [e.1, e.2] at HA
    have H : Hid (overB s d (c 6) = true) := Lib.hid (by simp [overB]; omega)
    clear hs hd h1 e
    go_enter Try.func39, Try.ntmps39
    go_upto_region 1 with (fail)
    generalize ((w.alloc (.cells (cellsV s) 24)).alloc (.cells (cellsV d) 24)).alloc (.cells (cellsOf c) 26) = W at *
    go_wp2_with fail
    refine (HA.out _ _ ((Blk.new W _ _).cell 0) ((Blk.new W _ _).cell 1)).mono ?_
    rintro e w1 ⟨rfl, rfl⟩
    have T2 := Lib.hid (HT.out.next ((Below.refl _ W).alloc (Nat.le_refl _) (.cells #[.int .u64 s.bal, .int .u64 d.bal] 22)))
    clear x1 x2 x3 HT HA
    generalize W.alloc (.cells #[.int .u64 s.bal, .int .u64 d.bal] 22) = W2 at *
    obtain ⟨-, -, -, -, -, -, x3, -⟩ := T2.out.cells
    go_wp2_with fail
    go_ret
    exact ⟨ret_bool H.out.symm, T2.out.2.2.2⟩
end Go.Proofs.Ytnaheindlkehhaa
