/- The walk of MergeRequests (written by mkreqs.py). -/
import Derived.Test.YtnaheindlkehhaaBox
namespace Go.Proofs.Ytnaheindlkehhaa
open Go Go.RowKit Go.Deep
set_option linter.unusedVariables false
set_option linter.unusedSimpArgs false
set_option maxRecDepth 100000

set_option maxHeartbeats 800000 in
theorem bail_MergeRequests (a0 : Option Addr) (len0 cap0 : Nat) (a1 : Int × Int) (a2 : Nat → Int) (w : World) (h : chk a2 ≠ 0 ∨ 60 < len0) :
    Calls Try.prog 4 #[.slice a0 len0 cap0, .agg (cellsP a1), .agg (cellsOf a2)] w fun e w' => e = .returned (.bool true) ∧ Below w.heap.size w w' := by
  have T0 := Lib.hid (PBox.new w a1 a2)
  have HK := Lib.hid (refCheck_any a2)
  have HV := Lib.hid alive_any
  by_cases hc : chk a2 = 0
  · rw [hc] at HK
    have d1 : decide ((60 : Int) < (len0 : Int)) = true := decide_eq_true (by omega)
    clear h hc
    go_enter Try.func4, Try.ntmps4
    go_upto_region 1 with (fail)
    generalize (w.alloc (.cells (cellsP a1) 37)).alloc (.cells (cellsOf a2) 26) = W at *
    go_wp2_with (first | (refine wpList_load_row rfl 26 _ rfl (w.heap.size + 1) rfl 26 _ (0, 0) _ T0.out.2.1 Try.underlying26 rfl info24 ?_))
    refine (HK.out _).mono ?_
    rintro e w1 ⟨rfl, b1⟩
    have T1 := Lib.hid (T0.out.next b1)
    clear b1 T0 HK
    go_wp2_with fail
    refine (HV.out _).mono ?_
    rintro e w2 ⟨rfl, b2⟩
    have T2 := Lib.hid (T1.out.next b2)
    clear b2 T1
    go_wp2
    go_ret
    exact ⟨rfl, T2.out.2.2⟩
  · have hn : (chk a2 != 0) = true := by simpa using hc
    generalize chk a2 = x at *
    clear hc h
    go_enter Try.func4, Try.ntmps4
    go_upto_region 1 with (fail)
    generalize (w.alloc (.cells (cellsP a1) 37)).alloc (.cells (cellsOf a2) 26) = W at *
    go_wp2_with (first | (refine wpList_load_row rfl 26 _ rfl (w.heap.size + 1) rfl 26 _ (0, 0) _ T0.out.2.1 Try.underlying26 rfl info24 ?_))
    refine (HK.out _).mono ?_
    rintro e w1 ⟨rfl, b1⟩
    have T1 := Lib.hid (T0.out.next b1)
    clear b1 T0 HK
    go_wp2_with fail
    refine (HV.out _).mono ?_
    rintro e w2 ⟨rfl, b2⟩
    have T2 := Lib.hid (T1.out.next b2)
    clear b2 T1
    go_wp2
    go_ret
    exact ⟨rfl, T2.out.2.2⟩
set_option maxHeartbeats 1600000 in
theorem good_MergeRequests (a0 : Option Addr) (cap0 : Nat) (l : List Val) (a1 : Int × Int) (a2 : Nat → Int) (w : World) (hc : chk a2 = 0) (hl : l.length ≤ 60) (hf : ∀ v ∈ l, FitsV v) (hL : Lst w (fun _ => False) a0 l) :
    Calls Try.prog 4 #[.slice a0 l.length cap0, .agg (cellsP a1), .agg (cellsOf a2)] w fun e w' => e = .returned (.bool true) ∧ Below w.heap.size w w' := by
  have T0 := Lib.hid (PBox.new w a1 a2)
  have HK := Lib.hid (refCheck_any a2)
  have HV := Lib.hid alive_any
  rw [hc] at HK
  obtain ⟨p1, p2⟩ := a1
  have HA := Lib.hid (fun (w : World) (h : Lst w (fun _ => False) a0 l) => request_any (fun _ => False) a0 l cap0 (p1, p2) a2 w h hf)
  have HB := Lib.hid (fun (w : World) (h : Lst w (fun _ => False) a0 l) => refreq_any (fun _ => False) a0 l cap0 (p1, p2) a2 w h hf)
  obtain ⟨r, hr⟩ : ∃ r, reqM l (p1, p2) (a2 6) = r := ⟨_, rfl⟩
  rw [hr] at HA HB
  simp only at HA HB
  have d1 : decide ((60 : Int) < (l.length : Int)) = false := decide_eq_false (by omega)
  have HL0 := Lib.hid hL
  obtain ⟨n, hn⟩ : ∃ n, l.length = n := ⟨_, rfl⟩
  rw [hn] at HA HB d1 ⊢
  have hrr : (r == r) = true := by simp
  clear hc hf hL hn hl hr
  go_enter Try.func4, Try.ntmps4
  go_upto_region 1 with (fail)
  generalize (w.alloc (.cells (cellsP (p1, p2)) 37)).alloc (.cells (cellsOf a2) 26) = W at *
  go_wp2_with (first | (refine wpList_load_row rfl 26 _ rfl (w.heap.size + 1) rfl 26 _ (0, 0) _ T0.out.2.1 Try.underlying26 rfl info24 ?_))
  refine (HK.out _).mono ?_
  rintro e w1 ⟨rfl, b1⟩
  have T1 := Lib.hid (T0.out.next b1)
  clear b1 T0 HK
  have HL : Hid (Lst w1 (fun _ => False) a0 l) := Lib.hid (HL0.out.below T1.out.2.2)
  go_wp2
  refine wp_region_class (fun w' => Below w1.heap.size w1 w') (by kernel_rfl) (by kernel_rfl) (Below.refl _ _).drew ?_
  refine q_call (.bool true) #[] (by kernel_rfl) (by kernel_rfl) Try.call10 (fun w' h => (HV.out w').mono fun e w'' ⟨he, hb⟩ => ⟨he, h.trans (hb.mono h.size)⟩) ?_
  simp only [Act.put, List.setIfInBounds_toArray, List.set_cons_zero, List.set_cons_succ]
  iterate 1 (go_big_quiet_step ((intros; rfl)))
  iterate 2 (go_big_quiet_step ((intros; rfl)))
  refine q_cell 3 _ ⟨w.heap.size, 0, none⟩ (.int .i64 p1) rfl rfl rfl (fun w h => by simp [go_sem, h]) (fun w' h => (h.cell (p := ⟨w.heap.size, 0, none⟩) T1.out.1.lt).trans (T1.out.1.cell 0)) ?_
  simp only [Act.put, List.setIfInBounds_toArray, List.set_cons_zero, List.set_cons_succ]
  iterate 1 (go_big_quiet_step ((intros; rfl)))
  refine q_cell 3 _ ⟨w.heap.size, 1, none⟩ (.int .i64 p2) rfl rfl rfl (fun w h => by simp [go_sem, h]) (fun w' h => (h.cell (p := ⟨w.heap.size, 1, none⟩) T1.out.1.lt).trans (T1.out.1.cell 1)) ?_
  simp only [Act.put, List.setIfInBounds_toArray, List.set_cons_zero, List.set_cons_succ]
  refine q_load 26 _ (w.heap.size + 1) 26 (cellsOf a2) _ rfl rfl rfl (fun w' h => T1.out.2.1.below h T1.out.2.1.lt) Try.underlying26 rfl info24 ?_
  simp only [Act.put, List.setIfInBounds_toArray, List.set_cons_zero, List.set_cons_succ]
  refine q_call (.int .i64 r) #[.slice a0 n cap0, .int .i64 p1, .int .i64 p2, .agg (cellsOf a2)] (by kernel_rfl) (by kernel_rfl) Try.call15 (fun w' h => (HA.out w' (HL.out.below h)).mono fun e w'' ⟨he, hb⟩ => ⟨he, h.trans (hb.mono h.size)⟩) ?_
  simp only [Act.put, List.setIfInBounds_toArray, List.set_cons_zero, List.set_cons_succ]
  iterate 2 (go_big_quiet_step ((intros; rfl)))
  refine q_cell 3 _ ⟨w.heap.size, 0, none⟩ (.int .i64 p1) rfl rfl rfl (fun w h => by simp [go_sem, h]) (fun w' h => (h.cell (p := ⟨w.heap.size, 0, none⟩) T1.out.1.lt).trans (T1.out.1.cell 0)) ?_
  simp only [Act.put, List.setIfInBounds_toArray, List.set_cons_zero, List.set_cons_succ]
  iterate 1 (go_big_quiet_step ((intros; rfl)))
  refine q_cell 3 _ ⟨w.heap.size, 1, none⟩ (.int .i64 p2) rfl rfl rfl (fun w h => by simp [go_sem, h]) (fun w' h => (h.cell (p := ⟨w.heap.size, 1, none⟩) T1.out.1.lt).trans (T1.out.1.cell 1)) ?_
  simp only [Act.put, List.setIfInBounds_toArray, List.set_cons_zero, List.set_cons_succ]
  refine q_load 26 _ (w.heap.size + 1) 26 (cellsOf a2) _ rfl rfl rfl (fun w' h => T1.out.2.1.below h T1.out.2.1.lt) Try.underlying26 rfl info24 ?_
  simp only [Act.put, List.setIfInBounds_toArray, List.set_cons_zero, List.set_cons_succ]
  refine q_call (.int .i64 r) #[.slice a0 n cap0, .int .i64 p1, .int .i64 p2, .agg (cellsOf a2)] (by kernel_rfl) (by kernel_rfl) Try.call16 (fun w' h => (HB.out w' (HL.out.below h)).mono fun e w'' ⟨he, hb⟩ => ⟨he, h.trans (hb.mono h.size)⟩) ?_
  simp only [Act.put, List.setIfInBounds_toArray, List.set_cons_zero, List.set_cons_succ]
  iterate 3 (go_big_quiet_step ((intros; rfl)))
  refine wpQuiet_nil ?_
  intro w2 b2
  have B2 := Lib.hid (T1.out.2.2.trans (b2.mono T1.out.2.2.size))
  go_wp2
  go_ret
  exact ⟨by simp, B2.out⟩
theorem walk_MergeRequests (a0 : Option Addr) (len0 cap0 : Nat) (a1 : Int × Int) (a2 : Nat → Int) (w : World) (w0 : IsVals w a0 len0 cap0) (w1 : FitsP a1) (w2 : Fits a2) :
    Calls Try.prog 4 #[.slice a0 len0 cap0, .agg (cellsP a1), .agg (cellsOf a2)] w fun e w' => e = .returned (.bool true) ∧ Below w.heap.size w w' := by
  by_cases h : chk a2 ≠ 0 ∨ 60 < len0
  · exact bail_MergeRequests a0 len0 cap0 a1 a2 w h
  · have hc : chk a2 = 0 := by
      by_cases hc : chk a2 = 0
      · exact hc
      · exact absurd (.inl hc) h
    obtain ⟨-, -, l, hl, hf, hL⟩ := w0
    subst hl
    exact good_MergeRequests a0 cap0 l a1 a2 w hc (by omega) hf hL
end Go.Proofs.Ytnaheindlkehhaa
