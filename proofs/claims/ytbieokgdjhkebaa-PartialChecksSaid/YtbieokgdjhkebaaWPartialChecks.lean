/- The walk of PartialChecks. -/
import Derived.Test.YtbieokgdjhkebaaTwo
namespace Go.Proofs.Ytbieokgdjhkebaa
open Go Go.RowKit Go.Deep
set_option linter.unusedVariables false
set_option linter.unusedSimpArgs false
set_option maxRecDepth 100000

set_option maxHeartbeats 800000 in
theorem checks_long (a0 : Option Addr) (len0 cap0 : Nat) (a1 : Rq) (w : World) (h : 60 < len0) :
    Calls Try.prog 3 #[.slice a0 len0 cap0, .agg (cellsRq a1)] w fun e w' => e = .returned (.bool true) ∧ Below w.heap.size w w' := by
  have HB : Hid (Below w.heap.size w (w.alloc (.cells (cellsRq a1) 25))) := Lib.hid ((Below.refl _ _).alloc (Nat.le_refl _) _)
  have HV := Lib.hid alive_any
  have d1 : decide ((60 : Int) < (len0 : Int)) = true := decide_eq_true (by omega)
  clear h
  go_enter Try.func3, Try.ntmps3
  go_upto_region 1 with (fail)
  generalize w.alloc (.cells (cellsRq a1) 25) = W at *
  go_wp2_with fail
  refine (HV.out _).mono ?_
  rintro e w1 ⟨rfl, b1⟩
  have B1 := Lib.hid (HB.out.trans (b1.mono HB.out.size))
  clear b1
  go_wp2
  go_ret
  exact ⟨rfl, B1.out⟩
set_option maxHeartbeats 800000 in
theorem checks_good (a0 : Option Addr) (cap0 : Nat) (l : List Val) (a1 : Rq) (w : World) (h : l.length ≤ 60) (hL : Lst w (fun _ => False) a0 l) :
    Calls Try.prog 3 #[.slice a0 l.length cap0, .agg (cellsRq a1)] w fun e w' => e = .returned (.bool true) ∧ Below w.heap.size w w' := by
  have HB : Hid (Below w.heap.size w (w.alloc (.cells (cellsRq a1) 25)) ∧ Blk (w.alloc (.cells (cellsRq a1) 25)) w.heap.size 25 (cellsRq a1)) := Lib.hid ⟨(Below.refl _ _).alloc (Nat.le_refl _) _, Blk.new _ _ _⟩
  have HV := Lib.hid alive_any
  have HC := Lib.hid (fun (w : World) (h : Lst w (fun _ => False) a0 l) => check_any (fun _ => False) a0 cap0 l a1 w h)
  have HR := Lib.hid (fun (w : World) (h : Lst w (fun _ => False) a0 l) => refchk_any (fun _ => False) a0 cap0 l a1 w h)
  have HL := Lib.hid (hL.below HB.out.1)
  have d1 : decide ((60 : Int) < (l.length : Int)) = false := decide_eq_false (by omega)
  obtain ⟨n, hn⟩ : ∃ n, l.length = n := ⟨_, rfl⟩
  obtain ⟨r, hr⟩ : ∃ r, chkP l a1 = r := ⟨_, rfl⟩
  rw [hn, hr] at HC HR
  rw [hn] at d1 ⊢
  clear h hL hn hr
  go_enter Try.func3, Try.ntmps3
  go_upto_region 1 with (fail)
  generalize w.alloc (.cells (cellsRq a1) 25) = W at *
  go_wp2_with fail
  refine wp_region_class (fun w' => Below W.heap.size W w') (by kernel_rfl) (by kernel_rfl) (Below.refl _ _).drew ?_
  refine q_call (.bool true) #[] (by kernel_rfl) (by kernel_rfl) Try.call9 (fun w' h => (HV.out w').mono fun e w'' ⟨he, hb⟩ => ⟨he, h.trans (hb.mono h.size)⟩) ?_
  simp only [Act.put, List.setIfInBounds_toArray, List.set_cons_zero, List.set_cons_succ]
  iterate 2 (go_big_quiet_step ((intros; rfl)))
  refine q_load 25 _ w.heap.size 25 (cellsRq a1) _ rfl rfl rfl (fun w' h => HB.out.2.below h HB.out.2.lt) Try.underlying25 rfl infoRqF ?_
  simp only [Act.put, List.setIfInBounds_toArray, List.set_cons_zero, List.set_cons_succ]
  refine q_call (.int .i64 r) #[.slice a0 n cap0, .agg (cellsRq a1)] (by kernel_rfl) (by kernel_rfl) Try.call10 (fun w' h => (HC.out w' (HL.out.below h)).mono fun e w'' ⟨he, hb⟩ => ⟨he, h.trans (hb.mono h.size)⟩) ?_
  simp only [Act.put, List.setIfInBounds_toArray, List.set_cons_zero, List.set_cons_succ]
  iterate 1 (go_big_quiet_step ((intros; rfl)))
  refine q_load 25 _ w.heap.size 25 (cellsRq a1) _ rfl rfl rfl (fun w' h => HB.out.2.below h HB.out.2.lt) Try.underlying25 rfl infoRqF ?_
  simp only [Act.put, List.setIfInBounds_toArray, List.set_cons_zero, List.set_cons_succ]
  refine q_call (.int .i64 r) #[.slice a0 n cap0, .agg (cellsRq a1)] (by kernel_rfl) (by kernel_rfl) Try.call11 (fun w' h => (HR.out w' (HL.out.below h)).mono fun e w'' ⟨he, hb⟩ => ⟨he, h.trans (hb.mono h.size)⟩) ?_
  simp only [Act.put, List.setIfInBounds_toArray, List.set_cons_zero, List.set_cons_succ]
  have hrr : (r == r) = true := by simp
  iterate 3 (go_big_quiet_step ((intros; rfl)))
  refine wpQuiet_nil ?_
  intro w1 b1
  have B1 := Lib.hid (HB.out.1.trans (b1.mono HB.out.1.size))
  go_wp2
  go_ret
  exact ⟨rfl, B1.out⟩
theorem walk_PartialChecks (a0 : Option Addr) (len0 cap0 : Nat) (a1 : Rq) (w : World) (w0 : IsVals w a0 len0 cap0) (w1 : FitsRq a1) :
    Calls Try.prog 3 #[.slice a0 len0 cap0, .agg (cellsRq a1)] w fun e w' => e = .returned (.bool true) ∧ Below w.heap.size w w' := by
  by_cases h : 60 < len0
  · exact checks_long a0 len0 cap0 a1 w h
  · obtain ⟨-, -, l, hl, hf, hL⟩ := w0
    subst hl
    exact checks_good a0 cap0 l a1 w (by omega) hL
end Go.Proofs.Ytbieokgdjhkebaa
