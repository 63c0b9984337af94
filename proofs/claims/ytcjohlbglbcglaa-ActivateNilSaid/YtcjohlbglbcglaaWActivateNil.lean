/- The walk of ActivateNil. -/
import Derived.Test.YtcjohlbglbcglaaLive
import Derived.Test.YtcjohlbglbcglaaNil
import Derived.Test.YtcjohlbglbcglaaRWait
import Derived.OpenShut
namespace Go.Proofs.Ytcjohlbglbcglaa
open Go Go.RowKit Go.OpenShut
set_option linter.unusedVariables false
set_option linter.unusedSimpArgs false
set_option maxRecDepth 100000

theorem sumTo_zero {X : List Int} (h : ∀ i, X.getD i 0 = 0) : ∀ n, sumTo X n = 0
  | 0 => rfl
  | n + 1 => by rw [sumTo, sumTo_zero h n, h n]; rfl
theorem bat_zero {X : List Int} {lim : Int} (h : ∀ i, X.getD i 0 = 0) (hl : 0 ≤ lim) : bat lim X = X.length := by
  have h1 := bat_le (lim := lim) X
  have h2 := (bat_stop lim X).2.2
  rcases Nat.lt_or_ge (bat lim X) X.length with h3 | h3
  · have := (h2 h3).2
    rw [sumTo_zero h] at this
    omega
  · omega
theorem wOf_none (i : Int) : wOf [] i = 0 := by simp [wOf]
theorem zeros_getD (I : List Int) (i : Nat) : (I.map (wOf [])).getD i 0 = 0 := by
  rw [List.getD_eq_getElem?_getD, List.getElem?_map]
  cases I[i]? with
  | none => rfl
  | some x => exact wOf_none x
theorem amts_none : Amts [] := fun j => by simp
theorem bnd_one (lim x : Int) : bnd lim [x] = 1 := by simp [bnd, bfold, bstep]
set_option maxHeartbeats 1600000 in
theorem walk_ActivateNil (a0 : Option Addr) (len0 cap0 : Nat) (z0 : List Int) (a1 : Int) (w : World) (w0 : IsRow .i64 w a0 len0 cap0 z0) (w1 : (Lit.int .u64 a1).wf = true) :
    Calls Try.prog 8 #[.slice a0 len0 cap0, .int .u64 a1] w fun e w' => e = .returned (.bool true) ∧ Below w.heap.size w w' := by
  obtain ⟨hi, hl0, hc0, hm0⟩ := IntsAt.of_row (S := fun i => w.heap.size ≤ i) w0 (fun i h1 h2 => by omega)
  have hlim : Amt a1 := u64_of w1
  generalize z0.take len0 = I at *
  have HI := Lib.hid hi
  have HA := Lib.hid hlim
  clear w0 w1 hi hlim
  by_cases h0 : (60 : Int) < (len0 : Int)
  · go_enter Try.func8, Try.ntmps8
    go_wp2_with fail
    refine (alive_any _).mono ?_
    rintro e w1 ⟨rfl, hb⟩
    have HB := Lib.hid hb
    clear hb
    go_wp2_with fail
    go_ret
    exact ⟨rfl, HB.out⟩
  · have HQ := Lib.hid (queue_any (c := cap0) HI.out (by rw [hl0]; omega) (by rw [hl0]; exact hc0) hm0)
    rw [hl0] at HQ
    have hB : bat 18446744073709551615 (I.map (wOf [])) = len0 := by rw [bat_zero (zeros_getD I) (by decide), List.length_map, hl0]
    have hMx : Amt 18446744073709551615 := ⟨by decide, Int.le_refl _⟩
    have HBB := Lib.hid hB
    have HL0 := Lib.hid hl0
    have HMx := Lib.hid hMx
    clear hl0 hB hMx
    go_enter Try.func8, Try.ntmps8
    go_wp2_with fail
    refine HQ.out.mono ?_
    rintro e w1 ⟨b, sz, go, rfl, hq⟩
    have HS := Lib.hid (hq.step (a := none) (Lw := []) (cap := 0) (UAt.nil _ _ _) (by simp) amts_none HMx.out)
    rw [HBB.out] at HS
    clear HQ hq
    go_wp2_with fail
    refine (rmax_any _).mono ?_
    rintro e w' ⟨rfl, rfl⟩
    go_wp2_with fail
    refine HS.out.mono ?_
    rintro e w2 ⟨a', c', rfl, hc1, hc2, hi2, hq2, -⟩
    have HI2 := Lib.hid hi2
    have HQ2 := Lib.hid hq2
    clear HS hi2 hq2
    go_wp2_with fail
    refine (alive_any _).mono ?_
    rintro e w3 ⟨rfl, hb3⟩
    have hi3 := HI2.out.below hb3
    have HQ3 := Lib.hid (HQ2.out.below hb3)
    rw [List.take_of_length_le (by rw [HL0.out]; exact Nat.le_refl _)] at hi3
    have HE := Lib.hid (equal_same (n := len0) (c := c') (d := cap0) hi3 (HI.out.below HQ3.out.2.2) HL0.out (by omega))
    clear hb3 HI2 HQ2 hi3
    go_wp2_with fail
    refine HE.out.mono ?_
    rintro e w4 ⟨rfl, q4, hq4⟩
    have HQ4 := Lib.hid (HQ3.out.drewN q4)
    rw [← hq4] at HQ4
    clear hq4 HQ3 HE
    go_wp2_with fail
    refine (step_nil (w := w4) (lim := a1)).mono ?_
    rintro e w5 ⟨rfl, hb5⟩
    have HQ5 := Lib.hid (HQ4.out.below hb5)
    clear hb5 HQ4
    go_wp2_with fail
    refine (wait_nil a1 a1 (.slice none 0 0) w5).mono ?_
    rintro e w' ⟨rfl, rfl⟩
    have HW := HQ5.out.wait (a := none) (Lw := []) (S := fun _ => False) (cap := 0) (lim := a1) (x := a1) (UAt.nil _ _ _) (by simp) amts_none HA.out HA.out
    rw [List.drop_of_length_le (by rw [HL0.out]; exact Nat.le_refl _), List.map_nil, List.nil_append, bnd_one] at HW
    have HW := Lib.hid HW
    clear HQ5
    go_wp2_with fail
    refine HW.out.mono ?_
    rintro e w6 ⟨rfl, hq6, -⟩
    have HB6 := Lib.hid hq6.2.2
    clear hq6 HW
    go_wp2
    go_ret
    exact ⟨rfl, HB6.out⟩
end Go.Proofs.Ytcjohlbglbcglaa
