/- Boundaries and the reference's: after how many boundaries an exit is assigned at most. -/
import Derived.Test.YtjleklhajmhekaaGood
import Derived.Test.YtjleklhajmhekaaNum
import Derived.Test.YtjleklhajmhekaaAdd
import Derived.Test.YtjleklhajmhekaaLater
namespace Go.Proofs.Ytjleklhajmhekaa
open Go Go.RowKit
set_option linter.unusedVariables false
set_option linter.unusedSimpArgs false
set_option maxRecDepth 100000

/-- P18.1. -/
def bnd (a x : Int) (c : Nat → Int) : Option Int := if a + x + c 9 ≤ 18446744073709551615 ∧ ceilQ (a + x + c 9) (c 7) ≤ 1099511627776 then some (max 1 (ceilQ (a + x + c 9) (c 7))) else none
theorem bnd_some {a x : Int} {c : Nat → Int} (h1 : a + x + c 9 ≤ 18446744073709551615) (h2 : ceilQ (a + x + c 9) (c 7) ≤ 1099511627776) : bnd a x c = some (max 1 (ceilQ (a + x + c 9) (c 7))) := if_pos ⟨h1, h2⟩
theorem bnd_sum {a x : Int} {c : Nat → Int} (h : ¬ a + x + c 9 ≤ 18446744073709551615) : bnd a x c = none := if_neg (fun e => h e.1)
theorem bnd_quo {a x : Int} {c : Nat → Int} (h : ¬ ceilQ (a + x + c 9) (c 7) ≤ 1099511627776) : bnd a x c = none := if_neg (fun e => h e.2)
theorem bnd_bd {a x k : Int} {c : Nat → Int} (h : bnd a x c = some k) : 1 ≤ k ∧ k ≤ 1099511627776 := by
  unfold bnd at h
  split at h
  · injection h with h; omega
  · cases h
def Amt (x : Int) : Prop := 0 ≤ x ∧ x ≤ 18446744073709551615
theorem three_cells (w : World) (k : IntKind) (x y z : Int) (t : TypeId) : ∀ i, i < 3 → (w.alloc (.cells #[.int k x, .int k y, .int k z] t)).cell? ⟨w.heap.size, 0 + i, none⟩ = some (.int k (([x, y, z] : List Int).getD i 0)) := fun i hi => by
  rw [Nat.zero_add, (Blk.new w t _).cell]
  have : i = 0 ∨ i = 1 ∨ i = 2 := by omega
  rcases this with rfl | rfl | rfl <;> rfl
theorem three_amts {x y z : Int} (hx : Amt x) (hy : Amt y) (hz : Amt z) : ∀ i, 0 ≤ ([x, y, z] : List Int).getD i 0 ∧ ([x, y, z] : List Int).getD i 0 ≤ 18446744073709551615 := fun i => by
  rcases i with _ | _ | _ | i
  · exact hx
  · exact hy
  · exact hz
  · simp
theorem three_sum (x y z : Int) : sumTo [x, y, z] 3 = x + y + z := by simp [sumTo]
section
variable {a x : Int} {c : Nat → Int}
theorem add3_any (hg : Good c) (ha : Amt a) (hx : Amt x) (w : World) :
    Calls Try.prog 25 #[.slice (some ⟨w.heap.size, 0, none⟩) 3 3] (w.alloc (.cells #[.int .u64 a, .int .u64 x, .int .u64 (c 9)] 22)) fun e w' => e = .returned (.tuple #[.int .u64 (addQ [a, x, c 9] 3), .bool (addOk [a, x, c 9] 3)]) ∧ (w.alloc (.cells #[.int .u64 a, .int .u64 x, .int .u64 (c 9)] 22)) = w' :=
  add_row _ _ _ _ _ _ (by omega) (three_cells w .u64 a x (c 9) 22) (three_amts ha hx ⟨hg.fcp0, by have := hg.fcp1; omega⟩)
theorem refadd3_any (hg : Good c) (ha : Amt a) (hx : Amt x) (w : World) :
    Calls Try.prog 27 #[.slice (some ⟨w.heap.size, 0, none⟩) 3 3] (w.alloc (.cells #[.int .u64 a, .int .u64 x, .int .u64 (c 9)] 22)) fun e w' => e = .returned (.tuple #[.int .u64 (addQ [a, x, c 9] 3), .bool (addOk [a, x, c 9] 3)]) ∧ ∃ n, w' = (w.alloc (.cells #[.int .u64 a, .int .u64 x, .int .u64 (c 9)] 22)).drewN n :=
  refadd_row _ _ _ _ _ _ (by omega) (three_cells w .u64 a x (c 9) 22) (three_amts ha hx ⟨hg.fcp0, by have := hg.fcp1; omega⟩)
theorem add3_yes (h : a + x + c 9 ≤ 18446744073709551615) : addQ [a, x, c 9] 3 = a + x + c 9 ∧ addOk [a, x, c 9] 3 = true := by
  have := add_yes (z := [a, x, c 9]) (n := 3) (by rw [three_sum]; exact h)
  rw [three_sum] at this
  exact ⟨this.2, this.1⟩
theorem add3_no (h : ¬ a + x + c 9 ≤ 18446744073709551615) : addQ [a, x, c 9] 3 = 0 ∧ addOk [a, x, c 9] 3 = false := by
  have := add_not (z := [a, x, c 9]) (n := 3) (by rw [three_sum]; exact h)
  exact ⟨this.2, this.1⟩
theorem cfg_two (w : World) (o : Obj) (j : Nat) : ((w.alloc (.cells (cellsOf c) 26)).alloc o).cell? ⟨w.heap.size, j, none⟩ = (cellsOf c)[j]? := ((Blk.new w _ _).alloc o).cell j
theorem boundaries_any (hg : Good c) (ha : Amt a) (hx : Amt x) (w : World) :
    Calls Try.prog 11 #[.int .u64 a, .int .u64 x, .agg (cellsOf c)] w fun e w' => e = .returned (laterIs (bnd a x c)) ∧ Below w.heap.size w w' := by
  have HA := Lib.hid (add3_any hg ha hx (w.alloc (.cells (cellsOf c) 26)))
  rw [show (w.alloc (.cells (cellsOf c) 26)).heap.size = w.heap.size + 1 by simp] at HA
  have c9 : (w.alloc (.cells (cellsOf c) 26)).cell? ⟨w.heap.size, 9, none⟩ = some (.int .u64 (c 9)) := (Blk.new w _ _).cell 9
  have c7 : ((w.alloc (.cells (cellsOf c) 26)).alloc (.cells #[.int .u64 a, .int .u64 x, .int .u64 (c 9)] 22)).cell? ⟨w.heap.size, 7, none⟩ = some (.int .u64 (c 7)) := cfg_two _ _ 7
  have HB : Hid (Below w.heap.size w ((w.alloc (.cells (cellsOf c) 26)).alloc (.cells #[.int .u64 a, .int .u64 x, .int .u64 (c 9)] 22))) := Lib.hid (((Below.refl _ _).alloc (Nat.le_refl _) _).alloc (by simp) _)
  have s0 : 0 ≤ a + x + c 9 := by have := hg.fcp0; have := ha.1; have := hx.1; omega
  by_cases h1 : a + x + c 9 ≤ 18446744073709551615
  · rw [(add3_yes h1).1, (add3_yes h1).2] at HA
    have m0 : 0 ≤ c 7 ∧ c 7 ≤ 18446744073709551615 := ⟨by have := hg.chu0; omega, by have := hg.chu1; omega⟩
    have hd : ¬ c 7 = 0 := by have := hg.chu0; omega
    have HE := Lib.hid (fun w => epochs_any (a + x + c 9) (c 7) w s0 h1 m0.1 m0.2)
    by_cases h2 : ceilQ (a + x + c 9) (c 7) ≤ 1099511627776
    · have hR := bnd_some h1 h2
      rw [(ep_yes _ _ hd h2).1, (ep_yes _ _ hd h2).2] at HE
      obtain ⟨r, hr⟩ : ∃ r, max 1 (ceilQ (a + x + c 9) (c 7)) = r := ⟨_, rfl⟩
      rw [hr] at hR
      have HR := Lib.hid hR
      clear hg ha hx s0 h1 m0 hd h2 hR
      generalize ceilQ (a + x + c 9) (c 7) = q at *
      generalize a + x + c 9 = s at *
      go_enter Try.func11, Try.ntmps11
      go_wp2_with (fail)
      refine HA.out.mono ?_
      rintro e w' ⟨rfl, rfl⟩
      go_wp2_with (fail)
      refine (HE.out _).mono ?_
      rintro e w' ⟨rfl, rfl⟩
      go_wp2_with (fail)
      go_ret2
      exact ⟨by rw [HR.out]; rfl, HB.out⟩
    · have HR := Lib.hid (bnd_quo h2)
      rw [(ep_many _ _ h2).1, (ep_many _ _ h2).2] at HE
      clear hg ha hx s0 h1 m0 hd h2
      generalize a + x + c 9 = s at *
      go_enter Try.func11, Try.ntmps11
      go_wp2_with (fail)
      refine HA.out.mono ?_
      rintro e w' ⟨rfl, rfl⟩
      go_wp2_with (fail)
      refine (HE.out _).mono ?_
      rintro e w' ⟨rfl, rfl⟩
      go_wp2_with (fail)
      go_ret2
      exact ⟨by rw [HR.out]; rfl, HB.out⟩
  · rw [(add3_no h1).1, (add3_no h1).2] at HA
    have HR := Lib.hid (bnd_sum h1)
    clear hg ha hx s0 h1
    go_enter Try.func11, Try.ntmps11
    go_wp2_with (fail)
    refine HA.out.mono ?_
    rintro e w' ⟨rfl, rfl⟩
    go_wp2_with (fail)
    go_ret2
    exact ⟨by rw [HR.out]; rfl, HB.out⟩
theorem refBoundaries_any (hg : Good c) (ha : Amt a) (hx : Amt x) (w : World) :
    Calls Try.prog 12 #[.int .u64 a, .int .u64 x, .agg (cellsOf c)] w fun e w' => e = .returned (laterIs (bnd a x c)) ∧ Below w.heap.size w w' := by
  have HA := Lib.hid (refadd3_any hg ha hx (w.alloc (.cells (cellsOf c) 26)))
  rw [show (w.alloc (.cells (cellsOf c) 26)).heap.size = w.heap.size + 1 by simp] at HA
  have c9 : (w.alloc (.cells (cellsOf c) 26)).cell? ⟨w.heap.size, 9, none⟩ = some (.int .u64 (c 9)) := (Blk.new w _ _).cell 9
  have c7 : ∀ n, (((w.alloc (.cells (cellsOf c) 26)).alloc (.cells #[.int .u64 a, .int .u64 x, .int .u64 (c 9)] 22)).drewN n).cell? ⟨w.heap.size, 7, none⟩ = some (.int .u64 (c 7)) := fun n => cfg_two _ _ 7
  have HB : ∀ n, Hid (Below w.heap.size w (((w.alloc (.cells (cellsOf c) 26)).alloc (.cells #[.int .u64 a, .int .u64 x, .int .u64 (c 9)] 22)).drewN n)) := fun n => Lib.hid (below_drewN (((Below.refl _ _).alloc (Nat.le_refl _) _).alloc (by simp) _) n)
  have C7 := Lib.hid c7
  have HB := Lib.hid HB
  clear c7
  have s0 : 0 ≤ a + x + c 9 := by have := hg.fcp0; have := ha.1; have := hx.1; omega
  by_cases h1 : a + x + c 9 ≤ 18446744073709551615
  · rw [(add3_yes h1).1, (add3_yes h1).2] at HA
    have m0 : 0 ≤ c 7 ∧ c 7 ≤ 18446744073709551615 := ⟨by have := hg.chu0; omega, by have := hg.chu1; omega⟩
    have hd : ¬ c 7 = 0 := by have := hg.chu0; omega
    have HE := Lib.hid (fun w => repochs_any (a + x + c 9) (c 7) w s0 h1 m0.1 m0.2)
    by_cases h2 : ceilQ (a + x + c 9) (c 7) ≤ 1099511627776
    · have hR := bnd_some h1 h2
      rw [(ep_yes _ _ hd h2).1, (ep_yes _ _ hd h2).2] at HE
      obtain ⟨r, hr⟩ : ∃ r, max 1 (ceilQ (a + x + c 9) (c 7)) = r := ⟨_, rfl⟩
      have hr2 : max (ceilQ (a + x + c 9) (c 7)) 1 = r := by omega
      rw [hr] at hR
      have HR := Lib.hid hR
      clear hg ha hx s0 h1 m0 hd h2 hR
      generalize ceilQ (a + x + c 9) (c 7) = q at *
      generalize a + x + c 9 = s at *
      go_enter Try.func12, Try.ntmps12
      go_wp2_with (fail)
      refine HA.out.mono ?_
      rintro e w' ⟨rfl, n, rfl⟩
      have c7 := C7.out n
      go_wp2_with (fail)
      refine (HE.out _).mono ?_
      rintro e w' ⟨rfl, rfl⟩
      go_wp2_with (fail)
      go_ret2
      exact ⟨by rw [HR.out]; rfl, (HB.out n).out⟩
    · have HR := Lib.hid (bnd_quo h2)
      rw [(ep_many _ _ h2).1, (ep_many _ _ h2).2] at HE
      clear hg ha hx s0 h1 m0 hd h2
      generalize a + x + c 9 = s at *
      go_enter Try.func12, Try.ntmps12
      go_wp2_with (fail)
      refine HA.out.mono ?_
      rintro e w' ⟨rfl, n, rfl⟩
      have c7 := C7.out n
      go_wp2_with (fail)
      refine (HE.out _).mono ?_
      rintro e w' ⟨rfl, rfl⟩
      go_wp2_with (fail)
      go_ret2
      exact ⟨by rw [HR.out]; rfl, (HB.out n).out⟩
  · rw [(add3_no h1).1, (add3_no h1).2] at HA
    have HR := Lib.hid (bnd_sum h1)
    clear hg ha hx s0 h1
    go_enter Try.func12, Try.ntmps12
    go_wp2_with (fail)
    refine HA.out.mono ?_
    rintro e w' ⟨rfl, n, rfl⟩
    go_wp2_with (fail)
    go_ret2
    exact ⟨by rw [HR.out]; rfl, (HB.out n).out⟩
end
end Go.Proofs.Ytjleklhajmhekaa
