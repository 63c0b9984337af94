/- Accept, Few (stage 21's). -/
import Derived.Test.YthnhpmeacboljaaRc
import Derived.Test.YthnhpmeacboljaaOq
import Derived.Test.YthnhpmeacboljaaStructs
import Derived.Deep.CutRange
namespace Go.Proofs.Ythnhpmeacboljaa
open Go Go.RowKit Go.Deep
set_option linter.unusedVariables false
set_option linter.unusedSimpArgs false
set_option maxRecDepth 100000

/-- P21.2. -/
def accR (k i d b e : Int) : Rc := ⟨k, 0, i, b, e, d, none, 0, 0, none, 0, 0, 0⟩
set_option maxHeartbeats 800000 in
theorem accept_any (o : Oq) (i d b e : Int) (w : World) : Calls Try.prog 26 #[.agg (cellsOq o), .int .i64 i, .int .i64 d, .int .i64 b, .int .i64 e] w fun e' w' => e' = .returned (.agg (cellsRc (accR o.kd i d b e))) ∧ Below w.heap.size w w' := by
  have KO : Hid (Blk ((w.alloc (.cells (cellsOq o) 57)).alloc (.cells (cellsRc rcZ) 60)) w.heap.size 57 (cellsOq o)) := Lib.hid ((Blk.new w _ _).alloc _)
  have KZ : Hid (Blk ((w.alloc (.cells (cellsOq o) 57)).alloc (.cells (cellsRc rcZ) 60)) (w.heap.size + 1) 60 (cellsRc rcZ)) := Lib.hid (by
    have h := Blk.new (w.alloc (.cells (cellsOq o) 57)) 60 (cellsRc rcZ)
    rwa [show (w.alloc (.cells (cellsOq o) 57)).heap.size = w.heap.size + 1 by simp] at h)
  have B0 : Hid (Below w.heap.size w ((w.alloc (.cells (cellsOq o) 57)).alloc (.cells (cellsRc rcZ) 60))) := Lib.hid (((Below.refl _ _).alloc (Nat.le_refl _) _).alloc (by simp) _)
  go_enter Try.func26, Try.ntmps26
  go_upto_region 1 with (fail)
  generalize hW : (w.alloc (.cells (cellsOq o) 57)).alloc (.cells _ 60) = W
  have eW : (w.alloc (.cells (cellsOq o) 57)).alloc (.cells (cellsRc rcZ) 60) = W := hW
  rw [eW] at KO KZ B0
  clear hW eW
  have k0 : W.cell? ⟨w.heap.size, 0, none⟩ = some (.int .i64 o.kd) := KO.out.cell 0
  go_wp2_with (first | (refine wpList_build_Rc rfl 60 _ rfl (accR o.kd i d b e) (by kernel_rfl) ?_) | (refine wpList_store_row rfl _ _ _ rfl (w.heap.size + 1) (cellsRc (accR o.kd i d b e)) rfl rfl 60 _ KZ.out infoRc rfl (cellsRc_one _) ?_))
  exact bodyPost_ret (v := .agg (cellsRc (accR o.kd i d b e))) (results_cell_row (fn := Try.f26) rfl _ _ (w.heap.size + 1) 60 _ (0, 0) _ rfl (setRow_heap _ _ _ _ _ _ KZ.out) Try.underlying60 rfl infoRc) rfl ⟨rfl, below_setRow B0.out (by omega) _⟩
/-- egressref21.Few. -/
def fewB (r : Rc) : Bool := decide (r.an ≤ 60 ∧ r.pn ≤ 60)
set_option maxHeartbeats 800000 in
theorem few_any (r : Rc) (w : World) (ha : r.an ≤ 9223372036854775807) (hp : r.pn ≤ 9223372036854775807) : Calls Try.prog 24 #[.agg (cellsRc r)] w fun e w' => e = .returned (.bool (fewB r)) ∧ Below w.heap.size w w' := by
  have K0 : Hid (Blk (w.alloc (.cells (cellsRc r) 60)) w.heap.size 60 (cellsRc r)) := Lib.hid (Blk.new w _ _)
  have B0 : Hid (Below w.heap.size w (w.alloc (.cells (cellsRc r) 60))) := Lib.hid ((Below.refl _ _).alloc (Nat.le_refl _) _)
  have HF : Hid (fewB r = decide (r.an ≤ 60 ∧ r.pn ≤ 60)) := Lib.hid rfl
  have c6 : (cellsRc r)[6]? = some (.slice r.aa r.an r.ac) := rfl
  have c7 : (cellsRc r)[7]? = some (.slice r.pa r.pn r.pc) := rfl
  have C6 := Lib.hid (K0.out.cell 6)
  have C7 := Lib.hid (K0.out.cell 7)
  rw [c6] at C6
  rw [c7] at C7
  clear c6 c7 K0
  generalize hv : (cellsRc r) = cs at *
  clear hv
  generalize fewB r = B at *
  generalize r.an = n at *
  generalize r.pn = m at *
  generalize r.aa = aa at *
  generalize r.ac = ac at *
  generalize r.pa = pa at *
  generalize r.pc = pc at *
  by_cases h1 : n ≤ 60
  · by_cases h2 : m ≤ 60
    · have d1 : decide ((n : Int) ≤ 60) = true := by simpa using by omega
      have d2 : decide ((m : Int) ≤ 60) = true := by simpa using by omega
      have HR : Hid (B = true) := Lib.hid (by rw [HF.out]; exact decide_eq_true ⟨h1, h2⟩)
      clear h1 h2
      have x6 := C6.out
      have x7 := C7.out
      go_enter Try.func24, Try.ntmps24
      go_wp2
      go_ret
      exact ⟨by rw [HR.out]; rfl, B0.out⟩
    · have d1 : decide ((n : Int) ≤ 60) = true := by simpa using by omega
      have d2 : decide ((m : Int) ≤ 60) = false := by simpa using by omega
      have HR : Hid (B = false) := Lib.hid (by rw [HF.out]; exact decide_eq_false (by omega))
      clear h1 h2
      have x6 := C6.out
      have x7 := C7.out
      go_enter Try.func24, Try.ntmps24
      go_wp2
      go_ret
      exact ⟨by rw [HR.out]; rfl, B0.out⟩
  · have d1 : decide ((n : Int) ≤ 60) = false := by simpa using by omega
    have HR : Hid (B = false) := Lib.hid (by rw [HF.out]; exact decide_eq_false (by omega))
    clear h1
    have x6 := C6.out
    go_enter Try.func24, Try.ntmps24
    go_wp2
    go_ret
    exact ⟨by rw [HR.out]; rfl, B0.out⟩
end Go.Proofs.Ythnhpmeacboljaa
