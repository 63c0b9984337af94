/- Reject, Accept, Few. -/
import Derived.Test.YtjbbcnepeffiaaaDoorPlain
import Derived.Test.YtjbbcnepeffiaaaDoorOq
import Derived.Test.YtjbbcnepeffiaaaDoorStructs
import Derived.Deep.CutRange
namespace Go.Proofs.YtjbbcnepeffiaaaDoor
open Go Go.RowKit Go.Deep
set_option linter.unusedVariables false
set_option linter.unusedSimpArgs false
set_option maxRecDepth 100000

/-- P21.2. -/
def rejR (k c b e : Int) : Rc := ⟨k, c, -1, b, e, -1, none, 0, 0, none, 0, 0, 0⟩
def accR (k i d b e : Int) : Rc := ⟨k, 0, i, b, e, d, none, 0, 0, none, 0, 0, 0⟩
set_option maxHeartbeats 800000 in
theorem reject_any (o : Oq) (c b e : Int) (w : World) : Calls Tryd.prog 14 #[.agg (cellsOq o), .int .i64 c, .int .i64 b, .int .i64 e] w fun e' w' => e' = .returned (.agg (cellsRc (rejR o.kd c b e))) ∧ Below w.heap.size w w' := by
  have KO : Hid (Blk ((w.alloc (.cells (cellsOq o) 37)).alloc (.cells (cellsRc rcZ) 26)) w.heap.size 37 (cellsOq o)) := Lib.hid ((Blk.new w _ _).alloc _)
  have KZ : Hid (Blk ((w.alloc (.cells (cellsOq o) 37)).alloc (.cells (cellsRc rcZ) 26)) (w.heap.size + 1) 26 (cellsRc rcZ)) := Lib.hid (by
    have h := Blk.new (w.alloc (.cells (cellsOq o) 37)) 26 (cellsRc rcZ)
    rwa [show (w.alloc (.cells (cellsOq o) 37)).heap.size = w.heap.size + 1 by simp] at h)
  have B0 : Hid (Below w.heap.size w ((w.alloc (.cells (cellsOq o) 37)).alloc (.cells (cellsRc rcZ) 26))) := Lib.hid (((Below.refl _ _).alloc (Nat.le_refl _) _).alloc (by simp) _)
  go_enter Tryd.func14, Tryd.ntmps14
  go_upto_region 1 with (fail)
  generalize hW : (w.alloc (.cells (cellsOq o) 37)).alloc (.cells _ 26) = W
  have eW : (w.alloc (.cells (cellsOq o) 37)).alloc (.cells (cellsRc rcZ) 26) = W := hW
  rw [eW] at KO KZ B0
  clear hW eW
  have k0 : W.cell? ⟨w.heap.size, 0, none⟩ = some (.int .i64 o.kd) := KO.out.cell 0
  go_wp2_with (first | (refine wpList_build_Rc rfl 26 _ rfl (rejR o.kd c b e) (by kernel_rfl) ?_) | (refine wpList_store_row rfl _ _ _ rfl (w.heap.size + 1) (cellsRc (rejR o.kd c b e)) rfl rfl 26 _ KZ.out infoRc rfl (cellsRc_one _) ?_))
  exact bodyPost_ret (v := .agg (cellsRc (rejR o.kd c b e))) (results_cell_row (fn := Tryd.f14) rfl _ _ (w.heap.size + 1) 26 _ (0, 0) _ rfl (setRow_heap _ _ _ _ _ _ KZ.out) Tryd.underlying26 rfl infoRc) rfl ⟨rfl, below_setRow B0.out (by omega) _⟩
set_option maxHeartbeats 800000 in
theorem accept_any (o : Oq) (i d b e : Int) (w : World) : Calls Tryd.prog 15 #[.agg (cellsOq o), .int .i64 i, .int .i64 d, .int .i64 b, .int .i64 e] w fun e' w' => e' = .returned (.agg (cellsRc (accR o.kd i d b e))) ∧ Below w.heap.size w w' := by
  have KO : Hid (Blk ((w.alloc (.cells (cellsOq o) 37)).alloc (.cells (cellsRc rcZ) 26)) w.heap.size 37 (cellsOq o)) := Lib.hid ((Blk.new w _ _).alloc _)
  have KZ : Hid (Blk ((w.alloc (.cells (cellsOq o) 37)).alloc (.cells (cellsRc rcZ) 26)) (w.heap.size + 1) 26 (cellsRc rcZ)) := Lib.hid (by
    have h := Blk.new (w.alloc (.cells (cellsOq o) 37)) 26 (cellsRc rcZ)
    rwa [show (w.alloc (.cells (cellsOq o) 37)).heap.size = w.heap.size + 1 by simp] at h)
  have B0 : Hid (Below w.heap.size w ((w.alloc (.cells (cellsOq o) 37)).alloc (.cells (cellsRc rcZ) 26))) := Lib.hid (((Below.refl _ _).alloc (Nat.le_refl _) _).alloc (by simp) _)
  go_enter Tryd.func15, Tryd.ntmps15
  go_upto_region 1 with (fail)
  generalize hW : (w.alloc (.cells (cellsOq o) 37)).alloc (.cells _ 26) = W
  have eW : (w.alloc (.cells (cellsOq o) 37)).alloc (.cells (cellsRc rcZ) 26) = W := hW
  rw [eW] at KO KZ B0
  clear hW eW
  have k0 : W.cell? ⟨w.heap.size, 0, none⟩ = some (.int .i64 o.kd) := KO.out.cell 0
  go_wp2_with (first | (refine wpList_build_Rc rfl 26 _ rfl (accR o.kd i d b e) (by kernel_rfl) ?_) | (refine wpList_store_row rfl _ _ _ rfl (w.heap.size + 1) (cellsRc (accR o.kd i d b e)) rfl rfl 26 _ KZ.out infoRc rfl (cellsRc_one _) ?_))
  exact bodyPost_ret (v := .agg (cellsRc (accR o.kd i d b e))) (results_cell_row (fn := Tryd.f15) rfl _ _ (w.heap.size + 1) 26 _ (0, 0) _ rfl (setRow_heap _ _ _ _ _ _ KZ.out) Tryd.underlying26 rfl infoRc) rfl ⟨rfl, below_setRow B0.out (by omega) _⟩
/-- egressref21.Few. -/
def fewB (r : Rc) : Bool := decide (r.an ≤ 60 ∧ r.pn ≤ 60)
set_option maxHeartbeats 800000 in
theorem few_any (r : Rc) (w : World) (ha : r.an ≤ 9223372036854775807) (hp : r.pn ≤ 9223372036854775807) : Calls Tryd.prog 9 #[.agg (cellsRc r)] w fun e w' => e = .returned (.bool (fewB r)) ∧ Below w.heap.size w w' := by
  have K0 : Hid (Blk (w.alloc (.cells (cellsRc r) 26)) w.heap.size 26 (cellsRc r)) := Lib.hid (Blk.new w _ _)
  have B0 : Hid (Below w.heap.size w (w.alloc (.cells (cellsRc r) 26))) := Lib.hid ((Below.refl _ _).alloc (Nat.le_refl _) _)
  have HF : Hid (fewB r = decide (r.an ≤ 60 ∧ r.pn ≤ 60)) := Lib.hid rfl
  have c6 : (cellsRc r)[6]? = some (.slice r.aa r.an r.ac) := rfl
  have c7 : (cellsRc r)[7]? = some (.slice r.pa r.pn r.pc) := rfl
  have C6 := Lib.hid (K0.out.cell 6)
  have C7 := Lib.hid (K0.out.cell 7)
  rw [c6] at C6
  rw [c7] at C7
  clear c6 c7 K0
  generalize hv : (cellsRc r) = cs at *
  clear hv
  generalize fewB r = B at *
  generalize r.an = n at *
  generalize r.pn = m at *
  generalize r.aa = aa at *
  generalize r.ac = ac at *
  generalize r.pa = pa at *
  generalize r.pc = pc at *
  by_cases h1 : n ≤ 60
  · by_cases h2 : m ≤ 60
    · have d1 : decide ((n : Int) ≤ 60) = true := by simpa using by omega
      have d2 : decide ((m : Int) ≤ 60) = true := by simpa using by omega
      have HR : Hid (B = true) := Lib.hid (by rw [HF.out]; exact decide_eq_true ⟨h1, h2⟩)
      clear h1 h2
      have x6 := C6.out
      have x7 := C7.out
      go_enter Tryd.func9, Tryd.ntmps9
      go_wp2
      go_ret
      exact ⟨by rw [HR.out]; rfl, B0.out⟩
    · have d1 : decide ((n : Int) ≤ 60) = true := by simpa using by omega
      have d2 : decide ((m : Int) ≤ 60) = false := by simpa using by omega
      have HR : Hid (B = false) := Lib.hid (by rw [HF.out]; exact decide_eq_false (by omega))
      clear h1 h2
      have x6 := C6.out
      have x7 := C7.out
      go_enter Tryd.func9, Tryd.ntmps9
      go_wp2
      go_ret
      exact ⟨by rw [HR.out]; rfl, B0.out⟩
  · have d1 : decide ((n : Int) ≤ 60) = false := by simpa using by omega
    have HR : Hid (B = false) := Lib.hid (by rw [HF.out]; exact decide_eq_false (by omega))
    clear h1
    have x6 := C6.out
    go_enter Tryd.func9, Tryd.ntmps9
    go_wp2
    go_ret
    exact ⟨by rw [HR.out]; rfl, B0.out⟩
end Go.Proofs.YtjbbcnepeffiaaaDoor
