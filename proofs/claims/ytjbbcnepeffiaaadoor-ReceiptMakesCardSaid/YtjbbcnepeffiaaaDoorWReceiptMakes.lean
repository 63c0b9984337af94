/- The statement ReceiptMakes, walked: it returns true for every operation, code and four numbers. -/
import Derived.Test.YtjbbcnepeffiaaaDoorLaw
import Derived.Test.YtjbbcnepeffiaaaDoorFour
namespace Go.Proofs.YtjbbcnepeffiaaaDoor
open Go Go.RowKit Go.Deep
set_option linter.unusedVariables false
set_option linter.unusedSimpArgs false
set_option maxRecDepth 100000

/-- The law's two boxes. -/
structure MK (w0 w : World) (o : Oq) (x : X4) : Prop where
  op : Blk w w0.heap.size 37 (cellsOq o)
  four : Blk w (w0.heap.size + 1) 38 (cells4 x)
  bel : Below w0.heap.size w0 w
theorem MK.below {w0 w w' : World} {o : Oq} {x : X4} (h : MK w0 w o x) (hb : Below w.heap.size w w') : MK w0 w' o x := ⟨h.op.below hb h.op.lt, h.four.below hb h.four.lt, h.bel.trans (hb.mono h.bel.size)⟩
theorem self_same {r : Rc} (h : RcNums r) (h1 : r.an = 0 ∧ r.ac = 0 ∧ r.pn = 0 ∧ r.pc = 0) (w : World) : Calls Tryd.prog 12 #[.agg (cellsRc r), .agg (cellsRc r)] w fun e w' => e = .returned (.bool true) ∧ Below w.heap.size w w' := by
  have h2 := refsame_any r r [] [] [] [] w (rcAt_none h _ _ h1) (rcAt_none h _ _ h1)
  rwa [sameB_self] at h2
set_option maxHeartbeats 3200000 in
theorem walk_ReceiptMakes (a0 : Oq) (a1 : Int) (a2 : X4) (w : World) (w0 : FitsOq a0) (w1 : (Lit.int .i64 a1).wf = true) (w2 : Fits4 a2) (hL : laidMetH Tryd.prog Rows.receiptSameRow.laid w) :
    Calls Tryd.prog 5 #[.agg (cellsOq a0), .int .i64 a1, .agg (cells4 a2)] w fun e w' => e = .returned (.bool true) ∧ Below w.heap.size w w' := by
  have HV := Lib.hid (vars_of_laid hL)
  have M0 : Hid (MK w ((w.alloc (.cells (cellsOq a0) 37)).alloc (.cells (cells4 a2) 38)) a0 a2) := Lib.hid ⟨(Blk.new w _ _).alloc _, by
    have h := Blk.new (w.alloc (.cells (cellsOq a0) 37)) 38 (cells4 a2)
    rwa [show (w.alloc (.cells (cellsOq a0) 37)).heap.size = w.heap.size + 1 by simp] at h, ((Below.refl _ _).alloc (Nat.le_refl _) _).alloc (by simp) _⟩
  have HA := Lib.hid (fun w h => alive_any w h)
  obtain ⟨p0, p1, p2, p3⟩ := w2
  have HR := Lib.hid (fun w => reject_any a0 a1 a2.x0 a2.x1 w)
  have HC := Lib.hid (fun w => accept_any a0 a2.x2 a2.x3 a2.x0 a2.x1 w)
  have HS1 := Lib.hid (fun w => self_same (r := rejR a0.kd a1 a2.x0 a2.x1) (rej_nums (i64_of w0.1) (i64_of w1) p0 p1) ⟨rfl, rfl, rfl, rfl⟩ w)
  have HS2 := Lib.hid (fun w => self_same (r := accR a0.kd a2.x2 a2.x3 a2.x0 a2.x1) (acc_nums (i64_of w0.1) p2 p3 p0 p1) ⟨rfl, rfl, rfl, rfl⟩ w)
  have HK : Hid (∀ w', MK w w' a0 a2 → w'.cell? ⟨w.heap.size, 0, none⟩ = some (.int .i64 a0.kd) ∧ w'.cell? ⟨w.heap.size + 1, 0, none⟩ = some (.int .i64 a2.x0) ∧ w'.cell? ⟨w.heap.size + 1, 1, none⟩ = some (.int .i64 a2.x1) ∧ w'.cell? ⟨w.heap.size + 1, 2, none⟩ = some (.int .i64 a2.x2) ∧ w'.cell? ⟨w.heap.size + 1, 3, none⟩ = some (.int .i64 a2.x3)) := Lib.hid (fun w' h => ⟨h.op.cell 0, h.four.cell 0, h.four.cell 1, h.four.cell 2, h.four.cell 3⟩)
  clear hL w0 w1 p0 p1 p2 p3
  go_enter Tryd.func5, Tryd.ntmps5
  go_upto_region 1 with (fail)
  generalize (w.alloc (.cells (cellsOq a0) 37)).alloc (.cells (cells4 a2) 38) = W at *
  obtain ⟨k0, x0, x1, x2, x3⟩ := HK.out W M0.out
  go_wp2_with (refine wpList_load_row rfl 37 _ rfl w.heap.size rfl 37 (cellsOq a0) (0, 0) _ M0.out.op Tryd.underlying37 rfl infoOq ?_)
  refine (HR.out W).mono ?_
  rintro e w3 ⟨rfl, b3⟩
  have M3 := Lib.hid (M0.out.below b3)
  have R3 : Hid (Blk (w3.alloc (.cells (cellsRc (rejR a0.kd a1 a2.x0 a2.x1)) 26)) w3.heap.size 26 (cellsRc (rejR a0.kd a1 a2.x0 a2.x1))) := Lib.hid (Blk.new _ _ _)
  have M4 := Lib.hid (M3.out.below ((Below.refl _ _).alloc (Nat.le_refl _) (.cells (cellsRc (rejR a0.kd a1 a2.x0 a2.x1)) 26)))
  clear b3 M3 M0 k0 x0 x1 x2 x3
  go_upto_region 2 with (refine wpList_store_row rfl _ _ _ rfl w3.heap.size (cellsRc (rejR a0.kd a1 a2.x0 a2.x1)) rfl rfl 26 _ (heap_alloc_new w3 _) infoRc rfl (cellsRc_one _) ?_; rw [World.setRow_alloc_new])
  generalize w3.alloc (.cells (cellsRc (rejR a0.kd a1 a2.x0 a2.x1)) 26) = w4 at *
  generalize w3.heap.size = ra at *
  obtain ⟨k0, x0, x1, x2, x3⟩ := HK.out w4 M4.out
  go_wp2_with (refine wpList_load_row rfl 37 _ rfl w.heap.size rfl 37 (cellsOq a0) (0, 0) _ M4.out.op Tryd.underlying37 rfl infoOq ?_)
  refine (HC.out w4).mono ?_
  rintro e w5 ⟨rfl, b5⟩
  have M5 := Lib.hid (M4.out.below b5)
  have R5 := Lib.hid (R3.out.below b5 R3.out.lt)
  have A6 : Hid (Blk (w5.alloc (.cells (cellsRc (accR a0.kd a2.x2 a2.x3 a2.x0 a2.x1)) 26)) w5.heap.size 26 (cellsRc (accR a0.kd a2.x2 a2.x3 a2.x0 a2.x1))) := Lib.hid (Blk.new _ _ _)
  have bn : Below w5.heap.size w5 (w5.alloc (.cells (cellsRc (accR a0.kd a2.x2 a2.x3 a2.x0 a2.x1)) 26)) := (Below.refl _ _).alloc (Nat.le_refl _) _
  have M6 := Lib.hid (M5.out.below bn)
  have R6 := Lib.hid (R5.out.below bn R5.out.lt)
  clear b5 bn M5 M4 R3 R5 k0 x0 x1 x2 x3
  go_upto_region 3 with (refine wpList_store_row rfl _ _ _ rfl w5.heap.size (cellsRc (accR a0.kd a2.x2 a2.x3 a2.x0 a2.x1)) rfl rfl 26 _ (heap_alloc_new w5 _) infoRc rfl (cellsRc_one _) ?_; rw [World.setRow_alloc_new])
  generalize w5.alloc (.cells (cellsRc (accR a0.kd a2.x2 a2.x3 a2.x0 a2.x1)) 26) = w6 at *
  generalize w5.heap.size = rb at *
  go_wp2_with (fail)
  refine (HA.out w6 (HV.out.below M6.out.bel)).mono ?_
  rintro e w7 ⟨rfl, b7⟩
  have M7 := Lib.hid (M6.out.below b7)
  have R7 := Lib.hid (R6.out.below b7 R6.out.lt)
  have A7 := Lib.hid (A6.out.below b7 A6.out.lt)
  clear b7 M6 R6 A6
  obtain ⟨k0, x0, x1, x2, x3⟩ := HK.out w7 M7.out
  go_wp2_with (first | (refine wpList_load_rowG rfl 26 _ rfl ra rfl 26 (cellsRc (rejR a0.kd a1 a2.x0 a2.x1)) (0, 0) _ R7.out Tryd.underlying26 rfl infoRc ?_) | (refine wpList_build_RcG rfl 26 _ rfl (rejR a0.kd a1 a2.x0 a2.x1) (by kernel_rfl) ?_))
  refine (HS1.out w7).mono ?_
  rintro e w8 ⟨rfl, b8⟩
  have M8 := Lib.hid (M7.out.below b8)
  have A8 := Lib.hid (A7.out.below b8 A7.out.lt)
  clear b8 M7 R7 A7 k0 x0 x1 x2 x3
  obtain ⟨k0, x0, x1, x2, x3⟩ := HK.out w8 M8.out
  go_wp2_with (first | (refine wpList_load_rowG rfl 26 _ rfl rb rfl 26 (cellsRc (accR a0.kd a2.x2 a2.x3 a2.x0 a2.x1)) (0, 0) _ A8.out Tryd.underlying26 rfl infoRc ?_) | (refine wpList_build_RcG rfl 26 _ rfl (accR a0.kd a2.x2 a2.x3 a2.x0 a2.x1) (by kernel_rfl) ?_))
  refine (HS2.out w8).mono ?_
  rintro e w9 ⟨rfl, b9⟩
  have M9 := Lib.hid (M8.out.below b9)
  clear b9 M8 k0 x0 x1 x2 x3
  go_wp2_with (fail)
  go_ret
  exact ⟨rfl, M9.out.bel⟩
end Go.Proofs.YtjbbcnepeffiaaaDoor
