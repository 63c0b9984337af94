/- The chapter's example holds. -/
import Derived.Test.YtjbbcnepeffiaaaDoorRFormT
import Derived.Test.YtjbbcnepeffiaaaDoorSame2
import Derived.Test.YtjbbcnepeffiaaaDoorMake
namespace Go.Proofs.YtjbbcnepeffiaaaDoor
open Go Go.RowKit Go.Deep
set_option linter.unusedVariables false
set_option linter.unusedSimpArgs false
set_option maxRecDepth 100000

theorem rcAt_none {r : Rc} (h : RcNums r) (w : World) (S : Nat → Prop) (h1 : r.an = 0 ∧ r.ac = 0 ∧ r.pn = 0 ∧ r.pc = 0) : RcAt w S r [] [] := by
  obtain ⟨e1, e2, e3, e4⟩ := h1
  exact ⟨h, LstR.nil _ _ _, by simp [e1], by rw [e1, e2]; unfold maxLen; omega, by simp, LstR.nil _ _ _, by simp [e3], by rw [e3, e4]; unfold maxLen; omega, by simp⟩
theorem rej_nums {k c b e : Int} (h1 : I64 k) (h2 : I64 c) (h3 : I64 b) (h4 : I64 e) : RcNums (rejR k c b e) := ⟨h1, h2, (show I64 (-1) by unfold I64; decide), h3, h4, (show I64 (-1) by unfold I64; decide), (show I64 0 by unfold I64; decide)⟩
theorem acc_nums {k i d b e : Int} (h1 : I64 k) (h2 : I64 i) (h3 : I64 d) (h4 : I64 b) (h5 : I64 e) : RcNums (accR k i d b e) := ⟨h1, (show I64 0 by unfold I64; decide), h2, h4, h5, h3, (show I64 0 by unfold I64; decide)⟩
def exR : Rc := accR 2 3 14 2 1
def exQ : Rc := rejR 0 11 0 0
theorem exR_at (w : World) : RcAt w (fun _ => False) exR [] [] := rcAt_none (acc_nums (by unfold I64; decide) (by unfold I64; decide) (by unfold I64; decide) (by unfold I64; decide) (by unfold I64; decide)) _ _ ⟨rfl, rfl, rfl, rfl⟩
theorem exQ_at (w : World) : RcAt w (fun _ => False) exQ [] [] := rcAt_none (rej_nums (by unfold I64; decide) (by unfold I64; decide) (by unfold I64; decide) (by unfold I64; decide)) _ _ ⟨rfl, rfl, rfl, rfl⟩
theorem exR_line : lineL exR [] [] = [101, 120, 105, 116, 32, 111, 107, 32, 51, 32, 98, 121, 32, 49, 52] := by decide +kernel
theorem exQ_line : lineL exQ [] [] = [109, 97, 108, 102, 111, 114, 109, 101, 100, 32, 101, 114, 114, 111, 114, 32, 49, 49] := by decide +kernel
theorem live_one (w : World) (h : Vars w) : Calls Tryd.prog 18 #[.agg (cellsRc exR)] w fun e w' => e = .returned (.string ⟨#[101, 120, 105, 116, 32, 111, 107, 32, 51, 32, 98, 121, 32, 49, 52]⟩) ∧ Below w.heap.size w w' := by
  have h1 := format_any exR [] [] w (exR_at w) h (by simp) (by simp)
  rw [exR_line] at h1
  exact h1
theorem live_two (w : World) (h : Vars w) : Calls Tryd.prog 18 #[.agg (cellsRc exQ)] w fun e w' => e = .returned (.string ⟨#[109, 97, 108, 102, 111, 114, 109, 101, 100, 32, 101, 114, 114, 111, 114, 32, 49, 49]⟩) ∧ Below w.heap.size w w' := by
  have h1 := format_any exQ [] [] w (exQ_at w) h (by simp) (by simp)
  rw [exQ_line] at h1
  exact h1
theorem live_same (w : World) : Calls Tryd.prog 11 #[.agg (cellsRc exR), .agg (cellsRc exR)] w fun e w' => e = .returned (.bool true) ∧ Below w.heap.size w w' := by
  have h1 := same_any exR exR [] [] [] [] w (exR_at w) (exR_at w)
  rwa [sameB_self] at h1
theorem live_acc (w : World) : Calls Tryd.prog 15 #[.agg (cellsOq ⟨2, 3, 0, 0⟩), .int .i64 3, .int .i64 14, .int .i64 2, .int .i64 1] w fun e w' => e = .returned (.agg (cellsRc exR)) ∧ Below w.heap.size w w' := accept_any ⟨2, 3, 0, 0⟩ 3 14 2 1 w
theorem live_rej (w : World) : Calls Tryd.prog 14 #[.agg (cellsOq oqZ), .int .i64 11, .int .i64 0, .int .i64 0] w fun e w' => e = .returned (.agg (cellsRc exQ)) ∧ Below w.heap.size w w' := reject_any oqZ 11 0 0 w
theorem wpList_build_OqG {P : Program} {ops : Array Oper} {rest : List Oper} {op : Oper} {a : Act} {w : World} {Q : Exit → Act → World → Prop} (t : TypeId) (parts : Array (Nat × Operand)) (hw : Region.wanted op (yielded ops a.tmps) = true) (ho : op.op = .build t parts) (v : Oq)
    (hf : P.built t (parts.map fun (i, x) => (i, a.eval x)).toList = some (cellsOq v)) (h : wpList P ops Q rest (a.put op.dst (.agg (cellsOq v))) w) : wpList P ops Q (op :: rest) a w := by
  refine wpList_valG (.agg (cellsOq v)) hw ?_ h
  have e := run_build (P := P) w t (parts.map fun (i, x) => (i, a.eval x)) _ hf
  unfold execOp
  rw [ho]
  show ((Instr.build t (parts.map fun (i, x) => (i, a.eval x))) >>= fun r => pure (Next.value r)).run P w = _
  rw [Sem.run_bind, e]
  rfl
set_option maxHeartbeats 3200000 in
theorem alive_any (w : World) (h : Vars w) : Calls Tryd.prog 10 #[] w fun e w' => e = .returned (.bool true) ∧ Below w.heap.size w w' := by
  have HV := Lib.hid h
  have H1 := Lib.hid live_one
  have H2 := Lib.hid live_two
  have HS := Lib.hid live_same
  have HA := Lib.hid live_acc
  have HR := Lib.hid live_rej
  have X0 : Hid ((cellsRc exR)[3]? = some (.int .i64 2) ∧ (cellsRc exR)[4]? = some (.int .i64 1)) := Lib.hid ⟨rfl, rfl⟩
  have I0 : Hid (∀ (v : Value), True) := Lib.hid (fun _ => trivial)
  clear h
  go_enter Tryd.func10, Tryd.ntmps10
  go_wp2_with (refine wpList_build_Oq rfl 37 _ rfl ⟨2, 3, 0, 0⟩ (by kernel_rfl) ?_)
  refine (HA.out w).mono ?_
  rintro e w1 ⟨rfl, b1⟩
  have B1 := Lib.hid b1
  have K2 : Hid (Blk (w1.alloc (.cells (cellsRc exR) 26)) w1.heap.size 26 (cellsRc exR)) := Lib.hid (Blk.new _ _ _)
  have B2 : Hid (Below w.heap.size w (w1.alloc (.cells (cellsRc exR) 26))) := Lib.hid (b1.alloc b1.size _)
  clear b1 B1 I0
  have HC2 : Hid ((Tryd.prog.info? 26).map (·.size) = some (cellsRc exR).size) := Lib.hid infoRc
  go_upto_region 2 with (refine wpList_store_row rfl _ _ _ rfl w1.heap.size (cellsRc exR) rfl rfl 26 _ (heap_alloc_new w1 _) infoRc rfl (cellsRc_one _) ?_; rw [World.setRow_alloc_new])
  generalize cellsRc exR = cs at *
  generalize w1.alloc (.cells cs 26) = w2 at *
  generalize w1.heap.size = rb at *
  go_wp2_with (refine wpList_load_row rfl 26 _ rfl rb rfl 26 cs (0, 0) _ K2.out Tryd.underlying26 rfl HC2.out ?_)
  refine (H1.out w2 (HV.out.below B2.out)).mono ?_
  rintro e w3 ⟨rfl, b3⟩
  have B3 := Lib.hid (B2.out.trans (b3.mono B2.out.size))
  have K3 := Lib.hid (K2.out.below b3 K2.out.lt)
  clear b3 B2 K2
  go_wp2_with (refine wpList_load_rowG rfl 26 _ rfl rb rfl 26 cs (0, 0) _ K3.out Tryd.underlying26 rfl HC2.out ?_)
  refine (HS.out w3).mono ?_
  rintro e w4 ⟨rfl, b4⟩
  have B4 := Lib.hid (B3.out.trans (b4.mono B3.out.size))
  have K4 := Lib.hid (K3.out.below b4 K3.out.lt)
  clear b4 B3 K3
  have x3 : w4.cell? ⟨rb, 3, none⟩ = some (.int .i64 2) := (K4.out.cell 3).trans X0.out.1
  have x4 : w4.cell? ⟨rb, 4, none⟩ = some (.int .i64 1) := (K4.out.cell 4).trans X0.out.2
  go_wp2_with (refine wpList_build_OqG 37 _ rfl rfl oqZ (by kernel_rfl) ?_)
  refine (HR.out w4).mono ?_
  rintro e w5 ⟨rfl, b5⟩
  have B5 := Lib.hid (B4.out.trans (b5.mono B4.out.size))
  clear b5 B4 x3 x4
  go_wp2_with (fail)
  refine (H2.out w5 (HV.out.below B5.out)).mono ?_
  rintro e w6 ⟨rfl, b6⟩
  have B6 := Lib.hid (B5.out.trans (b6.mono B5.out.size))
  clear b6
  go_wp2_with (fail)
  go_ret
  exact ⟨rfl, B6.out⟩
end Go.Proofs.YtjbbcnepeffiaaaDoor
