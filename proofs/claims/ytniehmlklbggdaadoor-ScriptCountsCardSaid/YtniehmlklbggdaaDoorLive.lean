/- The chapter's example holds. -/
import Derived.Test.YtniehmlklbggdaaDoorReads
import Derived.Test.YtniehmlklbggdaaDoorTicks
namespace Go.Proofs.YtniehmlklbggdaaDoor
open Go Go.RowKit
set_option linter.unusedVariables false
set_option linter.unusedSimpArgs false
set_option maxRecDepth 100000

theorem wpList_build_OqG {P : Program} {ops : Array Oper} {rest : List Oper} {op : Oper} {a : Act} {w : World} {Q : Exit → Act → World → Prop} (t : TypeId) (parts : Array (Nat × Operand)) (hw : Region.wanted op (yielded ops a.tmps) = true) (ho : op.op = .build t parts) (v : Oq)
    (hf : P.built t (parts.map fun (i, x) => (i, a.eval x)).toList = some (cellsOq v)) (h : wpList P ops Q rest (a.put op.dst (.agg (cellsOq v))) w) : wpList P ops Q (op :: rest) a w := by
  refine wpList_valG (.agg (cellsOq v)) hw ?_ h
  have e := run_build (P := P) w t (parts.map fun (i, x) => (i, a.eval x)) _ hf
  unfold execOp
  rw [ho]
  show ((Instr.build t (parts.map fun (i, x) => (i, a.eval x))) >>= fun r => pure (Next.value r)).run P w = _
  rw [Sem.run_bind, e]
  rfl
theorem run_fourOq (x y z u : Oq) (w : World) : (Instr.buildSlice 25 4 #[(0, .agg (cellsOq x)), (1, .agg (cellsOq y)), (2, .agg (cellsOq z)), (3, .agg (cellsOq u))]).run Tryd.prog w = .ok (.slice (some ⟨w.heap.size, 0, none⟩) 4 4) (w.alloc (.cells (flatR Oq.row [x, y, z, u]).toArray 35)) := by
  obtain ⟨i, hi, hz, hs, hby⟩ := appOq
  simp [Instr.buildSlice, run_underlying Tryd.underlying25, sizeOf, typeInfo, hi, hz, hs, Instr.fill, newRow, go_sem, cellsOq, Oq.row, flatR]
theorem wpList_fourOq {ops : Array Oper} {rest : List Oper} {o : Oper} {a : Act} {w : World} {Q : Exit → Act → World → Prop} (hgd : o.guard = none) (x1 x2 x3 x4 : Operand) (p1 p2 p3 p4 : Oq) (ho : o.op = .buildSlice 25 4 #[(0, x1), (1, x2), (2, x3), (3, x4)])
    (h1 : a.eval x1 = .agg (cellsOq p1)) (h2 : a.eval x2 = .agg (cellsOq p2)) (h3 : a.eval x3 = .agg (cellsOq p3)) (h4 : a.eval x4 = .agg (cellsOq p4))
    (h : wpList Tryd.prog ops Q rest (a.put o.dst (.slice (some ⟨w.heap.size, 0, none⟩) 4 4)) (w.alloc (.cells (flatR Oq.row [p1, p2, p3, p4]).toArray 35))) : wpList Tryd.prog ops Q (o :: rest) a w :=
  wpList_plain hgd fun _ hK => by
    unfold Oper.wp execOp
    simp only [ho, List.map_toArray, List.map_cons, List.map_nil, h1, h2, h3, h4, Sem.run_bind, run_fourOq p1 p2 p3 p4 w, Result.andThen_ok, Sem.run_pure]
    exact hK _ _ h
theorem lstO_new (w : World) (S : Nat → Prop) (l : List Oq) (hS : ¬ S w.heap.size) : LstR Oq.row 4 (w.alloc (.cells (flatR Oq.row l).toArray 35)) S (some ⟨w.heap.size, 0, none⟩) l := fun _ =>
  ⟨_, _, rfl, hS, by simp, fun i v hi => rangeR_of_flat Oq.row_len (fun j u hu => by rw [Nat.zero_add, (Blk.new w _ _).cell j]; simpa using hu) hi⟩
def exT : List UInt8 := [100, 101, 112, 111, 115, 105, 116, 32, 51, 50, 10, 116, 105, 99, 107, 10, 101, 120, 105, 116, 32, 48, 10, 102, 108, 121]
def exL : List Oq := [⟨1, 0, 0, 32⟩, ⟨7, 0, 0, 0⟩, ⟨2, 0, 0, 0⟩, oqZ]
theorem ex_read : readL exT = exL := by decide +kernel
theorem ex_line : lineL ⟨6, 3, 0, 7⟩ = [112, 97, 114, 116, 105, 97, 108, 32, 51, 32, 55] := (par_back (l := [112, 97, 114, 116, 105, 97, 108, 32, 51, 32, 55]) (by decide +kernel)).2
theorem ex_count : cntK exL 7 = 1 := by decide +kernel
theorem ex_size : (bs exT).size ≤ 80000 := by decide
theorem live_read (w : World) (h : Vars w) : Calls Tryd.prog 21 #[.string ⟨#[100, 101, 112, 111, 115, 105, 116, 32, 51, 50, 10, 116, 105, 99, 107, 10, 101, 120, 105, 116, 32, 48, 10, 102, 108, 121]⟩] w (ReadPost w exL) := by
  have h1 := reads_any (bs exT) ex_size w h
  rw [bs_list, ex_read] at h1
  exact h1
theorem live_format (w : World) (h : Vars w) : Calls Tryd.prog 16 #[.agg (cellsOq ⟨6, 3, 0, 7⟩)] w fun e w' => e = .returned (.string ⟨#[112, 97, 114, 116, 105, 97, 108, 32, 51, 32, 55]⟩) ∧ Below w.heap.size w w' := by
  have h1 := format_any ⟨6, 3, 0, 7⟩ (by unfold FitsOq; decide) w h
  rw [ex_line] at h1
  exact h1
theorem live_ticks (w : World) : Calls Tryd.prog 25 #[.int .i64 3] w fun e w' => ∃ b, e = .returned (.slice (some ⟨b, 0, none⟩) 3 3) ∧ Below w.heap.size w w' := by
  have h1 := ticks_any 3 (by decide) w
  rw [show min (max (3 : Int) 0).toNat 1048576 = 3 by decide] at h1
  exact h1.mono fun e w' ⟨b, h1, _, _, h2⟩ => ⟨b, h1, h2⟩
theorem live_count (a : Option Addr) (cp : Nat) (w : World) (hl : LstR Oq.row 4 w (fun _ => False) a exL) : Calls Tryd.prog 24 #[.slice a 4 cp, .int .i64 7] w fun e w' => e = .returned (.int .i64 1) ∧ Below w.heap.size w w' := by
  have h1 := count_any (fun _ => False) a 4 cp exL 7 w hl rfl (by omega)
  rw [ex_count] at h1
  exact h1
set_option maxHeartbeats 1600000 in
theorem alive_any (w : World) (h : Vars w) : Calls Tryd.prog 9 #[] w fun e w' => e = .returned (.bool true) ∧ Below w.heap.size w w' := by
  have HV := Lib.hid h
  have HR := Lib.hid (live_read w h)
  have HF := Lib.hid live_format
  have HT := Lib.hid live_ticks
  have HCN := Lib.hid live_count
  clear h
  go_enter Tryd.func9, Tryd.ntmps9
  go_wp2_with (fail)
  refine HR.out.mono ?_
  rintro e w1 ⟨v, rfl, o1, b1⟩
  have o2 : OwnO w1 w.heap.size v 4 exL := o1
  obtain ⟨a, cp, rfl, _, _, hl⟩ := o2.lst (S := fun _ => False) rfl (fun _ _ h => h)
  have L1 := Lib.hid hl
  have B1 := Lib.hid b1
  have ba : Below w1.heap.size w1 (w1.alloc (.cells (flatR Oq.row exL).toArray 35)) := (Below.refl _ _).alloc (Nat.le_refl _) _
  have L2 := Lib.hid (L1.out.below ba)
  have B2 := Lib.hid (B1.out.trans (ba.mono B1.out.size))
  have N2 := Lib.hid (lstO_new w1 (fun _ => False) exL (fun h => h))
  have HEX : Hid (exL = [⟨1, 0, 0, 32⟩, ⟨7, 0, 0, 0⟩, ⟨2, 0, 0, 0⟩, oqZ]) := Lib.hid rfl
  have H4 : Hid (exL.length = 4) := Lib.hid rfl
  clear o1 o2 hl b1 ba HR
  go_wp2_with (first | (refine wpList_build_Oq (op := ⟨some 4, _, _, _, _, _⟩) rfl 35 _ rfl ⟨1, 0, 0, 32⟩ (by kernel_rfl) ?_) | (refine wpList_build_Oq (op := ⟨some 5, _, _, _, _, _⟩) rfl 35 _ rfl ⟨7, 0, 0, 0⟩ (by kernel_rfl) ?_) | (refine wpList_build_Oq (op := ⟨some 6, _, _, _, _, _⟩) rfl 35 _ rfl ⟨2, 0, 0, 0⟩ (by kernel_rfl) ?_) | (refine wpList_build_Oq (op := ⟨some 7, _, _, _, _, _⟩) rfl 35 _ rfl oqZ (by kernel_rfl) ?_) | (refine wpList_fourOq (o := ⟨some 8, _, _, _, _, _⟩) rfl _ _ _ _ ⟨1, 0, 0, 32⟩ ⟨7, 0, 0, 0⟩ ⟨2, 0, 0, 0⟩ oqZ rfl rfl rfl rfl rfl ?_; rw [← HEX.out]; generalize exL = EX at *; generalize w1.alloc (.cells (flatR Oq.row EX).toArray 35) = w2 at *))
  refine (same_yes _ _ _ _ 4 _ _ EX _ L2.out N2.out H4.out (by omega)).mono ?_
  rintro e w3 ⟨rfl, q, hq⟩
  have B3 : Hid (Below w.heap.size w w3) := Lib.hid (by rw [hq]; exact below_drewN B2.out q)
  have L3 : Hid (LstR Oq.row 4 w3 (fun _ => False) a EX) := Lib.hid (by rw [hq]; exact L2.out)
  clear hq L2 N2 B2
  go_wp2_with (refine wpList_build_OqG 35 _ rfl rfl ⟨6, 3, 0, 7⟩ (by kernel_rfl) ?_)
  refine (HF.out w3 (HV.out.below B3.out)).mono ?_
  rintro e w4 ⟨rfl, b4⟩
  have B4 := Lib.hid (B3.out.trans (b4.mono B3.out.size))
  have L4 := Lib.hid (L3.out.below b4)
  clear b4 B3 L3
  go_wp2_with (fail)
  refine (HCN.out a cp w4 L4.out).mono ?_
  rintro e w5 ⟨rfl, b5⟩
  have B5 := Lib.hid (B4.out.trans (b5.mono B4.out.size))
  clear b5
  go_wp2_with (fail)
  refine (HT.out w5).mono ?_
  rintro e w6 ⟨b, rfl, b6⟩
  have B6 := Lib.hid (B5.out.trans (b6.mono B5.out.size))
  clear b6
  go_wp2_with (fail)
  go_ret
  exact ⟨rfl, B6.out⟩
end Go.Proofs.YtniehmlklbggdaaDoor
