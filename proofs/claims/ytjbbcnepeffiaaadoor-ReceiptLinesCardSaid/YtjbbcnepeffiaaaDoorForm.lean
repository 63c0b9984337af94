/- Format, the program's: rejected operations, and accepted ones that are no ticks. -/
import Derived.Test.YtjbbcnepeffiaaaDoorFm
import Derived.Deep.CutRange
namespace Go.Proofs.YtjbbcnepeffiaaaDoor
open Go Go.RowKit
set_option linter.unusedVariables false
set_option linter.unusedSimpArgs false
set_option maxRecDepth 100000

theorem headL_ne (r : Rc) (l : List UInt8) : headL r ++ l ≠ [] := by
  intro h
  exact kindL_ne r.kd (by unfold headL at h; simp at h)
set_option maxHeartbeats 3200000 in
theorem format_err (r : Rc) (la : List As) (lp : List Pm) (w : World) (hn : RcNums r) (hv : Vars w) (hcd : r.cd ≠ 0) :
    Calls Tryd.prog 18 #[.agg (cellsRc r)] w fun e w' => e = .returned (.string (bs (lineL r la lp))) ∧ Below w.heap.size w w' := by
  have HL : Hid (lineL r la lp = headL r ++ (errS ++ Lib.itoa r.cd)) := Lib.hid (by unfold lineL; rw [if_neg hcd])
  have hcb : (r.cd == 0) = false := by simpa using hcd
  have HLE := Lib.hid (itoa_short hn.cd)
  clear hcd
  have K0 : Hid (Blk (w.alloc (.cells (cellsRc r) 26)) w.heap.size 26 (cellsRc r)) := Lib.hid (Blk.new w _ _)
  have B0 : Hid (Below w.heap.size w (w.alloc (.cells (cellsRc r) 26))) := Lib.hid ((Below.refl _ _).alloc (Nat.le_refl _) _)
  have HV := Lib.hid hv
  have HN := Lib.hid hn
  have HH := Lib.hid (headL_len r)
  clear hv hn
  go_enter Tryd.func18, Tryd.ntmps18
  go_upto_region 1 with (fail)
  generalize w.alloc (.cells (cellsRc r) 26) = W at *
  go_wp2_with (fail)
  refine (writer_any W).mono ?_
  rintro e w1 ⟨rfl, e1⟩
  have F0 : Hid (Fm w w1 w.heap.size W.heap.size r []) := Lib.hid (by
    rw [e1]
    exact ⟨K0.out.alloc _, Bld.new W, B0.out.alloc B0.out.size _, B0.out.size⟩)
  clear e1 K0 B0
  generalize W.heap.size = tb at *
  have c0 : w1.cell? ⟨w.heap.size, 0, none⟩ = some (.int .i64 r.kd) := F0.out.cell 0
  go_wp2_with (fail)
  refine (name_any r.kd w1 (HV.out.below F0.out.bel).names).mono ?_
  rintro e w2 ⟨rfl, rfl⟩
  clear c0
  go_wp2_with (refine wpList_strs2 (o := ⟨some 17, _, _, _, _, _⟩) rfl _ _ (nameE r.kd) malL rfl rfl rfl ?_)
  refine (or_any r.kd _ _ (Blk.new _ _ _)).mono ?_
  rintro e w2 ⟨rfl, rfl⟩
  have F1 := Lib.hid (F0.out.alloc (.cells (strs [nameE r.kd, malL]) 9))
  clear F0
  generalize w1.alloc (.cells (strs [nameE r.kd, malL]) 9) = w2 at *
  go_wp2_with (refine wpList_strs2 (o := ⟨some 19, _, _, _, _, _⟩) rfl _ _ (kindL r.kd) [32] rfl rfl rfl ?_)
  refine (F1.out.add [kindL r.kd, [32]] 2 (headL r) (by simp [headL]) rfl (by omega) (by have := HH.out; omega)).mono ?_
  rintro e w3 ⟨rfl, f2⟩
  have F2 := Lib.hid f2
  clear f2 F1
  have m1 : w3.cell? ⟨w.heap.size, 1, none⟩ = some (.int .i64 r.cd) := F2.out.cell 1
  go_wp2_with (fail)
  refine (itoa_any r.cd HN.out.cd w3 (HV.out.below F2.out.bel).pow).mono ?_
  rintro e w5 ⟨rfl, b5⟩
  have F5 := Lib.hid (F2.out.below b5)
  clear b5 m1 F2
  go_wp2_with (refine wpList_strs2 (o := ⟨some 44, _, _, _, _, _⟩) rfl _ _ errS (Lib.itoa r.cd) rfl rfl rfl ?_)
  refine (F5.out.add [errS, Lib.itoa r.cd] 2 (headL r ++ (errS ++ Lib.itoa r.cd)) (by simp) rfl (by omega) (by have := HH.out; have := HLE.out; simp [errS]; omega)).mono ?_
  rintro e w6 ⟨rfl, f6⟩
  have F6 := Lib.hid f6
  clear f6 F5
  go_wp2_with (fail)
  refine (F6.out.line (headL_ne r _)).mono ?_
  rintro e w9 ⟨rfl, b9⟩
  go_wp2_with (fail)
  go_ret
  exact ⟨by rw [HL.out]; rfl, b9⟩
set_option maxHeartbeats 3200000 in
theorem format_none (r : Rc) (la : List As) (lp : List Pm) (w : World) (hn : RcNums r) (hv : Vars w) (hcd : r.cd = 0) (hkd : r.kd ≠ 7) (hdl : r.dl = -1) :
    Calls Tryd.prog 18 #[.agg (cellsRc r)] w fun e w' => e = .returned (.string (bs (lineL r la lp))) ∧ Below w.heap.size w w' := by
  have HL : Hid (lineL r la lp = headL r ++ (okS ++ Lib.itoa r.ix)) := Lib.hid (by unfold lineL elseL; rw [if_pos hcd, if_neg hkd, if_pos hdl]; simp)
  have HX := Lib.hid (itoa_short hn.ix)
  have HD := Lib.hid (itoa_short hn.dl)
  have hkb : (r.kd == 7) = false := by simpa using hkd
  have HCD := Lib.hid hcd
  have HDL := Lib.hid hdl
  clear hcd hkd hdl
  have K0 : Hid (Blk (w.alloc (.cells (cellsRc r) 26)) w.heap.size 26 (cellsRc r)) := Lib.hid (Blk.new w _ _)
  have B0 : Hid (Below w.heap.size w (w.alloc (.cells (cellsRc r) 26))) := Lib.hid ((Below.refl _ _).alloc (Nat.le_refl _) _)
  have HV := Lib.hid hv
  have HN := Lib.hid hn
  have HH := Lib.hid (headL_len r)
  clear hv hn
  go_enter Tryd.func18, Tryd.ntmps18
  go_upto_region 1 with (fail)
  generalize w.alloc (.cells (cellsRc r) 26) = W at *
  go_wp2_with (fail)
  refine (writer_any W).mono ?_
  rintro e w1 ⟨rfl, e1⟩
  have F0 : Hid (Fm w w1 w.heap.size W.heap.size r []) := Lib.hid (by
    rw [e1]
    exact ⟨K0.out.alloc _, Bld.new W, B0.out.alloc B0.out.size _, B0.out.size⟩)
  clear e1 K0 B0
  generalize W.heap.size = tb at *
  have c0 : w1.cell? ⟨w.heap.size, 0, none⟩ = some (.int .i64 r.kd) := F0.out.cell 0
  go_wp2_with (fail)
  refine (name_any r.kd w1 (HV.out.below F0.out.bel).names).mono ?_
  rintro e w2 ⟨rfl, rfl⟩
  clear c0
  go_wp2_with (refine wpList_strs2 (o := ⟨some 17, _, _, _, _, _⟩) rfl _ _ (nameE r.kd) malL rfl rfl rfl ?_)
  refine (or_any r.kd _ _ (Blk.new _ _ _)).mono ?_
  rintro e w2 ⟨rfl, rfl⟩
  have F1 := Lib.hid (F0.out.alloc (.cells (strs [nameE r.kd, malL]) 9))
  clear F0
  generalize w1.alloc (.cells (strs [nameE r.kd, malL]) 9) = w2 at *
  go_wp2_with (refine wpList_strs2 (o := ⟨some 19, _, _, _, _, _⟩) rfl _ _ (kindL r.kd) [32] rfl rfl rfl ?_)
  refine (F1.out.add [kindL r.kd, [32]] 2 (headL r) (by simp [headL]) rfl (by omega) (by have := HH.out; omega)).mono ?_
  rintro e w3 ⟨rfl, f2⟩
  have F2 := Lib.hid f2
  clear f2 F1
  have m0 : w3.cell? ⟨w.heap.size, 0, none⟩ = some (.int .i64 r.kd) := F2.out.cell 0
  have m1 : w3.cell? ⟨w.heap.size, 1, none⟩ = some (.int .i64 0) := by rw [← HCD.out]; exact F2.out.cell 1
  have n1 : w3.cell? ⟨w.heap.size, 2, none⟩ = some (.int .i64 r.ix) := F2.out.cell 2
  go_wp2_with (fail)
  refine (itoa_any r.ix HN.out.ix w3 (HV.out.below F2.out.bel).pow).mono ?_
  rintro e w5 ⟨rfl, b5⟩
  have F5 := Lib.hid (F2.out.below b5)
  clear b5 n1 m0 m1 F2
  go_wp2_with (refine wpList_strs2 (o := ⟨some 25, _, _, _, _, _⟩) rfl _ _ okS (Lib.itoa r.ix) rfl rfl rfl ?_)
  refine (F5.out.add [okS, Lib.itoa r.ix] 2 (headL r ++ (okS ++ Lib.itoa r.ix)) (by simp) rfl (by omega) (by have := HH.out; have := HX.out; simp [okS]; omega)).mono ?_
  rintro e w6 ⟨rfl, f6⟩
  have F6 := Lib.hid f6
  clear f6 F5
  have m5 : w6.cell? ⟨w.heap.size, 5, none⟩ = some (.int .i64 (-1)) := by rw [← HDL.out]; exact F6.out.cell 5
  go_wp2_with (fail)
  refine (F6.out.line (headL_ne r _)).mono ?_
  rintro e w9 ⟨rfl, b9⟩
  go_wp2_with (fail)
  go_ret
  exact ⟨by rw [HL.out]; rfl, b9⟩
set_option maxHeartbeats 3200000 in
theorem format_by (r : Rc) (la : List As) (lp : List Pm) (w : World) (hn : RcNums r) (hv : Vars w) (hcd : r.cd = 0) (hkd : r.kd ≠ 7) (hdl : r.dl ≠ -1) :
    Calls Tryd.prog 18 #[.agg (cellsRc r)] w fun e w' => e = .returned (.string (bs (lineL r la lp))) ∧ Below w.heap.size w w' := by
  have HL : Hid (lineL r la lp = headL r ++ (okS ++ Lib.itoa r.ix ++ (byS ++ Lib.itoa r.dl))) := Lib.hid (by unfold lineL elseL; rw [if_pos hcd, if_neg hkd, if_neg hdl])
  have HX := Lib.hid (itoa_short hn.ix)
  have HD := Lib.hid (itoa_short hn.dl)
  have hkb : (r.kd == 7) = false := by simpa using hkd
  have HCD := Lib.hid hcd
  have HDL := Lib.hid hdl
  clear hcd hkd hdl
  have K0 : Hid (Blk (w.alloc (.cells (cellsRc r) 26)) w.heap.size 26 (cellsRc r)) := Lib.hid (Blk.new w _ _)
  have B0 : Hid (Below w.heap.size w (w.alloc (.cells (cellsRc r) 26))) := Lib.hid ((Below.refl _ _).alloc (Nat.le_refl _) _)
  have HV := Lib.hid hv
  have HN := Lib.hid hn
  have HH := Lib.hid (headL_len r)
  clear hv hn
  go_enter Tryd.func18, Tryd.ntmps18
  go_upto_region 1 with (fail)
  generalize w.alloc (.cells (cellsRc r) 26) = W at *
  go_wp2_with (fail)
  refine (writer_any W).mono ?_
  rintro e w1 ⟨rfl, e1⟩
  have F0 : Hid (Fm w w1 w.heap.size W.heap.size r []) := Lib.hid (by
    rw [e1]
    exact ⟨K0.out.alloc _, Bld.new W, B0.out.alloc B0.out.size _, B0.out.size⟩)
  clear e1 K0 B0
  generalize W.heap.size = tb at *
  have c0 : w1.cell? ⟨w.heap.size, 0, none⟩ = some (.int .i64 r.kd) := F0.out.cell 0
  go_wp2_with (fail)
  refine (name_any r.kd w1 (HV.out.below F0.out.bel).names).mono ?_
  rintro e w2 ⟨rfl, rfl⟩
  clear c0
  go_wp2_with (refine wpList_strs2 (o := ⟨some 17, _, _, _, _, _⟩) rfl _ _ (nameE r.kd) malL rfl rfl rfl ?_)
  refine (or_any r.kd _ _ (Blk.new _ _ _)).mono ?_
  rintro e w2 ⟨rfl, rfl⟩
  have F1 := Lib.hid (F0.out.alloc (.cells (strs [nameE r.kd, malL]) 9))
  clear F0
  generalize w1.alloc (.cells (strs [nameE r.kd, malL]) 9) = w2 at *
  go_wp2_with (refine wpList_strs2 (o := ⟨some 19, _, _, _, _, _⟩) rfl _ _ (kindL r.kd) [32] rfl rfl rfl ?_)
  refine (F1.out.add [kindL r.kd, [32]] 2 (headL r) (by simp [headL]) rfl (by omega) (by have := HH.out; omega)).mono ?_
  rintro e w3 ⟨rfl, f2⟩
  have F2 := Lib.hid f2
  clear f2 F1
  have m0 : w3.cell? ⟨w.heap.size, 0, none⟩ = some (.int .i64 r.kd) := F2.out.cell 0
  have m1 : w3.cell? ⟨w.heap.size, 1, none⟩ = some (.int .i64 0) := by rw [← HCD.out]; exact F2.out.cell 1
  have n1 : w3.cell? ⟨w.heap.size, 2, none⟩ = some (.int .i64 r.ix) := F2.out.cell 2
  go_wp2_with (fail)
  refine (itoa_any r.ix HN.out.ix w3 (HV.out.below F2.out.bel).pow).mono ?_
  rintro e w5 ⟨rfl, b5⟩
  have F5 := Lib.hid (F2.out.below b5)
  clear b5 n1 m0 m1 F2
  go_wp2_with (refine wpList_strs2 (o := ⟨some 25, _, _, _, _, _⟩) rfl _ _ okS (Lib.itoa r.ix) rfl rfl rfl ?_)
  refine (F5.out.add [okS, Lib.itoa r.ix] 2 (headL r ++ (okS ++ Lib.itoa r.ix)) (by simp) rfl (by omega) (by have := HH.out; have := HX.out; simp [okS]; omega)).mono ?_
  rintro e w6 ⟨rfl, f6⟩
  have F6 := Lib.hid f6
  clear f6 F5
  have m5 : w6.cell? ⟨w.heap.size, 5, none⟩ = some (.int .i64 r.dl) := F6.out.cell 5
  have hdb : (r.dl == -1) = false := by simpa using HDL.out
  go_wp2_with (fail)
  refine (itoa_any r.dl HN.out.dl w6 (HV.out.below F6.out.bel).pow).mono ?_
  rintro e w7 ⟨rfl, b5⟩
  have F5 := Lib.hid (F6.out.below b5)
  clear b5 m5 F6
  go_wp2_with (refine wpList_strs2 (o := ⟨some 34, _, _, _, _, _⟩) rfl _ _ byS (Lib.itoa r.dl) rfl rfl rfl ?_)
  refine (F5.out.add [byS, Lib.itoa r.dl] 2 (headL r ++ (okS ++ Lib.itoa r.ix ++ (byS ++ Lib.itoa r.dl))) (by simp) rfl (by omega) (by have := HH.out; have := HX.out; have := HD.out; simp [okS, byS]; omega)).mono ?_
  rintro e w8 ⟨rfl, f6⟩
  have F7 := Lib.hid f6
  clear f6 F5
  go_wp2_with (fail)
  refine (F7.out.line (headL_ne r _)).mono ?_
  rintro e w9 ⟨rfl, b9⟩
  go_wp2_with (fail)
  go_ret
  exact ⟨by rw [HL.out]; rfl, b9⟩
end Go.Proofs.YtjbbcnepeffiaaaDoor
