/- receipt.Same. -/
import Derived.Test.YtjbbcnepeffiaaaDoorEqual
import Derived.Deep.CutRange
namespace Go.Proofs.YtjbbcnepeffiaaaDoor
open Go Go.RowKit Go.Deep
set_option linter.unusedVariables false
set_option linter.unusedSimpArgs false
set_option maxRecDepth 100000

set_option maxHeartbeats 1600000 in
theorem same_kd (x y : Rc) (la lb : List As) (lp lq : List Pm) (w : World) (hx : RcAt w (fun _ => False) x la lp) (hy : RcAt w (fun _ => False) y lb lq) (hne : x.kd ≠ y.kd) :
    Calls Tryd.prog 11 #[.agg (cellsRc x), .agg (cellsRc y)] w fun e w' => e = .returned (.bool (sameB x y la lb lp lq)) ∧ Below w.heap.size w w' := by
  have HR : Hid (sameB x y la lb lp lq = false) := Lib.hid (decide_eq_false fun h => hne h.1)
  have hb : (x.kd == y.kd) = false := by simpa using hne
  clear hne
  have KX : Hid (Blk ((w.alloc (.cells (cellsRc x) 26)).alloc (.cells (cellsRc y) 26)) w.heap.size 26 (cellsRc x)) := Lib.hid ((Blk.new w _ _).alloc _)
  have KY : Hid (Blk ((w.alloc (.cells (cellsRc x) 26)).alloc (.cells (cellsRc y) 26)) (w.heap.size + 1) 26 (cellsRc y)) := Lib.hid (by
    have h := Blk.new (w.alloc (.cells (cellsRc x) 26)) 26 (cellsRc y)
    rwa [show (w.alloc (.cells (cellsRc x) 26)).heap.size = w.heap.size + 1 by simp] at h)
  have B0 : Hid (Below w.heap.size w ((w.alloc (.cells (cellsRc x) 26)).alloc (.cells (cellsRc y) 26))) := Lib.hid (((Below.refl _ _).alloc (Nat.le_refl _) _).alloc (by simp) _)
  have HX := Lib.hid hx
  have HY := Lib.hid hy
  clear hx hy
  go_enter Tryd.func11, Tryd.ntmps11
  go_upto_region 1 with (fail)
  generalize (w.alloc (.cells (cellsRc x) 26)).alloc (.cells (cellsRc y) 26) = W at *
  have x0 : W.cell? ⟨w.heap.size, 0, none⟩ = some (.int .i64 x.kd) := KX.out.cell 0
  have y0 : W.cell? ⟨w.heap.size + 1, 0, none⟩ = some (.int .i64 y.kd) := KY.out.cell 0
  go_wp2_with (fail)
  go_ret
  exact ⟨by rw [HR.out]; rfl, B0.out⟩
set_option maxHeartbeats 1600000 in
theorem same_cd (x y : Rc) (la lb : List As) (lp lq : List Pm) (w : World) (hx : RcAt w (fun _ => False) x la lp) (hy : RcAt w (fun _ => False) y lb lq) (ekd : x.kd = y.kd) (hne : x.cd ≠ y.cd) :
    Calls Tryd.prog 11 #[.agg (cellsRc x), .agg (cellsRc y)] w fun e w' => e = .returned (.bool (sameB x y la lb lp lq)) ∧ Below w.heap.size w w' := by
  have HR : Hid (sameB x y la lb lp lq = false) := Lib.hid (decide_eq_false fun h => hne h.2.1)
  have hb : (x.cd == y.cd) = false := by simpa using hne
  clear hne
  have HEkd := Lib.hid ekd
  clear ekd
  have KX : Hid (Blk ((w.alloc (.cells (cellsRc x) 26)).alloc (.cells (cellsRc y) 26)) w.heap.size 26 (cellsRc x)) := Lib.hid ((Blk.new w _ _).alloc _)
  have KY : Hid (Blk ((w.alloc (.cells (cellsRc x) 26)).alloc (.cells (cellsRc y) 26)) (w.heap.size + 1) 26 (cellsRc y)) := Lib.hid (by
    have h := Blk.new (w.alloc (.cells (cellsRc x) 26)) 26 (cellsRc y)
    rwa [show (w.alloc (.cells (cellsRc x) 26)).heap.size = w.heap.size + 1 by simp] at h)
  have B0 : Hid (Below w.heap.size w ((w.alloc (.cells (cellsRc x) 26)).alloc (.cells (cellsRc y) 26))) := Lib.hid (((Below.refl _ _).alloc (Nat.le_refl _) _).alloc (by simp) _)
  have HX := Lib.hid hx
  have HY := Lib.hid hy
  clear hx hy
  go_enter Tryd.func11, Tryd.ntmps11
  go_upto_region 1 with (fail)
  generalize (w.alloc (.cells (cellsRc x) 26)).alloc (.cells (cellsRc y) 26) = W at *
  have x0 : W.cell? ⟨w.heap.size, 0, none⟩ = some (.int .i64 x.kd) := KX.out.cell 0
  have y0 : W.cell? ⟨w.heap.size + 1, 0, none⟩ = some (.int .i64 x.kd) := by rw [HEkd.out]; exact KY.out.cell 0
  have x1 : W.cell? ⟨w.heap.size, 1, none⟩ = some (.int .i64 x.cd) := KX.out.cell 1
  have y1 : W.cell? ⟨w.heap.size + 1, 1, none⟩ = some (.int .i64 y.cd) := KY.out.cell 1
  go_wp2_with (fail)
  go_ret
  exact ⟨by rw [HR.out]; rfl, B0.out⟩
set_option maxHeartbeats 1600000 in
theorem same_ix (x y : Rc) (la lb : List As) (lp lq : List Pm) (w : World) (hx : RcAt w (fun _ => False) x la lp) (hy : RcAt w (fun _ => False) y lb lq) (ekd : x.kd = y.kd) (ecd : x.cd = y.cd) (hne : x.ix ≠ y.ix) :
    Calls Tryd.prog 11 #[.agg (cellsRc x), .agg (cellsRc y)] w fun e w' => e = .returned (.bool (sameB x y la lb lp lq)) ∧ Below w.heap.size w w' := by
  have HR : Hid (sameB x y la lb lp lq = false) := Lib.hid (decide_eq_false fun h => hne h.2.2.1)
  have hb : (x.ix == y.ix) = false := by simpa using hne
  clear hne
  have HEkd := Lib.hid ekd
  have HEcd := Lib.hid ecd
  clear ekd ecd
  have KX : Hid (Blk ((w.alloc (.cells (cellsRc x) 26)).alloc (.cells (cellsRc y) 26)) w.heap.size 26 (cellsRc x)) := Lib.hid ((Blk.new w _ _).alloc _)
  have KY : Hid (Blk ((w.alloc (.cells (cellsRc x) 26)).alloc (.cells (cellsRc y) 26)) (w.heap.size + 1) 26 (cellsRc y)) := Lib.hid (by
    have h := Blk.new (w.alloc (.cells (cellsRc x) 26)) 26 (cellsRc y)
    rwa [show (w.alloc (.cells (cellsRc x) 26)).heap.size = w.heap.size + 1 by simp] at h)
  have B0 : Hid (Below w.heap.size w ((w.alloc (.cells (cellsRc x) 26)).alloc (.cells (cellsRc y) 26))) := Lib.hid (((Below.refl _ _).alloc (Nat.le_refl _) _).alloc (by simp) _)
  have HX := Lib.hid hx
  have HY := Lib.hid hy
  clear hx hy
  go_enter Tryd.func11, Tryd.ntmps11
  go_upto_region 1 with (fail)
  generalize (w.alloc (.cells (cellsRc x) 26)).alloc (.cells (cellsRc y) 26) = W at *
  have x0 : W.cell? ⟨w.heap.size, 0, none⟩ = some (.int .i64 x.kd) := KX.out.cell 0
  have y0 : W.cell? ⟨w.heap.size + 1, 0, none⟩ = some (.int .i64 x.kd) := by rw [HEkd.out]; exact KY.out.cell 0
  have x1 : W.cell? ⟨w.heap.size, 1, none⟩ = some (.int .i64 x.cd) := KX.out.cell 1
  have y1 : W.cell? ⟨w.heap.size + 1, 1, none⟩ = some (.int .i64 x.cd) := by rw [HEcd.out]; exact KY.out.cell 1
  have x2 : W.cell? ⟨w.heap.size, 2, none⟩ = some (.int .i64 x.ix) := KX.out.cell 2
  have y2 : W.cell? ⟨w.heap.size + 1, 2, none⟩ = some (.int .i64 y.ix) := KY.out.cell 2
  go_wp2_with (fail)
  go_ret
  exact ⟨by rw [HR.out]; rfl, B0.out⟩
set_option maxHeartbeats 1600000 in
theorem same_bl (x y : Rc) (la lb : List As) (lp lq : List Pm) (w : World) (hx : RcAt w (fun _ => False) x la lp) (hy : RcAt w (fun _ => False) y lb lq) (ekd : x.kd = y.kd) (ecd : x.cd = y.cd) (eix : x.ix = y.ix) (hne : x.bl ≠ y.bl) :
    Calls Tryd.prog 11 #[.agg (cellsRc x), .agg (cellsRc y)] w fun e w' => e = .returned (.bool (sameB x y la lb lp lq)) ∧ Below w.heap.size w w' := by
  have HR : Hid (sameB x y la lb lp lq = false) := Lib.hid (decide_eq_false fun h => hne h.2.2.2.1)
  have hb : (x.bl == y.bl) = false := by simpa using hne
  clear hne
  have HEkd := Lib.hid ekd
  have HEcd := Lib.hid ecd
  have HEix := Lib.hid eix
  clear ekd ecd eix
  have KX : Hid (Blk ((w.alloc (.cells (cellsRc x) 26)).alloc (.cells (cellsRc y) 26)) w.heap.size 26 (cellsRc x)) := Lib.hid ((Blk.new w _ _).alloc _)
  have KY : Hid (Blk ((w.alloc (.cells (cellsRc x) 26)).alloc (.cells (cellsRc y) 26)) (w.heap.size + 1) 26 (cellsRc y)) := Lib.hid (by
    have h := Blk.new (w.alloc (.cells (cellsRc x) 26)) 26 (cellsRc y)
    rwa [show (w.alloc (.cells (cellsRc x) 26)).heap.size = w.heap.size + 1 by simp] at h)
  have B0 : Hid (Below w.heap.size w ((w.alloc (.cells (cellsRc x) 26)).alloc (.cells (cellsRc y) 26))) := Lib.hid (((Below.refl _ _).alloc (Nat.le_refl _) _).alloc (by simp) _)
  have HX := Lib.hid hx
  have HY := Lib.hid hy
  clear hx hy
  go_enter Tryd.func11, Tryd.ntmps11
  go_upto_region 1 with (fail)
  generalize (w.alloc (.cells (cellsRc x) 26)).alloc (.cells (cellsRc y) 26) = W at *
  have x0 : W.cell? ⟨w.heap.size, 0, none⟩ = some (.int .i64 x.kd) := KX.out.cell 0
  have y0 : W.cell? ⟨w.heap.size + 1, 0, none⟩ = some (.int .i64 x.kd) := by rw [HEkd.out]; exact KY.out.cell 0
  have x1 : W.cell? ⟨w.heap.size, 1, none⟩ = some (.int .i64 x.cd) := KX.out.cell 1
  have y1 : W.cell? ⟨w.heap.size + 1, 1, none⟩ = some (.int .i64 x.cd) := by rw [HEcd.out]; exact KY.out.cell 1
  have x2 : W.cell? ⟨w.heap.size, 2, none⟩ = some (.int .i64 x.ix) := KX.out.cell 2
  have y2 : W.cell? ⟨w.heap.size + 1, 2, none⟩ = some (.int .i64 x.ix) := by rw [HEix.out]; exact KY.out.cell 2
  have x3 : W.cell? ⟨w.heap.size, 3, none⟩ = some (.int .i64 x.bl) := KX.out.cell 3
  have y3 : W.cell? ⟨w.heap.size + 1, 3, none⟩ = some (.int .i64 y.bl) := KY.out.cell 3
  go_wp2_with (fail)
  go_ret
  exact ⟨by rw [HR.out]; rfl, B0.out⟩
set_option maxHeartbeats 1600000 in
theorem same_ep (x y : Rc) (la lb : List As) (lp lq : List Pm) (w : World) (hx : RcAt w (fun _ => False) x la lp) (hy : RcAt w (fun _ => False) y lb lq) (ekd : x.kd = y.kd) (ecd : x.cd = y.cd) (eix : x.ix = y.ix) (ebl : x.bl = y.bl) (hne : x.ep ≠ y.ep) :
    Calls Tryd.prog 11 #[.agg (cellsRc x), .agg (cellsRc y)] w fun e w' => e = .returned (.bool (sameB x y la lb lp lq)) ∧ Below w.heap.size w w' := by
  have HR : Hid (sameB x y la lb lp lq = false) := Lib.hid (decide_eq_false fun h => hne h.2.2.2.2.1)
  have hb : (x.ep == y.ep) = false := by simpa using hne
  clear hne
  have HEkd := Lib.hid ekd
  have HEcd := Lib.hid ecd
  have HEix := Lib.hid eix
  have HEbl := Lib.hid ebl
  clear ekd ecd eix ebl
  have KX : Hid (Blk ((w.alloc (.cells (cellsRc x) 26)).alloc (.cells (cellsRc y) 26)) w.heap.size 26 (cellsRc x)) := Lib.hid ((Blk.new w _ _).alloc _)
  have KY : Hid (Blk ((w.alloc (.cells (cellsRc x) 26)).alloc (.cells (cellsRc y) 26)) (w.heap.size + 1) 26 (cellsRc y)) := Lib.hid (by
    have h := Blk.new (w.alloc (.cells (cellsRc x) 26)) 26 (cellsRc y)
    rwa [show (w.alloc (.cells (cellsRc x) 26)).heap.size = w.heap.size + 1 by simp] at h)
  have B0 : Hid (Below w.heap.size w ((w.alloc (.cells (cellsRc x) 26)).alloc (.cells (cellsRc y) 26))) := Lib.hid (((Below.refl _ _).alloc (Nat.le_refl _) _).alloc (by simp) _)
  have HX := Lib.hid hx
  have HY := Lib.hid hy
  clear hx hy
  go_enter Tryd.func11, Tryd.ntmps11
  go_upto_region 1 with (fail)
  generalize (w.alloc (.cells (cellsRc x) 26)).alloc (.cells (cellsRc y) 26) = W at *
  have x0 : W.cell? ⟨w.heap.size, 0, none⟩ = some (.int .i64 x.kd) := KX.out.cell 0
  have y0 : W.cell? ⟨w.heap.size + 1, 0, none⟩ = some (.int .i64 x.kd) := by rw [HEkd.out]; exact KY.out.cell 0
  have x1 : W.cell? ⟨w.heap.size, 1, none⟩ = some (.int .i64 x.cd) := KX.out.cell 1
  have y1 : W.cell? ⟨w.heap.size + 1, 1, none⟩ = some (.int .i64 x.cd) := by rw [HEcd.out]; exact KY.out.cell 1
  have x2 : W.cell? ⟨w.heap.size, 2, none⟩ = some (.int .i64 x.ix) := KX.out.cell 2
  have y2 : W.cell? ⟨w.heap.size + 1, 2, none⟩ = some (.int .i64 x.ix) := by rw [HEix.out]; exact KY.out.cell 2
  have x3 : W.cell? ⟨w.heap.size, 3, none⟩ = some (.int .i64 x.bl) := KX.out.cell 3
  have y3 : W.cell? ⟨w.heap.size + 1, 3, none⟩ = some (.int .i64 x.bl) := by rw [HEbl.out]; exact KY.out.cell 3
  have x4 : W.cell? ⟨w.heap.size, 4, none⟩ = some (.int .i64 x.ep) := KX.out.cell 4
  have y4 : W.cell? ⟨w.heap.size + 1, 4, none⟩ = some (.int .i64 y.ep) := KY.out.cell 4
  go_wp2_with (fail)
  go_ret
  exact ⟨by rw [HR.out]; rfl, B0.out⟩
set_option maxHeartbeats 1600000 in
theorem same_dl (x y : Rc) (la lb : List As) (lp lq : List Pm) (w : World) (hx : RcAt w (fun _ => False) x la lp) (hy : RcAt w (fun _ => False) y lb lq) (ekd : x.kd = y.kd) (ecd : x.cd = y.cd) (eix : x.ix = y.ix) (ebl : x.bl = y.bl) (eep : x.ep = y.ep) (hne : x.dl ≠ y.dl) :
    Calls Tryd.prog 11 #[.agg (cellsRc x), .agg (cellsRc y)] w fun e w' => e = .returned (.bool (sameB x y la lb lp lq)) ∧ Below w.heap.size w w' := by
  have HR : Hid (sameB x y la lb lp lq = false) := Lib.hid (decide_eq_false fun h => hne h.2.2.2.2.2.1)
  have hb : (x.dl == y.dl) = false := by simpa using hne
  clear hne
  have HEkd := Lib.hid ekd
  have HEcd := Lib.hid ecd
  have HEix := Lib.hid eix
  have HEbl := Lib.hid ebl
  have HEep := Lib.hid eep
  clear ekd ecd eix ebl eep
  have KX : Hid (Blk ((w.alloc (.cells (cellsRc x) 26)).alloc (.cells (cellsRc y) 26)) w.heap.size 26 (cellsRc x)) := Lib.hid ((Blk.new w _ _).alloc _)
  have KY : Hid (Blk ((w.alloc (.cells (cellsRc x) 26)).alloc (.cells (cellsRc y) 26)) (w.heap.size + 1) 26 (cellsRc y)) := Lib.hid (by
    have h := Blk.new (w.alloc (.cells (cellsRc x) 26)) 26 (cellsRc y)
    rwa [show (w.alloc (.cells (cellsRc x) 26)).heap.size = w.heap.size + 1 by simp] at h)
  have B0 : Hid (Below w.heap.size w ((w.alloc (.cells (cellsRc x) 26)).alloc (.cells (cellsRc y) 26))) := Lib.hid (((Below.refl _ _).alloc (Nat.le_refl _) _).alloc (by simp) _)
  have HX := Lib.hid hx
  have HY := Lib.hid hy
  clear hx hy
  go_enter Tryd.func11, Tryd.ntmps11
  go_upto_region 1 with (fail)
  generalize (w.alloc (.cells (cellsRc x) 26)).alloc (.cells (cellsRc y) 26) = W at *
  have x0 : W.cell? ⟨w.heap.size, 0, none⟩ = some (.int .i64 x.kd) := KX.out.cell 0
  have y0 : W.cell? ⟨w.heap.size + 1, 0, none⟩ = some (.int .i64 x.kd) := by rw [HEkd.out]; exact KY.out.cell 0
  have x1 : W.cell? ⟨w.heap.size, 1, none⟩ = some (.int .i64 x.cd) := KX.out.cell 1
  have y1 : W.cell? ⟨w.heap.size + 1, 1, none⟩ = some (.int .i64 x.cd) := by rw [HEcd.out]; exact KY.out.cell 1
  have x2 : W.cell? ⟨w.heap.size, 2, none⟩ = some (.int .i64 x.ix) := KX.out.cell 2
  have y2 : W.cell? ⟨w.heap.size + 1, 2, none⟩ = some (.int .i64 x.ix) := by rw [HEix.out]; exact KY.out.cell 2
  have x3 : W.cell? ⟨w.heap.size, 3, none⟩ = some (.int .i64 x.bl) := KX.out.cell 3
  have y3 : W.cell? ⟨w.heap.size + 1, 3, none⟩ = some (.int .i64 x.bl) := by rw [HEbl.out]; exact KY.out.cell 3
  have x4 : W.cell? ⟨w.heap.size, 4, none⟩ = some (.int .i64 x.ep) := KX.out.cell 4
  have y4 : W.cell? ⟨w.heap.size + 1, 4, none⟩ = some (.int .i64 x.ep) := by rw [HEep.out]; exact KY.out.cell 4
  have x5 : W.cell? ⟨w.heap.size, 5, none⟩ = some (.int .i64 x.dl) := KX.out.cell 5
  have y5 : W.cell? ⟨w.heap.size + 1, 5, none⟩ = some (.int .i64 y.dl) := KY.out.cell 5
  go_wp2_with (fail)
  go_ret
  exact ⟨by rw [HR.out]; rfl, B0.out⟩
set_option maxHeartbeats 1600000 in
theorem same_la (x y : Rc) (la lb : List As) (lp lq : List Pm) (w : World) (hx : RcAt w (fun _ => False) x la lp) (hy : RcAt w (fun _ => False) y lb lq) (ekd : x.kd = y.kd) (ecd : x.cd = y.cd) (eix : x.ix = y.ix) (ebl : x.bl = y.bl) (eep : x.ep = y.ep) (edl : x.dl = y.dl) (hne : la ≠ lb) :
    Calls Tryd.prog 11 #[.agg (cellsRc x), .agg (cellsRc y)] w fun e w' => e = .returned (.bool (sameB x y la lb lp lq)) ∧ Below w.heap.size w w' := by
  have HLA : Hid (decide (la = lb) = false) := Lib.hid (decide_eq_false hne)
  have HR : Hid (sameB x y la lb lp lq = false) := Lib.hid (decide_eq_false fun h => hne h.2.2.2.2.2.2.2.1)
  clear hne
  have HEkd := Lib.hid ekd
  have HEcd := Lib.hid ecd
  have HEix := Lib.hid eix
  have HEbl := Lib.hid ebl
  have HEep := Lib.hid eep
  have HEdl := Lib.hid edl
  clear ekd ecd eix ebl eep edl
  have lx := hx.ac
  have ly := hy.ac
  have qx := hx.pc
  have qy := hy.pc
  unfold maxLen at lx ly qx qy
  have L1 : x.an ≤ 9223372036854775807 := by omega
  have L2 : y.an ≤ 9223372036854775807 := by omega
  have L3 : x.pn ≤ 9223372036854775807 := by omega
  have L4 : y.pn ≤ 9223372036854775807 := by omega
  have HLN := Lib.hid (And.intro (And.intro L1 L2) (And.intro L3 L4))
  clear lx ly qx qy L1 L2 L3 L4
  have KX : Hid (Blk ((w.alloc (.cells (cellsRc x) 26)).alloc (.cells (cellsRc y) 26)) w.heap.size 26 (cellsRc x)) := Lib.hid ((Blk.new w _ _).alloc _)
  have KY : Hid (Blk ((w.alloc (.cells (cellsRc x) 26)).alloc (.cells (cellsRc y) 26)) (w.heap.size + 1) 26 (cellsRc y)) := Lib.hid (by
    have h := Blk.new (w.alloc (.cells (cellsRc x) 26)) 26 (cellsRc y)
    rwa [show (w.alloc (.cells (cellsRc x) 26)).heap.size = w.heap.size + 1 by simp] at h)
  have B0 : Hid (Below w.heap.size w ((w.alloc (.cells (cellsRc x) 26)).alloc (.cells (cellsRc y) 26))) := Lib.hid (((Below.refl _ _).alloc (Nat.le_refl _) _).alloc (by simp) _)
  have HX := Lib.hid hx
  have HY := Lib.hid hy
  clear hx hy
  go_enter Tryd.func11, Tryd.ntmps11
  go_upto_region 1 with (fail)
  generalize (w.alloc (.cells (cellsRc x) 26)).alloc (.cells (cellsRc y) 26) = W at *
  have x0 : W.cell? ⟨w.heap.size, 0, none⟩ = some (.int .i64 x.kd) := KX.out.cell 0
  have y0 : W.cell? ⟨w.heap.size + 1, 0, none⟩ = some (.int .i64 x.kd) := by rw [HEkd.out]; exact KY.out.cell 0
  have x1 : W.cell? ⟨w.heap.size, 1, none⟩ = some (.int .i64 x.cd) := KX.out.cell 1
  have y1 : W.cell? ⟨w.heap.size + 1, 1, none⟩ = some (.int .i64 x.cd) := by rw [HEcd.out]; exact KY.out.cell 1
  have x2 : W.cell? ⟨w.heap.size, 2, none⟩ = some (.int .i64 x.ix) := KX.out.cell 2
  have y2 : W.cell? ⟨w.heap.size + 1, 2, none⟩ = some (.int .i64 x.ix) := by rw [HEix.out]; exact KY.out.cell 2
  have x3 : W.cell? ⟨w.heap.size, 3, none⟩ = some (.int .i64 x.bl) := KX.out.cell 3
  have y3 : W.cell? ⟨w.heap.size + 1, 3, none⟩ = some (.int .i64 x.bl) := by rw [HEbl.out]; exact KY.out.cell 3
  have x4 : W.cell? ⟨w.heap.size, 4, none⟩ = some (.int .i64 x.ep) := KX.out.cell 4
  have y4 : W.cell? ⟨w.heap.size + 1, 4, none⟩ = some (.int .i64 x.ep) := by rw [HEep.out]; exact KY.out.cell 4
  have x5 : W.cell? ⟨w.heap.size, 5, none⟩ = some (.int .i64 x.dl) := KX.out.cell 5
  have y5 : W.cell? ⟨w.heap.size + 1, 5, none⟩ = some (.int .i64 x.dl) := by rw [HEdl.out]; exact KY.out.cell 5
  have x6 : W.cell? ⟨w.heap.size, 6, none⟩ = some (.slice x.aa x.an x.ac) := KX.out.cell 6
  have y6 : W.cell? ⟨w.heap.size + 1, 6, none⟩ = some (.slice y.aa y.an y.ac) := KY.out.cell 6
  go_wp2_with (fail)
  refine (equalAs_any x.aa y.aa x.an y.an x.ac y.ac la lb W _ _ (HX.out.asg.below B0.out) (HY.out.asg.below B0.out) HX.out.an HY.out.an HLN.out.1.1 HLN.out.1.2).mono ?_
  rw [HLA.out]
  rintro e w1 ⟨rfl, b1⟩
  have B1 := Lib.hid (B0.out.trans (b1.mono B0.out.size))
  have KX1 := Lib.hid (KX.out.below b1 KX.out.lt)
  have KY1 := Lib.hid (KY.out.below b1 KY.out.lt)
  clear b1
  clear x0 y0 x1 y1 x2 y2 x3 y3 x4 y4 x5 y5 x6 y6
  go_wp2_with (fail)
  go_ret
  exact ⟨by rw [HR.out]; rfl, B1.out⟩
set_option maxHeartbeats 1600000 in
theorem same_lp (x y : Rc) (la lb : List As) (lp lq : List Pm) (w : World) (hx : RcAt w (fun _ => False) x la lp) (hy : RcAt w (fun _ => False) y lb lq) (ekd : x.kd = y.kd) (ecd : x.cd = y.cd) (eix : x.ix = y.ix) (ebl : x.bl = y.bl) (eep : x.ep = y.ep) (edl : x.dl = y.dl) (hla : la = lb) (hne : lp ≠ lq) :
    Calls Tryd.prog 11 #[.agg (cellsRc x), .agg (cellsRc y)] w fun e w' => e = .returned (.bool (sameB x y la lb lp lq)) ∧ Below w.heap.size w w' := by
  have HLA : Hid (decide (la = lb) = true) := Lib.hid (decide_eq_true hla)
  have HLP : Hid (decide (lp = lq) = false) := Lib.hid (decide_eq_false hne)
  have HR : Hid (sameB x y la lb lp lq = false) := Lib.hid (decide_eq_false fun h => hne h.2.2.2.2.2.2.2.2)
  clear hne hla
  have HEkd := Lib.hid ekd
  have HEcd := Lib.hid ecd
  have HEix := Lib.hid eix
  have HEbl := Lib.hid ebl
  have HEep := Lib.hid eep
  have HEdl := Lib.hid edl
  clear ekd ecd eix ebl eep edl
  have lx := hx.ac
  have ly := hy.ac
  have qx := hx.pc
  have qy := hy.pc
  unfold maxLen at lx ly qx qy
  have L1 : x.an ≤ 9223372036854775807 := by omega
  have L2 : y.an ≤ 9223372036854775807 := by omega
  have L3 : x.pn ≤ 9223372036854775807 := by omega
  have L4 : y.pn ≤ 9223372036854775807 := by omega
  have HLN := Lib.hid (And.intro (And.intro L1 L2) (And.intro L3 L4))
  clear lx ly qx qy L1 L2 L3 L4
  have KX : Hid (Blk ((w.alloc (.cells (cellsRc x) 26)).alloc (.cells (cellsRc y) 26)) w.heap.size 26 (cellsRc x)) := Lib.hid ((Blk.new w _ _).alloc _)
  have KY : Hid (Blk ((w.alloc (.cells (cellsRc x) 26)).alloc (.cells (cellsRc y) 26)) (w.heap.size + 1) 26 (cellsRc y)) := Lib.hid (by
    have h := Blk.new (w.alloc (.cells (cellsRc x) 26)) 26 (cellsRc y)
    rwa [show (w.alloc (.cells (cellsRc x) 26)).heap.size = w.heap.size + 1 by simp] at h)
  have B0 : Hid (Below w.heap.size w ((w.alloc (.cells (cellsRc x) 26)).alloc (.cells (cellsRc y) 26))) := Lib.hid (((Below.refl _ _).alloc (Nat.le_refl _) _).alloc (by simp) _)
  have HX := Lib.hid hx
  have HY := Lib.hid hy
  clear hx hy
  go_enter Tryd.func11, Tryd.ntmps11
  go_upto_region 1 with (fail)
  generalize (w.alloc (.cells (cellsRc x) 26)).alloc (.cells (cellsRc y) 26) = W at *
  have x0 : W.cell? ⟨w.heap.size, 0, none⟩ = some (.int .i64 x.kd) := KX.out.cell 0
  have y0 : W.cell? ⟨w.heap.size + 1, 0, none⟩ = some (.int .i64 x.kd) := by rw [HEkd.out]; exact KY.out.cell 0
  have x1 : W.cell? ⟨w.heap.size, 1, none⟩ = some (.int .i64 x.cd) := KX.out.cell 1
  have y1 : W.cell? ⟨w.heap.size + 1, 1, none⟩ = some (.int .i64 x.cd) := by rw [HEcd.out]; exact KY.out.cell 1
  have x2 : W.cell? ⟨w.heap.size, 2, none⟩ = some (.int .i64 x.ix) := KX.out.cell 2
  have y2 : W.cell? ⟨w.heap.size + 1, 2, none⟩ = some (.int .i64 x.ix) := by rw [HEix.out]; exact KY.out.cell 2
  have x3 : W.cell? ⟨w.heap.size, 3, none⟩ = some (.int .i64 x.bl) := KX.out.cell 3
  have y3 : W.cell? ⟨w.heap.size + 1, 3, none⟩ = some (.int .i64 x.bl) := by rw [HEbl.out]; exact KY.out.cell 3
  have x4 : W.cell? ⟨w.heap.size, 4, none⟩ = some (.int .i64 x.ep) := KX.out.cell 4
  have y4 : W.cell? ⟨w.heap.size + 1, 4, none⟩ = some (.int .i64 x.ep) := by rw [HEep.out]; exact KY.out.cell 4
  have x5 : W.cell? ⟨w.heap.size, 5, none⟩ = some (.int .i64 x.dl) := KX.out.cell 5
  have y5 : W.cell? ⟨w.heap.size + 1, 5, none⟩ = some (.int .i64 x.dl) := by rw [HEdl.out]; exact KY.out.cell 5
  have x6 : W.cell? ⟨w.heap.size, 6, none⟩ = some (.slice x.aa x.an x.ac) := KX.out.cell 6
  have y6 : W.cell? ⟨w.heap.size + 1, 6, none⟩ = some (.slice y.aa y.an y.ac) := KY.out.cell 6
  go_wp2_with (fail)
  refine (equalAs_any x.aa y.aa x.an y.an x.ac y.ac la lb W _ _ (HX.out.asg.below B0.out) (HY.out.asg.below B0.out) HX.out.an HY.out.an HLN.out.1.1 HLN.out.1.2).mono ?_
  rw [HLA.out]
  rintro e w1 ⟨rfl, b1⟩
  have B1 := Lib.hid (B0.out.trans (b1.mono B0.out.size))
  have KX1 := Lib.hid (KX.out.below b1 KX.out.lt)
  have KY1 := Lib.hid (KY.out.below b1 KY.out.lt)
  clear b1
  clear x0 y0 x1 y1 x2 y2 x3 y3 x4 y4 x5 y5 x6 y6
  have x7 : w1.cell? ⟨w.heap.size, 7, none⟩ = some (.slice x.pa x.pn x.pc) := KX1.out.cell 7
  have y7 : w1.cell? ⟨w.heap.size + 1, 7, none⟩ = some (.slice y.pa y.pn y.pc) := KY1.out.cell 7
  go_wp2_with (fail)
  refine (equalPm_any x.pa y.pa x.pn y.pn x.pc y.pc lp lq w1 _ _ (HX.out.pay.below B1.out) (HY.out.pay.below B1.out) HX.out.pn HY.out.pn HLN.out.2.1 HLN.out.2.2).mono ?_
  rw [HLP.out]
  rintro e w2 ⟨rfl, b2⟩
  have B2 := Lib.hid (B1.out.trans (b2.mono B1.out.size))
  have KX2 := Lib.hid (KX1.out.below b2 KX1.out.lt)
  have KY2 := Lib.hid (KY1.out.below b2 KY1.out.lt)
  clear b2
  clear x7 y7
  go_wp2_with (fail)
  go_ret
  exact ⟨by rw [HR.out]; rfl, B2.out⟩
set_option maxHeartbeats 1600000 in
theorem same_vs (x y : Rc) (la lb : List As) (lp lq : List Pm) (w : World) (hx : RcAt w (fun _ => False) x la lp) (hy : RcAt w (fun _ => False) y lb lq) (ekd : x.kd = y.kd) (ecd : x.cd = y.cd) (eix : x.ix = y.ix) (ebl : x.bl = y.bl) (eep : x.ep = y.ep) (edl : x.dl = y.dl) (hla : la = lb) (hlp : lp = lq) (hne : x.vs ≠ y.vs) :
    Calls Tryd.prog 11 #[.agg (cellsRc x), .agg (cellsRc y)] w fun e w' => e = .returned (.bool (sameB x y la lb lp lq)) ∧ Below w.heap.size w w' := by
  have HLA : Hid (decide (la = lb) = true) := Lib.hid (decide_eq_true hla)
  have HLP : Hid (decide (lp = lq) = true) := Lib.hid (decide_eq_true hlp)
  have hb : (x.vs == y.vs) = false := by simpa using hne
  have HR : Hid (sameB x y la lb lp lq = false) := Lib.hid (decide_eq_false fun h => hne h.2.2.2.2.2.2.1)
  clear hne hla hlp
  have HEkd := Lib.hid ekd
  have HEcd := Lib.hid ecd
  have HEix := Lib.hid eix
  have HEbl := Lib.hid ebl
  have HEep := Lib.hid eep
  have HEdl := Lib.hid edl
  clear ekd ecd eix ebl eep edl
  have lx := hx.ac
  have ly := hy.ac
  have qx := hx.pc
  have qy := hy.pc
  unfold maxLen at lx ly qx qy
  have L1 : x.an ≤ 9223372036854775807 := by omega
  have L2 : y.an ≤ 9223372036854775807 := by omega
  have L3 : x.pn ≤ 9223372036854775807 := by omega
  have L4 : y.pn ≤ 9223372036854775807 := by omega
  have HLN := Lib.hid (And.intro (And.intro L1 L2) (And.intro L3 L4))
  clear lx ly qx qy L1 L2 L3 L4
  have KX : Hid (Blk ((w.alloc (.cells (cellsRc x) 26)).alloc (.cells (cellsRc y) 26)) w.heap.size 26 (cellsRc x)) := Lib.hid ((Blk.new w _ _).alloc _)
  have KY : Hid (Blk ((w.alloc (.cells (cellsRc x) 26)).alloc (.cells (cellsRc y) 26)) (w.heap.size + 1) 26 (cellsRc y)) := Lib.hid (by
    have h := Blk.new (w.alloc (.cells (cellsRc x) 26)) 26 (cellsRc y)
    rwa [show (w.alloc (.cells (cellsRc x) 26)).heap.size = w.heap.size + 1 by simp] at h)
  have B0 : Hid (Below w.heap.size w ((w.alloc (.cells (cellsRc x) 26)).alloc (.cells (cellsRc y) 26))) := Lib.hid (((Below.refl _ _).alloc (Nat.le_refl _) _).alloc (by simp) _)
  have HX := Lib.hid hx
  have HY := Lib.hid hy
  clear hx hy
  go_enter Tryd.func11, Tryd.ntmps11
  go_upto_region 1 with (fail)
  generalize (w.alloc (.cells (cellsRc x) 26)).alloc (.cells (cellsRc y) 26) = W at *
  have x0 : W.cell? ⟨w.heap.size, 0, none⟩ = some (.int .i64 x.kd) := KX.out.cell 0
  have y0 : W.cell? ⟨w.heap.size + 1, 0, none⟩ = some (.int .i64 x.kd) := by rw [HEkd.out]; exact KY.out.cell 0
  have x1 : W.cell? ⟨w.heap.size, 1, none⟩ = some (.int .i64 x.cd) := KX.out.cell 1
  have y1 : W.cell? ⟨w.heap.size + 1, 1, none⟩ = some (.int .i64 x.cd) := by rw [HEcd.out]; exact KY.out.cell 1
  have x2 : W.cell? ⟨w.heap.size, 2, none⟩ = some (.int .i64 x.ix) := KX.out.cell 2
  have y2 : W.cell? ⟨w.heap.size + 1, 2, none⟩ = some (.int .i64 x.ix) := by rw [HEix.out]; exact KY.out.cell 2
  have x3 : W.cell? ⟨w.heap.size, 3, none⟩ = some (.int .i64 x.bl) := KX.out.cell 3
  have y3 : W.cell? ⟨w.heap.size + 1, 3, none⟩ = some (.int .i64 x.bl) := by rw [HEbl.out]; exact KY.out.cell 3
  have x4 : W.cell? ⟨w.heap.size, 4, none⟩ = some (.int .i64 x.ep) := KX.out.cell 4
  have y4 : W.cell? ⟨w.heap.size + 1, 4, none⟩ = some (.int .i64 x.ep) := by rw [HEep.out]; exact KY.out.cell 4
  have x5 : W.cell? ⟨w.heap.size, 5, none⟩ = some (.int .i64 x.dl) := KX.out.cell 5
  have y5 : W.cell? ⟨w.heap.size + 1, 5, none⟩ = some (.int .i64 x.dl) := by rw [HEdl.out]; exact KY.out.cell 5
  have x6 : W.cell? ⟨w.heap.size, 6, none⟩ = some (.slice x.aa x.an x.ac) := KX.out.cell 6
  have y6 : W.cell? ⟨w.heap.size + 1, 6, none⟩ = some (.slice y.aa y.an y.ac) := KY.out.cell 6
  go_wp2_with (fail)
  refine (equalAs_any x.aa y.aa x.an y.an x.ac y.ac la lb W _ _ (HX.out.asg.below B0.out) (HY.out.asg.below B0.out) HX.out.an HY.out.an HLN.out.1.1 HLN.out.1.2).mono ?_
  rw [HLA.out]
  rintro e w1 ⟨rfl, b1⟩
  have B1 := Lib.hid (B0.out.trans (b1.mono B0.out.size))
  have KX1 := Lib.hid (KX.out.below b1 KX.out.lt)
  have KY1 := Lib.hid (KY.out.below b1 KY.out.lt)
  clear b1
  clear x0 y0 x1 y1 x2 y2 x3 y3 x4 y4 x5 y5 x6 y6
  have x7 : w1.cell? ⟨w.heap.size, 7, none⟩ = some (.slice x.pa x.pn x.pc) := KX1.out.cell 7
  have y7 : w1.cell? ⟨w.heap.size + 1, 7, none⟩ = some (.slice y.pa y.pn y.pc) := KY1.out.cell 7
  go_wp2_with (fail)
  refine (equalPm_any x.pa y.pa x.pn y.pn x.pc y.pc lp lq w1 _ _ (HX.out.pay.below B1.out) (HY.out.pay.below B1.out) HX.out.pn HY.out.pn HLN.out.2.1 HLN.out.2.2).mono ?_
  rw [HLP.out]
  rintro e w2 ⟨rfl, b2⟩
  have B2 := Lib.hid (B1.out.trans (b2.mono B1.out.size))
  have KX2 := Lib.hid (KX1.out.below b2 KX1.out.lt)
  have KY2 := Lib.hid (KY1.out.below b2 KY1.out.lt)
  clear b2
  clear x7 y7
  have x8 : w2.cell? ⟨w.heap.size, 8, none⟩ = some (.int .i64 x.vs) := KX2.out.cell 8
  have y8 : w2.cell? ⟨w.heap.size + 1, 8, none⟩ = some (.int .i64 y.vs) := KY2.out.cell 8
  go_wp2_with (fail)
  go_ret
  exact ⟨by rw [HR.out]; rfl, B2.out⟩
set_option maxHeartbeats 1600000 in
theorem same_all (x y : Rc) (la lb : List As) (lp lq : List Pm) (w : World) (hx : RcAt w (fun _ => False) x la lp) (hy : RcAt w (fun _ => False) y lb lq) (ekd : x.kd = y.kd) (ecd : x.cd = y.cd) (eix : x.ix = y.ix) (ebl : x.bl = y.bl) (eep : x.ep = y.ep) (edl : x.dl = y.dl) (evs : x.vs = y.vs) (hla : la = lb) (hlp : lp = lq) :
    Calls Tryd.prog 11 #[.agg (cellsRc x), .agg (cellsRc y)] w fun e w' => e = .returned (.bool (sameB x y la lb lp lq)) ∧ Below w.heap.size w w' := by
  have HLA : Hid (decide (la = lb) = true) := Lib.hid (decide_eq_true hla)
  have HLP : Hid (decide (lp = lq) = true) := Lib.hid (decide_eq_true hlp)
  have HR : Hid (sameB x y la lb lp lq = true) := Lib.hid (decide_eq_true ⟨ekd, ecd, eix, ebl, eep, edl, evs, hla, hlp⟩)
  clear hla hlp
  have HEkd := Lib.hid ekd
  have HEcd := Lib.hid ecd
  have HEix := Lib.hid eix
  have HEbl := Lib.hid ebl
  have HEep := Lib.hid eep
  have HEdl := Lib.hid edl
  have HEvs := Lib.hid evs
  clear ekd ecd eix ebl eep edl evs
  have lx := hx.ac
  have ly := hy.ac
  have qx := hx.pc
  have qy := hy.pc
  unfold maxLen at lx ly qx qy
  have L1 : x.an ≤ 9223372036854775807 := by omega
  have L2 : y.an ≤ 9223372036854775807 := by omega
  have L3 : x.pn ≤ 9223372036854775807 := by omega
  have L4 : y.pn ≤ 9223372036854775807 := by omega
  have HLN := Lib.hid (And.intro (And.intro L1 L2) (And.intro L3 L4))
  clear lx ly qx qy L1 L2 L3 L4
  have KX : Hid (Blk ((w.alloc (.cells (cellsRc x) 26)).alloc (.cells (cellsRc y) 26)) w.heap.size 26 (cellsRc x)) := Lib.hid ((Blk.new w _ _).alloc _)
  have KY : Hid (Blk ((w.alloc (.cells (cellsRc x) 26)).alloc (.cells (cellsRc y) 26)) (w.heap.size + 1) 26 (cellsRc y)) := Lib.hid (by
    have h := Blk.new (w.alloc (.cells (cellsRc x) 26)) 26 (cellsRc y)
    rwa [show (w.alloc (.cells (cellsRc x) 26)).heap.size = w.heap.size + 1 by simp] at h)
  have B0 : Hid (Below w.heap.size w ((w.alloc (.cells (cellsRc x) 26)).alloc (.cells (cellsRc y) 26))) := Lib.hid (((Below.refl _ _).alloc (Nat.le_refl _) _).alloc (by simp) _)
  have HX := Lib.hid hx
  have HY := Lib.hid hy
  clear hx hy
  go_enter Tryd.func11, Tryd.ntmps11
  go_upto_region 1 with (fail)
  generalize (w.alloc (.cells (cellsRc x) 26)).alloc (.cells (cellsRc y) 26) = W at *
  have x0 : W.cell? ⟨w.heap.size, 0, none⟩ = some (.int .i64 x.kd) := KX.out.cell 0
  have y0 : W.cell? ⟨w.heap.size + 1, 0, none⟩ = some (.int .i64 x.kd) := by rw [HEkd.out]; exact KY.out.cell 0
  have x1 : W.cell? ⟨w.heap.size, 1, none⟩ = some (.int .i64 x.cd) := KX.out.cell 1
  have y1 : W.cell? ⟨w.heap.size + 1, 1, none⟩ = some (.int .i64 x.cd) := by rw [HEcd.out]; exact KY.out.cell 1
  have x2 : W.cell? ⟨w.heap.size, 2, none⟩ = some (.int .i64 x.ix) := KX.out.cell 2
  have y2 : W.cell? ⟨w.heap.size + 1, 2, none⟩ = some (.int .i64 x.ix) := by rw [HEix.out]; exact KY.out.cell 2
  have x3 : W.cell? ⟨w.heap.size, 3, none⟩ = some (.int .i64 x.bl) := KX.out.cell 3
  have y3 : W.cell? ⟨w.heap.size + 1, 3, none⟩ = some (.int .i64 x.bl) := by rw [HEbl.out]; exact KY.out.cell 3
  have x4 : W.cell? ⟨w.heap.size, 4, none⟩ = some (.int .i64 x.ep) := KX.out.cell 4
  have y4 : W.cell? ⟨w.heap.size + 1, 4, none⟩ = some (.int .i64 x.ep) := by rw [HEep.out]; exact KY.out.cell 4
  have x5 : W.cell? ⟨w.heap.size, 5, none⟩ = some (.int .i64 x.dl) := KX.out.cell 5
  have y5 : W.cell? ⟨w.heap.size + 1, 5, none⟩ = some (.int .i64 x.dl) := by rw [HEdl.out]; exact KY.out.cell 5
  have x6 : W.cell? ⟨w.heap.size, 6, none⟩ = some (.slice x.aa x.an x.ac) := KX.out.cell 6
  have y6 : W.cell? ⟨w.heap.size + 1, 6, none⟩ = some (.slice y.aa y.an y.ac) := KY.out.cell 6
  go_wp2_with (fail)
  refine (equalAs_any x.aa y.aa x.an y.an x.ac y.ac la lb W _ _ (HX.out.asg.below B0.out) (HY.out.asg.below B0.out) HX.out.an HY.out.an HLN.out.1.1 HLN.out.1.2).mono ?_
  rw [HLA.out]
  rintro e w1 ⟨rfl, b1⟩
  have B1 := Lib.hid (B0.out.trans (b1.mono B0.out.size))
  have KX1 := Lib.hid (KX.out.below b1 KX.out.lt)
  have KY1 := Lib.hid (KY.out.below b1 KY.out.lt)
  clear b1
  clear x0 y0 x1 y1 x2 y2 x3 y3 x4 y4 x5 y5 x6 y6
  have x7 : w1.cell? ⟨w.heap.size, 7, none⟩ = some (.slice x.pa x.pn x.pc) := KX1.out.cell 7
  have y7 : w1.cell? ⟨w.heap.size + 1, 7, none⟩ = some (.slice y.pa y.pn y.pc) := KY1.out.cell 7
  go_wp2_with (fail)
  refine (equalPm_any x.pa y.pa x.pn y.pn x.pc y.pc lp lq w1 _ _ (HX.out.pay.below B1.out) (HY.out.pay.below B1.out) HX.out.pn HY.out.pn HLN.out.2.1 HLN.out.2.2).mono ?_
  rw [HLP.out]
  rintro e w2 ⟨rfl, b2⟩
  have B2 := Lib.hid (B1.out.trans (b2.mono B1.out.size))
  have KX2 := Lib.hid (KX1.out.below b2 KX1.out.lt)
  have KY2 := Lib.hid (KY1.out.below b2 KY1.out.lt)
  clear b2
  clear x7 y7
  have x8 : w2.cell? ⟨w.heap.size, 8, none⟩ = some (.int .i64 x.vs) := KX2.out.cell 8
  have y8 : w2.cell? ⟨w.heap.size + 1, 8, none⟩ = some (.int .i64 x.vs) := by rw [HEvs.out]; exact KY2.out.cell 8
  go_wp2_with (fail)
  go_ret
  exact ⟨by rw [HR.out]; rfl, B2.out⟩
theorem same_any (x y : Rc) (la lb : List As) (lp lq : List Pm) (w : World) (hx : RcAt w (fun _ => False) x la lp) (hy : RcAt w (fun _ => False) y lb lq) :
    Calls Tryd.prog 11 #[.agg (cellsRc x), .agg (cellsRc y)] w fun e w' => e = .returned (.bool (sameB x y la lb lp lq)) ∧ Below w.heap.size w w' := by
  by_cases ekd : x.kd = y.kd
  case neg => exact same_kd x y la lb lp lq w hx hy ekd
  by_cases ecd : x.cd = y.cd
  case neg => exact same_cd x y la lb lp lq w hx hy ekd ecd
  by_cases eix : x.ix = y.ix
  case neg => exact same_ix x y la lb lp lq w hx hy ekd ecd eix
  by_cases ebl : x.bl = y.bl
  case neg => exact same_bl x y la lb lp lq w hx hy ekd ecd eix ebl
  by_cases eep : x.ep = y.ep
  case neg => exact same_ep x y la lb lp lq w hx hy ekd ecd eix ebl eep
  by_cases edl : x.dl = y.dl
  case neg => exact same_dl x y la lb lp lq w hx hy ekd ecd eix ebl eep edl
  by_cases hla : la = lb
  case neg => exact same_la x y la lb lp lq w hx hy ekd ecd eix ebl eep edl hla
  by_cases hlp : lp = lq
  case neg => exact same_lp x y la lb lp lq w hx hy ekd ecd eix ebl eep edl hla hlp
  by_cases evs : x.vs = y.vs
  case neg => exact same_vs x y la lb lp lq w hx hy ekd ecd eix ebl eep edl hla hlp evs
  exact same_all x y la lb lp lq w hx hy ekd ecd eix ebl eep edl evs hla hlp
end Go.Proofs.YtjbbcnepeffiaaaDoor
