/- Same, the reference's. -/
import Derived.Test.YtjbbcnepeffiaaaDoorEqual
import Derived.Deep.CutRange
namespace Go.Proofs.YtjbbcnepeffiaaaDoor
open Go Go.RowKit Go.Deep
set_option linter.unusedVariables false
set_option linter.unusedSimpArgs false
set_option maxRecDepth 100000

set_option maxHeartbeats 1600000 in
theorem refsame_kd (x y : Rc) (la lb : List As) (lp lq : List Pm) (w : World) (hx : RcAt w (fun _ => False) x la lp) (hy : RcAt w (fun _ => False) y lb lq) (hne : x.kd ≠ y.kd) :
    Calls Tryd.prog 12 #[.agg (cellsRc x), .agg (cellsRc y)] w fun e w' => e = .returned (.bool (sameB x y la lb lp lq)) ∧ Below w.heap.size w w' := by
  have HR : Hid (sameB x y la lb lp lq = false) := Lib.hid (decide_eq_false fun h => hne h.1)
  have hb : (x.kd != y.kd) = true := by simpa using hne
  clear hne
  have KX : Hid (Blk ((w.alloc (.cells (cellsRc x) 26)).alloc (.cells (cellsRc y) 26)) w.heap.size 26 (cellsRc x)) := Lib.hid ((Blk.new w _ _).alloc _)
  have KY : Hid (Blk ((w.alloc (.cells (cellsRc x) 26)).alloc (.cells (cellsRc y) 26)) (w.heap.size + 1) 26 (cellsRc y)) := Lib.hid (by
    have h := Blk.new (w.alloc (.cells (cellsRc x) 26)) 26 (cellsRc y)
    rwa [show (w.alloc (.cells (cellsRc x) 26)).heap.size = w.heap.size + 1 by simp] at h)
  have B0 : Hid (Below w.heap.size w ((w.alloc (.cells (cellsRc x) 26)).alloc (.cells (cellsRc y) 26))) := Lib.hid (((Below.refl _ _).alloc (Nat.le_refl _) _).alloc (by simp) _)
  have HX := Lib.hid hx
  have HY := Lib.hid hy
  clear hx hy
  go_enter Tryd.func12, Tryd.ntmps12
  go_upto_region 1 with (fail)
  generalize (w.alloc (.cells (cellsRc x) 26)).alloc (.cells (cellsRc y) 26) = W at *
  have x0 : W.cell? ⟨w.heap.size, 0, none⟩ = some (.int .i64 x.kd) := KX.out.cell 0
  have y0 : W.cell? ⟨w.heap.size + 1, 0, none⟩ = some (.int .i64 y.kd) := KY.out.cell 0
  go_wp2_with (fail)
  go_ret
  exact ⟨by rw [HR.out]; rfl, B0.out⟩
set_option maxHeartbeats 1600000 in
theorem refsame_cd (x y : Rc) (la lb : List As) (lp lq : List Pm) (w : World) (hx : RcAt w (fun _ => False) x la lp) (hy : RcAt w (fun _ => False) y lb lq) (ekd : x.kd = y.kd) (hne : x.cd ≠ y.cd) :
    Calls Tryd.prog 12 #[.agg (cellsRc x), .agg (cellsRc y)] w fun e w' => e = .returned (.bool (sameB x y la lb lp lq)) ∧ Below w.heap.size w w' := by
  have HR : Hid (sameB x y la lb lp lq = false) := Lib.hid (decide_eq_false fun h => hne h.2.1)
  have hb : (x.cd != y.cd) = true := by simpa using hne
  clear hne
  have HEkd := Lib.hid ekd
  clear ekd
  have KX : Hid (Blk ((w.alloc (.cells (cellsRc x) 26)).alloc (.cells (cellsRc y) 26)) w.heap.size 26 (cellsRc x)) := Lib.hid ((Blk.new w _ _).alloc _)
  have KY : Hid (Blk ((w.alloc (.cells (cellsRc x) 26)).alloc (.cells (cellsRc y) 26)) (w.heap.size + 1) 26 (cellsRc y)) := Lib.hid (by
    have h := Blk.new (w.alloc (.cells (cellsRc x) 26)) 26 (cellsRc y)
    rwa [show (w.alloc (.cells (cellsRc x) 26)).heap.size = w.heap.size + 1 by simp] at h)
  have B0 : Hid (Below w.heap.size w ((w.alloc (.cells (cellsRc x) 26)).alloc (.cells (cellsRc y) 26))) := Lib.hid (((Below.refl _ _).alloc (Nat.le_refl _) _).alloc (by simp) _)
  have HX := Lib.hid hx
  have HY := Lib.hid hy
  clear hx hy
  go_enter Tryd.func12, Tryd.ntmps12
  go_upto_region 1 with (fail)
  generalize (w.alloc (.cells (cellsRc x) 26)).alloc (.cells (cellsRc y) 26) = W at *
  have x0 : W.cell? ⟨w.heap.size, 0, none⟩ = some (.int .i64 x.kd) := KX.out.cell 0
  have y0 : W.cell? ⟨w.heap.size + 1, 0, none⟩ = some (.int .i64 x.kd) := by rw [HEkd.out]; exact KY.out.cell 0
  have x1 : W.cell? ⟨w.heap.size, 1, none⟩ = some (.int .i64 x.cd) := KX.out.cell 1
  have y1 : W.cell? ⟨w.heap.size + 1, 1, none⟩ = some (.int .i64 y.cd) := KY.out.cell 1
  go_wp2_with (fail)
  go_ret
  exact ⟨by rw [HR.out]; rfl, B0.out⟩
set_option maxHeartbeats 1600000 in
theorem refsame_ix (x y : Rc) (la lb : List As) (lp lq : List Pm) (w : World) (hx : RcAt w (fun _ => False) x la lp) (hy : RcAt w (fun _ => False) y lb lq) (ekd : x.kd = y.kd) (ecd : x.cd = y.cd) (hne : x.ix ≠ y.ix) :
    Calls Tryd.prog 12 #[.agg (cellsRc x), .agg (cellsRc y)] w fun e w' => e = .returned (.bool (sameB x y la lb lp lq)) ∧ Below w.heap.size w w' := by
  have HR : Hid (sameB x y la lb lp lq = false) := Lib.hid (decide_eq_false fun h => hne h.2.2.1)
  have hb : (x.ix != y.ix) = true := by simpa using hne
  clear hne
  have HEkd := Lib.hid ekd
  have HEcd := Lib.hid ecd
  clear ekd ecd
  have KX : Hid (Blk ((w.alloc (.cells (cellsRc x) 26)).alloc (.cells (cellsRc y) 26)) w.heap.size 26 (cellsRc x)) := Lib.hid ((Blk.new w _ _).alloc _)
  have KY : Hid (Blk ((w.alloc (.cells (cellsRc x) 26)).alloc (.cells (cellsRc y) 26)) (w.heap.size + 1) 26 (cellsRc y)) := Lib.hid (by
    have h := Blk.new (w.alloc (.cells (cellsRc x) 26)) 26 (cellsRc y)
    rwa [show (w.alloc (.cells (cellsRc x) 26)).heap.size = w.heap.size + 1 by simp] at h)
  have B0 : Hid (Below w.heap.size w ((w.alloc (.cells (cellsRc x) 26)).alloc (.cells (cellsRc y) 26))) := Lib.hid (((Below.refl _ _).alloc (Nat.le_refl _) _).alloc (by simp) _)
  have HX := Lib.hid hx
  have HY := Lib.hid hy
  clear hx hy
  go_enter Tryd.func12, Tryd.ntmps12
  go_upto_region 1 with (fail)
  generalize (w.alloc (.cells (cellsRc x) 26)).alloc (.cells (cellsRc y) 26) = W at *
  have x0 : W.cell? ⟨w.heap.size, 0, none⟩ = some (.int .i64 x.kd) := KX.out.cell 0
  have y0 : W.cell? ⟨w.heap.size + 1, 0, none⟩ = some (.int .i64 x.kd) := by rw [HEkd.out]; exact KY.out.cell 0
  have x1 : W.cell? ⟨w.heap.size, 1, none⟩ = some (.int .i64 x.cd) := KX.out.cell 1
  have y1 : W.cell? ⟨w.heap.size + 1, 1, none⟩ = some (.int .i64 x.cd) := by rw [HEcd.out]; exact KY.out.cell 1
  have x2 : W.cell? ⟨w.heap.size, 2, none⟩ = some (.int .i64 x.ix) := KX.out.cell 2
  have y2 : W.cell? ⟨w.heap.size + 1, 2, none⟩ = some (.int .i64 y.ix) := KY.out.cell 2
  go_wp2_with (fail)
  go_ret
  exact ⟨by rw [HR.out]; rfl, B0.out⟩
set_option maxHeartbeats 1600000 in
theorem refsame_bl (x y : Rc) (la lb : List As) (lp lq : List Pm) (w : World) (hx : RcAt w (fun _ => False) x la lp) (hy : RcAt w (fun _ => False) y lb lq) (ekd : x.kd = y.kd) (ecd : x.cd = y.cd) (eix : x.ix = y.ix) (hne : x.bl ≠ y.bl) :
    Calls Tryd.prog 12 #[.agg (cellsRc x), .agg (cellsRc y)] w fun e w' => e = .returned (.bool (sameB x y la lb lp lq)) ∧ Below w.heap.size w w' := by
  have HR : Hid (sameB x y la lb lp lq = false) := Lib.hid (decide_eq_false fun h => hne h.2.2.2.1)
  have hb : (x.bl != y.bl) = true := by simpa using hne
  clear hne
  have HEkd := Lib.hid ekd
  have HEcd := Lib.hid ecd
  have HEix := Lib.hid eix
  clear ekd ecd eix
  have KX : Hid (Blk ((w.alloc (.cells (cellsRc x) 26)).alloc (.cells (cellsRc y) 26)) w.heap.size 26 (cellsRc x)) := Lib.hid ((Blk.new w _ _).alloc _)
  have KY : Hid (Blk ((w.alloc (.cells (cellsRc x) 26)).alloc (.cells (cellsRc y) 26)) (w.heap.size + 1) 26 (cellsRc y)) := Lib.hid (by
    have h := Blk.new (w.alloc (.cells (cellsRc x) 26)) 26 (cellsRc y)
    rwa [show (w.alloc (.cells (cellsRc x) 26)).heap.size = w.heap.size + 1 by simp] at h)
  have B0 : Hid (Below w.heap.size w ((w.alloc (.cells (cellsRc x) 26)).alloc (.cells (cellsRc y) 26))) := Lib.hid (((Below.refl _ _).alloc (Nat.le_refl _) _).alloc (by simp) _)
  have HX := Lib.hid hx
  have HY := Lib.hid hy
  clear hx hy
  go_enter Tryd.func12, Tryd.ntmps12
  go_upto_region 1 with (fail)
  generalize (w.alloc (.cells (cellsRc x) 26)).alloc (.cells (cellsRc y) 26) = W at *
  have x0 : W.cell? ⟨w.heap.size, 0, none⟩ = some (.int .i64 x.kd) := KX.out.cell 0
  have y0 : W.cell? ⟨w.heap.size + 1, 0, none⟩ = some (.int .i64 x.kd) := by rw [HEkd.out]; exact KY.out.cell 0
  have x1 : W.cell? ⟨w.heap.size, 1, none⟩ = some (.int .i64 x.cd) := KX.out.cell 1
  have y1 : W.cell? ⟨w.heap.size + 1, 1, none⟩ = some (.int .i64 x.cd) := by rw [HEcd.out]; exact KY.out.cell 1
  have x2 : W.cell? ⟨w.heap.size, 2, none⟩ = some (.int .i64 x.ix) := KX.out.cell 2
  have y2 : W.cell? ⟨w.heap.size + 1, 2, none⟩ = some (.int .i64 x.ix) := by rw [HEix.out]; exact KY.out.cell 2
  have x3 : W.cell? ⟨w.heap.size, 3, none⟩ = some (.int .i64 x.bl) := KX.out.cell 3
  have y3 : W.cell? ⟨w.heap.size + 1, 3, none⟩ = some (.int .i64 y.bl) := KY.out.cell 3
  go_wp2_with (fail)
  go_ret
  exact ⟨by rw [HR.out]; rfl, B0.out⟩
set_option maxHeartbeats 1600000 in
theorem refsame_ep (x y : Rc) (la lb : List As) (lp lq : List Pm) (w : World) (hx : RcAt w (fun _ => False) x la lp) (hy : RcAt w (fun _ => False) y lb lq) (ekd : x.kd = y.kd) (ecd : x.cd = y.cd) (eix : x.ix = y.ix) (ebl : x.bl = y.bl) (hne : x.ep ≠ y.ep) :
    Calls Tryd.prog 12 #[.agg (cellsRc x), .agg (cellsRc y)] w fun e w' => e = .returned (.bool (sameB x y la lb lp lq)) ∧ Below w.heap.size w w' := by
  have HR : Hid (sameB x y la lb lp lq = false) := Lib.hid (decide_eq_false fun h => hne h.2.2.2.2.1)
  have hb : (x.ep != y.ep) = true := by simpa using hne
  clear hne
  have HEkd := Lib.hid ekd
  have HEcd := Lib.hid ecd
  have HEix := Lib.hid eix
  have HEbl := Lib.hid ebl
  clear ekd ecd eix ebl
  have KX : Hid (Blk ((w.alloc (.cells (cellsRc x) 26)).alloc (.cells (cellsRc y) 26)) w.heap.size 26 (cellsRc x)) := Lib.hid ((Blk.new w _ _).alloc _)
  have KY : Hid (Blk ((w.alloc (.cells (cellsRc x) 26)).alloc (.cells (cellsRc y) 26)) (w.heap.size + 1) 26 (cellsRc y)) := Lib.hid (by
    have h := Blk.new (w.alloc (.cells (cellsRc x) 26)) 26 (cellsRc y)
    rwa [show (w.alloc (.cells (cellsRc x) 26)).heap.size = w.heap.size + 1 by simp] at h)
  have B0 : Hid (Below w.heap.size w ((w.alloc (.cells (cellsRc x) 26)).alloc (.cells (cellsRc y) 26))) := Lib.hid (((Below.refl _ _).alloc (Nat.le_refl _) _).alloc (by simp) _)
  have HX := Lib.hid hx
  have HY := Lib.hid hy
  clear hx hy
  go_enter Tryd.func12, Tryd.ntmps12
  go_upto_region 1 with (fail)
  generalize (w.alloc (.cells (cellsRc x) 26)).alloc (.cells (cellsRc y) 26) = W at *
  have x0 : W.cell? ⟨w.heap.size, 0, none⟩ = some (.int .i64 x.kd) := KX.out.cell 0
  have y0 : W.cell? ⟨w.heap.size + 1, 0, none⟩ = some (.int .i64 x.kd) := by rw [HEkd.out]; exact KY.out.cell 0
  have x1 : W.cell? ⟨w.heap.size, 1, none⟩ = some (.int .i64 x.cd) := KX.out.cell 1
  have y1 : W.cell? ⟨w.heap.size + 1, 1, none⟩ = some (.int .i64 x.cd) := by rw [HEcd.out]; exact KY.out.cell 1
  have x2 : W.cell? ⟨w.heap.size, 2, none⟩ = some (.int .i64 x.ix) := KX.out.cell 2
  have y2 : W.cell? ⟨w.heap.size + 1, 2, none⟩ = some (.int .i64 x.ix) := by rw [HEix.out]; exact KY.out.cell 2
  have x3 : W.cell? ⟨w.heap.size, 3, none⟩ = some (.int .i64 x.bl) := KX.out.cell 3
  have y3 : W.cell? ⟨w.heap.size + 1, 3, none⟩ = some (.int .i64 x.bl) := by rw [HEbl.out]; exact KY.out.cell 3
  have x4 : W.cell? ⟨w.heap.size, 4, none⟩ = some (.int .i64 x.ep) := KX.out.cell 4
  have y4 : W.cell? ⟨w.heap.size + 1, 4, none⟩ = some (.int .i64 y.ep) := KY.out.cell 4
  go_wp2_with (fail)
  go_ret
  exact ⟨by rw [HR.out]; rfl, B0.out⟩
set_option maxHeartbeats 1600000 in
theorem refsame_dl (x y : Rc) (la lb : List As) (lp lq : List Pm) (w : World) (hx : RcAt w (fun _ => False) x la lp) (hy : RcAt w (fun _ => False) y lb lq) (ekd : x.kd = y.kd) (ecd : x.cd = y.cd) (eix : x.ix = y.ix) (ebl : x.bl = y.bl) (eep : x.ep = y.ep) (hne : x.dl ≠ y.dl) :
    Calls Tryd.prog 12 #[.agg (cellsRc x), .agg (cellsRc y)] w fun e w' => e = .returned (.bool (sameB x y la lb lp lq)) ∧ Below w.heap.size w w' := by
  have HR : Hid (sameB x y la lb lp lq = false) := Lib.hid (decide_eq_false fun h => hne h.2.2.2.2.2.1)
  have hb : (x.dl != y.dl) = true := by simpa using hne
  clear hne
  have HEkd := Lib.hid ekd
  have HEcd := Lib.hid ecd
  have HEix := Lib.hid eix
  have HEbl := Lib.hid ebl
  have HEep := Lib.hid eep
  clear ekd ecd eix ebl eep
  have KX : Hid (Blk ((w.alloc (.cells (cellsRc x) 26)).alloc (.cells (cellsRc y) 26)) w.heap.size 26 (cellsRc x)) := Lib.hid ((Blk.new w _ _).alloc _)
  have KY : Hid (Blk ((w.alloc (.cells (cellsRc x) 26)).alloc (.cells (cellsRc y) 26)) (w.heap.size + 1) 26 (cellsRc y)) := Lib.hid (by
    have h := Blk.new (w.alloc (.cells (cellsRc x) 26)) 26 (cellsRc y)
    rwa [show (w.alloc (.cells (cellsRc x) 26)).heap.size = w.heap.size + 1 by simp] at h)
  have B0 : Hid (Below w.heap.size w ((w.alloc (.cells (cellsRc x) 26)).alloc (.cells (cellsRc y) 26))) := Lib.hid (((Below.refl _ _).alloc (Nat.le_refl _) _).alloc (by simp) _)
  have HX := Lib.hid hx
  have HY := Lib.hid hy
  clear hx hy
  go_enter Tryd.func12, Tryd.ntmps12
  go_upto_region 1 with (fail)
  generalize (w.alloc (.cells (cellsRc x) 26)).alloc (.cells (cellsRc y) 26) = W at *
  have x0 : W.cell? ⟨w.heap.size, 0, none⟩ = some (.int .i64 x.kd) := KX.out.cell 0
  have y0 : W.cell? ⟨w.heap.size + 1, 0, none⟩ = some (.int .i64 x.kd) := by rw [HEkd.out]; exact KY.out.cell 0
  have x1 : W.cell? ⟨w.heap.size, 1, none⟩ = some (.int .i64 x.cd) := KX.out.cell 1
  have y1 : W.cell? ⟨w.heap.size + 1, 1, none⟩ = some (.int .i64 x.cd) := by rw [HEcd.out]; exact KY.out.cell 1
  have x2 : W.cell? ⟨w.heap.size, 2, none⟩ = some (.int .i64 x.ix) := KX.out.cell 2
  have y2 : W.cell? ⟨w.heap.size + 1, 2, none⟩ = some (.int .i64 x.ix) := by rw [HEix.out]; exact KY.out.cell 2
  have x3 : W.cell? ⟨w.heap.size, 3, none⟩ = some (.int .i64 x.bl) := KX.out.cell 3
  have y3 : W.cell? ⟨w.heap.size + 1, 3, none⟩ = some (.int .i64 x.bl) := by rw [HEbl.out]; exact KY.out.cell 3
  have x4 : W.cell? ⟨w.heap.size, 4, none⟩ = some (.int .i64 x.ep) := KX.out.cell 4
  have y4 : W.cell? ⟨w.heap.size + 1, 4, none⟩ = some (.int .i64 x.ep) := by rw [HEep.out]; exact KY.out.cell 4
  have x5 : W.cell? ⟨w.heap.size, 5, none⟩ = some (.int .i64 x.dl) := KX.out.cell 5
  have y5 : W.cell? ⟨w.heap.size + 1, 5, none⟩ = some (.int .i64 y.dl) := KY.out.cell 5
  go_wp2_with (fail)
  go_ret
  exact ⟨by rw [HR.out]; rfl, B0.out⟩
set_option maxHeartbeats 1600000 in
theorem refsame_vs (x y : Rc) (la lb : List As) (lp lq : List Pm) (w : World) (hx : RcAt w (fun _ => False) x la lp) (hy : RcAt w (fun _ => False) y lb lq) (ekd : x.kd = y.kd) (ecd : x.cd = y.cd) (eix : x.ix = y.ix) (ebl : x.bl = y.bl) (eep : x.ep = y.ep) (edl : x.dl = y.dl) (hne : x.vs ≠ y.vs) :
    Calls Tryd.prog 12 #[.agg (cellsRc x), .agg (cellsRc y)] w fun e w' => e = .returned (.bool (sameB x y la lb lp lq)) ∧ Below w.heap.size w w' := by
  have HR : Hid (sameB x y la lb lp lq = false) := Lib.hid (decide_eq_false fun h => hne h.2.2.2.2.2.2.1)
  have hb : (x.vs != y.vs) = true := by simpa using hne
  clear hne
  have HEkd := Lib.hid ekd
  have HEcd := Lib.hid ecd
  have HEix := Lib.hid eix
  have HEbl := Lib.hid ebl
  have HEep := Lib.hid eep
  have HEdl := Lib.hid edl
  clear ekd ecd eix ebl eep edl
  have KX : Hid (Blk ((w.alloc (.cells (cellsRc x) 26)).alloc (.cells (cellsRc y) 26)) w.heap.size 26 (cellsRc x)) := Lib.hid ((Blk.new w _ _).alloc _)
  have KY : Hid (Blk ((w.alloc (.cells (cellsRc x) 26)).alloc (.cells (cellsRc y) 26)) (w.heap.size + 1) 26 (cellsRc y)) := Lib.hid (by
    have h := Blk.new (w.alloc (.cells (cellsRc x) 26)) 26 (cellsRc y)
    rwa [show (w.alloc (.cells (cellsRc x) 26)).heap.size = w.heap.size + 1 by simp] at h)
  have B0 : Hid (Below w.heap.size w ((w.alloc (.cells (cellsRc x) 26)).alloc (.cells (cellsRc y) 26))) := Lib.hid (((Below.refl _ _).alloc (Nat.le_refl _) _).alloc (by simp) _)
  have HX := Lib.hid hx
  have HY := Lib.hid hy
  clear hx hy
  go_enter Tryd.func12, Tryd.ntmps12
  go_upto_region 1 with (fail)
  generalize (w.alloc (.cells (cellsRc x) 26)).alloc (.cells (cellsRc y) 26) = W at *
  have x0 : W.cell? ⟨w.heap.size, 0, none⟩ = some (.int .i64 x.kd) := KX.out.cell 0
  have y0 : W.cell? ⟨w.heap.size + 1, 0, none⟩ = some (.int .i64 x.kd) := by rw [HEkd.out]; exact KY.out.cell 0
  have x1 : W.cell? ⟨w.heap.size, 1, none⟩ = some (.int .i64 x.cd) := KX.out.cell 1
  have y1 : W.cell? ⟨w.heap.size + 1, 1, none⟩ = some (.int .i64 x.cd) := by rw [HEcd.out]; exact KY.out.cell 1
  have x2 : W.cell? ⟨w.heap.size, 2, none⟩ = some (.int .i64 x.ix) := KX.out.cell 2
  have y2 : W.cell? ⟨w.heap.size + 1, 2, none⟩ = some (.int .i64 x.ix) := by rw [HEix.out]; exact KY.out.cell 2
  have x3 : W.cell? ⟨w.heap.size, 3, none⟩ = some (.int .i64 x.bl) := KX.out.cell 3
  have y3 : W.cell? ⟨w.heap.size + 1, 3, none⟩ = some (.int .i64 x.bl) := by rw [HEbl.out]; exact KY.out.cell 3
  have x4 : W.cell? ⟨w.heap.size, 4, none⟩ = some (.int .i64 x.ep) := KX.out.cell 4
  have y4 : W.cell? ⟨w.heap.size + 1, 4, none⟩ = some (.int .i64 x.ep) := by rw [HEep.out]; exact KY.out.cell 4
  have x5 : W.cell? ⟨w.heap.size, 5, none⟩ = some (.int .i64 x.dl) := KX.out.cell 5
  have y5 : W.cell? ⟨w.heap.size + 1, 5, none⟩ = some (.int .i64 x.dl) := by rw [HEdl.out]; exact KY.out.cell 5
  have x8 : W.cell? ⟨w.heap.size, 8, none⟩ = some (.int .i64 x.vs) := KX.out.cell 8
  have y8 : W.cell? ⟨w.heap.size + 1, 8, none⟩ = some (.int .i64 y.vs) := KY.out.cell 8
  go_wp2_with (fail)
  go_ret
  exact ⟨by rw [HR.out]; rfl, B0.out⟩
set_option maxHeartbeats 1600000 in
theorem refsame_an (x y : Rc) (la lb : List As) (lp lq : List Pm) (w : World) (hx : RcAt w (fun _ => False) x la lp) (hy : RcAt w (fun _ => False) y lb lq) (ekd : x.kd = y.kd) (ecd : x.cd = y.cd) (eix : x.ix = y.ix) (ebl : x.bl = y.bl) (eep : x.ep = y.ep) (edl : x.dl = y.dl) (evs : x.vs = y.vs) (hne : x.an ≠ y.an) :
    Calls Tryd.prog 12 #[.agg (cellsRc x), .agg (cellsRc y)] w fun e w' => e = .returned (.bool (sameB x y la lb lp lq)) ∧ Below w.heap.size w w' := by
  have HR : Hid (sameB x y la lb lp lq = false) := Lib.hid (decide_eq_false fun h => hne (by rw [← hx.an, ← hy.an, h.2.2.2.2.2.2.2.1]))
  have HEkd := Lib.hid ekd
  have HEcd := Lib.hid ecd
  have HEix := Lib.hid eix
  have HEbl := Lib.hid ebl
  have HEep := Lib.hid eep
  have HEdl := Lib.hid edl
  have HEvs := Lib.hid evs
  clear ekd ecd eix ebl eep edl evs
  obtain ⟨aa, haa⟩ : ∃ aa, x.aa = aa := ⟨_, rfl⟩
  obtain ⟨ba, hba⟩ : ∃ ba, y.aa = ba := ⟨_, rfl⟩
  obtain ⟨pa, hpa⟩ : ∃ pa, x.pa = pa := ⟨_, rfl⟩
  obtain ⟨qa, hqa⟩ : ∃ qa, y.pa = qa := ⟨_, rfl⟩
  obtain ⟨an, han⟩ : ∃ an, x.an = an := ⟨_, rfl⟩
  obtain ⟨bn, hbn⟩ : ∃ bn, y.an = bn := ⟨_, rfl⟩
  obtain ⟨pn, hpn⟩ : ∃ pn, x.pn = pn := ⟨_, rfl⟩
  obtain ⟨qn, hqn⟩ : ∃ qn, y.pn = qn := ⟨_, rfl⟩
  obtain ⟨ac, hac⟩ : ∃ ac, x.ac = ac := ⟨_, rfl⟩
  obtain ⟨bc, hbc⟩ : ∃ bc, y.ac = bc := ⟨_, rfl⟩
  obtain ⟨pc, hpc⟩ : ∃ pc, x.pc = pc := ⟨_, rfl⟩
  obtain ⟨qc, hqc⟩ : ∃ qc, y.pc = qc := ⟨_, rfl⟩
  have HXA : Hid (x.aa = aa ∧ x.an = an ∧ x.ac = ac) := Lib.hid ⟨haa, han, hac⟩
  have HYA : Hid (y.aa = ba ∧ y.an = bn ∧ y.ac = bc) := Lib.hid ⟨hba, hbn, hbc⟩
  have HXP : Hid (x.pa = pa ∧ x.pn = pn ∧ x.pc = pc) := Lib.hid ⟨hpa, hpn, hpc⟩
  have HYP : Hid (y.pa = qa ∧ y.pn = qn ∧ y.pc = qc) := Lib.hid ⟨hqa, hqn, hqc⟩
  have HLA : Hid (LstR As.row 3 w (fun _ => False) aa la ∧ la.length = an) := Lib.hid ⟨by rw [← haa]; exact hx.asg, by rw [← han]; exact hx.an⟩
  have HLB : Hid (LstR As.row 3 w (fun _ => False) ba lb ∧ lb.length = bn) := Lib.hid ⟨by rw [← hba]; exact hy.asg, by rw [← hbn]; exact hy.an⟩
  have HLP : Hid (LstR Pm.row 3 w (fun _ => False) pa lp ∧ lp.length = pn) := Lib.hid ⟨by rw [← hpa]; exact hx.pay, by rw [← hpn]; exact hx.pn⟩
  have HLQ : Hid (LstR Pm.row 3 w (fun _ => False) qa lq ∧ lq.length = qn) := Lib.hid ⟨by rw [← hqa]; exact hy.pay, by rw [← hqn]; exact hy.pn⟩
  have lx := hx.ac
  have ly := hy.ac
  have qx := hx.pc
  have qy := hy.pc
  unfold maxLen at lx ly qx qy
  have L1 : an ≤ 9223372036854775807 := by omega
  have L2 : bn ≤ 9223372036854775807 := by omega
  have L3 : pn ≤ 9223372036854775807 := by omega
  have L4 : qn ≤ 9223372036854775807 := by omega
  clear lx ly qx qy haa hba hpa hqa han hbn hpn hqn hac hbc hpc hqc
  have hb : ((an : Int) != bn) = true := by
    have := HXA.out.2.1
    have := HYA.out.2.1
    simp; omega
  clear hne
  have KX : Hid (Blk ((w.alloc (.cells (cellsRc x) 26)).alloc (.cells (cellsRc y) 26)) w.heap.size 26 (cellsRc x)) := Lib.hid ((Blk.new w _ _).alloc _)
  have KY : Hid (Blk ((w.alloc (.cells (cellsRc x) 26)).alloc (.cells (cellsRc y) 26)) (w.heap.size + 1) 26 (cellsRc y)) := Lib.hid (by
    have h := Blk.new (w.alloc (.cells (cellsRc x) 26)) 26 (cellsRc y)
    rwa [show (w.alloc (.cells (cellsRc x) 26)).heap.size = w.heap.size + 1 by simp] at h)
  have B0 : Hid (Below w.heap.size w ((w.alloc (.cells (cellsRc x) 26)).alloc (.cells (cellsRc y) 26))) := Lib.hid (((Below.refl _ _).alloc (Nat.le_refl _) _).alloc (by simp) _)
  have HX := Lib.hid hx
  have HY := Lib.hid hy
  clear hx hy
  go_enter Tryd.func12, Tryd.ntmps12
  go_upto_region 1 with (fail)
  generalize (w.alloc (.cells (cellsRc x) 26)).alloc (.cells (cellsRc y) 26) = W at *
  have x0 : W.cell? ⟨w.heap.size, 0, none⟩ = some (.int .i64 x.kd) := KX.out.cell 0
  have y0 : W.cell? ⟨w.heap.size + 1, 0, none⟩ = some (.int .i64 x.kd) := by rw [HEkd.out]; exact KY.out.cell 0
  have x1 : W.cell? ⟨w.heap.size, 1, none⟩ = some (.int .i64 x.cd) := KX.out.cell 1
  have y1 : W.cell? ⟨w.heap.size + 1, 1, none⟩ = some (.int .i64 x.cd) := by rw [HEcd.out]; exact KY.out.cell 1
  have x2 : W.cell? ⟨w.heap.size, 2, none⟩ = some (.int .i64 x.ix) := KX.out.cell 2
  have y2 : W.cell? ⟨w.heap.size + 1, 2, none⟩ = some (.int .i64 x.ix) := by rw [HEix.out]; exact KY.out.cell 2
  have x3 : W.cell? ⟨w.heap.size, 3, none⟩ = some (.int .i64 x.bl) := KX.out.cell 3
  have y3 : W.cell? ⟨w.heap.size + 1, 3, none⟩ = some (.int .i64 x.bl) := by rw [HEbl.out]; exact KY.out.cell 3
  have x4 : W.cell? ⟨w.heap.size, 4, none⟩ = some (.int .i64 x.ep) := KX.out.cell 4
  have y4 : W.cell? ⟨w.heap.size + 1, 4, none⟩ = some (.int .i64 x.ep) := by rw [HEep.out]; exact KY.out.cell 4
  have x5 : W.cell? ⟨w.heap.size, 5, none⟩ = some (.int .i64 x.dl) := KX.out.cell 5
  have y5 : W.cell? ⟨w.heap.size + 1, 5, none⟩ = some (.int .i64 x.dl) := by rw [HEdl.out]; exact KY.out.cell 5
  have x8 : W.cell? ⟨w.heap.size, 8, none⟩ = some (.int .i64 x.vs) := KX.out.cell 8
  have y8 : W.cell? ⟨w.heap.size + 1, 8, none⟩ = some (.int .i64 x.vs) := by rw [HEvs.out]; exact KY.out.cell 8
  have x6 : W.cell? ⟨w.heap.size, 6, none⟩ = some (.slice aa an ac) := by rw [← HXA.out.1, ← HXA.out.2.1, ← HXA.out.2.2]; exact KX.out.cell 6
  have y6 : W.cell? ⟨w.heap.size + 1, 6, none⟩ = some (.slice ba bn bc) := by rw [← HYA.out.1, ← HYA.out.2.1, ← HYA.out.2.2]; exact KY.out.cell 6
  go_wp2_with (fail)
  go_ret
  exact ⟨by rw [HR.out]; rfl, B0.out⟩
set_option maxHeartbeats 1600000 in
theorem refsame_pn (x y : Rc) (la lb : List As) (lp lq : List Pm) (w : World) (hx : RcAt w (fun _ => False) x la lp) (hy : RcAt w (fun _ => False) y lb lq) (ekd : x.kd = y.kd) (ecd : x.cd = y.cd) (eix : x.ix = y.ix) (ebl : x.bl = y.bl) (eep : x.ep = y.ep) (edl : x.dl = y.dl) (evs : x.vs = y.vs) (han0 : x.an = y.an) (hne : x.pn ≠ y.pn) :
    Calls Tryd.prog 12 #[.agg (cellsRc x), .agg (cellsRc y)] w fun e w' => e = .returned (.bool (sameB x y la lb lp lq)) ∧ Below w.heap.size w w' := by
  have HR : Hid (sameB x y la lb lp lq = false) := Lib.hid (decide_eq_false fun h => hne (by rw [← hx.pn, ← hy.pn, h.2.2.2.2.2.2.2.2]))
  have HEkd := Lib.hid ekd
  have HEcd := Lib.hid ecd
  have HEix := Lib.hid eix
  have HEbl := Lib.hid ebl
  have HEep := Lib.hid eep
  have HEdl := Lib.hid edl
  have HEvs := Lib.hid evs
  clear ekd ecd eix ebl eep edl evs
  obtain ⟨aa, haa⟩ : ∃ aa, x.aa = aa := ⟨_, rfl⟩
  obtain ⟨ba, hba⟩ : ∃ ba, y.aa = ba := ⟨_, rfl⟩
  obtain ⟨pa, hpa⟩ : ∃ pa, x.pa = pa := ⟨_, rfl⟩
  obtain ⟨qa, hqa⟩ : ∃ qa, y.pa = qa := ⟨_, rfl⟩
  obtain ⟨an, han⟩ : ∃ an, x.an = an := ⟨_, rfl⟩
  obtain ⟨bn, hbn⟩ : ∃ bn, y.an = bn := ⟨_, rfl⟩
  obtain ⟨pn, hpn⟩ : ∃ pn, x.pn = pn := ⟨_, rfl⟩
  obtain ⟨qn, hqn⟩ : ∃ qn, y.pn = qn := ⟨_, rfl⟩
  obtain ⟨ac, hac⟩ : ∃ ac, x.ac = ac := ⟨_, rfl⟩
  obtain ⟨bc, hbc⟩ : ∃ bc, y.ac = bc := ⟨_, rfl⟩
  obtain ⟨pc, hpc⟩ : ∃ pc, x.pc = pc := ⟨_, rfl⟩
  obtain ⟨qc, hqc⟩ : ∃ qc, y.pc = qc := ⟨_, rfl⟩
  have HXA : Hid (x.aa = aa ∧ x.an = an ∧ x.ac = ac) := Lib.hid ⟨haa, han, hac⟩
  have HYA : Hid (y.aa = ba ∧ y.an = bn ∧ y.ac = bc) := Lib.hid ⟨hba, hbn, hbc⟩
  have HXP : Hid (x.pa = pa ∧ x.pn = pn ∧ x.pc = pc) := Lib.hid ⟨hpa, hpn, hpc⟩
  have HYP : Hid (y.pa = qa ∧ y.pn = qn ∧ y.pc = qc) := Lib.hid ⟨hqa, hqn, hqc⟩
  have HLA : Hid (LstR As.row 3 w (fun _ => False) aa la ∧ la.length = an) := Lib.hid ⟨by rw [← haa]; exact hx.asg, by rw [← han]; exact hx.an⟩
  have HLB : Hid (LstR As.row 3 w (fun _ => False) ba lb ∧ lb.length = bn) := Lib.hid ⟨by rw [← hba]; exact hy.asg, by rw [← hbn]; exact hy.an⟩
  have HLP : Hid (LstR Pm.row 3 w (fun _ => False) pa lp ∧ lp.length = pn) := Lib.hid ⟨by rw [← hpa]; exact hx.pay, by rw [← hpn]; exact hx.pn⟩
  have HLQ : Hid (LstR Pm.row 3 w (fun _ => False) qa lq ∧ lq.length = qn) := Lib.hid ⟨by rw [← hqa]; exact hy.pay, by rw [← hqn]; exact hy.pn⟩
  have lx := hx.ac
  have ly := hy.ac
  have qx := hx.pc
  have qy := hy.pc
  unfold maxLen at lx ly qx qy
  have L1 : an ≤ 9223372036854775807 := by omega
  have L2 : bn ≤ 9223372036854775807 := by omega
  have L3 : pn ≤ 9223372036854775807 := by omega
  have L4 : qn ≤ 9223372036854775807 := by omega
  clear lx ly qx qy haa hba hpa hqa han hbn hpn hqn hac hbc hpc hqc
  have hb : ((pn : Int) != qn) = true := by
    have := HXP.out.2.1
    have := HYP.out.2.1
    simp; omega
  have hb2 : ((an : Int) != bn) = false := by
    have := HXA.out.2.1
    have := HYA.out.2.1
    simp; omega
  clear hne han0
  have KX : Hid (Blk ((w.alloc (.cells (cellsRc x) 26)).alloc (.cells (cellsRc y) 26)) w.heap.size 26 (cellsRc x)) := Lib.hid ((Blk.new w _ _).alloc _)
  have KY : Hid (Blk ((w.alloc (.cells (cellsRc x) 26)).alloc (.cells (cellsRc y) 26)) (w.heap.size + 1) 26 (cellsRc y)) := Lib.hid (by
    have h := Blk.new (w.alloc (.cells (cellsRc x) 26)) 26 (cellsRc y)
    rwa [show (w.alloc (.cells (cellsRc x) 26)).heap.size = w.heap.size + 1 by simp] at h)
  have B0 : Hid (Below w.heap.size w ((w.alloc (.cells (cellsRc x) 26)).alloc (.cells (cellsRc y) 26))) := Lib.hid (((Below.refl _ _).alloc (Nat.le_refl _) _).alloc (by simp) _)
  have HX := Lib.hid hx
  have HY := Lib.hid hy
  clear hx hy
  go_enter Tryd.func12, Tryd.ntmps12
  go_upto_region 1 with (fail)
  generalize (w.alloc (.cells (cellsRc x) 26)).alloc (.cells (cellsRc y) 26) = W at *
  have x0 : W.cell? ⟨w.heap.size, 0, none⟩ = some (.int .i64 x.kd) := KX.out.cell 0
  have y0 : W.cell? ⟨w.heap.size + 1, 0, none⟩ = some (.int .i64 x.kd) := by rw [HEkd.out]; exact KY.out.cell 0
  have x1 : W.cell? ⟨w.heap.size, 1, none⟩ = some (.int .i64 x.cd) := KX.out.cell 1
  have y1 : W.cell? ⟨w.heap.size + 1, 1, none⟩ = some (.int .i64 x.cd) := by rw [HEcd.out]; exact KY.out.cell 1
  have x2 : W.cell? ⟨w.heap.size, 2, none⟩ = some (.int .i64 x.ix) := KX.out.cell 2
  have y2 : W.cell? ⟨w.heap.size + 1, 2, none⟩ = some (.int .i64 x.ix) := by rw [HEix.out]; exact KY.out.cell 2
  have x3 : W.cell? ⟨w.heap.size, 3, none⟩ = some (.int .i64 x.bl) := KX.out.cell 3
  have y3 : W.cell? ⟨w.heap.size + 1, 3, none⟩ = some (.int .i64 x.bl) := by rw [HEbl.out]; exact KY.out.cell 3
  have x4 : W.cell? ⟨w.heap.size, 4, none⟩ = some (.int .i64 x.ep) := KX.out.cell 4
  have y4 : W.cell? ⟨w.heap.size + 1, 4, none⟩ = some (.int .i64 x.ep) := by rw [HEep.out]; exact KY.out.cell 4
  have x5 : W.cell? ⟨w.heap.size, 5, none⟩ = some (.int .i64 x.dl) := KX.out.cell 5
  have y5 : W.cell? ⟨w.heap.size + 1, 5, none⟩ = some (.int .i64 x.dl) := by rw [HEdl.out]; exact KY.out.cell 5
  have x8 : W.cell? ⟨w.heap.size, 8, none⟩ = some (.int .i64 x.vs) := KX.out.cell 8
  have y8 : W.cell? ⟨w.heap.size + 1, 8, none⟩ = some (.int .i64 x.vs) := by rw [HEvs.out]; exact KY.out.cell 8
  have x6 : W.cell? ⟨w.heap.size, 6, none⟩ = some (.slice aa an ac) := by rw [← HXA.out.1, ← HXA.out.2.1, ← HXA.out.2.2]; exact KX.out.cell 6
  have y6 : W.cell? ⟨w.heap.size + 1, 6, none⟩ = some (.slice ba bn bc) := by rw [← HYA.out.1, ← HYA.out.2.1, ← HYA.out.2.2]; exact KY.out.cell 6
  have x7 : W.cell? ⟨w.heap.size, 7, none⟩ = some (.slice pa pn pc) := by rw [← HXP.out.1, ← HXP.out.2.1, ← HXP.out.2.2]; exact KX.out.cell 7
  have y7 : W.cell? ⟨w.heap.size + 1, 7, none⟩ = some (.slice qa qn qc) := by rw [← HYP.out.1, ← HYP.out.2.1, ← HYP.out.2.2]; exact KY.out.cell 7
  go_wp2_with (fail)
  go_ret
  exact ⟨by rw [HR.out]; rfl, B0.out⟩
set_option maxHeartbeats 3200000 in
theorem refsame_all (x y : Rc) (la lb : List As) (lp lq : List Pm) (w : World) (hx : RcAt w (fun _ => False) x la lp) (hy : RcAt w (fun _ => False) y lb lq) (ekd : x.kd = y.kd) (ecd : x.cd = y.cd) (eix : x.ix = y.ix) (ebl : x.bl = y.bl) (eep : x.ep = y.ep) (edl : x.dl = y.dl) (evs : x.vs = y.vs) (han0 : x.an = y.an) (hpn0 : x.pn = y.pn) :
    Calls Tryd.prog 12 #[.agg (cellsRc x), .agg (cellsRc y)] w fun e w' => e = .returned (.bool (sameB x y la lb lp lq)) ∧ Below w.heap.size w w' := by
  have HEQ : Hid (la = lb → lp = lq → sameB x y la lb lp lq = true) := Lib.hid (fun h1 h2 => decide_eq_true ⟨ekd, ecd, eix, ebl, eep, edl, evs, h1, h2⟩)
  have HEkd := Lib.hid ekd
  have HEcd := Lib.hid ecd
  have HEix := Lib.hid eix
  have HEbl := Lib.hid ebl
  have HEep := Lib.hid eep
  have HEdl := Lib.hid edl
  have HEvs := Lib.hid evs
  clear ekd ecd eix ebl eep edl evs
  obtain ⟨aa, haa⟩ : ∃ aa, x.aa = aa := ⟨_, rfl⟩
  obtain ⟨ba, hba⟩ : ∃ ba, y.aa = ba := ⟨_, rfl⟩
  obtain ⟨pa, hpa⟩ : ∃ pa, x.pa = pa := ⟨_, rfl⟩
  obtain ⟨qa, hqa⟩ : ∃ qa, y.pa = qa := ⟨_, rfl⟩
  obtain ⟨an, han⟩ : ∃ an, x.an = an := ⟨_, rfl⟩
  obtain ⟨bn, hbn⟩ : ∃ bn, y.an = bn := ⟨_, rfl⟩
  obtain ⟨pn, hpn⟩ : ∃ pn, x.pn = pn := ⟨_, rfl⟩
  obtain ⟨qn, hqn⟩ : ∃ qn, y.pn = qn := ⟨_, rfl⟩
  obtain ⟨ac, hac⟩ : ∃ ac, x.ac = ac := ⟨_, rfl⟩
  obtain ⟨bc, hbc⟩ : ∃ bc, y.ac = bc := ⟨_, rfl⟩
  obtain ⟨pc, hpc⟩ : ∃ pc, x.pc = pc := ⟨_, rfl⟩
  obtain ⟨qc, hqc⟩ : ∃ qc, y.pc = qc := ⟨_, rfl⟩
  have HXA : Hid (x.aa = aa ∧ x.an = an ∧ x.ac = ac) := Lib.hid ⟨haa, han, hac⟩
  have HYA : Hid (y.aa = ba ∧ y.an = bn ∧ y.ac = bc) := Lib.hid ⟨hba, hbn, hbc⟩
  have HXP : Hid (x.pa = pa ∧ x.pn = pn ∧ x.pc = pc) := Lib.hid ⟨hpa, hpn, hpc⟩
  have HYP : Hid (y.pa = qa ∧ y.pn = qn ∧ y.pc = qc) := Lib.hid ⟨hqa, hqn, hqc⟩
  have HLA : Hid (LstR As.row 3 w (fun _ => False) aa la ∧ la.length = an) := Lib.hid ⟨by rw [← haa]; exact hx.asg, by rw [← han]; exact hx.an⟩
  have HLB : Hid (LstR As.row 3 w (fun _ => False) ba lb ∧ lb.length = bn) := Lib.hid ⟨by rw [← hba]; exact hy.asg, by rw [← hbn]; exact hy.an⟩
  have HLP : Hid (LstR Pm.row 3 w (fun _ => False) pa lp ∧ lp.length = pn) := Lib.hid ⟨by rw [← hpa]; exact hx.pay, by rw [← hpn]; exact hx.pn⟩
  have HLQ : Hid (LstR Pm.row 3 w (fun _ => False) qa lq ∧ lq.length = qn) := Lib.hid ⟨by rw [← hqa]; exact hy.pay, by rw [← hqn]; exact hy.pn⟩
  have lx := hx.ac
  have ly := hy.ac
  have qx := hx.pc
  have qy := hy.pc
  unfold maxLen at lx ly qx qy
  have L1 : an ≤ 9223372036854775807 := by omega
  have L2 : bn ≤ 9223372036854775807 := by omega
  have L3 : pn ≤ 9223372036854775807 := by omega
  have L4 : qn ≤ 9223372036854775807 := by omega
  clear lx ly qx qy haa hba hpa hqa han hbn hpn hqn hac hbc hpc hqc
  obtain rfl : an = bn := by rw [← HXA.out.2.1, ← HYA.out.2.1]; exact han0
  obtain rfl : pn = qn := by rw [← HXP.out.2.1, ← HYP.out.2.1]; exact hpn0
  clear han0 hpn0
  have KX : Hid (Blk ((w.alloc (.cells (cellsRc x) 26)).alloc (.cells (cellsRc y) 26)) w.heap.size 26 (cellsRc x)) := Lib.hid ((Blk.new w _ _).alloc _)
  have KY : Hid (Blk ((w.alloc (.cells (cellsRc x) 26)).alloc (.cells (cellsRc y) 26)) (w.heap.size + 1) 26 (cellsRc y)) := Lib.hid (by
    have h := Blk.new (w.alloc (.cells (cellsRc x) 26)) 26 (cellsRc y)
    rwa [show (w.alloc (.cells (cellsRc x) 26)).heap.size = w.heap.size + 1 by simp] at h)
  have B0 : Hid (Below w.heap.size w ((w.alloc (.cells (cellsRc x) 26)).alloc (.cells (cellsRc y) 26))) := Lib.hid (((Below.refl _ _).alloc (Nat.le_refl _) _).alloc (by simp) _)
  have HX := Lib.hid hx
  have HY := Lib.hid hy
  clear hx hy
  go_enter Tryd.func12, Tryd.ntmps12
  go_upto_region 1 with (fail)
  generalize (w.alloc (.cells (cellsRc x) 26)).alloc (.cells (cellsRc y) 26) = W at *
  have x0 : W.cell? ⟨w.heap.size, 0, none⟩ = some (.int .i64 x.kd) := KX.out.cell 0
  have y0 : W.cell? ⟨w.heap.size + 1, 0, none⟩ = some (.int .i64 x.kd) := by rw [HEkd.out]; exact KY.out.cell 0
  have x1 : W.cell? ⟨w.heap.size, 1, none⟩ = some (.int .i64 x.cd) := KX.out.cell 1
  have y1 : W.cell? ⟨w.heap.size + 1, 1, none⟩ = some (.int .i64 x.cd) := by rw [HEcd.out]; exact KY.out.cell 1
  have x2 : W.cell? ⟨w.heap.size, 2, none⟩ = some (.int .i64 x.ix) := KX.out.cell 2
  have y2 : W.cell? ⟨w.heap.size + 1, 2, none⟩ = some (.int .i64 x.ix) := by rw [HEix.out]; exact KY.out.cell 2
  have x3 : W.cell? ⟨w.heap.size, 3, none⟩ = some (.int .i64 x.bl) := KX.out.cell 3
  have y3 : W.cell? ⟨w.heap.size + 1, 3, none⟩ = some (.int .i64 x.bl) := by rw [HEbl.out]; exact KY.out.cell 3
  have x4 : W.cell? ⟨w.heap.size, 4, none⟩ = some (.int .i64 x.ep) := KX.out.cell 4
  have y4 : W.cell? ⟨w.heap.size + 1, 4, none⟩ = some (.int .i64 x.ep) := by rw [HEep.out]; exact KY.out.cell 4
  have x5 : W.cell? ⟨w.heap.size, 5, none⟩ = some (.int .i64 x.dl) := KX.out.cell 5
  have y5 : W.cell? ⟨w.heap.size + 1, 5, none⟩ = some (.int .i64 x.dl) := by rw [HEdl.out]; exact KY.out.cell 5
  have x8 : W.cell? ⟨w.heap.size, 8, none⟩ = some (.int .i64 x.vs) := KX.out.cell 8
  have y8 : W.cell? ⟨w.heap.size + 1, 8, none⟩ = some (.int .i64 x.vs) := by rw [HEvs.out]; exact KY.out.cell 8
  have x6 : W.cell? ⟨w.heap.size, 6, none⟩ = some (.slice aa an ac) := by rw [← HXA.out.1, ← HXA.out.2.1, ← HXA.out.2.2]; exact KX.out.cell 6
  have y6 : W.cell? ⟨w.heap.size + 1, 6, none⟩ = some (.slice ba an bc) := by rw [← HYA.out.1, ← HYA.out.2.1, ← HYA.out.2.2]; exact KY.out.cell 6
  have x7 : W.cell? ⟨w.heap.size, 7, none⟩ = some (.slice pa pn pc) := by rw [← HXP.out.1, ← HXP.out.2.1, ← HXP.out.2.2]; exact KX.out.cell 7
  have y7 : W.cell? ⟨w.heap.size + 1, 7, none⟩ = some (.slice qa pn qc) := by rw [← HYP.out.1, ← HYP.out.2.1, ← HYP.out.2.2]; exact KY.out.cell 7
  go_wp2_with (fail)
  clear x0 y0 x1 y1 x2 y2 x3 y3 x4 y4 x5 y5 x8 y8 x6 y6 x7 y7
  go_loopw [5] (fun i wr => ∃ k : Nat, k ≤ an ∧ i = .int .i64 k ∧ Hid (la.take k = lb.take k) ∧ Hid (Blk wr w.heap.size 26 (cellsRc x)) ∧ Hid (Blk wr (w.heap.size + 1) 26 (cellsRc y)) ∧ Hid (Below w.heap.size w wr)) (fun i _ => an - (intOf i).toNat)
  case atStart => exact ⟨0, by omega, rfl, Lib.hid rfl, KX, KY, B0⟩
  case round =>
    clear KX KY B0
    obtain ⟨k, hk, rfl, HQ, KX, KY, B0⟩ := hrel
    by_cases hlt : k < an
    · obtain ⟨u, hu⟩ : ∃ u, la[k]? = some u := ⟨_, List.getElem?_eq_getElem (by rw [HLA.out.2]; exact hlt)⟩
      obtain ⟨v, hv⟩ : ∃ v, lb[k]? = some v := ⟨_, List.getElem?_eq_getElem (by rw [HLB.out.2]; exact hlt)⟩
      obtain ⟨g1, o1, rfl, _, l1, r1⟩ := HLA.out.1.at hu
      obtain ⟨g2, o2, rfl, _, l2, r2⟩ := HLB.out.1.at hv
      have R1 := Lib.hid (And.intro r1 l1)
      have R2 := Lib.hid (And.intro r2 l2)
      have HU := Lib.hid (And.intro hu hv)
      have HQ2 := Lib.hid (eq_snoc hu hv HQ.out)
      clear r1 r2 l1 l2 hu hv
      have hki : (0 : Int) ≤ (k : Int) := by omega
      have hkn : (k : Int) < (an : Int) := by omega
      have x6 : wr.cell? ⟨w.heap.size, 6, none⟩ = some (.slice (some ⟨g1, o1, none⟩) an ac) := by rw [← HXA.out.1, ← HXA.out.2.1, ← HXA.out.2.2]; exact KX.out.cell 6
      have y6 : wr.cell? ⟨w.heap.size + 1, 6, none⟩ = some (.slice (some ⟨g2, o2, none⟩) an bc) := by rw [← HYA.out.1, ← HYA.out.2.1, ← HYA.out.2.2]; exact KY.out.cell 6
      cases hd : (!decide (u = v)) with
      | true =>
        have HNE : Hid (sameB x y la lb lp lq = false) := Lib.hid (decide_eq_false fun h => ne_of_at HU.out.1 HU.out.2 (by simpa using hd) h.2.2.2.2.2.2.2.1)
        have HD := Lib.hid hd
        clear hd
        go_wp2_with (fail)
        try simp only [Act.put]
        refine wp_region_class (fun w' => Blk w' w.heap.size 26 (cellsRc x) ∧ Blk w' (w.heap.size + 1) 26 (cellsRc y) ∧ Below w.heap.size w w') (by kernel_rfl) (by kernel_rfl) ⟨KX.out.drew, KY.out.drew, B0.out.drew⟩ ?_
        iterate 1 (go_big_quiet_step ((intros; rfl)))
        refine q_cell 23 _ _ (.slice (some ⟨g1, o1, none⟩) an ac) rfl rfl rfl (fun w h => by simp [go_sem, h]) (fun w h => by rw [← HXA.out.1, ← HXA.out.2.1, ← HXA.out.2.2]; exact h.1.cell 6) ?_
        simp only [Act.put, List.setIfInBounds_toArray, List.set_cons_zero, List.set_cons_succ]
        iterate 2 (go_big_quiet_step ((intros; rfl)))
        refine q_load_As 32 _ g1 (o1 + k * 3) u _ rfl rfl rfl (fun w' h => rangeAt_below R1.out.1 R1.out.2 h.2.2) Tryd.underlying32 rfl infoAs ?_
        simp only [Act.put, List.setIfInBounds_toArray, List.set_cons_zero, List.set_cons_succ]
        iterate 1 (go_big_quiet_step ((intros; rfl)))
        refine q_cell 23 _ _ (.slice (some ⟨g2, o2, none⟩) an bc) rfl rfl rfl (fun w h => by simp [go_sem, h]) (fun w h => by rw [← HYA.out.1, ← HYA.out.2.1, ← HYA.out.2.2]; exact h.2.1.cell 6) ?_
        simp only [Act.put, List.setIfInBounds_toArray, List.set_cons_zero, List.set_cons_succ]
        iterate 2 (go_big_quiet_step ((intros; rfl)))
        refine q_load_As 32 _ g2 (o2 + k * 3) v _ rfl rfl rfl (fun w' h => rangeAt_below R2.out.1 R2.out.2 h.2.2) Tryd.underlying32 rfl infoAs ?_
        simp only [Act.put, List.setIfInBounds_toArray, List.set_cons_zero, List.set_cons_succ]
        refine q_neAs u v true rfl rfl rfl HD.out ?_
        simp only [Act.put, List.setIfInBounds_toArray, List.set_cons_zero, List.set_cons_succ]
        refine wpQuiet_nil ?_
        intro w9 c9
        have KX9 := Lib.hid c9.1
        have KY9 := Lib.hid c9.2.1
        have B9 := Lib.hid c9.2.2
        clear c9
        go_wp2_with (fail)
        go_ret
        exact ⟨by rw [HNE.out]; rfl, B9.out⟩
      | false =>
        have HE : Hid (la.take (k + 1) = lb.take (k + 1)) := Lib.hid (HQ2.out.2 (by simpa using hd))
        have HD := Lib.hid hd
        clear hd
        go_wp2_with (fail)
        try simp only [Act.put]
        refine wp_region_class (fun w' => Blk w' w.heap.size 26 (cellsRc x) ∧ Blk w' (w.heap.size + 1) 26 (cellsRc y) ∧ Below w.heap.size w w') (by kernel_rfl) (by kernel_rfl) ⟨KX.out.drew, KY.out.drew, B0.out.drew⟩ ?_
        iterate 1 (go_big_quiet_step ((intros; rfl)))
        refine q_cell 23 _ _ (.slice (some ⟨g1, o1, none⟩) an ac) rfl rfl rfl (fun w h => by simp [go_sem, h]) (fun w h => by rw [← HXA.out.1, ← HXA.out.2.1, ← HXA.out.2.2]; exact h.1.cell 6) ?_
        simp only [Act.put, List.setIfInBounds_toArray, List.set_cons_zero, List.set_cons_succ]
        iterate 2 (go_big_quiet_step ((intros; rfl)))
        refine q_load_As 32 _ g1 (o1 + k * 3) u _ rfl rfl rfl (fun w' h => rangeAt_below R1.out.1 R1.out.2 h.2.2) Tryd.underlying32 rfl infoAs ?_
        simp only [Act.put, List.setIfInBounds_toArray, List.set_cons_zero, List.set_cons_succ]
        iterate 1 (go_big_quiet_step ((intros; rfl)))
        refine q_cell 23 _ _ (.slice (some ⟨g2, o2, none⟩) an bc) rfl rfl rfl (fun w h => by simp [go_sem, h]) (fun w h => by rw [← HYA.out.1, ← HYA.out.2.1, ← HYA.out.2.2]; exact h.2.1.cell 6) ?_
        simp only [Act.put, List.setIfInBounds_toArray, List.set_cons_zero, List.set_cons_succ]
        iterate 2 (go_big_quiet_step ((intros; rfl)))
        refine q_load_As 32 _ g2 (o2 + k * 3) v _ rfl rfl rfl (fun w' h => rangeAt_below R2.out.1 R2.out.2 h.2.2) Tryd.underlying32 rfl infoAs ?_
        simp only [Act.put, List.setIfInBounds_toArray, List.set_cons_zero, List.set_cons_succ]
        refine q_neAs u v false rfl rfl rfl HD.out ?_
        simp only [Act.put, List.setIfInBounds_toArray, List.set_cons_zero, List.set_cons_succ]
        refine wpQuiet_nil ?_
        intro w9 c9
        have KX9 := Lib.hid c9.1
        have KY9 := Lib.hid c9.2.1
        have B9 := Lib.hid c9.2.2
        clear c9
        go_wp2_with (fail)
        go_roundw
        case rel => exact ⟨k + 1, by omega, by go_num, HE, KX9, KY9, B9⟩
        case measure => simp [intOf]; omega
    · obtain rfl : k = an := by omega
      have HE6 : Hid (la = lb) := Lib.hid (by
        have h := HQ.out
        rwa [List.take_of_length_le (by rw [HLA.out.2]; exact Nat.le_refl _), List.take_of_length_le (by rw [HLB.out.2]; exact Nat.le_refl _)] at h)
      clear hlt HQ
      have hlt : ¬ k < k := by omega
      have x6 : wr.cell? ⟨w.heap.size, 6, none⟩ = some (.slice aa k ac) := by rw [← HXA.out.1, ← HXA.out.2.1, ← HXA.out.2.2]; exact KX.out.cell 6
      have y6 : wr.cell? ⟨w.heap.size + 1, 6, none⟩ = some (.slice ba k bc) := by rw [← HYA.out.1, ← HYA.out.2.1, ← HYA.out.2.2]; exact KY.out.cell 6
      have X7 := x6
      clear X7
      obtain ⟨wo, rfl⟩ : ∃ wo : World, wo = wr := ⟨_, rfl⟩
      have x7 : wo.cell? ⟨w.heap.size, 7, none⟩ = some (.slice pa pn pc) := by rw [← HXP.out.1, ← HXP.out.2.1, ← HXP.out.2.2]; exact KX.out.cell 7
      have y7 : wo.cell? ⟨w.heap.size + 1, 7, none⟩ = some (.slice qa pn qc) := by rw [← HYP.out.1, ← HYP.out.2.1, ← HYP.out.2.2]; exact KY.out.cell 7
      go_wp2_with (fail)
      clear x6 y6 x7 y7
      go_loopw [6] (fun i wr => ∃ k : Nat, k ≤ pn ∧ i = .int .i64 k ∧ Hid (lp.take k = lq.take k) ∧ Hid (Blk wr w.heap.size 26 (cellsRc x)) ∧ Hid (Blk wr (w.heap.size + 1) 26 (cellsRc y)) ∧ Hid (Below w.heap.size w wr)) (fun i _ => pn - (intOf i).toNat)
      case atStart => exact ⟨0, by omega, rfl, Lib.hid rfl, KX, KY, B0⟩
      case round =>
        clear KX KY B0
        obtain ⟨k, hk, rfl, HQ, KX, KY, B0⟩ := hrel
        by_cases hlt : k < pn
        · obtain ⟨u, hu⟩ : ∃ u, lp[k]? = some u := ⟨_, List.getElem?_eq_getElem (by rw [HLP.out.2]; exact hlt)⟩
          obtain ⟨v, hv⟩ : ∃ v, lq[k]? = some v := ⟨_, List.getElem?_eq_getElem (by rw [HLQ.out.2]; exact hlt)⟩
          obtain ⟨g1, o1, rfl, _, l1, r1⟩ := HLP.out.1.at hu
          obtain ⟨g2, o2, rfl, _, l2, r2⟩ := HLQ.out.1.at hv
          have R1 := Lib.hid (And.intro r1 l1)
          have R2 := Lib.hid (And.intro r2 l2)
          have HU := Lib.hid (And.intro hu hv)
          have HQ2 := Lib.hid (eq_snoc hu hv HQ.out)
          clear r1 r2 l1 l2 hu hv
          have hki : (0 : Int) ≤ (k : Int) := by omega
          have hkn : (k : Int) < (pn : Int) := by omega
          have x7 : wr.cell? ⟨w.heap.size, 7, none⟩ = some (.slice (some ⟨g1, o1, none⟩) pn pc) := by rw [← HXP.out.1, ← HXP.out.2.1, ← HXP.out.2.2]; exact KX.out.cell 7
          have y7 : wr.cell? ⟨w.heap.size + 1, 7, none⟩ = some (.slice (some ⟨g2, o2, none⟩) pn qc) := by rw [← HYP.out.1, ← HYP.out.2.1, ← HYP.out.2.2]; exact KY.out.cell 7
          cases hd : (!decide (u = v)) with
          | true =>
            have HNE : Hid (sameB x y la lb lp lq = false) := Lib.hid (decide_eq_false fun h => ne_of_at HU.out.1 HU.out.2 (by simpa using hd) h.2.2.2.2.2.2.2.2)
            have HD := Lib.hid hd
            clear hd
            go_wp2_with (fail)
            try simp only [Act.put]
            refine wp_region_class (fun w' => Blk w' w.heap.size 26 (cellsRc x) ∧ Blk w' (w.heap.size + 1) 26 (cellsRc y) ∧ Below w.heap.size w w') (by kernel_rfl) (by kernel_rfl) ⟨KX.out.drew, KY.out.drew, B0.out.drew⟩ ?_
            iterate 1 (go_big_quiet_step ((intros; rfl)))
            refine q_cell 24 _ _ (.slice (some ⟨g1, o1, none⟩) pn pc) rfl rfl rfl (fun w h => by simp [go_sem, h]) (fun w h => by rw [← HXP.out.1, ← HXP.out.2.1, ← HXP.out.2.2]; exact h.1.cell 7) ?_
            simp only [Act.put, List.setIfInBounds_toArray, List.set_cons_zero, List.set_cons_succ]
            iterate 2 (go_big_quiet_step ((intros; rfl)))
            refine q_load_Pm 35 _ g1 (o1 + k * 3) u _ rfl rfl rfl (fun w' h => rangeAt_below R1.out.1 R1.out.2 h.2.2) Tryd.underlying35 rfl infoPm ?_
            simp only [Act.put, List.setIfInBounds_toArray, List.set_cons_zero, List.set_cons_succ]
            iterate 1 (go_big_quiet_step ((intros; rfl)))
            refine q_cell 24 _ _ (.slice (some ⟨g2, o2, none⟩) pn qc) rfl rfl rfl (fun w h => by simp [go_sem, h]) (fun w h => by rw [← HYP.out.1, ← HYP.out.2.1, ← HYP.out.2.2]; exact h.2.1.cell 7) ?_
            simp only [Act.put, List.setIfInBounds_toArray, List.set_cons_zero, List.set_cons_succ]
            iterate 2 (go_big_quiet_step ((intros; rfl)))
            refine q_load_Pm 35 _ g2 (o2 + k * 3) v _ rfl rfl rfl (fun w' h => rangeAt_below R2.out.1 R2.out.2 h.2.2) Tryd.underlying35 rfl infoPm ?_
            simp only [Act.put, List.setIfInBounds_toArray, List.set_cons_zero, List.set_cons_succ]
            refine q_nePm u v true rfl rfl rfl HD.out ?_
            simp only [Act.put, List.setIfInBounds_toArray, List.set_cons_zero, List.set_cons_succ]
            refine wpQuiet_nil ?_
            intro w9 c9
            have KX9 := Lib.hid c9.1
            have KY9 := Lib.hid c9.2.1
            have B9 := Lib.hid c9.2.2
            clear c9
            go_wp2_with (fail)
            go_ret
            exact ⟨by rw [HNE.out]; rfl, B9.out⟩
          | false =>
            have HE : Hid (lp.take (k + 1) = lq.take (k + 1)) := Lib.hid (HQ2.out.2 (by simpa using hd))
            have HD := Lib.hid hd
            clear hd
            go_wp2_with (fail)
            try simp only [Act.put]
            refine wp_region_class (fun w' => Blk w' w.heap.size 26 (cellsRc x) ∧ Blk w' (w.heap.size + 1) 26 (cellsRc y) ∧ Below w.heap.size w w') (by kernel_rfl) (by kernel_rfl) ⟨KX.out.drew, KY.out.drew, B0.out.drew⟩ ?_
            iterate 1 (go_big_quiet_step ((intros; rfl)))
            refine q_cell 24 _ _ (.slice (some ⟨g1, o1, none⟩) pn pc) rfl rfl rfl (fun w h => by simp [go_sem, h]) (fun w h => by rw [← HXP.out.1, ← HXP.out.2.1, ← HXP.out.2.2]; exact h.1.cell 7) ?_
            simp only [Act.put, List.setIfInBounds_toArray, List.set_cons_zero, List.set_cons_succ]
            iterate 2 (go_big_quiet_step ((intros; rfl)))
            refine q_load_Pm 35 _ g1 (o1 + k * 3) u _ rfl rfl rfl (fun w' h => rangeAt_below R1.out.1 R1.out.2 h.2.2) Tryd.underlying35 rfl infoPm ?_
            simp only [Act.put, List.setIfInBounds_toArray, List.set_cons_zero, List.set_cons_succ]
            iterate 1 (go_big_quiet_step ((intros; rfl)))
            refine q_cell 24 _ _ (.slice (some ⟨g2, o2, none⟩) pn qc) rfl rfl rfl (fun w h => by simp [go_sem, h]) (fun w h => by rw [← HYP.out.1, ← HYP.out.2.1, ← HYP.out.2.2]; exact h.2.1.cell 7) ?_
            simp only [Act.put, List.setIfInBounds_toArray, List.set_cons_zero, List.set_cons_succ]
            iterate 2 (go_big_quiet_step ((intros; rfl)))
            refine q_load_Pm 35 _ g2 (o2 + k * 3) v _ rfl rfl rfl (fun w' h => rangeAt_below R2.out.1 R2.out.2 h.2.2) Tryd.underlying35 rfl infoPm ?_
            simp only [Act.put, List.setIfInBounds_toArray, List.set_cons_zero, List.set_cons_succ]
            refine q_nePm u v false rfl rfl rfl HD.out ?_
            simp only [Act.put, List.setIfInBounds_toArray, List.set_cons_zero, List.set_cons_succ]
            refine wpQuiet_nil ?_
            intro w9 c9
            have KX9 := Lib.hid c9.1
            have KY9 := Lib.hid c9.2.1
            have B9 := Lib.hid c9.2.2
            clear c9
            go_wp2_with (fail)
            go_roundw
            case rel => exact ⟨k + 1, by omega, by go_num, HE, KX9, KY9, B9⟩
            case measure => simp [intOf]; omega
        · obtain rfl : k = pn := by omega
          have HE7 : Hid (lp = lq) := Lib.hid (by
            have h := HQ.out
            rwa [List.take_of_length_le (by rw [HLP.out.2]; exact Nat.le_refl _), List.take_of_length_le (by rw [HLQ.out.2]; exact Nat.le_refl _)] at h)
          clear hlt HQ
          have hlt : ¬ k < k := by omega
          have x7 : wr.cell? ⟨w.heap.size, 7, none⟩ = some (.slice pa k pc) := by rw [← HXP.out.1, ← HXP.out.2.1, ← HXP.out.2.2]; exact KX.out.cell 7
          have y7 : wr.cell? ⟨w.heap.size + 1, 7, none⟩ = some (.slice qa k qc) := by rw [← HYP.out.1, ← HYP.out.2.1, ← HYP.out.2.2]; exact KY.out.cell 7
          have HR : Hid (sameB x y la lb lp lq = true) := Lib.hid (HEQ.out HE6.out HE7.out)
          go_wp2_with (fail)
          go_ret
          exact ⟨by rw [HR.out]; rfl, B0.out⟩
theorem refsame_any (x y : Rc) (la lb : List As) (lp lq : List Pm) (w : World) (hx : RcAt w (fun _ => False) x la lp) (hy : RcAt w (fun _ => False) y lb lq) :
    Calls Tryd.prog 12 #[.agg (cellsRc x), .agg (cellsRc y)] w fun e w' => e = .returned (.bool (sameB x y la lb lp lq)) ∧ Below w.heap.size w w' := by
  by_cases ekd : x.kd = y.kd
  case neg => exact refsame_kd x y la lb lp lq w hx hy ekd
  by_cases ecd : x.cd = y.cd
  case neg => exact refsame_cd x y la lb lp lq w hx hy ekd ecd
  by_cases eix : x.ix = y.ix
  case neg => exact refsame_ix x y la lb lp lq w hx hy ekd ecd eix
  by_cases ebl : x.bl = y.bl
  case neg => exact refsame_bl x y la lb lp lq w hx hy ekd ecd eix ebl
  by_cases eep : x.ep = y.ep
  case neg => exact refsame_ep x y la lb lp lq w hx hy ekd ecd eix ebl eep
  by_cases edl : x.dl = y.dl
  case neg => exact refsame_dl x y la lb lp lq w hx hy ekd ecd eix ebl eep edl
  by_cases evs : x.vs = y.vs
  case neg => exact refsame_vs x y la lb lp lq w hx hy ekd ecd eix ebl eep edl evs
  by_cases han0 : x.an = y.an
  case neg => exact refsame_an x y la lb lp lq w hx hy ekd ecd eix ebl eep edl evs han0
  by_cases hpn0 : x.pn = y.pn
  case neg => exact refsame_pn x y la lb lp lq w hx hy ekd ecd eix ebl eep edl evs han0 hpn0
  exact refsame_all x y la lb lp lq w hx hy ekd ecd eix ebl eep edl evs han0 hpn0
end Go.Proofs.YtjbbcnepeffiaaaDoor
