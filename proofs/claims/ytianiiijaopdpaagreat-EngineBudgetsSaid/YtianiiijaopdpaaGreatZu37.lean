/- Part 37 of 58: L21Make. -/
import Derived.Test.YtianiiijaopdpaaGreatZu00
import Derived.Test.YtianiiijaopdpaaGreatZu35
import Derived.Deep.CutRange
namespace Go.Proofs.YtianiiijaopdpaaGreat
set_option linter.unusedVariables false
set_option linter.unusedSimpArgs false
set_option maxRecDepth 100000
set_option maxHeartbeats 8000000
open _root_.Go.Proofs.YtianiiijaopdpaaGreat.Zy renaming new → Zw
open _root_.Go.Lib renaming hid → Za
open _root_.Go.Proofs.Tryz renaming underlying42 → Yf
section
open Go Go.RowKit Go.Deep
def VN (k c b e:Int) :Rc:=⟨k,c,-1,b,e,-1,none,0,0,none,0,0,0⟩
def Bn (k i d b e:Int) :Rc:=⟨k,0,i,b,e,d,none,0,0,none,0,0,0⟩
theorem gu (o:Oq)(c b e:Int)(w:World) :Calls Tryz.prog 37 #[.agg (ZJ o),.int .i64 c,.int .i64 b,.int .i64 e] w fun e' w'=>e'= .returned (.agg (Zz (VN o.kd c b e)))∧Below w.heap.size w w':=by
 have KO:Hid (Zy ((w.alloc (.cells (ZJ o) 37)).alloc (.cells (Zz Gb) 42)) w.heap.size 37 (ZJ o)):=Za ((Zw w _ _).alloc _);have KZ:Hid (Zy ((w.alloc (.cells (ZJ o) 37)).alloc (.cells (Zz Gb) 42)) (w.heap.size+1) 42 (Zz Gb)):=Za (by
  have h:=Zw (w.alloc (.cells (ZJ o) 37)) 42 (Zz Gb);rwa [show (w.alloc (.cells (ZJ o) 37)).heap.size=w.heap.size+1 by simp] at h)
 have B0:Hid (Below w.heap.size w ((w.alloc (.cells (ZJ o) 37)).alloc (.cells (Zz Gb) 42))):=Za (((Below.refl _ _).alloc (Nat.le_refl _) _).alloc ZO _);go_enter Tryz.func37,Tryz.ntmps37;go_upto_region 1 with (fail);generalize hW:(w.alloc (.cells (ZJ o) 37)).alloc (.cells _ 42)=W;have eW:(w.alloc (.cells (ZJ o) 37)).alloc (.cells (Zz Gb) 42)=W:=hW;rw [eW] at KO KZ B0;clear hW eW;have k0:W.cell? ⟨w.heap.size,0,none⟩=some (.int .i64 o.kd):=KO.out.cell 0;go_wp2_with (first | (refine F7 rfl 42 _ rfl (VN o.kd c b e) Yi ?_) | (refine wpList_store_row rfl _ _ _ rfl (w.heap.size+1) (Zz (VN o.kd c b e)) rfl rfl 42 _ KZ.out YS rfl (YC _) ?_));exact bodyPost_ret (v:= .agg (Zz (VN o.kd c b e))) (results_cell_row (fn:=Tryz.f37) rfl _ _ (w.heap.size+1) 42 _ (0,0) _ rfl (setRow_heap _ _ _ _ _ _ KZ.out) Yf rfl YS) rfl ⟨rfl,below_setRow B0.out Zp _⟩
theorem Wo (o:Oq)(i d b e:Int)(w:World) :Calls Tryz.prog 184 #[.agg (ZJ o),.int .i64 i,.int .i64 d,.int .i64 b,.int .i64 e] w fun e' w'=>e'= .returned (.agg (Zz (Bn o.kd i d b e)))∧Below w.heap.size w w':=by
 have KO:Hid (Zy ((w.alloc (.cells (ZJ o) 37)).alloc (.cells (Zz Gb) 42)) w.heap.size 37 (ZJ o)):=Za ((Zw w _ _).alloc _);have KZ:Hid (Zy ((w.alloc (.cells (ZJ o) 37)).alloc (.cells (Zz Gb) 42)) (w.heap.size+1) 42 (Zz Gb)):=Za (by
  have h:=Zw (w.alloc (.cells (ZJ o) 37)) 42 (Zz Gb);rwa [show (w.alloc (.cells (ZJ o) 37)).heap.size=w.heap.size+1 by simp] at h)
 have B0:Hid (Below w.heap.size w ((w.alloc (.cells (ZJ o) 37)).alloc (.cells (Zz Gb) 42))):=Za (((Below.refl _ _).alloc (Nat.le_refl _) _).alloc ZO _);go_enter Tryz.func184,Tryz.ntmps184;go_upto_region 1 with (fail);generalize hW:(w.alloc (.cells (ZJ o) 37)).alloc (.cells _ 42)=W;have eW:(w.alloc (.cells (ZJ o) 37)).alloc (.cells (Zz Gb) 42)=W:=hW;rw [eW] at KO KZ B0;clear hW eW;have k0:W.cell? ⟨w.heap.size,0,none⟩=some (.int .i64 o.kd):=KO.out.cell 0;go_wp2_with (first | (refine F7 rfl 42 _ rfl (Bn o.kd i d b e) Yi ?_) | (refine wpList_store_row rfl _ _ _ rfl (w.heap.size+1) (Zz (Bn o.kd i d b e)) rfl rfl 42 _ KZ.out YS rfl (YC _) ?_));exact bodyPost_ret (v:= .agg (Zz (Bn o.kd i d b e))) (results_cell_row (fn:=Tryz.f184) rfl _ _ (w.heap.size+1) 42 _ (0,0) _ rfl (setRow_heap _ _ _ _ _ _ KZ.out) Yf rfl YS) rfl ⟨rfl,below_setRow B0.out Zp _⟩
end
end Go.Proofs.YtianiiijaopdpaaGreat
