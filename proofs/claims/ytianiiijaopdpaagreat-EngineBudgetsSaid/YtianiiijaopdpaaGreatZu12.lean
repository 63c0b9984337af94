/- Part 12 of 58: L03Entries. -/
import Derived.Test.YtianiiijaopdpaaGreatZu00
import Derived.Test.YtianiiijaopdpaaGreatZu05
import Derived.Test.YtianiiijaopdpaaGreatZu06
import Derived.Laws.CopyOwn
namespace Go.Proofs.YtianiiijaopdpaaGreat
set_option linter.unusedVariables false
set_option linter.unusedSimpArgs false
set_option maxRecDepth 100000
set_option maxHeartbeats 8000000
open _root_.Go.Lib renaming hid → Za
section
open Go.RowKit
def Bq (bp bc:Nat) :Array Value:= #[.pointer (some ⟨bc,0,none⟩),.pointer none,.func (.func 158) #[] #[.pointer (some ⟨bp,0,none⟩)],.pointer (some ⟨bc,1,none⟩),.pointer none,.func (.func 160) #[] #[.pointer (some ⟨bp,0,none⟩)],.pointer none,.pointer (some ⟨bc,2,none⟩),.func (.func 161) #[] #[.pointer (some ⟨bp,0,none⟩)],.pointer none,.pointer (some ⟨bc,3,none⟩),.func (.func 162) #[] #[.pointer (some ⟨bp,0,none⟩)],.pointer none,.pointer (some ⟨bc,4,none⟩),.func (.func 163) #[] #[.pointer (some ⟨bp,0,none⟩)],.pointer none,.pointer (some ⟨bc,5,none⟩),.func (.func 165) #[] #[.pointer (some ⟨bp,0,none⟩)],.pointer none,.pointer (some ⟨bc,6,none⟩),.func (.func 166) #[] #[.pointer (some ⟨bp,0,none⟩)],.pointer none,.pointer (some ⟨bc,7,none⟩),.func (.func 167) #[] #[.pointer (some ⟨bp,0,none⟩)],.pointer none,.pointer (some ⟨bc,8,none⟩),.func (.func 168) #[] #[.pointer (some ⟨bp,0,none⟩)],.pointer none,.pointer (some ⟨bc,9,none⟩),.func (.func 169) #[] #[.pointer (some ⟨bp,0,none⟩)],.pointer (some ⟨bc,10,none⟩),.pointer none,.func (.func 170) #[] #[.pointer (some ⟨bp,0,none⟩)],.pointer (some ⟨bc,11,none⟩),.pointer none,.func (.func 171) #[] #[.pointer (some ⟨bp,0,none⟩)],.pointer (some ⟨bc,12,none⟩),.pointer none,.func (.func 172) #[] #[.pointer (some ⟨bp,0,none⟩)],.pointer (some ⟨bc,13,none⟩),.pointer none,.func (.func 173) #[] #[.pointer (some ⟨bp,0,none⟩)],.pointer (some ⟨bc,14,none⟩),.pointer none,.func (.func 174) #[] #[.pointer (some ⟨bp,0,none⟩)],.pointer (some ⟨bc,15,none⟩),.pointer none,.func (.func 175) #[] #[.pointer (some ⟨bp,0,none⟩)],.pointer (some ⟨bc,16,none⟩),.pointer none,.func (.func 176) #[] #[.pointer (some ⟨bp,0,none⟩)],.pointer (some ⟨bc,17,none⟩),.pointer none,.func (.func 177) #[] #[.pointer (some ⟨bp,0,none⟩)],.pointer none,.pointer (some ⟨bc,18,none⟩),.func (.func 178) #[] #[.pointer (some ⟨bp,0,none⟩)],.pointer none,.pointer (some ⟨bc,19,none⟩),.func (.func 179) #[] #[.pointer (some ⟨bp,0,none⟩)]]
theorem pk (bp bc:Nat) :(Bq bp bc).all (·.oneCell')=true:=by kernel_rfl
theorem qL:(Tryz.prog.info? 211).map (·.size)=some 60:=by kernel_rfl
theorem aP (bc:Nat)(w:World) :
  Calls Tryz.prog 118 #[.pointer (some ⟨bc,0,none⟩)] w fun e w'=>e= .returned (.agg (Bq w.heap.size bc))∧Zy w' w.heap.size 213 #[.pointer (some ⟨bc,0,none⟩)]∧Below w.heap.size w w':=by
 go_enter Tryz.func118,Tryz.ntmps118;go_wp2;refine TV 101 3 Yi rfl Yi rfl ?_;intro ops W hW;have hp:W.cell? ⟨w.heap.size,0,none⟩=some (.pointer (some ⟨bc,0,none⟩)):=by
  rw [hW]; exact ((Zy.new w 213 #[.pointer (some ⟨bc,0,none⟩)]).alloc _).cell 0
 have Ei:=Za (show Zy W w.heap.size 213 #[.pointer (some ⟨bc,0,none⟩)] by rw [hW]; exact (Zy.new w 213 #[.pointer (some ⟨bc,0,none⟩)]).alloc _);have VW:=Za (show ∃Qi:Array Value,Qi.size=60∧Zy W (w.heap.size+1) 211 Qi by
  rw [hW];exact ⟨_,rfl,heap_alloc2_new w _ _⟩)
 have HB:=Za (show Below w.heap.size w W by rw [hW]; exact (((Below.refl _ _).alloc (Nat.le_refl _) _).alloc ZO _).drew);clear hW;iterate 101 still_step
 refine wpStill_nil ?_;obtain ⟨Qi,hs,Gk⟩:=VW.out;refine wpList_store_row rfl _ _ _ rfl (w.heap.size+1) (Bq w.heap.size bc) rfl rfl 211 Qi Gk qL (by rw [hs]; rfl) (pk _ _) ?_;have HS:=Za hs;have H2:=Za Gk;clear hs Gk;go_wp2;refine bodyPost_ret (v:= .agg (Bq w.heap.size bc)) (results_cell_row (fn:=Tryz.f118) rfl _ _ (w.heap.size+1) 211 (Bq w.heap.size bc) (0,0) _ rfl (setRow_heap W _ Qi _ 211 (0,0) H2.out) Tryz.underlying211 rfl qL) rfl ⟨rfl,?_,below_setRow HB.out Zp _⟩;exact (setRow_other W _ _ _ Zp).trans Ei.out
end
end Go.Proofs.YtianiiijaopdpaaGreat
