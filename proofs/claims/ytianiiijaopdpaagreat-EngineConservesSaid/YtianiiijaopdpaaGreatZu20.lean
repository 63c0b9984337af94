/- Part 20 of 58: L03CheckC. -/
import Derived.Test.YtianiiijaopdpaaGreatZu00
import Derived.Test.YtianiiijaopdpaaGreatZu12
import Derived.Test.YtianiiijaopdpaaGreatZu17
namespace Go.Proofs.YtianiiijaopdpaaGreat
set_option linter.unusedVariables false
set_option linter.unusedSimpArgs false
set_option maxRecDepth 100000
set_option maxHeartbeats 8000000
open _root_.Go.Instr renaming index → Xi
open _root_.Go.Lib renaming hid → Za
open _root_.Go.Proofs.Tryz renaming prog → Zb
open _root_.Go renaming World → Zc
open _root_.Go.World renaming setRow_alloc_new → Zu
section
open Go.RowKit
def eQ:Nat→Nat
 | 0=>158
 | 1=>160
 | 2=>161
 | 3=>162
 | 4=>163
 | 5=>165
 | 6=>166
 | 7=>167
 | 8=>168
 | 9=>169
 | 10=>170
 | 11=>171
 | 12=>172
 | 13=>173
 | 14=>174
 | 15=>175
 | 16=>176
 | 17=>177
 | 18=>178
 | 19=>179
 | _=>0
def isI (k:Nat) :Bool:=decide (k < 2∨(10≤k∧k < 18))
def pv (bc k:Nat) :Value:=if isI k then .pointer (some ⟨bc,k,none⟩) else .pointer none
def qv (bc k:Nat) :Value:=if isI k then .pointer none else .pointer (some ⟨bc,k,none⟩)
def ent (bp bc k:Nat) :Array Value:= #[pv bc k,qv bc k,.func (.func (eQ k)) #[] #[.pointer (some ⟨bp,0,none⟩)]]
theorem Am (k:Nat)(hk:k < 20)(bp bc:Nat)(c:Nat→Int)(w:Zc)(hp:w.cell? ⟨bp,0,none⟩=some (.pointer (some ⟨bc,0,none⟩)))(hc:Zy w bc 24 (Zk c)) :
  Calls Zb (eQ k) #[.pointer (some ⟨bp,0,none⟩)] w fun e w'=>e= .returned (.bool (Yz c k))∧ ∃n,w'=w.drewN n:=by
 have:k=0∨k=1∨k=2∨k=3∨k=4∨k=5∨k=6∨k=7∨k=8∨k=9∨k=10∨k=11∨k=12∨k=13∨k=14∨k=15∨k=16∨k=17∨k=18∨k=19:=by omega
 rcases this with rfl | rfl | rfl | rfl | rfl | rfl | rfl | rfl | rfl | rfl | rfl | rfl | rfl | rfl | rfl | rfl | rfl | rfl | rfl | rfl
 ·exact ZbV bp bc c w hp hc
 ·exact ZbW bp bc c w hp hc
 ·exact ZbX bp bc c w hp hc
 ·exact ZbY bp bc c w hp hc
 ·exact ZbZ bp bc c w hp hc
 ·exact Zb0 bp bc c w hp hc
 ·exact Zb1 bp bc c w hp hc
 ·exact Zb2 bp bc c w hp hc
 ·exact Zb3 bp bc c w hp hc
 ·exact Zb4 bp bc c w hp hc
 ·exact wj bp bc c w hp hc
 ·exact wk bp bc c w hp hc
 ·exact wm bp bc c w hp hc
 ·exact wo bp bc c w hp hc
 ·exact wq bp bc c w hp hc
 ·exact wu bp bc c w hp hc
 ·exact wy bp bc c w hp hc
 ·exact wz bp bc c w hp hc
 ·exact wA bp bc c w hp hc
 ·exact wB bp bc c w hp hc
theorem fe (bp bc:Nat)(w:Zc) :(Xi 211 (.agg (Bq bp bc)) (.int .i64 (0:Nat))).run Zb w= .ok (.agg (ent bp bc 0)) w:=by kernel_rfl
theorem ff (bp bc:Nat)(w:Zc) :(Xi 211 (.agg (Bq bp bc)) (.int .i64 (1:Nat))).run Zb w= .ok (.agg (ent bp bc 1)) w:=by kernel_rfl
theorem fg (bp bc:Nat)(w:Zc) :(Xi 211 (.agg (Bq bp bc)) (.int .i64 (2:Nat))).run Zb w= .ok (.agg (ent bp bc 2)) w:=by kernel_rfl
theorem fh (bp bc:Nat)(w:Zc) :(Xi 211 (.agg (Bq bp bc)) (.int .i64 (3:Nat))).run Zb w= .ok (.agg (ent bp bc 3)) w:=by kernel_rfl
theorem fi (bp bc:Nat)(w:Zc) :(Xi 211 (.agg (Bq bp bc)) (.int .i64 (4:Nat))).run Zb w= .ok (.agg (ent bp bc 4)) w:=by kernel_rfl
theorem fj (bp bc:Nat)(w:Zc) :(Xi 211 (.agg (Bq bp bc)) (.int .i64 (5:Nat))).run Zb w= .ok (.agg (ent bp bc 5)) w:=by kernel_rfl
theorem fk (bp bc:Nat)(w:Zc) :(Xi 211 (.agg (Bq bp bc)) (.int .i64 (6:Nat))).run Zb w= .ok (.agg (ent bp bc 6)) w:=by kernel_rfl
theorem fm (bp bc:Nat)(w:Zc) :(Xi 211 (.agg (Bq bp bc)) (.int .i64 (7:Nat))).run Zb w= .ok (.agg (ent bp bc 7)) w:=by kernel_rfl
theorem fo (bp bc:Nat)(w:Zc) :(Xi 211 (.agg (Bq bp bc)) (.int .i64 (8:Nat))).run Zb w= .ok (.agg (ent bp bc 8)) w:=by kernel_rfl
theorem ft (bp bc:Nat)(w:Zc) :(Xi 211 (.agg (Bq bp bc)) (.int .i64 (9:Nat))).run Zb w= .ok (.agg (ent bp bc 9)) w:=by kernel_rfl
theorem bG (bp bc:Nat)(w:Zc) :(Xi 211 (.agg (Bq bp bc)) (.int .i64 (10:Nat))).run Zb w= .ok (.agg (ent bp bc 10)) w:=by kernel_rfl
theorem bH (bp bc:Nat)(w:Zc) :(Xi 211 (.agg (Bq bp bc)) (.int .i64 (11:Nat))).run Zb w= .ok (.agg (ent bp bc 11)) w:=by kernel_rfl
theorem bI (bp bc:Nat)(w:Zc) :(Xi 211 (.agg (Bq bp bc)) (.int .i64 (12:Nat))).run Zb w= .ok (.agg (ent bp bc 12)) w:=by kernel_rfl
theorem bJ (bp bc:Nat)(w:Zc) :(Xi 211 (.agg (Bq bp bc)) (.int .i64 (13:Nat))).run Zb w= .ok (.agg (ent bp bc 13)) w:=by kernel_rfl
theorem bK (bp bc:Nat)(w:Zc) :(Xi 211 (.agg (Bq bp bc)) (.int .i64 (14:Nat))).run Zb w= .ok (.agg (ent bp bc 14)) w:=by kernel_rfl
theorem bL (bp bc:Nat)(w:Zc) :(Xi 211 (.agg (Bq bp bc)) (.int .i64 (15:Nat))).run Zb w= .ok (.agg (ent bp bc 15)) w:=by kernel_rfl
theorem bM (bp bc:Nat)(w:Zc) :(Xi 211 (.agg (Bq bp bc)) (.int .i64 (16:Nat))).run Zb w= .ok (.agg (ent bp bc 16)) w:=by kernel_rfl
theorem bO (bp bc:Nat)(w:Zc) :(Xi 211 (.agg (Bq bp bc)) (.int .i64 (17:Nat))).run Zb w= .ok (.agg (ent bp bc 17)) w:=by kernel_rfl
theorem bP (bp bc:Nat)(w:Zc) :(Xi 211 (.agg (Bq bp bc)) (.int .i64 (18:Nat))).run Zb w= .ok (.agg (ent bp bc 18)) w:=by kernel_rfl
theorem bQ (bp bc:Nat)(w:Zc) :(Xi 211 (.agg (Bq bp bc)) (.int .i64 (19:Nat))).run Zb w= .ok (.agg (ent bp bc 19)) w:=by kernel_rfl
theorem lY (bp bc k:Nat)(hk:k < 20)(w:Zc) :(Xi 211 (.agg (Bq bp bc)) (.int .i64 k)).run Zb w= .ok (.agg (ent bp bc k)) w:=by
 have:k=0∨k=1∨k=2∨k=3∨k=4∨k=5∨k=6∨k=7∨k=8∨k=9∨k=10∨k=11∨k=12∨k=13∨k=14∨k=15∨k=16∨k=17∨k=18∨k=19:=by omega
 rcases this with rfl | rfl | rfl | rfl | rfl | rfl | rfl | rfl | rfl | rfl | rfl | rfl | rfl | rfl | rfl | rfl | rfl | rfl | rfl | rfl
 ·exact fe bp bc w
 ·exact ff bp bc w
 ·exact fg bp bc w
 ·exact fh bp bc w
 ·exact fi bp bc w
 ·exact fj bp bc w
 ·exact fk bp bc w
 ·exact fm bp bc w
 ·exact fo bp bc w
 ·exact ft bp bc w
 ·exact bG bp bc w
 ·exact bH bp bc w
 ·exact bI bp bc w
 ·exact bJ bp bc w
 ·exact bK bp bc w
 ·exact bL bp bc w
 ·exact bM bp bc w
 ·exact bO bp bc w
 ·exact bP bp bc w
 ·exact bQ bp bc w
theorem lr (k:Nat)(hk:k < 20)(args:Array Value)(w:Zc) :(callFunc (eQ k) args).run Zb w= .ok (.enter (eQ k) args) w:=by
 have:k=0∨k=1∨k=2∨k=3∨k=4∨k=5∨k=6∨k=7∨k=8∨k=9∨k=10∨k=11∨k=12∨k=13∨k=14∨k=15∨k=16∨k=17∨k=18∨k=19:=by omega
 rcases this with rfl | rfl | rfl | rfl | rfl | rfl | rfl | rfl | rfl | rfl | rfl | rfl | rfl | rfl | rfl | rfl | rfl | rfl | rfl | rfl
 ·exact Tryz.call158 args w
 ·exact Tryz.call160 args w
 ·exact Tryz.call161 args w
 ·exact Tryz.call162 args w
 ·exact Tryz.call163 args w
 ·exact Tryz.call165 args w
 ·exact Tryz.call166 args w
 ·exact Tryz.call167 args w
 ·exact Tryz.call168 args w
 ·exact Tryz.call169 args w
 ·exact Tryz.call170 args w
 ·exact Tryz.call171 args w
 ·exact Tryz.call172 args w
 ·exact Tryz.call173 args w
 ·exact Tryz.call174 args w
 ·exact Tryz.call175 args w
 ·exact Tryz.call176 args w
 ·exact Tryz.call177 args w
 ·exact Tryz.call178 args w
 ·exact Tryz.call179 args w
theorem iU (bp bc k:Nat) :(ent bp bc k).all (·.oneCell')=true:=by
 unfold ent pv qv
 cases isI k <;> simp [Value.oneCell']
theorem qK:(Tryz.prog.info? 210).map (·.size)=some 3:=by kernel_rfl
theorem kY (c:Nat→Int)(w:Zc) :
  Calls Zb 71 #[.agg (Zk c)] w fun e w'=>e= .returned (.int .i64 (P6 c))∧Below w.heap.size w w':=by
 unfold Zk;go_enter Tryz.func71,Tryz.ntmps71;go_wp2_with (first
  | (go_at_call 118; refine (aP _ _).mono ?_; rintro e w1 ⟨rfl,EO,hbel1⟩))
 go_loopw [6] (fun v wr=> ∃k:Nat,k≤20∧v= .int .i64 (k:Int)∧Dh c k∧Zy wr w.heap.size 24 (Zk c)∧Zy wr (w.heap.size+1) 213 #[.pointer (some ⟨w.heap.size,0,none⟩)]∧Below w.heap.size w wr) (fun v _=>(21 - intOf v).toNat)
 case atStart=>
  refine ⟨0,by omega,rfl,Hj c,(Zy.new w 24 (Zk c)).below hbel1 ZO,by simpa using EO,((Below.refl _ _).alloc (Nat.le_refl _) _).trans (hbel1.mono ZO)⟩
 case round=>
  obtain ⟨k,hk,rfl,hbf,hb,hp,PO⟩:=hrel;have XJ:=hb.lt;have wh:=hp.lt;clear EO hbel1
  by_cases vL:k < 20
  ·have hix: ∀W,(Xi 211 (.agg (Bq (w.heap.size+1) w.heap.size)) (.int .i64 k)).run Zb W= .ok (.agg #[pv w.heap.size k,qv w.heap.size k,.func (.func (eQ k)) #[] #[.pointer (some ⟨w.heap.size+1,0,none⟩)]]) W:=lY (w.heap.size+1) w.heap.size k vL;have hen:=lr k vL
   cases hr:Yz c k with
   | false=>
    have R:Hid (∀W (hp:W.cell? ⟨w.heap.size+1,0,none⟩=some (.pointer (some ⟨w.heap.size,0,none⟩))) (hc:Zy W w.heap.size 24 (Zk c)),_):=Za (fun W hp hc=>Am k vL (w.heap.size+1) w.heap.size c W hp hc);rw [hr] at R;have H:=Za (en vL hbf hr);clear hr;go_wp2_with (first
     | (refine wpList_store_row rfl _ _ _ rfl wr.heap.size #[pv w.heap.size k,qv w.heap.size k,.func (.func (eQ k)) #[] #[.pointer (some ⟨w.heap.size+1,0,none⟩)]] rfl rfl 210 _ (heap_alloc_new wr _) qK rfl (iU _ _ _) ?_; rw [Zu])
     | (refine (R.out _ ((hp.alloc _).cell 0) (hb.alloc _)).mono ?_; rintro e w1 ⟨rfl,n,rfl⟩))
    go_ret;exact ⟨FE H.out.symm,below_drewN (PO.alloc Zp _) n⟩
   | true=>
    have R:Hid (∀W (hp:W.cell? ⟨w.heap.size+1,0,none⟩=some (.pointer (some ⟨w.heap.size,0,none⟩))) (hc:Zy W w.heap.size 24 (Zk c)),_):=Za (fun W hp hc=>Am k vL (w.heap.size+1) w.heap.size c W hp hc);rw [hr] at R;have H:=Za (Hi hbf hr);clear hr;go_wp2_with (first
     | (refine wpList_store_row rfl _ _ _ rfl wr.heap.size #[pv w.heap.size k,qv w.heap.size k,.func (.func (eQ k)) #[] #[.pointer (some ⟨w.heap.size+1,0,none⟩)]] rfl rfl 210 _ (heap_alloc_new wr _) qK rfl (iU _ _ _) ?_; rw [Zu])
     | (refine (R.out _ ((hp.alloc _).cell 0) (hb.alloc _)).mono ?_; rintro e w1 ⟨rfl,n,rfl⟩))
    go_roundw
    case rel=>exact ⟨k+1,by omega,by go_num,H.out,(hb.alloc _).drewN n,(hp.alloc _).drewN n,below_drewN (PO.alloc Zp _) n⟩
    case measure=>simp [intOf]; omega
  ·exact Zg5
end
end Go.Proofs.YtianiiijaopdpaaGreat
