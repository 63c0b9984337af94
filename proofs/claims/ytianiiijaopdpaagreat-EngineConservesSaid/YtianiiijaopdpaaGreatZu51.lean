/- Part 51 of 58: Eqs Lw Equ Run Runs Gtr Law Lvp Liv. -/
import Derived.Test.YtianiiijaopdpaaGreatZu00
import Derived.Test.YtianiiijaopdpaaGreatZu28
import Derived.Test.YtianiiijaopdpaaGreatZu50
namespace Go.Proofs.YtianiiijaopdpaaGreat
set_option linter.unusedVariables false
set_option linter.unusedSimpArgs false
set_option maxRecDepth 100000
set_option maxHeartbeats 8000000
open _root_.Go.Act renaming put → YL
open _root_.And renaming intro → Zl
open _root_.Go.RowKit renaming Below → Zt, intOf → XR
open _root_.Go.RowKit.Below renaming refl → Zr
open _root_.Go.Proofs.YtianiiijaopdpaaGreat.Zy renaming new → Zw
open _root_.Go renaming Calls → Zi, Operand → YI, TypeId → ZT, Value → Zo, World → Zc, heap_alloc_new → ZD, wpList → YU, wpList_load_row → Zn, wpList_store_row → Zm, wpQuiet_nil → Zj
open _root_.Go.Instr renaming buildSlice → Y1
open _root_.Go.Proofs.YtianiiijaopdpaaGreat.Kept renaming refl → ZM, setCells → QC
open _root_.Go.Lib renaming hid → Za
open _root_.List renaming cons_append → Ym, getElem?_append_left → YD, getElem?_append_right → YV, getElem?_eq_getElem → Zf, getElem?_eq_none → Qd, getElem?_toArray → YY, length_append → ZN, map_replicate → GD, replicate → ZF
open _root_.Nat renaming le_refl → Zg, lt_of_lt_of_le → Yp
open _root_.Go.Proofs.YtianiiijaopdpaaGreat.Pm renaming row → QW
open _root_.Go.Proofs.YtianiiijaopdpaaGreat.Rc renaming row → KE
open _root_.Go.Region renaming wanted → Xc
open _root_.Go.Result renaming andThen_ok → ZW
open _root_.Go.Proofs.YtianiiijaopdpaaGreat.Rq renaming row → Uj
open _root_.Go.Proofs.Tryz renaming prog → Zb, underlying37 → ZS, underlying61 → JE, underlying63 → Zs, underlying73 → X5, underlying75 → Ye
open _root_.Go.Value renaming int → ZX, slice → Yr
open _root_.Go.World renaming setRow_alloc_new → Zu
theorem Rz {G:Prop}(h:G:=by rintro rfl; omega) :G:=h
theorem Ry {G:Prop}(h:G:=by rw [hn]; exact e2) :G:=h
theorem Ru {G:Prop}(h:G:=by rw [E1.out]; exact XJ) :G:=h
theorem Rt {G:Prop}(h:G:=by rw [E2.out]; exact XJ) :G:=h
theorem Eh {G:Prop}(h:G:=by simpa using hd) :G:=h
theorem yR {G:Prop} (h:G:=by
  obtain rfl:k=n1:=by omega
  have HE:Hid (decide (la=lb)=true):=Lib.hid (decide_eq_true (by
   have h:=HQ.out;rwa [List.take_of_length_le (by rw [E1.out]; exact Nat.le_refl _),List.take_of_length_le (by rw [E2.out]; exact Nat.le_refl _)] at h))
  clear XJ;have XJ: ¬k < k:=by omega
  go_wp2;go_ret;exact ⟨by rw [HE.out]; rfl,B1.out⟩) :G:=h
theorem j9 {G:Prop} (h:G:=by
  exact ⟨0,by omega,rfl,Lib.hid rfl,Lib.hid (Below.refl _ _)⟩) :G:=h
theorem PH {G:Prop} (h:G:=by
  go_wp2_with fail;go_ret;exact ⟨by rw [HR.out]; rfl,H2.out⟩) :G:=h
theorem ka {G:Prop} (h:G:=by
  go_wp2;go_ret;exact ⟨by rw [HE.out]; rfl,Below.refl _ _⟩) :G:=h
theorem ti {G:Prop} (h:G:=by
  exact Nat.lt_of_lt_of_le (F.lt _ Ze i hi) hk.size) :G:=h
theorem tj {G:Prop} (h:G:=by
  exact F.ap _ l Ze Ze Ze i hi Uq) :G:=h
theorem tk {G:Prop} (h:G:=by
  exact F.ap j _ Ze Ze Ze i hi Uq) :G:=h
section
open Go Go.ChangeShapes Go.WideShapes Go.RowKit Go.Deep
theorem Zbt (x y:Int × Int)(w:Zc) :(Op.equalIn 10000 73 (.agg (cellsP x)) (.agg (cellsP y))).run Zb w= .ok (decide (x=y)) w:=by
 obtain ⟨i,hi⟩:=zU;rw [run_equalIn_array w 9999 (cellsP x) (cellsP y) X5 hi,show Tryz.prog.cellsOf 3=1 by kernel_rfl];exact Zf1
theorem eN {a:Act}{dst:Option Tmp}{yt ty:ZT}{x y:YI}{pos:String}{after:Array Edge}{guard:Option (Nat × Bool)}{w:Zc}{p q:Int × Int}{r:Bool}(hx:a.eval x= .agg (cellsP p))(hy:a.eval y= .agg (cellsP q))(hr:(!decide (p=q))=r) :
  (execOp a.eval { dst,op:= .binOp .neq 73 x y yt,type:=ty,pos,after,guard}).run Zb w= .ok (.value (.bool r)) w:=by
 simp only [execOp,hx,hy,Sem.run_bind,run_eqGuard_agg w .neq _ x y _ _ (show Tryz.prog.eqGuardType Tryz.prog.depth 73=false by kernel_rfl),ZW,run_neq_struct,Zbt p q w,Sem.run_pure,hr]
theorem jD {C:Zc→Prop}{Qa:Act→Prop}{ops:Array Oper}{rest:List Oper}{a:Act}{dst:Option Tmp}{yt ty:ZT}{x y:YI}{pos:String}{after:Array Edge}{guard:Option (Nat × Bool)}(p q:Int × Int)(r:Bool)(hw:Xc { dst,op:= .binOp .neq 73 x y yt,type:=ty,pos,after,guard} (yielded ops a.tmps)=true)(hx:a.eval x= .agg (cellsP p))(hy:a.eval y= .agg (cellsP q))(hr:(!decide (p=q))=r)
  (h:wpQuiet Zb ops C Qa rest (a.put dst (.bool r))) :wpQuiet Zb ops C Qa ({ dst,op:= .binOp .neq 73 x y yt,type:=ty,pos,after,guard}::rest) a:=
 GU (.bool r) hw (fun w=>eN hx hy hr) h
theorem lz (a1 a2:Option Addr)(n1 n2 c1 c2:Nat)(la lb:List (Yd))(w:Zc)(S1 S2:Nat→Prop)(h1:J6 Yd.row 7 w S1 a1 la)(h2:J6 Yd.row 7 w S2 a2 lb)(e1:la.length=n1)(e2:lb.length=n2)(b1:n1≤9223372036854775807)(b2:n2≤9223372036854775807) :
  Zi Zb 64 #[.slice a1 n1 c1,.slice a2 n2 c2] w fun e w'=>e= .returned (.bool (decide (la=lb)))∧Zt w.heap.size w w':=by
 have H1:=Za h1;have H2:=Za h2
 by_cases hn:n1=n2
 ·have E1:=Za e1;have E2:Hid (lb.length=n1):=Za Ry;obtain rfl:n1=n2:=hn;clear e1 e2 h1 h2 b2;go_enter Tryz.func64,Tryz.ntmps64;go_wp2;go_loopw [13] (fun i wr=> ∃k:Nat,k≤n1∧i= .int .i64 k∧Hid (la.take k=lb.take k)∧Hid (Zt w.heap.size w wr)) (fun i _=>n1 -(XR i).toNat)
  case atStart=>exact j9
  case round=>
   obtain ⟨k,hk,rfl,HQ,B1⟩:=hrel
   by_cases XJ:k < n1
   ·obtain ⟨x,hx⟩ : ∃x,la[k]?=some x:=⟨_,Zf Ru⟩;obtain ⟨y,hy⟩ : ∃y,lb[k]?=some y:=⟨_,Zf Rt⟩;obtain ⟨g1,o1,rfl,_,l1,r1⟩:=H1.out.at hx;obtain ⟨g2,o2,rfl,_,l2,r2⟩:=H2.out.at hy;have R1:=Za (Zl r1 l1);have R2:=Za (Zl r2 l2);have HX:=Za (Zl hx hy);have HQ2:=Za (P7 hx hy HQ.out);clear r1 r2 l1 l2 hx hy;have we:(0:Int)≤(k:Int):=by omega
    have ET:(k:Int)< (n1:Int):=by omega
    cases hd:(!decide (x=y)) with
    | true=>
     have IW:Hid (decide (la=lb)=false):=Za (decide_eq_false (NC HX.out.1 HX.out.2 Eh));have HD:=Za hd;clear hd;go_wp2_with (fail);try simp only [YL]
     refine XO (fun w'=>Zt w.heap.size w w') Yi Yi B1.out.drew ?_;iterate 3 (go_big_quiet_step ((intros; rfl)))
     refine JG 63 _ g1 (o1+k*7) x _ rfl rfl rfl (fun w' h=>XW R1.out.1 R1.out.2 h) Zs rfl Yo ?_;simp only [qB];iterate 3 (go_big_quiet_step ((intros; rfl)))
     refine JG 63 _ g2 (o2+k*7) y _ rfl rfl rfl (fun w' h=>XW R2.out.1 R2.out.2 h) Zs rfl Yo ?_;simp only [qB];refine zY x y true rfl rfl rfl HD.out ?_;simp only [qB];refine Zj ?_;intro w9 b9;go_wp2_with (fail);go_ret;exact ⟨by rw [IW.out]; rfl,b9⟩
    | false=>
     have HD:=Za hd;have HE:Hid (la.take (k+1)=lb.take (k+1)):=Za (HQ2.out.2 Eh);clear hd;go_wp2_with (fail);try simp only [YL]
     refine XO (fun w'=>Zt w.heap.size w w') Yi Yi B1.out.drew ?_;iterate 3 (go_big_quiet_step ((intros; rfl)))
     refine JG 63 _ g1 (o1+k*7) x _ rfl rfl rfl (fun w' h=>XW R1.out.1 R1.out.2 h) Zs rfl Yo ?_;simp only [qB];iterate 3 (go_big_quiet_step ((intros; rfl)))
     refine JG 63 _ g2 (o2+k*7) y _ rfl rfl rfl (fun w' h=>XW R2.out.1 R2.out.2 h) Zs rfl Yo ?_;simp only [qB];refine zY x y false rfl rfl rfl HD.out ?_;simp only [qB];refine Zj ?_;intro w9 b9;have B9:=Za b9;clear b9;go_wp2_with (fail);go_roundw
     case rel=>exact ⟨k+1,by omega,by go_num,HE,B9⟩
     case measure=>simp [XR]; omega
   ·exact yR
 ·have HE:Hid (decide (la=lb)=false):=Za (decide_eq_false Rz);have hb:((n1:Int)==n2)=false:=by simp; omega
  clear hn e1 e2 h1 h2;go_enter Tryz.func64,Tryz.ntmps64;exact ka
theorem lv (a1 a2:Option Addr)(n1 n2 c1 c2:Nat)(la lb:List (Int × Int))(w:Zc)(S1 S2:Nat→Prop)(h1:J6 Jv 2 w S1 a1 la)(h2:J6 Jv 2 w S2 a2 lb)(e1:la.length=n1)(e2:lb.length=n2)(b1:n1≤9223372036854775807)(b2:n2≤9223372036854775807) :
  Zi Zb 50 #[.slice a1 n1 c1,.slice a2 n2 c2] w fun e w'=>e= .returned (.bool (decide (la=lb)))∧Zt w.heap.size w w':=by
 have H1:=Za h1;have H2:=Za h2
 by_cases hn:n1=n2
 ·have E1:=Za e1;have E2:Hid (lb.length=n1):=Za Ry;obtain rfl:n1=n2:=hn;clear e1 e2 h1 h2 b2;go_enter Tryz.func50,Tryz.ntmps50;go_wp2;go_loopw [13] (fun i wr=> ∃k:Nat,k≤n1∧i= .int .i64 k∧Hid (la.take k=lb.take k)∧Hid (Zt w.heap.size w wr)) (fun i _=>n1 -(XR i).toNat)
  case atStart=>exact j9
  case round=>
   obtain ⟨k,hk,rfl,HQ,B1⟩:=hrel
   by_cases XJ:k < n1
   ·obtain ⟨x,hx⟩ : ∃x,la[k]?=some x:=⟨_,Zf Ru⟩;obtain ⟨y,hy⟩ : ∃y,lb[k]?=some y:=⟨_,Zf Rt⟩;obtain ⟨g1,o1,rfl,_,l1,r1⟩:=H1.out.at hx;obtain ⟨g2,o2,rfl,_,l2,r2⟩:=H2.out.at hy;have R1:=Za (Zl r1 l1);have R2:=Za (Zl r2 l2);have HX:=Za (Zl hx hy);have HQ2:=Za (P7 hx hy HQ.out);clear r1 r2 l1 l2 hx hy;have we:(0:Int)≤(k:Int):=by omega
    have ET:(k:Int)< (n1:Int):=by omega
    cases hd:(!decide (x=y)) with
    | true=>
     have IW:Hid (decide (la=lb)=false):=Za (decide_eq_false (NC HX.out.1 HX.out.2 Eh));have HD:=Za hd;clear hd;go_wp2_with (fail);try simp only [YL]
     refine XO (fun w'=>Zt w.heap.size w w') Yi Yi B1.out.drew ?_;iterate 3 (go_big_quiet_step ((intros; rfl)))
     refine BG 73 _ g1 (o1+k*2) x _ rfl rfl rfl (fun w' h=>XW R1.out.1 R1.out.2 h) X5 rfl Be ?_;simp only [qB];iterate 3 (go_big_quiet_step ((intros; rfl)))
     refine BG 73 _ g2 (o2+k*2) y _ rfl rfl rfl (fun w' h=>XW R2.out.1 R2.out.2 h) X5 rfl Be ?_;simp only [qB];refine jD x y true rfl rfl rfl HD.out ?_;simp only [qB];refine Zj ?_;intro w9 b9;go_wp2_with (fail);go_ret;exact ⟨by rw [IW.out]; rfl,b9⟩
    | false=>
     have HD:=Za hd;have HE:Hid (la.take (k+1)=lb.take (k+1)):=Za (HQ2.out.2 Eh);clear hd;go_wp2_with (fail);try simp only [YL]
     refine XO (fun w'=>Zt w.heap.size w w') Yi Yi B1.out.drew ?_;iterate 3 (go_big_quiet_step ((intros; rfl)))
     refine BG 73 _ g1 (o1+k*2) x _ rfl rfl rfl (fun w' h=>XW R1.out.1 R1.out.2 h) X5 rfl Be ?_;simp only [qB];iterate 3 (go_big_quiet_step ((intros; rfl)))
     refine BG 73 _ g2 (o2+k*2) y _ rfl rfl rfl (fun w' h=>XW R2.out.1 R2.out.2 h) X5 rfl Be ?_;simp only [qB];refine jD x y false rfl rfl rfl HD.out ?_;simp only [qB];refine Zj ?_;intro w9 b9;have B9:=Za b9;clear b9;go_wp2_with (fail);go_roundw
     case rel=>exact ⟨k+1,by omega,by go_num,HE,B9⟩
     case measure=>simp [XR]; omega
   ·exact yR
 ·have HE:Hid (decide (la=lb)=false):=Za (decide_eq_false Rz);have hb:((n1:Int)==n2)=false:=by simp; omega
  clear hn e1 e2 h1 h2;go_enter Tryz.func50,Tryz.ntmps50;exact ka
theorem ly (a1 a2:Option Addr)(n1 n2 c1 c2:Nat)(la lb:List (Rq))(w:Zc)(S1 S2:Nat→Prop)(h1:J6 Uj 2 w S1 a1 la)(h2:J6 Uj 2 w S2 a2 lb)(e1:la.length=n1)(e2:lb.length=n2)(b1:n1≤9223372036854775807)(b2:n2≤9223372036854775807) :
  Zi Zb 65 #[.slice a1 n1 c1,.slice a2 n2 c2] w fun e w'=>e= .returned (.bool (decide (la=lb)))∧Zt w.heap.size w w':=by
 have H1:=Za h1;have H2:=Za h2
 by_cases hn:n1=n2
 ·have E1:=Za e1;have E2:Hid (lb.length=n1):=Za Ry;obtain rfl:n1=n2:=hn;clear e1 e2 h1 h2 b2;go_enter Tryz.func65,Tryz.ntmps65;go_wp2;go_loopw [13] (fun i wr=> ∃k:Nat,k≤n1∧i= .int .i64 k∧Hid (la.take k=lb.take k)∧Hid (Zt w.heap.size w wr)) (fun i _=>n1 -(XR i).toNat)
  case atStart=>exact j9
  case round=>
   obtain ⟨k,hk,rfl,HQ,B1⟩:=hrel
   by_cases XJ:k < n1
   ·obtain ⟨x,hx⟩ : ∃x,la[k]?=some x:=⟨_,Zf Ru⟩;obtain ⟨y,hy⟩ : ∃y,lb[k]?=some y:=⟨_,Zf Rt⟩;obtain ⟨g1,o1,rfl,_,l1,r1⟩:=H1.out.at hx;obtain ⟨g2,o2,rfl,_,l2,r2⟩:=H2.out.at hy;have R1:=Za (Zl r1 l1);have R2:=Za (Zl r2 l2);have HX:=Za (Zl hx hy);have HQ2:=Za (P7 hx hy HQ.out);clear r1 r2 l1 l2 hx hy;have we:(0:Int)≤(k:Int):=by omega
    have ET:(k:Int)< (n1:Int):=by omega
    cases hd:(!decide (x=y)) with
    | true=>
     have IW:Hid (decide (la=lb)=false):=Za (decide_eq_false (NC HX.out.1 HX.out.2 Eh));have HD:=Za hd;clear hd;go_wp2_with (fail);try simp only [YL]
     refine XO (fun w'=>Zt w.heap.size w w') Yi Yi B1.out.drew ?_;iterate 3 (go_big_quiet_step ((intros; rfl)))
     refine LO 75 _ g1 (o1+k*2) x _ rfl rfl rfl (fun w' h=>XW R1.out.1 R1.out.2 h) Ye rfl Qy ?_;simp only [qB];iterate 3 (go_big_quiet_step ((intros; rfl)))
     refine LO 75 _ g2 (o2+k*2) y _ rfl rfl rfl (fun w' h=>XW R2.out.1 R2.out.2 h) Ye rfl Qy ?_;simp only [qB];refine rK x y true rfl rfl rfl HD.out ?_;simp only [qB];refine Zj ?_;intro w9 b9;go_wp2_with (fail);go_ret;exact ⟨by rw [IW.out]; rfl,b9⟩
    | false=>
     have HD:=Za hd;have HE:Hid (la.take (k+1)=lb.take (k+1)):=Za (HQ2.out.2 Eh);clear hd;go_wp2_with (fail);try simp only [YL]
     refine XO (fun w'=>Zt w.heap.size w w') Yi Yi B1.out.drew ?_;iterate 3 (go_big_quiet_step ((intros; rfl)))
     refine LO 75 _ g1 (o1+k*2) x _ rfl rfl rfl (fun w' h=>XW R1.out.1 R1.out.2 h) Ye rfl Qy ?_;simp only [qB];iterate 3 (go_big_quiet_step ((intros; rfl)))
     refine LO 75 _ g2 (o2+k*2) y _ rfl rfl rfl (fun w' h=>XW R2.out.1 R2.out.2 h) Ye rfl Qy ?_;simp only [qB];refine rK x y false rfl rfl rfl HD.out ?_;simp only [qB];refine Zj ?_;intro w9 b9;have B9:=Za b9;clear b9;go_wp2_with (fail);go_roundw
     case rel=>exact ⟨k+1,by omega,by go_num,HE,B9⟩
     case measure=>simp [XR]; omega
   ·exact yR
 ·have HE:Hid (decide (la=lb)=false):=Za (decide_eq_false Rz);have hb:((n1:Int)==n2)=false:=by simp; omega
  clear hn e1 e2 h1 h2;go_enter Tryz.func65,Tryz.ntmps65;exact ka
theorem lx (a1 a2:Option Addr)(n1 n2 c1 c2:Nat)(la lb:List (Pm))(w:Zc)(S1 S2:Nat→Prop)(h1:J6 QW 3 w S1 a1 la)(h2:J6 QW 3 w S2 a2 lb)(e1:la.length=n1)(e2:lb.length=n2)(b1:n1≤9223372036854775807)(b2:n2≤9223372036854775807) :
  Zi Zb 36 #[.slice a1 n1 c1,.slice a2 n2 c2] w fun e w'=>e= .returned (.bool (decide (la=lb)))∧Zt w.heap.size w w':=by
 have H1:=Za h1;have H2:=Za h2
 by_cases hn:n1=n2
 ·have E1:=Za e1;have E2:Hid (lb.length=n1):=Za Ry;obtain rfl:n1=n2:=hn;clear e1 e2 h1 h2 b2;go_enter Tryz.func36,Tryz.ntmps36;go_wp2;go_loopw [13] (fun i wr=> ∃k:Nat,k≤n1∧i= .int .i64 k∧Hid (la.take k=lb.take k)∧Hid (Zt w.heap.size w wr)) (fun i _=>n1 -(XR i).toNat)
  case atStart=>exact j9
  case round=>
   obtain ⟨k,hk,rfl,HQ,B1⟩:=hrel
   by_cases XJ:k < n1
   ·obtain ⟨x,hx⟩ : ∃x,la[k]?=some x:=⟨_,Zf Ru⟩;obtain ⟨y,hy⟩ : ∃y,lb[k]?=some y:=⟨_,Zf Rt⟩;obtain ⟨g1,o1,rfl,_,l1,r1⟩:=H1.out.at hx;obtain ⟨g2,o2,rfl,_,l2,r2⟩:=H2.out.at hy;have R1:=Za (Zl r1 l1);have R2:=Za (Zl r2 l2);have HX:=Za (Zl hx hy);have HQ2:=Za (P7 hx hy HQ.out);clear r1 r2 l1 l2 hx hy;have we:(0:Int)≤(k:Int):=by omega
    have ET:(k:Int)< (n1:Int):=by omega
    cases hd:(!decide (x=y)) with
    | true=>
     have IW:Hid (decide (la=lb)=false):=Za (decide_eq_false (NC HX.out.1 HX.out.2 Eh));have HD:=Za hd;clear hd;go_wp2_with (fail);try simp only [YL]
     refine XO (fun w'=>Zt w.heap.size w w') Yi Yi B1.out.drew ?_;iterate 3 (go_big_quiet_step ((intros; rfl)))
     refine LN 61 _ g1 (o1+k*3) x _ rfl rfl rfl (fun w' h=>XW R1.out.1 R1.out.2 h) JE rfl Hy ?_;simp only [qB];iterate 3 (go_big_quiet_step ((intros; rfl)))
     refine LN 61 _ g2 (o2+k*3) y _ rfl rfl rfl (fun w' h=>XW R2.out.1 R2.out.2 h) JE rfl Hy ?_;simp only [qB];refine rJ x y true rfl rfl rfl HD.out ?_;simp only [qB];refine Zj ?_;intro w9 b9;go_wp2_with (fail);go_ret;exact ⟨by rw [IW.out]; rfl,b9⟩
    | false=>
     have HD:=Za hd;have HE:Hid (la.take (k+1)=lb.take (k+1)):=Za (HQ2.out.2 Eh);clear hd;go_wp2_with (fail);try simp only [YL]
     refine XO (fun w'=>Zt w.heap.size w w') Yi Yi B1.out.drew ?_;iterate 3 (go_big_quiet_step ((intros; rfl)))
     refine LN 61 _ g1 (o1+k*3) x _ rfl rfl rfl (fun w' h=>XW R1.out.1 R1.out.2 h) JE rfl Hy ?_;simp only [qB];iterate 3 (go_big_quiet_step ((intros; rfl)))
     refine LN 61 _ g2 (o2+k*3) y _ rfl rfl rfl (fun w' h=>XW R2.out.1 R2.out.2 h) JE rfl Hy ?_;simp only [qB];refine rJ x y false rfl rfl rfl HD.out ?_;simp only [qB];refine Zj ?_;intro w9 b9;have B9:=Za b9;clear b9;go_wp2_with (fail);go_roundw
     case rel=>exact ⟨k+1,by omega,by go_num,HE,B9⟩
     case measure=>simp [XR]; omega
   ·exact yR
 ·have HE:Hid (decide (la=lb)=false):=Za (decide_eq_false Rz);have hb:((n1:Int)==n2)=false:=by simp; omega
  clear hn e1 e2 h1 h2;go_enter Tryz.func36,Tryz.ntmps36;exact ka
end
section
open Go Go.RowKit Go.Deep
def Wi (c:Nat→Int)(n:Nat) :Prop:=P6 c=0∧c 0≤100∧c 14≤200∧c 15≤200∧c 17≤200∧c 1≤200∧n≤400
instance (c:Nat→Int) (n:Nat) :Decidable (Wi c n):=by unfold Wi; infer_instance
def Sw (c:Nat→Int)(n:Nat) :Int:=if Wi c n then 1 else 0
theorem Hz (c:Nat→Int)(a:Option Addr)(n cp:Nat)(w:Zc) :
  Zi Zb 13 #[.agg (Zk c),.slice a n cp] w fun e w'=>e= .returned (.int .i64 (Sw c n))∧Zt w.heap.size w w':=by
 have B0:Zy (w.alloc (.cells (Zk c) 24)) w.heap.size 24 (Zk c):=Zw _ _ _;have b1:Zt w.heap.size w (w.alloc (.cells (Zk c) 24)):=(Zr _ _).alloc (Zg _) _;have H:=Za (fun W=>Ij c W);have HF:Hid (∀k:Int,P6 c=k→(k≠0∨100 < c 0∨200 < c 14∨200 < c 15∨200 < c 17∨200 < c 1∨400 < n→Sw c n=0)∧(k=0→c 0≤100→c 14≤200→c 15≤200→c 17≤200→c 1≤200→n≤400→Sw c n=1)):=Za fun k hk=>by
  subst hk;unfold Sw Wi;exact ⟨fun h=>if_neg Ze,fun h0 h1 h2 h3 h4 h5 h6=>if_pos ⟨h0,h1,h2,h3,h4,h5,h6⟩⟩
 obtain ⟨k,hk⟩ : ∃k,P6 c=k:=⟨_,rfl⟩;have Cb:=Za (HF.out k hk);rw [hk] at H;clear hk HF;obtain ⟨r,hr⟩ : ∃r,Sw c n=r:=⟨_,rfl⟩;rw [hr] at Cb ⊢;clear hr;go_enter Tryz.func13,Tryz.ntmps13;go_upto_region 1 with (fail);have HB:=Za B0;have Hb:=Za b1;clear B0 b1;generalize w.alloc (.cells (Zk c) 24)=W at*;go_wp2_with (first | (refine Zn rfl 24 _ rfl w.heap.size rfl 24 _ (0,0) _ HB.out Tryz.underlying24 rfl Xn ?_));refine (H.out W).mono ?_;rintro e w2 ⟨rfl,b2⟩;have VW:=HB.out.below b2 HB.out.lt;have H2:=Za (Hb.out.trans (b2.mono Hb.out.size));clear Hb b2 HB H;have y0:w2.cell? ⟨w.heap.size,0,none⟩=some (.int .i64 (c 0)):=VW.cell 0;have y1:w2.cell? ⟨w.heap.size,1,none⟩=some (.int .i64 (c 1)):=VW.cell 1;have y14:w2.cell? ⟨w.heap.size,14,none⟩=some (.int .i64 (c 14)):=VW.cell 14;have y15:w2.cell? ⟨w.heap.size,15,none⟩=some (.int .i64 (c 15)):=VW.cell 15;have y17:w2.cell? ⟨w.heap.size,17,none⟩=some (.int .i64 (c 17)):=VW.cell 17;clear VW
 by_cases h0:k=0
 ·by_cases h1:c 0≤100
  ·by_cases h2:c 14≤200
   ·by_cases h3:c 15≤200
    ·by_cases h4:c 17≤200
     ·by_cases h5:c 1≤200
      ·by_cases h6:n≤400
       ·have hr:=Cb.out.2 h0 h1 h2 h3 h4 h5 h6;subst h0;have d1: ¬100 < c 0:=by omega
        have d2: ¬200 < c 14:=by omega
        have d3: ¬200 < c 15:=by omega
        have d4: ¬200 < c 17:=by omega
        have d5: ¬200 < c 1:=by omega
        have d6: ¬(400:Int)< (n:Int):=by omega
        have HR:=Za hr;clear hr h1 h2 h3 h4 h5 h6 Cb;exact PH
       ·have HR:=Za (Cb.out.1 Ze);subst h0;have d1: ¬100 < c 0:=by omega
        have d2: ¬200 < c 14:=by omega
        have d3: ¬200 < c 15:=by omega
        have d4: ¬200 < c 17:=by omega
        have d5: ¬200 < c 1:=by omega
        have d6:(400:Int)< (n:Int):=by omega
        clear h1 h2 h3 h4 h5 h6 Cb;exact PH
      ·have HR:=Za (Cb.out.1 Ze);subst h0;have d1: ¬100 < c 0:=by omega
       have d2: ¬200 < c 14:=by omega
       have d3: ¬200 < c 15:=by omega
       have d4: ¬200 < c 17:=by omega
       have d5:200 < c 1:=by omega
       clear h1 h2 h3 h4 h5 Cb;exact PH
     ·have HR:=Za (Cb.out.1 Ze);subst h0;have d1: ¬100 < c 0:=by omega
      have d2: ¬200 < c 14:=by omega
      have d3: ¬200 < c 15:=by omega
      have d4:200 < c 17:=by omega
      clear h1 h2 h3 h4 Cb;exact PH
    ·have HR:=Za (Cb.out.1 Ze);subst h0;have d1: ¬100 < c 0:=by omega
     have d2: ¬200 < c 14:=by omega
     have d3:200 < c 15:=by omega
     clear h1 h2 h3 Cb;exact PH
   ·have HR:=Za (Cb.out.1 Ze);subst h0;have d1: ¬100 < c 0:=by omega
    have d2:200 < c 14:=by omega
    clear h1 h2 Cb;exact PH
  ·have HR:=Za (Cb.out.1 Ze);subst h0;have d1:100 < c 0:=by omega
   clear h1 Cb;exact PH
 ·have HR:=Za (Cb.out.1 Ze);clear Cb;exact PH
end
section
open Go Go.RowKit Go.Deep
structure EqS (w:Zc)(x1 y1 x2 y2 x3 y3 x4 y4 x5 y5 x6 y6:Zo) :Prop where
 e1: ∀W,Zt w.heap.size w W→Zi Zb 64 #[x1,y1] W fun e w'=>e= .returned (.bool true)∧Zt W.heap.size W w'
 e2: ∀W,Zt w.heap.size w W→Zi Zb 49 #[x2,y2] W fun e w'=>e= .returned (.bool true)∧Zt W.heap.size W w'
 e3: ∀W,Zt w.heap.size w W→Zi Zb 49 #[x3,y3] W fun e w'=>e= .returned (.bool true)∧Zt W.heap.size W w'
 e4: ∀W,Zt w.heap.size w W→Zi Zb 49 #[x4,y4] W fun e w'=>e= .returned (.bool true)∧Zt W.heap.size W w'
 e5: ∀W,Zt w.heap.size w W→Zi Zb 50 #[x5,y5] W fun e w'=>e= .returned (.bool true)∧Zt W.heap.size W w'
 e6: ∀W,Zt w.heap.size w W→Zi Zb 65 #[x6,y6] W fun e w'=>e= .returned (.bool true)∧Zt W.heap.size W w'
theorem Wx (s:Sg)(ac u:Int)(tX tY tZ ud ue uf:Option Addr)(uo uq ur uv uw ux ug uh ui uj uk um:Nat)(yz yA yB yC yD yE:Option Addr)(yL yM yN yO yP yQ yF yG yH yI yJ yK:Nat)(w:Zc)(h:EqS w (.slice tX uo ug) (.slice yz yL yF) (.slice tY uq uh) (.slice yA yM yG) (.slice tZ ur ui) (.slice yB yN yH) (.slice ud uv uj) (.slice yC yO yI) (.slice ue uw uk) (.slice yD yP yJ) (.slice uf ux um) (.slice yE yQ yK)) :
  Zi Zb 20 #[.agg (Y7 s ac u (.slice tX uo ug) (.slice tY uq uh) (.slice tZ ur ui) (.slice ud uv uj) (.slice ue uw uk) (.slice uf ux um)),.agg (Y7 s ac u (.slice yz yL yF) (.slice yA yM yG) (.slice yB yN yH) (.slice yC yO yI) (.slice yD yP yJ) (.slice yE yQ yK))] w fun e w'=>e= .returned (.bool true)∧Zt w.heap.size w w':=by
 have B1:Zy ((w.alloc (.cells (Y7 s ac u (.slice tX uo ug) (.slice tY uq uh) (.slice tZ ur ui) (.slice ud uv uj) (.slice ue uw uk) (.slice uf ux um)) 51)).alloc (.cells (Y7 s ac u (.slice yz yL yF) (.slice yA yM yG) (.slice yB yN yH) (.slice yC yO yI) (.slice yD yP yJ) (.slice yE yQ yK)) 51)) w.heap.size 51 (Y7 s ac u (.slice tX uo ug) (.slice tY uq uh) (.slice tZ ur ui) (.slice ud uv uj) (.slice ue uw uk) (.slice uf ux um)):=(Zw w _ _).alloc _;have B2:Zy ((w.alloc (.cells (Y7 s ac u (.slice tX uo ug) (.slice tY uq uh) (.slice tZ ur ui) (.slice ud uv uj) (.slice ue uw uk) (.slice uf ux um)) 51)).alloc (.cells (Y7 s ac u (.slice yz yL yF) (.slice yA yM yG) (.slice yB yN yH) (.slice yC yO yI) (.slice yD yP yJ) (.slice yE yQ yK)) 51)) (w.heap.size+1) 51 (Y7 s ac u (.slice yz yL yF) (.slice yA yM yG) (.slice yB yN yH) (.slice yC yO yI) (.slice yD yP yJ) (.slice yE yQ yK)):=by
  have:=Zw (w.alloc (.cells (Y7 s ac u (.slice tX uo ug) (.slice tY uq uh) (.slice tZ ur ui) (.slice ud uv uj) (.slice ue uw uk) (.slice uf ux um)) 51)) 51 (Y7 s ac u (.slice yz yL yF) (.slice yA yM yG) (.slice yB yN yH) (.slice yC yO yI) (.slice yD yP yJ) (.slice yE yQ yK));rwa [show (w.alloc (.cells (Y7 s ac u (.slice tX uo ug) (.slice tY uq uh) (.slice tZ ur ui) (.slice ud uv uj) (.slice ue uw uk) (.slice uf ux um)) 51)).heap.size=w.heap.size+1 by simp] at this
 have b0:Zt w.heap.size w ((w.alloc (.cells (Y7 s ac u (.slice tX uo ug) (.slice tY uq uh) (.slice tZ ur ui) (.slice ud uv uj) (.slice ue uw uk) (.slice uf ux um)) 51)).alloc (.cells (Y7 s ac u (.slice yz yL yF) (.slice yA yM yG) (.slice yB yN yH) (.slice yC yO yI) (.slice yD yP yJ) (.slice yE yQ yK)) 51)):=((Zr _ _).alloc (Zg _) _).alloc ZO _;have HE:=Za h;clear h;go_enter Tryz.func20,Tryz.ntmps20;go_upto_region 1 with (fail);have HT:=Za (Zl B1 (Zl B2 b0));clear B1 B2 b0;generalize (w.alloc (.cells (Y7 s ac u (.slice tX uo ug) (.slice tY uq uh) (.slice tZ ur ui) (.slice ud uv uj) (.slice ue uw uk) (.slice uf ux um)) 51)).alloc (.cells (Y7 s ac u (.slice yz yL yF) (.slice yA yM yG) (.slice yB yN yH) (.slice yC yO yI) (.slice yD yP yJ) (.slice yE yQ yK)) 51)=W at*;generalize hb:w.heap.size=b at*;have HB:=Za hb;clear hb;simp only [List.append_eq,Ym,List.nil_append,YL];have y0:W.cell? ⟨b,0,none⟩=some (.int .i64 s.bk):=HT.out.1.cell 0;have z0:W.cell? ⟨b+1,0,none⟩=some (.int .i64 s.bk):=HT.out.2.1.cell 0;have y1:W.cell? ⟨b,1,none⟩=some (.int .i64 s.ep):=HT.out.1.cell 1;have z1:W.cell? ⟨b+1,1,none⟩=some (.int .i64 s.ep):=HT.out.2.1.cell 1;have y2:W.cell? ⟨b,2,none⟩=some (.slice tX uo ug):=HT.out.1.cell 2;have z2:W.cell? ⟨b+1,2,none⟩=some (.slice yz yL yF):=HT.out.2.1.cell 2;go_wp2_with fail;refine (HE.out.e1 W (by rw [HB.out]; exact HT.out.2.2)).mono ?_;rintro e w1 ⟨rfl,EO⟩;have H1:=Za (Zl (HT.out.1.below EO HT.out.1.lt) (Zl (HT.out.2.1.below EO HT.out.2.1.lt) (HT.out.2.2.trans (EO.mono (by have:=HT.out.2.2.size; have:=HB.out; omega)))));clear EO y0 z0 y1 z1 y2 z2 HT;have y3:w1.cell? ⟨b,3,none⟩=some (.int .u64 s.D):=H1.out.1.cell 3;have z3:w1.cell? ⟨b+1,3,none⟩=some (.int .u64 s.D):=H1.out.2.1.cell 3;have y4:w1.cell? ⟨b,4,none⟩=some (.int .u64 s.P):=H1.out.1.cell 4;have z4:w1.cell? ⟨b+1,4,none⟩=some (.int .u64 s.P):=H1.out.2.1.cell 4;have y5:w1.cell? ⟨b,5,none⟩=some (.int .u64 s.B):=H1.out.1.cell 5;have z5:w1.cell? ⟨b+1,5,none⟩=some (.int .u64 s.B):=H1.out.2.1.cell 5;have y6:w1.cell? ⟨b,6,none⟩=some (.int .u64 ac):=H1.out.1.cell 6;have z6:w1.cell? ⟨b+1,6,none⟩=some (.int .u64 ac):=H1.out.2.1.cell 6;have y7:w1.cell? ⟨b,7,none⟩=some (.slice tY uq uh):=H1.out.1.cell 7;have z7:w1.cell? ⟨b+1,7,none⟩=some (.slice yA yM yG):=H1.out.2.1.cell 7;go_wp2_with fail;refine (HE.out.e2 w1 (by rw [HB.out]; exact H1.out.2.2)).mono ?_;rintro e w2 ⟨rfl,Gk⟩;have H2:=Za (Zl (H1.out.1.below Gk H1.out.1.lt) (Zl (H1.out.2.1.below Gk H1.out.2.1.lt) (H1.out.2.2.trans (Gk.mono (by have:=H1.out.2.2.size; have:=HB.out; omega)))));clear Gk y3 z3 y4 z4 y5 z5 y6 z6 y7 z7 H1;have y8:w2.cell? ⟨b,8,none⟩=some (.slice tZ ur ui):=H2.out.1.cell 8;have z8:w2.cell? ⟨b+1,8,none⟩=some (.slice yB yN yH):=H2.out.2.1.cell 8;go_wp2_with fail;refine (HE.out.e3 w2 (by rw [HB.out]; exact H2.out.2.2)).mono ?_;rintro e w3 ⟨rfl,hb3⟩;have H3:=Za (Zl (H2.out.1.below hb3 H2.out.1.lt) (Zl (H2.out.2.1.below hb3 H2.out.2.1.lt) (H2.out.2.2.trans (hb3.mono (by have:=H2.out.2.2.size; have:=HB.out; omega)))));clear hb3 y8 z8 H2;have y9:w3.cell? ⟨b,9,none⟩=some (.slice ud uv uj):=H3.out.1.cell 9;have z9:w3.cell? ⟨b+1,9,none⟩=some (.slice yC yO yI):=H3.out.2.1.cell 9;go_wp2_with fail;refine (HE.out.e4 w3 (by rw [HB.out]; exact H3.out.2.2)).mono ?_;rintro e w4 ⟨rfl,hb4⟩;have H4:=Za (Zl (H3.out.1.below hb4 H3.out.1.lt) (Zl (H3.out.2.1.below hb4 H3.out.2.1.lt) (H3.out.2.2.trans (hb4.mono (by have:=H3.out.2.2.size; have:=HB.out; omega)))));clear hb4 y9 z9 H3;have y10:w4.cell? ⟨b,10,none⟩=some (.slice ue uw uk):=H4.out.1.cell 10;have z10:w4.cell? ⟨b+1,10,none⟩=some (.slice yD yP yJ):=H4.out.2.1.cell 10;go_wp2_with fail;refine (HE.out.e5 w4 (by rw [HB.out]; exact H4.out.2.2)).mono ?_;rintro e w5 ⟨rfl,hb5⟩;have H5:=Za (Zl (H4.out.1.below hb5 H4.out.1.lt) (Zl (H4.out.2.1.below hb5 H4.out.2.1.lt) (H4.out.2.2.trans (hb5.mono (by have:=H4.out.2.2.size; have:=HB.out; omega)))));clear hb5 y10 z10 H4;have y11:w5.cell? ⟨b,11,none⟩=some (.slice uf ux um):=H5.out.1.cell 11;have z11:w5.cell? ⟨b+1,11,none⟩=some (.slice yE yQ yK):=H5.out.2.1.cell 11;go_wp2_with fail;refine (HE.out.e6 w5 (by rw [HB.out]; exact H5.out.2.2)).mono ?_;rintro e w6 ⟨rfl,hb6⟩;have H6:=Za (Zl (H5.out.1.below hb6 H5.out.1.lt) (Zl (H5.out.2.1.below hb6 H5.out.2.1.lt) (H5.out.2.2.trans (hb6.mono (by have:=H5.out.2.2.size; have:=HB.out; omega)))));clear hb6 y11 z11 H5;have y12:w6.cell? ⟨b,12,none⟩=some (.int .i64 (s.cu:Int)):=H6.out.1.cell 12;have z12:w6.cell? ⟨b+1,12,none⟩=some (.int .i64 (s.cu:Int)):=H6.out.2.1.cell 12;have y13:w6.cell? ⟨b,13,none⟩=some (.int .u64 s.cy):=H6.out.1.cell 13;have z13:w6.cell? ⟨b+1,13,none⟩=some (.int .u64 s.cy):=H6.out.2.1.cell 13;have y14:w6.cell? ⟨b,14,none⟩=some (.int .i64 u):=H6.out.1.cell 14;have z14:w6.cell? ⟨b+1,14,none⟩=some (.int .i64 u):=H6.out.2.1.cell 14;go_wp2_with fail;go_ret;exact ⟨rfl,by rw [HB.out]; exact H6.out.2.2⟩
end
section
open Go Go.RowKit Go.Deep
theorem Vp {α:Type}{row:α→List Zo}{k:Nat}{w:Zc}{e:ZT}{a:Option Addr}{n cp:Nat}{l:List α}(hk: ∀v,(row v).length=k)(h:w.ownsRow 0 e k (.slice a n cp) n (Yx row l))(hl:l.length=n) :J6 row k w (fun b=> ¬(Yr a n cp).ownBlock=some b) a l:=fun h0=>by
 rcases h.2 with ⟨h1,h2⟩ | ⟨g,Bp,cur,h1,_,h3,_⟩
 ·injection h1 with _ h3 _; omega
 ·injection h1 with h1 _ _;subst h1;refine ⟨g,0,rfl,fun hn=>hn (by simp [Value.ownBlock]),(Array.getElem?_eq_some_iff.1 h3).1,fun i v hi=>?_⟩;obtain ⟨g2,e2,h4⟩:=FF (row:=row) (sz:=k) (l:=l) hk h Ze hi;injection e2 with e2;injection e2 with e2 _ _;rw [e2,Nat.zero_add];exact h4
def Wm (g n:Nat)(l:List Rp) :Zc→(Nat→Prop)→Prop:=fun w S=>
 ∃vs:List Rc,vs.length=l.length∧Zy w g 42 (Yx KE (vs++ZF (n - l.length) Gb)).toArray∧S g∧(∀i,S i→i < w.heap.size)∧
  ∀(i:Nat) (v:Rc) (r:Rp),vs[i]?=some v→l[i]?=some r→v=AF r v.aa v.ac v.pa v.pc∧J6 As.row 3 w (fun b=>b=g∨ ¬S b) v.aa r.la∧J6 QW 3 w (fun b=>b=g∨ ¬S b) v.pa r.lp
theorem AL {g n:Nat}{l:List Rp} :Xa (Wm g n l):=by
 refine ⟨fun w S h=>?_,fun w w' S T h hk hT=>?_⟩
 ·obtain ⟨vs,_,_,_,h,_⟩:=h;exact h
 obtain ⟨vs,h1,h2,h3,h4,h5⟩:=h;refine ⟨vs,h1,h2.kept hk (hT _ h3),h3,fun i hi=>Yp (h4 i hi) hk.size,fun i v r hv hr=>?_⟩;obtain ⟨e,ha,hp⟩:=h5 i v r hv hr;have hb: ∀b,b < w.heap.size→ ¬(b=g∨ ¬S b)→w'.heap[b]?=w.heap[b]?:=fun b hb hn=>hk.block b hb (hT b (Classical.not_not.1 fun h=>hn (.inr h)))
 exact ⟨e,ha.same hk.size hb,hp.same hk.size hb⟩
section
variable {N:Nat} {w0:Ez} {w w' w1:Zc} {c cf:Nat→Int} {a:Pl} {q:Ql} {X Z:Nat→Zc→(Nat→Prop)→Prop} {s s':Sg} {L L':List QO} {k:Nat}
theorem En.join3 (h:En (N+3) w0 w cf a X s L)(hX: ∀k,8≤k→Xa (X k))(hN:8≤N){Q':Zc→(Nat→Prop)→Prop}(hQ':Xa Q')
  (hn: ∀S0 S1 S2,X N w S0→X (N+1) w S1→X (N+2) w S2→(∀i,S0 i→ ¬S1 i)→(∀i,S0 i→ ¬S2 i)→(∀i,S1 i→i < w.heap.size)→(∀i,S2 i→i < w.heap.size)→Q' w' (fun i=>S0 i∨S1 i∨S2 i)∧Kept S0 w w') :
  En (N+1) w0 w' cf a (ZI X N Q') s L:=by
 obtain ⟨Φ,F,g1,g2⟩:=h;have p0:=F.part N Ze;have p1:=F.part (N+1) Ze;have p2:=F.part (N+2) Ze;rw [pt_high hN] at p0;rw [pt_high Ze] at p1 p2;obtain ⟨q',hk⟩:=hn _ _ _ p0 p1 p2 (F.ap N (N+1) Ze Ze Ze) (F.ap N (N+2) Ze Ze Ze) (F.lt (N+1) Ze) (F.lt (N+2) Ze);refine ⟨BZ Φ N (fun i=>Φ N i∨Φ (N+1) i∨Φ (N+2) i),⟨fun j hj=>?_,fun j hj i hi=>?_,fun j l hj hl Df i hi Uq=>?_⟩,fun j hj i hi=>?_,Kb g2 hk (g1 N Ze)⟩
 ·by_cases Mi:j=N
  ·subst Mi;rw [Xe,pt_high hN,xput_same];exact q'
  ·rw [fput_other Mi,D7 hN j Ze];exact (Xv hX j).2 w w' _ _ (F.part j Ze) hk (F.ap j N Ze Ze Mi)
 ·by_cases Mi:j=N
  ·subst Mi;rw [Xe] at hi
   rcases hi with hi | hi | hi
   ·exact ti
   ·exact ti
   ·exact ti
  ·rw [fput_other Mi] at hi;exact Yp (F.lt j Ze i hi) hk.size
 ·by_cases Mi:j=N
  ·subst Mi;rw [Xe] at hi;rw [fput_other (fun e=>Df e.symm)] at Uq
   rcases hi with hi | hi | hi
   ·exact tj
   ·exact tj
   ·exact tj
  ·rw [fput_other Mi] at hi
   by_cases hlN:l=N
   ·subst hlN;rw [Xe] at Uq
    rcases Uq with Uq | Uq | Uq
    ·exact tk
    ·exact tk
    ·exact tk
   ·rw [fput_other hlN] at Uq;exact F.ap j l Ze Ze Df i hi Uq
 ·by_cases Mi:j=N
  ·subst Mi;rw [Xe] at hi
   rcases hi with hi | hi | hi
   ·exact g1 _ Ze i hi
   ·exact g1 _ Ze i hi
   ·exact g1 _ Ze i hi
  ·exact tn
theorem Eg.join3 (h:Eg (N+3) w0 w c a q Z s L)(hN:11≤N){Q':Zc→(Nat→Prop)→Prop}(hQ':Xa Q')
  (hn: ∀S0 S1 S2,Z N w S0→Z (N+1) w S1→Z (N+2) w S2→(∀i,S0 i→ ¬S1 i)→(∀i,S0 i→ ¬S2 i)→(∀i,S1 i→i < w.heap.size)→(∀i,S2 i→i < w.heap.size)→Q' w' (fun i=>S0 i∨S1 i∨S2 i)∧Kept S0 w w') :
  Eg (N+1) w0 w' c a q (ZI Z N Q') s L:=by
 obtain ⟨X,hX,hZ,_,h⟩:=h;refine ⟨ZI X N Q',fun k hk=>?_,fun k h1 h2=>?_,by omega,?_⟩
 ·unfold ZI; split
  ·exact hQ'
  ·exact hX k hk
 ·unfold ZI; split
  ·rfl
  ·exact hZ k h1 Ze
 ·rw [←OW hN];refine h.join3 (DN hX) Ze hQ' ?_;rw [BA hN,BA Ze,BA Ze,hZ N hN Ze,hZ (N+1) Ze Ze,hZ (N+2) Ze Ze];exact hn
theorem Tf (l:List Rc) :(Yx KE l).length=l.length*9:=Bt (row:=KE) (k:=9) Rc.row_len l
theorem Eg.rcstore (h:Eg (N+3) w0 w c a q Z s L)(hN:11≤N){g n:Nat}{l:List Rp}{r:Rp}{ia ip:Option Addr}{ca cp:Nat}(bC:Z N=Wm g n l)(jr:Z (N+1)=YP 71 3 (.slice ia r.la.length ca) r.la.length (Yx As.row r.la))(wG:Z (N+2)=YP 61 3 (.slice ip r.lp.length cp) r.lp.length (Yx QW r.lp))(hl:l.length < n) :
  w.there g (l.length*9) 9∧Eg (N+1) w0 (w.setCells g (l.length*9) (Zz (AF r ia ca ip cp)).toList) c a q (ZI Z N (Wm g n (l++[r]))) s L:=by
 have e1: ∀vs:List Rc,Yx KE (vs++ZF (n - l.length) Gb)=Yx KE vs++KE Gb++Yx KE (ZF (n -(l.length+1)) Gb):=fun vs=>by
  rw [show n - l.length=(n -(l.length+1))+1 by omega,List.replicate_succ,Ki,List.append_assoc];rfl
 refine ⟨?_,h.join3 hN AL fun S0 S1 S2 p0 p1 p2 d1 d2 l1 l2=>?_⟩
 ·obtain ⟨X,hX,_,hh,_,_,hz,_⟩:=h.open;obtain ⟨S,hp,_⟩:=hh.part (show N < N+3 by omega);rw [pt_high Ze,hz N hN Ze,bC] at hp;obtain ⟨vs,tT,hB,_⟩:=hp;refine fun i hi=>⟨?_,hB.frozen _⟩
  rw [hB.cell,YY,Zf (by rw [Tf,ZN,List.length_replicate]; omega)]; rfl
 ·rw [bC] at p0;rw [jr] at p1;rw [wG] at p2;obtain ⟨vs,tT,hB,hg,XJ,dF⟩:=p0;have hk:Kept (fun i=>i=g) w (w.setCells g (l.length*9) (Zz (AF r ia ca ip cp)).toList):=QC _ _ _ (ZM _ _) (.inl rfl);have hkS: ∀T:Nat→Prop,T g→Kept T w (w.setCells g (l.length*9) (Zz (AF r ia ca ip cp)).toList):=fun T hT=>QC _ _ _ (ZM _ _) (.inl hT)
  have hgS1: ¬S1 g:=d1 g hg;have hgS2: ¬S2 g:=d2 g hg;refine ⟨⟨vs++[AF r ia ca ip cp],by simp [tT],?_,.inl hg,fun i hi=>?_,fun i v x hv hx=>?_⟩,hkS S0 hg⟩
  ·rw [e1] at hB;have h2:=UG (KE (AF r ia ca ip cp)) (Yx KE vs) (KE Gb) _ w rfl hB;rw [Tf,tT] at h2;rw [ZN,List.length_singleton,Ki,Ki,EM];exact h2
  ·refine Yp ?_ hk.size
   rcases hi with hi | hi | hi
   ·exact XJ i hi
   ·exact l1 i hi
   ·exact l2 i hi
  ·rcases Nat.lt_or_ge i vs.length with hi | hi
   ·rw [YD hi] at hv;rw [YD Ze] at hx;obtain ⟨e,ha,hp⟩:=dF i v x hv hx;have hT: ∀j,j < (w.setCells g (l.length*9) (Zz (AF r ia ca ip cp)).toList).heap.size→(j=g∨ ¬(S0 j∨S1 j∨S2 j))→(j=g∨ ¬S0 j):=fun j _ h=>by
     rcases h with h | h
     ·exact .inl h
     ·exact .inr fun h0=>h (.inl h0)
    exact ⟨e,(ha.kept (hkS _ (.inl rfl))).more hT,(hp.kept (hkS _ (.inl rfl))).more hT⟩
   ·have Uq:i=vs.length:=by
     have:=(List.getElem?_eq_some_iff.1 hv).1;simp at this;omega
    subst Uq;rw [YV (Zg _),Nat.sub_self] at hv;rw [YV Ze,tT,Nat.sub_self] at hx;obtain rfl:AF r ia ca ip cp=v:=by simpa using hv
    obtain rfl:r=x:=by simpa using hx
    have ha:=Vp As.row_len p1.1 rfl;have hp:=Vp Pm.row_len p2.1 rfl;refine ⟨rfl,(ha.more (T:=fun j=>j=g∨ ¬(S0 j∨S1 j∨S2 j)) fun j _ h ho=>?_).kept (hkS _ (.inl rfl)),(hp.more (T:=fun j=>j=g∨ ¬(S0 j∨S1 j∨S2 j)) fun j _ h ho=>?_).kept (hkS _ (.inl rfl))⟩
    ·have hs:=(p1.2 j).2 ho
     rcases h with rfl | h
     ·exact hgS1 hs
     ·exact h (.inr (.inl hs))
    ·have hs:=(p2.2 j).2 ho
     rcases h with rfl | h
     ·exact hgS2 hs
     ·exact h (.inr (.inr hs))
def Bg (c:Nat→Int) :Sg→List QO→List Oq→List QO
 | _,L,[]=>L
 | s,L,o::l=>Bg c (opO c s o).2 (VA c s L o) l
theorem C4 (c:Nat→Int)(o:Oq) : ∀(A:List Oq) (s:Sg) (L:List QO),DB c s (A++[o])=(opO c (DB c s A) o).2∧L5 c s (A++[o])=L5 c s A++[(opO c (DB c s A) o).1]∧Bg c s L (A++[o])=VA c (DB c s A) (Bg c s L A) o
 | [],s,L=>⟨rfl,rfl,rfl⟩
 | x::A,s,L=>by
  obtain ⟨h1,h2,h3⟩:=C4 c o A (opO c s x).2 (VA c s L x);refine ⟨h1,?_,h3⟩;rw [Ym];show _::_=_::_++_;rw [Ym];exact congrArg _ h2
theorem rk (c:Nat→Int)(s:Sg)(L:List QO){l:List Oq}{k:Nat}{o:Oq}(hk:l[k]?=some o) :DB c s (l.take (k+1))=(opO c (DB c s (l.take k)) o).2∧L5 c s (l.take (k+1))=L5 c s (l.take k)++[(opO c (DB c s (l.take k)) o).1]∧Bg c s L (l.take (k+1))=VA c (DB c s (l.take k)) (Bg c s L (l.take k)) o:=by
 rw [List.take_add_one,hk,Option.toList_some];exact C4 c o _ s L
theorem cr (c:Nat→Int) : ∀(l:List Oq) (s:Sg),(L5 c s l).length=l.length
 | [],s=>rfl
 | o::l,s=>by show _+1=_+1; rw [cr c l]
theorem N8.ops {c:Nat→Int} : ∀(l:List Oq) {k:Nat} {s:Sg} {L:List QO},N8 c k s L→k+l.length≤1000000→(∀o ∈ l,Kg o)→N8 c (k+l.length) (DB c s l) (Bg c s L l)
 | [],k,s,L,h,_,_=>h
 | o::l,k,s,L,h,hk,hf=>by
  have dH:k+(l.length+1)≤1000000:=hk;have:=N8.ops l (h.op Ze o (hf o ZO)) Ze (fun x hx=>hf x UT);rw [show k+(o::l).length=k+1+l.length by simp; omega];exact this
theorem rM: ∃i,Tryz.prog.info? 42=some i∧i.zero=some (.agg (Zz Gb))∧i.size=9∧i.bytes≤1000:=by
 have h:(Tryz.prog.info? 42).map (fun i=>(i.zero,i.size,decide (i.bytes≤1000)))=some (some (.agg (Zz Gb)),9,true):=by kernel_rfl
 cases hi:Tryz.prog.info? 42 with
 | none=>rw [hi] at h; cases h
 | some i=>
  rw [hi] at h;simp at h;exact ⟨i,rfl,h.1,h.2.1,h.2.2⟩
theorem q6 (cs:List Zo)(h0:0 < cs.length) : ∀n:Nat,madeCells cs.toArray (n*cs.length)=((ZF n cs).flatten).toArray:=fun n=>by
 have hf:(ZF n cs).flatten=Yx (fun _:Unit=>cs) (ZF n ()):=by unfold Yx; rw [List.flatMap_def,GD]
 have hl:(Yx (fun _:Unit=>cs) (ZF n ())).length=n*cs.length:=by rw [Bt (k:=cs.length) (fun _=>rfl),List.length_replicate]
 rw [hf];apply Array.toList_inj.1;unfold madeCells;rw [Array.toList_map,Array.toList_range];apply List.ext_getElem?;intro i;show _=(Yx (fun _:Unit=>cs) (ZF n ()))[i]?
 rcases Nat.lt_or_ge i (n*cs.length) with hi | hi
 ·have hd:i/cs.length < n:=Nat.div_lt_of_lt_mul (by rw [Nat.mul_comm]; exact hi);have hm:i%cs.length < cs.length:=Nat.mod_lt _ h0;have h1:=EL (row:=fun _:Unit=>cs) (k:=cs.length) (fun _=>rfl) (l:=ZF n ()) (i:=i/cs.length) (v:=()) (by rw [List.getElem?_replicate,if_pos hd]) hm;rw [Nat.mul_comm,Nat.div_add_mod] at h1;rw [h1,List.getElem?_map,List.getElem?_range hi];simp [hm]
 ·rw [Qd (by rw [List.length_map,List.length_range]; exact hi),Qd (by rw [hl]; exact hi)]
theorem cT (n:Nat)(hn:n≤100000)(w:Zc) :
  (Instr.makeSlice 66 (.int .i64 (n:Int)) (.int .i64 (n:Int))).run Zb w= .ok (.slice (some ⟨w.heap.size,0,none⟩) n n) (w.alloc (.cells (Yx KE (ZF n Gb)).toArray 42)):=by
 obtain ⟨i,hi,hz,hs,Hu⟩:=rM;have hb:i.bytes*n≤281474976710656:=Nat.le_trans (Nat.mul_le_mul Hu hn) Xh;have Dt:=Q6 (P:=Zb) 66 42 i _ Tryz.underlying66 hi hz .i64 .i64 n n (Zg _) hb Ze w;rw [hs] at Dt;have e:Yx KE (ZF n Gb)=(ZF n (KE Gb)).flatten:=by unfold Yx; rw [List.flatMap_def,GD]
 rw [e];have h2:=q6 (KE Gb) Xh n;rw [show (KE Gb).length=9 from rfl] at h2;rw [←h2];exact Dt
end
end
section
open Go Go.RowKit Go.Deep
def RE (N:Nat)(w0:Ez)(Z:Nat→Zc→(Nat→Prop)→Prop)(al:Option Addr)(l:List Oq) :Prop:=
 J6 Oq.row 4 w0.w w0.T al l∨ ∃r,11≤r∧r < N∧Z r=Kh Oq.row 4 al l
section
variable {N M:Nat} {w0:Ez} {w w' w1:Zc} {c cf:Nat→Int} {a:Pl} {q:Ql} {X Z Z':Nat→Zc→(Nat→Prop)→Prop} {s s':Sg} {L L':List QO} {k:Nat} {al:Option Addr} {l:List Oq}
theorem Eg.kept0 (h:Eg N w0 w c a q Z s L) :Kept w0.T w0.w w:=by
 obtain ⟨X,_,_,_,Φ,_,_,hk⟩:=h;exact hk
theorem RE.at (hs:RE N w0 Z al l)(he:Eg M w0 w c a q Z' s L)(hM:N≤M)(hZ: ∀k,11≤k→k < N→Z' k=Z k){k:Nat}{o:Oq}(hk:l[k]?=some o) : ∃g off,al=some ⟨g,off,none⟩∧w.rangeAt g (off+k*4) o.row:=by
 rcases hs with h | ⟨r,Gj,hr,hx⟩
 ·obtain ⟨g,off,e,_,_,h2⟩:=(h.kept he.kept0).at hk;exact ⟨g,off,e,h2⟩
 ·obtain ⟨X,hX,_,hh,_,_,hz,_⟩:=he.open;obtain ⟨S,hp,_⟩:=hh.part (show r < M by omega);rw [pt_high Ze,hz r Gj Ze,hZ r Gj hr,hx] at hp;obtain ⟨g,off,e,_,_,h2⟩:=hp.1.at hk;exact ⟨g,off,e,h2⟩
theorem Ziy {k0:Nat}(h:N8 c k0 s L)(bw:k0+l.length≤1000000)(hll:l.length≤100000)(hf: ∀o ∈ l,Kg o)(he:Eg N w0 w c a q Z s L)(hs:RE N w0 Z al l)(cl:Nat) :
  Zi Zb 27 #[.pointer (some ⟨q.e,0,none⟩),.slice al l.length cl] w fun e w'=> ∃g,e= .returned (.slice (some ⟨g,0,none⟩) l.length l.length)∧Eg (N+1) w0 w' c a q (ZI Z N (Wm g l.length (L5 c s l))) (DB c s l) (Bg c s L l):=by
 have hN:=he.low;obtain ⟨n,hn⟩ : ∃n,l.length=n:=⟨_,rfl⟩;have Dt:=cT n Ze w;have H0:Hid (Eg (N+1) w0 (w.alloc (.cells (Yx KE (ZF n Gb)).toArray 42)) c a q (ZI Z N (Wm w.heap.size n (L5 c s (l.take 0)))) s L):=Za (by
  have h1:=he.box (Yx KE (ZF n Gb)).toArray 42;have h2:=h1.as (r:=N) hN Ze xput_same (Q':=Wm w.heap.size n (L5 c s (l.take 0))) AL fun S hS=>⟨[],rfl,hS.1,(hS.2 _).2 rfl,fun i hi=>by rw [(hS.2 i).1 hi]; exact hS.1.lt,fun i v r hv=>by simp at hv⟩
  rwa [Xg] at h2)
 have HS:=Za (fun (j:Nat) (hj:j≤n)=>N8.ops (l.take j) h N5 (fun o ho=>hf o (List.mem_of_mem_take ho)));have HX:=Za (Zl hf (Zl hs hn));have HN:=Za hN;have bz:n≤100000:=by omega
 have Rd:k0+n≤1000000:=by omega
 have HK:=Za Rd;rw [hn];clear h hf he hs hN hn hll bw Rd;go_enter Tryz.func27,Tryz.ntmps27;go_wp2_with fail;clear Dt;generalize w.heap.size=z at*;generalize w.alloc (.cells (Yx KE (ZF n Gb)).toArray 42)=W at*;go_loopw [13] (fun s13 wr=> ∃(k:Nat),k≤n∧s13= .int .i64 k∧Hid (Eg (N+1) w0 wr c a q (ZI Z N (Wm z n (L5 c s (l.take k)))) (DB c s (l.take k)) (Bg c s L (l.take k)))) (fun s13 _=>n -(XR s13).toNat)
 case atStart=>exact ⟨0,by omega,rfl,H0⟩
 case round=>
  obtain ⟨k,hk,rfl,HE⟩:=hrel
  by_cases XJ:k < n
  ·obtain ⟨o,ho⟩ : ∃o,l[k]?=some o:=⟨_,Zf (by rw [HX.out.2.2]; exact XJ)⟩;obtain ⟨g,off,rfl,Mn⟩:=HX.out.2.1.at HE.out Ze (fun k h1 h2=>xput_ne Ze) ho;obtain ⟨e1,e2,e3⟩:=rk c s L ho;have wh:(l.take k).length=k:=by rw [List.length_take,HX.out.2.2]; omega
   have Gm:N8 c (k0+k) (DB c s (l.take k)) (Bg c s L (l.take k)):=by
    have:=HS.out k hk;rwa [wh] at this
   have tN:=HX.out.1 o (List.mem_of_getElem? ho);have hrl:(L5 c s (l.take k)).length=k:=by rw [cr]; exact wh
   have HA:Hid (∀wx Zx,Eg (N+1+1) w0 wx c a q Zx (DB c s (l.take k)) (Bg c s L (l.take k))→Zi Zb 16 #[.pointer (some ⟨q.e,0,none⟩),.agg (ZJ o)] wx (nZ (N+1+1) w0 c a q Zx (opO c (DB c s (l.take k)) o) (VA c (DB c s (l.take k)) (Bg c s L (l.take k)) o))):=Za fun wx Zx hx=>Ov Gm (by have:=HK.out; omega) hx o tN
   have HR:=Za Mn;have HT:=Za (Zl e1 (Zl e2 (Zl e3 hrl)));clear ho Mn e1 e2 e3 wh Gm tN hrl;go_upto_region 4 with (fail);have TZ:=Za (HE.out.box (ZJ o) 37);go_upto_region 5 with (first | (refine wpList_load_mid rfl 37 _ rfl g (off+k*4) rfl o.row _ HR.out ZS rfl XV ?_) | (refine Zm rfl _ _ _ rfl wr.heap.size (ZJ o) rfl rfl 37 _ (ZD wr _) XV rfl (BD _) ?_; rw [Zu]));try simp only [qA]
   generalize wr.heap.size=zp at*;generalize wr.alloc (.cells (ZJ o) 37)=W1 at*;have WM:=Za (TZ.out.blkAt (r:=N+1) ZQ Ze xput_same);go_wp2_with (first | (refine Zn rfl 37 _ rfl zp rfl 37 _ (0,0) _ WM.out ZS rfl XV ?_));refine (HA.out _ _ TZ.out).mono ?_;rintro e w2 ⟨ia,ca,ip,cp,rfl,h2⟩;have hN:=HN.out;obtain ⟨R,hR⟩ : ∃R,(opO c (DB c s (l.take k)) o).1=R:=⟨_,rfl⟩;rw [hR] at h2 ⊢;have h3:Eg (N+3) w0 w2 c a q (ZI (ZI (ZI Z N (Wm z n (L5 c s (l.take k)))) (N+1) (YP 71 3 (.slice ia R.la.length ca) R.la.length (Yx As.row R.la))) (N+2) (YP 61 3 (.slice ip R.lp.length cp) R.lp.length (Yx QW R.lp))) (opO c (DB c s (l.take k)) o).2 (VA c (DB c s (l.take k)) (Bg c s L (l.take k)) o):=by
    refine h2.remap Ze (fun j=>if j≤N then j else j+1) (fun j hj=>if_pos Ze) (fun j hj=>by split <;> omega) (fun j hj=>by split <;> omega) (fun i j hi hj e=>by split at e <;> split at e <;> omega) fun j h1 h2=>?_
    by_cases hj:j≤N
    ·rw [if_pos hj];unfold rowsX
     by_cases Mi:j=N
     ·subst Mi;rw [xput_ne Ze,xput_ne Ze,xput_same,xput_ne Ze,xput_ne Ze,xput_ne Ze,xput_same]
     ·rw [xput_ne Ze,xput_ne Ze,xput_ne Ze,xput_ne Ze,xput_ne Ze,xput_ne Ze,xput_ne Ze]
    ·rw [if_neg hj];unfold rowsX;have hc:j=N+1∨j=N+2:=by omega
     rcases hc with rfl | rfl
     ·rw [xput_ne Ze,xput_same,xput_ne Ze,xput_same]
     ·rw [xput_same,xput_same]
   have Ml:(L5 c s (l.take k)).length=k:=HT.out.2.2.2;have Gm:=h3.rcstore hN (g:=z) (n:=n) (l:=L5 c s (l.take k)) (r:=R) IM Ua xput_same Ze;rw [Ml] at Gm;have e2:=HT.out.2.1;rw [hR] at e2;generalize AF R ia ca ip cp=R2 at Gm ⊢;have hth:w2.there z (k*9) (Zz R2).size:=Gm.1;have tD:=Za hth;have H4:Hid (Eg (N+1) w0 (w2.setCells z (k*9) (Zz R2).toList) c a q (ZI Z N (Wm z n (L5 c s (l.take (k+1))))) (DB c s (l.take (k+1))) (Bg c s L (l.take (k+1)))):=Za (by
    rw [e2,HT.out.1,HT.out.2.2.1];exact Gm.2.ext fun j h1 h2=>by
     by_cases hj:j=N
     ·subst hj; rw [xput_same,xput_same]
     ·rw [xput_ne hj,xput_ne hj,xput_ne Ze,xput_ne Ze,xput_ne hj])
   clear hth h2 h3 Gm HA WM TZ HT hR Ml e2 HE HR;go_wp2_with (first | (refine wpList_store_mid (op:=⟨none,.store _ _ _,_,_,_,_⟩) rfl 42 _ _ rfl z (k*9) (Zz R2) rfl rfl tD.out YS (YC _) ?_));clear tD;generalize w2.setCells z (k*9) (Zz R2).toList=W4 at*;go_wp2_with fail;go_roundw
   case rel=>exact ⟨k+1,by omega,by go_num,H4⟩
   case measure=>exact Uz
  ·obtain rfl:k=n:=by omega
   clear XJ;have XJ: ¬k < k:=by omega
   have H7:=HE.out;rw [List.take_of_length_le (by rw [HX.out.2.2]; exact Zg _)] at H7;have H8:=Za H7;clear HE H7;go_wp2_with fail;go_ret;exact ⟨_,rfl,H8.out⟩
end
end
section
open Go Go.RowKit Go.Deep
def eS (V:List Yd)(i:Int) :Yd:=if GI V i=true then Z9 else Vy V i
section
variable {N:Nat} {w0:Ez} {w w' w1:Zc} {c:Nat→Int} {a:Pl} {q:Ql} {Z:Nat→Zc→(Nat→Prop)→Prop} {s s':Sg} {L L':List QO}
theorem Eg.more1 (h:Eg N w0 w c a q Z s L)(x:Obj) :Eg N w0 (w.alloc x) c a q Z s L:=h.below ((Zr _ _).alloc (Zg _) x)
theorem Eg.getAny (h:Eg N w0 w c a q Z s L)(i:Int) :Zi Zb 70 #[.pointer (some ⟨a.r,0,none⟩),.int .i64 i] w fun e w'=>e= .returned (.tuple #[.agg (Zd (eS s.V i)),.bool (!GI s.V i)])∧Zt w.heap.size w w':=by
 obtain ⟨X,hX,VP,hh,_⟩:=h.open
 by_cases ho:GI s.V i=true
 ·have h1:=hh.get_out VP (i:=i) (by unfold GI at ho; simpa using ho);rw [ho,show eS s.V i=Z9 from if_pos ho];exact h1
 ·have ho':GI s.V i=false:=by simpa using ho
  obtain ⟨n,rfl,hv⟩:=Gg ho';rw [ho',show eS s.V (n:Int)=Vy s.V n from if_neg ho];exact hh.get_in VP hv
theorem Ziv (h:Eg N w0 w c a q Z s L)(i:Int) :Zi Zb 26 #[.pointer (some ⟨q.e,0,none⟩),.int .i64 i] w fun e w'=>e= .returned (.tuple #[.agg (Zd (eS s.V i)),.bool (!GI s.V i)])∧Eg N w0 w' c a q Z s L:=by
 have HB:=Za (h.more1 (.cells (Zd Z9) 63));have hz:Zy (w.alloc (.cells (Zd Z9) 63)) w.heap.size 63 (Zd Z9):=Zw _ _ _;have HZ:=Za hz;have HL:=Za (show w.heap.size < (w.alloc (.cells (Zd Z9) 63)).heap.size by simp);have HE:Hid (∀w',Zt (w.alloc (.cells (Zd Z9) 63)).heap.size (w.alloc (.cells (Zd Z9) 63)) w'→ ∀cs,Eg N w0 (w'.setRow w.heap.size cs) c a q Z s L):=Za fun w' hb cs=>by
  have h1:=h.box (Zd Z9) 63;have h2:=h1.below hb;have hB:=hz.below hb ZO;have h3:=h2.setr (r:=N) h.low Ze xput_same (hB.setRow cs) (Kept.setRow (S:=fun i=>i=w.heap.size) (ZM _ _) (.inl rfl) cs);rw [Xg] at h3;exact h3.drop h.low
 obtain ⟨v,hv⟩ : ∃v,eS s.V i=v:=⟨_,rfl⟩;obtain ⟨ok,Og⟩ : ∃ok,(!GI s.V i)=ok:=⟨_,rfl⟩;have HG:=Za (HB.out.getAny i);have y21:(w.alloc (.cells (Zd Z9) 63)).cell? ⟨q.e,21,none⟩=some (.pointer (some ⟨a.r,0,none⟩)):=HB.out.blk.cell 21;rw [hv,Og] at HG ⊢;clear h hz hv Og;go_enter Tryz.func26,Tryz.ntmps26;go_upto_region 3 with (fail);generalize hW:w.alloc (.cells _ 63)=W;have eW:w.alloc (.cells (Zd Z9) 63)=W:=hW;rw [eW] at HB HZ HL HE HG y21;generalize w.heap.size=b at*;clear hW eW;go_wp2_with fail;refine HG.out.mono ?_;rintro e w2 ⟨rfl,hb⟩;have zf:=Za (HZ.out.below hb HL.out);have H2:=Za (HE.out w2 hb);clear HE HG y21 HZ HL HB hb;go_wp2_with (first | (refine Zm rfl _ _ _ rfl b (Zd v) rfl rfl 63 _ zf.out Yo rfl (Yy v) ?_));exact bodyPost_ret (v:= .tuple #[.agg (Zd v),.bool ok]) (XN (fn:=Tryz.f26) rfl _ _ b 63 _ (0,0) _ rfl (setRow_heap _ _ _ _ _ _ zf.out) Zs rfl Yo) rfl ⟨rfl,H2.out _⟩
end
end
section
open Go Go.RowKit Go.Deep
section
variable {H:Type} {enc:ZT × Zo→H} {w:Zc} {base:Nat} {held:Bool}
theorem open_S25 {r:Reach}{b0:Nat}{v:Zo}{d:DataW H}{p:List MemPlace}(hv:Value.okWide Zb w r b0 25 v)(h:DataW.Trod enc Zb w base (fun _=>true) held 25 v d p) : ∃(a:Option Addr) (len cap:Nat),v= .slice a len cap∧iH w a len cap:=
 open_lstR Tryz.underlying25 Yi Oq.row_len Xh (fun n cs x h _=>Zda h) hv h
end
theorem yb {c:Nat→Int}(f:Wj c)(h:P6 c=0)(h0:c 0≤100) :N8 c 0 cW []:=by
 have hc:=Bu f h;have h8:=f 8 Ze;have h8':c 8≤18446744073709551615:=by
  simp [Lit.wf,qV,go_sem] at h8;exact h8.2
 exact ⟨hc,h8',h0,inv0 hc,ZfW,fun p hp=>by simp [cW] at hp⟩
theorem Lb {w:Zc}{base k n:Nat}{e:ZT}{x:Sv}{xs:List Zo}(h:w.ownsRow base e k x.v n xs) :x.n=n:=by
 rcases h.2 with ⟨h1,h2⟩ | ⟨g,cp,cur,h1,_⟩
 ·injection h1 with _ h3 _; omega
 ·injection h1
theorem jL (s:Sg)(ac u:Int)(v1 v2 v3 v4 v5 v6:Zo) :(Y7 s ac u v1 v2 v3 v4 v5 v6).size=15:=rfl
theorem zZ (s s':Sg)(ac ac' u u':Int)(v1 v2 v3 v4 v5 v6 v1' v2' v3' v4' v5' v6':Zo) :(Y7 s ac u v1 v2 v3 v4 v5 v6).size=(Y7 s' ac' u' v1' v2' v3' v4' v5' v6').size:=(jL ..).trans (jL ..).symm
theorem px {w:Zc}{s:Sg}{x1 x2 x3 x4 x5 x6 y1 y2 y3 y4 y5 y6:Sv}(hV:s.V.length≤4096)(hp:s.pd.length≤4096)(hF:s.F.length≤4096)(hW:s.W.length≤4096)(hm:s.mg.length≤4096)(ht:s.pt.length≤4096)
  (a1:w.ownsRow 0 63 7 x1.v s.V.length (XC s.V)) (a2:w.ownsRow 0 3 1 x2.v s.pd.length (s.pd.map (ZX .i64))) (a3:w.ownsRow 0 3 1 x3.v s.F.length (s.F.map (ZX .i64))) (a4:w.ownsRow 0 3 1 x4.v s.W.length (s.W.map (ZX .i64)))
  (a5:w.ownsRow 0 73 2 x5.v s.mg.length (Js s.mg)) (a6:w.ownsRow 0 75 2 x6.v s.pt.length (Jl s.pt))
  (b1:w.ownsRow 0 63 7 y1.v s.V.length (XC s.V)) (b2:w.ownsRow 0 3 1 y2.v s.pd.length (s.pd.map (ZX .i64))) (b3:w.ownsRow 0 3 1 y3.v s.F.length (s.F.map (ZX .i64))) (b4:w.ownsRow 0 3 1 y4.v s.W.length (s.W.map (ZX .i64)))
  (b5:w.ownsRow 0 73 2 y5.v s.mg.length (Js s.mg)) (b6:w.ownsRow 0 75 2 y6.v s.pt.length (Jl s.pt)) :
  EqS w x1.v y1.v x2.v y2.v x3.v y3.v x4.v y4.v x5.v y5.v x6.v y6.v:=by
 have I: ∀ {l:List Int} {x y:Sv},l.length≤4096→w.ownsRow 0 3 1 x.v l.length (l.map (ZX .i64))→w.ownsRow 0 3 1 y.v l.length (l.map (ZX .i64))→ ∀W,Zt w.heap.size w W→Zi Zb 49 #[x.v,y.v] W fun e w'=>e= .returned (.bool true)∧Zt W.heap.size W w':=fun {l x y} hl hx hy W hb=>by
  obtain ⟨xa,xc,ex,_,_,_,wG⟩:=VK (S:=fun _=>False) hx fun _ _ h=>h
  obtain ⟨ya,yc,ey,_,_,_,hy2⟩:=VK (S:=fun _=>False) hy fun _ _ h=>h
  rw [ex,ey];exact (eM (wG.below hb) (hy2.below hb) rfl Ze).mono fun e w' ⟨he,m,hw⟩=>⟨he,hw▸below_drewN (Zr _ _) m⟩
 have eV1:=Lb a1;have eV2:=Lb b1;have eM1:=Lb a5;have eM2:=Lb b5;have eT1:=Lb a6;have eT2:=Lb b6;refine ⟨fun W hb=>?_,I hp a2 b2,I hF a3 b3,I hW a4 b4,fun W hb=>?_,fun W hb=>?_⟩
 ·have l1:=Vp (row:=Yd.row) (a:=x1.a) (cp:=x1.c) (n:=s.V.length) (fun _=>rfl) (by rw [←eV1]; exact eV1▸a1) rfl;have l2:=Vp (row:=Yd.row) (a:=y1.a) (cp:=y1.c) (n:=s.V.length) (fun _=>rfl) (by rw [←eV2]; exact eV2▸b1) rfl;exact (lz x1.a y1.a x1.n y1.n x1.c y1.c s.V s.V W _ _ (l1.below hb) (l2.below hb) eV1.symm eV2.symm Ze Ze).mono fun e w' ⟨he,hw⟩=>⟨by rw [he]; simp,hw⟩
 ·have l1:=Vp (row:=Jv) (a:=x5.a) (cp:=x5.c) (n:=s.mg.length) (fun _=>rfl) (by rw [←eM1]; exact eM1▸a5) rfl;have l2:=Vp (row:=Jv) (a:=y5.a) (cp:=y5.c) (n:=s.mg.length) (fun _=>rfl) (by rw [←eM2]; exact eM2▸b5) rfl;exact (lv x5.a y5.a x5.n y5.n x5.c y5.c s.mg s.mg W _ _ (l1.below hb) (l2.below hb) eM1.symm eM2.symm Ze Ze).mono fun e w' ⟨he,hw⟩=>⟨by rw [he]; simp,hw⟩
 ·have l1:=Vp (row:=Uj) (a:=x6.a) (cp:=x6.c) (n:=s.pt.length) Rq.row_len (by rw [←eT1]; exact eT1▸a6) rfl;have l2:=Vp (row:=Uj) (a:=y6.a) (cp:=y6.c) (n:=s.pt.length) Rq.row_len (by rw [←eT2]; exact eT2▸b6) rfl;exact (ly x6.a y6.a x6.n y6.n x6.c y6.c s.pt s.pt W _ _ (l1.below hb) (l2.below hb) eT1.symm eT2.symm Ze Ze).mono fun e w' ⟨he,hw⟩=>⟨by rw [he]; simp,hw⟩
section
variable {N:Nat} {w0:Ez} {w w' w1:Zc} {c:Nat→Int} {a:Pl} {q:Ql} {Z Z':Nat→Zc→(Nat→Prop)→Prop} {s s':Sg} {L L':List QO} {k:Nat}
theorem Eg.down (h:Eg N ⟨fun _=>False,w1⟩ w c a q Z s L) :Zt w1.heap.size w1 w:=by
 have k:=h.kept0;exact ⟨k.os,k.tape,k.output,k.size,fun i hi=>k.block i hi (fun h=>h)⟩
theorem Eg.kblk (h:Eg N ⟨fun _=>False,w1⟩ w c a q Z s L){b t:Nat}{cs:Array Zo}(hB:Zy w1 b t cs) :Zy w b t cs:=hB.below h.down hB.lt
theorem Sn (f:Wj c)(w:Zc) :Zi Zb 9 #[.agg (Zk c)] w fun e w'=> ∃v u,e= .returned (.tuple #[v,u])∧Zt w.heap.size w w':=by
 by_cases h:P6 c=0
 ·exact (ln w (Bu f h) h).mono fun e w' ⟨a,q,he,hz⟩=>⟨_,_,he,(hz M6).down⟩
 ·exact (iT w h).mono fun e w' ⟨he,hb⟩=>⟨_,_,he,hb⟩
structure Few (s:Sg)(L:List QO) :Prop where
 v:s.V.length≤100
 p:s.pd.length≤4096
 f:s.F.length≤4096
 w:s.W.length≤4096
 m:s.mg.length≤4096
 t:s.pt.length≤4096
 l:L.length≤100
theorem N8.few (h:N8 c k s L) :Few s L:=by
 have q1:=h.ge.q1;have i:=h.inv;have:=h.hund;have:=i.len;have:=i.pdl;have:=i.fl;have:=i.wl;have:=i.mgl;have:=i.ptl;refine ⟨by omega,by omega,by omega,by omega,by omega,by omega,?_⟩;rw [h.ring.len];have:gV s.V≤s.V.length:=List.countP_le_length;omega
theorem N8.snap (h:N8 c k s L)(hk:k≤1000000)(he:Eg N w0 w c a q Z s L) :Zi Zb 19 #[.pointer (some ⟨q.e,0,none⟩)] w fun e w'=> ∃x1 x2 x3 x4 x5 x6:Sv,e= .returned (.agg (Y7 s (ZY s.V) L.length x1.v x2.v x3.v x4.v x5.v x6.v))∧
      Eg (N+6) w0 w' c a q (xX Z N s x1.v x2.v x3.v x4.v x5.v x6.v) s L:=by
  have f:=h.few;exact ZeV he (h.inv.tm h.ge hk) (by have:=f.l; omega) f.p f.m f.t
theorem wZ (o:Oq)(h:(opO c s o).1.cd≠0) :(opO c s o).2=s∧VA c s L o=L∧(opO c s o).1.ix= -1∧(opO c s o).1.dl= -1∧(opO c s o).1.la=[]∧(opO c s o).1.lp=[]:=by
 obtain ⟨h1,h2⟩:=mn o h;refine ⟨h1,?_,by rw [h2]; rfl,by rw [h2]; rfl,by rw [h2]; rfl,by rw [h2]; rfl⟩;unfold VA
 by_cases h7:o.kd=7
 ·refine absurd ?_ h;unfold opO;rw [if_neg Ze,if_neg Ze,if_neg Ze,if_neg Ze,if_neg Ze,if_neg Ze,if_pos h7];rfl
 rw [if_neg h7]
 by_cases h4:o.kd=4∧WH c s o.ix=0
 ·refine absurd ?_ h;unfold opO;rw [if_neg Ze,if_neg Ze,if_neg Ze,if_pos h4.1];unfold Rj;rw [if_pos h4.2];rfl
 ·rw [if_neg h4]
end
end
section
open Go Go.RowKit Go.Deep
def o3:Oq:=⟨1,0,0,32⟩
def MU:Oq:=⟨7,0,0,0⟩
def lG:Oq:=⟨2,0,0,0⟩
def uV:List Oq:= [o3,MU,MU,MU,MU]
def alS:Sg:=DB Kx cW uV
def ZeG:Sg:=(opO Kx alS lG).2
def WR (k:Nat) :Sg:=DB Kx ZeG (ZF k MU)
theorem uW:((opO Kx alS lG).1.cd,(opO Kx alS lG).1.dl)=(0,8):=by kernel_rfl
theorem oB:((List.range 15).all fun k=>(opO Kx (WR k) MU).1.lp.length==0)=true:=by kernel_rfl
theorem uX:((opO Kx (WR 15) MU).1.ep,(opO Kx (WR 15) MU).1.bl,(opO Kx (WR 15) MU).1.lp)=(5,20,[⟨0,32,true⟩]):=by kernel_rfl
theorem ah (k:Nat) :WR (k+1)=(opO Kx (WR k) MU).2:=by
 unfold WR;rw [List.replicate_succ',(C4 Kx MU (ZF k MU) ZeG []).1]
theorem vr:GE Kx:=Bu Aa Sk
theorem vJ:Kg o3:=by unfold Kg; decide
theorem eO:Kg MU:=by unfold Kg; decide
theorem pD:Kg lG:=by unfold Kg; decide
theorem oA: ∀o ∈ uV,Kg o:=fun o ho=>by
 simp only [uV,List.mem_cons,List.not_mem_nil,or_false] at ho
 rcases ho with rfl | rfl | rfl | rfl | rfl
 ·exact vJ
 all_goals exact eO
theorem ZcJ: ∃i,Tryz.prog.info? 37=some i∧i.size=4∧i.zero=some (.agg (ZJ ⟨0,0,0,0⟩)):=by
 have h:(Tryz.prog.info? 37).map (fun i=>(i.size,i.zero))=some (4,some (.agg (ZJ ⟨0,0,0,0⟩))):=by kernel_rfl
 cases hi:Tryz.prog.info? 37 with
 | none=>rw [hi] at h; cases h
 | some i=>
  rw [hi] at h;simp at h;exact ⟨i,rfl,h.1,h.2⟩
theorem rX (d0 d1 d2 d3 d4:Oq)(w:Zc) :(Y1 25 5 #[(0,.agg (ZJ d0)),(1,.agg (ZJ d1)),(2,.agg (ZJ d2)),(3,.agg (ZJ d3)),(4,.agg (ZJ d4))]).run Zb w= .ok (.slice (some ⟨w.heap.size,0,none⟩) 5 5) (w.alloc (.cells (Yx Oq.row [d0,d1,d2,d3,d4]).toArray 37)):=by
 obtain ⟨i,hi,hs,hz⟩:=ZcJ;simp [Y1,run_underlying Tryz.underlying25,sizeOf,typeInfo,hi,hz,hs,Instr.fill,newRow,go_sem,ZJ,Oq.row,Yx]
theorem dt {ops:Array Oper}{rest:List Oper}{o:Oper}{a:Act}{w:Zc}{Q:Exit→Act→Zc→Prop}(BU:o.guard=none)(x0 x1 x2 x3 x4:YI)(d0 d1 d2 d3 d4:Oq)(ho:o.op= .buildSlice 25 5 #[(0,x0),(1,x1),(2,x2),(3,x3),(4,x4)])
  (h0:a.eval x0= .agg (ZJ d0)) (h1:a.eval x1= .agg (ZJ d1)) (h2:a.eval x2= .agg (ZJ d2)) (h3:a.eval x3= .agg (ZJ d3)) (h4:a.eval x4= .agg (ZJ d4))
  (K:YU Zb ops Q rest (a.put o.dst (.slice (some ⟨w.heap.size,0,none⟩) 5 5)) (w.alloc (.cells (Yx Oq.row [d0,d1,d2,d3,d4]).toArray 37))) :YU Zb ops Q (o::rest) a w:=
 wpList_plain BU fun _ hK=>by
  unfold Oper.wp execOp;simp only [ho,List.map_toArray,List.map_cons,List.map_nil,h0,h1,h2,h3,h4,Sem.run_bind,rX d0 d1 d2 d3 d4 w,ZW,Sem.run_pure];exact hK _ _ K
section
variable {N:Nat} {w0:Ez} {w:Zc} {c:Nat→Int} {a:Pl} {q:Ql} {Z:Nat→Zc→(Nat→Prop)→Prop} {s:Sg} {L:List QO}
theorem Eg.oplist (h:Eg N w0 w c a q Z s L)(l:List Oq) :Eg (N+1) w0 (w.alloc (.cells (Yx Oq.row l).toArray 37)) c a q (ZI Z N (Kh Oq.row 4 (some ⟨w.heap.size,0,none⟩) l)) s L:=by
 have hN:=h.low;have h1:=h.box (Yx Oq.row l).toArray 37;have h2:=h1.as (r:=N) hN Ze xput_same (Q':=Kh Oq.row 4 (some ⟨w.heap.size,0,none⟩) l) Lo fun S hS=>⟨fun h0=>⟨w.heap.size,0,rfl,fun hn=>hn ((hS.2 _).2 rfl),hS.1.lt,fun i v hi=>Te Oq.row_len (fun j u hu=>by
  rw [Nat.zero_add,hS.1.cell,YY]; exact hu) hi⟩,fun i hi=>by rw [(hS.2 i).1 hi]; exact hS.1.lt⟩
 rwa [Xg] at h2
end
end
section
open Go Go.RowKit Go.Deep
theorem vI (R:Rc)(W:Zc) :(Instr.field 42 (.agg (Zz R)) 7).run Zb W= .ok (.slice R.pa R.pn R.pc) W:=by kernel_rfl
theorem WL {ops:Array Oper}{rest:List Oper}{o:Oper}{a:Act}{w:Zc}{Q:Exit→Act→Zc→Prop}(hw:Xc o (yielded ops a.tmps)=true)(x:YI)(p:Pm)(ho:o.op= .buildSlice 40 1 #[(0,x)])(hx:a.eval x= .agg (XP p))
  (h:YU Zb ops Q rest (a.put o.dst (.slice (some ⟨w.heap.size,0,none⟩) 1 1)) (w.alloc (.cells (XP p) 61))) :YU Zb ops Q (o::rest) a w:=by
 unfold YU;rw [if_pos hw];exact .inl (sE x p ho hx h)
theorem Ch (w:Zc) :Zi Zb 11 #[] w fun e w'=>e= .returned (.bool true)∧Zt w.heap.size w w':=by
 have h0:N8 Kx 0 cW []:=yb Aa Sk Xh;have hS:=N8.ops uV h0 Xh oA;have HG:=Za vr;obtain ⟨sa,hsa⟩ : ∃sa,DB Kx cW uV=sa:=⟨_,rfl⟩;obtain ⟨La,hLa⟩ : ∃La,Bg Kx cW [] uV=La:=⟨_,rfl⟩;rw [hsa,hLa] at hS;have HS:=Za hS;have HR:Hid (∀wx (N:Nat) w0 a q Z al cl,Eg N w0 wx Kx a q Z cW []→RE N w0 Z al uV→Zi Zb 27 #[.pointer (some ⟨q.e,0,none⟩),.slice al 5 cl] wx fun e w'=> ∃g,e= .returned (.slice (some ⟨g,0,none⟩) 5 5)∧Eg (N+1) w0 w' Kx a q (ZI Z N (Wm g 5 (L5 Kx cW uV))) sa La):=Za fun wx N w0 a q Z al cl hx hs=>by
  have:=Ziy h0 Xh Xh oA hx hs cl;rw [hsa,hLa] at this;exact this
 obtain ⟨Rx,hRx⟩ : ∃Rx,(opO Kx sa lG).1=Rx:=⟨_,rfl⟩;have jr:=uW;rw [show opO Kx alS lG=opO Kx sa lG by rw [←hsa]; rfl,hRx] at jr;obtain ⟨L1,hL1⟩ : ∃L1,VA Kx sa La lG=L1:=⟨_,rfl⟩;have CM:(opO Kx sa lG).2=WR 0:=by rw [←hsa]; rfl
 have HX:Hid (∀wx (N:Nat) w0 a q Z,Eg N w0 wx Kx a q Z sa La→Zi Zb 16 #[.pointer (some ⟨q.e,0,none⟩),.agg (ZJ lG)] wx (nZ N w0 Kx a q Z (Rx,WR 0) L1)):=Za fun wx N w0 a q Z hx=>by
  have:=Ov hS Xh hx lG pD;rw [hL1,show opO Kx sa lG=(Rx,WR 0) from Prod.ext hRx CM] at this;exact this
 have Sz:N8 Kx 6 (WR 0) L1:=by
  have:=hS.op Xh lG pD;rwa [CM,hL1] at this
 have Ze5:Rx.cd=0∧Rx.dl=8:=by
  injection jr with a b;exact ⟨a,b⟩
 have HT:Hid (∀k,k < 20→ ∀L,N8 Kx (6+k) (WR k) L→ ∃R L',(∀wx (N:Nat) w0 a q Z,Eg N w0 wx Kx a q Z (WR k) L→Zi Zb 16 #[.pointer (some ⟨q.e,0,none⟩),.agg (ZJ MU)] wx (nZ N w0 Kx a q Z (R,WR (k+1)) L'))∧N8 Kx (6+(k+1)) (WR (k+1)) L'∧(k < 15→R.lp.length=0)∧(k=15→R.ep=5∧R.bl=20∧R.lp=[⟨0,32,true⟩])):=Za fun k hk L hs=>by
  have h2:=hs.op Ze MU eO;rw [←ah] at h2;refine ⟨(opO Kx (WR k) MU).1,_,fun wx N w0 a q Z hx=>?_,h2,fun hk=>?_,fun hk=>?_⟩
  ·have:=Ov hs Ze hx MU eO;rw [show opO Kx (WR k) MU=((opO Kx (WR k) MU).1,WR (k+1)) by rw [ah]] at this;exact this
  ·have:=List.all_eq_true.1 oB k (List.mem_range.2 hk);simpa using this
  ·subst hk;have:=uX;injection this with h1 h2;injection h2 with h2 h3;exact ⟨h1,h2,h3⟩
 have uK:=Za Ze5;have Mb:=Za Sz;clear h0 hS hsa hLa hRx jr hL1 CM Sz Ze5 HS;generalize WR=T at*;go_enter Tryz.func11,Tryz.ntmps11;go_wp2_with fail;refine (aI w).mono ?_;rintro e w1 ⟨rfl,EO⟩;have HB:=Za EO;clear EO;go_wp2_with fail;refine (ln w1 HG.out Sk).mono ?_;rintro e w2 ⟨a,q,rfl,h2⟩;have E2:=Za (h2 M6);clear h2;go_upto_region 5 with (first | (refine Zm rfl _ _ _ rfl w2.heap.size (ZJ MU) rfl rfl 37 _ (ZD w2 _) XV rfl (BD _) ?_; rw [Zu]));have E3:=Za (E2.out.box (ZJ MU) 37);try simp only [qA]
 clear E2;generalize w2.heap.size=b at*;generalize w2.alloc (.cells (ZJ MU) 37)=W3 at*;have WM:=Za (E3.out.blkAt (r:=11) Ze Ze xput_same);go_wp2_with (first | (refine Zn rfl 37 _ rfl b rfl 37 _ (0,0) _ WM.out ZS rfl XV ?_) | (refine dt rfl _ _ _ _ _ o3 MU MU MU MU rfl rfl rfl rfl rfl rfl ?_));have E4:=E3.out.oplist uV;refine (HR.out _ _ _ _ _ _ _ _ E4 (.inr ⟨12,by omega,by omega,xput_same⟩)).mono ?_;rintro e w5 ⟨g5,rfl,h5⟩;have E5:Hid (Eg 12 ⟨fun _=>False,w1⟩ w5 Kx a q (ZI M6 11 (YR b 37 (ZJ MU))) sa La):=Za (((h5.less Ze).less Ze).ext fun k h1 h2=>by rw [xput_ne Ze,xput_ne Ze]);clear h5 E4 HR E3 WM;have WM:=Za (E5.out.blkAt (r:=11) Ze Ze xput_same);go_wp2_with (first | (refine Zn rfl 37 _ rfl b rfl 37 _ (0,0) _ WM.out ZS rfl XV ?_));refine (HX.out _ _ _ _ _ _ E5.out).mono ?_;rintro e w6 ⟨ia,ca,ip,cp,rfl,h6⟩;have h6':Eg 12 ⟨fun _=>False,w1⟩ w6 Kx a q (ZI M6 11 (YR b 37 (ZJ MU))) (T 0) L1:=((h6.less Ze).less Ze).ext fun k h1 h2=>by unfold rowsX; rw [xput_ne Ze,xput_ne Ze]
 obtain ⟨R,hR⟩ : ∃R,AF (Rx,T 0).1 ia ca ip cp=R:=⟨_,rfl⟩;have hRc:R.cd=0∧R.dl=8:=by rw [←hR]; exact uK.out
 rw [hR];have hE7:=h6'.box (Zz R) 42;have E6:Hid (Eg 12 ⟨fun _=>False,w1⟩ (w6.alloc (.cells (Zz R) 42)) Kx a q (ZI M6 11 (YR b 37 (ZJ MU))) (T 0) L1):=Za (hE7.drop Ze);have y1:(w6.alloc (.cells (Zz R) 42)).cell? ⟨w6.heap.size,1,none⟩=some (.int .i64 0):=by rw [←hRc.1]; exact (Zw w6 42 (Zz R)).cell 1
 have y5:(w6.alloc (.cells (Zz R) 42)).cell? ⟨w6.heap.size,5,none⟩=some (.int .i64 8):=by rw [←hRc.2]; exact (Zw w6 42 (Zz R)).cell 5
 clear h6 h6' hR hRc hE7 E5 HX uK WM;go_upto_region 9 with (first | (refine Zm rfl _ _ _ rfl w6.heap.size (Zz R) rfl rfl 42 _ (ZD w6 _) YS rfl (YC _) ?_; rw [Zu]));generalize w6.alloc (.cells (Zz R) 42)=W6 at*;generalize w6.heap.size=z6 at*;clear y1 y5;go_wp2_with fail;go_loopw [37] (fun s37 wr=> ∃k:Nat,k≤15∧s37= .int .i64 k∧Hid (∃L,N8 Kx (6+k) (T k) L∧Eg 12 ⟨fun _=>False,w1⟩ wr Kx a q (ZI M6 11 (YR b 37 (ZJ MU))) (T k) L)) (fun s37 _=>15 -(XR s37).toNat)
 case atStart=>exact ⟨0,by omega,rfl,Za ⟨L1,Mb.out,E6.out⟩⟩
 case round=>
  obtain ⟨k,hk,rfl,HE⟩:=hrel;obtain ⟨L,Gm,hE⟩:=HE.out;obtain ⟨Rk,L',hA,ZfC,hlp,hla⟩:=HT.out k Ze L Gm;have HA:=Za (hA _ _ _ _ _ _ hE);have DU:=Za ZfC;have WM:=Za (hE.blkAt (r:=11) Ze Ze xput_same);have HLa:=Za hla;have HLp:=Za hlp;obtain ⟨T2,hT2⟩ : ∃T2,T (k+1)=T2:=⟨_,rfl⟩;rw [hT2] at HA DU;have HTe:=Za hT2;clear hT2;clear hA ZfC Gm hE HE E6 hla hlp HT
  by_cases XJ:k < 15
  ·have hlp:=HLp.out XJ;go_wp2_with (first | (refine Zn rfl 37 _ rfl b rfl 37 _ (0,0) _ WM.out ZS rfl XV ?_));refine HA.out.mono ?_;rintro e w8 ⟨ia,ca,ip,cp,rfl,h8⟩;obtain ⟨R8,hR8⟩ : ∃R8,AF (Rk,T2).1 ia ca ip cp=R8:=⟨_,rfl⟩;have Nv:R8.pn=0:=by rw [←hR8]; exact hlp
   rw [hR8];have H8:=Za h8;clear h8 HA hlp WM hR8;have H9:Hid (Eg 12 ⟨fun _=>False,w1⟩ w8 Kx a q (ZI M6 11 (YR b 37 (ZJ MU))) T2 L'):=Za (((H8.out.less Ze).less Ze).ext fun k h1 h2=>by unfold rowsX; rw [xput_ne Ze,xput_ne Ze]);clear H8;have hfd:=vI R8 w8;rw [Nv] at hfd;go_wp2_with fail;go_roundw
   case rel=>exact ⟨k+1,by omega,by go_num,Za ⟨L',by rw [HTe.out]; exact DU.out,by rw [HTe.out]; exact H9.out⟩⟩
   case measure=>exact Uz
  ·obtain rfl:k=15:=by omega
   obtain ⟨l1,l2,l3⟩:=HLa.out rfl;go_wp2_with (first | (refine Zn rfl 37 _ rfl b rfl 37 _ (0,0) _ WM.out ZS rfl XV ?_));refine HA.out.mono ?_;rintro e w8 ⟨ia,ca,ip,cp,rfl,h8⟩;have HP:=Za (show J6 QW 3 w8 _ ip [⟨0,32,true⟩] from Vp Pm.row_len (by have:=h8.row (r:=13) Ze Ze xput_same; simp only [l3] at this; exact this) rfl);obtain ⟨R8,hR8⟩ : ∃R8,AF (Rk,T2).1 ia ca ip cp=R8:=⟨_,rfl⟩;have H8:=Za h8.down;have y:R8.bl=20∧R8.ep=5∧R8.pa=ip∧R8.pn=1:=by rw [←hR8]; exact ⟨l2,l1,rfl,by show Rk.lp.length=1; rw [l3]; rfl⟩
   rw [hR8];clear h8 HA WM hR8 l1 l2 l3 HLa HLp DU;have y3:(w8.alloc (.cells (Zz R8) 42)).cell? ⟨w8.heap.size,3,none⟩=some (.int .i64 20):=by rw [←y.1]; exact (Zw w8 42 (Zz R8)).cell 3
   have y4:(w8.alloc (.cells (Zz R8) 42)).cell? ⟨w8.heap.size,4,none⟩=some (.int .i64 5):=by rw [←y.2.1]; exact (Zw w8 42 (Zz R8)).cell 4
   have y7:(w8.alloc (.cells (Zz R8) 42)).cell? ⟨w8.heap.size,7,none⟩=some (.slice ip 1 R8.pc):=by
    have:=(Zw w8 42 (Zz R8)).cell 7;rw [this];show some (Yr R8.pa R8.pn R8.pc)=_;rw [y.2.2.1,y.2.2.2]
   have HW:=Za (show Zt w8.heap.size w8 (w8.alloc (.cells (Zz R8) 42)) from (Zr _ _).alloc (Zg _) _);clear y;go_upto_region 15 with (first | (refine Zm rfl _ _ _ rfl w8.heap.size (Zz R8) rfl rfl 42 _ (ZD w8 _) YS rfl (YC _) ?_; rw [Zu]));generalize w8.alloc (.cells (Zz R8) 42)=W9 at*;go_wp2_with (first | (refine Ec (o:=⟨some 60,_,_,_,_,_⟩) (.agg (XP ⟨0,32,true⟩)) rfl Yi ?_) | (refine WL (o:=⟨some 61,_,_,_,_,_⟩) rfl _ ⟨0,32,true⟩ rfl rfl ?_));have HX:=Za (lx ip (some ⟨W9.heap.size,0,none⟩) 1 1 R8.pc 1 [⟨0,32,true⟩] [⟨0,32,true⟩] (W9.alloc (.cells (XP ⟨0,32,true⟩) 61)) _ (fun _=>False) (HP.out.below (HW.out.trans ((Zr W9.heap.size W9).alloc (Zg _) _ |>.mono HW.out.size))) (fun _=>⟨W9.heap.size,0,rfl,fun h=>h,by simp,fun i v hi=>by
    rcases i with _ | i
    ·simp at hi;subst hi;exact (Zw W9 _ _).rangePm
    ·simp at hi⟩) rfl rfl Ze Ze)
   refine HX.out.mono ?_;rintro e w10 ⟨rfl,hb10⟩;have H10:=Za hb10;have HZ:=Za (show W9.heap.size≤(W9.alloc (.cells (XP ⟨0,32,true⟩) 61)).heap.size by simp);have HV:=Za (show Zt W9.heap.size W9 (W9.alloc (.cells (XP ⟨0,32,true⟩) 61)) from (Zr _ _).alloc (Zg _) _);clear hb10 HX y3 y4 y7 HP;generalize W9.alloc (.cells (XP ⟨0,32,true⟩) 61)=W10 at*;go_wp2_with fail;go_ret;refine ⟨rfl,HB.out.trans ((H8.out.trans ((HW.out.trans ((HV.out.trans (H10.out.mono HZ.out)).mono HW.out.size)).mono H8.out.size)).mono HB.out.size)⟩
end
end Go.Proofs.YtianiiijaopdpaaGreat
