/- Part 28 of 29: Eqs Lw Equ Run Runs Law RSeq EgP Lvp Liv. -/
import Derived.Test.YtianiiijaopdpaaGreatZy00
import Derived.Test.YtianiiijaopdpaaGreatZy27
namespace Go.Proofs.YtianiiijaopdpaaGreat
set_option linter.unusedVariables false
set_option linter.unusedSimpArgs false
set_option maxRecDepth 100000
set_option maxHeartbeats 8000000
open _root_.Go.Act renaming put → Uh
open _root_.And renaming intro → Zh
open _root_.Go.Proofs.YtianiiijaopdpaaGreat.As renaming row → Qf
open _root_.Go.RowKit renaming Below → Zs, intOf → Qz
open _root_.Go.RowKit.Below renaming refl → Zp
open _root_.Go.Proofs.YtianiiijaopdpaaGreat.Blk renaming new → Zv
open _root_.Go renaming Calls → Zj, Operand → Yz, TypeId → ZN, Value → Zl, World → Zc, heap_alloc_new → ZG, wpList → YY, wpList_load_row → Zn, wpList_store_row → Zo, wpQuiet → ZW, wpQuiet_nil → Xx
open _root_.Go.Instr renaming buildSlice → Xc
open _root_.Go.Proofs.YtianiiijaopdpaaGreat.Kept renaming refl → ZH, setCells → QF
open _root_.Go.Lib renaming hid → Za
open _root_.List renaming cons_append → Yh, getElem?_append_left → Yn, getElem?_append_right → YF, getElem?_eq_getElem → Zf, getElem?_eq_none → Qg, getElem?_toArray → YL, length_append → ZE, length_map → YE, map_replicate → GF, mem_cons → ZY, mem_of_getElem? → ZB, not_mem_nil → Yf, replicate → Zy
open _root_.Nat renaming le_refl → Zg, lt_of_lt_of_le → Ya, lt_or_ge → Ys, zero_add → ZX, zero_le → XL
open _root_.Go.Proofs.YtianiiijaopdpaaGreat.Oq renaming row → Ud
open _root_.Go.Proofs.YtianiiijaopdpaaGreat.Pm renaming row → Jb
open _root_.Go.Proofs.YtianiiijaopdpaaGreat.Rc renaming row → Jc
open _root_.Go.Region renaming wanted → YQ
open _root_.Go.Result renaming andThen_ok → ZQ
open _root_.Go.Proofs.YtianiiijaopdpaaGreat.Rq renaming row → Us
open _root_.Go.Proofs.Tryz renaming prog → Zb, underlying37 → ZV, underlying42 → Yb, underlying61 → JN, underlying63 → Zr, underlying73 → XW, underlying75 → Z3
open _root_.Go.Value renaming int → ZR, ownBlock → Y4, slice → Yj
open _root_.Go.World renaming setRow_alloc_new → Zu
theorem Ro {G:Prop}(h:G:=by rintro rfl; omega) :G:=h
theorem Rn {G:Prop}(h:G:=by rw [hn]; exact e2) :G:=h
theorem Rl {G:Prop}(h:G:=by rw [E1.out]; exact XP) :G:=h
theorem Rj {G:Prop}(h:G:=by rw [E2.out]; exact XP) :G:=h
theorem Ej {G:Prop}(h:G:=by simpa using hd) :G:=h
theorem Zfq {G H:Prop} (k:H) (h:BZ H→G:=by
  intro zk;try simp only [Act.put]
  refine XB (fun w'=>Blk w' w.heap.size 42 (Zw x)∧Blk w' (w.heap.size+1) 42 (Zw y)∧Below w.heap.size w w') Ye Ye ⟨KX.out.drew,KY.out.drew,B0.out.drew⟩ ?_;exact zk.out) :G:=h ⟨k⟩
theorem xW {G:Prop} (h:G:=by
  obtain rfl:k=n1:=by omega
  have HE:Hid (decide (la=lb)=true):=Lib.hid (decide_eq_true (by
   have h:=HQ.out;rwa [List.take_of_length_le (by rw [E1.out]; exact Nat.le_refl _),List.take_of_length_le (by rw [E2.out]; exact Nat.le_refl _)] at h))
  clear XP;have XP: ¬k < k:=by omega
  go_wp2;go_ret;exact ⟨by rw [HE.out]; rfl,B1.out⟩) :G:=h
theorem ZfS {G:Prop} (h:G:=by
  refine Qe ?_;refine Qc ?_;intro w9 c9;have KX9:=Lib.hid c9.1;have KY9:=Lib.hid c9.2.1;have B9:=Lib.hid c9.2.2;clear c9;go_wp2_with (fail);go_roundw
  case rel=>exact ⟨k+1,by omega,by go_num,KX9,KY9,B9⟩
  case measure=>simp [intOf]; omega) :G:=h
theorem ju {G:Prop} (h:G:=by
  exact ⟨0,by omega,rfl,Lib.hid rfl,Lib.hid (Below.refl _ _)⟩) :G:=h
theorem Pv {G:Prop} (h:G:=by
  go_wp2_with fail;go_ret;exact ⟨by rw [HR.out]; rfl,H2.out⟩) :G:=h
theorem jv {G:Prop} (h:G:=by
  go_wp2;go_ret;exact ⟨by rw [HE.out]; rfl,Below.refl _ _⟩) :G:=h
theorem sg {G:Prop} (h:G:=by
  exact Nat.lt_of_lt_of_le (F.lt _ Ze i hi) hk.size) :G:=h
theorem sh {G:Prop} (h:G:=by
  exact F.ap _ l Ze Ze Ze i hi UR) :G:=h
theorem si {G:Prop} (h:G:=by
  exact F.ap j _ Ze Ze Ze i hi UR) :G:=h
theorem sw {G:Prop} (h:G:=by
  have h:=KX.out.cell 6;rw [HXE.out] at h;exact h) :G:=h
theorem sx {G:Prop} (h:G:=by
  have h:=KY.out.cell 6;rw [HYE.out] at h;exact h) :G:=h
theorem jy {G:Prop} (h:G:=by
  have h:=KX.out.cell 7;rw [HXE.out] at h;exact h) :G:=h
theorem jz {G:Prop} (h:G:=by
  have h:=KY.out.cell 7;rw [HYE.out] at h;exact h) :G:=h
theorem AM {G:Prop} (h:G:=by
  split
  ·exact ha _ _ _
  ·exact hr _ _) :G:=h
theorem TM {G:Prop} (h:G:=by
  rw [HXE.out] at h;exact h) :G:=h
theorem TN {G:Prop} (h:G:=by
  rw [HYE.out] at h;exact h) :G:=h
section
open Go Go.ChangeShapes Go.WideShapes Go.RowKit Go.Deep
theorem ZaC (x y:Int × Int)(w:Zc) :(Op.equalIn 10000 73 (.agg (cellsP x)) (.agg (cellsP y))).run Zb w= .ok (decide (x=y)) w:=by
 obtain ⟨i,hi⟩:=zc;rw [run_equalIn_array w 9999 (cellsP x) (cellsP y) XW hi,show Tryz.prog.cellsOf 3=1 by kernel_rfl];exact zT9
theorem dU {a:Act}{dst:Option Tmp}{yt ty:ZN}{x y:Yz}{pos:String}{after:Array Edge}{guard:Option (Nat × Bool)}{w:Zc}{p q:Int × Int}{r:Bool}(hx:a.eval x= .agg (cellsP p))(hy:a.eval y= .agg (cellsP q))(hr:(!decide (p=q))=r) :
  (execOp a.eval { dst,op:= .binOp .neq 73 x y yt,type:=ty,pos,after,guard}).run Zb w= .ok (.value (.bool r)) w:=by
 simp only [execOp,hx,hy,Sem.run_bind,run_eqGuard_agg w .neq _ x y _ _ (show Tryz.prog.eqGuardType Tryz.prog.depth 73=false by kernel_rfl),ZQ,run_neq_struct,ZaC p q w,Sem.run_pure,hr]
theorem iR {C:Zc→Prop}{Qa:Act→Prop}{ops:Array Oper}{rest:List Oper}{a:Act}{dst:Option Tmp}{yt ty:ZN}{x y:Yz}{pos:String}{after:Array Edge}{guard:Option (Nat × Bool)}(p q:Int × Int)(r:Bool)(hw:YQ { dst,op:= .binOp .neq 73 x y yt,type:=ty,pos,after,guard} (yielded ops a.tmps)=true)(hx:a.eval x= .agg (cellsP p))(hy:a.eval y= .agg (cellsP q))(hr:(!decide (p=q))=r)
  (h:ZW Zb ops C Qa rest (a.put dst (.bool r))) :ZW Zb ops C Qa ({ dst,op:= .binOp .neq 73 x y yt,type:=ty,pos,after,guard}::rest) a:=
 Gm (.bool r) hw (fun w=>dU hx hy hr) h
theorem ky (a1 a2:Option Addr)(n1 n2 c1 c2:Nat)(la lb:List (Yd))(w:Zc)(S1 S2:Nat→Prop)(h1:Kc Yd.row 7 w S1 a1 la)(h2:Kc Yd.row 7 w S2 a2 lb)(e1:la.length=n1)(e2:lb.length=n2)(b1:n1≤9223372036854775807)(b2:n2≤9223372036854775807) :
  Zj Zb 64 #[.slice a1 n1 c1,.slice a2 n2 c2] w fun e w'=>e= .returned (.bool (decide (la=lb)))∧Zs w.heap.size w w':=by
 have H1:=Za h1;have H2:=Za h2
 by_cases hn:n1=n2
 ·have E1:=Za e1;have E2:Hid (lb.length=n1):=Za Rn;obtain rfl:n1=n2:=hn;clear e1 e2 h1 h2 b2;go_enter Tryz.func64,Tryz.ntmps64;go_wp2;go_loopw [13] (fun i wr=> ∃k:Nat,k≤n1∧i= .int .i64 k∧Hid (la.take k=lb.take k)∧Hid (Zs w.heap.size w wr)) (fun i _=>n1 -(Qz i).toNat)
  case atStart=>exact ju
  case round=>
   obtain ⟨k,hk,rfl,HQ,B1⟩:=hrel
   by_cases XP:k < n1
   ·obtain ⟨x,hx⟩ : ∃x,la[k]?=some x:=⟨_,Zf Rl⟩;obtain ⟨y,hy⟩ : ∃y,lb[k]?=some y:=⟨_,Zf Rj⟩;obtain ⟨g1,o1,rfl,_,l1,r1⟩:=H1.out.at hx;obtain ⟨g2,o2,rfl,_,l2,r2⟩:=H2.out.at hy;have R1:=Za (Zh r1 l1);have R2:=Za (Zh r2 l2);have HX:=Za (Zh hx hy);have HQ2:=Za (P2 hx hy HQ.out);clear r1 r2 l1 l2 hx hy;have mR:(0:Int)≤(k:Int):=by omega
    have DX:(k:Int)< (n1:Int):=by omega
    cases hd:(!decide (x=y)) with
    | true=>
     have It:Hid (decide (la=lb)=false):=Za (decide_eq_false (Nx HX.out.1 HX.out.2 Ej));have HD:=Za hd;clear hd;go_wp2_with (fail);try simp only [Uh]
     refine XB (fun w'=>Zs w.heap.size w w') Ye Ye B1.out.drew ?_;iterate 3 (go_big_quiet_step ((intros; rfl)))
     refine JQ 63 _ g1 (o1+k*7) x _ rfl rfl rfl (fun w' h=>Y6 R1.out.1 R1.out.2 h) Zr rfl Ym ?_;simp only [qB];iterate 3 (go_big_quiet_step ((intros; rfl)))
     refine JQ 63 _ g2 (o2+k*7) y _ rfl rfl rfl (fun w' h=>Y6 R2.out.1 R2.out.2 h) Zr rfl Ym ?_;simp only [qB];refine zh x y true rfl rfl rfl HD.out ?_;simp only [qB];refine Xx ?_;intro w9 b9;go_wp2_with (fail);go_ret;exact ⟨by rw [It.out]; rfl,b9⟩
    | false=>
     have HD:=Za hd;have HE:Hid (la.take (k+1)=lb.take (k+1)):=Za (HQ2.out.2 Ej);clear hd;go_wp2_with (fail);try simp only [Uh]
     refine XB (fun w'=>Zs w.heap.size w w') Ye Ye B1.out.drew ?_;iterate 3 (go_big_quiet_step ((intros; rfl)))
     refine JQ 63 _ g1 (o1+k*7) x _ rfl rfl rfl (fun w' h=>Y6 R1.out.1 R1.out.2 h) Zr rfl Ym ?_;simp only [qB];iterate 3 (go_big_quiet_step ((intros; rfl)))
     refine JQ 63 _ g2 (o2+k*7) y _ rfl rfl rfl (fun w' h=>Y6 R2.out.1 R2.out.2 h) Zr rfl Ym ?_;simp only [qB];refine zh x y false rfl rfl rfl HD.out ?_;simp only [qB];refine Xx ?_;intro w9 b9;have B9:=Za b9;clear b9;go_wp2_with (fail);go_roundw
     case rel=>exact ⟨k+1,by omega,by go_num,HE,B9⟩
     case measure=>simp [Qz]; omega
   ·exact xW
 ·have HE:Hid (decide (la=lb)=false):=Za (decide_eq_false Ro);have hb:((n1:Int)==n2)=false:=by simp; omega
  clear hn e1 e2 h1 h2;go_enter Tryz.func64,Tryz.ntmps64;exact jv
theorem kt (a1 a2:Option Addr)(n1 n2 c1 c2:Nat)(la lb:List (Int × Int))(w:Zc)(S1 S2:Nat→Prop)(h1:Kc JE 2 w S1 a1 la)(h2:Kc JE 2 w S2 a2 lb)(e1:la.length=n1)(e2:lb.length=n2)(b1:n1≤9223372036854775807)(b2:n2≤9223372036854775807) :
  Zj Zb 50 #[.slice a1 n1 c1,.slice a2 n2 c2] w fun e w'=>e= .returned (.bool (decide (la=lb)))∧Zs w.heap.size w w':=by
 have H1:=Za h1;have H2:=Za h2
 by_cases hn:n1=n2
 ·have E1:=Za e1;have E2:Hid (lb.length=n1):=Za Rn;obtain rfl:n1=n2:=hn;clear e1 e2 h1 h2 b2;go_enter Tryz.func50,Tryz.ntmps50;go_wp2;go_loopw [13] (fun i wr=> ∃k:Nat,k≤n1∧i= .int .i64 k∧Hid (la.take k=lb.take k)∧Hid (Zs w.heap.size w wr)) (fun i _=>n1 -(Qz i).toNat)
  case atStart=>exact ju
  case round=>
   obtain ⟨k,hk,rfl,HQ,B1⟩:=hrel
   by_cases XP:k < n1
   ·obtain ⟨x,hx⟩ : ∃x,la[k]?=some x:=⟨_,Zf Rl⟩;obtain ⟨y,hy⟩ : ∃y,lb[k]?=some y:=⟨_,Zf Rj⟩;obtain ⟨g1,o1,rfl,_,l1,r1⟩:=H1.out.at hx;obtain ⟨g2,o2,rfl,_,l2,r2⟩:=H2.out.at hy;have R1:=Za (Zh r1 l1);have R2:=Za (Zh r2 l2);have HX:=Za (Zh hx hy);have HQ2:=Za (P2 hx hy HQ.out);clear r1 r2 l1 l2 hx hy;have mR:(0:Int)≤(k:Int):=by omega
    have DX:(k:Int)< (n1:Int):=by omega
    cases hd:(!decide (x=y)) with
    | true=>
     have It:Hid (decide (la=lb)=false):=Za (decide_eq_false (Nx HX.out.1 HX.out.2 Ej));have HD:=Za hd;clear hd;go_wp2_with (fail);try simp only [Uh]
     refine XB (fun w'=>Zs w.heap.size w w') Ye Ye B1.out.drew ?_;iterate 3 (go_big_quiet_step ((intros; rfl)))
     refine BH 73 _ g1 (o1+k*2) x _ rfl rfl rfl (fun w' h=>Y6 R1.out.1 R1.out.2 h) XW rfl Bf ?_;simp only [qB];iterate 3 (go_big_quiet_step ((intros; rfl)))
     refine BH 73 _ g2 (o2+k*2) y _ rfl rfl rfl (fun w' h=>Y6 R2.out.1 R2.out.2 h) XW rfl Bf ?_;simp only [qB];refine iR x y true rfl rfl rfl HD.out ?_;simp only [qB];refine Xx ?_;intro w9 b9;go_wp2_with (fail);go_ret;exact ⟨by rw [It.out]; rfl,b9⟩
    | false=>
     have HD:=Za hd;have HE:Hid (la.take (k+1)=lb.take (k+1)):=Za (HQ2.out.2 Ej);clear hd;go_wp2_with (fail);try simp only [Uh]
     refine XB (fun w'=>Zs w.heap.size w w') Ye Ye B1.out.drew ?_;iterate 3 (go_big_quiet_step ((intros; rfl)))
     refine BH 73 _ g1 (o1+k*2) x _ rfl rfl rfl (fun w' h=>Y6 R1.out.1 R1.out.2 h) XW rfl Bf ?_;simp only [qB];iterate 3 (go_big_quiet_step ((intros; rfl)))
     refine BH 73 _ g2 (o2+k*2) y _ rfl rfl rfl (fun w' h=>Y6 R2.out.1 R2.out.2 h) XW rfl Bf ?_;simp only [qB];refine iR x y false rfl rfl rfl HD.out ?_;simp only [qB];refine Xx ?_;intro w9 b9;have B9:=Za b9;clear b9;go_wp2_with (fail);go_roundw
     case rel=>exact ⟨k+1,by omega,by go_num,HE,B9⟩
     case measure=>simp [Qz]; omega
   ·exact xW
 ·have HE:Hid (decide (la=lb)=false):=Za (decide_eq_false Ro);have hb:((n1:Int)==n2)=false:=by simp; omega
  clear hn e1 e2 h1 h2;go_enter Tryz.func50,Tryz.ntmps50;exact jv
theorem kx (a1 a2:Option Addr)(n1 n2 c1 c2:Nat)(la lb:List (Rq))(w:Zc)(S1 S2:Nat→Prop)(h1:Kc Us 2 w S1 a1 la)(h2:Kc Us 2 w S2 a2 lb)(e1:la.length=n1)(e2:lb.length=n2)(b1:n1≤9223372036854775807)(b2:n2≤9223372036854775807) :
  Zj Zb 65 #[.slice a1 n1 c1,.slice a2 n2 c2] w fun e w'=>e= .returned (.bool (decide (la=lb)))∧Zs w.heap.size w w':=by
 have H1:=Za h1;have H2:=Za h2
 by_cases hn:n1=n2
 ·have E1:=Za e1;have E2:Hid (lb.length=n1):=Za Rn;obtain rfl:n1=n2:=hn;clear e1 e2 h1 h2 b2;go_enter Tryz.func65,Tryz.ntmps65;go_wp2;go_loopw [13] (fun i wr=> ∃k:Nat,k≤n1∧i= .int .i64 k∧Hid (la.take k=lb.take k)∧Hid (Zs w.heap.size w wr)) (fun i _=>n1 -(Qz i).toNat)
  case atStart=>exact ju
  case round=>
   obtain ⟨k,hk,rfl,HQ,B1⟩:=hrel
   by_cases XP:k < n1
   ·obtain ⟨x,hx⟩ : ∃x,la[k]?=some x:=⟨_,Zf Rl⟩;obtain ⟨y,hy⟩ : ∃y,lb[k]?=some y:=⟨_,Zf Rj⟩;obtain ⟨g1,o1,rfl,_,l1,r1⟩:=H1.out.at hx;obtain ⟨g2,o2,rfl,_,l2,r2⟩:=H2.out.at hy;have R1:=Za (Zh r1 l1);have R2:=Za (Zh r2 l2);have HX:=Za (Zh hx hy);have HQ2:=Za (P2 hx hy HQ.out);clear r1 r2 l1 l2 hx hy;have mR:(0:Int)≤(k:Int):=by omega
    have DX:(k:Int)< (n1:Int):=by omega
    cases hd:(!decide (x=y)) with
    | true=>
     have It:Hid (decide (la=lb)=false):=Za (decide_eq_false (Nx HX.out.1 HX.out.2 Ej));have HD:=Za hd;clear hd;go_wp2_with (fail);try simp only [Uh]
     refine XB (fun w'=>Zs w.heap.size w w') Ye Ye B1.out.drew ?_;iterate 3 (go_big_quiet_step ((intros; rfl)))
     refine LP 75 _ g1 (o1+k*2) x _ rfl rfl rfl (fun w' h=>Y6 R1.out.1 R1.out.2 h) Z3 rfl Qy ?_;simp only [qB];iterate 3 (go_big_quiet_step ((intros; rfl)))
     refine LP 75 _ g2 (o2+k*2) y _ rfl rfl rfl (fun w' h=>Y6 R2.out.1 R2.out.2 h) Z3 rfl Qy ?_;simp only [qB];refine qN x y true rfl rfl rfl HD.out ?_;simp only [qB];refine Xx ?_;intro w9 b9;go_wp2_with (fail);go_ret;exact ⟨by rw [It.out]; rfl,b9⟩
    | false=>
     have HD:=Za hd;have HE:Hid (la.take (k+1)=lb.take (k+1)):=Za (HQ2.out.2 Ej);clear hd;go_wp2_with (fail);try simp only [Uh]
     refine XB (fun w'=>Zs w.heap.size w w') Ye Ye B1.out.drew ?_;iterate 3 (go_big_quiet_step ((intros; rfl)))
     refine LP 75 _ g1 (o1+k*2) x _ rfl rfl rfl (fun w' h=>Y6 R1.out.1 R1.out.2 h) Z3 rfl Qy ?_;simp only [qB];iterate 3 (go_big_quiet_step ((intros; rfl)))
     refine LP 75 _ g2 (o2+k*2) y _ rfl rfl rfl (fun w' h=>Y6 R2.out.1 R2.out.2 h) Z3 rfl Qy ?_;simp only [qB];refine qN x y false rfl rfl rfl HD.out ?_;simp only [qB];refine Xx ?_;intro w9 b9;have B9:=Za b9;clear b9;go_wp2_with (fail);go_roundw
     case rel=>exact ⟨k+1,by omega,by go_num,HE,B9⟩
     case measure=>simp [Qz]; omega
   ·exact xW
 ·have HE:Hid (decide (la=lb)=false):=Za (decide_eq_false Ro);have hb:((n1:Int)==n2)=false:=by simp; omega
  clear hn e1 e2 h1 h2;go_enter Tryz.func65,Tryz.ntmps65;exact jv
theorem kv (a1 a2:Option Addr)(n1 n2 c1 c2:Nat)(la lb:List (Pm))(w:Zc)(S1 S2:Nat→Prop)(h1:Kc Jb 3 w S1 a1 la)(h2:Kc Jb 3 w S2 a2 lb)(e1:la.length=n1)(e2:lb.length=n2)(b1:n1≤9223372036854775807)(b2:n2≤9223372036854775807) :
  Zj Zb 36 #[.slice a1 n1 c1,.slice a2 n2 c2] w fun e w'=>e= .returned (.bool (decide (la=lb)))∧Zs w.heap.size w w':=by
 have H1:=Za h1;have H2:=Za h2
 by_cases hn:n1=n2
 ·have E1:=Za e1;have E2:Hid (lb.length=n1):=Za Rn;obtain rfl:n1=n2:=hn;clear e1 e2 h1 h2 b2;go_enter Tryz.func36,Tryz.ntmps36;go_wp2;go_loopw [13] (fun i wr=> ∃k:Nat,k≤n1∧i= .int .i64 k∧Hid (la.take k=lb.take k)∧Hid (Zs w.heap.size w wr)) (fun i _=>n1 -(Qz i).toNat)
  case atStart=>exact ju
  case round=>
   obtain ⟨k,hk,rfl,HQ,B1⟩:=hrel
   by_cases XP:k < n1
   ·obtain ⟨x,hx⟩ : ∃x,la[k]?=some x:=⟨_,Zf Rl⟩;obtain ⟨y,hy⟩ : ∃y,lb[k]?=some y:=⟨_,Zf Rj⟩;obtain ⟨g1,o1,rfl,_,l1,r1⟩:=H1.out.at hx;obtain ⟨g2,o2,rfl,_,l2,r2⟩:=H2.out.at hy;have R1:=Za (Zh r1 l1);have R2:=Za (Zh r2 l2);have HX:=Za (Zh hx hy);have HQ2:=Za (P2 hx hy HQ.out);clear r1 r2 l1 l2 hx hy;have mR:(0:Int)≤(k:Int):=by omega
    have DX:(k:Int)< (n1:Int):=by omega
    cases hd:(!decide (x=y)) with
    | true=>
     have It:Hid (decide (la=lb)=false):=Za (decide_eq_false (Nx HX.out.1 HX.out.2 Ej));have HD:=Za hd;clear hd;go_wp2_with (fail);try simp only [Uh]
     refine XB (fun w'=>Zs w.heap.size w w') Ye Ye B1.out.drew ?_;iterate 3 (go_big_quiet_step ((intros; rfl)))
     refine Dk 61 _ g1 (o1+k*3) x _ rfl rfl rfl (fun w' h=>Y6 R1.out.1 R1.out.2 h) JN rfl On ?_;simp only [qB];iterate 3 (go_big_quiet_step ((intros; rfl)))
     refine Dk 61 _ g2 (o2+k*3) y _ rfl rfl rfl (fun w' h=>Y6 R2.out.1 R2.out.2 h) JN rfl On ?_;simp only [qB];refine fv x y true rfl rfl rfl HD.out ?_;simp only [qB];refine Xx ?_;intro w9 b9;go_wp2_with (fail);go_ret;exact ⟨by rw [It.out]; rfl,b9⟩
    | false=>
     have HD:=Za hd;have HE:Hid (la.take (k+1)=lb.take (k+1)):=Za (HQ2.out.2 Ej);clear hd;go_wp2_with (fail);try simp only [Uh]
     refine XB (fun w'=>Zs w.heap.size w w') Ye Ye B1.out.drew ?_;iterate 3 (go_big_quiet_step ((intros; rfl)))
     refine Dk 61 _ g1 (o1+k*3) x _ rfl rfl rfl (fun w' h=>Y6 R1.out.1 R1.out.2 h) JN rfl On ?_;simp only [qB];iterate 3 (go_big_quiet_step ((intros; rfl)))
     refine Dk 61 _ g2 (o2+k*3) y _ rfl rfl rfl (fun w' h=>Y6 R2.out.1 R2.out.2 h) JN rfl On ?_;simp only [qB];refine fv x y false rfl rfl rfl HD.out ?_;simp only [qB];refine Xx ?_;intro w9 b9;have B9:=Za b9;clear b9;go_wp2_with (fail);go_roundw
     case rel=>exact ⟨k+1,by omega,by go_num,HE,B9⟩
     case measure=>simp [Qz]; omega
   ·exact xW
 ·have HE:Hid (decide (la=lb)=false):=Za (decide_eq_false Ro);have hb:((n1:Int)==n2)=false:=by simp; omega
  clear hn e1 e2 h1 h2;go_enter Tryz.func36,Tryz.ntmps36;exact jv
end
section
open Go Go.RowKit Go.Deep
def Ru (c:Nat→Int)(n:Nat) :Prop:=RU c=0∧c 0≤100∧c 14≤200∧c 15≤200∧c 17≤200∧c 1≤200∧n≤400
instance (c:Nat→Int) (n:Nat) :Decidable (Ru c n):=by unfold Ru; infer_instance
def T9 (c:Nat→Int)(n:Nat) :Int:=if Ru c n then 1 else 0
theorem DZ (c:Nat→Int)(a:Option Addr)(n cp:Nat)(w:Zc) :
  Zj Zb 13 #[.agg (Zk c),.slice a n cp] w fun e w'=>e= .returned (.int .i64 (T9 c n))∧Zs w.heap.size w w':=by
 have B0:Blk (w.alloc (.cells (Zk c) 24)) w.heap.size 24 (Zk c):=Zv _ _ _;have b1:Zs w.heap.size w (w.alloc (.cells (Zk c) 24)):=(Zp _ _).alloc (Zg _) _;have H:=Za (fun W=>CR c W);have HF:Hid (∀k:Int,RU c=k→(k≠0∨100 < c 0∨200 < c 14∨200 < c 15∨200 < c 17∨200 < c 1∨400 < n→T9 c n=0)∧(k=0→c 0≤100→c 14≤200→c 15≤200→c 17≤200→c 1≤200→n≤400→T9 c n=1)):=Za fun k hk=>by
  subst hk;unfold T9 Ru;exact ⟨fun h=>if_neg Ze,fun h0 h1 h2 h3 h4 h5 h6=>if_pos ⟨h0,h1,h2,h3,h4,h5,h6⟩⟩
 obtain ⟨k,hk⟩ : ∃k,RU c=k:=⟨_,rfl⟩;have AT:=Za (HF.out k hk);rw [hk] at H;clear hk HF;obtain ⟨r,hr⟩ : ∃r,T9 c n=r:=⟨_,rfl⟩;rw [hr] at AT ⊢;clear hr;go_enter Tryz.func13,Tryz.ntmps13;go_upto_region 1 with (fail);have HB:=Za B0;have Hb:=Za b1;clear B0 b1;generalize w.alloc (.cells (Zk c) 24)=W at*;go_wp2_with (first | (refine Zn rfl 24 _ rfl w.heap.size rfl 24 _ (0,0) _ HB.out Tryz.underlying24 rfl XG ?_));refine (H.out W).mono ?_;rintro e w2 ⟨rfl,b2⟩;have UJ:=HB.out.below b2 HB.out.lt;have H2:=Za (Hb.out.trans (b2.mono Hb.out.size));clear Hb b2 HB H;have y0:w2.cell? ⟨w.heap.size,0,none⟩=some (.int .i64 (c 0)):=UJ.cell 0;have y1:w2.cell? ⟨w.heap.size,1,none⟩=some (.int .i64 (c 1)):=UJ.cell 1;have y14:w2.cell? ⟨w.heap.size,14,none⟩=some (.int .i64 (c 14)):=UJ.cell 14;have y15:w2.cell? ⟨w.heap.size,15,none⟩=some (.int .i64 (c 15)):=UJ.cell 15;have y17:w2.cell? ⟨w.heap.size,17,none⟩=some (.int .i64 (c 17)):=UJ.cell 17;clear UJ
 by_cases h0:k=0
 ·by_cases h1:c 0≤100
  ·by_cases h2:c 14≤200
   ·by_cases h3:c 15≤200
    ·by_cases h4:c 17≤200
     ·by_cases h5:c 1≤200
      ·by_cases h6:n≤400
       ·have hr:=AT.out.2 h0 h1 h2 h3 h4 h5 h6;subst h0;have d1: ¬100 < c 0:=by omega
        have d2: ¬200 < c 14:=by omega
        have d3: ¬200 < c 15:=by omega
        have d4: ¬200 < c 17:=by omega
        have d5: ¬200 < c 1:=by omega
        have d6: ¬(400:Int)< (n:Int):=by omega
        have HR:=Za hr;clear hr h1 h2 h3 h4 h5 h6 AT;exact Pv
       ·have HR:=Za (AT.out.1 Ze);subst h0;have d1: ¬100 < c 0:=by omega
        have d2: ¬200 < c 14:=by omega
        have d3: ¬200 < c 15:=by omega
        have d4: ¬200 < c 17:=by omega
        have d5: ¬200 < c 1:=by omega
        have d6:(400:Int)< (n:Int):=by omega
        clear h1 h2 h3 h4 h5 h6 AT;exact Pv
      ·have HR:=Za (AT.out.1 Ze);subst h0;have d1: ¬100 < c 0:=by omega
       have d2: ¬200 < c 14:=by omega
       have d3: ¬200 < c 15:=by omega
       have d4: ¬200 < c 17:=by omega
       have d5:200 < c 1:=by omega
       clear h1 h2 h3 h4 h5 AT;exact Pv
     ·have HR:=Za (AT.out.1 Ze);subst h0;have d1: ¬100 < c 0:=by omega
      have d2: ¬200 < c 14:=by omega
      have d3: ¬200 < c 15:=by omega
      have d4:200 < c 17:=by omega
      clear h1 h2 h3 h4 AT;exact Pv
    ·have HR:=Za (AT.out.1 Ze);subst h0;have d1: ¬100 < c 0:=by omega
     have d2: ¬200 < c 14:=by omega
     have d3:200 < c 15:=by omega
     clear h1 h2 h3 AT;exact Pv
   ·have HR:=Za (AT.out.1 Ze);subst h0;have d1: ¬100 < c 0:=by omega
    have d2:200 < c 14:=by omega
    clear h1 h2 AT;exact Pv
  ·have HR:=Za (AT.out.1 Ze);subst h0;have d1:100 < c 0:=by omega
   clear h1 AT;exact Pv
 ·have HR:=Za (AT.out.1 Ze);clear AT;exact Pv
end
section
open Go Go.RowKit Go.Deep
structure EqS (w:Zc)(x1 y1 x2 y2 x3 y3 x4 y4 x5 y5 x6 y6:Zl) :Prop where
 e1: ∀W,Zs w.heap.size w W→Zj Zb 64 #[x1,y1] W fun e w'=>e= .returned (.bool true)∧Zs W.heap.size W w'
 e2: ∀W,Zs w.heap.size w W→Zj Zb 49 #[x2,y2] W fun e w'=>e= .returned (.bool true)∧Zs W.heap.size W w'
 e3: ∀W,Zs w.heap.size w W→Zj Zb 49 #[x3,y3] W fun e w'=>e= .returned (.bool true)∧Zs W.heap.size W w'
 e4: ∀W,Zs w.heap.size w W→Zj Zb 49 #[x4,y4] W fun e w'=>e= .returned (.bool true)∧Zs W.heap.size W w'
 e5: ∀W,Zs w.heap.size w W→Zj Zb 50 #[x5,y5] W fun e w'=>e= .returned (.bool true)∧Zs W.heap.size W w'
 e6: ∀W,Zs w.heap.size w W→Zj Zb 65 #[x6,y6] W fun e w'=>e= .returned (.bool true)∧Zs W.heap.size W w'
theorem Wf (s:Sg)(ac u:Int)(ti tj tk tl tn tp:Option Addr)(tw tx tz tA tB tC tq tr ts tt tu tv:Nat)(xC xD xE xF xG xH:Option Addr)(xO xP xQ xR xS xT xI xJ xK xL xM xN:Nat)(w:Zc)(h:EqS w (.slice ti tw tq) (.slice xC xO xI) (.slice tj tx tr) (.slice xD xP xJ) (.slice tk tz ts) (.slice xE xQ xK) (.slice tl tA tt) (.slice xF xR xL) (.slice tn tB tu) (.slice xG xS xM) (.slice tp tC tv) (.slice xH xT xN)) :
  Zj Zb 20 #[.agg (J9 s ac u (.slice ti tw tq) (.slice tj tx tr) (.slice tk tz ts) (.slice tl tA tt) (.slice tn tB tu) (.slice tp tC tv)),.agg (J9 s ac u (.slice xC xO xI) (.slice xD xP xJ) (.slice xE xQ xK) (.slice xF xR xL) (.slice xG xS xM) (.slice xH xT xN))] w fun e w'=>e= .returned (.bool true)∧Zs w.heap.size w w':=by
 have B1:Blk ((w.alloc (.cells (J9 s ac u (.slice ti tw tq) (.slice tj tx tr) (.slice tk tz ts) (.slice tl tA tt) (.slice tn tB tu) (.slice tp tC tv)) 51)).alloc (.cells (J9 s ac u (.slice xC xO xI) (.slice xD xP xJ) (.slice xE xQ xK) (.slice xF xR xL) (.slice xG xS xM) (.slice xH xT xN)) 51)) w.heap.size 51 (J9 s ac u (.slice ti tw tq) (.slice tj tx tr) (.slice tk tz ts) (.slice tl tA tt) (.slice tn tB tu) (.slice tp tC tv)):=(Zv w _ _).alloc _;have B2:Blk ((w.alloc (.cells (J9 s ac u (.slice ti tw tq) (.slice tj tx tr) (.slice tk tz ts) (.slice tl tA tt) (.slice tn tB tu) (.slice tp tC tv)) 51)).alloc (.cells (J9 s ac u (.slice xC xO xI) (.slice xD xP xJ) (.slice xE xQ xK) (.slice xF xR xL) (.slice xG xS xM) (.slice xH xT xN)) 51)) (w.heap.size+1) 51 (J9 s ac u (.slice xC xO xI) (.slice xD xP xJ) (.slice xE xQ xK) (.slice xF xR xL) (.slice xG xS xM) (.slice xH xT xN)):=by
  have:=Zv (w.alloc (.cells (J9 s ac u (.slice ti tw tq) (.slice tj tx tr) (.slice tk tz ts) (.slice tl tA tt) (.slice tn tB tu) (.slice tp tC tv)) 51)) 51 (J9 s ac u (.slice xC xO xI) (.slice xD xP xJ) (.slice xE xQ xK) (.slice xF xR xL) (.slice xG xS xM) (.slice xH xT xN));rwa [show (w.alloc (.cells (J9 s ac u (.slice ti tw tq) (.slice tj tx tr) (.slice tk tz ts) (.slice tl tA tt) (.slice tn tB tu) (.slice tp tC tv)) 51)).heap.size=w.heap.size+1 by simp] at this
 have b0:Zs w.heap.size w ((w.alloc (.cells (J9 s ac u (.slice ti tw tq) (.slice tj tx tr) (.slice tk tz ts) (.slice tl tA tt) (.slice tn tB tu) (.slice tp tC tv)) 51)).alloc (.cells (J9 s ac u (.slice xC xO xI) (.slice xD xP xJ) (.slice xE xQ xK) (.slice xF xR xL) (.slice xG xS xM) (.slice xH xT xN)) 51)):=((Zp _ _).alloc (Zg _) _).alloc ZI _;have HE:=Za h;clear h;go_enter Tryz.func20,Tryz.ntmps20;go_upto_region 1 with (fail);have HT:=Za (Zh B1 (Zh B2 b0));clear B1 B2 b0;generalize (w.alloc (.cells (J9 s ac u (.slice ti tw tq) (.slice tj tx tr) (.slice tk tz ts) (.slice tl tA tt) (.slice tn tB tu) (.slice tp tC tv)) 51)).alloc (.cells (J9 s ac u (.slice xC xO xI) (.slice xD xP xJ) (.slice xE xQ xK) (.slice xF xR xL) (.slice xG xS xM) (.slice xH xT xN)) 51)=W at*;generalize hb:w.heap.size=b at*;have HB:=Za hb;clear hb;simp only [List.append_eq,Yh,List.nil_append,Uh];have y0:W.cell? ⟨b,0,none⟩=some (.int .i64 s.bk):=HT.out.1.cell 0;have z0:W.cell? ⟨b+1,0,none⟩=some (.int .i64 s.bk):=HT.out.2.1.cell 0;have y1:W.cell? ⟨b,1,none⟩=some (.int .i64 s.ep):=HT.out.1.cell 1;have z1:W.cell? ⟨b+1,1,none⟩=some (.int .i64 s.ep):=HT.out.2.1.cell 1;have y2:W.cell? ⟨b,2,none⟩=some (.slice ti tw tq):=HT.out.1.cell 2;have z2:W.cell? ⟨b+1,2,none⟩=some (.slice xC xO xI):=HT.out.2.1.cell 2;go_wp2_with fail;refine (HE.out.e1 W (by rw [HB.out]; exact HT.out.2.2)).mono ?_;rintro e w1 ⟨rfl,ER⟩;have H1:=Za (Zh (HT.out.1.below ER HT.out.1.lt) (Zh (HT.out.2.1.below ER HT.out.2.1.lt) (HT.out.2.2.trans (ER.mono (by have:=HT.out.2.2.size; have:=HB.out; omega)))));clear ER y0 z0 y1 z1 y2 z2 HT;have y3:w1.cell? ⟨b,3,none⟩=some (.int .u64 s.D):=H1.out.1.cell 3;have z3:w1.cell? ⟨b+1,3,none⟩=some (.int .u64 s.D):=H1.out.2.1.cell 3;have y4:w1.cell? ⟨b,4,none⟩=some (.int .u64 s.P):=H1.out.1.cell 4;have z4:w1.cell? ⟨b+1,4,none⟩=some (.int .u64 s.P):=H1.out.2.1.cell 4;have y5:w1.cell? ⟨b,5,none⟩=some (.int .u64 s.B):=H1.out.1.cell 5;have z5:w1.cell? ⟨b+1,5,none⟩=some (.int .u64 s.B):=H1.out.2.1.cell 5;have y6:w1.cell? ⟨b,6,none⟩=some (.int .u64 ac):=H1.out.1.cell 6;have z6:w1.cell? ⟨b+1,6,none⟩=some (.int .u64 ac):=H1.out.2.1.cell 6;have y7:w1.cell? ⟨b,7,none⟩=some (.slice tj tx tr):=H1.out.1.cell 7;have z7:w1.cell? ⟨b+1,7,none⟩=some (.slice xD xP xJ):=H1.out.2.1.cell 7;go_wp2_with fail;refine (HE.out.e2 w1 (by rw [HB.out]; exact H1.out.2.2)).mono ?_;rintro e w2 ⟨rfl,GJ⟩;have H2:=Za (Zh (H1.out.1.below GJ H1.out.1.lt) (Zh (H1.out.2.1.below GJ H1.out.2.1.lt) (H1.out.2.2.trans (GJ.mono (by have:=H1.out.2.2.size; have:=HB.out; omega)))));clear GJ y3 z3 y4 z4 y5 z5 y6 z6 y7 z7 H1;have y8:w2.cell? ⟨b,8,none⟩=some (.slice tk tz ts):=H2.out.1.cell 8;have z8:w2.cell? ⟨b+1,8,none⟩=some (.slice xE xQ xK):=H2.out.2.1.cell 8;go_wp2_with fail;refine (HE.out.e3 w2 (by rw [HB.out]; exact H2.out.2.2)).mono ?_;rintro e w3 ⟨rfl,hb3⟩;have H3:=Za (Zh (H2.out.1.below hb3 H2.out.1.lt) (Zh (H2.out.2.1.below hb3 H2.out.2.1.lt) (H2.out.2.2.trans (hb3.mono (by have:=H2.out.2.2.size; have:=HB.out; omega)))));clear hb3 y8 z8 H2;have y9:w3.cell? ⟨b,9,none⟩=some (.slice tl tA tt):=H3.out.1.cell 9;have z9:w3.cell? ⟨b+1,9,none⟩=some (.slice xF xR xL):=H3.out.2.1.cell 9;go_wp2_with fail;refine (HE.out.e4 w3 (by rw [HB.out]; exact H3.out.2.2)).mono ?_;rintro e w4 ⟨rfl,hb4⟩;have H4:=Za (Zh (H3.out.1.below hb4 H3.out.1.lt) (Zh (H3.out.2.1.below hb4 H3.out.2.1.lt) (H3.out.2.2.trans (hb4.mono (by have:=H3.out.2.2.size; have:=HB.out; omega)))));clear hb4 y9 z9 H3;have y10:w4.cell? ⟨b,10,none⟩=some (.slice tn tB tu):=H4.out.1.cell 10;have z10:w4.cell? ⟨b+1,10,none⟩=some (.slice xG xS xM):=H4.out.2.1.cell 10;go_wp2_with fail;refine (HE.out.e5 w4 (by rw [HB.out]; exact H4.out.2.2)).mono ?_;rintro e w5 ⟨rfl,hb5⟩;have H5:=Za (Zh (H4.out.1.below hb5 H4.out.1.lt) (Zh (H4.out.2.1.below hb5 H4.out.2.1.lt) (H4.out.2.2.trans (hb5.mono (by have:=H4.out.2.2.size; have:=HB.out; omega)))));clear hb5 y10 z10 H4;have y11:w5.cell? ⟨b,11,none⟩=some (.slice tp tC tv):=H5.out.1.cell 11;have z11:w5.cell? ⟨b+1,11,none⟩=some (.slice xH xT xN):=H5.out.2.1.cell 11;go_wp2_with fail;refine (HE.out.e6 w5 (by rw [HB.out]; exact H5.out.2.2)).mono ?_;rintro e w6 ⟨rfl,hb6⟩;have H6:=Za (Zh (H5.out.1.below hb6 H5.out.1.lt) (Zh (H5.out.2.1.below hb6 H5.out.2.1.lt) (H5.out.2.2.trans (hb6.mono (by have:=H5.out.2.2.size; have:=HB.out; omega)))));clear hb6 y11 z11 H5;have y12:w6.cell? ⟨b,12,none⟩=some (.int .i64 (s.cu:Int)):=H6.out.1.cell 12;have z12:w6.cell? ⟨b+1,12,none⟩=some (.int .i64 (s.cu:Int)):=H6.out.2.1.cell 12;have y13:w6.cell? ⟨b,13,none⟩=some (.int .u64 s.cy):=H6.out.1.cell 13;have z13:w6.cell? ⟨b+1,13,none⟩=some (.int .u64 s.cy):=H6.out.2.1.cell 13;have y14:w6.cell? ⟨b,14,none⟩=some (.int .i64 u):=H6.out.1.cell 14;have z14:w6.cell? ⟨b+1,14,none⟩=some (.int .i64 u):=H6.out.2.1.cell 14;go_wp2_with fail;go_ret;exact ⟨rfl,by rw [HB.out]; exact H6.out.2.2⟩
end
section
open Go Go.RowKit Go.Deep
theorem KW {α:Type}{row:α→List Zl}{k:Nat}{w:Zc}{e:ZN}{a:Option Addr}{n cp:Nat}{l:List α}(hk: ∀v,(row v).length=k)(h:w.ownsRow 0 e k (.slice a n cp) n (Yl row l))(hl:l.length=n) :Kc row k w (fun b=> ¬(Yj a n cp).ownBlock=some b) a l:=fun h0=>by
 rcases h.2 with ⟨h1,h2⟩ | ⟨g,BB,cur,h1,_,h3,_⟩
 ·injection h1 with _ h3 _; omega
 ·injection h1 with h1 _ _;subst h1;refine ⟨g,0,rfl,fun hn=>hn (by simp [Y4]),(Array.getElem?_eq_some_iff.1 h3).1,fun i v hi=>?_⟩;obtain ⟨g2,e2,h4⟩:=LR (row:=row) (sz:=k) (l:=l) hk h Ze hi;injection e2 with e2;injection e2 with e2 _ _;rw [e2,ZX];exact h4
def Mv (g n:Nat)(l:List Rp) :Zc→(Nat→Prop)→Prop:=fun w S=>
 ∃vs:List Rc,vs.length=l.length∧Blk w g 42 (Yl Jc (vs++Zy (n - l.length) Gg)).toArray∧S g∧(∀i,S i→i < w.heap.size)∧
  ∀(i:Nat) (v:Rc) (r:Rp),vs[i]?=some v→l[i]?=some r→v=SW r v.aa v.ac v.pa v.pc∧Kc Qf 3 w (fun b=>b=g∨ ¬S b) v.aa r.la∧Kc Jb 3 w (fun b=>b=g∨ ¬S b) v.pa r.lp
theorem Au {g n:Nat}{l:List Rp} :Xa (Mv g n l):=by
 refine ⟨fun w S h=>?_,fun w w' S T h hk hT=>?_⟩
 ·obtain ⟨vs,_,_,_,h,_⟩:=h;exact h
 obtain ⟨vs,h1,h2,h3,h4,h5⟩:=h;refine ⟨vs,h1,h2.kept hk (hT _ h3),h3,fun i hi=>Ya (h4 i hi) hk.size,fun i v r hv hr=>?_⟩;obtain ⟨e,ha,hp⟩:=h5 i v r hv hr;have hb: ∀b,b < w.heap.size→ ¬(b=g∨ ¬S b)→w'.heap[b]?=w.heap[b]?:=fun b hb hn=>hk.block b hb (hT b (Classical.not_not.1 fun h=>hn (.inr h)))
 exact ⟨e,ha.same hk.size hb,hp.same hk.size hb⟩
section
variable {N:Nat} {w0:DR} {w w' w1:Zc} {c cf:Nat→Int} {a:Pl} {q:Ql} {X Z:Nat→Zc→(Nat→Prop)→Prop} {s s':Sg} {L L':List QT} {k:Nat}
theorem En.join3 (h:En (N+3) w0 w cf a X s L)(hX: ∀k,8≤k→Xa (X k))(hN:8≤N){Q':Zc→(Nat→Prop)→Prop}(hQ':Xa Q')
  (hn: ∀S0 S1 S2,X N w S0→X (N+1) w S1→X (N+2) w S2→(∀i,S0 i→ ¬S1 i)→(∀i,S0 i→ ¬S2 i)→(∀i,S1 i→i < w.heap.size)→(∀i,S2 i→i < w.heap.size)→Q' w' (fun i=>S0 i∨S1 i∨S2 i)∧Kept S0 w w') :
  En (N+1) w0 w' cf a (ZD X N Q') s L:=by
 obtain ⟨Φ,F,g1,g2⟩:=h;have p0:=F.part N Ze;have p1:=F.part (N+1) Ze;have p2:=F.part (N+2) Ze;rw [pt_high hN] at p0;rw [pt_high Ze] at p1 p2;obtain ⟨q',hk⟩:=hn _ _ _ p0 p1 p2 (F.ap N (N+1) Ze Ze Ze) (F.ap N (N+2) Ze Ze Ze) (F.lt (N+1) Ze) (F.lt (N+2) Ze);refine ⟨Dc Φ N (fun i=>Φ N i∨Φ (N+1) i∨Φ (N+2) i),⟨fun j hj=>?_,fun j hj i hi=>?_,fun j l hj hl DW i hi UR=>?_⟩,fun j hj i hi=>?_,Km g2 hk (g1 N Ze)⟩
 ·by_cases Mi:j=N
  ·subst Mi;rw [Xf,pt_high hN,xput_same];exact q'
  ·rw [fput_other Mi,Eb hN j Ze];exact (Xo hX j).2 w w' _ _ (F.part j Ze) hk (F.ap j N Ze Ze Mi)
 ·by_cases Mi:j=N
  ·subst Mi;rw [Xf] at hi
   rcases hi with hi | hi | hi
   ·exact sg
   ·exact sg
   ·exact sg
  ·rw [fput_other Mi] at hi;exact Ya (F.lt j Ze i hi) hk.size
 ·by_cases Mi:j=N
  ·subst Mi;rw [Xf] at hi;rw [fput_other (fun e=>DW e.symm)] at UR
   rcases hi with hi | hi | hi
   ·exact sh
   ·exact sh
   ·exact sh
  ·rw [fput_other Mi] at hi
   by_cases hlN:l=N
   ·subst hlN;rw [Xf] at UR
    rcases UR with UR | UR | UR
    ·exact si
    ·exact si
    ·exact si
   ·rw [fput_other hlN] at UR;exact F.ap j l Ze Ze DW i hi UR
 ·by_cases Mi:j=N
  ·subst Mi;rw [Xf] at hi
   rcases hi with hi | hi | hi
   ·exact g1 _ Ze i hi
   ·exact g1 _ Ze i hi
   ·exact g1 _ Ze i hi
  ·exact so
theorem Eg.join3 (h:Eg (N+3) w0 w c a q Z s L)(hN:11≤N){Q':Zc→(Nat→Prop)→Prop}(hQ':Xa Q')
  (hn: ∀S0 S1 S2,Z N w S0→Z (N+1) w S1→Z (N+2) w S2→(∀i,S0 i→ ¬S1 i)→(∀i,S0 i→ ¬S2 i)→(∀i,S1 i→i < w.heap.size)→(∀i,S2 i→i < w.heap.size)→Q' w' (fun i=>S0 i∨S1 i∨S2 i)∧Kept S0 w w') :
  Eg (N+1) w0 w' c a q (ZD Z N Q') s L:=by
 obtain ⟨X,hX,hZ,_,h⟩:=h;refine ⟨ZD X N Q',fun k hk=>?_,fun k h1 h2=>?_,by omega,?_⟩
 ·unfold ZD; split
  ·exact hQ'
  ·exact hX k hk
 ·unfold ZD; split
  ·rfl
  ·exact hZ k h1 Ze
 ·rw [←OJ hN];refine h.join3 (BK hX) Ze hQ' ?_;rw [Bi hN,Bi Ze,Bi Ze,hZ N hN Ze,hZ (N+1) Ze Ze,hZ (N+2) Ze Ze];exact hn
theorem FK (l:List Rc) :(Yl Jc l).length=l.length*9:=UO (row:=Jc) (k:=9) Rc.row_len l
theorem Eg.rcstore (h:Eg (N+3) w0 w c a q Z s L)(hN:11≤N){g n:Nat}{l:List Rp}{r:Rp}{ia ip:Option Addr}{ca cp:Nat}(ej:Z N=Mv g n l)(iH:Z (N+1)=YK 71 3 (.slice ia r.la.length ca) r.la.length (Yl Qf r.la))(vC:Z (N+2)=YK 61 3 (.slice ip r.lp.length cp) r.lp.length (Yl Jb r.lp))(hl:l.length < n) :
  w.there g (l.length*9) 9∧Eg (N+1) w0 (w.setCells g (l.length*9) (Zw (SW r ia ca ip cp)).toList) c a q (ZD Z N (Mv g n (l++[r]))) s L:=by
 have e1: ∀vs:List Rc,Yl Jc (vs++Zy (n - l.length) Gg)=Yl Jc vs++Jc Gg++Yl Jc (Zy (n -(l.length+1)) Gg):=fun vs=>by
  rw [show n - l.length=(n -(l.length+1))+1 by omega,List.replicate_succ,JP,List.append_assoc];rfl
 refine ⟨?_,h.join3 hN Au fun S0 S1 S2 p0 p1 p2 d1 d2 l1 l2=>?_⟩
 ·obtain ⟨X,hX,_,hh,_,_,hz,_⟩:=h.open;obtain ⟨S,hp,_⟩:=hh.part (show N < N+3 by omega);rw [pt_high Ze,hz N hN Ze,ej] at hp;obtain ⟨vs,sZ,hB,_⟩:=hp;refine fun i hi=>⟨?_,hB.frozen _⟩
  rw [hB.cell,YL,Zf (by rw [FK,ZE,List.length_replicate]; omega)]; rfl
 ·rw [ej] at p0;rw [iH] at p1;rw [vC] at p2;obtain ⟨vs,sZ,hB,hg,XP,cU⟩:=p0;have hk:Kept (fun i=>i=g) w (w.setCells g (l.length*9) (Zw (SW r ia ca ip cp)).toList):=QF _ _ _ (ZH _ _) (.inl rfl);have hkS: ∀T:Nat→Prop,T g→Kept T w (w.setCells g (l.length*9) (Zw (SW r ia ca ip cp)).toList):=fun T hT=>QF _ _ _ (ZH _ _) (.inl hT)
  have hgS1: ¬S1 g:=d1 g hg;have hgS2: ¬S2 g:=d2 g hg;refine ⟨⟨vs++[SW r ia ca ip cp],by simp [sZ],?_,.inl hg,fun i hi=>?_,fun i v x hv hx=>?_⟩,hkS S0 hg⟩
  ·rw [e1] at hB;have h2:=UM (Jc (SW r ia ca ip cp)) (Yl Jc vs) (Jc Gg) _ w rfl hB;rw [FK,sZ] at h2;rw [ZE,List.length_singleton,JP,JP,EO];exact h2
  ·refine Ya ?_ hk.size
   rcases hi with hi | hi | hi
   ·exact XP i hi
   ·exact l1 i hi
   ·exact l2 i hi
  ·rcases Ys i vs.length with hi | hi
   ·rw [Yn hi] at hv;rw [Yn Ze] at hx;obtain ⟨e,ha,hp⟩:=cU i v x hv hx;have hT: ∀j,j < (w.setCells g (l.length*9) (Zw (SW r ia ca ip cp)).toList).heap.size→(j=g∨ ¬(S0 j∨S1 j∨S2 j))→(j=g∨ ¬S0 j):=fun j _ h=>by
     rcases h with h | h
     ·exact .inl h
     ·exact .inr fun h0=>h (.inl h0)
    exact ⟨e,(ha.kept (hkS _ (.inl rfl))).more hT,(hp.kept (hkS _ (.inl rfl))).more hT⟩
   ·have UR:i=vs.length:=by
     have:=(List.getElem?_eq_some_iff.1 hv).1;simp at this;omega
    subst UR;rw [YF (Zg _),Nat.sub_self] at hv;rw [YF Ze,sZ,Nat.sub_self] at hx;obtain rfl:SW r ia ca ip cp=v:=by simpa using hv
    obtain rfl:r=x:=by simpa using hx
    have ha:=KW As.row_len p1.1 rfl;have hp:=KW Pm.row_len p2.1 rfl;refine ⟨rfl,(ha.more (T:=fun j=>j=g∨ ¬(S0 j∨S1 j∨S2 j)) fun j _ h ho=>?_).kept (hkS _ (.inl rfl)),(hp.more (T:=fun j=>j=g∨ ¬(S0 j∨S1 j∨S2 j)) fun j _ h ho=>?_).kept (hkS _ (.inl rfl))⟩
    ·have hs:=(p1.2 j).2 ho
     rcases h with rfl | h
     ·exact hgS1 hs
     ·exact h (.inr (.inl hs))
    ·have hs:=(p2.2 j).2 ho
     rcases h with rfl | h
     ·exact hgS2 hs
     ·exact h (.inr (.inr hs))
def Kf (c:Nat→Int) :Sg→List QT→List Oq→List QT
 | _,L,[]=>L
 | s,L,o::l=>Kf c (opO c s o).2 (Gn c s L o) l
theorem CI (c:Nat→Int)(o:Oq) : ∀(A:List Oq) (s:Sg) (L:List QT),Vr c s (A++[o])=(opO c (Vr c s A) o).2∧GY c s (A++[o])=GY c s A++[(opO c (Vr c s A) o).1]∧Kf c s L (A++[o])=Gn c (Vr c s A) (Kf c s L A) o
 | [],s,L=>⟨rfl,rfl,rfl⟩
 | x::A,s,L=>by
  obtain ⟨h1,h2,h3⟩:=CI c o A (opO c s x).2 (Gn c s L x);refine ⟨h1,?_,h3⟩;rw [Yh];show _::_=_::_++_;rw [Yh];exact congrArg _ h2
theorem qq (c:Nat→Int)(s:Sg)(L:List QT){l:List Oq}{k:Nat}{o:Oq}(hk:l[k]?=some o) :Vr c s (l.take (k+1))=(opO c (Vr c s (l.take k)) o).2∧GY c s (l.take (k+1))=GY c s (l.take k)++[(opO c (Vr c s (l.take k)) o).1]∧Kf c s L (l.take (k+1))=Gn c (Vr c s (l.take k)) (Kf c s L (l.take k)) o:=by
 rw [List.take_add_one,hk,Option.toList_some];exact CI c o _ s L
theorem Ld (c:Nat→Int) : ∀(l:List Oq) (s:Sg),(GY c s l).length=l.length
 | [],s=>rfl
 | o::l,s=>by show _+1=_+1; rw [Ld c l]
theorem N5.ops {c:Nat→Int} : ∀(l:List Oq) {k:Nat} {s:Sg} {L:List QT},N5 c k s L→k+l.length≤1000000→(∀o ∈ l,Kk o)→N5 c (k+l.length) (Vr c s l) (Kf c s L l)
 | [],k,s,L,h,_,_=>h
 | o::l,k,s,L,h,hk,hf=>by
  have aK:k+(l.length+1)≤1000000:=hk;have:=N5.ops l (h.op Ze o (hf o ZI)) Ze (fun x hx=>hf x Bj);rw [show k+(o::l).length=k+1+l.length by simp; omega];exact this
theorem qP: ∃i,Tryz.prog.info? 42=some i∧i.zero=some (.agg (Zw Gg))∧i.size=9∧i.bytes≤1000:=by
 have h:(Tryz.prog.info? 42).map (fun i=>(i.zero,i.size,decide (i.bytes≤1000)))=some (some (.agg (Zw Gg)),9,true):=by kernel_rfl
 cases hi:Tryz.prog.info? 42 with
 | none=>rw [hi] at h; cases h
 | some i=>
  rw [hi] at h;simp at h;exact ⟨i,rfl,h.1,h.2.1,h.2.2⟩
theorem qe (cs:List Zl)(h0:0 < cs.length) : ∀n:Nat,madeCells cs.toArray (n*cs.length)=((Zy n cs).flatten).toArray:=fun n=>by
 have hf:(Zy n cs).flatten=Yl (fun _:Unit=>cs) (Zy n ()):=by unfold Yl; rw [List.flatMap_def,GF]
 have hl:(Yl (fun _:Unit=>cs) (Zy n ())).length=n*cs.length:=by rw [UO (k:=cs.length) (fun _=>rfl),List.length_replicate]
 rw [hf];apply Array.toList_inj.1;unfold madeCells;rw [Array.toList_map,Array.toList_range];apply List.ext_getElem?;intro i;show _=(Yl (fun _:Unit=>cs) (Zy n ()))[i]?
 rcases Ys i (n*cs.length) with hi | hi
 ·have hd:i/cs.length < n:=Nat.div_lt_of_lt_mul (by rw [Nat.mul_comm]; exact hi);have hm:i%cs.length < cs.length:=Nat.mod_lt _ h0;have h1:=EN (row:=fun _:Unit=>cs) (k:=cs.length) (fun _=>rfl) (l:=Zy n ()) (i:=i/cs.length) (v:=()) (by rw [List.getElem?_replicate,if_pos hd]) hm;rw [Nat.mul_comm,Nat.div_add_mod] at h1;rw [h1,List.getElem?_map,List.getElem?_range hi];simp [hm]
 ·rw [Qg (by rw [YE,List.length_range]; exact hi),Qg (by rw [hl]; exact hi)]
theorem ch (n:Nat)(hn:n≤100000)(w:Zc) :
  (Instr.makeSlice 66 (.int .i64 (n:Int)) (.int .i64 (n:Int))).run Zb w= .ok (.slice (some ⟨w.heap.size,0,none⟩) n n) (w.alloc (.cells (Yl Jc (Zy n Gg)).toArray 42)):=by
 obtain ⟨i,hi,hz,hs,LJ⟩:=qP;have hb:i.bytes*n≤281474976710656:=Nat.le_trans (Nat.mul_le_mul LJ hn) YU;have Dw:=QZ (P:=Zb) 66 42 i _ Tryz.underlying66 hi hz .i64 .i64 n n (Zg _) hb Ze w;rw [hs] at Dw;have e:Yl Jc (Zy n Gg)=(Zy n (Jc Gg)).flatten:=by unfold Yl; rw [List.flatMap_def,GF]
 rw [e];have h2:=qe (Jc Gg) YU n;rw [show (Jc Gg).length=9 from rfl] at h2;rw [←h2];exact Dw
end
end
section
open Go Go.RowKit Go.Deep
def Rv (N:Nat)(w0:DR)(Z:Nat→Zc→(Nat→Prop)→Prop)(al:Option Addr)(l:List Oq) :Prop:=
 Kc Ud 4 w0.w w0.T al l∨ ∃r,11≤r∧r < N∧Z r=Kt Ud 4 al l
section
variable {N M:Nat} {w0:DR} {w w' w1:Zc} {c cf:Nat→Int} {a:Pl} {q:Ql} {X Z Z':Nat→Zc→(Nat→Prop)→Prop} {s s':Sg} {L L':List QT} {k:Nat} {al:Option Addr} {l:List Oq}
theorem Eg.kept0 (h:Eg N w0 w c a q Z s L) :Kept w0.T w0.w w:=by
 obtain ⟨X,_,_,_,Φ,_,_,hk⟩:=h;exact hk
theorem Rv.at (hs:Rv N w0 Z al l)(he:Eg M w0 w c a q Z' s L)(hM:N≤M)(hZ: ∀k,11≤k→k < N→Z' k=Z k){k:Nat}{o:Oq}(hk:l[k]?=some o) : ∃g off,al=some ⟨g,off,none⟩∧w.rangeAt g (off+k*4) o.row:=by
 rcases hs with h | ⟨r,UP,hr,hx⟩
 ·obtain ⟨g,off,e,_,_,h2⟩:=(h.kept he.kept0).at hk;exact ⟨g,off,e,h2⟩
 ·obtain ⟨X,hX,_,hh,_,_,hz,_⟩:=he.open;obtain ⟨S,hp,_⟩:=hh.part (show r < M by omega);rw [pt_high Ze,hz r UP Ze,hZ r UP hr,hx] at hp;obtain ⟨g,off,e,_,_,h2⟩:=hp.1.at hk;exact ⟨g,off,e,h2⟩
theorem uR {k0:Nat}(h:N5 c k0 s L)(aL:k0+l.length≤1000000)(hll:l.length≤100000)(hf: ∀o ∈ l,Kk o)(he:Eg N w0 w c a q Z s L)(hs:Rv N w0 Z al l)(cl:Nat) :
  Zj Zb 27 #[.pointer (some ⟨q.e,0,none⟩),.slice al l.length cl] w fun e w'=> ∃g,e= .returned (.slice (some ⟨g,0,none⟩) l.length l.length)∧Eg (N+1) w0 w' c a q (ZD Z N (Mv g l.length (GY c s l))) (Vr c s l) (Kf c s L l):=by
 have hN:=he.low;obtain ⟨n,hn⟩ : ∃n,l.length=n:=⟨_,rfl⟩;have Dw:=ch n Ze w;have H0:Hid (Eg (N+1) w0 (w.alloc (.cells (Yl Jc (Zy n Gg)).toArray 42)) c a q (ZD Z N (Mv w.heap.size n (GY c s (l.take 0)))) s L):=Za (by
  have h1:=he.box (Yl Jc (Zy n Gg)).toArray 42;have h2:=h1.as (r:=N) hN Ze xput_same (Q':=Mv w.heap.size n (GY c s (l.take 0))) Au fun S hS=>⟨[],rfl,hS.1,(hS.2 _).2 rfl,fun i hi=>by rw [(hS.2 i).1 hi]; exact hS.1.lt,fun i v r hv=>by simp at hv⟩
  rwa [Xk] at h2)
 have HS:=Za (fun (j:Nat) (hj:j≤n)=>N5.ops (l.take j) h NV (fun o ho=>hf o (List.mem_of_mem_take ho)));have HX:=Za (Zh hf (Zh hs hn));have HN:=Za hN;have aM:n≤100000:=by omega
 have P7:k0+n≤1000000:=by omega
 have HK:=Za P7;rw [hn];clear h hf he hs hN hn hll aL P7;go_enter Tryz.func27,Tryz.ntmps27;go_wp2_with fail;clear Dw;generalize w.heap.size=z at*;generalize w.alloc (.cells (Yl Jc (Zy n Gg)).toArray 42)=W at*;go_loopw [13] (fun s13 wr=> ∃(k:Nat),k≤n∧s13= .int .i64 k∧Hid (Eg (N+1) w0 wr c a q (ZD Z N (Mv z n (GY c s (l.take k)))) (Vr c s (l.take k)) (Kf c s L (l.take k)))) (fun s13 _=>n -(Qz s13).toNat)
 case atStart=>exact ⟨0,by omega,rfl,H0⟩
 case round=>
  obtain ⟨k,hk,rfl,HE⟩:=hrel
  by_cases XP:k < n
  ·obtain ⟨o,ho⟩ : ∃o,l[k]?=some o:=⟨_,Zf (by rw [HX.out.2.2]; exact XP)⟩;obtain ⟨g,off,rfl,iD⟩:=HX.out.2.1.at HE.out Ze (fun k h1 h2=>xput_ne Ze) ho;obtain ⟨e1,e2,e3⟩:=qq c s L ho;have vj:(l.take k).length=k:=by rw [List.length_take,HX.out.2.2]; omega
   have Um:N5 c (k0+k) (Vr c s (l.take k)) (Kf c s L (l.take k)):=by
    have:=HS.out k hk;rwa [vj] at this
   have sU:=HX.out.1 o (ZB ho);have hrl:(GY c s (l.take k)).length=k:=by rw [Ld]; exact vj
   have HA:Hid (∀wx Zx,Eg (N+1+1) w0 wx c a q Zx (Vr c s (l.take k)) (Kf c s L (l.take k))→Zj Zb 16 #[.pointer (some ⟨q.e,0,none⟩),.agg (ZM o)] wx (na (N+1+1) w0 c a q Zx (opO c (Vr c s (l.take k)) o) (Gn c (Vr c s (l.take k)) (Kf c s L (l.take k)) o))):=Za fun wx Zx hx=>dI Um (by have:=HK.out; omega) hx o sU
   have HR:=Za iD;have HT:=Za (Zh e1 (Zh e2 (Zh e3 hrl)));clear ho iD e1 e2 e3 vj Um sU hrl;go_upto_region 4 with (fail);have TO:=Za (HE.out.box (ZM o) 37);go_upto_region 5 with (first | (refine wpList_load_mid rfl 37 _ rfl g (off+k*4) rfl o.row _ HR.out ZV rfl QL ?_) | (refine Zo rfl _ _ _ rfl wr.heap.size (ZM o) rfl rfl 37 _ (ZG wr _) QL rfl (OU _) ?_; rw [Zu]));refine JG ?_;generalize wr.heap.size=zp at*;generalize wr.alloc (.cells (ZM o) 37)=W1 at*;have Wu:=Za (TO.out.blkAt (r:=N+1) ZJ Ze xput_same);go_wp2_with (first | (refine Zn rfl 37 _ rfl zp rfl 37 _ (0,0) _ Wu.out ZV rfl QL ?_));refine (HA.out _ _ TO.out).mono ?_;rintro e w2 ⟨ia,ca,ip,cp,rfl,h2⟩;have hN:=HN.out;obtain ⟨R,hR⟩ : ∃R,(opO c (Vr c s (l.take k)) o).1=R:=⟨_,rfl⟩;rw [hR] at h2 ⊢;have h3:Eg (N+3) w0 w2 c a q (ZD (ZD (ZD Z N (Mv z n (GY c s (l.take k)))) (N+1) (YK 71 3 (.slice ia R.la.length ca) R.la.length (Yl Qf R.la))) (N+2) (YK 61 3 (.slice ip R.lp.length cp) R.lp.length (Yl Jb R.lp))) (opO c (Vr c s (l.take k)) o).2 (Gn c (Vr c s (l.take k)) (Kf c s L (l.take k)) o):=by
    refine h2.remap Ze (fun j=>if j≤N then j else j+1) (fun j hj=>if_pos Ze) (fun j hj=>by split <;> omega) (fun j hj=>by split <;> omega) (fun i j hi hj e=>by split at e <;> split at e <;> omega) fun j h1 h2=>?_
    by_cases hj:j≤N
    ·rw [if_pos hj];unfold rowsX
     by_cases Mi:j=N
     ·subst Mi;rw [xput_ne Ze,xput_ne Ze,xput_same,xput_ne Ze,xput_ne Ze,xput_ne Ze,xput_same]
     ·rw [xput_ne Ze,xput_ne Ze,xput_ne Ze,xput_ne Ze,xput_ne Ze,xput_ne Ze,xput_ne Ze]
    ·rw [if_neg hj];unfold rowsX;have hc:j=N+1∨j=N+2:=by omega
     rcases hc with rfl | rfl
     ·rw [xput_ne Ze,xput_same,xput_ne Ze,xput_same]
     ·rw [xput_same,xput_same]
   have Ml:(GY c s (l.take k)).length=k:=HT.out.2.2.2;have Um:=h3.rcstore hN (g:=z) (n:=n) (l:=GY c s (l.take k)) (r:=R) Ij Ug xput_same Ze;rw [Ml] at Um;have e2:=HT.out.2.1;rw [hR] at e2;generalize SW R ia ca ip cp=R2 at Um ⊢;have hth:w2.there z (k*9) (Zw R2).size:=Um.1;have dc:=Za hth;have H4:Hid (Eg (N+1) w0 (w2.setCells z (k*9) (Zw R2).toList) c a q (ZD Z N (Mv z n (GY c s (l.take (k+1))))) (Vr c s (l.take (k+1))) (Kf c s L (l.take (k+1)))):=Za (by
    rw [e2,HT.out.1,HT.out.2.2.1];exact Um.2.ext fun j h1 h2=>by
     by_cases hj:j=N
     ·subst hj; rw [xput_same,xput_same]
     ·rw [xput_ne hj,xput_ne hj,xput_ne Ze,xput_ne Ze,xput_ne hj])
   clear hth h2 h3 Um HA Wu TO HT hR Ml e2 HE HR;go_wp2_with (first | (refine wpList_store_mid (op:=⟨none,.store _ _ _,_,_,_,_⟩) rfl 42 _ _ rfl z (k*9) (Zw R2) rfl rfl dc.out YS (YH _) ?_));clear dc;generalize w2.setCells z (k*9) (Zw R2).toList=W4 at*;go_wp2_with fail;go_roundw
   case rel=>exact ⟨k+1,by omega,by go_num,H4⟩
   case measure=>exact Bl
  ·obtain rfl:k=n:=by omega
   clear XP;have XP: ¬k < k:=by omega
   have H7:=HE.out;rw [List.take_of_length_le (by rw [HX.out.2.2]; exact Zg _)] at H7;have H8:=Za H7;clear HE H7;go_wp2_with fail;go_ret;exact ⟨_,rfl,H8.out⟩
end
end
section
open Go Go.RowKit Go.Deep
section
variable {H:Type} {enc:ZN × Zl→H} {w:Zc} {base:Nat} {held:Bool}
theorem open_S25 {r:Reach}{b0:Nat}{v:Zl}{d:DataW H}{p:List MemPlace}(hv:Value.okWide Zb w r b0 25 v)(h:DataW.Trod enc Zb w base (fun _=>true) held 25 v d p) : ∃(a:Option Addr) (len cap:Nat),v= .slice a len cap∧nx w a len cap:=
 open_lstR Tryz.underlying25 Ye Oq.row_len YU (fun n cs x h _=>Zch h) hv h
end
theorem Zfk {c:Nat→Int}(f:AQ c)(h:RU c=0)(h0:c 0≤100) :N5 c 0 fP []:=by
 have hc:=LI f h;have h8:=f 8 Ze;have h8':c 8≤18446744073709551615:=by
  simp [Lit.wf,pY,go_sem] at h8;exact h8.2
 exact ⟨hc,h8',h0,inv0 hc,Zfh,fun p hp=>by simp [fP] at hp⟩
theorem Ow {w:Zc}{base k n:Nat}{e:ZN}{x:Sv}{xs:List Zl}(h:w.ownsRow base e k x.v n xs) :x.n=n:=by
 rcases h.2 with ⟨h1,h2⟩ | ⟨g,cp,cur,h1,_⟩
 ·injection h1 with _ h3 _; omega
 ·injection h1
theorem oI {w:Zc}{s:Sg}{x1 x2 x3 x4 x5 x6 y1 y2 y3 y4 y5 y6:Sv}(hV:s.V.length≤4096)(hp:s.pd.length≤4096)(hF:s.F.length≤4096)(hW:s.W.length≤4096)(hm:s.mg.length≤4096)(ht:s.pt.length≤4096)
  (a1:w.ownsRow 0 63 7 x1.v s.V.length (XD s.V)) (a2:w.ownsRow 0 3 1 x2.v s.pd.length (s.pd.map (ZR .i64))) (a3:w.ownsRow 0 3 1 x3.v s.F.length (s.F.map (ZR .i64))) (a4:w.ownsRow 0 3 1 x4.v s.W.length (s.W.map (ZR .i64)))
  (a5:w.ownsRow 0 73 2 x5.v s.mg.length (JA s.mg)) (a6:w.ownsRow 0 75 2 x6.v s.pt.length (Jo s.pt))
  (b1:w.ownsRow 0 63 7 y1.v s.V.length (XD s.V)) (b2:w.ownsRow 0 3 1 y2.v s.pd.length (s.pd.map (ZR .i64))) (b3:w.ownsRow 0 3 1 y3.v s.F.length (s.F.map (ZR .i64))) (b4:w.ownsRow 0 3 1 y4.v s.W.length (s.W.map (ZR .i64)))
  (b5:w.ownsRow 0 73 2 y5.v s.mg.length (JA s.mg)) (b6:w.ownsRow 0 75 2 y6.v s.pt.length (Jo s.pt)) :
  EqS w x1.v y1.v x2.v y2.v x3.v y3.v x4.v y4.v x5.v y5.v x6.v y6.v:=by
 have I: ∀ {l:List Int} {x y:Sv},l.length≤4096→w.ownsRow 0 3 1 x.v l.length (l.map (ZR .i64))→w.ownsRow 0 3 1 y.v l.length (l.map (ZR .i64))→ ∀W,Zs w.heap.size w W→Zj Zb 49 #[x.v,y.v] W fun e w'=>e= .returned (.bool true)∧Zs W.heap.size W w':=fun {l x y} hl hx hy W hb=>by
  obtain ⟨xa,xc,ex,_,_,_,vC⟩:=VU (S:=fun _=>False) hx fun _ _ h=>h
  obtain ⟨ya,yc,ey,_,_,_,hy2⟩:=VU (S:=fun _=>False) hy fun _ _ h=>h
  rw [ex,ey];exact (dS (vC.below hb) (hy2.below hb) rfl Ze).mono fun e w' ⟨he,m,hw⟩=>⟨he,hw▸below_drewN (Zp _ _) m⟩
 have eV1:=Ow a1;have eV2:=Ow b1;have eM1:=Ow a5;have eM2:=Ow b5;have eT1:=Ow a6;have eT2:=Ow b6;refine ⟨fun W hb=>?_,I hp a2 b2,I hF a3 b3,I hW a4 b4,fun W hb=>?_,fun W hb=>?_⟩
 ·have l1:=KW (row:=Yd.row) (a:=x1.a) (cp:=x1.c) (n:=s.V.length) (fun _=>rfl) (by rw [←eV1]; exact eV1▸a1) rfl;have l2:=KW (row:=Yd.row) (a:=y1.a) (cp:=y1.c) (n:=s.V.length) (fun _=>rfl) (by rw [←eV2]; exact eV2▸b1) rfl;exact (ky x1.a y1.a x1.n y1.n x1.c y1.c s.V s.V W _ _ (l1.below hb) (l2.below hb) eV1.symm eV2.symm Ze Ze).mono fun e w' ⟨he,hw⟩=>⟨by rw [he]; simp,hw⟩
 ·have l1:=KW (row:=JE) (a:=x5.a) (cp:=x5.c) (n:=s.mg.length) (fun _=>rfl) (by rw [←eM1]; exact eM1▸a5) rfl;have l2:=KW (row:=JE) (a:=y5.a) (cp:=y5.c) (n:=s.mg.length) (fun _=>rfl) (by rw [←eM2]; exact eM2▸b5) rfl;exact (kt x5.a y5.a x5.n y5.n x5.c y5.c s.mg s.mg W _ _ (l1.below hb) (l2.below hb) eM1.symm eM2.symm Ze Ze).mono fun e w' ⟨he,hw⟩=>⟨by rw [he]; simp,hw⟩
 ·have l1:=KW (row:=Us) (a:=x6.a) (cp:=x6.c) (n:=s.pt.length) Rq.row_len (by rw [←eT1]; exact eT1▸a6) rfl;have l2:=KW (row:=Us) (a:=y6.a) (cp:=y6.c) (n:=s.pt.length) Rq.row_len (by rw [←eT2]; exact eT2▸b6) rfl;exact (kx x6.a y6.a x6.n y6.n x6.c y6.c s.pt s.pt W _ _ (l1.below hb) (l2.below hb) eT1.symm eT2.symm Ze Ze).mono fun e w' ⟨he,hw⟩=>⟨by rw [he]; simp,hw⟩
section
variable {N:Nat} {w0:DR} {w w' w1:Zc} {c:Nat→Int} {a:Pl} {q:Ql} {Z Z':Nat→Zc→(Nat→Prop)→Prop} {s s':Sg} {L L':List QT} {k:Nat}
theorem Eg.down (h:Eg N ⟨fun _=>False,w1⟩ w c a q Z s L) :Zs w1.heap.size w1 w:=by
 have k:=h.kept0;exact ⟨k.os,k.tape,k.output,k.size,fun i hi=>k.block i hi (fun h=>h)⟩
theorem dK (f:AQ c)(w:Zc) :Zj Zb 9 #[.agg (Zk c)] w fun e w'=> ∃v u,e= .returned (.tuple #[v,u])∧Zs w.heap.size w w':=by
 by_cases h:RU c=0
 ·exact (Zay w (LI f h) h).mono fun e w' ⟨a,q,he,hz⟩=>⟨_,_,he,(hz CF).down⟩
 ·exact (uN w h).mono fun e w' ⟨he,hb⟩=>⟨_,_,he,hb⟩
structure Few (s:Sg)(L:List QT) :Prop where
 v:s.V.length≤100
 p:s.pd.length≤4096
 f:s.F.length≤4096
 w:s.W.length≤4096
 m:s.mg.length≤4096
 t:s.pt.length≤4096
 l:L.length≤100
theorem N5.few (h:N5 c k s L) :Few s L:=by
 have q1:=h.ge.q1;have i:=h.inv;have:=h.hund;have:=i.len;have:=i.pdl;have:=i.fl;have:=i.wl;have:=i.mgl;have:=i.ptl;refine ⟨by omega,by omega,by omega,by omega,by omega,by omega,?_⟩;rw [h.ring.len];have:ga s.V≤s.V.length:=List.countP_le_length;omega
theorem N5.snap (h:N5 c k s L)(hk:k≤1000000)(he:Eg N w0 w c a q Z s L) :Zj Zb 19 #[.pointer (some ⟨q.e,0,none⟩)] w fun e w'=> ∃x1 x2 x3 x4 x5 x6:Sv,e= .returned (.agg (J9 s (Yy s.V) L.length x1.v x2.v x3.v x4.v x5.v x6.v))∧
      Eg (N+6) w0 w' c a q (snX Z N s x1.v x2.v x3.v x4.v x5.v x6.v) s L:=by
  have f:=h.few;exact Zeg he (h.inv.tm h.ge hk) (by have:=f.l; omega) f.p f.m f.t
end
end
section
open Go Go.RowKit Go.Deep
structure Mw (w:Zc)(S:Nat→Prop)(r:Rp)(aa:Option Addr)(pa:Option Addr) :Prop where
 a:Kc Qf 3 w S aa r.la
 p:Kc Jb 3 w S pa r.lp
section
variable {w w':Zc} {S T:Nat→Prop} {r:Rp} {aa pa:Option Addr}
theorem Mw.below (h:Mw w S r aa pa)(hb:Zs w.heap.size w w') :Mw w' S r aa pa:=⟨h.a.below hb,h.p.below hb⟩
theorem Mw.kept (h:Mw w S r aa pa)(hb:Kept S w w') :Mw w' S r aa pa:=⟨h.a.kept hb,h.p.kept hb⟩
theorem Mw.more (h:Mw w S r aa pa)(hT: ∀i,i < w.heap.size→T i→S i) :Mw w T r aa pa:=⟨h.a.more hT,h.p.more hT⟩
end
theorem fD (r:Rp)(aa pa ba qa:Option Addr)(ac pc bc qc:Nat)(w:Zc){S1 S2:Nat→Prop}(hx:Mw w S1 r aa pa)(hy:Mw w S2 r ba qa)(la1:r.la.length≤9223372036854775807)(lp1:r.lp.length≤9223372036854775807) :
  Zj Zb 15 #[.agg (Zw (SW r aa ac pa pc)),.agg (Zw (SW r ba bc qa qc))] w fun e w'=>e= .returned (.bool true)∧Zs w.heap.size w w':=by
 obtain ⟨an,han⟩ : ∃an,r.la.length=an:=⟨_,rfl⟩;obtain ⟨pn,N0⟩ : ∃pn,r.lp.length=pn:=⟨_,rfl⟩;obtain ⟨x,hX⟩ : ∃x,SW r aa ac pa pc=x:=⟨_,rfl⟩;obtain ⟨y,hY⟩ : ∃y,SW r ba bc qa qc=y:=⟨_,rfl⟩;have HXE:Hid (x=⟨r.kd,r.cd,r.ix,r.bl,r.ep,r.dl,aa,an,ac,pa,pn,pc,r.vs⟩):=Za (by rw [←hX,←han,←N0]; rfl);have HYE:Hid (y=⟨r.kd,r.cd,r.ix,r.bl,r.ep,r.dl,ba,an,bc,qa,pn,qc,r.vs⟩):=Za (by rw [←hY,←han,←N0]; rfl);rw [hX,hY];rw [han] at la1;rw [N0] at lp1;have HLA:=Za hx.a;have HLB:=Za hy.a;have HLP:=Za hx.p;have HLQ:=Za hy.p;have HAN:=Za han;have HPN:=Za N0;clear hX hY hx hy han N0;have KX:Hid (Blk ((w.alloc (.cells (Zw x) 42)).alloc (.cells (Zw y) 42)) w.heap.size 42 (Zw x)):=Za ((Zv w _ _).alloc _);have KY:Hid (Blk ((w.alloc (.cells (Zw x) 42)).alloc (.cells (Zw y) 42)) (w.heap.size+1) 42 (Zw y)):=Za (by
  have h:=Zv (w.alloc (.cells (Zw x) 42)) 42 (Zw y);rwa [show (w.alloc (.cells (Zw x) 42)).heap.size=w.heap.size+1 by simp] at h)
 have B0:Hid (Zs w.heap.size w ((w.alloc (.cells (Zw x) 42)).alloc (.cells (Zw y) 42))):=Za (((Zp _ _).alloc (Zg _) _).alloc ZI _);go_enter Tryz.func15,Tryz.ntmps15;go_upto_region 1 with (fail);generalize (w.alloc (.cells (Zw x) 42)).alloc (.cells (Zw y) 42)=W at*;have x0:W.cell? ⟨w.heap.size,0,none⟩=some (.int .i64 r.kd):=by have h:=KX.out.cell 0; exact TM
 have y0:W.cell? ⟨w.heap.size+1,0,none⟩=some (.int .i64 r.kd):=by have h:=KY.out.cell 0; exact TN
 have x1:W.cell? ⟨w.heap.size,1,none⟩=some (.int .i64 r.cd):=by have h:=KX.out.cell 1; exact TM
 have y1:W.cell? ⟨w.heap.size+1,1,none⟩=some (.int .i64 r.cd):=by have h:=KY.out.cell 1; exact TN
 have x2:W.cell? ⟨w.heap.size,2,none⟩=some (.int .i64 r.ix):=by have h:=KX.out.cell 2; exact TM
 have y2:W.cell? ⟨w.heap.size+1,2,none⟩=some (.int .i64 r.ix):=by have h:=KY.out.cell 2; exact TN
 have x3:W.cell? ⟨w.heap.size,3,none⟩=some (.int .i64 r.bl):=by have h:=KX.out.cell 3; exact TM
 have y3:W.cell? ⟨w.heap.size+1,3,none⟩=some (.int .i64 r.bl):=by have h:=KY.out.cell 3; exact TN
 have x4:W.cell? ⟨w.heap.size,4,none⟩=some (.int .i64 r.ep):=by have h:=KX.out.cell 4; exact TM
 have y4:W.cell? ⟨w.heap.size+1,4,none⟩=some (.int .i64 r.ep):=by have h:=KY.out.cell 4; exact TN
 have x5:W.cell? ⟨w.heap.size,5,none⟩=some (.int .i64 r.dl):=by have h:=KX.out.cell 5; exact TM
 have y5:W.cell? ⟨w.heap.size+1,5,none⟩=some (.int .i64 r.dl):=by have h:=KY.out.cell 5; exact TN
 have x8:W.cell? ⟨w.heap.size,8,none⟩=some (.int .i64 r.vs):=by have h:=KX.out.cell 8; exact TM
 have y8:W.cell? ⟨w.heap.size+1,8,none⟩=some (.int .i64 r.vs):=by have h:=KY.out.cell 8; exact TN
 have x6:W.cell? ⟨w.heap.size,6,none⟩=some (.slice aa an ac):=by exact sw
 have y6:W.cell? ⟨w.heap.size+1,6,none⟩=some (.slice ba an bc):=by exact sx
 have x7:W.cell? ⟨w.heap.size,7,none⟩=some (.slice pa pn pc):=by exact jy
 have y7:W.cell? ⟨w.heap.size+1,7,none⟩=some (.slice qa pn qc):=by exact jz
 go_wp2_with (fail);clear x0 y0 x1 y1 x2 y2 x3 y3 x4 y4 x5 y5 x6 y6 x7 y7 x8 y8;go_loopw [5] (fun i wr=> ∃k:Nat,k≤an∧i= .int .i64 k∧Hid (Blk wr w.heap.size 42 (Zw x))∧Hid (Blk wr (w.heap.size+1) 42 (Zw y))∧Hid (Zs w.heap.size w wr)) (fun i _=>an -(Qz i).toNat)
 case atStart=>exact ⟨0,by omega,rfl,KX,KY,B0⟩
 case round=>
  clear KX KY B0;obtain ⟨k,hk,rfl,KX,KY,B0⟩:=hrel
  by_cases XP:k < an
  ·obtain ⟨u,hu⟩ : ∃u,r.la[k]?=some u:=⟨_,Zf (by rw [HAN.out]; exact XP)⟩;obtain ⟨g1,o1,rfl,_,l1,r1⟩:=HLA.out.at hu;obtain ⟨g2,o2,rfl,_,l2,r2⟩:=HLB.out.at hu;have R1:=Za (Zh r1 l1);have R2:=Za (Zh r2 l2);clear r1 r2 l1 l2 hu;have mR:(0:Int)≤(k:Int):=by omega
   have DX:(k:Int)< (an:Int):=by omega
   have x6:wr.cell? ⟨w.heap.size,6,none⟩=some (.slice (some ⟨g1,o1,none⟩) an ac):=by exact sw
   have y6:wr.cell? ⟨w.heap.size+1,6,none⟩=some (.slice (some ⟨g2,o2,none⟩) an bc):=by exact sx
   go_wp2_with (fail);refine Zfq ?_;refine GN ?_;refine YJ 39 _ _ (.slice (some ⟨g1,o1,none⟩) an ac) rfl rfl rfl (fun w h=>by simp [go_sem,h]) (fun w h=>by have h:=h.1.cell 6; rw [HXE.out] at h; exact h) ?_;refine Qe ?_;refine BL ?_;refine Am 71 _ g1 (o1+k*3) u _ rfl rfl rfl (fun w' h=>Y6 R1.out.1 R1.out.2 h.2.2) Tryz.underlying71 rfl Cu ?_;refine Qe ?_;refine GN ?_;refine YJ 39 _ _ (.slice (some ⟨g2,o2,none⟩) an bc) rfl rfl rfl (fun w h=>by simp [go_sem,h]) (fun w h=>by have h:=h.2.1.cell 6; rw [HYE.out] at h; exact h) ?_;refine Qe ?_;refine BL ?_;refine Am 71 _ g2 (o2+k*3) u _ rfl rfl rfl (fun w' h=>Y6 R2.out.1 R2.out.2 h.2.2) Tryz.underlying71 rfl Cu ?_;refine Qe ?_;refine ZbX u u false rfl rfl rfl ZI ?_;exact ZfS
  ·obtain rfl:k=an:=by omega
   clear XP;have XP: ¬k < k:=by omega
   have x6:wr.cell? ⟨w.heap.size,6,none⟩=some (.slice aa k ac):=by exact sw
   have y6:wr.cell? ⟨w.heap.size+1,6,none⟩=some (.slice ba k bc):=by exact sx
   obtain ⟨wo,rfl⟩ : ∃wo:Zc,wo=wr:=⟨_,rfl⟩;have x7:wo.cell? ⟨w.heap.size,7,none⟩=some (.slice pa pn pc):=by exact jy
   have y7:wo.cell? ⟨w.heap.size+1,7,none⟩=some (.slice qa pn qc):=by exact jz
   go_wp2_with (fail);clear x6 y6 x7 y7;go_loopw [6] (fun i wr=> ∃k:Nat,k≤pn∧i= .int .i64 k∧Hid (Blk wr w.heap.size 42 (Zw x))∧Hid (Blk wr (w.heap.size+1) 42 (Zw y))∧Hid (Zs w.heap.size w wr)) (fun i _=>pn -(Qz i).toNat)
   case atStart=>exact ⟨0,by omega,rfl,KX,KY,B0⟩
   case round=>
    clear KX KY B0;obtain ⟨k,hk,rfl,KX,KY,B0⟩:=hrel
    by_cases XP:k < pn
    ·obtain ⟨u,hu⟩ : ∃u,r.lp[k]?=some u:=⟨_,Zf (by rw [HPN.out]; exact XP)⟩;obtain ⟨g1,o1,rfl,_,l1,r1⟩:=HLP.out.at hu;obtain ⟨g2,o2,rfl,_,l2,r2⟩:=HLQ.out.at hu;have R1:=Za (Zh r1 l1);have R2:=Za (Zh r2 l2);clear r1 r2 l1 l2 hu;have mR:(0:Int)≤(k:Int):=by omega
     have DX:(k:Int)< (pn:Int):=by omega
     have x7:wr.cell? ⟨w.heap.size,7,none⟩=some (.slice (some ⟨g1,o1,none⟩) pn pc):=by exact jy
     have y7:wr.cell? ⟨w.heap.size+1,7,none⟩=some (.slice (some ⟨g2,o2,none⟩) pn qc):=by exact jz
     go_wp2_with (fail);refine Zfq ?_;refine GN ?_;refine YJ 40 _ _ (.slice (some ⟨g1,o1,none⟩) pn pc) rfl rfl rfl (fun w h=>by simp [go_sem,h]) (fun w h=>by have h:=h.1.cell 7; rw [HXE.out] at h; exact h) ?_;refine Qe ?_;refine BL ?_;refine Dk 61 _ g1 (o1+k*3) u _ rfl rfl rfl (fun w' h=>Y6 R1.out.1 R1.out.2 h.2.2) JN rfl On ?_;refine Qe ?_;refine GN ?_;refine YJ 40 _ _ (.slice (some ⟨g2,o2,none⟩) pn qc) rfl rfl rfl (fun w h=>by simp [go_sem,h]) (fun w h=>by have h:=h.2.1.cell 7; rw [HYE.out] at h; exact h) ?_;refine Qe ?_;refine BL ?_;refine Dk 61 _ g2 (o2+k*3) u _ rfl rfl rfl (fun w' h=>Y6 R2.out.1 R2.out.2 h.2.2) JN rfl On ?_;refine Qe ?_;refine fv u u false rfl rfl rfl ZI ?_;exact ZfS
    ·obtain rfl:k=pn:=by omega
     clear XP;have XP: ¬k < k:=by omega
     have x7:wr.cell? ⟨w.heap.size,7,none⟩=some (.slice pa k pc):=by exact jy
     have y7:wr.cell? ⟨w.heap.size+1,7,none⟩=some (.slice qa k qc):=by exact jz
     go_wp2_with (fail);go_ret;exact ⟨rfl,B0.out⟩
theorem An {P:Program}{ops:Array Oper}{rest:List Oper}{op:Oper}{a:Act}{C:Zc→Prop}{Qa:Act→Prop}(ty:ZN)(x:Yz)(b o:Nat)(v:Rc)(d:TypeDesc)(hw:YQ op (yielded ops a.tmps)=true)(ho:op.op= .load ty x)(hx:a.eval x= .pointer (some ⟨b,o,none⟩))
  (hC: ∀w,C w→w.rangeAt b o v.row) (hu:P.underlying ty=some d) (hd:d.isRow=true) (hi:(P.info? ty).map (·.size)=some 9)
  (h:ZW P ops C Qa rest (a.put op.dst (.agg (Zw v)))) :ZW P ops C Qa (op::rest) a:=by
 exact sE
def Rt (w:Zc)(S:Nat→Prop)(a:Option Addr)(vs:List Rc)(l:List Rp) :Prop:=
 Kc Jc 9 w S a vs∧vs.length=l.length∧ ∀(i:Nat) (v:Rc) (r:Rp),vs[i]?=some v→l[i]?=some r→v=SW r v.aa v.ac v.pa v.pc∧Mw w S r v.aa v.pa
theorem Rt.below {w w':Zc}{S:Nat→Prop}{a:Option Addr}{vs:List Rc}{l:List Rp}(h:Rt w S a vs l)(hb:Zs w.heap.size w w') :Rt w' S a vs l:=
 ⟨h.1.below hb,h.2.1,fun i v r h1 h2=>⟨(h.2.2 i v r h1 h2).1,(h.2.2 i v r h1 h2).2.below hb⟩⟩
theorem Rt.kept {w w':Zc}{S:Nat→Prop}{a:Option Addr}{vs:List Rc}{l:List Rp}(h:Rt w S a vs l)(hb:Kept S w w') :Rt w' S a vs l:=
 ⟨h.1.kept hb,h.2.1,fun i v r h1 h2=>⟨(h.2.2 i v r h1 h2).1,(h.2.2 i v r h1 h2).2.kept hb⟩⟩
theorem lO (a b:Option Addr)(ca cb n:Nat)(vs us:List Rc)(l:List Rp)(w:Zc){S1 S2:Nat→Prop}(hx:Rt w S1 a vs l)(hy:Rt w S2 b us l)(hn:l.length=n)(hb:n≤1000000)(hl: ∀r ∈ l,r.la.length≤100000∧r.lp.length≤100000) :
  Zj Zb 28 #[.slice a n ca,.slice b n cb] w fun e w'=>e= .returned (.bool true)∧Zs w.heap.size w w':=by
 have HX:=Za hx;have HY:=Za hy;have HN:=Za hn;have HL:=Za hl;clear hx hy hn hl;have B0:Hid (Zs w.heap.size w w):=Za (Zp _ _);go_enter Tryz.func28,Tryz.ntmps28;go_wp2_with (fail);go_loopw [5] (fun i wr=> ∃k:Nat,k≤n∧i= .int .i64 k∧Hid (Zs w.heap.size w wr)) (fun i _=>n -(Qz i).toNat)
 case atStart=>exact ⟨0,by omega,rfl,B0⟩
 case round=>
  clear B0;obtain ⟨k,hk,rfl,B0⟩:=hrel
  by_cases XP:k < n
  ·obtain ⟨r,hr⟩ : ∃r,l[k]?=some r:=⟨_,Zf Rh⟩;obtain ⟨v,hv⟩ : ∃v,vs[k]?=some v:=⟨_,Zf (by rw [HX.out.2.1,HN.out]; exact XP)⟩;obtain ⟨u,hu⟩ : ∃u,us[k]?=some u:=⟨_,Zf (by rw [HY.out.2.1,HN.out]; exact XP)⟩;obtain ⟨g1,o1,rfl,_,l1,r1⟩:=HX.out.1.at hv;obtain ⟨g2,o2,rfl,_,l2,r2⟩:=HY.out.1.at hu;have R1:=Za (Zh r1 l1);have R2:=Za (Zh r2 l2);obtain ⟨ev,sv⟩:=HX.out.2.2 k v r hv hr;obtain ⟨eu,su⟩:=HY.out.2.2 k u r hu hr;have hlr:=HL.out r (ZB hr);have HS:Hid (∀wx,Zs w.heap.size w wx→Zj Zb 15 #[.agg (Zw v),.agg (Zw u)] wx fun e w'=>e= .returned (.bool true)∧Zs wx.heap.size wx w'):=Za fun wx hb=>by
    rw [ev,eu];exact fD r _ _ _ _ _ _ _ _ wx (sv.below hb) (su.below hb) Ze Ze
   clear r1 r2 l1 l2 hr hv hu ev sv eu su hlr;have mR:(0:Int)≤(k:Int):=by omega
   have DX:(k:Int)< (n:Int):=by omega
   go_wp2_with (fail);try simp only [Uh]
   refine wqT 8 ?_;refine BA ?_;refine DP ?_;refine An 42 _ g1 (o1+k*9) v _ rfl rfl rfl (fun w' h=>by obtain ⟨m,rfl⟩:=h; exact Y6 R1.out.1 R1.out.2 (below_drewN B0.out m)) Yb rfl YS ?_;refine Qe ?_;refine DP ?_;refine An 42 _ g2 (o2+k*9) u _ rfl rfl rfl (fun w' h=>by obtain ⟨m,rfl⟩:=h; exact Y6 R2.out.1 R2.out.2 (below_drewN B0.out m)) Yb rfl YS ?_;refine Qe ?_;refine Qc ?_;intro _ JB;obtain ⟨m,Xh⟩:=JB;subst Xh;have B1:=Za (below_drewN B0.out m);clear B0;generalize wr.drewN m=W at*;go_wp2_with (fail);refine (HS.out _ B1.out).mono ?_;rintro e w2 ⟨rfl,hb⟩;have B2:=Za (B1.out.trans (hb.mono B1.out.size));clear B1 hb HS;go_wp2_with (fail);go_roundw
   case rel=>exact ⟨k+1,by omega,by go_num,B2⟩
   case measure=>exact Bl
  ·obtain rfl:k=n:=by omega
   clear XP;have XP: ¬k < k:=by omega
   go_wp2_with (fail);go_ret;exact ⟨rfl,B0.out⟩
end
section
open Go Go.RowKit
section
variable {N M:Nat} {w0:DR} {w w' w1:Zc} {c:Nat→Int} {a:Pl} {q:Ql} {Z Z':Nat→Zc→(Nat→Prop)→Prop} {s s':Sg} {L L':List QT} {k:Nat} {S T U:Nat→Prop}
theorem Eg.rebase (h:Eg N w0 w c a q Z s L) : ∃S:Nat→Prop,Eg N ⟨S,w⟩ w c a q Z s L∧(∀i,S i→i < w.heap.size)∧(∀i,S i→PA w0 i):=by
 obtain ⟨X,hX,hZ,hN,Φ,F,g1,g2⟩:=h;exact ⟨fun i=> ∃k,k < N∧Φ k i,⟨X,hX,hZ,hN,Φ,F,fun k hk i hi=> .inl ⟨k,hk,hi⟩,ZH _ _⟩,fun i ⟨k,hk,hi⟩=>F.lt k hk i hi,fun i ⟨k,hk,hi⟩=>g1 k hk i hi⟩
theorem Eg.aside (h:Eg N ⟨S,w⟩ w c a q Z s L)(hk:Kept T w w')(hd: ∀i,S i→ ¬T i) :Eg N ⟨S,w'⟩ w' c a q Z s L:=by
 obtain ⟨X,hX,hZ,hN,Φ,F,g1,g2⟩:=h;have hs: ∀k,k < N→ ∀i,Φ k i→S i:=fun k hk i hi=>(g1 k hk i hi).resolve_right (by have:=F.lt k hk i hi; show ¬w.heap.size≤i; omega)
 exact ⟨X,hX,hZ,hN,Φ,⟨fun j hj=>(Xo (BK hX) j).2 w w' _ _ (F.part j hj) hk fun i hi=>hd i (hs j hj i hi),fun j hj i hi=>Ya (F.lt j hj i hi) hk.size,F.ap⟩,fun k hk i hi=> .inl (hs k hk i hi),ZH _ _⟩
theorem Eg.aside_below (h:Eg N ⟨S,w⟩ w c a q Z s L)(hb:Zs w.heap.size w w') :Eg N ⟨S,w'⟩ w' c a q Z s L:=h.aside (Kept.of_below (S:=fun _=>False) hb) fun _ _ h=>h
theorem Eg.part_off (h:Eg (N+1) w0 w c a q Z s L)(hN:11≤N) : ∃S T:Nat→Prop,Eg N ⟨S,w⟩ w c a q Z s L∧Z N w T∧(∀i,S i→ ¬T i)∧(∀i,S i→i < w.heap.size)∧(∀i,T i→i < w.heap.size)∧(∀i,S i→PA w0 i)∧(∀i,T i→PA w0 i):=by
 obtain ⟨X,hX,hZ,_,Φ,F,g1,g2⟩:=h;refine ⟨fun i=> ∃k,k < N∧Φ k i,Φ N,⟨X,hX,fun k h1 h2=>hZ k h1 Ze,hN,Φ,⟨fun k hk=>F.part k Ze,fun k hk=>F.lt k Ze,fun j k hj hk=>F.ap j k Ze Ze⟩,fun k hk i hi=> .inl ⟨k,hk,hi⟩,ZH _ _⟩,?_,?_,?_,?_,?_,?_⟩
 ·have:=F.part N Ze;rwa [pt_high Ze,Bi hN,hZ N hN Ze] at this
 ·exact fun i ⟨k,hk,hi⟩=>F.ap k N Ze Ze Ze i hi
 ·exact fun i ⟨k,hk,hi⟩=>F.lt k Ze i hi
 ·exact F.lt N Ze
 ·exact fun i ⟨k,hk,hi⟩=>g1 k Ze i hi
 ·exact g1 N Ze
end
theorem iN {w:Zc}{base e k n:Nat}{v:Zl}{xs:List Zl}(h:w.ownsRow base e k v n xs) : ∃a cp,v= .slice a n cp:=by
 rcases h.2 with ⟨h1,h2⟩ | ⟨g,cp,cur,h1,_⟩
 ·exact ⟨none,0,by rw [h1,h2]⟩
 ·exact ⟨_,_,h1⟩
theorem SX {g n:Nat}{l:List Rp}{w:Zc}{T:Nat→Prop}(h:Mv g n l w T)(hl:l.length=n) : ∃vs:List Rc,vs.length=l.length∧Blk w g 42 (Yl Jc vs).toArray∧T g∧
  ∀(i:Nat) (v:Rc) (r:Rp),vs[i]?=some v→l[i]?=some r→v=SW r v.aa v.ac v.pa v.pc∧Mw w (fun b=>b=g∨ ¬T b) r v.aa v.pa:=by
 obtain ⟨vs,h1,h2,h3,_,h4⟩:=h;rw [hl,Nat.sub_self,List.replicate_zero,List.append_nil] at h2;exact ⟨vs,h1,h2,h3,fun i v r hv hr=>⟨(h4 i v r hv hr).1,(h4 i v r hv hr).2.1,(h4 i v r hv hr).2.2⟩⟩
theorem bQ {w:Zc}{g n:Nat}{vs:List Rc}(h:Blk w g 42 (Yl Jc vs).toArray)(hl:vs.length=n)(hn:n≤1000000) :w.ownsRow 0 42 9 (.slice (some ⟨g,0,none⟩) n n) n (Yl Jc vs):=
 SH h (by rw [FK,hl]) UH
theorem wz {g n:Nat}{l:List Rp}{w:Zc}{T:Nat→Prop}(h:Mv g n l w T)(hl:l.length=n)(hn:n≤1000000) : ∃vs:List Rc,Rt w (fun b=> ¬T b) (some ⟨g,0,none⟩) vs l:=by
 obtain ⟨vs,h1,h2,h3,h4⟩:=SX h hl;refine ⟨vs,(KW (row:=Jc) Rc.row_len (bQ h2 (h1.trans hl) hn) (h1.trans hl)).more fun i _ hi e=>hi ?_,h1,fun i v r hv hr=>⟨(h4 i v r hv hr).1,(h4 i v r hv hr).2.more fun i _ hi=> .inr hi⟩⟩;simp [Y4] at e;exact e▸h3
theorem lN {w:Zc}{g n:Nat}{vs:List Rc}(h:Blk w g 42 (Yl Jc vs).toArray) :0 < n→ ∃ad,(some ⟨g,0,none⟩ :Option Addr)=some ad∧ ∀j u,(Yl Jc vs)[j]?=some u→w.cell? (ad.add j)=some u:=fun _=>
 ⟨_,rfl,fun j u hu=>by rw [add_plain,ZX,h.cell,YL]; exact hu⟩
theorem nF {w w':Zc}{g1 g2 n1 n2:Nat}{l1 l2:List Rp}{T1 T2 U:Nat→Prop}{rz th:List Rc}{ap:Option Addr}{cp:Nat}
  (k1:rz.length=l1.length) (t1:T1 g1) (f1: ∀(i:Nat) (v:Rc) (r:Rp),rz[i]?=some v→l1[i]?=some r→v=SW r v.aa v.ac v.pa v.pc∧Mw w (fun b=>b=g1∨ ¬T1 b) r v.aa v.pa)
  (k2:th.length=l2.length) (f2: ∀(i:Nat) (v:Rc) (r:Rp),th[i]?=some v→l2[i]?=some r→v=SW r v.aa v.ac v.pa v.pc∧Mw w (fun b=>b=g2∨ ¬T2 b) r v.aa v.pa)
  (hd: ∀i,T1 i→ ¬T2 i) (u1: ∀i,U i→ ¬T1 i) (u2: ∀i,U i→ ¬T2 i) (ul: ∀i,U i→i < w.heap.size) (e1:l1.length=n1) (e2:l2.length=n2)
  (ho:w'.ownsRow 0 42 9 (.slice ap (n1+n2) cp) (n1+n2) (Yl Jc rz++Yl Jc th)) (hk:Kept (fun i=>i=g1) w w') (Hz:(Yj ap (n1+n2) cp).ownBlock=some g1∨(Yj ap (n1+n2) cp).ownBlock=some w.heap.size) :Rt w' U ap (rz++th) (l1++l2):=by
 rw [←JP] at ho;refine ⟨(KW (row:=Jc) Rc.row_len ho (by rw [ZE]; omega)).more fun i _ hi e=>?_,by simp [k1,k2],fun i v r hv hr=>?_⟩
 ·rcases Hz with h | h
  ·rw [h] at e; injection e with e; exact u1 i hi (e▸t1)
  ·rw [h] at e; injection e with e; have:=ul i hi; omega
 ·rcases Ys i rz.length with h | h
  ·rw [Yn h] at hv;rw [Yn Ze] at hr;obtain ⟨x1,x2⟩:=f1 i v r hv hr;exact ⟨x1,(x2.kept (hk.more fun j _ e=> .inl e)).more fun j _ hj=> .inr (u1 j hj)⟩
  ·rw [YF h] at hv;rw [YF Ze,←k1] at hr;obtain ⟨x1,x2⟩:=f2 (i - rz.length) v r hv hr;exact ⟨x1,(x2.kept (hk.more fun j _ e=> .inr (e▸hd _ t1))).more fun j _ hj=> .inr (u2 j hj)⟩
section
variable {c:Nat→Int} {k:Nat} {s:Sg} {L:List QT}
theorem ZbQ (hc:GE c)(h:Inv c k s)(hk:k≤1000000)(o:Oq) :(opO c s o).1.la.length≤100000∧(opO c s o).1.lp.length≤100000:=by
 have hb:=(ly hc h hk o).2.2.1;have kM:=hc.g.pay1;refine ⟨?_,by omega⟩;have hr: ∀x y:Int,(Ge s x y).la.length≤100000:=fun _ _=>XL _
 have ha: ∀x y z:Int,(Fo s x y z).la.length≤100000:=fun _ _ _=>XL _
 have hasg: ∀(om:Int→Int) (F V:List Int) (B:Int),(DK om F V B).1.length≤F.length+V.length:=fun om F V B=>
  LH (P:=fun F V B r=>r.1.length≤F.length+V.length) (fun B=>XL _) (fun F V B _ hx=>XL _) (fun F V B r hb hx h=>by
   rcases F with _ | ⟨x,F⟩
   ·rcases V with _ | ⟨y,V⟩
    ·cases hb
    ·simp [FF,FG] at h ⊢; omega
   ·simp [FF,FG] at h ⊢; omega) _ F V B rfl
 unfold opO
 split
 ·unfold Fw; exact AM
 split
 ·unfold exO; exact AM
 split
 ·unfold exO; exact AM
 split
 ·unfold Wp; exact AM
 split
 ·unfold cT; exact AM
 split
 ·unfold cZ; exact AM
 split
 ·show (nxO c s).length≤100000;unfold nxO
  split
  ·unfold WB M9;rw [YE];refine Nat.le_trans (hasg _ _ _ _) ?_;have:=h.fl;have:=h.wl;have:=hc.q1;show s.F.length+s.W.length≤100000;omega
  ·exact XL _
 ·exact hr _ _
theorem iM: ∀(l:List Oq) {k:Nat} {s:Sg} {L:List QT},N5 c k s L→k+l.length≤1000000→(∀o ∈ l,Kk o)→ ∀r ∈ GY c s l,r.la.length≤100000∧r.lp.length≤100000
 | [],k,s,L,_,_,_=>fun r hr=>(Yf hr).elim
 | o::l,k,s,L,h,hk,hf=>fun r hr=>by
  have aK:k+(l.length+1)≤1000000:=hk
  rcases ZY.1 hr with rfl | hr
  ·exact ZbQ h.ge h.inv Ze o
  ·exact iM l (h.op Ze o (hf o ZI)) Ze (fun x hx=>hf x Bj) r hr
theorem Wk (a b:List Oq) : ∀(s:Sg) (L:List QT),Kf c s L (a++b)=Kf c (Vr c s a) (Kf c s L a) b:=by
 induction a with
 | nil=>exact fun _ _=>rfl
 | cons o a ih=>exact fun s L=>by simp only [Yh,Kf,Vr,ih]
end
end
section
open Go Go.RowKit Go.Deep
def ot:Oq:=⟨1,0,0,32⟩
def MS:Oq:=⟨7,0,0,0⟩
def kG:Oq:=⟨2,0,0,0⟩
def tX:List Oq:= [ot,MS,MS,MS,MS]
def alS:Sg:=Vr KL fP tX
def Zd1:Sg:=(opO KL alS kG).2
def Wz (k:Nat) :Sg:=Vr KL Zd1 (Zy k MS)
theorem tY:((opO KL alS kG).1.cd,(opO KL alS kG).1.dl)=(0,8):=by kernel_rfl
theorem nE:((List.range 15).all fun k=>(opO KL (Wz k) MS).1.lp.length==0)=true:=by kernel_rfl
theorem tZ:((opO KL (Wz 15) MS).1.ep,(opO KL (Wz 15) MS).1.bl,(opO KL (Wz 15) MS).1.lp)=(5,20,[⟨0,32,true⟩]):=by kernel_rfl
theorem IK (k:Nat) :Wz (k+1)=(opO KL (Wz k) MS).2:=by
 unfold Wz;rw [List.replicate_succ',(CI KL MS (Zy k MS) Zd1 []).1]
theorem uE:GE KL:=LI WK RZ
theorem uV:Kk ot:=by unfold Kk; decide
theorem dV:Kk MS:=by unfold Kk; decide
theorem oO:Kk kG:=by unfold Kk; decide
theorem nD: ∀o ∈ tX,Kk o:=fun o ho=>by
 simp only [tX,ZY,Yf,or_false] at ho
 rcases ho with rfl | rfl | rfl | rfl | rfl
 ·exact uV
 all_goals exact dV
theorem ZbR: ∃i,Tryz.prog.info? 37=some i∧i.size=4∧i.zero=some (.agg (ZM ⟨0,0,0,0⟩)):=by
 have h:(Tryz.prog.info? 37).map (fun i=>(i.size,i.zero))=some (4,some (.agg (ZM ⟨0,0,0,0⟩))):=by kernel_rfl
 cases hi:Tryz.prog.info? 37 with
 | none=>rw [hi] at h; cases h
 | some i=>
  rw [hi] at h;simp at h;exact ⟨i,rfl,h.1,h.2⟩
theorem q3 (d0 d1 d2 d3 d4:Oq)(w:Zc) :(Xc 25 5 #[(0,.agg (ZM d0)),(1,.agg (ZM d1)),(2,.agg (ZM d2)),(3,.agg (ZM d3)),(4,.agg (ZM d4))]).run Zb w= .ok (.slice (some ⟨w.heap.size,0,none⟩) 5 5) (w.alloc (.cells (Yl Ud [d0,d1,d2,d3,d4]).toArray 37)):=by
 obtain ⟨i,hi,hs,hz⟩:=ZbR;simp [Xc,run_underlying Tryz.underlying25,sizeOf,typeInfo,hi,hz,hs,Instr.fill,newRow,go_sem,ZM,Ud,Yl]
theorem cK {ops:Array Oper}{rest:List Oper}{o:Oper}{a:Act}{w:Zc}{Q:Exit→Act→Zc→Prop}(DV:o.guard=none)(x0 x1 x2 x3 x4:Yz)(d0 d1 d2 d3 d4:Oq)(ho:o.op= .buildSlice 25 5 #[(0,x0),(1,x1),(2,x2),(3,x3),(4,x4)])
  (h0:a.eval x0= .agg (ZM d0)) (h1:a.eval x1= .agg (ZM d1)) (h2:a.eval x2= .agg (ZM d2)) (h3:a.eval x3= .agg (ZM d3)) (h4:a.eval x4= .agg (ZM d4))
  (K:YY Zb ops Q rest (a.put o.dst (.slice (some ⟨w.heap.size,0,none⟩) 5 5)) (w.alloc (.cells (Yl Ud [d0,d1,d2,d3,d4]).toArray 37))) :YY Zb ops Q (o::rest) a w:=
 wpList_plain DV fun _ hK=>by
  unfold Oper.wp execOp;simp only [ho,List.map_toArray,List.map_cons,List.map_nil,h0,h1,h2,h3,h4,Sem.run_bind,q3 d0 d1 d2 d3 d4 w,ZQ,Sem.run_pure];exact hK _ _ K
section
variable {N:Nat} {w0:DR} {w:Zc} {c:Nat→Int} {a:Pl} {q:Ql} {Z:Nat→Zc→(Nat→Prop)→Prop} {s:Sg} {L:List QT}
theorem Eg.oplist (h:Eg N w0 w c a q Z s L)(l:List Oq) :Eg (N+1) w0 (w.alloc (.cells (Yl Ud l).toArray 37)) c a q (ZD Z N (Kt Ud 4 (some ⟨w.heap.size,0,none⟩) l)) s L:=by
 have hN:=h.low;have h1:=h.box (Yl Ud l).toArray 37;have h2:=h1.as (r:=N) hN Ze xput_same (Q':=Kt Ud 4 (some ⟨w.heap.size,0,none⟩) l) Lp fun S hS=>⟨fun h0=>⟨w.heap.size,0,rfl,fun hn=>hn ((hS.2 _).2 rfl),hS.1.lt,fun i v hi=>SV Oq.row_len (fun j u hu=>by
  rw [ZX,hS.1.cell,YL]; exact hu) hi⟩,fun i hi=>by rw [(hS.2 i).1 hi]; exact hS.1.lt⟩
 rwa [Xk] at h2
end
end
section
open Go Go.RowKit Go.Deep
theorem uU (R:Rc)(W:Zc) :(Instr.field 42 (.agg (Zw R)) 7).run Zb W= .ok (.slice R.pa R.pn R.pc) W:=by kernel_rfl
theorem Wt {ops:Array Oper}{rest:List Oper}{o:Oper}{a:Act}{w:Zc}{Q:Exit→Act→Zc→Prop}(hw:YQ o (yielded ops a.tmps)=true)(x:Yz)(p:Pm)(ho:o.op= .buildSlice 40 1 #[(0,x)])(hx:a.eval x= .agg (Jk p))
  (h:YY Zb ops Q rest (a.put o.dst (.slice (some ⟨w.heap.size,0,none⟩) 1 1)) (w.alloc (.cells (Jk p) 61))) :YY Zb ops Q (o::rest) a w:=by
 unfold YY;rw [if_pos hw];exact .inl (rE x p ho hx h)
theorem gS (w:Zc) :Zj Zb 11 #[] w fun e w'=>e= .returned (.bool true)∧Zs w.heap.size w w':=by
 have h0:N5 KL 0 fP []:=Zfk WK RZ YU;have hS:=N5.ops tX h0 YU nD;have HG:=Za uE;obtain ⟨sa,yX⟩ : ∃sa,Vr KL fP tX=sa:=⟨_,rfl⟩;obtain ⟨La,hLa⟩ : ∃La,Kf KL fP [] tX=La:=⟨_,rfl⟩;rw [yX,hLa] at hS;have HS:=Za hS;have HR:Hid (∀wx (N:Nat) w0 a q Z al cl,Eg N w0 wx KL a q Z fP []→Rv N w0 Z al tX→Zj Zb 27 #[.pointer (some ⟨q.e,0,none⟩),.slice al 5 cl] wx fun e w'=> ∃g,e= .returned (.slice (some ⟨g,0,none⟩) 5 5)∧Eg (N+1) w0 w' KL a q (ZD Z N (Mv g 5 (GY KL fP tX))) sa La):=Za fun wx N w0 a q Z al cl hx hs=>by
  have:=uR h0 YU YU nD hx hs cl;rw [yX,hLa] at this;exact this
 obtain ⟨Rx,hRx⟩ : ∃Rx,(opO KL sa kG).1=Rx:=⟨_,rfl⟩;have iH:=tY;rw [show opO KL alS kG=opO KL sa kG by rw [←yX]; rfl,hRx] at iH;obtain ⟨L1,hL1⟩ : ∃L1,Gn KL sa La kG=L1:=⟨_,rfl⟩;have Cr:(opO KL sa kG).2=Wz 0:=by rw [←yX]; rfl
 have HX:Hid (∀wx (N:Nat) w0 a q Z,Eg N w0 wx KL a q Z sa La→Zj Zb 16 #[.pointer (some ⟨q.e,0,none⟩),.agg (ZM kG)] wx (na N w0 KL a q Z (Rx,Wz 0) L1)):=Za fun wx N w0 a q Z hx=>by
  have:=dI hS YU hx kG oO;rw [hL1,show opO KL sa kG=(Rx,Wz 0) from Prod.ext hRx Cr] at this;exact this
 have Se:N5 KL 6 (Wz 0) L1:=by
  have:=hS.op YU kG oO;rwa [Cr,hL1] at this
 have Zeq:Rx.cd=0∧Rx.dl=8:=by
  injection iH with a b;exact ⟨a,b⟩
 have HT:Hid (∀k,k < 20→ ∀L,N5 KL (6+k) (Wz k) L→ ∃R L',(∀wx (N:Nat) w0 a q Z,Eg N w0 wx KL a q Z (Wz k) L→Zj Zb 16 #[.pointer (some ⟨q.e,0,none⟩),.agg (ZM MS)] wx (na N w0 KL a q Z (R,Wz (k+1)) L'))∧N5 KL (6+(k+1)) (Wz (k+1)) L'∧(k < 15→R.lp.length=0)∧(k=15→R.ep=5∧R.bl=20∧R.lp=[⟨0,32,true⟩])):=Za fun k hk L hs=>by
  have h2:=hs.op Ze MS dV;rw [←IK] at h2;refine ⟨(opO KL (Wz k) MS).1,_,fun wx N w0 a q Z hx=>?_,h2,fun hk=>?_,fun hk=>?_⟩
  ·have:=dI hs Ze hx MS dV;rw [show opO KL (Wz k) MS=((opO KL (Wz k) MS).1,Wz (k+1)) by rw [IK]] at this;exact this
  ·have:=List.all_eq_true.1 nE k (List.mem_range.2 hk);simpa using this
  ·subst hk;have:=tZ;injection this with h1 h2;injection h2 with h2 h3;exact ⟨h1,h2,h3⟩
 have Iu:=Za Zeq;have Mu:=Za Se;clear h0 hS yX hLa hRx iH hL1 Cr Se Zeq HS;generalize Wz=T at*;go_enter Tryz.func11,Tryz.ntmps11;go_wp2_with fail;refine (I6 w).mono ?_;rintro e w1 ⟨rfl,ER⟩;have HB:=Za ER;clear ER;go_wp2_with fail;refine (Zay w1 HG.out RZ).mono ?_;rintro e w2 ⟨a,q,rfl,h2⟩;have E2:=Za (h2 CF);clear h2;go_upto_region 5 with (first | (refine Zo rfl _ _ _ rfl w2.heap.size (ZM MS) rfl rfl 37 _ (ZG w2 _) QL rfl (OU _) ?_; rw [Zu]));have E3:=Za (E2.out.box (ZM MS) 37);refine JG ?_;clear E2;generalize w2.heap.size=b at*;generalize w2.alloc (.cells (ZM MS) 37)=W3 at*;have Wu:=Za (E3.out.blkAt (r:=11) Ze Ze xput_same);go_wp2_with (first | (refine Zn rfl 37 _ rfl b rfl 37 _ (0,0) _ Wu.out ZV rfl QL ?_) | (refine cK rfl _ _ _ _ _ ot MS MS MS MS rfl rfl rfl rfl rfl rfl ?_));have E4:=E3.out.oplist tX;refine (HR.out _ _ _ _ _ _ _ _ E4 (.inr ⟨12,by omega,by omega,xput_same⟩)).mono ?_;rintro e w5 ⟨g5,rfl,h5⟩;have E5:Hid (Eg 12 ⟨fun _=>False,w1⟩ w5 KL a q (ZD CF 11 (YW b 37 (ZM MS))) sa La):=Za (((h5.less Ze).less Ze).ext fun k h1 h2=>by rw [xput_ne Ze,xput_ne Ze]);clear h5 E4 HR E3 Wu;have Wu:=Za (E5.out.blkAt (r:=11) Ze Ze xput_same);go_wp2_with (first | (refine Zn rfl 37 _ rfl b rfl 37 _ (0,0) _ Wu.out ZV rfl QL ?_));refine (HX.out _ _ _ _ _ _ E5.out).mono ?_;rintro e w6 ⟨ia,ca,ip,cp,rfl,h6⟩;have h6':Eg 12 ⟨fun _=>False,w1⟩ w6 KL a q (ZD CF 11 (YW b 37 (ZM MS))) (T 0) L1:=((h6.less Ze).less Ze).ext fun k h1 h2=>by unfold rowsX; rw [xput_ne Ze,xput_ne Ze]
 obtain ⟨R,hR⟩ : ∃R,SW (Rx,T 0).1 ia ca ip cp=R:=⟨_,rfl⟩;have hRc:R.cd=0∧R.dl=8:=by rw [←hR]; exact Iu.out
 rw [hR];have hE7:=h6'.box (Zw R) 42;have E6:Hid (Eg 12 ⟨fun _=>False,w1⟩ (w6.alloc (.cells (Zw R) 42)) KL a q (ZD CF 11 (YW b 37 (ZM MS))) (T 0) L1):=Za (hE7.drop Ze);have y1:(w6.alloc (.cells (Zw R) 42)).cell? ⟨w6.heap.size,1,none⟩=some (.int .i64 0):=by rw [←hRc.1]; exact (Zv w6 42 (Zw R)).cell 1
 have y5:(w6.alloc (.cells (Zw R) 42)).cell? ⟨w6.heap.size,5,none⟩=some (.int .i64 8):=by rw [←hRc.2]; exact (Zv w6 42 (Zw R)).cell 5
 clear h6 h6' hR hRc hE7 E5 HX Iu Wu;go_upto_region 9 with (first | (refine Zo rfl _ _ _ rfl w6.heap.size (Zw R) rfl rfl 42 _ (ZG w6 _) YS rfl (YH _) ?_; rw [Zu]));generalize w6.alloc (.cells (Zw R) 42)=W6 at*;generalize w6.heap.size=z6 at*;clear y1 y5;go_wp2_with fail;go_loopw [37] (fun s37 wr=> ∃k:Nat,k≤15∧s37= .int .i64 k∧Hid (∃L,N5 KL (6+k) (T k) L∧Eg 12 ⟨fun _=>False,w1⟩ wr KL a q (ZD CF 11 (YW b 37 (ZM MS))) (T k) L)) (fun s37 _=>15 -(Qz s37).toNat)
 case atStart=>exact ⟨0,by omega,rfl,Za ⟨L1,Mu.out,E6.out⟩⟩
 case round=>
  obtain ⟨k,hk,rfl,HE⟩:=hrel;obtain ⟨L,Um,hE⟩:=HE.out;obtain ⟨Rk,L',hA,ZeX,hlp,vi⟩:=HT.out k Ze L Um;have HA:=Za (hA _ _ _ _ _ _ hE);have Ww:=Za ZeX;have Wu:=Za (hE.blkAt (r:=11) Ze Ze xput_same);have HLa:=Za vi;have HLp:=Za hlp;obtain ⟨T2,hT2⟩ : ∃T2,T (k+1)=T2:=⟨_,rfl⟩;rw [hT2] at HA Ww;have HTe:=Za hT2;clear hT2;clear hA ZeX Um hE HE E6 vi hlp HT
  by_cases XP:k < 15
  ·have hlp:=HLp.out XP;go_wp2_with (first | (refine Zn rfl 37 _ rfl b rfl 37 _ (0,0) _ Wu.out ZV rfl QL ?_));refine HA.out.mono ?_;rintro e w8 ⟨ia,ca,ip,cp,rfl,h8⟩;obtain ⟨R8,hR8⟩ : ∃R8,SW (Rk,T2).1 ia ca ip cp=R8:=⟨_,rfl⟩;have N0:R8.pn=0:=by rw [←hR8]; exact hlp
   rw [hR8];have H8:=Za h8;clear h8 HA hlp Wu hR8;have H9:Hid (Eg 12 ⟨fun _=>False,w1⟩ w8 KL a q (ZD CF 11 (YW b 37 (ZM MS))) T2 L'):=Za (((H8.out.less Ze).less Ze).ext fun k h1 h2=>by unfold rowsX; rw [xput_ne Ze,xput_ne Ze]);clear H8;have hfd:=uU R8 w8;rw [N0] at hfd;go_wp2_with fail;go_roundw
   case rel=>exact ⟨k+1,by omega,by go_num,Za ⟨L',by rw [HTe.out]; exact Ww.out,by rw [HTe.out]; exact H9.out⟩⟩
   case measure=>exact Bl
  ·obtain rfl:k=15:=by omega
   obtain ⟨l1,l2,l3⟩:=HLa.out rfl;go_wp2_with (first | (refine Zn rfl 37 _ rfl b rfl 37 _ (0,0) _ Wu.out ZV rfl QL ?_));refine HA.out.mono ?_;rintro e w8 ⟨ia,ca,ip,cp,rfl,h8⟩;have HP:=Za (show Kc Jb 3 w8 _ ip [⟨0,32,true⟩] from KW Pm.row_len (by have:=h8.row (r:=13) Ze Ze xput_same; simp only [l3] at this; exact this) rfl);obtain ⟨R8,hR8⟩ : ∃R8,SW (Rk,T2).1 ia ca ip cp=R8:=⟨_,rfl⟩;have H8:=Za h8.down;have y:R8.bl=20∧R8.ep=5∧R8.pa=ip∧R8.pn=1:=by rw [←hR8]; exact ⟨l2,l1,rfl,by show Rk.lp.length=1; rw [l3]; rfl⟩
   rw [hR8];clear h8 HA Wu hR8 l1 l2 l3 HLa HLp Ww;have y3:(w8.alloc (.cells (Zw R8) 42)).cell? ⟨w8.heap.size,3,none⟩=some (.int .i64 20):=by rw [←y.1]; exact (Zv w8 42 (Zw R8)).cell 3
   have y4:(w8.alloc (.cells (Zw R8) 42)).cell? ⟨w8.heap.size,4,none⟩=some (.int .i64 5):=by rw [←y.2.1]; exact (Zv w8 42 (Zw R8)).cell 4
   have y7:(w8.alloc (.cells (Zw R8) 42)).cell? ⟨w8.heap.size,7,none⟩=some (.slice ip 1 R8.pc):=by
    have:=(Zv w8 42 (Zw R8)).cell 7;rw [this];show some (Yj R8.pa R8.pn R8.pc)=_;rw [y.2.2.1,y.2.2.2]
   have HW:=Za (show Zs w8.heap.size w8 (w8.alloc (.cells (Zw R8) 42)) from (Zp _ _).alloc (Zg _) _);clear y;go_upto_region 15 with (first | (refine Zo rfl _ _ _ rfl w8.heap.size (Zw R8) rfl rfl 42 _ (ZG w8 _) YS rfl (YH _) ?_; rw [Zu]));generalize w8.alloc (.cells (Zw R8) 42)=W9 at*;go_wp2_with (first | (refine Eh (o:=⟨some 60,_,_,_,_,_⟩) (.agg (Jk ⟨0,32,true⟩)) rfl Ye ?_) | (refine Wt (o:=⟨some 61,_,_,_,_,_⟩) rfl _ ⟨0,32,true⟩ rfl rfl ?_));have HX:=Za (kv ip (some ⟨W9.heap.size,0,none⟩) 1 1 R8.pc 1 [⟨0,32,true⟩] [⟨0,32,true⟩] (W9.alloc (.cells (Jk ⟨0,32,true⟩) 61)) _ (fun _=>False) (HP.out.below (HW.out.trans ((Zp W9.heap.size W9).alloc (Zg _) _ |>.mono HW.out.size))) (fun _=>⟨W9.heap.size,0,rfl,fun h=>h,by simp,fun i v hi=>by
    rcases i with _ | i
    ·simp at hi;subst hi;exact (Zv W9 _ _).rangePm
    ·simp at hi⟩) rfl rfl Ze Ze)
   refine HX.out.mono ?_;rintro e zi ⟨rfl,hb10⟩;have H10:=Za hb10;have HZ:=Za (show W9.heap.size≤(W9.alloc (.cells (Jk ⟨0,32,true⟩) 61)).heap.size by simp);have HV:=Za (show Zs W9.heap.size W9 (W9.alloc (.cells (Jk ⟨0,32,true⟩) 61)) from (Zp _ _).alloc (Zg _) _);clear hb10 HX y3 y4 y7 HP;generalize W9.alloc (.cells (Jk ⟨0,32,true⟩) 61)=W10 at*;go_wp2_with fail;go_ret;refine ⟨rfl,HB.out.trans ((H8.out.trans ((HW.out.trans ((HV.out.trans (H10.out.mono HZ.out)).mono HW.out.size)).mono H8.out.size)).mono HB.out.size)⟩
end
end Go.Proofs.YtianiiijaopdpaaGreat
