/- Part 9 of 34: L17Py L17Rq L17Plain L13Met L13MetOps L21As L21Pm L21Oq L08Ent L08Row L08Ring L08New L08Put L06Ops L06Ref Reads L04TwoDuo L04TwoReq Ap Mns Ep. -/
import Derived.Test.YtobgbcdgffgdhaaGreatZx00
import Derived.Test.YtobgbcdgffgdhaaGreatZx05
import Derived.Test.YtobgbcdgffgdhaaGreatZx08
import Derived.Deep.CutRange
namespace Go.Proofs.YtobgbcdgffgdhaaGreat
set_option linter.unusedVariables false
set_option linter.unusedSimpArgs false
set_option maxRecDepth 100000
set_option maxHeartbeats 8000000
open _root_.And renaming intro -> Zm
open _root_.Array renaming all_eq_true_iff_forall_mem -> ZQ
open _root_.Go.RowKit renaming Below -> Zp
open _root_.Go.RowKit.Below renaming refl -> Zn
open _root_.Go.Proofs.YtobgbcdgffgdhaaGreat.Zu renaming alloc -> YK, cell -> Qc, drew -> Km, drewN -> XD, far -> Q0, frozen -> KE, kept -> Q3, new -> Zs, setRow -> Jv, set_ -> VH
open _root_.Bool renaming eq_iff_iff -> YD, not_eq_true' -> Vb
open _root_.Go.Builtin renaming zeroCells -> Y3
open _root_.Go renaming Calls -> Zv, Operand -> YW, TypeId -> ZL, Value -> Zl, World -> Zc, bodyPost_ret -> Ye, execOp -> XU, wpList -> Y2, wpList_store_row -> YQ
open _root_.Go.Calls renaming quiet_of -> QJ
open _root_.Go.Instr renaming buildSlice -> Xs
open _root_.Int renaming toNat_natCast -> Y7
open _root_.Go.IntKind renaming wrap_u64 -> Kz
open _root_.Go.Proofs.YtobgbcdgffgdhaaGreat.ZA renaming of_below -> Y9, refl -> ZS
open _root_.Go.Lib renaming cell?_alloc_some -> Q6
open _root_.List renaming all_eq_true -> YP, cons_append -> Yf, filter_append -> Q7, filter_cons -> JZ, flatMap_cons -> Jh, getD_eq_getElem?_getD -> Zo, getElem?_append_left -> Yw, getElem?_eq_getElem -> Zg, getElem?_eq_some_iff -> Zk, getElem?_set_ne -> Yn, getElem?_set_self -> Yz, getElem?_toArray -> XG, length_append -> ZI, length_cons -> Yg, map_cons -> Xa, map_nil -> Kr, map_toArray -> JD, mem_append -> Yb, mem_cons -> ZX, mem_cons_of_mem -> Vg, mem_of_getElem? -> Zz, mem_or_eq_of_mem_set -> XI, mem_singleton -> Ym, nil_append -> Qo, not_mem_nil -> Yk, replicate -> ZD
open _root_.Go.Lit renaming int -> YN
open _root_.Nat renaming add_assoc -> Jn, le_refl -> Zh, zero_add -> ZW
open _root_.Ne renaming symm -> Ji
open _root_.Go.Result renaming andThen_ok -> ZY
open _root_.Go.Sem renaming run_bind -> Yq, run_pure -> YX
open _root_.Go.Proofs.Tryz renaming prog -> Zb
open _root_.Go.Value renaming cells -> Yr, slice -> Ys
open _root_.Go.World renaming setRow_alloc_new -> Zq
open Go.Proofs.Tryz
theorem mU {G:Prop}(h:G:=by have:=hp.pos; omega) :G:=h
theorem Nh {G H:Prop} (k:H) (h:Dq H->G:=by
  intro zk;show wpQuiet _ _ _ _ [_,_,_] _;exact zk.o) :G:=h ⟨k⟩
theorem Hh {G H:Prop} (k:H) (h:Dq H->G:=by
  intro zk;show wpQuiet _ _ _ _ [_] _;exact zk.o) :G:=h ⟨k⟩
theorem Zgc {G:Prop} (h:G:=by
  go_upto_region 1 with (fail);generalize w.alloc (.cells (Ze v) 68)=W at*;obtain ⟨x0,x1,x2,x3,x4,x5,x6⟩:=T.o.cells;clear x0 x2 x3 x5 x6;go_wp2;go_ret;exact ⟨rfl,T.o.2⟩) :G:=h
theorem Zgt {G:Prop} (h:G:=by
  simp [Lit.wf,IntKind.min,IntKind.max,IntKind.signed,IntKind.bits];omega) :G:=h
theorem Rb {G:Prop} (h:G:=by
  unfold wrap64;omega) :G:=h
theorem Zmo {G:Prop} (h:G:=by
  rw [B2.cell,<-hp];have:=hw.get hy;have e:(f*2+(i*2+1))%(n*2)=(f+i)%n*2+1:=by
   rw [show f*2+(i*2+1)=(f+i)*2+1 by omega]
   rcases ZdK (N:=n) (s:=f+i) Zf with ⟨h1,h2⟩ | ⟨h1,h2⟩
   ·rw [h2,Nat.mod_eq_of_lt Zf]
   ·rw [h2,Nat.mod_eq_sub_mod Zf,Nat.mod_eq_of_lt Zf]; omega
  rw [hC,e] at this;exact DI) :G:=h
theorem Zmw {G:Prop} (h:G:=by
  have DB:(f*2)+Z.length<=C.length:=EM;have:=ak (C':=splice C (f*2) Z) HW.o ZE HC.o (length_splice _ _ _ DB) (fun p hp=>by
   rw [Dk _ _ _ DB]
   by_cases h1:p < (f*2)
   ·rw [if_pos h1]
   ·rw [if_neg h1,if_neg Zf])
  rw [HSV.o] at this;exact this) :G:=h
theorem Zmy {G:Prop} (h:G:=by
  refine ZA.setRow (S:=fun i=>i=b\/i=g) (ZA.setCell (S:=fun i=>i=b\/i=g) (ZA.setCell (S:=fun i=>i=b\/i=g) ?_ (.inl (.inl rfl)) _) (.inl (.inl rfl)) _) (.inr (Nat.le_refl _)) _;exact (((HKW.o.more (fun _ _ h=>h.elim)).drewN nr).trans OV.o (fun _ _ h=> .inr h)).drewN q2) :G:=h
theorem ZmF {G:Prop} (h:G:=by
  clear h h4;go_enter func114,ntmps114;exact Zgc) :G:=h
theorem ZmH {G:Prop} (h:G:=by
  clear h;go_enter func107,ntmps107;exact Zgc) :G:=h
theorem ZmS {G:Prop} (h:G:=by
  rcases j with _ | _ | j
  ·injection hv with hv; subst hv; exact Lib.cell?_alloc_some _ KT
  ·injection hv with hv; subst hv; exact Lib.cell?_alloc_some _ bQ
  ·cases hv) :G:=h
theorem ZmT {G:Prop} (h:G:=by
  rw [Below.heap_setCell _ _ _ _ (fun e=>(h.not ht).2 (by rw [hq,e]))];exact hk.block q (h.lt (List.mem_of_getElem? ht) hq) (fun e=>h.apart _ _ _ _ q hij ht hs hq e)) :G:=h
theorem Zm8 {G:Prop} (h:G:=by
  cases hi:Tryz.prog.info? 119 with
  | none=>rw [hi] at h; cases h
  | some i=>
   rw [hi] at h;simp at h;exact ⟨i,rfl,h.1,h.2.1,h.2.2⟩) :G:=h
theorem Znb {G:Prop} (h:G:=by
  go_wp2_with fail;refine H.o.mono ?_;rintro e w1 ⟨rfl,hb⟩;have HB:=Za hb;clear hb;go_wp2_with fail;go_ret;exact ⟨rfl,HB.o⟩) :G:=h
theorem ZeT {G:Prop} (h:G:=by
  rcases hi with rfl | hi
  ·exact (hS _).2 (.inr (.inl rfl))
  ·exact (hS _).2 (.inr (.inr ⟨s,List.mem_of_getElem? hs,hi⟩))) :G:=h
theorem Ze0 {G:Prop} (h:G:=by
  go_wp2_with fail;refine H.o.mono ?_;rintro e w1 ⟨rfl,m,rfl⟩;go_wp2_with fail;go_ret;exact ⟨rfl,HE.o m⟩) :G:=h
theorem Ze1 {G:Prop} (h:G:=by
  go_wp2_with fail;refine H.o.mono ?_;rintro e w' ⟨rfl,m,rfl⟩;go_wp2_with fail;exact aT) :G:=h
theorem Ze2 {G:Prop} (h:G:=by
  rw [B2.cell,<-hp];have:=hw.get hx;rw [hC,<-Nat.add_mul,Nat.mul_mod_mul_right] at this;exact DI) :G:=h
theorem Ze6 {G:Prop} (h:G:=by
  have:=Zu.set_ (w:=w3) (g:=B) (t:=165) (cs:=ss.toArray) (hBk.trans h.bks) j s';exact DI) :G:=h
theorem Zfb {G:Prop} (h:G:=by
  rcases Nat.lt_or_ge (i*2) F.length with h | h
  ·omega
  ·rw [List.getElem?_eq_none h] at hx; cases hx) :G:=h
theorem Zfw {G:Prop} (h:G:=by
  have:=Int.emod_lt_of_pos ep (b:=(n:Int)) mU;omega) :G:=h
theorem jf {G:Prop} (h:G:=by
  exact Zgt) :G:=h
theorem ZfJ {G:Prop} (h:G:=by
  rw [e];go_enter func112,ntmps112;exact Ra) :G:=h
theorem ZfN {G:Prop} (h:G:=by
  rw [Below.heap_setCell _ _ _ _ h.ne];exact hk.block b h.own.lt Hy.1) :G:=h
theorem zj {G:Prop} (h:G:=by
  have:=(List.getElem?_eq_some_iff.1 hs).1;have:=h.len;omega) :G:=h
theorem Zf3 {G:Prop} (h:G:=by
  rintro e w1 ⟨rfl,rfl⟩;go_wp2;go_ret;exact ⟨rfl,T.o.2⟩) :G:=h
theorem jg {G:Prop} (h:G:=by
  go_wp2_with fail;go_ret;exact ⟨rfl,T1.o.2⟩) :G:=h
theorem jh {G:Prop} (h:G:=by
  rw [HR.o];exact decide_eq_false Zf) :G:=h
theorem aP {G:Prop} (h:G:=by
  go_wp2_with fail;go_ret;exact ⟨rfl,T.o.2⟩) :G:=h
theorem zI {G:Prop} (h:G:=by
  rw [HR.o];exact decide_eq_true (.inl h)) :G:=h
theorem pw {G:Prop} (h:G:=by
  rcases hu with rfl | rfl | rfl <;> rfl) :G:=h
theorem jm {G:Prop} (h:G:=by
  go_wp2;go_ret;exact ⟨rfl,T.o.2⟩) :G:=h
theorem aR {G:Prop} (h:G:=by
  split
  ·omega
  ·split <;> omega) :G:=h
section
open Go Go.ChangeShapes Go.WideShapes Go.RowKit Go.Deep
structure Py where
 ix:Int
 am:Int
 fu:Bool
deriving DecidableEq,Inhabited
def Py.row (v:Py) :List Zl:= [.int .i64 v.ix,.int .u64 v.am,.bool v.fu]
def J7 (v:Py) :Array Zl:=v.row.toArray
def pyZ:Py:=⟨0,0,false⟩
theorem Py.row_len (v:Py) :v.row.length=3:=rfl
theorem Py.row_one (v:Py) : ∀u ∈ v.row,u.oneCell'=true:=by
 intro u hu;simp only [Py.row,ZX,Yk,or_false] at hu;exact pw
theorem eO (v:Py) :(J7 v).all (·.oneCell')=true:=by
 refine ZQ.2 (fun u hu=>Py.row_one v u (by simpa [J7] using hu))
theorem Ht (v:Py) :(J7 v).size=3:=rfl
theorem wC:(Tryz.prog.info? 252).map (·.size)=some 3:=ZC
theorem np: ∃i,Tryz.prog.info? 252=some i/\i.zero=some (.agg (J7 pyZ))/\i.size=3/\i.bytes=24:=by
 have h:(Tryz.prog.info? 252).map (fun i=>(i.zero,i.size,i.bytes))=some (some (.agg (J7 pyZ)),3,24):=ZC
 cases hi:Tryz.prog.info? 252 with
 | none=>exact LV
 | some i=>
  exact Oa
section
variable {P:Program} {ops:Array Oper} {rest:List Oper} {op:Oper} {a:Act} {w:Zc} {Q:Exit->Act->Zc->Prop}
theorem LQ (hg:op.guard=none)(t:ZL)(parts:Array (Nat × YW))(ho:op.op= .build t parts)(v:Py)
  (hf:P.built t (parts.map fun (i,x)=>(i,a.eval x)).toList=some (J7 v)) (h:Y2 P ops Q rest (a.put op.dst (.agg (J7 v))) w) :Y2 P ops Q (op::rest) a w:=
 wpList_build hg t parts ho CD CB
end
theorem sq (x:Py)(w:Zc) :(Xs 51 1 #[(0,.agg (J7 x))]).run Zb w= .ok (.slice (some ⟨w.heap.size,0,none⟩) 1 1) (w.alloc (.cells (J7 x) 252)):=by
 obtain ⟨i,hi,hz,hs,Ns⟩:=np;simp [Xs,run_underlying underlying51,sizeOf,typeInfo,hi,hz,hs,Instr.fill,newRow,go_sem,J7,Py.row]
theorem yx {o:Oper}{a:Act}{w:Zc}{K:Act->Zc->Prop}{Q:Exit->Act->Zc->Prop}(x:YW)(p:Py)(ho:o.op= .buildSlice 51 1 #[(0,x)])(hx:a.eval x= .agg (J7 p))
  (h:K (a.put o.dst (.slice (some ⟨w.heap.size,0,none⟩) 1 1)) (w.alloc (.cells (J7 p) 252))) :o.wp Zb a w K Q:=by
 unfold Oper.wp XU;simp only [ho,JD,Xa,Kr,hx,Yq,sq p w,ZY,YX];exact h
theorem P3 {ops:Array Oper}{rest:List Oper}{o:Oper}{a:Act}{w:Zc}{Q:Exit->Act->Zc->Prop}(DD:o.guard=none)(x:YW)(p:Py)(ho:o.op= .buildSlice 51 1 #[(0,x)])(hx:a.eval x= .agg (J7 p))
  (h:Y2 Zb ops Q rest (a.put o.dst (.slice (some ⟨w.heap.size,0,none⟩) 1 1)) (w.alloc (.cells (J7 p) 252))) :Y2 Zb ops Q (o::rest) a w:=
 wpList_plain DD fun _ hK=>yx x p ho hx (hK _ _ h)
end
section
open Go Go.ChangeShapes Go.WideShapes Go.RowKit Go.Deep
structure Rq where
 ix:Int
 am:Int
deriving DecidableEq,Inhabited
def Rq.row (v:Rq) :List Zl:= [.int .i64 v.ix,.int .u64 v.am]
def ZF (v:Rq) :Array Zl:=v.row.toArray
def UH (v:Rq) :Prop:=(YN .i64 v.ix).wf=true/\(YN .u64 v.am).wf=true
def NO:Rq:=⟨0,0⟩
theorem Rq.row_one (v:Rq) : ∀u ∈ v.row,u.oneCell'=true:=by
 intro u hu;simp only [Rq.row,ZX,Yk,or_false] at hu
 rcases hu with rfl | rfl <;> rfl
theorem Ky (v:Rq) :(ZF v).all (·.oneCell')=true:=by
 refine ZQ.2 (fun u hu=>Rq.row_one v u (by simpa [ZF] using hu))
theorem Jq:(Tryz.prog.info? 119).map (·.size)=some 2:=ZC
theorem Zky: ∃i,Tryz.prog.info? 119=some i/\i.zero=some (.agg (ZF NO))/\i.size=2/\i.bytes=16:=by
 have h:(Tryz.prog.info? 119).map (fun i=>(i.zero,i.size,i.bytes))=some (some (.agg (ZF NO)),2,16):=ZC;exact Zm8
theorem ZoT (x y:Rq)(w:Zc) :(Op.equalIn 10000 119 (.agg (ZF x)) (.agg (ZF y))).run Zb w= .ok (decide (x=y)) w:=by
 obtain ⟨r,hr,Pw⟩:=Ry (P:=Zb) w (ZF x) (ZF y) underlying119 ZC (fun f hf=>by
  simp only [ZX,Yk,or_false] at hf
  rcases hf with rfl | rfl
  ·exact ⟨by decide,.inl ⟨.i64,x.ix,y.ix,underlying3,rfl,rfl⟩⟩
  ·exact ⟨by decide,.inl ⟨.u64,x.am,y.am,underlying23,rfl,rfl⟩⟩)
 refine hr.trans ?_;have:r=decide (x=y):=by
  rw [YD,Pw,decide_eq_true_eq];constructor
  ·intro h;simp only [ZX,Yk,or_false,forall_eq_or_imp,forall_eq] at h;obtain ⟨h0,h1⟩:=h;obtain ⟨a0,a1⟩:=x;obtain ⟨b0,b1⟩:=y;simp [ZF,Rq.row] at h0 h1;simp [*]
  ·rintro rfl;simp
 rw [this]
theorem qK {a:Act}{dst:Option Tmp}{yt ty:ZL}{x y:YW}{pos:String}{after:Array Edge}{guard:Option (Nat × Bool)}{w:Zc}{p q:Rq}{r:Bool}(hx:a.eval x= .agg (ZF p))(hy:a.eval y= .agg (ZF q))(hr:decide (p=q)=r) :
  (XU a.eval { dst,op:= .binOp .eql 119 x y yt,type:=ty,pos,after,guard}).run Zb w= .ok (.value (.bool r)) w:=by
 simp only [XU,hx,hy,Yq,run_eqGuard_agg w .eql _ x y _ _ (show Tryz.prog.eqGuardType Tryz.prog.depth 119=false by kernel_rfl),ZY,run_eql_struct,ZoT p q w,YX,hr]
theorem Zim {C:Zc->Prop}{Qa:Act->Prop}{ops:Array Oper}{rest:List Oper}{a:Act}{dst:Option Tmp}{yt ty:ZL}{x y:YW}{pos:String}{after:Array Edge}{guard:Option (Nat × Bool)}(p q:Rq)(r:Bool)(hw:Region.wanted { dst,op:= .binOp .eql 119 x y yt,type:=ty,pos,after,guard} (yielded ops a.tmps)=true)(hx:a.eval x= .agg (ZF p))(hy:a.eval y= .agg (ZF q))(hr:decide (p=q)=r)
  (h:wpQuiet Zb ops C Qa rest (a.put dst (.bool r))) :wpQuiet Zb ops C Qa ({ dst,op:= .binOp .eql 119 x y yt,type:=ty,pos,after,guard}::rest) a:=
 DX (.bool r) hw (fun w=>qK hx hy hr) h
section
variable {P:Program} {ops:Array Oper} {rest:List Oper} {op:Oper} {a:Act} {w:Zc} {Q:Exit->Act->Zc->Prop}
theorem Cw (DD:op.guard=none)(ty:ZL)(x:YW)(ho:op.op= .load ty x)
  (b o:Nat) (hx:a.eval x= .pointer (some ⟨b,o,none⟩)) (v:Rq) (d:TypeDesc) (hc:w.rangeAt b o v.row)
  (hu:P.underlying ty=some d) (hd:d.isRow=true) (hi:(P.info? ty).map (·.size)=some 2)
  (h:Y2 P ops Q rest (a.put op.dst (.agg (ZF v))) w) :Y2 P ops Q (op::rest) a w:=
 wpList_load_mid DD ty x ho b o hx v.row d hc hu hd hi h
theorem TG (hg:op.guard=none)(t:ZL)(parts:Array (Nat × YW))(ho:op.op= .build t parts)(v:Rq)
  (hf:P.built t (parts.map fun (i,x)=>(i,a.eval x)).toList=some (ZF v)) (h:Y2 P ops Q rest (a.put op.dst (.agg (ZF v))) w) :Y2 P ops Q (op::rest) a w:=
 wpList_build hg t parts ho CD CB
end
theorem sr (x:Rq)(w:Zc) :(Xs 26 1 #[(0,.agg (ZF x))]).run Zb w= .ok (.slice (some ⟨w.heap.size,0,none⟩) 1 1) (w.alloc (.cells (ZF x) 119)):=by
 obtain ⟨i,hi,hz,hs,Ns⟩:=Zky;simp [Xs,run_underlying underlying26,sizeOf,typeInfo,hi,hz,hs,Instr.fill,newRow,go_sem,ZF,Rq.row]
theorem yy {o:Oper}{a:Act}{w:Zc}{K:Act->Zc->Prop}{Q:Exit->Act->Zc->Prop}(x:YW)(p:Rq)(ho:o.op= .buildSlice 26 1 #[(0,x)])(hx:a.eval x= .agg (ZF p))
  (h:K (a.put o.dst (.slice (some ⟨w.heap.size,0,none⟩) 1 1)) (w.alloc (.cells (ZF p) 119))) :o.wp Zb a w K Q:=by
 unfold Oper.wp XU;simp only [ho,JD,Xa,Kr,hx,Yq,sr p w,ZY,YX];exact h
end
section
def Uu (r:Rq)(n:Nat) :Bool:=decide (0<=r.ix/\r.ix < n)
def Ru (l:List ZN)(r:Rq) :Int:=if Uu r l.length=false then 7 else if r.am=0 then 3 else if(l.getD r.ix.toNat ZU).st≠2 then 8 else 0
def Bt (v:ZN)(mb:Int) :Int:=if v.st≠2 then 0 else if v.sl=true then 0 else if mb < v.bal then v.bal - mb else 0
def DF (v:ZN)(x mb:Int) :Int:=if Bt v mb < x then Bt v mb else x
def LX (v:ZN)(x mb:Int) :ZN:= { v with bal:=v.bal - DF v x mb}
def PJ (l:List ZN)(r:Rq)(mb:Int) :Int:=if Uu r l.length=true then DF (l.getD r.ix.toNat ZU) r.am mb else 0
def EC (l:List ZN)(r:Rq)(mb:Int) :List ZN:=if Uu r l.length=true then l.set r.ix.toNat (LX (l.getD r.ix.toNat ZU) r.am mb) else l
def ML (i x:Int) :List Py:=if x=0 then [] else [⟨i,x,false⟩]
def XO (mb:Int) :List ZN->List Rq->List ZN
 | l,[]=>l
 | l,r::q=>XO mb (EC l r mb) q
def KV (mb:Int) :List ZN->List Rq->List Py
 | _,[]=> []
 | l,r::q=>ML r.ix (PJ l r mb)++KV mb (EC l r mb) q
theorem bh {v:ZN}{mb:Int}(hv:Yp v)(hm:0<=mb) :0<=Bt v mb/\Bt v mb<=v.bal:=by
 have:=hv.bal;unfold Bt
 split
 ·omega
 ·exact aR
theorem Fh {v:ZN}{x mb:Int}(hv:Yp v)(hm:0<=mb)(hx:0<=x) :0<=DF v x mb/\DF v x mb<=v.bal/\DF v x mb<=Bt v mb/\DF v x mb<=x:=by
 have:=bh hv hm;unfold DF
 split <;> omega
theorem tS {v:ZN}{x mb:Int}(hv:Yp v)(hm:0<=mb)(hx:0<=x) :Yp (LX v x mb):=by
 have h:=Fh hv hm hx;have hb:=hv.bal;refine ⟨?_,hv.2⟩;simp only [LX];exact jf
theorem IZ {l:List ZN}{r:Rq}(h:Uu r l.length=true) : ∃(i:Nat) (v:ZN),r.ix=(i:Int)/\l[i]?=some v:=by
 have h':0<=r.ix/\r.ix < l.length:=of_decide_eq_true h;exact ⟨r.ix.toNat,l[r.ix.toNat]'Zf,by omega,Zg _⟩
theorem cD {l:List ZN}{r:Rq}{i:Nat}{v:ZN}(mb:Int)(hi:r.ix=(i:Int))(hv:l[i]?=some v) :Uu r l.length=true/\PJ l r mb=DF v r.am mb/\EC l r mb=l.set i (LX v r.am mb):=by
 have hl:=(Zk.1 hv).1;have h:Uu r l.length=true:=decide_eq_true Zf;refine ⟨h,?_,?_⟩
 ·rw [PJ,if_pos h,hi,Y7,VG hv]
 ·rw [EC,if_pos h,hi,Y7,VG hv]
theorem ZcM (l:List ZN)(r:Rq)(mb:Int) :(EC l r mb).length=l.length:=by unfold EC; split <;> simp
theorem Eb (mb:Int)(q:List Rq) : ∀l,(XO mb l q).length=l.length:=by
 induction q with
 | nil=>intro l; rfl
 | cons p q ih=>intro l; rw [XO,ih,ZcM]
theorem ZcZ (i x:Int) :(ML i x).length<=1:=by unfold ML; split <;> simp
theorem RZ (mb:Int)(q:List Rq) : ∀l,(KV mb l q).length<=q.length:=by
 induction q with
 | nil=>intro l; simp [KV]
 | cons p q ih=>intro l; simp only [KV,ZI,Yg]; have:=ih (EC l p mb); have:=ZcZ p.ix (PJ l p mb); omega
theorem Ip (mb:Int)(r:Rq)(q:List Rq) : ∀l,XO mb l (q++[r])=EC (XO mb l q) r mb:=by
 induction q with
 | nil=>intro l; rfl
 | cons x q ih=>intro l; simp only [Yf,XO,ih]
theorem my (mb:Int)(r:Rq)(q:List Rq) : ∀l,KV mb l (q++[r])=KV mb l q++ML r.ix (PJ (XO mb l q) r mb):=by
 induction q with
 | nil=>intro l; simp [KV,XO]
 | cons x q ih=>intro l; simp only [Yf,XO,KV,ih,List.append_assoc]
theorem Iq {α:Type}{q:List α}{k:Nat}{p:α}(h:q[k]?=some p) :q.take (k+1)=q.take k++[p]:=pA
theorem ig {l:List ZN}{r:Rq}{mb:Int}(hm:0<=mb)(hr:0<=r.am)(h: ∀v ∈ l,Yp v) : ∀v ∈ EC l r mb,Yp v:=by
 unfold EC
 split
 ·rename_i hb
  obtain ⟨i,v,hi,hv⟩:=IZ hb;rw [hi,Y7,VG hv];intro u hu
  rcases XI hu with h1 | h1
  ·exact h u h1
  ·exact h1▸tS (h v (Zz hv)) hm hr
 ·exact h
theorem UH.am {r:Rq}(h:UH r) :0<=r.am/\r.am<=18446744073709551615:=bounds_u64 h.2
theorem FF (mb:Int)(hm:0<=mb)(q:List Rq) : ∀(l:List ZN),(∀r ∈ q,UH r)->(∀v ∈ l,Yp v)-> ∀v ∈ XO mb l q,Yp v:=by
 induction q with
 | nil=>intro l _ h; exact h
 | cons r q ih=>
  intro l hq h;rw [XO];exact ih _ (fun x hx=>hq x Dp) (ig hm (hq r ZE).am.1 h)
def UX (c:Nat->Int)(q:List Rq) :Nat:=min (c 16).toNat q.length
def DP (i:Nat) :List Py->Int
 | []=>0
 | p::ps=>(if p.ix=(i:Int) then p.am else 0)+DP i ps
theorem Ii (i:Nat)(a b:List Py) :DP i (a++b)=DP i a+DP i b:=by
 induction a with
 | nil=>simp [DP]
 | cons p a ih=>simp only [Yf,DP,ih]; omega
theorem lE (i:Nat)(j x:Int) :DP i (ML j x)=if j=(i:Int) then x else 0:=by
 unfold ML
 split
 ·rename_i h; subst h; simp [DP]
 ·simp [DP]
def aZ (mb:Int)(v v':ZN)(x:Int) :Prop:=v'= { v with bal:=v.bal - x}/\0<=x/\(x=0\/(v.st=2/\v.sl=false/\mb<=v.bal - x))
theorem xl {v:ZN}{x mb:Int}(hv:Yp v)(hm:0<=mb)(hx:0<=x) :aZ mb v (LX v x mb) (DF v x mb):=by
 refine ⟨rfl,(Fh hv hm hx).1,?_⟩;have h:=(Fh hv hm hx)
 by_cases h0:DF v x mb=0
 ·exact .inl h0
 ·refine .inr ?_;have ha:Bt v mb≠0:=Zf;unfold Bt at ha;have hb:=h.2.2.1;unfold Bt at hb
  split at ha
  ·omega
  ·rename_i h1
   split at ha
   ·omega
   ·rename_i h2
    split at ha
    ·rename_i h3
     rw [if_neg h1,if_neg h2,if_pos h3] at hb;exact ⟨by simpa using h1,by simpa using h2,by omega⟩
    ·omega
theorem aZ.trans {mb:Int}{a b c:ZN}{x y:Int}(h:aZ mb a b x)(k:aZ mb b c y) :aZ mb a c (x+y):=by
 obtain ⟨rfl,h1,h2⟩:=h;obtain ⟨rfl,k1,k2⟩:=k;refine ⟨by simp [Int.sub_sub],by omega,?_⟩;simp only at k2
 rcases k2 with k2 | ⟨k2,k3,k4⟩
 ·subst k2
  rcases h2 with h2 | ⟨h2,h3,h4⟩
  ·exact .inl Zf
  ·exact .inr ⟨h2,h3,by omega⟩
 ·exact .inr ⟨k2,k3,by omega⟩
theorem aZ.zero {mb:Int}(v:ZN) :aZ mb v v 0:=⟨by simp,Int.le_refl _,.inl rfl⟩
theorem Hd (mb:Int)(hm:0<=mb)(q:List Rq) : ∀(l:List ZN),(∀r ∈ q,UH r)->(∀v ∈ l,Yp v)->
  (∀i v,l[i]?=some v-> ∃v',(XO mb l q)[i]?=some v'/\aZ mb v v' (DP i (KV mb l q)))/\
  ∀p ∈ KV mb l q,0 < p.am/\p.fu=false/\ ∃(i:Nat) (v:ZN),p.ix=(i:Int)/\l[i]?=some v/\v.st=2/\v.sl=false:=by
 induction q with
 | nil=>exact fun l _ _=>⟨fun i v hv=>⟨v,hv,aZ.zero v⟩,fun p hp=>by simp [KV] at hp⟩
 | cons r q ih=>
  intro l hq hl;have hr:=(hq r ZE).am;have jw: ∀x ∈ q,UH x:=fun x hx=>hq x Dp
  obtain ⟨i1,i2⟩:=ih (EC l r mb) jw (ig hm hr.1 hl)
  by_cases hb:Uu r l.length=true
  ·obtain ⟨k,u,hk,hu⟩:=IZ hb;obtain ⟨_,e1,e2⟩:=cD mb hk hu;have tw:=(Zk.1 hu).1;have P1:=xl (hl u (Zz hu)) hm hr.1;simp only [XO,KV];rw [e2] at i1 i2 ⊢;rw [e1];refine ⟨fun i v hv=>?_,fun p hp=>?_⟩
   ·rw [Ii,lE]
    by_cases hik:i=k
    ·subst hik;rw [hu] at hv;injection hv with hv;subst hv;rw [if_pos hk];obtain ⟨v',g1,g2⟩:=i1 i (LX u r.am mb) (by rw [Yz tw]);exact ⟨v',g1,P1.trans g2⟩
    ·rw [if_neg Zf];obtain ⟨v',g1,g2⟩:=i1 i v (by rw [Yn (Ji hik)]; exact hv);refine ⟨v',g1,?_⟩;rw [Int.zero_add];exact g2
   ·rcases Yb.1 hp with hp | hp
    ·unfold ML at hp
     split at hp
     ·cases hp
     ·rename_i h0
      rw [Ym] at hp;subst hp;refine ⟨by have:=P1.2.1; simp only; omega,rfl,k,u,hk,hu,?_⟩
      rcases P1.2.2 with h | h
      ·omega
      ·exact ⟨h.1,h.2.1⟩
    ·obtain ⟨h1,h2,i,v,h3,h4,h5,h6⟩:=i2 p hp;refine ⟨h1,h2,i,?_⟩
     by_cases hik:i=k
     ·subst hik;rw [Yz tw] at h4;injection h4 with h4;subst h4;exact ⟨u,h3,hu,h5,h6⟩
     ·rw [Yn (Ji hik)] at h4;exact ⟨v,h3,h4,h5,h6⟩
  ·have e2:EC l r mb=l:=by unfold EC; rw [if_neg hb]
   have e1:PJ l r mb=0:=by unfold PJ; rw [if_neg hb]
   simp only [XO,KV];rw [e2] at i1 i2 ⊢;rw [e1,show ML r.ix 0=[] from rfl,Qo];exact ⟨i1,i2⟩
end
section
open Go.RowKit
def SE (B T D:Int) :Int:=(B+T+D)%18446744073709551616
def tZ (T S:Int) :Int:=(T - S)%18446744073709551616
def VK (w:Zc)(b:Nat)(B S T D:Int) :Prop:=Zu w b 161 #[.int .u64 (SE B T D),.int .u64 T,.int .u64 D,.int .u64 (tZ T S)]
def Jr (B S T D:Int) :Prop:=0<=B/\0<=S/\B+S<=18446744073709551615/\0<=T/\T<=18446744073709551615/\0<=D/\D<=18446744073709551615
section
variable {w w':Zc} {b d:Nat} {B S T D x:Int}
theorem VK.cells (h:VK w b B S T D) :w.cell? ⟨b,0,none⟩=some (.int .u64 (SE B T D))/\w.cell? ⟨b,1,none⟩=some (.int .u64 T)/\w.cell? ⟨b,2,none⟩=some (.int .u64 D)/\w.cell? ⟨b,3,none⟩=some (.int .u64 (tZ T S)):=
 ⟨Qc h 0,Qc h 1,Qc h 2,Qc h 3⟩
theorem Zc2 (hF:Jr B S T D) : ∃A,IntKind.u64.wrap (SE B T D - T)=A/\IntKind.u64.wrap (A - D)=B:=by
 refine ⟨_,rfl,?_⟩;obtain ⟨f0,f1,f2,f3,f4,f5,f6⟩:=hF;simp only [Kz,SE];omega
theorem Zdw (hF:Jr B S T D)(x0:0<=x)(hx:x<=B) : ∃T',IntKind.u64.wrap (T+x)=T'/\Jr (B - x) (S+x) T' D/\SE (B - x) T' D=SE B T D/\tZ T' (S+x)=tZ T S:=by
 refine ⟨_,rfl,?_⟩;obtain ⟨f0,f1,f2,f3,f4,f5,f6⟩:=hF;simp only [Kz,tZ,SE,Jr];omega
theorem ZbA (hF:Jr B S T D) : ∃D',IntKind.u64.wrap (D+B)=D'/\Jr 0 S T D'/\SE 0 T D'=SE B T D:=by
 refine ⟨_,rfl,?_⟩;obtain ⟨f0,f1,f2,f3,f4,f5,f6⟩:=hF;simp only [Kz,SE,Jr];omega
theorem vk (hF:Jr B S T D)(x0:0<=x) : ∃p,(if 18446744073709551615 - B < x then 18446744073709551615 - B else x)=p/\IntKind.u64.wrap (SE B T D+p)=SE (B+p) T D/\Jr (B+p) 0 T D/\tZ T 0=T/\0<=p:=by
 refine ⟨_,rfl,?_⟩;obtain ⟨f0,f1,f2,f3,f4,f5,f6⟩:=hF;simp only [Kz,SE,tZ,Jr]
 split <;> omega
end
theorem F9 (b:Nat)(B S T D:Int)(w:Zc)(h:VK w b B S T D)(hF:Jr B S T D) :
  Xc 97 #[.pointer (some ⟨b,0,none⟩)] w (.int .u64 B):=by
 obtain ⟨c0,c1,c2,c3⟩:=h.cells;obtain ⟨A,eA,eB⟩:=Zc2 hF;clear h hF c3;generalize SE B T D=G at*;go_enter func97,ntmps97;go_wp2;go_quiet (skip);exact pz
theorem Wv (b:Nat)(B S T D:Int)(w:Zc)(h:VK w b B S T D)(hF:Jr B S T D) :
  Xc 50 #[.pointer (some ⟨b,0,none⟩)] w (.int .u64 B):=by
 have H:=Za (F9 b B S T D w h hF);clear h hF;go_enter func50,ntmps50;exact Ze1
theorem lr (w:Zc) :
  Zv Zb 79 #[] w fun e w'=>e= .returned (.pointer (some ⟨w.heap.size,0,none⟩))/\w.alloc (.cells #[.int .u64 0,.int .u64 0,.int .u64 0,.int .u64 0] 161)=w':=by
 go_enter func79,ntmps79;exact UD
theorem qR:Jr 0 0 0 0:=by unfold Jr; omega
end
section
open Go.RowKit
theorem Zdx (b:Nat)(B S T D x:Int)(w:Zc)(h:VK w b B S T D)(hF:Jr B S T D)(hx:x>B) :
  Xc 264 #[.pointer (some ⟨b,0,none⟩),.int .u64 x] w (.bool false):=by
 have H:=Za (F9 b B S T D w h hF);clear h hF;go_enter func264,ntmps264;exact Ze1
theorem yj (b:Nat)(B S T D T' x:Int)(w:Zc)(h:VK w b B S T D)(hF:Jr B S T D)(hx:x<=B)(hT:IntKind.u64.wrap (T+x)=T')(hG:SE (B - x) T' D=SE B T D)(hb:tZ T' (S+x)=tZ T S) :
  Zv Zb 264 #[.pointer (some ⟨b,0,none⟩),.int .u64 x] w fun e w'=>e= .returned (.bool true)/\VK w' b (B - x) (S+x) T' D/\w.grownBy w' (some b):=by
 have H:=Za (F9 b B S T D w h hF);obtain ⟨c0,c1,c2,c3⟩:=h.cells;have z1:=KE h 1;have HE:Zj (∀m,VK ((w.drewN m).setCell ⟨b,1,none⟩ (.int .u64 T')) b (B - x) (S+x) T' D/\w.grownBy ((w.drewN m).setCell ⟨b,1,none⟩ (.int .u64 T')) (some b)):=Za (fun m=>⟨by unfold VK; rw [hG,hb]; exact VH (XD h m) 1 _,QX (US (K9 _ _) m) (.inl rfl) _⟩);clear h hF hG hb c0 c2 c3;go_enter func264,ntmps264;exact Ze0
theorem uI (b:Nat)(B S T D D':Int)(w:Zc)(h:VK w b B S T D)(hF:Jr B S T D)(hD:IntKind.u64.wrap (D+B)=D')(hG:SE 0 T D'=SE B T D) :
  Zv Zb 266 #[.pointer (some ⟨b,0,none⟩)] w fun e w'=>e= .returned (.int .u64 B)/\VK w' b 0 S T D'/\w.grownBy w' (some b):=by
 have H:=Za (F9 b B S T D w h hF);obtain ⟨c0,c1,c2,c3⟩:=h.cells;have z1:=KE h 2;have HE:Zj (∀m,VK ((w.drewN m).setCell ⟨b,2,none⟩ (.int .u64 D')) b 0 S T D'/\w.grownBy ((w.drewN m).setCell ⟨b,2,none⟩ (.int .u64 D')) (some b)):=Za (fun m=>⟨by unfold VK; rw [hG]; exact VH (XD h m) 2 _,QX (US (K9 _ _) m) (.inl rfl) _⟩);clear h hF hG c0 c1 c3;go_enter func266,ntmps266;exact Ze0
theorem qW (b:Nat)(B S T D x p:Int)(w:Zc)(h:VK w b B S T D)(hF:Jr B S T D)(hp:(if 18446744073709551615 - B < x then 18446744073709551615 - B else x)=p)(hG:IntKind.u64.wrap (SE B T D+p)=SE (B+p) T D)(hN:Jr (B+p) 0 T D)(hb:tZ T 0=T) :
  Zv Zb 262 #[.pointer (some ⟨b,0,none⟩),.int .u64 x] w fun e w'=>e= .returned (.int .u64 (B+p))/\VK w' b (B+p) 0 T D/\w.grownBy w' (some b):=by
 have HF:=Za hF;have HH:=Za h;have HP:=Za hp;have vI:Zj (∀(w1:Zc),VK w1 b (B+p) 0 T D->Xc 97 #[.pointer (some ⟨b,0,none⟩)] w1 (.int .u64 (B+p))):=Za (fun w1 h1=>F9 b (B+p) 0 T D w1 h1 hN);have f0:=hF.1;have f1:B<=18446744073709551615:=by have:=hF.2.1; have:=hF.2.2.1; omega
 generalize hq:B+p=q at*;clear hq hp hF hN h;go_enter func262,ntmps262;go_wp2;refine L5 (fun w'=>VK w' b B S T D) 13 4 [0,1,2,3,4,5,6,7,8] (Km HH.o) ?_;refine JH ?_;refine td ?_;refine Dw ?_;refine KY 23 _ (.int .u64 (SE B T D)) (fun w h=>Qc h 0) ?_;refine X7 ?_;refine Dw ?_;refine Yo ?_;refine JC (i:=9) ?_;refine JA #[.pointer (some ⟨b,0,none⟩)] call97 ((F9 b B S T D _ (Km HH.o) HF.o).mono ?_);rintro e w1 ⟨rfl,m,Px⟩;have M1:Zj (VK w1 b B S T D):=Za (Px▸XD (Km HH.o) m);have G1:Zj (w.grownBy w1 (some b)):=Za (Px▸US (ae (K9 _ _)) m);clear Px;refine ⟨_,rfl,M1.o,?_⟩;refine Ee ?_;refine TS (fun w'=>VK w' b B S T D) (m:=3) (f:=0) [10,11,12] M1.o ?_;refine JH ?_;refine Nh ?_;refine Ec ?_;refine Yo ?_;refine GD ?_;refine ⟨by kernel_rfl,?_⟩;try rw [TX]
 rw [HP.o];refine LA ?_;have g1:w.grownBy (w1.setCell ⟨b,0,none⟩ (.int .u64 (SE q T D))) (some b):=QX G1.o (.inl rfl) _;have g2:w.grownBy ((w1.setCell ⟨b,0,none⟩ (.int .u64 (SE q T D))).setCell ⟨b,3,none⟩ (.int .u64 T)) (some b):=QX g1 (.inl rfl) _;have H2:Zj (VK ((w1.setCell ⟨b,0,none⟩ (.int .u64 (SE q T D))).setCell ⟨b,3,none⟩ (.int .u64 T)) b q 0 T D/\w.grownBy ((w1.setCell ⟨b,0,none⟩ (.int .u64 (SE q T D))).setCell ⟨b,3,none⟩ (.int .u64 T)) (some b)):=
  Za ⟨by unfold VK; rw [hb]; exact VH (VH M1.o 0 _) 3 _,g2⟩
 have c0:w1.cell? ⟨b,0,none⟩=some (.int .u64 (SE B T D)):=Qc M1.o 0;have c3:w1.cell? ⟨b,3,none⟩=some (.int .u64 (tZ T S)):=Qc M1.o 3;have c1:w1.cell? ⟨b,1,none⟩=some (.int .u64 T):=Qc M1.o 1;have z0:w1.frozen? ⟨b,0,none⟩=false:=KE M1.o 0;have z3:w1.frozen? ⟨b,3,none⟩=false:=KE M1.o 3;clear hb g1 g2;go_wp2;refine U1 ?_;go_wp2_with fail;refine (vI.o _ H2.o.1).mono ?_;rintro e w2 ⟨rfl,m2,rfl⟩;go_wp2_with fail;go_ret;exact ⟨rfl,XD H2.o.1 _,US H2.o.2 _⟩
end
section
open Go Go.ChangeShapes Go.WideShapes Go.RowKit Go.Deep
structure As where
 ix:Int
 cl:Int
 ep:Int
deriving DecidableEq,Inhabited
def As.row (v:As) :List Zl:= [.int .i64 v.ix,.int .i64 v.cl,.int .i64 v.ep]
def JX (v:As) :Array Zl:=v.row.toArray
theorem As.row_len (v:As) :v.row.length=3:=rfl
theorem As.row_one (v:As) : ∀u ∈ v.row,u.oneCell'=true:=by
 intro u hu;simp only [As.row,ZX,Yk,or_false] at hu;exact pw
theorem eM (v:As) :(JX v).all (·.oneCell')=true:=by
 refine ZQ.2 (fun u hu=>As.row_one v u (by simpa [JX] using hu))
theorem wz:(Tryz.prog.info? 280).map (·.size)=some 3:=ZC
end
section
open Go Go.ChangeShapes Go.WideShapes Go.RowKit Go.Deep
structure Pm where
 ix:Int
 am:Int
 fl:Bool
deriving DecidableEq,Inhabited
def Pm.row (v:Pm) :List Zl:= [.int .i64 v.ix,.int .u64 v.am,.bool v.fl]
theorem Pm.row_len (v:Pm) :v.row.length=3:=rfl
theorem Pm.row_one (v:Pm) : ∀u ∈ v.row,u.oneCell'=true:=by
 intro u hu;simp only [Pm.row,ZX,Yk,or_false] at hu;exact pw
end
section
open Go Go.ChangeShapes Go.WideShapes Go.RowKit Go.Deep
structure Oq where
 kd:Int
 ix:Int
 tg:Int
 am:Int
deriving DecidableEq,Inhabited
def Oq.row (v:Oq) :List Zl:= [.int .i64 v.kd,.int .i64 v.ix,.int .i64 v.tg,.int .u64 v.am]
def Z6 (v:Oq) :Array Zl:=v.row.toArray
def UG (v:Oq) :Prop:=(YN .i64 v.kd).wf=true/\(YN .i64 v.ix).wf=true/\(YN .i64 v.tg).wf=true/\(YN .u64 v.am).wf=true
theorem Oq.row_len (v:Oq) :v.row.length=4:=rfl
theorem Oq.row_one (v:Oq) : ∀u ∈ v.row,u.oneCell'=true:=by
 intro u hu;simp only [Oq.row,ZX,Yk,or_false] at hu
 rcases hu with rfl | rfl | rfl | rfl <;> rfl
theorem eN (v:Oq) :(Z6 v).all (·.oneCell')=true:=by
 refine ZQ.2 (fun u hu=>Oq.row_one v u (by simpa [Z6] using hu))
theorem DO:(Tryz.prog.info? 49).map (·.size)=some 4:=ZC
section
variable {H:Type} {enc:ZL × Zl->H} {w:Zc} {base:Nat} {spare:Nat->Bool} {held:Bool}
theorem ZiJ {n:Nat}{cs:List Zl}{x:DataW H × List MemPlace}(h:DataW.trod enc Zb w base spare held n 49 cs=some x) : ∃v:Oq,cs=v.row/\UG v:=by
 obtain ⟨ys,n',hn',hy,hlen,hyl,hf⟩:=DataW.trod_struct underlying49 h;have hlen:cs.length=4:=hlen.trans ZC;have hyl:ys.length=4:=hyl;have get: ∀j (f:Field),j < 4->f.offset=j->Tryz.prog.cellsOf f.type=1->DataW.trod enc Zb w base spare held n' f.type ((cs.drop f.offset).take (Tryz.prog.cellsOf f.type))=ys[j]?-> ∃v y,cs[j]?=some v/\DataW.trod enc Zb w base spare held n' f.type [v]=some y:=by
  intro j f hj ho hc ht;rw [ho,hc,List.drop_eq_getElem_cons Zf,Zg Zf] at ht;exact ⟨_,_,Zg Zf,ht⟩
 obtain ⟨v0,y0,c0,t0⟩:=get 0 _ Zf rfl ZC (hf 0 _ rfl);obtain ⟨v1,y1,c1,t1⟩:=get 1 _ Zf rfl ZC (hf 1 _ rfl);obtain ⟨v2,y2,c2,t2⟩:=get 2 _ Zf rfl ZC (hf 2 _ rfl);obtain ⟨v3,y3,c3,t3⟩:=get 3 _ Zf rfl ZC (hf 3 _ rfl);obtain ⟨x0,e0,_,w0⟩:=DataW.trod_int underlying3 t0;obtain ⟨x1,e1,_,w1⟩:=DataW.trod_int underlying3 t1;obtain ⟨x2,e2,_,w2⟩:=DataW.trod_int underlying3 t2;obtain ⟨x3,e3,_,w3⟩:=DataW.trod_int underlying23 t3;injection e0 with e0; injection e1 with e1; injection e2 with e2; injection e3 with e3;subst e0 e1 e2 e3;refine ⟨⟨x0,x1,x2,x3⟩,?_,w0,w1,w2,w3⟩
 match cs,hlen with
 | [a0,a1,a2,a3],_=>
  simp at c0 c1 c2 c3;subst c0 c1 c2 c3;rfl
def Zd2 (w:Zc)(a:Option Addr)(len cap:Nat) :Prop:=jA Oq.row 4 UG w a len cap
end
end
section
open Go Go.ChangeShapes Go.WideShapes Go.RowKit Go.Deep
abbrev QZ:=Int × Int
def DG (v:QZ) :List Zl:= [.int .i64 v.1,.int .i64 v.2]
def JO (v:QZ) :Array Zl:=(DG v).toArray
theorem EH (v:QZ) :(DG v).length=2:=rfl
theorem Ov (v:QZ) : ∀u ∈ DG v,u.oneCell'=true:=by
 intro u hu;simp only [DG,ZX,Yk,or_false] at hu
 rcases hu with rfl | rfl <;> rfl
theorem WD (v:QZ) :(JO v).all (·.oneCell')=true:=by
 refine ZQ.2 (fun u hu=>Ov v u (by simpa [JO] using hu))
theorem MC:(Tryz.prog.info? 271).map (·.size)=some 2:=ZC
theorem ZhT:(Tryz.prog.info? 271).map (fun i=>(i.zero,i.size,i.bytes))=some (some (.agg #[.int .i64 0,.int .i64 0]),2,16):=ZC
def Qf (l:List QZ) :List Zl:=l.flatMap DG
theorem UO (l:List QZ) :(Qf l).length=l.length*2:=by
 induction l with
 | nil=>rfl
 | cons x l ih=>simp only [Qf,Jh,ZI,EH,Yg] at ih ⊢; omega
theorem Mt (l m:List QZ) :Qf (l++m)=Qf l++Qf m:=by simp [Qf]
theorem fM (v:QZ) :Qf [v]=(DG v):=by simp [Qf]
theorem kh {l:List QZ}{i:Nat}{v:QZ}(h:l[i]?=some v){j:Nat}(hj:j < 2) :(Qf l)[i*2+j]?=(DG v)[j]?:=by
 induction l generalizing i with
 | nil=>simp at h
 | cons x l ih=>
  cases i with
  | zero=>
   simp at h;subst h;simp only [Qf,Jh,Nat.zero_mul,ZW];rw [Yw (by rw [EH]; exact hj)]
  | succ i=>
   simp only [List.getElem?_cons_succ] at h;have:=ih h;simp only [Qf,Jh] at this ⊢;rw [List.getElem?_append_right (by rw [EH]; omega),EH,show (i+1)*2+j - 2=i*2+j by omega];exact this
theorem RT {w:Zc}{b off:Nat}{l:List QZ}(h: ∀j u,(Qf l)[j]?=some u->w.cell? ⟨b,off+j,none⟩=some u){i:Nat}{v:QZ}(hi:l[i]?=some v) :w.rangeAt b (off+i*2) (DG v):=by
 intro j u hu;have hj:j < 2:=(Zk.1 hu).1;rw [Jn];exact h _ _ ((kh hi hj).trans hu)
section
variable {P:Program} {ops:Array Oper} {rest:List Oper} {op:Oper} {a:Act} {w:Zc} {Q:Exit->Act->Zc->Prop}
theorem DT (DD:op.guard=none)(ty:ZL)(x:YW)(ho:op.op= .load ty x)
  (b o:Nat) (hx:a.eval x= .pointer (some ⟨b,o,none⟩)) (v:QZ) (d:TypeDesc) (hc:w.rangeAt b o (DG v))
  (hu:P.underlying ty=some d) (hd:d.isRow=true) (hi:(P.info? ty).map (·.size)=some 2)
  (h:Y2 P ops Q rest (a.put op.dst (.agg (JO v))) w) :Y2 P ops Q (op::rest) a w:=
 wpList_load_mid DD ty x ho b o hx (DG v) d hc hu hd hi h
end
structure OpV where
 due:Bool
 ep:Int
 it:Int
deriving Inhabited
def ZlJ (x:OpV) :List Zl:= [.bool x.due,.int .i64 x.ep,.int .i64 x.it]
def Zof (x:OpV) :Array Zl:=(ZlJ x).toArray
end
section
open Go Go.RowKit Go.Deep
section
variable {w w' a:Zc} {g t:Nat} {S:Nat->Prop}
def dR (w:Zc)(g cap n:Nat)(l:List QZ) :Prop:=
 l.length=n/\n<=cap/\cap<=maxLen/\ ∃rest:List Zl,rest.length=(cap - n)*2/\Zu w g 271 (Qf l++rest).toArray
theorem MR {base cap n:Nat}{l:List QZ}(h:w.ownsRow base 271 2 (.slice (some ⟨g,0,none⟩) n cap) n (Qf l)) :dR w g cap n l:=by
 have hl:=h.1;rw [UO] at hl
 rcases h.2 with ⟨h1,_⟩ | ⟨g',Bg,cur,h1,h2,h3,h4,h5,h6,h7⟩
 ·cases h1
 ·injection h1 with h1 _ vC;injection h1 with h1;injection h1 with h1;subst h1 vC;have e:cur=(Qf l++cur.toList.drop (n*2)).toArray:=by rw [<-h7,List.take_append_drop]
  refine ⟨by omega,h4,h5,cur.toList.drop (n*2),?_,by rw [<-e]; exact h3⟩;rw [List.length_drop,Array.length_toList,h6,Nat.sub_mul]
theorem dR.owns {base cap n:Nat}{l:List QZ}(h:dR w g cap n l)(hb:base<=g) :w.ownsRow base 271 2 (.slice (some ⟨g,0,none⟩) n cap) n (Qf l):=by
 obtain ⟨h1,h2,h3,rest,h4,h5⟩:=h;refine ⟨by rw [UO,h1],.inr ⟨g,cap,_,rfl,hb,h5,h2,h3,?_,?_⟩⟩
 ·simp only [List.size_toArray,ZI,UO,h4,h1];have:n*2<=cap*2:=Nat.mul_le_mul_right 2 h2;rw [Nat.sub_mul]; omega
 ·rw [List.toList_toArray,List.take_left' (by rw [UO,h1])]
section
variable {cap n i j:Nat} {l:List QZ} {x y v old:QZ} {X Y L R Q:List QZ}
theorem dR.lt (h:dR w g cap n l) :g < w.heap.size:=by
 obtain ⟨_,_,_,rest,_,h5⟩:=h;exact h5.lt
theorem dR.same (h:dR w g cap n l)(hb:w'.heap[g]?=w.heap[g]?) :dR w' g cap n l:=by
 obtain ⟨h1,h2,h3,rest,h4,h5⟩:=h;exact ⟨h1,h2,h3,rest,h4,hb.trans h5⟩
theorem dR.below (h:dR w g cap n l)(hb:Zp w.heap.size w w') :dR w' g cap n l:=h.same (hb.block g h.lt)
theorem dR.at (h:dR w g cap n l)(hi:l[i]?=some x) :w.rangeAt g (i*2) (DG x):=by
 obtain ⟨h1,h2,h3,rest,h4,h5⟩:=h;have:=RT (w:=w) (b:=g) (off:=0) (l:=l) (fun k u hu=>by
  rw [h5.cell,ZW,XG,Yw (Zk.1 hu).1];exact hu) hi
 rwa [ZW] at this
theorem dR.set (h:dR w g cap n (X++old::Y))(hi:X.length=i)(v:QZ) :dR (w.setCells g (i*2) (DG v)) g cap n (X++v::Y)/\w.there g (i*2) 2:=by
 obtain ⟨h1,h2,h3,rest,h4,h5⟩:=h;have e1:Qf (X++old::Y)++rest=Qf X++DG old++(Qf Y++rest):=by simp [Qf]
 have e2:Qf (X++v::Y)++rest=Qf X++DG v++(Qf Y++rest):=by simp [Qf]
 rw [e1] at h5;have hX:(Qf X).length=i*2:=by rw [UO,hi]
 have Dg:=Gf (DG v) (Qf X) (DG old) (Qf Y++rest) w rfl h5;rw [hX] at Dg;refine ⟨⟨by simpa using h1,h2,h3,rest,h4,by rw [e2]; exact Dg⟩,fun j hj=>⟨?_,h5.frozen _⟩⟩;rw [h5.cell,Array.getElem?_eq_getElem (by simp [UO,hi,EH]; omega)];rfl
end
end
end
section
open Go Go.RowKit Go.Deep
def bk (n:Nat)(L:List QZ)(j:Nat) :List QZ:=L.filter fun e=>e.1%(n:Int)==(j:Int)
def OkE (L:List QZ) :Prop:= ∀e ∈ L,0<=e.1/\e.1<=1099511627776
theorem bu (n:Nat)(L:List QZ)(j:Nat) :(bk n L j).length<=L.length:=List.length_filter_le _ _
theorem ID (n:Nat)(L M:List QZ)(j:Nat) :bk n (L++M) j=bk n L j++bk n M j:=Q7 _ _
theorem uq {n j:Nat}{e:QZ}(h:e.1%(n:Int)=(j:Int))(i:Nat) :bk n [e] i=if i=j then [e] else []:=by
 unfold bk
 by_cases hi:i=j
 ·subst hi; simp [h]
 ·rw [if_neg hi];have: ¬e.1%(n:Int)=(i:Int):=Zf;simp [this]
theorem IE (n:Nat)(L:List QZ)(j:Nat)(p:QZ->Bool) :bk n (L.filter p) j=(bk n L j).filter p:=by
 unfold bk;rw [List.filter_filter,List.filter_filter]
 congr 1
 funext e
 rw [Bool.and_comm]
theorem uo {n j:Nat}{ep:Int}(h:ep%(n:Int)=(j:Int))(L:List QZ) :(bk n L j).filter (fun e=>e.1==ep)=L.filter fun e=>e.1==ep:=by
 unfold bk;rw [List.filter_filter]
 congr 1
 funext e
 by_cases he:e.1=ep
 ·simp [he,h]
 ·simp [he]
theorem ur {n i j:Nat}{ep:Int}(h:ep%(n:Int)=(j:Int))(hi:i≠j)(L:List QZ) :(bk n L i).filter (fun e=>!(e.1==ep))=bk n L i:=by
 rw [List.filter_eq_self];intro e he;have:=(List.mem_filter.1 he).2;simp only [beq_iff_eq] at this;simp only [Vb,beq_eq_false_iff_ne,ne_eq];rintro rfl;omega
structure Vj (w:Zc)(b B n:Nat)(ss:List Zl)(L:List QZ) :Prop where
 own:Zu w b 191 #[.slice (some ⟨B,0,none⟩) n n]
 bks:Zu w B 165 ss.toArray
 len:ss.length=n
 pos:1<=n
 top:n<=4096
 row: ∀(j:Nat) (s:Zl),ss[j]?=some s->w.ownsRow 0 271 2 s (bk n L j).length (Qf (bk n L j))
 apart: ∀(i j:Nat) (s t:Zl) (q:Nat),i≠j->ss[i]?=some s->ss[j]?=some t->s.ownBlock=some q->t.ownBlock≠some q
 ok:OkE L
def NJ (w:Zc)(b:Nat)(S:Nat->Prop)(n:Nat)(L:List QZ) :Prop:=
 ∃B ss,Vj w b B n ss L/\ ∀i,S i ↔ i=b\/i=B\/ ∃s:Zl,s ∈ ss/\s.ownBlock=some i
theorem FD {w:Zc}{s:Zl}{n:Nat}{xs:List Zl}(h:w.ownsRow 0 271 2 s n xs) : ∃a cp,s= .slice a n cp/\n<=cp/\cp<=maxLen:=Zi6
theorem Gm {w w':Zc}{base e k:Nat}{s:Zl}{n:Nat}{xs:List Zl}(h:w.ownsRow base e k s n xs)(hb: ∀i,s.ownBlock=some i->w'.heap[i]?=w.heap[i]?) :w'.ownsRow base e k s n xs:=yI
theorem ie {w:Zc}{base e k:Nat}{s:Zl}{n:Nat}{xs:List Zl}{q t:Nat}{cs:Array Zl}(h:w.ownsRow base e k s n xs)(hq:s.ownBlock=some q)(hb:Zu w q t cs) :t=e:=by
 rcases h.2 with ⟨rfl,_⟩ | ⟨g,cp,cur,rfl,_,h3,_⟩
 ·cases hq
 ·injection hq with hq;have hq:g=q:=hq;subst hq;unfold Zu at hb;rw [h3] at hb;injection hb with hb;injection hb with _ hb;exact hb.symm
section
variable {w w':Zc} {b B n j:Nat} {s s':Zl} {ss:List Zl} {L L':List QZ} {S T:Nat->Prop}
theorem Vj.ne (h:Vj w b B n ss L) :b≠B:=h.own.ne_ h.bks Y5
theorem Vj.not (h:Vj w b B n ss L)(hs:ss[j]?=some s) :s.ownBlock≠some b/\s.ownBlock≠some B:=
 ⟨fun e=>absurd (ie (h.row j s hs) e h.own) Y5,fun e=>absurd (ie (h.row j s hs) e h.bks) Y5⟩
theorem Vj.get (h:Vj w b B n ss L)(hj:j < n) : ∃s,ss[j]?=some s:=⟨_,Zg (by rw [h.len]; exact hj)⟩
theorem Vj.cells (h:Vj w b B n ss L)(hs:ss[j]?=some s) :w.cell? ⟨b,0,none⟩=some (.slice (some ⟨B,0,none⟩) n n)/\w.cell? ⟨B,j,none⟩=some s:=
 ⟨h.own.cell 0,by rw [h.bks.cell j,XG]; exact hs⟩
theorem Vj.same (h:Vj w b B n ss L)(hb:w'.heap[b]?=w.heap[b]?)(hB:w'.heap[B]?=w.heap[B]?)(hs: ∀s:Zl,s ∈ ss-> ∀i,s.ownBlock=some i->w'.heap[i]?=w.heap[i]?) :Vj w' b B n ss L:=
 ⟨hb.trans h.own,hB.trans h.bks,h.len,h.pos,h.top,fun j s hj=>Gm (h.row j s hj) (hs s (Zz hj)),h.apart,h.ok⟩
theorem Vj.lt (h:Vj w b B n ss L)(hs:s ∈ ss){i:Nat}(hi:s.ownBlock=some i) :i < w.heap.size:=by
 obtain ⟨j,hj⟩:=List.mem_iff_getElem?.1 hs;exact ((h.row j s hj).lt i hi).2
theorem Vj.upd (h:Vj w b B n ss L)(hj:ss[j]?=some s)(hb:w'.heap[b]?=w.heap[b]?)(hB:Zu w' B 165 (ss.set j s').toArray)
  (hs: ∀(i:Nat) (t:Zl),i≠j->ss[i]?=some t-> ∀q,t.ownBlock=some q->w'.heap[q]?=w.heap[q]?) (hr:w'.ownsRow 0 271 2 s' (bk n L' j).length (Qf (bk n L' j))) (ho: ∀i,i≠j->bk n L' i=bk n L i)
  (hn:s'.ownBlock=s.ownBlock\/ ∃q,s'.ownBlock=some q/\w.heap.size<=q) (Ag:OkE L') :Vj w' b B n (ss.set j s') L':=by
 have Fc:=(Zk.1 hj).1;have pick: ∀ {i t},(ss.set j s')[i]?=some t->(i=j/\t=s')\/(i≠j/\ss[i]?=some t):=fun {i t} hi=>by
  by_cases e:j=i
  ·subst e;rw [Yz Fc] at hi;exact .inl ⟨rfl,(Option.some.inj hi).symm⟩
  ·rw [Yn e] at hi;exact .inr ⟨fun h=>e h.symm,hi⟩
 refine ⟨hb.trans h.own,hB,by rw [List.length_set]; exact h.len,h.pos,h.top,fun i t hi=>?_,fun i k x y q hik hx hy hq=>?_,Ag⟩
 ·rcases pick hi with ⟨rfl,rfl⟩ | ⟨Kj,hi⟩
  ·exact hr
  ·rw [ho i Kj];exact Gm (h.row i t hi) (hs i t Kj hi)
 ·rcases pick hx with ⟨rfl,rfl⟩ | ⟨Kj,hx2⟩
  ·rcases pick hy with ⟨rfl,rfl⟩ | ⟨hne2,hy⟩
   ·exact absurd rfl hik
   ·rcases hn with hn | ⟨q',hn,hl⟩
    ·exact h.apart _ _ _ _ q hik hj hy (by rw [<-hn]; exact hq)
    ·intro e;have:=h.lt (Zz hy) e;rw [hn] at hq;injection hq with hq;omega
  ·rcases pick hy with ⟨rfl,rfl⟩ | ⟨hne2,hy⟩
   ·rcases hn with hn | ⟨q',hn,hl⟩
    ·intro e;exact h.apart _ _ _ _ q hik hx2 hj hq (by rw [<-hn]; exact e)
    ·intro e;have:=h.lt (Zz hx2) hq;rw [hn] at e;injection e with e;omega
   ·exact h.apart _ _ _ _ q hik hx2 hy hq
theorem NJ.lt (h:NJ w b S n L) : ∀i,S i->i < w.heap.size:=fun i hi=>by
 obtain ⟨B,ss,hp,hS⟩:=h
 rcases (hS i).1 hi with rfl | rfl | ⟨s,hs,hq⟩
 ·exact hp.own.lt
 ·exact hp.bks.lt
 ·exact hp.lt hs hq
theorem NJ.same (h:NJ w b S n L)(hb: ∀i,S i->w'.heap[i]?=w.heap[i]?) :NJ w' b S n L:=by
 obtain ⟨B,ss,hp,hS⟩:=h;exact ⟨B,ss,hp.same (hb b ((hS b).2 (.inl rfl))) (hb B ((hS B).2 (.inr (.inl rfl)))) (fun s hs i hi=>hb i ((hS i).2 (.inr (.inr ⟨s,hs,hi⟩)))),hS⟩
theorem NJ.kept (h:NJ w b S n L)(k:ZA T w w')(hT: ∀i,S i-> ¬T i) :NJ w' b S n L:=h.same fun i hi=>k.block i (h.lt i hi) (hT i hi)
end
end
section
open Go Go.RowKit Go.Deep
theorem ry (n:Nat) :madeCells #[.slice none 0 0] n=(ZD n (Ys none 0 0)).toArray:=by
 apply Array.ext
 ·simp [madeCells]
 ·intro i h1 h2;simp [madeCells,Nat.mod_one]
theorem mr: ∃i,Tryz.prog.info? 165=some i/\i.zero=some (.slice none 0 0)/\i.size=1/\i.bytes=24:=by
 have h:(Tryz.prog.info? 165).map (fun i=>(i.zero,i.size,i.bytes))=some (some (.slice none 0 0),1,24):=ZC
 cases hi:Tryz.prog.info? 165 with
 | none=>exact LV
 | some i=>
  exact Oa
theorem lu (n:Nat)(w:Zc)(h1:1<=n)(h2:n<=4096) :
  Zv Zb 80 #[.int .i64 n] w fun e w'=>e= .returned (.pointer (some ⟨w.heap.size+1,0,none⟩))/\(w.alloc (.cells (ZD n (Ys none 0 0)).toArray 165)).alloc (.cells #[.slice (some ⟨w.heap.size,0,none⟩) n n] 191)=w':=by
 obtain ⟨i,hi,hz,hs,Ns⟩:=mr;have Ew:=fun w=>Jc (P:=Zb) 189 165 i _ underlying189 hi hz .i64 .i64 n n (Zh _) CC Zf w
 rw [hs,Nat.mul_one] at Ew;have hz':(Ys none 0 0).cells= #[.slice none 0 0]:=rfl;rw [hz',ry] at Ew;have h0: ¬(n:Int)< 1:=Zf;have h3: ¬(4096:Int)< (n:Int):=Zf;generalize (ZD n (Ys none 0 0)).toArray=cs at*;clear hi hz hs Ns hz' h1 h2;go_enter func80,ntmps80;exact UD
theorem ln (n:Nat)(w:Zc)(h1:1<=n)(h2:n<=4096) :
  Zv Zb 80 #[.int .i64 n] w fun e w'=> ∃b S,e= .returned (.pointer (some ⟨b,0,none⟩))/\NJ w' b S n []/\(∀i,S i->w.heap.size<=i)/\Zp w.heap.size w w':=by
 refine (lu n w h1 h2).mono ?_;rintro e w' ⟨rfl,rfl⟩;refine ⟨w.heap.size+1,fun i=>i=w.heap.size+1\/i=w.heap.size,rfl,?_,fun i hi=>by omega,((Zn _ _).alloc (Zh _) _).alloc ZE _⟩;refine ⟨w.heap.size,ZD n (.slice none 0 0),⟨?_,?_,by simp,h1,h2,fun j s hj=>?_,fun i j s t q _ hs _ hq=>?_,fun e he=>by simp at he⟩,fun i=>?_⟩
 ·have:=Zs (w.alloc (.cells (ZD n (Ys none 0 0)).toArray 165)) 191 #[.slice (some ⟨w.heap.size,0,none⟩) n n];rwa [World.size_alloc] at this
 ·exact YK (Zs w _ _) _
 ·obtain ⟨_,rfl⟩:=List.mem_replicate.1 (Zz hj);exact World.ownsRow_nil _ _ _ _
 ·obtain ⟨_,rfl⟩:=List.mem_replicate.1 (Zz hs)
  cases hq
 ·constructor
  ·rintro (h | h)
   ·exact .inl h
   ·exact .inr (.inl h)
  ·rintro (h | h | ⟨s,hs,hq⟩)
   ·exact .inl h
   ·exact .inr h
   ·obtain ⟨_,rfl⟩:=List.mem_replicate.1 hs
    cases hq
theorem On (b n j cp:Nat)(a:Option Addr)(ep:Int)(w:Zc)(hb:w.cell? ⟨b,0,none⟩=some (.slice a n cp))(hn:1<=n)(kB:n<=4096)(h0:0<=ep)(h1:ep<=1099511627776)(hj:ep%(n:Int)=(j:Int)) :
  Y6 229 #[.pointer (some ⟨b,0,none⟩),.int .i64 ep] w (.tuple #[.int .i64 j,.bool true]):=by
 have h2: ¬ep < 0:=Zf;have h3: ¬1099511627776 < ep:=Zf;have hnz:((n:Int)==0)=false:=Xo;have hnz2: ¬(n:Int)=0:=Zf;have hnz3:(0:Int)< (n:Int):=Zf;go_enter func229,ntmps229;go_wp2;go_ret2;exact Gw
end
section
open Go Go.RowKit Go.Deep
theorem bH: ∃i,Tryz.prog.info? 271=some i/\i.zero=some (.agg #[.int .i64 0,.int .i64 0])/\i.size=2/\i.bytes=16:=by
 have h:=ZhT
 cases hi:Tryz.prog.info? 271 with
 | none=>exact LV
 | some i=>
  exact Oa
theorem IP:(Tryz.prog.info? 271).map (fun i=>(i.zero,i.size))=some (some (.agg #[.int .i64 0,.int .i64 0]),2):=by
 obtain ⟨i,hi,h1,h2,h3⟩:=bH;rw [hi];simp [h1,h2]
theorem oe (w:Zc)(e:QZ)(t:ZL) : ∀j u,(DG e)[j]?=some u->(w.alloc (.cells (JO e) t)).cell? ((⟨w.heap.size,0,none⟩ :Addr).add j)=some u:=fun j u hu=>by
 rw [add_plain,ZW,(Zs w t (JO e)).cell j];simpa [JO] using hu
theorem xw {w w3:Zc}{b B n j:Nat}{s s':Zl}{ss:List Zl}{L:List QZ}{e:QZ}(h:Vj w b B n ss L)(hs:ss[j]?=some s)(hj:e.1%(n:Int)=(j:Int))(he:0<=e.1/\e.1<=1099511627776)
  (hk:ZA (fun i=>s.ownBlock=some i) w w3) (ho:w3.ownsRow 0 271 2 s' ((bk n L j).length+1) (Qf (bk n L j)++DG e)) (hn:s'.ownBlock=s.ownBlock\/ ∃q,s'.ownBlock=some q/\w.heap.size<=q) :
  Vj (w3.setCell ⟨B,j,none⟩ s') b B n (ss.set j s') (L++[e]):=by
 have Hy:=h.not hs;have Fc:=(Zk.1 hs).1;have hBne: ∀q,s'.ownBlock=some q->q≠B:=fun q hq e=>by
  rcases hn with hn | ⟨q',hn,hl⟩
  ·exact Hy.2 (by rw [<-hn,hq,e])
  ·rw [hq] at hn;injection hn with hn;have:=h.bks.lt;omega
 have hBk:w3.heap[B]?=w.heap[B]?:=hk.block B h.bks.lt Hy.2;have e1:bk n (L++[e]) j=bk n L j++[e]:=by rw [ID,uq hj,if_pos rfl]
 refine h.upd hs ?_ ?_ (fun i t hij ht q hq=>?_) ?_ (fun i hi=>by rw [ID,uq hj,if_neg hi,List.append_nil]) hn (fun x hx=>?_)
 ·exact ZfN
 ·exact Ze6
 ·exact ZmT
 ·rw [e1];refine Gm (w:=w3) ?_ (fun q hq=>Below.heap_setCell _ _ _ _ (hBne q hq));rw [ZI,List.length_singleton,Mt,fM];exact ho
 ·rcases Yb.1 hx with hx | hx
  ·exact h.ok x hx
  ·rw [Ym.1 hx]; exact he
theorem ZcX (b B n j:Nat)(ss:List Zl)(s:Zl)(L:List QZ)(ep it:Int)(w:Zc)(h:Vj w b B n ss L)(hs:ss[j]?=some s)(h0:0<=ep)(h1:ep<=1099511627776)(hj:ep%(n:Int)=(j:Int))(hL:L.length<=100000) :
  Zv Zb 185 #[.pointer (some ⟨b,0,none⟩),.int .i64 ep,.int .i64 it] w fun e w'=>e= .returned (.bool true)/\ ∃s',Vj w' b B n (ss.set j s') (L++[(ep,it)])/\(s'.ownBlock=s.ownBlock\/ ∃q,s'.ownBlock=some q/\w.heap.size<=q)/\ZA (fun i=>i=B\/s.ownBlock=some i) w w':=by
 have Ei:j < n:=zj
 have GA:=h.row j s hs;have hq:=bu n L j;obtain ⟨a,cp,rfl,vC,vD⟩:=FD GA;obtain ⟨x0,x1⟩:=h.cells hs;have Hy:=h.not hs;have HN:=Za (On b n j n (some ⟨B,0,none⟩) ep w x0 h.pos h.top h0 h1 hj);have HLT:Zj (∀i,(Ys a (bk n L j).length cp).ownBlock=some i->i < w.heap.size):=Za (fun i hi=>(GA.lt i hi).2);have Pq:=h.own.lt;have hBl:=h.bks.lt;have HH:=Za h;have HS:=Za hs;have HJ:=Za hj;have HR:=Za GA;have HE:=Za (Zm h0 h1);have ZaX:=Za Hy;have hj1: ¬(j:Int)< 0:=Zf;have hj2: ¬(n:Int)<=(j:Int):=Zf;have hj3:(j:Int)< (n:Int):=Zf;obtain ⟨q,wg⟩:=ZR ((bk n L j).length);rw [wg] at hq HLT HR ZaX vC x1;have HQ:=Za wg;clear h hs GA Hy hj wg;rw [HQ.o] at HS ⊢;obtain ⟨n0,LG⟩:=ZR (w.heap.size);go_enter func185,ntmps185;go_wp2_with fail;refine HN.o.mono ?_;rintro e w' ⟨rfl,rfl⟩;go_wp2_with fail;refine L5 (fun _=>True) 18 18 [] trivial ?_;refine Yo ?_;refine UQ (fun w'=>w'.cell? ⟨b,0,none⟩=some (.slice (some ⟨B,0,none⟩) n n)/\w'.cell? ⟨B,j,none⟩=some (.slice a q cp)) (m:=18) (f:=3) [0,1,2,3,4,5,6,7,8,9,10,11,12,13,14] (fun _ _=>trivial) ZC ⟨x0,x1⟩ ?_;refine JH ?_;show wpQuiet _ _ _ _ [_,_,_,_,_,_,_,_,_,_,_,_,_,_,_] _;refine Ec ?_;refine KY 189 _ (.slice (some ⟨B,0,none⟩) n n) (fun w h=>h.1) ?_;refine X7 ?_;refine Dw ?_;refine KY 189 _ (.slice (some ⟨B,0,none⟩) n n) (fun w h=>h.1) ?_;refine X7 ?_;refine BZ ?_;refine KY 165 _ (.slice a q cp) (fun w h=>h.2) ?_;refine X7 ?_;refine Ec ?_;refine Yo ?_;refine JC (i:=15) ?_;refine Yv rfl rfl (JB 165 271 (.tmp 31) _ (.int .i64 ep) (.int .i64 it) rfl rfl underlying165 IP ⟨⟨ZJ _ x0,ZJ _ x1⟩,?_⟩);refine JC (i:=16) ?_;refine Ee ?_;obtain ⟨i,hi,hz,bV,Ns⟩:=bH;refine Yv rfl rfl (GP _ (.tmp 28) (.tmp 32) 165 rfl 0 271 i _ 2 16 underlying165 hi hz bV Ns rfl Zf (.slice a q cp) q (Qf (bk n L j)) rfl (World.ownsRow.alloc (w:=w.drew) HR.o _)
  (some ⟨w.drew.heap.size,0,none⟩) 1 1 (DG (ep,it)) rfl rfl (fun _=>⟨_,rfl,oe w.drew (ep,it) _⟩) (Ov _) Vx Zf Zf ?_)
 intro s' w3 ho3 hg3 hs3;have HK3:Zj (ZA (fun i=>(Ys a q cp).ownBlock=some i) w w3):=Za (((ZS _ w).drew.alloc _).trans (ZA.of_grown hg3 (S:=fun i=>(Ys a q cp).ownBlock=some i) (fun i hi=>hi.symm)) (fun _ _ h=>h));have CM:Zj (w3.ownsRow 0 271 2 s' (q+1) (Qf (bk n L j)++DG (ep,it))):=Za ho3;have HS3:Zj (s'.ownBlock=(Ys a q cp).ownBlock\/ ∃p,s'.ownBlock=some p/\w.heap.size<=p):=Za (hs3.imp id (fun h=>⟨_,h,by simp⟩));have y0:=HK3.o.cell (p:=⟨b,0,none⟩) ZaX.o.1 x0;have y1:=HK3.o.cell (p:=⟨B,j,none⟩) ZaX.o.2 x1;obtain ⟨a',Bg,rfl,-,-⟩:=FD ho3;refine ⟨⟨y0,y1⟩,?_⟩;clear ho3 hg3 hs3 hi hz bV Ns;refine Ee ?_;refine TS (fun w'=>w'.cell? ⟨b,0,none⟩=some (.slice (some ⟨B,0,none⟩) n n)/\w'.cell? ⟨B,j,none⟩=some (.slice a q cp)) (m:=1) (f:=0) [17] ⟨y0,y1⟩ ?_;refine JH ?_;refine Hh ?_;refine U4 ?_;refine Yo ?_;refine GD ?_;refine ⟨by kernel_rfl,?_⟩;refine LA ?_;have z1:w3.frozen? ⟨B,j,none⟩=false:=by
  rw [HK3.o.frozen (p:=⟨B,j,none⟩) ZaX.o.2 hBl];exact HH.o.bks.frozen j
 go_wp2;refine U1 ?_;go_wp2;go_ret;refine ⟨rfl,.slice a' (q+1) Bg,?_,HS3.o,?_⟩
 ·have hhs:=HS.o;exact xw HH.o hhs HJ.o HE.o HK3.o (by rw [HQ.o]; exact CM.o) HS3.o
 ·exact (HK3.o.more (fun _ _ h=> .inr h)).setCell (.inl (.inl rfl)) _
theorem lP (b n:Nat)(S:Nat->Prop)(L:List QZ)(ep it:Int)(w:Zc)(h:NJ w b S n L)(h0:0<=ep)(h1:ep<=1099511627776)(hL:L.length<=100000) :
  Zv Zb 185 #[.pointer (some ⟨b,0,none⟩),.int .i64 ep,.int .i64 it] w fun e w'=>e= .returned (.bool true)/\ ∃S',NJ w' b S' n (L++[(ep,it)])/\(∀i,S' i->S i\/w.heap.size<=i)/\ZA S w w':=by
 obtain ⟨B,ss,hp,hS⟩:=h;obtain ⟨j,hj⟩ : ∃j:Nat,ep%(n:Int)=(j:Int):=⟨(ep%(n:Int)).toNat,by have:=Int.emod_nonneg ep (b:=(n:Int)) mU; omega⟩;have Ei:j < n:=Zfw
 obtain ⟨s,hs⟩:=hp.get Ei;refine (ZcX b B n j ss s L ep it w hp hs h0 h1 hj hL).mono ?_;rintro e w' ⟨he,s',h2,h3,h4⟩;refine ⟨he,fun i=>i=b\/i=B\/ ∃s:Zl,s ∈ ss.set j s'/\s.ownBlock=some i,⟨B,_,h2,fun _=>Iff.rfl⟩,?_,h4.more (fun i _ hi=>?_)⟩
 ·rintro i (rfl | rfl | ⟨t,ht,hq⟩)
  ·exact .inl ((hS _).2 (.inl rfl))
  ·exact .inl ((hS _).2 (.inr (.inl rfl)))
  ·rcases XI ht with ht | rfl
   ·exact .inl ((hS i).2 (.inr (.inr ⟨t,ht,hq⟩)))
   ·rcases h3 with h3 | ⟨q,h3,hl⟩
    ·exact .inl ((hS i).2 (.inr (.inr ⟨s,Zz hs,by rw [<-h3]; exact hq⟩)))
    ·rw [hq] at h3;injection h3 with h3;exact .inr Zf
 ·exact ZeT
end
section
open Go.RowKit
theorem EX {b:Nat}{D P B C:Int}{w:Zc}(h:KR w b D P B C)(hF:JJ D P B C) :
  Xc 212 #[.pointer (some ⟨b,0,none⟩)] w (.int .u64 (D - P - B)):=
 eG b D P B w h.cells.1 h.cells.2.1 h.cells.2.2.1 hF.1 hF.2.1 hF.2.2.1 hF.2.2.2.1
theorem j1:(Tryz.prog.info? 260).map (fun i=>(i.zero,i.size))=some (some (.agg #[.int .i64 0,.int .u64 0]),2):=ZC
theorem WL (b:Nat)(D P B C x:Int)(w:Zc)(h:KR w b D P B C)(hF:JJ D P B C)(hx:x>C -(D - P - B)) :
  Xc 168 #[.pointer (some ⟨b,0,none⟩),.int .u64 x] w (.int .i64 4):=by
 have c3:=h.cells.2.2.2;have HB:Zj (∀n,Xc 212 #[.pointer (some ⟨b,0,none⟩)] (w.drewN n) (.int .u64 (D - P - B))):=Za (fun n=>EX (XD h n) hF);obtain ⟨f0,f1,f2,f3,f4,f5⟩:=hF;clear h;go_enter func168,ntmps168;go_wp2;go_quiet ((go_at_call 212; exact QJ (HB.o _)));exact pz
theorem bE (b:Nat)(D P B C x:Int)(w:Zc)(h:KR w b D P B C)(hF:JJ D P B C)(x0:0<=x)(x1:x<=18446744073709551615)(hx:x<=C -(D - P - B))(ho:18446744073709551615 < D+x) :
  Z3 168 #[.pointer (some ⟨b,0,none⟩),.int .u64 x] w (.int .i64 10):=by
 have c3:=h.cells.2.2.2;have HB:Zj (∀n,Xc 212 #[.pointer (some ⟨b,0,none⟩)] (w.drewN n) (.int .u64 (D - P - B))):=Za (fun n=>EX (XD h n) hF);have HK:Zj (∀(g:Nat) (w:Zc),KR w b D P B C->Zu w g 260 #[.int .i64 (0:Nat),.int .u64 x]->Z3 213 #[.pointer (some ⟨b,0,none⟩),.slice (some ⟨g,0,none⟩) 1 1] w (.bool false)):=
  Za (fun g w hl hg=>Zbu 0 b g D P B C x D w hl hg Zf rfl (by have:=hF; unfold JJ at this; omega) hF.2.2.2.1 x0 x1 Zf)
 have H:=Za h;obtain ⟨f0,f1,f2,f3,f4,f5⟩:=hF;clear h;go_enter func168,ntmps168;go_wp2;go_quiet ((go_at_call 212; exact QJ (HB.o _)));go_wp2_with fail;refine (HK.o w.heap.size _ (YK (XD H.o nq) _) (Zs (w.drewN nq) _ _)).mono ?_;rintro e w1 ⟨rfl,Hj⟩;go_wp2_with fail;go_ret;exact ⟨rfl,((below_drewN (Zn _ w) nq).alloc (Zh _) _).trans (Hj.mono ZE)⟩
theorem jU (b:Nat)(D P B C x:Int)(w:Zc)(h:KR w b D P B C)(hF:JJ D P B C)(x0:0<=x)(hx:x<=C -(D - P - B))(ho:D+x<=18446744073709551615) :
  Zv Zb 168 #[.pointer (some ⟨b,0,none⟩),.int .u64 x] w fun e w'=>e= .returned (.int .i64 0)/\KR w' b (D+x) P B C/\w.grownBy w' (some b):=by
 have c3:=h.cells.2.2.2;have HB:Zj (∀n,Xc 212 #[.pointer (some ⟨b,0,none⟩)] (w.drewN n) (.int .u64 (D - P - B))):=Za (fun n=>EX (XD h n) hF);have HK:Zj (∀(g:Nat) (w:Zc),KR w b D P B C->Zu w g 260 #[.int .i64 (0:Nat),.int .u64 x]->Zv Zb 213 #[.pointer (some ⟨b,0,none⟩),.slice (some ⟨g,0,none⟩) 1 1] w fun e w'=>e= .returned (.bool true)/\KR w' b (D+x) P B C/\w.grownBy w' (some b)):=
  Za (fun g w hl hg=>eJ 0 b g D P B C (D+x) P B x D w hl hg Zf rfl rfl (by have:=hF; unfold JJ at this; omega) x0 ho)
 have H:=Za h;obtain ⟨f0,f1,f2,f3,f4,f5⟩:=hF;clear h;go_enter func168,ntmps168;go_wp2;go_quiet ((go_at_call 212; exact QJ (HB.o _)));go_wp2_with fail;refine (HK.o w.heap.size _ (YK (XD H.o nq) _) (Zs (w.drewN nq) _ _)).mono ?_;rintro e w1 ⟨rfl,hl1,hg1⟩;have HE:=Za (Zm hl1 (AB (EB (US (K9 w (some b)) nq) _) hg1));clear hl1 hg1;go_wp2_with fail;go_ret;exact ⟨rfl,HE.o⟩
theorem P0 (b s:Nat)(D P B C D' P' B' x y:Int)(w:Zc)(h:KR w b D P B C)(hF:JJ D P B C)(hx:x<=D - P - B)(x0:0<=x)(hs:s < 3)
  (hy:(#[.int .u64 D,.int .u64 P,.int .u64 B] :Array Zl)[s]?=some (.int .u64 y)) (hup:(#[.int .u64 D,.int .u64 P,.int .u64 B] :Array Zl).setIfInBounds s (.int .u64 (y+x))= #[.int .u64 D',.int .u64 P',.int .u64 B'])
  (y0:0<=y) (MB:y+x<=18446744073709551615) :
  Zv Zb 228 #[.pointer (some ⟨b,0,none⟩),.agg #[.int .i64 s,.int .u64 x]] w fun e w'=>e= .returned (.int .i64 0)/\KR w' b D' P' B' C/\w.grownBy w' (some b):=by
 have HK:Zj (∀(g:Nat) (w:Zc),KR w b D P B C->Zu w g 260 #[.int .i64 s,.int .u64 x]->Zv Zb 213 #[.pointer (some ⟨b,0,none⟩),.slice (some ⟨g,0,none⟩) 1 1] w fun e w'=>e= .returned (.bool true)/\KR w' b D' P' B' C/\w.grownBy w' (some b)):=
  Za (fun g w hl hg=>eJ s b g D P B C D' P' B' x y w hl hg hs hy hup y0 x0 MB)
 have HNE:Zj (some w.heap.size≠some b):=Za (by have:=Zu.lt h; intro e; injection e with e; omega);have HF:=Za hF;have H1:Zj (KR (w.alloc (.cells #[.int .i64 s,.int .u64 x] 260)) b D P B C):=Za (YK h _);have HE:Zj (Zu (w.alloc (.cells #[.int .i64 s,.int .u64 x] 260)) w.heap.size 260 #[.int .i64 s,.int .u64 x]):=Za (Zs _ _ _);have HG:Zj (w.grownBy (w.alloc (.cells #[.int .i64 s,.int .u64 x] 260)) (some b)):=Za (EB (K9 _ _) _);clear h hF hy hup MB;go_enter func228,ntmps228;go_wp2;generalize w.alloc (.cells #[.int .i64 s,.int .u64 x] 260)=W at*;refine L5 (fun w'=>Zu w' w.heap.size 260 #[.int .i64 s,.int .u64 x]) 14 9 [0,1,2,3,4] (Km HE.o) ?_;refine JH ?_;refine OJ ?_;refine U4 ?_;refine KY 23 _ (.int .u64 x) (fun w h=>Qc h 1) ?_;refine X7 ?_;refine Ec ?_;refine Yo ?_;refine Ed ?_;refine JA #[.pointer (some ⟨b,0,none⟩)] call212 ((EX (Km H1.o) HF.o).mono ?_);rintro e w1 ⟨rfl,m,rfl⟩;refine ⟨_,rfl,XD (Km HE.o) m,?_⟩;have HX:Zj (decide (D - P - B < x)=false):=Za (by simpa using hx);refine Ee ?_;refine TS (fun w'=>Zu w' w.heap.size 260 #[.int .i64 s,.int .u64 x]) (m:=8) (f:=2) [6,7,8,9,10,11] (XD (Km HE.o) m) ?_;refine JH ?_;refine dO ?_;refine U4 ?_;rw [HX.o];refine Dw ?_;refine Jb 260 (.tmp 3) w.heap.size 260 _ _ ZC rfl rfl (fun _ h=>h) underlying260 rfl wB ?_;refine X7 ?_;refine Yo ?_;refine JC (i:=12) ?_;refine Vo rfl ZC (JB 298 260 (.tmp 18) _ (.int .i64 s) (.int .u64 x) rfl rfl underlying298 j1 ⟨YK (XD (Km HE.o) m) _,?_⟩);refine Ee ?_;refine JC (i:=13) ?_;refine Vo rfl ZC (KL rfl #[.pointer (some ⟨b,0,none⟩),.slice (some ⟨(W.drew.drewN m).heap.size,0,none⟩) 1 1] ZC call213 ((HK.o (W.drew.drewN m).heap.size _ (YK (XD (Km H1.o) m) _) (Zs (W.drew.drewN m) _ _)).mono ?_));rintro e w2 ⟨rfl,vH,CQ⟩;have hE2:=(YK (XD (Km HE.o) m) (.cells #[.int .i64 s,.int .u64 x] 260)).grown CQ HNE.o;have HZ:=Za (Zm vH (AB (EB (US (ae HG.o) m) _) CQ));refine ⟨_,rfl,hE2,?_⟩;clear vH CQ hE2;refine GD ?_;refine ⟨by kernel_rfl,?_⟩;refine LA ?_;go_wp2;refine U1 ?_;go_wp2;go_ret;exact ⟨rfl,HZ.o⟩
end
section
open Go.RowKit
section
variable (b:Nat) (D P B C x:Int) (w:Zc) (h:KR w b D P B C) (hF:JJ D P B C)
include h hF
theorem ZcP (x0:0<=x)(hx:x<=D - P - B) :Zv Zb 247 #[.pointer (some ⟨b,0,none⟩),.int .u64 x] w fun e w'=>e= .returned (.int .i64 0)/\KR w' b D (P+x) B C/\w.grownBy w' (some b):=by
 have H:=Za (P0 b 1 D P B C D (P+x) B x P w h hF hx x0 Zf rfl rfl hF.1 (by unfold JJ at hF; omega));clear h hF hx;go_enter func247,ntmps247;exact Znb
theorem uy (x0:0<=x)(hx:x<=D - P - B) :Zv Zb 184 #[.pointer (some ⟨b,0,none⟩),.int .u64 x] w fun e w'=>e= .returned (.int .i64 0)/\KR w' b D P (B+x) C/\w.grownBy w' (some b):=by
 have H:=Za (P0 b 2 D P B C D P (B+x) x B w h hF hx x0 Zf rfl rfl hF.2.1 (by unfold JJ at hF; omega));clear h hF hx;go_enter func184,ntmps184;exact Znb
end
end
section
open Go Go.RowKit
section
variable {α:Type} {row:α->List Zl} {k:Nat} {w w':Zc} {a:Option Addr} {l:List α} {S T:Nat->Prop}
def VM (row:α->List Zl)(k:Nat)(a:Option Addr)(l:List α) :Zc->(Nat->Prop)->Prop:=fun w S=>Vy row k w (fun i=> ¬S i) a l/\ ∀i,S i->i < w.heap.size
theorem Td:Xh (VM row k a l):=by
 refine ⟨fun w S h=>h.2,fun w w' S T h hk hT=>⟨?_,fun i hi=>Nat.lt_of_lt_of_le (h.2 i hi) hk.size⟩⟩;exact h.1.same hk.size fun b hb hn=>hk.block b hb (hT b (Classical.not_not.1 hn))
theorem VM.nil (w:Zc)(a:Option Addr) :VM row k a ([] :List α) w (fun _=>False):=⟨Vy.nil _ _ _,fun _ h=>h.elim⟩
end
end
section
open Go Go.RowKit Go.Deep
theorem SY {x y:Zl}(o1:x.oneCell'=true)(o2:y.oneCell'=true) :(#[x,y] :Array Zl).all (·.oneCell')=true:=by simp [o1,o2]
theorem lR (b g size n f c i:Nat)(C F:List Zl)(x y:Zl)(w:Zc)(hr:Jw 151 116 2 w b g size n f c C)(hw:QY C (f*2) F)(hF:F.length=c*2)(hx:F[i*2]?=some x)(hy:F[i*2+1]?=some y)(o1:x.oneCell'=true)(o2:y.oneCell'=true) :
  Z3 298 #[.pointer (some ⟨b,0,none⟩),.int .i64 i] w (.tuple #[.agg #[x,y],.bool true]):=by
 obtain ⟨-,d1,d2,d3,-,-,-⟩:=hr.cells;obtain ⟨B1,B2,hC,Ab,W6,RH,hs⟩:=hr;have hic:i < c:=Zfb
 have hi1: ¬(i:Int)< 0:=Zf;have Gi: ¬(c:Int)<=(i:Int):=Zf;obtain ⟨p,hp⟩ : ∃p:Nat,(f+i)%n=p:=⟨_,rfl⟩;have RI:p < n:=zL
 have KT:w.cell? ⟨g,p*2,none⟩=some x:=Ze2
 have bQ:w.cell? ⟨g,p*2+1,none⟩=some y:=Zmo
 have VX: ∀W:Zc,W.cell? ⟨b,1,none⟩=some (.slice (some ⟨g,0,none⟩) n n)->W.cell? ⟨b,2,none⟩=some (.int .i64 f)->Xc 191 #[.pointer (some ⟨b,0,none⟩),.int .i64 i] W (.int .i64 p):=fun W x1 x2=>by
  have:=MK b n f i _ n W x1 x2 Zf Zf Zf;rwa [hp] at this
 have hgl:=B2.lt;have Pq:=B1.lt;have hra:(w.alloc (.cells #[.int .i64 0,.int .i64 0] 116)).rangeAt g (p*2) [x,y]:=fun j v hv=>by
  exact ZmS
 have HRA:=Za hra;have Rj:=Za VX;have e1:=Q6 (.cells #[.int .i64 0,.int .i64 0] 116) d1;have e2:=Q6 (.cells #[.int .i64 0,.int .i64 0] 116) d2;clear VX hp B1 B2 hC hw hF hx hy hra KT bQ;go_enter func298,ntmps298;go_wp2_with fail;refine (AN _ c _ (Q6 _ d3)).mono ?_;rintro e w' ⟨rfl,rfl⟩;go_wp2;refine BU 9 ?_;refine BY ?_;iterate 8 (go_big_quiet_step ((go_at_call 191; exact QJ (Rj.o _ e1 e2))))
 refine cJ (.agg #[x,y]) rfl (fun W hW=>?_) ?_
 ·obtain ⟨q,rfl⟩:=hW;have hl:=run_loadAt_mid (P:=Zb) ((w.alloc (.cells #[.int .i64 0,.int .i64 0] 116)).drewN q) g (p*2) 116 [x,y] _ HRA.o underlying116 rfl ZC;unfold XU;simp only [Act.eval,Yq]
  erw [hl]
  rfl
 refine Yo ?_;intro _ JG;obtain ⟨nr,Xk⟩:=JG;subst Xk;refine YQ rfl _ _ _ rfl w.heap.size #[x,y] rfl rfl 116 _ (XD (Zs w _ _) nr) ZC rfl (by simp [o1,o2]) ?_;have HB:Zj (Zu ((((w.alloc (.cells #[.int .i64 0,.int .i64 0] 116)).drewN nr)).setRow w.heap.size #[x,y]) w.heap.size 116 #[x,y]):=Za (Jv (XD (Zs w _ _) nr) _);have HL:Zj (Zp w.heap.size w ((((w.alloc (.cells #[.int .i64 0,.int .i64 0] 116)).drewN nr)).setRow w.heap.size #[x,y])):=Za (below_setRow (below_drewN ((Zn _ _).alloc (Zh _) _) nr) (Zh _) _);go_wp2;refine Ye (v:= .tuple #[.agg #[x,y],.bool true]) (Qg (fn:=Tryz.f298) rfl _ _ w.heap.size 116 _ (0,0) _ rfl HB.o underlying116 rfl ZC) rfl ⟨rfl,HL.o⟩
theorem rZ (b g size n f c:Nat)(C F:List Zl)(x y:Zl)(w:Zc)(hr:Jw 151 116 2 w b g size n f (c+1) C)(hw:QY C (f*2) (x::y::F))(hF:F.length=c*2)(o1:x.oneCell'=true)(o2:y.oneCell'=true) :
  Zv Zb 289 #[.pointer (some ⟨b,0,none⟩)] w fun e w'=>e= .returned (.tuple #[.agg #[x,y],.bool true])/\
   (∃f' C',Jw 151 116 2 w' b g size n f' c C'/\QY C' (f'*2) F)/\ZA (fun i=>i=b\/i=g) w w':=by
 have hpk:=fun W (hW:Zj (Jw 151 116 2 W b g size n f (c+1) C))=>lR b g size n f (c+1) 0 C (x::y::F) x y W hW.o hw (by simp [hF]; omega) ZE ZE o1 o2
 have HR0:=Za hr;have hr0:=Za (hr.kept (S:=fun _=>False) ((ZS _ w).alloc (.cells #[.int .i64 0,.int .i64 0] 116)) id id);obtain ⟨B1,B2,hC,Ab,W6,RH,hs⟩:=hr;have Pq:=B1.lt;have hgl:=B2.lt;have tl:=Za hpk;have EU:=Za B1;have GI:=Za B2;have HC:=Za hC;have HW:=Za hw;have HF:=Za hF;obtain ⟨s,hsv⟩ : ∃s:Nat,(f+1)%n=s:=⟨_,rfl⟩;have Ff:s < n:=zJ
 have VX: ∀W:Zc,W.cell? ⟨b,1,none⟩=some (.slice (some ⟨g,0,none⟩) n n)->W.cell? ⟨b,2,none⟩=some (.int .i64 f)->Xc 191 #[.pointer (some ⟨b,0,none⟩),.int .i64 1] W (.int .i64 s):=fun W x1 x2=>by
  have:=MK b n f 1 _ n W x1 x2 Zf Zf Zf;rwa [hsv] at this
 have Rj:=Za VX;have HSV:=Za hsv;clear VX hsv hpk B1 B2 hC hw hF;go_enter func289,ntmps289;go_wp2_with fail;refine (tl.o _ hr0).mono ?_;rintro e w1 ⟨rfl,hB⟩;have hz:w.heap.size+1<=w1.heap.size:=by have:=hB.size; exact DI
 have hR:Zu w1 w.heap.size 116 #[.int .i64 0,.int .i64 0]:=Zu.below (Zs w _ _) hB ZE;have HB:Zj (Zp w.heap.size w w1):=Za (((Zn _ _).alloc (Zh _) _).trans (hB.mono ZE));have HR:=Za hR;clear hB hR;go_wp2_with (first
  | (refine YQ rfl _ _ _ rfl w1.heap.size #[x,y] rfl rfl 116 _ (Zs w1 _ _) ZC rfl (SY o1 o2) ?_; rw [Zq]))
 have nS:ZA (fun _=>False) w (w1.alloc (.cells #[x,y] 116)):=(Y9 HB.o).alloc _;obtain ⟨d0,d1,d2,d3,-,fz2,vg⟩:=(HR0.o.kept nS id id).cells;have EU:=Za (EU.o.kept nS id);have GI:=Za (GI.o.kept nS id);have ZgI:=Za (HR.o.alloc (.cells #[x,y] 116));have HX:=Za (Zs w1 116 #[x,y]);have HKW:=Za nS;have BK:w1.heap.size < (w1.alloc (.cells #[x,y] 116)).heap.size:=ZE;clear nS HR HB;generalize w1.alloc (.cells #[x,y] 116)=w2 at*;refine BU 14 ?_;refine BY ?_
 repeat (go_big_quiet_step (fail))
 refine Yo ?_;intro _ JG;obtain ⟨nr,Xk⟩:=JG;subst Xk;refine FJ rfl (.tmp 27) _ rfl 116 underlying25 (.agg #[.int .i64 0,.int .i64 0]) (fun _=>by kernel_rfl) Y5 g (f*2) 1 (n - f) rfl Zf C 116 GI.o mN ?_;intro W1 HD1 K1;have TR: ¬b=g:=Zu.ne_ EU.o GI.o Y5;have FN:Zj (Zu W1 b 151 #[.int .i64 size,.slice (some ⟨g,0,none⟩) n n,.int .i64 f,.int .i64 ((c+1:Nat) :Int)]):=Za (Q3 (w:=w2.drewN nr) EU.o K1 TR);have x1:=FN.o.cell 1;have x2:=FN.o.cell 2;have x3:W1.cell? ⟨b,3,none⟩=some (.int .i64 ((c:Int)+1)):=FN.o.cell 3;have y2:=FN.o.frozen 2;have y3:=FN.o.frozen 3;have tI:=Za (Q3 (w:=w2.drewN nr) ZgI.o K1 Zf);have jz:=Za (Q3 (w:=w2.drewN nr) HX.o K1 Zf);have OV:=Za K1;clear K1 d0 d1 d2 d3 fz2 vg;go_wp2_with fail;refine (Rj.o _ x1 x2).mono ?_;rintro e w' ⟨rfl,q2,rfl⟩;have dV:w1.heap.size≠b:=Zf;have kB:w.heap.size≠b:=Zf;have HX2:=Za (Q0 (Q0 (jz.o.drewN q2) (p:=⟨b,2,none⟩) dV (.int .i64 s)) (p:=⟨b,3,none⟩) dV (.int .i64 c));have ee:=Za (Q0 (Q0 (tI.o.drewN q2) (p:=⟨b,2,none⟩) kB (.int .i64 s)) (p:=⟨b,3,none⟩) kB (.int .i64 c));go_wp2_with (first
  | (refine wpList_load_row rfl _ _ rfl w1.heap.size rfl 116 #[x,y] (0,0) _ HX2.o underlying116 rfl ZC ?_)
  | (refine YQ rfl _ _ _ rfl w.heap.size #[x,y] rfl rfl 116 _ ee.o ZC rfl (SY o1 o2) ?_))
 refine Ye (v:= .tuple #[.agg #[x,y],.bool true]) (Qg (fn:=Tryz.f289) rfl _ _ w.heap.size 116 _ (0,0) _ rfl (Jv ee.o _) underlying116 rfl ZC) rfl ?_;refine ⟨rfl,⟨s,_,⟨Zu.setRow_far ?_ (Ji kB) _,Zu.setRow_far (Q0 (Q0 (HD1.o) (Ji TR) _) (Ji TR) _) Zf _,?_,Ff,by omega,RH,hs⟩,?_⟩,?_⟩
 ·exact zd
 ·exact yO
 ·have hZ:(Y3 (Yr (.agg #[.int .i64 0,.int .i64 0])) 1).toList.length=2:=by simp [Y3,Yr]
  generalize (Y3 (Yr (.agg #[.int .i64 0,.int .i64 0])) 1).toList=Z at*;exact Zmw
 ·exact Zmy
theorem rY (b size c:Nat)(go:Option Nat)(F:List Zl)(x y:Zl)(w:Zc)(hi:YG 151 116 2 w b go size (c+1) (x::y::F)) :
  Zv Zb 289 #[.pointer (some ⟨b,0,none⟩)] w fun e w'=>e= .returned (.tuple #[.agg #[x,y],.bool true])/\YG 151 116 2 w' b go size c F/\ZA (Je b go) w w':=by
 obtain ⟨hF,hF1,⟨rfl,h0,_⟩ | ⟨g,n,f,C,rfl,h3,h4⟩⟩:=hi
 ·omega
 ·have hl:F.length=c*2:=zK
  exact (rZ b g size n f c C F x y w h3 h4 hl (hF1 _ ZE) (hF1 _ ZE)).mono fun e w' ⟨he,⟨f',C',k1,k2⟩,k3⟩=>
   ⟨he,k1.at_ k2 hl (fun x hx=>hF1 x (Vg _ (Vg _ hx))),k3.more fun i _ hi=>hi.elim .inl (fun e=> .inr FK)⟩
end
section
open Go Go.RowKit Go.Deep
theorem Tb {x y:Zl}(o1:x.oneCell'=true)(o2:y.oneCell'=true) :(#[x,y] :Array Zl).all (·.oneCell')=true:=by simp [o1,o2]
theorem mh (b g size n f c i:Nat)(C F:List Zl)(x y:Zl)(w:Zc)(hr:Jw 154 119 2 w b g size n f c C)(hw:QY C (f*2) F)(hF:F.length=c*2)(hx:F[i*2]?=some x)(hy:F[i*2+1]?=some y)(o1:x.oneCell'=true)(o2:y.oneCell'=true) :
  Z3 291 #[.pointer (some ⟨b,0,none⟩),.int .i64 i] w (.tuple #[.agg #[x,y],.bool true]):=by
 obtain ⟨-,d1,d2,d3,-,-,-⟩:=hr.cells;obtain ⟨B1,B2,hC,Ab,W6,RH,hs⟩:=hr;have hic:i < c:=Zfb
 have hi1: ¬(i:Int)< 0:=Zf;have Gi: ¬(c:Int)<=(i:Int):=Zf;obtain ⟨p,hp⟩ : ∃p:Nat,(f+i)%n=p:=⟨_,rfl⟩;have RI:p < n:=zL
 have KT:w.cell? ⟨g,p*2,none⟩=some x:=Ze2
 have bQ:w.cell? ⟨g,p*2+1,none⟩=some y:=Zmo
 have VX: ∀W:Zc,W.cell? ⟨b,1,none⟩=some (.slice (some ⟨g,0,none⟩) n n)->W.cell? ⟨b,2,none⟩=some (.int .i64 f)->Xc 196 #[.pointer (some ⟨b,0,none⟩),.int .i64 i] W (.int .i64 p):=fun W x1 x2=>by
  have:=MS b n f i _ n W x1 x2 Zf Zf Zf;rwa [hp] at this
 have hgl:=B2.lt;have Pq:=B1.lt;have hra:(w.alloc (.cells #[.int .i64 0,.int .u64 0] 119)).rangeAt g (p*2) [x,y]:=fun j v hv=>by
  exact ZmS
 have HRA:=Za hra;have Rj:=Za VX;have e1:=Q6 (.cells #[.int .i64 0,.int .u64 0] 119) d1;have e2:=Q6 (.cells #[.int .i64 0,.int .u64 0] 119) d2;clear VX hp B1 B2 hC hw hF hx hy hra KT bQ;go_enter func291,ntmps291;go_wp2_with fail;refine (A7 _ c _ (Q6 _ d3)).mono ?_;rintro e w' ⟨rfl,rfl⟩;go_wp2;refine BU 9 ?_;refine BY ?_;iterate 8 (go_big_quiet_step ((go_at_call 196; exact QJ (Rj.o _ e1 e2))))
 refine cJ (.agg #[x,y]) rfl (fun W hW=>?_) ?_
 ·obtain ⟨q,rfl⟩:=hW;have hl:=run_loadAt_mid (P:=Zb) ((w.alloc (.cells #[.int .i64 0,.int .u64 0] 119)).drewN q) g (p*2) 119 [x,y] _ HRA.o underlying119 rfl ZC;unfold XU;simp only [Act.eval,Yq]
  erw [hl]
  rfl
 refine Yo ?_;intro _ JG;obtain ⟨nr,Xk⟩:=JG;subst Xk;refine YQ rfl _ _ _ rfl w.heap.size #[x,y] rfl rfl 119 _ (XD (Zs w _ _) nr) ZC rfl (by simp [o1,o2]) ?_;have HB:Zj (Zu ((((w.alloc (.cells #[.int .i64 0,.int .u64 0] 119)).drewN nr)).setRow w.heap.size #[x,y]) w.heap.size 119 #[x,y]):=Za (Jv (XD (Zs w _ _) nr) _);have HL:Zj (Zp w.heap.size w ((((w.alloc (.cells #[.int .i64 0,.int .u64 0] 119)).drewN nr)).setRow w.heap.size #[x,y])):=Za (below_setRow (below_drewN ((Zn _ _).alloc (Zh _) _) nr) (Zh _) _);go_wp2;refine Ye (v:= .tuple #[.agg #[x,y],.bool true]) (Qg (fn:=Tryz.f291) rfl _ _ w.heap.size 119 _ (0,0) _ rfl HB.o underlying119 rfl ZC) rfl ⟨rfl,HL.o⟩
theorem sh (b g size n f c:Nat)(C F:List Zl)(x y:Zl)(w:Zc)(hr:Jw 154 119 2 w b g size n f (c+1) C)(hw:QY C (f*2) (x::y::F))(hF:F.length=c*2)(o1:x.oneCell'=true)(o2:y.oneCell'=true) :
  Zv Zb 275 #[.pointer (some ⟨b,0,none⟩)] w fun e w'=>e= .returned (.tuple #[.agg #[x,y],.bool true])/\
   (∃f' C',Jw 154 119 2 w' b g size n f' c C'/\QY C' (f'*2) F)/\ZA (fun i=>i=b\/i=g) w w':=by
 have hpk:=fun W (hW:Zj (Jw 154 119 2 W b g size n f (c+1) C))=>mh b g size n f (c+1) 0 C (x::y::F) x y W hW.o hw (by simp [hF]; omega) ZE ZE o1 o2
 have HR0:=Za hr;have hr0:=Za (hr.kept (S:=fun _=>False) ((ZS _ w).alloc (.cells #[.int .i64 0,.int .u64 0] 119)) id id);obtain ⟨B1,B2,hC,Ab,W6,RH,hs⟩:=hr;have Pq:=B1.lt;have hgl:=B2.lt;have tl:=Za hpk;have EU:=Za B1;have GI:=Za B2;have HC:=Za hC;have HW:=Za hw;have HF:=Za hF;obtain ⟨s,hsv⟩ : ∃s:Nat,(f+1)%n=s:=⟨_,rfl⟩;have Ff:s < n:=zJ
 have VX: ∀W:Zc,W.cell? ⟨b,1,none⟩=some (.slice (some ⟨g,0,none⟩) n n)->W.cell? ⟨b,2,none⟩=some (.int .i64 f)->Xc 196 #[.pointer (some ⟨b,0,none⟩),.int .i64 1] W (.int .i64 s):=fun W x1 x2=>by
  have:=MS b n f 1 _ n W x1 x2 Zf Zf Zf;rwa [hsv] at this
 have Rj:=Za VX;have HSV:=Za hsv;clear VX hsv hpk B1 B2 hC hw hF;go_enter func275,ntmps275;go_wp2_with fail;refine (tl.o _ hr0).mono ?_;rintro e w1 ⟨rfl,hB⟩;have hz:w.heap.size+1<=w1.heap.size:=by have:=hB.size; exact DI
 have hR:Zu w1 w.heap.size 119 #[.int .i64 0,.int .u64 0]:=Zu.below (Zs w _ _) hB ZE;have HB:Zj (Zp w.heap.size w w1):=Za (((Zn _ _).alloc (Zh _) _).trans (hB.mono ZE));have HR:=Za hR;clear hB hR;go_wp2_with (first
  | (refine YQ rfl _ _ _ rfl w1.heap.size #[x,y] rfl rfl 119 _ (Zs w1 _ _) ZC rfl (Tb o1 o2) ?_; rw [Zq]))
 have nS:ZA (fun _=>False) w (w1.alloc (.cells #[x,y] 119)):=(Y9 HB.o).alloc _;obtain ⟨d0,d1,d2,d3,-,fz2,vg⟩:=(HR0.o.kept nS id id).cells;have EU:=Za (EU.o.kept nS id);have GI:=Za (GI.o.kept nS id);have ZgI:=Za (HR.o.alloc (.cells #[x,y] 119));have HX:=Za (Zs w1 119 #[x,y]);have HKW:=Za nS;have BK:w1.heap.size < (w1.alloc (.cells #[x,y] 119)).heap.size:=ZE;clear nS HR HB;generalize w1.alloc (.cells #[x,y] 119)=w2 at*;refine BU 14 ?_;refine BY ?_
 repeat (go_big_quiet_step (fail))
 refine Yo ?_;intro _ JG;obtain ⟨nr,Xk⟩:=JG;subst Xk;refine FJ rfl (.tmp 27) _ rfl 119 underlying26 (.agg #[.int .i64 0,.int .u64 0]) (fun _=>by kernel_rfl) Y5 g (f*2) 1 (n - f) rfl Zf C 119 GI.o mN ?_;intro W1 HD1 K1;have TR: ¬b=g:=Zu.ne_ EU.o GI.o Y5;have FN:Zj (Zu W1 b 154 #[.int .i64 size,.slice (some ⟨g,0,none⟩) n n,.int .i64 f,.int .i64 ((c+1:Nat) :Int)]):=Za (Q3 (w:=w2.drewN nr) EU.o K1 TR);have x1:=FN.o.cell 1;have x2:=FN.o.cell 2;have x3:W1.cell? ⟨b,3,none⟩=some (.int .i64 ((c:Int)+1)):=FN.o.cell 3;have y2:=FN.o.frozen 2;have y3:=FN.o.frozen 3;have tI:=Za (Q3 (w:=w2.drewN nr) ZgI.o K1 Zf);have jz:=Za (Q3 (w:=w2.drewN nr) HX.o K1 Zf);have OV:=Za K1;clear K1 d0 d1 d2 d3 fz2 vg;go_wp2_with fail;refine (Rj.o _ x1 x2).mono ?_;rintro e w' ⟨rfl,q2,rfl⟩;have dV:w1.heap.size≠b:=Zf;have kB:w.heap.size≠b:=Zf;have HX2:=Za (Q0 (Q0 (jz.o.drewN q2) (p:=⟨b,2,none⟩) dV (.int .i64 s)) (p:=⟨b,3,none⟩) dV (.int .i64 c));have ee:=Za (Q0 (Q0 (tI.o.drewN q2) (p:=⟨b,2,none⟩) kB (.int .i64 s)) (p:=⟨b,3,none⟩) kB (.int .i64 c));go_wp2_with (first
  | (refine wpList_load_row rfl _ _ rfl w1.heap.size rfl 119 #[x,y] (0,0) _ HX2.o underlying119 rfl ZC ?_)
  | (refine YQ rfl _ _ _ rfl w.heap.size #[x,y] rfl rfl 119 _ ee.o ZC rfl (Tb o1 o2) ?_))
 refine Ye (v:= .tuple #[.agg #[x,y],.bool true]) (Qg (fn:=Tryz.f275) rfl _ _ w.heap.size 119 _ (0,0) _ rfl (Jv ee.o _) underlying119 rfl ZC) rfl ?_;refine ⟨rfl,⟨s,_,⟨Zu.setRow_far ?_ (Ji kB) _,Zu.setRow_far (Q0 (Q0 (HD1.o) (Ji TR) _) (Ji TR) _) Zf _,?_,Ff,by omega,RH,hs⟩,?_⟩,?_⟩
 ·exact zd
 ·exact yO
 ·have hZ:(Y3 (Yr (.agg #[.int .i64 0,.int .u64 0])) 1).toList.length=2:=by simp [Y3,Yr]
  generalize (Y3 (Yr (.agg #[.int .i64 0,.int .u64 0])) 1).toList=Z at*;exact Zmw
 ·exact Zmy
theorem sg (b size c:Nat)(go:Option Nat)(F:List Zl)(x y:Zl)(w:Zc)(hi:YG 154 119 2 w b go size (c+1) (x::y::F)) :
  Zv Zb 275 #[.pointer (some ⟨b,0,none⟩)] w fun e w'=>e= .returned (.tuple #[.agg #[x,y],.bool true])/\YG 154 119 2 w' b go size c F/\ZA (Je b go) w w':=by
 obtain ⟨hF,hF1,⟨rfl,h0,_⟩ | ⟨g,n,f,C,rfl,h3,h4⟩⟩:=hi
 ·omega
 ·have hl:F.length=c*2:=zK
  exact (sh b g size n f c C F x y w h3 h4 hl (hF1 _ ZE) (hF1 _ ZE)).mono fun e w' ⟨he,⟨f',C',k1,k2⟩,k3⟩=>
   ⟨he,k1.at_ k2 hl (fun x hx=>hF1 x (Vg _ (Vg _ hx))),k3.more fun i _ hi=>hi.elim .inl (fun e=> .inr FK)⟩
end
section
open Go Go.RowKit
structure An where
 bk:Int
 ep:Int
 V:List ZN
 D:Int
 P:Int
 B:Int
 ac:Int
 pd:List Int
 F:List Int
 W:List Int
 mn:Nat
 tn:Nat
 un:Int
def lvB (v:ZN) :Bool:=decide (3<=v.st/\v.st<=6)
def dX (v:ZN) :Bool:=decide (v.st=1)
def bX (v:ZN) :Bool:=decide (v.st=3/\v.ex= -1)
def Tz (v:ZN) :Bool:=decide (v.st=4\/v.st=3/\v.ex≠ -1)
def qN (s:Int) :Bool:=decide (s=6\/s=7)
def og (c:Nat->Int)(v:ZN) :Bool:=decide (v.ex= -1\/(3<=v.st/\v.st<=6)/\v.rq < v.ex/\c 10<=v.wd - v.ex)
def jx (v:ZN) :Bool:=decide (v.bal=0\/ ¬(v.st=6\/v.st=7))
def rJ (v:ZN) :Bool:=decide (v.sl=false\/(3<=v.st/\v.st<=6)/\v.dl= -1)
def Et (q:List Int)(V:List ZN)(p:ZN->Bool) :Bool:=
 ((List.range V.length).all fun i=>!p (V.getD i ZU)||decide (q.count (i:Int)=1))&&decide (q.length=V.countP p)
def XQ (c:Nat->Int)(s:An) :Nat->Bool
 | 0=>decide ((s.V.length:Int)<=c 0)
 | 1=>decide (Zw s.V+s.P+s.B=s.D)
 | 2=>decide (Zw s.V<=c 4)
 | 3=>decide (Yh s.V=s.ac)
 | 4=>Et s.pd s.V dX
 | 5=>Et (s.F++s.W) s.V bX
 | 6=>s.V.all (og c)
 | 7=>s.V.all jx
 | 8=>decide (s.un=(s.V.countP Tz:Nat))
 | 9=>decide ((s.pd.length:Int)<=c 1/\(s.F.length:Int)<=c 1/\(s.W.length:Int)<=c 1/\(s.mn:Int)<=c 1/\(s.tn:Int)<=c 1)
 | 10=>decide (0<=s.bk/\s.ep=s.bk/c 13)
 | _=>s.V.all rJ
def QN (c:Nat->Int)(s:An) :Nat->List Int
 | 0=> []
 | k+1=>QN c s k++if XQ c s k=true then [] else [(k:Int)+1]
def Hw (c:Nat->Int)(s:An) :Int:=(QN c s 12).headD 0
theorem jb {c:Nat->Int}{s:An}{k:Nat}(h:XQ c s k=true) :QN c s (k+1)=QN c s k:=by simp [QN,h]
theorem T9 {c:Nat->Int}{s:An}{k:Nat}(h:XQ c s k=false) :QN c s (k+1)=QN c s k++[(k:Int)+1]:=by simp [QN,h]
theorem Sa {c:Nat->Int}{s:An}{k:Nat}{x:Int}{l:List Int}(h:QN c s k=x::l) : ∀d,∃l',QN c s (k+d)=x::l'
 | 0=>⟨l,h⟩
 | d+1=>by
  obtain ⟨l',hl⟩:=Sa h d;exact ⟨_,by rw [<-Jn,QN,hl,Yf]⟩
theorem uZ {c:Nat->Int}{s:An}{k:Nat}(hk:k < 12)(h0:QN c s k=[])(h:XQ c s k=false) :Hw c s=(k:Int)+1:=by
 have h1:=T9 h;rw [h0,Qo] at h1;obtain ⟨l',hl⟩:=Sa h1 (12 -(k+1));rw [show k+1+(12 -(k+1))=12 by omega] at hl;unfold Hw;rw [hl];rfl
theorem kf {c:Nat->Int}{s:An}(h0:QN c s 12=[]) :Hw c s=0:=by unfold Hw; rw [h0]; rfl
theorem PV (c:Nat->Int)(s:An) : ∀k,(QN c s k).length<=k
 | 0=>Zh _
 | k+1=>by
  have:=PV c s k;rw [QN,ZI]
  split <;> simp <;> omega
def Vz (f:Nat->Nat) :Nat->Nat
 | 0=>0
 | k+1=>Vz f k+f k
theorem Cj (f g:Nat->Nat) : ∀n,Vz (fun i=>f i+g i) n=Vz f n+Vz g n
 | 0=>rfl
 | n+1=>by simp only [Vz,Cj f g n]; omega
theorem Dm {f g:Nat->Nat} : ∀n,(∀i,i < n->f i=g i)->Vz f n=Vz g n
 | 0,_=>rfl
 | n+1,h=>by rw [Vz,Vz,Dm n (fun i hi=>h i Zf),h n Zf]
theorem oH {f g:Nat->Nat} : ∀n,(∀i,i < n->f i<=g i)->Vz f n<=Vz g n
 | 0,_=>Zh _
 | n+1,h=>by have:=oH n (fun i hi=>h i Zf); have:=h n Zf; simp only [Vz]; omega
theorem aB {f g:Nat->Nat} : ∀n,(∀i,i < n->f i<=g i)->Vz g n<=Vz f n-> ∀i,i < n->f i=g i
 | 0,_,_,i,hi=>by omega
 | n+1,h,hs,i,hi=>by
  have h1:=oH n (fun i hi=>h i Zf);have h2:=h n Zf;simp only [Vz] at hs
  by_cases e:i=n
  ·subst e; omega
  ·exact aB n (fun i hi=>h i Zf) Zf i Zf
theorem Ck (a:Int) : ∀n:Nat,Vz (fun i=>if a=(i:Int) then 1 else 0) n<=1/\((n:Int)<=a->Vz (fun i=>if a=(i:Int) then 1 else 0) n=0)
 | 0=>⟨by simp [Vz],fun _=>rfl⟩
 | n+1=>by
  obtain ⟨h1,h2⟩:=Ck a n;simp only [Vz]
  by_cases h:a=(n:Int)
  ·have:=h2 Zf;rw [if_pos h];exact ⟨by omega,fun h3=>by omega⟩
  ·rw [if_neg h];exact ⟨by omega,fun h3=>h2 Zf⟩
theorem R0 (n:Nat) : ∀q:List Int,Vz (fun i=>q.count (i:Int)) n<=q.length
 | []=>by
  have: ∀n,Vz (fun i=>([] :List Int).count (i:Int)) n=0:=fun n=>by
   induction n with
   | zero=>rfl
   | succ n ih=>simpa [Vz] using ih
  rw [this]; exact Nat.zero_le _
 | a::q=>by
  have h:=R0 n q;have e:Vz (fun i=>(a::q).count (i:Int)) n=Vz (fun i=>q.count (i:Int)) n+Vz (fun i=>if a=(i:Int) then 1 else 0) n:=by
   rw [<-Cj];refine Dm n fun i _=>?_
   rw [List.count_cons];simp [beq_iff_eq]
  have:=(Ck a n).1;rw [e,Yg]; omega
theorem OE (p:ZN->Bool)(V:List ZN) : ∀n,n<=V.length->Vz (fun i=>if p (V.getD i ZU)=true then 1 else 0) n=(V.take n).countP p
 | 0,_=>by simp [Vz]
 | n+1,h=>by
  rw [Vz,OE p V n Zf];have hv:V[n]?=some V[n]:=Zg Zf;rw [Bx hv,List.countP_append,Zo,hv];simp only [Option.getD_some,List.countP_cons,List.countP_nil,ZW]
def MH (q:List Int)(b:Bool)(i:Nat) :Bool:=decide (q.count (i:Int)<=1)&&(decide (q.count (i:Int)=1)==b)
def oh (q:List Int)(z:List Bool) :Bool:=((List.range z.length).all fun i=>MH q (z.getD i false) i)&&decide (Vz (fun i=>q.count (i:Int)) z.length=q.length)
theorem AA (q:List Int)(V:List ZN)(p:ZN->Bool) :oh q (V.map p)=Et q V p:=by
 have hP:=OE p V V.length (Zh _);rw [List.take_length] at hP;have DD: ∀i,i < V.length->(V.map p).getD i false=p (V.getD i ZU):=fun i hi=>by
  simp [Zo,Zg hi]
 rw [YD];unfold oh Et;simp only [List.length_map,Bool.and_eq_true,YP,List.mem_range,decide_eq_true_eq,Bool.or_eq_true,Vb,MH,beq_iff_eq];constructor
 ·rintro ⟨h1,h2⟩;have hk: ∀i,i < V.length->q.count (i:Int)=if p (V.getD i ZU)=true then 1 else 0:=fun i hi=>by
   obtain ⟨h3,h4⟩:=h1 i hi;rw [DD i hi] at h4
   cases hp:p (V.getD i ZU) with
   | true=>rw [hp] at h4; simpa using h4
   | false=>rw [hp] at h4; simp at h4 ⊢; omega
  refine ⟨fun i hi=>?_,?_⟩
  ·rw [hk i hi]
   cases hp:p (V.getD i ZU)<;> simp
  ·rw [<-h2,Dm _ hk,hP]
 ·rintro ⟨h1,h2⟩;have hle: ∀i,i < V.length->(if p (V.getD i ZU)=true then 1 else 0)<=q.count (i:Int):=fun i hi=>by
   rcases h1 i hi with h3 | h3
   ·rw [h3]; simp
   ·split <;> omega
  have hs:=aB V.length hle (by rw [hP,<-h2]; exact R0 _ q);refine ⟨fun i hi=>?_,?_⟩
  ·rw [DD i hi,<-hs i hi]
   cases hp:p (V.getD i ZU)<;> simp
  ·rw [<-Dm _ hs,hP,h2]
theorem Lm (V:List ZN) :Zw (V.filter fun v=>QG v.st)=Yh V:=by
 induction V with
 | nil=>rfl
 | cons v l ih=>
  rw [JZ]
  by_cases h:QG v.st=true
  ·rw [if_pos h,Zw,Yh,ih,XN,if_pos h]
  ·rw [if_neg h,Yh,ih,XN,if_neg h]; omega
theorem Bu (V:List ZN) :Zw (V.filter fun _=>true)=Zw V:=by rw [List.filter_eq_self.2 (fun _ _=>rfl)]
theorem pU (p:ZN->Bool)(V:List ZN) :decide (V.countP p=V.length)=V.all p:=by
 rw [YD,decide_eq_true_eq,List.countP_eq_length,YP]
theorem e8 {V:List ZN}{k:Nat}{v:ZN}(p:ZN->Bool)(h:V[k]?=some v) :(V.take (k+1)).countP p=(V.take k).countP p+if p v=true then 1 else 0:=by
 rw [Bx h,List.countP_append];simp [List.countP_cons]
theorem SD {V:List ZN}{k:Nat}{v:ZN}(p:ZN->Bool)(h:V[k]?=some v) :(V.take (k+1)).filter p=(V.take k).filter p++if p v=true then [v] else []:=by
 rw [Bx h,Q7]
 congr 1
 rw [JZ];rfl
end
section
open Go Go.RowKit Go.Deep
def BV (w W:Zc)(v:ZN) :Prop:=Zu W w.heap.size 68 (Ze v)/\Zp w.heap.size w W
theorem BV.new (w:Zc)(v:ZN) :BV w (w.alloc (.cells (Ze v) 68)) v:=⟨Zs w _ _,(Zn _ _).alloc (Zh _) _⟩
theorem BV.next {w W W':Zc}{v:ZN}(h:BV w W v)(hb:Zp W.heap.size W W') :BV w W' v:=⟨h.1.below hb h.1.lt,h.2.trans (hb.mono h.2.size)⟩
theorem BV.cells {w W:Zc}{v:ZN}(h:BV w W v) :W.cell? ⟨w.heap.size,0,none⟩=some (.int .u64 v.bal)/\W.cell? ⟨w.heap.size,1,none⟩=some (.int .i64 v.st)/\W.cell? ⟨w.heap.size,2,none⟩=some (.bool v.sl)/\W.cell? ⟨w.heap.size,3,none⟩=some (.int .i64 v.rq)/\W.cell? ⟨w.heap.size,4,none⟩=some (.int .i64 v.ex)/\W.cell? ⟨w.heap.size,5,none⟩=some (.int .i64 v.wd)/\W.cell? ⟨w.heap.size,6,none⟩=some (.int .i64 v.dl):=
 ⟨h.1.cell 0,h.1.cell 1,h.1.cell 2,h.1.cell 3,h.1.cell 4,h.1.cell 5,h.1.cell 6⟩
theorem qO (s:Int)(w:Zc) :Y6 112 #[.int .i64 s] w (.bool (qN s)):=by
 by_cases h:s=6
 ·have e:qN s=true:=decide_eq_true (.inl h);subst h;exact ZfJ
 ·have d:(s==6)=false:=KM
  by_cases h2:s=7
  ·have e:qN s=true:=decide_eq_true (.inr h2);subst h2;exact ZfJ
  ·have d2:(s==7)=false:=by simpa using h2
   have e:qN s=false:=decide_eq_false Zf;rw [e];clear h h2 e;go_enter func112,ntmps112;go_wp2;go_ret;exact Gw
theorem SP (v:ZN)(w:Zc) :Z3 110 #[.agg (Ze v)] w (.bool (lvB v)):=by
  have T:=Za (BV.new w v);obtain ⟨r,hr⟩:=ZR (lvB v);rw [hr];have HR:Zj (r=decide (3<=v.st/\v.st<=6)):=Za hr.symm;clear hr;have hc:v.st=3\/v.st=4\/v.st=5\/v.st=6\/(¬v.st=3/\ ¬v.st=4/\ ¬v.st=5/\ ¬v.st=6):=Zf;go_enter func110,ntmps110;go_upto_region 1 with (fail);generalize w.alloc (.cells (Ze v) 68)=W at*;obtain ⟨x0,x1,x2,x3,x4,x5,x6⟩:=T.o.cells;clear x0 x2 x3 x4 x5 x6
  rcases hc with h | h | h | h | ⟨h1,h2,h3,h4⟩
  all_goals first
    | (rw [h] at x1
       have hr:r=true:=by rw [HR.o,h]; rfl
       subst hr;clear h;go_wp2;go_ret;exact ⟨rfl,T.o.2⟩)
    | (have d1:(v.st==3)=false:=QT
       have d2:(v.st==4)=false:=by simpa using h2
       have d3:(v.st==5)=false:=by simpa using h3
       have d4:(v.st==6)=false:=by simpa using h4
       have hr:r=false:=by rw [HR.o]; exact decide_eq_false Zf
       subst hr;clear h1 h2 h3 h4;go_wp2;go_ret;exact ⟨rfl,T.o.2⟩)
theorem Wr (v:ZN)(w:Zc) :Z3 100 #[.agg (Ze v)] w (.bool true):=by
 have T:=Za (BV.new w v);go_enter func100,ntmps100;go_upto_region 1 with (fail);generalize w.alloc (.cells (Ze v) 68)=W at*;exact jm
theorem ek (v:ZN)(w:Zc) :Z3 102 #[.agg (Ze v)] w (.bool (QG v.st)):=by
 have T:=Za (BV.new w v);have HL:=Za (fun w=>MF v.st w);generalize QG v.st=r at*;go_enter func102,ntmps102;go_upto_region 1 with (fail);generalize w.alloc (.cells (Ze v) 68)=W at*;obtain ⟨x0,x1,x2,x3,x4,x5,x6⟩:=T.o.cells;clear x0 x2 x3 x4 x5 x6;go_wp2_with fail;refine (HL.o _).mono ?_;exact Zf3
theorem cG (v:ZN)(w:Zc) :Z3 105 #[.agg (Ze v)] w (.bool (dX v)):=by
 have T:=Za (BV.new w v);obtain ⟨r,hr⟩:=ZR (dX v);have d:(v.st==1)=r:=by rw [<-hr]; unfold dX; rw [YD]; simp
 rw [hr];clear hr;go_enter func105,ntmps105;go_upto_region 1 with (fail);generalize w.alloc (.cells (Ze v) 68)=W at*;obtain ⟨x0,x1,x2,x3,x4,x5,x6⟩:=T.o.cells;clear x0 x2 x3 x4 x5 x6;exact jm
theorem kb (v:ZN)(w:Zc) :Z3 107 #[.agg (Ze v)] w (.bool (bX v)):=by
 have T:=Za (BV.new w v);obtain ⟨r,hr⟩:=ZR (bX v);have HR:Zj (r=decide (v.st=3/\v.ex= -1)):=Za hr.symm;rw [hr];clear hr
 by_cases h:v.st=3
 ·have d1:(v.st==3)=true:=KM;have d:(v.ex== -1)=r:=by rw [HR.o,YD]; simp [h]
  exact ZmH
 ·have d1:(v.st==3)=false:=KM;have hr:r=false:=jh
  subst hr;exact ZmH
theorem yn (v:ZN)(w:Zc) :Z3 114 #[.agg (Ze v)] w (.bool (Tz v)):=by
 have T:=Za (BV.new w v);obtain ⟨r,hr⟩:=ZR (Tz v);have HR:Zj (r=decide (v.st=4\/v.st=3/\v.ex≠ -1)):=Za hr.symm;rw [hr];clear hr
 by_cases h4:v.st=4
 ·have d1:(v.st==4)=true:=by simpa using h4
  have hr:r=true:=by rw [HR.o]; exact decide_eq_true (.inl h4)
  subst hr;clear h4;go_enter func114,ntmps114;go_upto_region 1 with (fail);generalize w.alloc (.cells (Ze v) 68)=W at*;obtain ⟨x0,x1,x2,x3,x4,x5,x6⟩:=T.o.cells;clear x0 x2 x3 x5 x6;exact jm
 ·have d1:(v.st==4)=false:=by simpa using h4
  by_cases h:v.st=3
  ·have d2:(v.st==3)=true:=KM;have d:(v.ex != -1)=r:=by rw [HR.o,YD]; simp [h]
   exact ZmF
  ·have d2:(v.st==3)=false:=KM;have hr:r=false:=jh
   subst hr;exact ZmF
theorem jY (v:ZN)(w:Zc) :Z3 111 #[.agg (Ze v)] w (.bool (jx v)):=by
 have T:=Za (BV.new w v);obtain ⟨r,hr⟩:=ZR (jx v);have HR:Zj (r=decide (v.bal=0\/ ¬(v.st=6\/v.st=7))):=Za hr.symm;rw [hr];clear hr
 by_cases h:v.bal=0
 ·have d1:(v.bal==0)=true:=KM;have hr:r=true:=zI
  subst hr;clear h;go_enter func111,ntmps111;go_upto_region 1 with (fail);generalize w.alloc (.cells (Ze v) 68)=W at*;obtain ⟨x0,x1,x2,x3,x4,x5,x6⟩:=T.o.cells;clear x2 x3 x4 x5 x6;exact jm
 ·have d1:(v.bal==0)=false:=KM;obtain ⟨q,hq⟩:=ZR (qN v.st);have HF:Zj (∀w,Y6 112 #[.int .i64 v.st] w (.bool q)):=Za fun w=>by rw [<-hq]; exact qO v.st w
  have d:(!q)=r:=by
   rw [HR.o,<-hq];unfold qN;rw [YD];simp [h]
  clear h hq;go_enter func111,ntmps111;go_upto_region 1 with (fail);generalize w.alloc (.cells (Ze v) 68)=W at*;obtain ⟨x0,x1,x2,x3,x4,x5,x6⟩:=T.o.cells;clear x2 x3 x4 x5 x6;go_wp2_with fail;refine (HF.o _).mono ?_;exact Zf3
theorem dd (v:ZN)(w:Zc) :Z3 115 #[.agg (Ze v)] w (.bool (rJ v)):=by
 have T:=Za (BV.new w v);obtain ⟨r,hr⟩:=ZR (rJ v);have HR:Zj (r=decide (v.sl=false\/(3<=v.st/\v.st<=6)/\v.dl= -1)):=Za hr.symm;have HV:=Za (SP v);rw [hr];clear hr
 cases hs:v.sl with
 | false=>
  have hr:r=true:=by rw [HR.o]; exact decide_eq_true (.inl hs)
  subst hr;have HS:=Za hs;clear hs;go_enter func115,ntmps115;go_upto_region 1 with (fail);generalize w.alloc (.cells (Ze v) 68)=W at*;obtain ⟨x0,x1,x2,x3,x4,x5,x6⟩:=T.o.cells;rw [HS.o] at x2;clear x0 x1 x3 x4 x5;exact jm
 | true=>
  have HS:=Za hs
  cases hl:lvB v with
  | true=>
   have d:(v.dl== -1)=r:=by
    have h2:3<=v.st/\v.st<=6:=by simpa [lvB] using hl
    rw [HR.o,YD];simp [hs,h2]
   rw [hl] at HV;clear hs hl;go_enter func115,ntmps115;go_upto_region 1 with (fail);generalize w.alloc (.cells (Ze v) 68)=W at*;obtain ⟨x0,x1,x2,x3,x4,x5,x6⟩:=T.o.cells;rw [HS.o] at x2;clear x0 x1 x3 x4 x5;have HX:=Za T.o.1;go_wp2_with (first | (refine KD rfl 68 _ rfl w.heap.size rfl 68 _ (0,0) _ HX.o underlying68 rfl Ya ?_));refine (HV.o _).mono ?_;rintro e w1 ⟨rfl,hb⟩;have T1:=Za (T.o.next hb);clear hb x2 x6 HX T;obtain ⟨x0,x1,x2,x3,x4,x5,x6⟩:=T1.o.cells;clear x0 x1 x2 x3 x4 x5;go_wp2;go_ret;exact ⟨rfl,T1.o.2⟩
  | false=>
   have hr:r=false:=by
    have h2: ¬(3<=v.st/\v.st<=6):=by simpa [lvB] using hl
    rw [HR.o];exact decide_eq_false (by rw [hs]; simp; omega)
   subst hr;rw [hl] at HV;clear hs hl;go_enter func115,ntmps115;go_upto_region 1 with (fail);generalize w.alloc (.cells (Ze v) 68)=W at*;obtain ⟨x0,x1,x2,x3,x4,x5,x6⟩:=T.o.cells;rw [HS.o] at x2;clear x0 x1 x3 x4 x5;have HX:=Za T.o.1;go_wp2_with (first | (refine KD rfl 68 _ rfl w.heap.size rfl 68 _ (0,0) _ HX.o underlying68 rfl Ya ?_));refine (HV.o _).mono ?_;rintro e w1 ⟨rfl,hb⟩;have T1:=Za (T.o.next hb);clear hb x2 x6 HX T;go_wp2;go_ret;exact ⟨rfl,T1.o.2⟩
end
section
open Go Go.RowKit Go.Deep
theorem fy (v:ZN)(c:Nat->Int)(bc:Nat)(w:Zc)(hB:Zu w bc 30 (Zi c))(w0: -4611686018427387904<=v.wd)(w1:v.wd<=4611686018427387904)(c0:0<=c 10)(c1:c 10<=1048576) :
  Z3 109 #[.agg (Ze v),.pointer (some ⟨bc,0,none⟩)] w (.bool (og c v)):=by
 have T:=Za (BV.new w v);obtain ⟨r,hr⟩:=ZR (og c v);have HR:Zj (r=decide (v.ex= -1\/(3<=v.st/\v.st<=6)/\v.rq < v.ex/\c 10<=v.wd - v.ex)):=Za hr.symm;have HV:=Za (SP v);have HB:=Za (hB.alloc (.cells (Ze v) 68));have hw:wrap64 (v.wd - c 10)=v.wd - c 10:=Rb
 have HK:=Za (Zm w0 (Zm w1 (Zm c0 c1)));rw [hr];clear hr hB w0 w1 c0 c1;go_enter func109,ntmps109;go_upto_region 1 with (fail);generalize w.alloc (.cells (Ze v) 68)=W at*;obtain ⟨x0,x1,x2,x3,x4,x5,x6⟩:=T.o.cells;clear x0 x1 x2 x3 x5 x6
 by_cases h:v.ex= -1
 ·have hr:r=true:=zI
  subst hr;rw [h] at x4;clear h hw;exact aP
 ·have d1:(v.ex== -1)=false:=KM;have HH:=Za h;clear h;have HX:=Za T.o.1;go_wp2_with (first | (refine Kl 68 w.heap.size HX.o underlying68 Ya ?_))
  cases hl:lvB v with
  | false=>
   have hr:r=false:=by
    have h2: ¬(3<=v.st/\v.st<=6):=by simpa [lvB] using hl
    rw [HR.o];exact decide_eq_false (by have:=HH.o; omega)
   subst hr;rw [hl] at HV;clear hl hw;refine (HV.o _).mono ?_;rintro e w1 ⟨rfl,hb⟩;have T1:=Za (T.o.next hb);clear hb x4 HX T;exact jg
  | true=>
   have h2:3<=v.st/\v.st<=6:=by simpa [lvB] using hl
   have H2:=Za h2;rw [hl] at HV;clear hl h2;refine (HV.o _).mono ?_;rintro e w1 ⟨rfl,hb⟩;have T1:=Za (T.o.next hb);have EU:=Za (HB.o.below hb HB.o.lt);clear hb x4 HX T;obtain ⟨x0,x1,x2,x3,x4,x5,x6⟩:=T1.o.cells;have y:=EU.o.cell 10;have y10:w1.cell? ⟨bc,10,none⟩=some (.int .i64 (c 10)):=y;clear x0 x1 x2 x6 y
   by_cases h3:v.rq < v.ex
   ·have d2:decide (v.rq < v.ex)=true:=decide_eq_true h3;have d3:decide (v.ex<=v.wd - c 10)=r:=by
     rw [HR.o,YD,decide_eq_true_eq,decide_eq_true_eq];have:=H2.o;have:=HH.o;omega
    clear h3;exact jg
   ·have d2:decide (v.rq < v.ex)=false:=decide_eq_false h3;have hr:r=false:=by
     rw [HR.o];exact decide_eq_false (by have:=HH.o; omega)
    subst hr;clear h3 hw;exact jg
end
end Go.Proofs.YtobgbcdgffgdhaaGreat
