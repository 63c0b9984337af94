/- Part 8 of 31: L17Rq L17Plain L13Met L13MetOps L21As L21Pm L21Oq L08Ent L08Row L08Ring L08New L08Put L06Ops L06Ref Reads L04TwoDuo L04TwoReq Ap Mns Ep. -/
import Derived.Test.YtobgbcdgffgdhaaGreatZw00
import Derived.Test.YtobgbcdgffgdhaaGreatZw05
import Derived.Test.YtobgbcdgffgdhaaGreatZw07
import Derived.Deep.CutRange
namespace Go.Proofs.YtobgbcdgffgdhaaGreat
set_option linter.unusedVariables false
set_option linter.unusedSimpArgs false
set_option maxRecDepth 100000
set_option maxHeartbeats 8000000
open _root_.And renaming intro -> Zn
open _root_.Array renaming all_eq_true_iff_forall_mem -> ZK
open _root_.Go.RowKit renaming Below -> Zp
open _root_.Go.RowKit.Below renaming refl -> Zo
open _root_.Go.Proofs.YtobgbcdgffgdhaaGreat.Zu renaming alloc -> Yw, cell -> XP, drew -> J3, drewN -> Xq, far -> JD, frozen -> Km, kept -> QG, new -> Zt, setRow -> Ji, set_ -> Va
open _root_.Bool renaming eq_iff_iff -> Y2
open _root_.Go.Builtin renaming zeroCells -> YM
open _root_.Go renaming Calls -> Zv, Operand -> YN, TypeId -> ZJ, Value -> Zk, World -> Zc, bodyPost_ret -> Yd, execOp -> XL, wpList -> YQ, wpList_store_row -> YH
open _root_.Go.Calls renaming quiet_of -> Qm
open _root_.Go.Instr renaming buildSlice -> XD
open _root_.Int renaming toNat_natCast -> YT
open _root_.Go.IntKind renaming wrap_u64 -> Kh
open _root_.Go.Proofs.YtobgbcdgffgdhaaGreat.Zx renaming of_below -> YR, refl -> ZM
open _root_.Go.Lib renaming cell?_alloc_some -> QI
open _root_.List renaming cons_append -> Yf, filter_append -> QJ, filter_cons -> JH, flatMap_cons -> QZ, getElem?_append_left -> YB, getElem?_eq_getElem -> Zg, getElem?_eq_some_iff -> Zj, getElem?_set_ne -> Yo, getElem?_set_self -> YD, getElem?_toArray -> Xe, length_append -> ZF, length_cons -> Yc, length_drop -> Jm, mem_append -> Ya, mem_cons -> ZU, mem_cons_of_mem -> KH, mem_of_getElem? -> Zy, mem_or_eq_of_mem_set -> Qe, mem_singleton -> Yk, nil_append -> XZ, not_mem_nil -> Yg, replicate -> ZP
open _root_.Go.Lit renaming int -> YJ
open _root_.Nat renaming add_assoc -> Q7, le_refl -> Zh, zero_add -> ZV
open _root_.Ne renaming symm -> Q0
open _root_.Option.some renaming inj -> ZL
open _root_.Go.Result renaming andThen_ok -> ZW
open _root_.Go.Sem renaming run_bind -> Yr
open _root_.Go.Proofs.Tryz renaming prog -> Zb
open _root_.Go.Value renaming cells -> Yi, slice -> Yj
open _root_.Go.World renaming setRow_alloc_new -> Zr
open Go.Proofs.Tryz
theorem jg {G:Prop}(h:G:=by have:=hp.pos; omega) :G:=h
theorem Pw {G H:Prop} (k:H) (h:DE H->G:=by
  intro zk;show wpQuiet _ _ _ _ [_,_,_] _;exact zk.o) :G:=h ⟨k⟩
theorem Hf {G H:Prop} (k:H) (h:DE H->G:=by
  intro zk;show wpQuiet _ _ _ _ [_] _;exact zk.o) :G:=h ⟨k⟩
theorem ZbF {G:Prop} (h:G:=by
  go_upto_region 1 with (fail);generalize w.alloc (.cells (Zd v) 68)=W at*;obtain ⟨x0,x1,x2,x3,x4,x5,x6⟩:=T.o.cells;clear x0 x2 x3 x5 x6;go_wp2;go_ret;exact ⟨rfl,T.o.2⟩) :G:=h
theorem ZhF {G:Prop} (h:G:=by
  rw [B2.cell,<-hp];have:=hw.get hy;have e:(f*2+(i*2+1))%(n*2)=(f+i)%n*2+1:=by
   rw [show f*2+(i*2+1)=(f+i)*2+1 by omega]
   rcases zo (N:=n) (s:=f+i) Zf with ⟨h1,h2⟩ | ⟨h1,h2⟩
   ·rw [h2,Nat.mod_eq_of_lt Zf]
   ·rw [h2,Nat.mod_eq_sub_mod Zf,Nat.mod_eq_of_lt Zf]; omega
  rw [hC,e] at this;exact Bt) :G:=h
theorem ZhJ {G:Prop} (h:G:=by
  have Bo:(f*2)+Z.length<=C.length:=DC;have:=AN (C':=splice C (f*2) Z) HW.o ZE HC.o (length_splice _ _ _ Bo) (fun p hp=>by
   rw [Bc _ _ _ Bo]
   by_cases h1:p < (f*2)
   ·rw [if_pos h1]
   ·rw [if_neg h1,if_neg Zf])
  rw [zK.o] at this;exact this) :G:=h
theorem ZhL {G:Prop} (h:G:=by
  refine Zx.setRow (S:=fun i=>i=b\/i=g) (Zx.setCell (S:=fun i=>i=b\/i=g) (Zx.setCell (S:=fun i=>i=b\/i=g) ?_ (.inl (.inl rfl)) _) (.inl (.inl rfl)) _) (.inr (Nat.le_refl _)) _;exact (((HKW.o.more (fun _ _ h=>h.elim)).drewN nr).trans Nh.o (fun _ _ h=> .inr h)).drewN q2) :G:=h
theorem ZhR {G:Prop} (h:G:=by
  clear h h4;go_enter func114,ntmps114;exact ZbF) :G:=h
theorem ZhS {G:Prop} (h:G:=by
  clear h;go_enter func107,ntmps107;exact ZbF) :G:=h
theorem Zh2 {G:Prop} (h:G:=by
  rcases j with _ | _ | j
  ·injection hv with hv; subst hv; exact Lib.cell?_alloc_some _ UJ
  ·injection hv with hv; subst hv; exact Lib.cell?_alloc_some _ CO
  ·cases hv) :G:=h
theorem Zh3 {G:Prop} (h:G:=by
  rw [Below.heap_setCell _ _ _ _ (fun e=>(h.not ht).2 (by rw [hq,e]))];exact hk.block q (h.lt (List.mem_of_getElem? ht) hq) (fun e=>h.apart _ _ _ _ q hij ht hs hq e)) :G:=h
theorem Zig {G:Prop} (h:G:=by
  cases hi:Tryz.prog.info? 119 with
  | none=>rw [hi] at h; cases h
  | some i=>
   rw [hi] at h;simp at h;exact ⟨i,rfl,h.1,h.2.1,h.2.2⟩) :G:=h
theorem Zii {G:Prop} (h:G:=by
  go_wp2_with fail;refine H.o.mono ?_;rintro e w1 ⟨rfl,hb⟩;have HB:=Za hb;clear hb;go_wp2_with fail;go_ret;exact ⟨rfl,HB.o⟩) :G:=h
theorem Zis {G:Prop} (h:G:=by
  rcases hi with rfl | hi
  ·exact (hS _).2 (.inr (.inl rfl))
  ·exact (hS _).2 (.inr (.inr ⟨s,List.mem_of_getElem? hs,hi⟩))) :G:=h
theorem ZaD {G:Prop} (h:G:=by
  go_wp2_with fail;refine H.o.mono ?_;rintro e w1 ⟨rfl,m,rfl⟩;go_wp2_with fail;go_ret;exact ⟨rfl,HE.o m⟩) :G:=h
theorem ZaE {G:Prop} (h:G:=by
  go_wp2_with fail;refine H.o.mono ?_;rintro e w' ⟨rfl,m,rfl⟩;go_wp2_with fail;exact Ch) :G:=h
theorem ZaF {G:Prop} (h:G:=by
  rw [B2.cell,<-hp];have:=hw.get hx;rw [hC,<-Nat.add_mul,Nat.mul_mod_mul_right] at this;exact Bt) :G:=h
theorem ZaJ {G:Prop} (h:G:=by
  have:=Zu.set_ (w:=w3) (g:=B) (t:=165) (cs:=ss.toArray) (wT.trans h.bks) j s';exact Bt) :G:=h
theorem ZaO {G:Prop} (h:G:=by
  rcases Nat.lt_or_ge (i*2) F.length with h | h
  ·omega
  ·rw [List.getElem?_eq_none h] at hx; cases hx) :G:=h
theorem Za7 {G:Prop} (h:G:=by
  have:=Int.emod_lt_of_pos ep (b:=(n:Int)) jg;omega) :G:=h
theorem dO {G:Prop} (h:G:=by
  simp [Lit.wf,IntKind.min,IntKind.max,IntKind.signed,IntKind.bits];omega) :G:=h
theorem Zbf {G:Prop} (h:G:=by
  rw [e];go_enter func112,ntmps112;exact On) :G:=h
theorem Zbk {G:Prop} (h:G:=by
  rw [Below.heap_setCell _ _ _ _ h.ne];exact hk.block b h.own.lt Fp.1) :G:=h
theorem ug {G:Prop} (h:G:=by
  have:=(List.getElem?_eq_some_iff.1 hs).1;have:=h.len;omega) :G:=h
theorem Zbx {G:Prop} (h:G:=by
  rintro e w1 ⟨rfl,rfl⟩;go_wp2;go_ret;exact ⟨rfl,T.o.2⟩) :G:=h
theorem uq {G:Prop} (h:G:=by
  go_wp2_with fail;go_ret;exact ⟨rfl,T1.o.2⟩) :G:=h
theorem dS {G:Prop} (h:G:=by
  go_wp2;go_ret;exact ⟨rfl,T.o.2⟩) :G:=h
theorem lf {G:Prop} (h:G:=by
  exact decide_eq_false Zf) :G:=h
theorem Cf {G:Prop} (h:G:=by
  split
  ·omega
  ·split <;> omega) :G:=h
section
open Go Go.ChangeShapes Go.WideShapes Go.RowKit Go.Deep
structure Rq where
 ix:Int
 am:Int
deriving DecidableEq,Inhabited
def Rq.row (v:Rq) :List Zk:= [.int .i64 v.ix,.int .u64 v.am]
def ZB (v:Rq) :Array Zk:=v.row.toArray
def V8 (v:Rq) :Prop:=(YJ .i64 v.ix).wf=true/\(YJ .u64 v.am).wf=true
def Mm:Rq:=⟨0,0⟩
theorem Rq.row_len (v:Rq) :v.row.length=2:=rfl
theorem Rq.row_one (v:Rq) : ∀u ∈ v.row,u.oneCell'=true:=by
 intro u hu;simp only [Rq.row,ZU,Yg,or_false] at hu
 rcases hu with rfl | rfl <;> rfl
theorem Kf (v:Rq) :(ZB v).all (·.oneCell')=true:=by
 refine ZK.2 (fun u hu=>Rq.row_one v u (by simpa [ZB] using hu))
theorem Jb:(Tryz.prog.info? 119).map (·.size)=some 2:=ZC
theorem ZfT: ∃i,Tryz.prog.info? 119=some i/\i.zero=some (.agg (ZB Mm))/\i.size=2/\i.bytes=16:=by
 have h:(Tryz.prog.info? 119).map (fun i=>(i.zero,i.size,i.bytes))=some (some (.agg (ZB Mm)),2,16):=ZC;exact Zig
theorem Zj7 (x y:Rq)(w:Zc) :(Op.equalIn 10000 119 (.agg (ZB x)) (.agg (ZB y))).run Zb w= .ok (decide (x=y)) w:=by
 obtain ⟨r,hr,NH⟩:=OO (P:=Zb) w (ZB x) (ZB y) underlying119 ZC (fun f hf=>by
  simp only [ZU,Yg,or_false] at hf
  rcases hf with rfl | rfl
  ·exact ⟨by decide,.inl ⟨.i64,x.ix,y.ix,underlying3,rfl,rfl⟩⟩
  ·exact ⟨by decide,.inl ⟨.u64,x.am,y.am,underlying23,rfl,rfl⟩⟩)
 refine hr.trans ?_;have:r=decide (x=y):=by
  rw [Y2,NH,decide_eq_true_eq];constructor
  ·intro h;simp only [ZU,Yg,or_false,forall_eq_or_imp,forall_eq] at h;obtain ⟨h0,h1⟩:=h;obtain ⟨a0,a1⟩:=x;obtain ⟨b0,b1⟩:=y;simp [ZB,Rq.row] at h0 h1;simp [*]
  ·rintro rfl;simp
 rw [this]
theorem mf {a:Act}{dst:Option Tmp}{yt ty:ZJ}{x y:YN}{pos:String}{after:Array Edge}{guard:Option (Nat × Bool)}{w:Zc}{p q:Rq}{r:Bool}(hx:a.eval x= .agg (ZB p))(hy:a.eval y= .agg (ZB q))(hr:decide (p=q)=r) :
  (XL a.eval { dst,op:= .binOp .eql 119 x y yt,type:=ty,pos,after,guard}).run Zb w= .ok (.value (.bool r)) w:=by
 simp only [XL,hx,hy,Yr,run_eqGuard_agg w .eql _ x y _ _ (show Tryz.prog.eqGuardType Tryz.prog.depth 119=false by kernel_rfl),ZW,run_eql_struct,Zj7 p q w,Sem.run_pure,hr]
theorem ZdO {C:Zc->Prop}{Qa:Act->Prop}{ops:Array Oper}{rest:List Oper}{a:Act}{dst:Option Tmp}{yt ty:ZJ}{x y:YN}{pos:String}{after:Array Edge}{guard:Option (Nat × Bool)}(p q:Rq)(r:Bool)(hw:Region.wanted { dst,op:= .binOp .eql 119 x y yt,type:=ty,pos,after,guard} (yielded ops a.tmps)=true)(hx:a.eval x= .agg (ZB p))(hy:a.eval y= .agg (ZB q))(hr:decide (p=q)=r)
  (h:wpQuiet Zb ops C Qa rest (a.put dst (.bool r))) :wpQuiet Zb ops C Qa ({ dst,op:= .binOp .eql 119 x y yt,type:=ty,pos,after,guard}::rest) a:=
 BL (.bool r) hw (fun w=>mf hx hy hr) h
section
variable {P:Program} {ops:Array Oper} {rest:List Oper} {op:Oper} {a:Act} {w:Zc} {Q:Exit->Act->Zc->Prop}
theorem We (BJ:op.guard=none)(ty:ZJ)(x:YN)(ho:op.op= .load ty x)
  (b o:Nat) (hx:a.eval x= .pointer (some ⟨b,o,none⟩)) (v:Rq) (d:TypeDesc) (hc:w.rangeAt b o v.row)
  (hu:P.underlying ty=some d) (hd:d.isRow=true) (hi:(P.info? ty).map (·.size)=some 2)
  (h:YQ P ops Q rest (a.put op.dst (.agg (ZB v))) w) :YQ P ops Q (op::rest) a w:=
 wpList_load_mid BJ ty x ho b o hx v.row d hc hu hd hi h
theorem RB (hg:op.guard=none)(t:ZJ)(parts:Array (Nat × YN))(ho:op.op= .build t parts)(v:Rq)
  (hf:P.built t (parts.map fun (i,x)=>(i,a.eval x)).toList=some (ZB v)) (h:YQ P ops Q rest (a.put op.dst (.agg (ZB v))) w) :YQ P ops Q (op::rest) a w:=
 wpList_build hg t parts ho (by rw [hf]; rfl) IX
end
theorem nM (x:Rq)(w:Zc) :(XD 26 1 #[(0,.agg (ZB x))]).run Zb w= .ok (.slice (some ⟨w.heap.size,0,none⟩) 1 1) (w.alloc (.cells (ZB x) 119)):=by
 obtain ⟨i,hi,hz,hs,MG⟩:=ZfT;simp [XD,run_underlying underlying26,sizeOf,typeInfo,hi,hz,hs,Instr.fill,newRow,go_sem,ZB,Rq.row]
theorem tC {o:Oper}{a:Act}{w:Zc}{K:Act->Zc->Prop}{Q:Exit->Act->Zc->Prop}(x:YN)(p:Rq)(ho:o.op= .buildSlice 26 1 #[(0,x)])(hx:a.eval x= .agg (ZB p))
  (h:K (a.put o.dst (.slice (some ⟨w.heap.size,0,none⟩) 1 1)) (w.alloc (.cells (ZB p) 119))) :o.wp Zb a w K Q:=by
 unfold Oper.wp XL;simp only [ho,List.map_toArray,List.map_cons,List.map_nil,hx,Yr,nM p w,ZW,Sem.run_pure];exact h
end
section
def VP (r:Rq)(n:Nat) :Bool:=decide (0<=r.ix/\r.ix < n)
def OJ (l:List ZN)(r:Rq) :Int:=if VP r l.length=false then 7 else if r.am=0 then 3 else if(l.getD r.ix.toNat ZS).st≠2 then 8 else 0
def Gq (v:ZN)(mb:Int) :Int:=if v.st≠2 then 0 else if v.sl=true then 0 else if mb < v.bal then v.bal - mb else 0
def Bq (v:ZN)(x mb:Int) :Int:=if Gq v mb < x then Gq v mb else x
def F9 (v:ZN)(x mb:Int) :ZN:= { v with bal:=v.bal - Bq v x mb}
def NU (l:List ZN)(r:Rq)(mb:Int) :Int:=if VP r l.length=true then Bq (l.getD r.ix.toNat ZS) r.am mb else 0
def Du (l:List ZN)(r:Rq)(mb:Int) :List ZN:=if VP r l.length=true then l.set r.ix.toNat (F9 (l.getD r.ix.toNat ZS) r.am mb) else l
def Lm (i x:Int) :List Py:=if x=0 then [] else [⟨i,x,false⟩]
def XC (mb:Int) :List ZN->List Rq->List ZN
 | l,[]=>l
 | l,r::q=>XC mb (Du l r mb) q
def Ky (mb:Int) :List ZN->List Rq->List Py
 | _,[]=> []
 | l,r::q=>Lm r.ix (NU l r mb)++Ky mb (Du l r mb) q
theorem Cs {v:ZN}{mb:Int}(hv:Yh v)(hm:0<=mb) :0<=Gq v mb/\Gq v mb<=v.bal:=by
 have:=hv.bal;unfold Gq
 split
 ·omega
 ·exact Cf
theorem DW {v:ZN}{x mb:Int}(hv:Yh v)(hm:0<=mb)(hx:0<=x) :0<=Bq v x mb/\Bq v x mb<=v.bal/\Bq v x mb<=Gq v mb/\Bq v x mb<=x:=by
 have:=Cs hv hm;unfold Bq
 split <;> omega
theorem pg {v:ZN}{x mb:Int}(hv:Yh v)(hm:0<=mb)(hx:0<=x) :Yh (F9 v x mb):=by
 have h:=DW hv hm hx;have hb:=hv.bal;refine ⟨?_,hv.2⟩;simp only [F9];exact dO
theorem Ax {l:List ZN}{r:Rq}(h:VP r l.length=true) : ∃(i:Nat) (v:ZN),r.ix=(i:Int)/\l[i]?=some v:=by
 have h':0<=r.ix/\r.ix < l.length:=of_decide_eq_true h;exact ⟨r.ix.toNat,l[r.ix.toNat]'Zf,by omega,Zg _⟩
theorem Ig {l:List ZN}{r:Rq}{i:Nat}{v:ZN}(mb:Int)(hi:r.ix=(i:Int))(hv:l[i]?=some v) :VP r l.length=true/\NU l r mb=Bq v r.am mb/\Du l r mb=l.set i (F9 v r.am mb):=by
 have hl:=(Zj.1 hv).1;have h:VP r l.length=true:=decide_eq_true Zf;refine ⟨h,?_,?_⟩
 ·rw [NU,if_pos h,hi,YT,K8 hv]
 ·rw [Du,if_pos h,hi,YT,K8 hv]
theorem xZ (l:List ZN)(r:Rq)(mb:Int) :(Du l r mb).length=l.length:=by unfold Du; split <;> simp
theorem BU (mb:Int)(q:List Rq) : ∀l,(XC mb l q).length=l.length:=by
 induction q with
 | nil=>intro l; rfl
 | cons p q ih=>intro l; rw [XC,ih,xZ]
theorem yn (i x:Int) :(Lm i x).length<=1:=by unfold Lm; split <;> simp
theorem Pe (mb:Int)(q:List Rq) : ∀l,(Ky mb l q).length<=q.length:=by
 induction q with
 | nil=>intro l; simp [Ky]
 | cons p q ih=>intro l; simp only [Ky,ZF,Yc]; have:=ih (Du l p mb); have:=yn p.ix (NU l p mb); omega
theorem WT (mb:Int)(r:Rq)(q:List Rq) : ∀l,XC mb l (q++[r])=Du (XC mb l q) r mb:=by
 induction q with
 | nil=>intro l; rfl
 | cons x q ih=>intro l; simp only [Yf,XC,ih]
theorem iJ (mb:Int)(r:Rq)(q:List Rq) : ∀l,Ky mb l (q++[r])=Ky mb l q++Lm r.ix (NU (XC mb l q) r mb):=by
 induction q with
 | nil=>intro l; simp [Ky,XC]
 | cons x q ih=>intro l; simp only [Yf,XC,Ky,ih,List.append_assoc]
theorem WU {α:Type}{q:List α}{k:Nat}{p:α}(h:q[k]?=some p) :q.take (k+1)=q.take k++[p]:=lg
theorem cU {l:List ZN}{r:Rq}{mb:Int}(hm:0<=mb)(hr:0<=r.am)(h: ∀v ∈ l,Yh v) : ∀v ∈ Du l r mb,Yh v:=by
 unfold Du
 split
 ·rename_i hb
  obtain ⟨i,v,hi,hv⟩:=Ax hb;rw [hi,YT,K8 hv];intro u hu
  rcases Qe hu with h1 | h1
  ·exact h u h1
  ·exact h1▸pg (h v (Zy hv)) hm hr
 ·exact h
theorem V8.am {r:Rq}(h:V8 r) :0<=r.am/\r.am<=18446744073709551615:=bounds_u64 h.2
theorem Ei (mb:Int)(hm:0<=mb)(q:List Rq) : ∀(l:List ZN),(∀r ∈ q,V8 r)->(∀v ∈ l,Yh v)-> ∀v ∈ XC mb l q,Yh v:=by
 induction q with
 | nil=>intro l _ h; exact h
 | cons r q ih=>
  intro l hq h;rw [XC];exact ih _ (fun x hx=>hq x DD) (cU hm (hq r ZE).am.1 h)
def Up (c:Nat->Int)(q:List Rq) :Nat:=min (c 16).toNat q.length
def BC (i:Nat) :List Py->Int
 | []=>0
 | p::ps=>(if p.ix=(i:Int) then p.am else 0)+BC i ps
theorem WM (i:Nat)(a b:List Py) :BC i (a++b)=BC i a+BC i b:=by
 induction a with
 | nil=>simp [BC]
 | cons p a ih=>simp only [Yf,BC,ih]; omega
theorem gL (i:Nat)(j x:Int) :BC i (Lm j x)=if j=(i:Int) then x else 0:=by
 unfold Lm
 split
 ·rename_i h; subst h; simp [BC]
 ·simp [BC]
def Cn (mb:Int)(v v':ZN)(x:Int) :Prop:=v'= { v with bal:=v.bal - x}/\0<=x/\(x=0\/(v.st=2/\v.sl=false/\mb<=v.bal - x))
theorem sd {v:ZN}{x mb:Int}(hv:Yh v)(hm:0<=mb)(hx:0<=x) :Cn mb v (F9 v x mb) (Bq v x mb):=by
 refine ⟨rfl,(DW hv hm hx).1,?_⟩;have h:=(DW hv hm hx)
 by_cases h0:Bq v x mb=0
 ·exact .inl h0
 ·refine .inr ?_;have ha:Gq v mb≠0:=Zf;unfold Gq at ha;have hb:=h.2.2.1;unfold Gq at hb
  split at ha
  ·omega
  ·rename_i h1
   split at ha
   ·omega
   ·rename_i h2
    split at ha
    ·rename_i h3
     rw [if_neg h1,if_neg h2,if_pos h3] at hb;exact ⟨by simpa using h1,by simpa using h2,by omega⟩
    ·omega
theorem Cn.trans {mb:Int}{a b c:ZN}{x y:Int}(h:Cn mb a b x)(k:Cn mb b c y) :Cn mb a c (x+y):=by
 obtain ⟨rfl,h1,h2⟩:=h;obtain ⟨rfl,k1,k2⟩:=k;refine ⟨by simp [Int.sub_sub],by omega,?_⟩;simp only at k2
 rcases k2 with k2 | ⟨k2,k3,k4⟩
 ·subst k2
  rcases h2 with h2 | ⟨h2,h3,h4⟩
  ·exact .inl Zf
  ·exact .inr ⟨h2,h3,by omega⟩
 ·exact .inr ⟨k2,k3,by omega⟩
theorem Cn.zero {mb:Int}(v:ZN) :Cn mb v v 0:=⟨by simp,Int.le_refl _,.inl rfl⟩
theorem EO (mb:Int)(hm:0<=mb)(q:List Rq) : ∀(l:List ZN),(∀r ∈ q,V8 r)->(∀v ∈ l,Yh v)->
  (∀i v,l[i]?=some v-> ∃v',(XC mb l q)[i]?=some v'/\Cn mb v v' (BC i (Ky mb l q)))/\
  ∀p ∈ Ky mb l q,0 < p.am/\p.fu=false/\ ∃(i:Nat) (v:ZN),p.ix=(i:Int)/\l[i]?=some v/\v.st=2/\v.sl=false:=by
 induction q with
 | nil=>exact fun l _ _=>⟨fun i v hv=>⟨v,hv,Cn.zero v⟩,fun p hp=>by simp [Ky] at hp⟩
 | cons r q ih=>
  intro l hq hl;have hr:=(hq r ZE).am;have ei: ∀x ∈ q,V8 x:=fun x hx=>hq x DD
  obtain ⟨i1,i2⟩:=ih (Du l r mb) ei (cU hm hr.1 hl)
  by_cases hb:VP r l.length=true
  ·obtain ⟨k,u,hk,hu⟩:=Ax hb;obtain ⟨_,e1,e2⟩:=Ig mb hk hu;have oN:=(Zj.1 hu).1;have P1:=sd (hl u (Zy hu)) hm hr.1;simp only [XC,Ky];rw [e2] at i1 i2 ⊢;rw [e1];refine ⟨fun i v hv=>?_,fun p hp=>?_⟩
   ·rw [WM,gL]
    by_cases u3:i=k
    ·subst u3;rw [hu] at hv;injection hv with hv;subst hv;rw [if_pos hk];obtain ⟨v',g1,g2⟩:=i1 i (F9 u r.am mb) (by rw [YD oN]);exact ⟨v',g1,P1.trans g2⟩
    ·rw [if_neg Zf];obtain ⟨v',g1,g2⟩:=i1 i v (by rw [Yo (Q0 u3)]; exact hv);refine ⟨v',g1,?_⟩;rw [Int.zero_add];exact g2
   ·rcases Ya.1 hp with hp | hp
    ·unfold Lm at hp
     split at hp
     ·cases hp
     ·rename_i h0
      rw [Yk] at hp;subst hp;refine ⟨by have:=P1.2.1; simp only; omega,rfl,k,u,hk,hu,?_⟩
      rcases P1.2.2 with h | h
      ·omega
      ·exact ⟨h.1,h.2.1⟩
    ·obtain ⟨h1,h2,i,v,h3,h4,h5,h6⟩:=i2 p hp;refine ⟨h1,h2,i,?_⟩
     by_cases u3:i=k
     ·subst u3;rw [YD oN] at h4;injection h4 with h4;subst h4;exact ⟨u,h3,hu,h5,h6⟩
     ·rw [Yo (Q0 u3)] at h4;exact ⟨v,h3,h4,h5,h6⟩
  ·have e2:Du l r mb=l:=by unfold Du; rw [if_neg hb]
   have e1:NU l r mb=0:=by unfold NU; rw [if_neg hb]
   simp only [XC,Ky];rw [e2] at i1 i2 ⊢;rw [e1,show Lm r.ix 0=[] from rfl,XZ];exact ⟨i1,i2⟩
end
section
open Go.RowKit
def OT (B T D:Int) :Int:=(B+T+D)%18446744073709551616
def pr (T S:Int) :Int:=(T - S)%18446744073709551616
def KI (w:Zc)(b:Nat)(B S T D:Int) :Prop:=Zu w b 161 #[.int .u64 (OT B T D),.int .u64 T,.int .u64 D,.int .u64 (pr T S)]
def Jd (B S T D:Int) :Prop:=0<=B/\0<=S/\B+S<=18446744073709551615/\0<=T/\T<=18446744073709551615/\0<=D/\D<=18446744073709551615
section
variable {w w':Zc} {b d:Nat} {B S T D x:Int}
theorem KI.cells (h:KI w b B S T D) :w.cell? ⟨b,0,none⟩=some (.int .u64 (OT B T D))/\w.cell? ⟨b,1,none⟩=some (.int .u64 T)/\w.cell? ⟨b,2,none⟩=some (.int .u64 D)/\w.cell? ⟨b,3,none⟩=some (.int .u64 (pr T S)):=
 ⟨XP h 0,XP h 1,XP h 2,XP h 3⟩
theorem yq (hF:Jd B S T D) : ∃A,IntKind.u64.wrap (OT B T D - T)=A/\IntKind.u64.wrap (A - D)=B:=by
 refine ⟨_,rfl,?_⟩;obtain ⟨f0,f1,f2,f3,f4,f5,f6⟩:=hF;simp only [Kh,OT];omega
theorem yW (hF:Jd B S T D)(x0:0<=x)(hx:x<=B) : ∃T',IntKind.u64.wrap (T+x)=T'/\Jd (B - x) (S+x) T' D/\OT (B - x) T' D=OT B T D/\pr T' (S+x)=pr T S:=by
 refine ⟨_,rfl,?_⟩;obtain ⟨f0,f1,f2,f3,f4,f5,f6⟩:=hF;simp only [Kh,pr,OT,Jd];omega
theorem wB (hF:Jd B S T D) : ∃D',IntKind.u64.wrap (D+B)=D'/\Jd 0 S T D'/\OT 0 T D'=OT B T D:=by
 refine ⟨_,rfl,?_⟩;obtain ⟨f0,f1,f2,f3,f4,f5,f6⟩:=hF;simp only [Kh,OT,Jd];omega
theorem qE (hF:Jd B S T D)(x0:0<=x) : ∃p,(if 18446744073709551615 - B < x then 18446744073709551615 - B else x)=p/\IntKind.u64.wrap (OT B T D+p)=OT (B+p) T D/\Jd (B+p) 0 T D/\pr T 0=T/\0<=p:=by
 refine ⟨_,rfl,?_⟩;obtain ⟨f0,f1,f2,f3,f4,f5,f6⟩:=hF;simp only [Kh,OT,pr,Jd]
 split <;> omega
theorem KI.range (h:KI w b B S T D) :w.rangeAt b 0 [.int .u64 (OT B T D),.int .u64 T,.int .u64 D]:=Zh1
end
theorem EL (b:Nat)(B S T D:Int)(w:Zc)(h:KI w b B S T D)(hF:Jd B S T D) :
  Xb 97 #[.pointer (some ⟨b,0,none⟩)] w (.int .u64 B):=by
 obtain ⟨c0,c1,c2,c3⟩:=h.cells;obtain ⟨A,eA,eB⟩:=yq hF;clear h hF c3;generalize OT B T D=G at*;go_enter func97,ntmps97;go_wp2;go_quiet (skip);exact ld
theorem Si (b:Nat)(B S T D:Int)(w:Zc)(h:KI w b B S T D)(hF:Jd B S T D) :
  Xb 50 #[.pointer (some ⟨b,0,none⟩)] w (.int .u64 B):=by
 have H:=Za (EL b B S T D w h hF);clear h hF;go_enter func50,ntmps50;exact ZaE
theorem gz (w:Zc) :
  Zv Zb 79 #[] w fun e w'=>e= .returned (.pointer (some ⟨w.heap.size,0,none⟩))/\w.alloc (.cells #[.int .u64 0,.int .u64 0,.int .u64 0,.int .u64 0] 161)=w':=by
 go_enter func79,ntmps79;exact Uu
theorem mr:Jd 0 0 0 0:=by unfold Jd; omega
end
section
open Go.RowKit
theorem yX (b:Nat)(B S T D x:Int)(w:Zc)(h:KI w b B S T D)(hF:Jd B S T D)(hx:x>B) :
  Xb 264 #[.pointer (some ⟨b,0,none⟩),.int .u64 x] w (.bool false):=by
 have H:=Za (EL b B S T D w h hF);clear h hF;go_enter func264,ntmps264;exact ZaE
theorem tk (b:Nat)(B S T D T' x:Int)(w:Zc)(h:KI w b B S T D)(hF:Jd B S T D)(hx:x<=B)(hT:IntKind.u64.wrap (T+x)=T')(hG:OT (B - x) T' D=OT B T D)(hb:pr T' (S+x)=pr T S) :
  Zv Zb 264 #[.pointer (some ⟨b,0,none⟩),.int .u64 x] w fun e w'=>e= .returned (.bool true)/\KI w' b (B - x) (S+x) T' D/\w.grownBy w' (some b):=by
 have H:=Za (EL b B S T D w h hF);obtain ⟨c0,c1,c2,c3⟩:=h.cells;have z1:=Km h 1;have HE:Zl (∀m,KI ((w.drewN m).setCell ⟨b,1,none⟩ (.int .u64 T')) b (B - x) (S+x) T' D/\w.grownBy ((w.drewN m).setCell ⟨b,1,none⟩ (.int .u64 T')) (some b)):=Za (fun m=>⟨by unfold KI; rw [hG,hb]; exact Va (Xq h m) 1 _,QD (Vz (Kl _ _) m) (.inl rfl) _⟩);clear h hF hG hb c0 c2 c3;go_enter func264,ntmps264;exact ZaD
theorem p4 (b:Nat)(B S T D D':Int)(w:Zc)(h:KI w b B S T D)(hF:Jd B S T D)(hD:IntKind.u64.wrap (D+B)=D')(hG:OT 0 T D'=OT B T D) :
  Zv Zb 266 #[.pointer (some ⟨b,0,none⟩)] w fun e w'=>e= .returned (.int .u64 B)/\KI w' b 0 S T D'/\w.grownBy w' (some b):=by
 have H:=Za (EL b B S T D w h hF);obtain ⟨c0,c1,c2,c3⟩:=h.cells;have z1:=Km h 2;have HE:Zl (∀m,KI ((w.drewN m).setCell ⟨b,2,none⟩ (.int .u64 D')) b 0 S T D'/\w.grownBy ((w.drewN m).setCell ⟨b,2,none⟩ (.int .u64 D')) (some b)):=Za (fun m=>⟨by unfold KI; rw [hG]; exact Va (Xq h m) 2 _,QD (Vz (Kl _ _) m) (.inl rfl) _⟩);clear h hF hG c0 c1 c3;go_enter func266,ntmps266;exact ZaD
theorem mw (b:Nat)(B S T D x p:Int)(w:Zc)(h:KI w b B S T D)(hF:Jd B S T D)(hp:(if 18446744073709551615 - B < x then 18446744073709551615 - B else x)=p)(hG:IntKind.u64.wrap (OT B T D+p)=OT (B+p) T D)(hN:Jd (B+p) 0 T D)(hb:pr T 0=T) :
  Zv Zb 262 #[.pointer (some ⟨b,0,none⟩),.int .u64 x] w fun e w'=>e= .returned (.int .u64 (B+p))/\KI w' b (B+p) 0 T D/\w.grownBy w' (some b):=by
 have HF:=Za hF;have HH:=Za h;have HP:=Za hp;have q6:Zl (∀(w1:Zc),KI w1 b (B+p) 0 T D->Xb 97 #[.pointer (some ⟨b,0,none⟩)] w1 (.int .u64 (B+p))):=Za (fun w1 h1=>EL b (B+p) 0 T D w1 h1 hN);have f0:=hF.1;have f1:B<=18446744073709551615:=by have:=hF.2.1; have:=hF.2.2.1; omega
 generalize hq:B+p=q at*;clear hq hp hF hN h;go_enter func262,ntmps262;go_wp2;refine Mz (fun w'=>KI w' b B S T D) 13 4 [0,1,2,3,4,5,6,7,8] (J3 HH.o) ?_;refine JL ?_;refine oB ?_;refine Bi ?_;refine Vk 23 _ (.int .u64 (OT B T D)) (fun w h=>XP h 0) ?_;refine X5 ?_;refine Bi ?_;refine XK ?_;refine Jg (i:=9) ?_;refine JC #[.pointer (some ⟨b,0,none⟩)] call97 ((EL b B S T D _ (J3 HH.o) HF.o).mono ?_);rintro e w1 ⟨rfl,m,NI⟩;have M1:Zl (KI w1 b B S T D):=Za (NI▸Xq (J3 HH.o) m);have G1:Zl (w.grownBy w1 (some b)):=Za (NI▸Vz (AJ (Kl _ _)) m);clear NI;refine ⟨_,rfl,M1.o,?_⟩;refine Da ?_;refine SR (fun w'=>KI w' b B S T D) (m:=3) (f:=0) [10,11,12] M1.o ?_;refine JL ?_;refine Pw ?_;refine DL ?_;refine XK ?_;refine GO ?_;refine ⟨by kernel_rfl,?_⟩;try rw [RR]
 rw [HP.o];refine Mh ?_;have g1:w.grownBy (w1.setCell ⟨b,0,none⟩ (.int .u64 (OT q T D))) (some b):=QD G1.o (.inl rfl) _;have g2:w.grownBy ((w1.setCell ⟨b,0,none⟩ (.int .u64 (OT q T D))).setCell ⟨b,3,none⟩ (.int .u64 T)) (some b):=QD g1 (.inl rfl) _;have H2:Zl (KI ((w1.setCell ⟨b,0,none⟩ (.int .u64 (OT q T D))).setCell ⟨b,3,none⟩ (.int .u64 T)) b q 0 T D/\w.grownBy ((w1.setCell ⟨b,0,none⟩ (.int .u64 (OT q T D))).setCell ⟨b,3,none⟩ (.int .u64 T)) (some b)):=
  Za ⟨by unfold KI; rw [hb]; exact Va (Va M1.o 0 _) 3 _,g2⟩
 have c0:w1.cell? ⟨b,0,none⟩=some (.int .u64 (OT B T D)):=XP M1.o 0;have c3:w1.cell? ⟨b,3,none⟩=some (.int .u64 (pr T S)):=XP M1.o 3;have c1:w1.cell? ⟨b,1,none⟩=some (.int .u64 T):=XP M1.o 1;have z0:w1.frozen? ⟨b,0,none⟩=false:=Km M1.o 0;have z3:w1.frozen? ⟨b,3,none⟩=false:=Km M1.o 3;clear hb g1 g2;go_wp2;refine Gy ?_;go_wp2_with fail;refine (q6.o _ H2.o.1).mono ?_;rintro e w2 ⟨rfl,m2,rfl⟩;go_wp2_with fail;go_ret;exact ⟨rfl,Xq H2.o.1 _,Vz H2.o.2 _⟩
end
section
open Go Go.ChangeShapes Go.WideShapes Go.RowKit Go.Deep
structure As where
 ix:Int
 cl:Int
 ep:Int
deriving DecidableEq,Inhabited
def As.row (v:As) :List Zk:= [.int .i64 v.ix,.int .i64 v.cl,.int .i64 v.ep]
def JF (v:As) :Array Zk:=v.row.toArray
theorem As.row_len (v:As) :v.row.length=3:=rfl
theorem As.row_one (v:As) : ∀u ∈ v.row,u.oneCell'=true:=by
 intro u hu;simp only [As.row,ZU,Yg,or_false] at hu;exact kX
theorem aK (v:As) :(JF v).all (·.oneCell')=true:=by
 refine ZK.2 (fun u hu=>As.row_one v u (by simpa [JF] using hu))
theorem rz:(Tryz.prog.info? 280).map (·.size)=some 3:=ZC
end
section
open Go Go.ChangeShapes Go.WideShapes Go.RowKit Go.Deep
structure Pm where
 ix:Int
 am:Int
 fl:Bool
deriving DecidableEq,Inhabited
def Pm.row (v:Pm) :List Zk:= [.int .i64 v.ix,.int .u64 v.am,.bool v.fl]
theorem Pm.row_len (v:Pm) :v.row.length=3:=rfl
theorem Pm.row_one (v:Pm) : ∀u ∈ v.row,u.oneCell'=true:=by
 intro u hu;simp only [Pm.row,ZU,Yg,or_false] at hu;exact kX
end
section
open Go Go.ChangeShapes Go.WideShapes Go.RowKit Go.Deep
structure Oq where
 kd:Int
 ix:Int
 tg:Int
 am:Int
deriving DecidableEq,Inhabited
def Oq.row (v:Oq) :List Zk:= [.int .i64 v.kd,.int .i64 v.ix,.int .i64 v.tg,.int .u64 v.am]
def ZX (v:Oq) :Array Zk:=v.row.toArray
def GB (v:Oq) :Prop:=(YJ .i64 v.kd).wf=true/\(YJ .i64 v.ix).wf=true/\(YJ .i64 v.tg).wf=true/\(YJ .u64 v.am).wf=true
theorem Oq.row_len (v:Oq) :v.row.length=4:=rfl
theorem Oq.row_one (v:Oq) : ∀u ∈ v.row,u.oneCell'=true:=by
 intro u hu;simp only [Oq.row,ZU,Yg,or_false] at hu
 rcases hu with rfl | rfl | rfl | rfl <;> rfl
theorem aL (v:Oq) :(ZX v).all (·.oneCell')=true:=by
 refine ZK.2 (fun u hu=>Oq.row_one v u (by simpa [ZX] using hu))
theorem BA:(Tryz.prog.info? 49).map (·.size)=some 4:=ZC
section
variable {H:Type} {enc:ZJ × Zk->H} {w:Zc} {base:Nat} {spare:Nat->Bool} {held:Bool}
theorem Zd8 {n:Nat}{cs:List Zk}{x:DataW H × List MemPlace}(h:DataW.trod enc Zb w base spare held n 49 cs=some x) : ∃v:Oq,cs=v.row/\GB v:=by
 obtain ⟨ys,n',hn',hy,hlen,hyl,hf⟩:=DataW.trod_struct underlying49 h;have hlen:cs.length=4:=hlen.trans ZC;have hyl:ys.length=4:=hyl;have get: ∀j (f:Field),j < 4->f.offset=j->Tryz.prog.cellsOf f.type=1->DataW.trod enc Zb w base spare held n' f.type ((cs.drop f.offset).take (Tryz.prog.cellsOf f.type))=ys[j]?-> ∃v y,cs[j]?=some v/\DataW.trod enc Zb w base spare held n' f.type [v]=some y:=by
  intro j f hj ho hc ht;rw [ho,hc,List.drop_eq_getElem_cons Zf,Zg Zf] at ht;exact ⟨_,_,Zg Zf,ht⟩
 obtain ⟨v0,y0,c0,t0⟩:=get 0 _ Zf rfl ZC (hf 0 _ rfl);obtain ⟨v1,y1,c1,t1⟩:=get 1 _ Zf rfl ZC (hf 1 _ rfl);obtain ⟨v2,y2,c2,t2⟩:=get 2 _ Zf rfl ZC (hf 2 _ rfl);obtain ⟨v3,y3,c3,t3⟩:=get 3 _ Zf rfl ZC (hf 3 _ rfl);obtain ⟨x0,e0,_,w0⟩:=DataW.trod_int underlying3 t0;obtain ⟨x1,e1,_,w1⟩:=DataW.trod_int underlying3 t1;obtain ⟨x2,e2,_,w2⟩:=DataW.trod_int underlying3 t2;obtain ⟨x3,e3,_,w3⟩:=DataW.trod_int underlying23 t3;injection e0 with e0; injection e1 with e1; injection e2 with e2; injection e3 with e3;subst e0 e1 e2 e3;refine ⟨⟨x0,x1,x2,x3⟩,?_,w0,w1,w2,w3⟩
 match cs,hlen with
 | [a0,a1,a2,a3],_=>
  simp at c0 c1 c2 c3;subst c0 c1 c2 c3;rfl
def zM (w:Zc)(a:Option Addr)(len cap:Nat) :Prop:=ek Oq.row 4 GB w a len cap
end
end
section
open Go Go.ChangeShapes Go.WideShapes Go.RowKit Go.Deep
abbrev QW:=Int × Int
def Br (v:QW) :List Zk:= [.int .i64 v.1,.int .i64 v.2]
def Jy (v:QW) :Array Zk:=(Br v).toArray
theorem Dz (v:QW) :(Br v).length=2:=rfl
theorem MQ (v:QW) : ∀u ∈ Br v,u.oneCell'=true:=by
 intro u hu;simp only [Br,ZU,Yg,or_false] at hu
 rcases hu with rfl | rfl <;> rfl
theorem St (v:QW) :(Jy v).all (·.oneCell')=true:=by
 refine ZK.2 (fun u hu=>MQ v u (by simpa [Jy] using hu))
theorem Ld:(Tryz.prog.info? 271).map (·.size)=some 2:=ZC
theorem Zdl:(Tryz.prog.info? 271).map (fun i=>(i.zero,i.size,i.bytes))=some (some (.agg #[.int .i64 0,.int .i64 0]),2,16):=ZC
def XR (l:List QW) :List Zk:=l.flatMap Br
theorem Ui (l:List QW) :(XR l).length=l.length*2:=by
 induction l with
 | nil=>rfl
 | cons x l ih=>simp only [XR,QZ,ZF,Dz,Yc] at ih ⊢; omega
theorem Hx (l m:List QW) :XR (l++m)=XR l++XR m:=by simp [XR]
theorem bB (v:QW) :XR [v]=(Br v):=by simp [XR]
theorem ft {l:List QW}{i:Nat}{v:QW}(h:l[i]?=some v){j:Nat}(hj:j < 2) :(XR l)[i*2+j]?=(Br v)[j]?:=by
 induction l generalizing i with
 | nil=>simp at h
 | cons x l ih=>
  cases i with
  | zero=>
   simp at h;subst h;simp only [XR,QZ,Nat.zero_mul,ZV];rw [YB (by rw [Dz]; exact hj)]
  | succ i=>
   simp only [List.getElem?_cons_succ] at h;have:=ih h;simp only [XR,QZ] at this ⊢;rw [List.getElem?_append_right (by rw [Dz]; omega),Dz,show (i+1)*2+j - 2=i*2+j by omega];exact this
theorem O8 {w:Zc}{b off:Nat}{l:List QW}(h: ∀j u,(XR l)[j]?=some u->w.cell? ⟨b,off+j,none⟩=some u){i:Nat}{v:QW}(hi:l[i]?=some v) :w.rangeAt b (off+i*2) (Br v):=by
 intro j u hu;have hj:j < 2:=(Zj.1 hu).1;rw [Q7];exact h _ _ ((ft hi hj).trans hu)
section
variable {P:Program} {ops:Array Oper} {rest:List Oper} {op:Oper} {a:Act} {w:Zc} {Q:Exit->Act->Zc->Prop}
theorem BG (BJ:op.guard=none)(ty:ZJ)(x:YN)(ho:op.op= .load ty x)
  (b o:Nat) (hx:a.eval x= .pointer (some ⟨b,o,none⟩)) (v:QW) (d:TypeDesc) (hc:w.rangeAt b o (Br v))
  (hu:P.underlying ty=some d) (hd:d.isRow=true) (hi:(P.info? ty).map (·.size)=some 2)
  (h:YQ P ops Q rest (a.put op.dst (.agg (Jy v))) w) :YQ P ops Q (op::rest) a w:=
 wpList_load_mid BJ ty x ho b o hx (Br v) d hc hu hd hi h
end
structure OpV where
 due:Bool
 ep:Int
 it:Int
deriving Inhabited
def ZaA (x:OpV) :List Zk:= [.bool x.due,.int .i64 x.ep,.int .i64 x.it]
def j5 (x:OpV) :Array Zk:=(ZaA x).toArray
theorem Zu.op {w:Zc}{g t:Nat}{x:OpV}(h:Zu w g t (j5 x)) :w.rangeAt g 0 (ZaA x):=fun j u hu=>by
 rw [ZV,h.cell j];simpa [j5] using hu
end
section
open Go Go.RowKit Go.Deep
section
variable {w w' a:Zc} {g t:Nat} {S:Nat->Prop}
def RG (w:Zc)(g cap n:Nat)(l:List QW) :Prop:=
 l.length=n/\n<=cap/\cap<=maxLen/\ ∃rest:List Zk,rest.length=(cap - n)*2/\Zu w g 271 (XR l++rest).toArray
theorem Lv {base cap n:Nat}{l:List QW}(h:w.ownsRow base 271 2 (.slice (some ⟨g,0,none⟩) n cap) n (XR l)) :RG w g cap n l:=by
 have hl:=h.1;rw [Ui] at hl
 rcases h.2 with ⟨h1,_⟩ | ⟨g',GP,cur,h1,h2,h3,h4,h5,h6,h7⟩
 ·cases h1
 ·injection h1 with h1 _ qV;injection h1 with h1;injection h1 with h1;subst h1 qV;have e:cur=(XR l++cur.toList.drop (n*2)).toArray:=by rw [<-h7,List.take_append_drop]
  refine ⟨by omega,h4,h5,cur.toList.drop (n*2),?_,by rw [<-e]; exact h3⟩;rw [Jm,Array.length_toList,h6,Nat.sub_mul]
theorem RG.owns {base cap n:Nat}{l:List QW}(h:RG w g cap n l)(hb:base<=g) :w.ownsRow base 271 2 (.slice (some ⟨g,0,none⟩) n cap) n (XR l):=by
 obtain ⟨h1,h2,h3,rest,h4,h5⟩:=h;refine ⟨by rw [Ui,h1],.inr ⟨g,cap,_,rfl,hb,h5,h2,h3,?_,?_⟩⟩
 ·simp only [List.size_toArray,ZF,Ui,h4,h1];have:n*2<=cap*2:=Nat.mul_le_mul_right 2 h2;rw [Nat.sub_mul]; omega
 ·rw [List.toList_toArray,List.take_left' (by rw [Ui,h1])]
section
variable {cap n i j:Nat} {l:List QW} {x y v old:QW} {X Y L R Q:List QW}
theorem RG.lt (h:RG w g cap n l) :g < w.heap.size:=by
 obtain ⟨_,_,_,rest,_,h5⟩:=h;exact h5.lt
theorem RG.same (h:RG w g cap n l)(hb:w'.heap[g]?=w.heap[g]?) :RG w' g cap n l:=by
 obtain ⟨h1,h2,h3,rest,h4,h5⟩:=h;exact ⟨h1,h2,h3,rest,h4,hb.trans h5⟩
theorem RG.drew (h:RG w g cap n l) :RG w.drew g cap n l:=h
theorem RG.drewN (h:RG w g cap n l)(m:Nat) :RG (w.drewN m) g cap n l:=h
theorem RG.below (h:RG w g cap n l)(hb:Zp w.heap.size w w') :RG w' g cap n l:=h.same (hb.block g h.lt)
theorem RG.at (h:RG w g cap n l)(hi:l[i]?=some x) :w.rangeAt g (i*2) (Br x):=by
 obtain ⟨h1,h2,h3,rest,h4,h5⟩:=h;have:=O8 (w:=w) (b:=g) (off:=0) (l:=l) (fun k u hu=>by
  rw [h5.cell,ZV,Xe,YB (Zj.1 hu).1];exact hu) hi
 rwa [ZV] at this
theorem RG.set (h:RG w g cap n (X++old::Y))(hi:X.length=i)(v:QW) :RG (w.setCells g (i*2) (Br v)) g cap n (X++v::Y)/\w.there g (i*2) 2:=by
 obtain ⟨h1,h2,h3,rest,h4,h5⟩:=h;have e1:XR (X++old::Y)++rest=XR X++Br old++(XR Y++rest):=by simp [XR]
 have e2:XR (X++v::Y)++rest=XR X++Br v++(XR Y++rest):=by simp [XR]
 rw [e1] at h5;have hX:(XR X).length=i*2:=by rw [Ui,hi]
 have GN:=GF (Br v) (XR X) (Br old) (XR Y++rest) w rfl h5;rw [hX] at GN;refine ⟨⟨by simpa using h1,h2,h3,rest,h4,by rw [e2]; exact GN⟩,fun j hj=>⟨?_,h5.frozen _⟩⟩;rw [h5.cell,Array.getElem?_eq_getElem (by simp [Ui,hi,Dz]; omega)];rfl
end
end
end
section
open Go Go.RowKit Go.Deep
def bk (n:Nat)(L:List QW)(j:Nat) :List QW:=L.filter fun e=>e.1%(n:Int)==(j:Int)
def OkE (L:List QW) :Prop:= ∀e ∈ L,0<=e.1/\e.1<=1099511627776
theorem Cv (n:Nat)(L:List QW)(j:Nat) :(bk n L j).length<=L.length:=List.length_filter_le _ _
theorem Aa (n:Nat)(L M:List QW)(j:Nat) :bk n (L++M) j=bk n L j++bk n M j:=QJ _ _
theorem pG {n j:Nat}{e:QW}(h:e.1%(n:Int)=(j:Int))(i:Nat) :bk n [e] i=if i=j then [e] else []:=by
 unfold bk
 by_cases hi:i=j
 ·subst hi; simp [h]
 ·rw [if_neg hi];have: ¬e.1%(n:Int)=(i:Int):=Zf;simp [this]
theorem Ab (n:Nat)(L:List QW)(j:Nat)(p:QW->Bool) :bk n (L.filter p) j=(bk n L j).filter p:=by
 unfold bk;rw [List.filter_filter,List.filter_filter]
 congr 1
 funext e
 rw [Bool.and_comm]
theorem pF {n j:Nat}{ep:Int}(h:ep%(n:Int)=(j:Int))(L:List QW) :(bk n L j).filter (fun e=>e.1==ep)=L.filter fun e=>e.1==ep:=by
 unfold bk;rw [List.filter_filter]
 congr 1
 funext e
 by_cases he:e.1=ep
 ·simp [he,h]
 ·simp [he]
theorem pH {n i j:Nat}{ep:Int}(h:ep%(n:Int)=(j:Int))(hi:i≠j)(L:List QW) :(bk n L i).filter (fun e=>!(e.1==ep))=bk n L i:=by
 rw [List.filter_eq_self];intro e he;have:=(List.mem_filter.1 he).2;simp only [beq_iff_eq] at this;simp only [Bool.not_eq_true',beq_eq_false_iff_ne,ne_eq];rintro rfl;omega
structure KL (w:Zc)(b B n:Nat)(ss:List Zk)(L:List QW) :Prop where
 own:Zu w b 191 #[.slice (some ⟨B,0,none⟩) n n]
 bks:Zu w B 165 ss.toArray
 len:ss.length=n
 pos:1<=n
 top:n<=4096
 row: ∀(j:Nat) (s:Zk),ss[j]?=some s->w.ownsRow 0 271 2 s (bk n L j).length (XR (bk n L j))
 apart: ∀(i j:Nat) (s t:Zk) (q:Nat),i≠j->ss[i]?=some s->ss[j]?=some t->s.ownBlock=some q->t.ownBlock≠some q
 ok:OkE L
def Gx (w:Zc)(b:Nat)(S:Nat->Prop)(n:Nat)(L:List QW) :Prop:=
 ∃B ss,KL w b B n ss L/\ ∀i,S i ↔ i=b\/i=B\/ ∃s:Zk,s ∈ ss/\s.ownBlock=some i
theorem Ef {w:Zc}{s:Zk}{n:Nat}{xs:List Zk}(h:w.ownsRow 0 271 2 s n xs) : ∃a cp,s= .slice a n cp/\n<=cp/\cp<=maxLen:=Zer
theorem UC {w w':Zc}{base e k:Nat}{s:Zk}{n:Nat}{xs:List Zk}(h:w.ownsRow base e k s n xs)(hb: ∀i,s.ownBlock=some i->w'.heap[i]?=w.heap[i]?) :w'.ownsRow base e k s n xs:=Zey
theorem cT {w:Zc}{base e k:Nat}{s:Zk}{n:Nat}{xs:List Zk}{q t:Nat}{cs:Array Zk}(h:w.ownsRow base e k s n xs)(hq:s.ownBlock=some q)(hb:Zu w q t cs) :t=e:=by
 rcases h.2 with ⟨rfl,_⟩ | ⟨g,cp,cur,rfl,_,h3,_⟩
 ·cases hq
 ·injection hq with hq;have hq:g=q:=hq;subst hq;unfold Zu at hb;rw [h3] at hb;injection hb with hb;injection hb with _ hb;exact hb.symm
section
variable {w w':Zc} {b B n j:Nat} {s s':Zk} {ss:List Zk} {L L':List QW} {S T:Nat->Prop}
theorem KL.ne (h:KL w b B n ss L) :b≠B:=h.own.ne_ h.bks YW
theorem KL.not (h:KL w b B n ss L)(hs:ss[j]?=some s) :s.ownBlock≠some b/\s.ownBlock≠some B:=
 ⟨fun e=>absurd (cT (h.row j s hs) e h.own) YW,fun e=>absurd (cT (h.row j s hs) e h.bks) YW⟩
theorem KL.get (h:KL w b B n ss L)(hj:j < n) : ∃s,ss[j]?=some s:=⟨_,Zg (by rw [h.len]; exact hj)⟩
theorem KL.cells (h:KL w b B n ss L)(hs:ss[j]?=some s) :w.cell? ⟨b,0,none⟩=some (.slice (some ⟨B,0,none⟩) n n)/\w.cell? ⟨B,j,none⟩=some s:=
 ⟨h.own.cell 0,by rw [h.bks.cell j,Xe]; exact hs⟩
theorem KL.same (h:KL w b B n ss L)(hb:w'.heap[b]?=w.heap[b]?)(hB:w'.heap[B]?=w.heap[B]?)(hs: ∀s:Zk,s ∈ ss-> ∀i,s.ownBlock=some i->w'.heap[i]?=w.heap[i]?) :KL w' b B n ss L:=
 ⟨hb.trans h.own,hB.trans h.bks,h.len,h.pos,h.top,fun j s hj=>UC (h.row j s hj) (hs s (Zy hj)),h.apart,h.ok⟩
theorem KL.lt (h:KL w b B n ss L)(hs:s ∈ ss){i:Nat}(hi:s.ownBlock=some i) :i < w.heap.size:=by
 obtain ⟨j,hj⟩:=List.mem_iff_getElem?.1 hs;exact ((h.row j s hj).lt i hi).2
theorem KL.upd (h:KL w b B n ss L)(hj:ss[j]?=some s)(hb:w'.heap[b]?=w.heap[b]?)(hB:Zu w' B 165 (ss.set j s').toArray)
  (hs: ∀(i:Nat) (t:Zk),i≠j->ss[i]?=some t-> ∀q,t.ownBlock=some q->w'.heap[q]?=w.heap[q]?) (hr:w'.ownsRow 0 271 2 s' (bk n L' j).length (XR (bk n L' j))) (ho: ∀i,i≠j->bk n L' i=bk n L i)
  (hn:s'.ownBlock=s.ownBlock\/ ∃q,s'.ownBlock=some q/\w.heap.size<=q) (SX:OkE L') :KL w' b B n (ss.set j s') L':=by
 have EE:=(Zj.1 hj).1;have pick: ∀ {i t},(ss.set j s')[i]?=some t->(i=j/\t=s')\/(i≠j/\ss[i]?=some t):=fun {i t} hi=>by
  by_cases e:j=i
  ·subst e;rw [YD EE] at hi;exact .inl ⟨rfl,(ZL hi).symm⟩
  ·rw [Yo e] at hi;exact .inr ⟨fun h=>e h.symm,hi⟩
 refine ⟨hb.trans h.own,hB,by rw [List.length_set]; exact h.len,h.pos,h.top,fun i t hi=>?_,fun i k x y q u3 hx hy hq=>?_,SX⟩
 ·rcases pick hi with ⟨rfl,rfl⟩ | ⟨Ka,hi⟩
  ·exact hr
  ·rw [ho i Ka];exact UC (h.row i t hi) (hs i t Ka hi)
 ·rcases pick hx with ⟨rfl,rfl⟩ | ⟨Ka,hx2⟩
  ·rcases pick hy with ⟨rfl,rfl⟩ | ⟨hne2,hy⟩
   ·exact absurd rfl u3
   ·rcases hn with hn | ⟨q',hn,hl⟩
    ·exact h.apart _ _ _ _ q u3 hj hy (by rw [<-hn]; exact hq)
    ·intro e;have:=h.lt (Zy hy) e;rw [hn] at hq;injection hq with hq;omega
  ·rcases pick hy with ⟨rfl,rfl⟩ | ⟨hne2,hy⟩
   ·rcases hn with hn | ⟨q',hn,hl⟩
    ·intro e;exact h.apart _ _ _ _ q u3 hx2 hj hq (by rw [<-hn]; exact e)
    ·intro e;have:=h.lt (Zy hx2) hq;rw [hn] at e;injection e with e;omega
   ·exact h.apart _ _ _ _ q u3 hx2 hy hq
theorem Gx.lt (h:Gx w b S n L) : ∀i,S i->i < w.heap.size:=fun i hi=>by
 obtain ⟨B,ss,hp,hS⟩:=h
 rcases (hS i).1 hi with rfl | rfl | ⟨s,hs,hq⟩
 ·exact hp.own.lt
 ·exact hp.bks.lt
 ·exact hp.lt hs hq
theorem Gx.same (h:Gx w b S n L)(hb: ∀i,S i->w'.heap[i]?=w.heap[i]?) :Gx w' b S n L:=by
 obtain ⟨B,ss,hp,hS⟩:=h;exact ⟨B,ss,hp.same (hb b ((hS b).2 (.inl rfl))) (hb B ((hS B).2 (.inr (.inl rfl)))) (fun s hs i hi=>hb i ((hS i).2 (.inr (.inr ⟨s,hs,hi⟩)))),hS⟩
theorem Gx.kept (h:Gx w b S n L)(k:Zx T w w')(hT: ∀i,S i-> ¬T i) :Gx w' b S n L:=h.same fun i hi=>k.block i (h.lt i hi) (hT i hi)
theorem Gx.below (h:Gx w b S n L)(k:Zp w.heap.size w w') :Gx w' b S n L:=h.same fun i hi=>k.block i (h.lt i hi)
theorem Gx.alloc (h:Gx w b S n L)(o:Obj) :Gx (w.alloc o) b S n L:=h.below ((Zo _ _).alloc (Zh _) o)
theorem Gx.drewN (h:Gx w b S n L)(m:Nat) :Gx (w.drewN m) b S n L:=h.same fun _ _=>rfl
theorem Gx.drew (h:Gx w b S n L) :Gx w.drew b S n L:=h.same fun _ _=>rfl
theorem Gx.fits (h:Gx w b S n L) :1<=n/\n<=4096/\OkE L:=by
 obtain ⟨B,ss,hp,hS⟩:=h;exact ⟨hp.pos,hp.top,hp.ok⟩
end
end
section
open Go Go.RowKit Go.Deep
theorem mP (n:Nat) :madeCells #[.slice none 0 0] n=(ZP n (Yj none 0 0)).toArray:=by
 apply Array.ext
 ·simp [madeCells]
 ·intro i h1 h2;simp [madeCells,Nat.mod_one]
theorem iF: ∃i,Tryz.prog.info? 165=some i/\i.zero=some (.slice none 0 0)/\i.size=1/\i.bytes=24:=by
 have h:(Tryz.prog.info? 165).map (fun i=>(i.zero,i.size,i.bytes))=some (some (.slice none 0 0),1,24):=ZC
 cases hi:Tryz.prog.info? 165 with
 | none=>exact Re
 | some i=>
  exact Wn
theorem gB (n:Nat)(w:Zc)(h1:1<=n)(h2:n<=4096) :
  Zv Zb 80 #[.int .i64 n] w fun e w'=>e= .returned (.pointer (some ⟨w.heap.size+1,0,none⟩))/\(w.alloc (.cells (ZP n (Yj none 0 0)).toArray 165)).alloc (.cells #[.slice (some ⟨w.heap.size,0,none⟩) n n] 191)=w':=by
 obtain ⟨i,hi,hz,hs,MG⟩:=iF;have Eu:=fun w=>Jc (P:=Zb) 189 165 i _ underlying189 hi hz .i64 .i64 n n (Zh _) Wl Zf w
 rw [hs,Nat.mul_one] at Eu;have vh:(Yj none 0 0).cells= #[.slice none 0 0]:=rfl;rw [vh,mP] at Eu;have h0: ¬(n:Int)< 1:=Zf;have h3: ¬(4096:Int)< (n:Int):=Zf;generalize (ZP n (Yj none 0 0)).toArray=cs at*;clear hi hz hs MG vh h1 h2;go_enter func80,ntmps80;exact Uu
theorem gx (n:Nat)(w:Zc)(h1:1<=n)(h2:n<=4096) :
  Zv Zb 80 #[.int .i64 n] w fun e w'=> ∃b S,e= .returned (.pointer (some ⟨b,0,none⟩))/\Gx w' b S n []/\(∀i,S i->w.heap.size<=i)/\Zp w.heap.size w w':=by
 refine (gB n w h1 h2).mono ?_;rintro e w' ⟨rfl,rfl⟩;refine ⟨w.heap.size+1,fun i=>i=w.heap.size+1\/i=w.heap.size,rfl,?_,fun i hi=>by omega,((Zo _ _).alloc (Zh _) _).alloc ZE _⟩;refine ⟨w.heap.size,ZP n (.slice none 0 0),⟨?_,?_,by simp,h1,h2,fun j s hj=>?_,fun i j s t q _ hs _ hq=>?_,fun e he=>by simp at he⟩,fun i=>?_⟩
 ·have:=Zt (w.alloc (.cells (ZP n (Yj none 0 0)).toArray 165)) 191 #[.slice (some ⟨w.heap.size,0,none⟩) n n];rwa [World.size_alloc] at this
 ·exact Yw (Zt w _ _) _
 ·obtain ⟨_,rfl⟩:=List.mem_replicate.1 (Zy hj);exact World.ownsRow_nil _ _ _ _
 ·obtain ⟨_,rfl⟩:=List.mem_replicate.1 (Zy hs)
  cases hq
 ·constructor
  ·rintro (h | h)
   ·exact .inl h
   ·exact .inr (.inl h)
  ·rintro (h | h | ⟨s,hs,hq⟩)
   ·exact .inl h
   ·exact .inr h
   ·obtain ⟨_,rfl⟩:=List.mem_replicate.1 hs
    cases hq
theorem MM (b n j cp:Nat)(a:Option Addr)(ep:Int)(w:Zc)(hb:w.cell? ⟨b,0,none⟩=some (.slice a n cp))(hn:1<=n)(fJ:n<=4096)(h0:0<=ep)(h1:ep<=1099511627776)(hj:ep%(n:Int)=(j:Int)) :
  YV 229 #[.pointer (some ⟨b,0,none⟩),.int .i64 ep] w (.tuple #[.int .i64 j,.bool true]):=by
 have h2: ¬ep < 0:=Zf;have h3: ¬1099511627776 < ep:=Zf;have hnz:((n:Int)==0)=false:=Xl;have hnz2: ¬(n:Int)=0:=Zf;have hnz3:(0:Int)< (n:Int):=Zf;go_enter func229,ntmps229;exact dU
end
section
open Go Go.RowKit Go.Deep
theorem CE: ∃i,Tryz.prog.info? 271=some i/\i.zero=some (.agg #[.int .i64 0,.int .i64 0])/\i.size=2/\i.bytes=16:=by
 have h:=Zdl
 cases hi:Tryz.prog.info? 271 with
 | none=>exact Re
 | some i=>
  exact Wn
theorem Al:(Tryz.prog.info? 271).map (fun i=>(i.zero,i.size))=some (some (.agg #[.int .i64 0,.int .i64 0]),2):=by
 obtain ⟨i,hi,h1,h2,h3⟩:=CE;rw [hi];simp [h1,h2]
theorem j4 (w:Zc)(e:QW)(t:ZJ) : ∀j u,(Br e)[j]?=some u->(w.alloc (.cells (Jy e) t)).cell? ((⟨w.heap.size,0,none⟩ :Addr).add j)=some u:=fun j u hu=>by
 rw [add_plain,ZV,(Zt w t (Jy e)).cell j];simpa [Jy] using hu
theorem sq {w w3:Zc}{b B n j:Nat}{s s':Zk}{ss:List Zk}{L:List QW}{e:QW}(h:KL w b B n ss L)(hs:ss[j]?=some s)(hj:e.1%(n:Int)=(j:Int))(he:0<=e.1/\e.1<=1099511627776)
  (hk:Zx (fun i=>s.ownBlock=some i) w w3) (ho:w3.ownsRow 0 271 2 s' ((bk n L j).length+1) (XR (bk n L j)++Br e)) (hn:s'.ownBlock=s.ownBlock\/ ∃q,s'.ownBlock=some q/\w.heap.size<=q) :
  KL (w3.setCell ⟨B,j,none⟩ s') b B n (ss.set j s') (L++[e]):=by
 have Fp:=h.not hs;have EE:=(Zj.1 hs).1;have hBne: ∀q,s'.ownBlock=some q->q≠B:=fun q hq e=>by
  rcases hn with hn | ⟨q',hn,hl⟩
  ·exact Fp.2 (by rw [<-hn,hq,e])
  ·rw [hq] at hn;injection hn with hn;have:=h.bks.lt;omega
 have wT:w3.heap[B]?=w.heap[B]?:=hk.block B h.bks.lt Fp.2;have e1:bk n (L++[e]) j=bk n L j++[e]:=by rw [Aa,pG hj,if_pos rfl]
 refine h.upd hs ?_ ?_ (fun i t hij ht q hq=>?_) ?_ (fun i hi=>by rw [Aa,pG hj,if_neg hi,List.append_nil]) hn (fun x hx=>?_)
 ·exact Zbk
 ·exact ZaJ
 ·exact Zh3
 ·rw [e1];refine UC (w:=w3) ?_ (fun q hq=>Below.heap_setCell _ _ _ _ (hBne q hq));rw [ZF,List.length_singleton,Hx,bB];exact ho
 ·rcases Ya.1 hx with hx | hx
  ·exact h.ok x hx
  ·rw [Yk.1 hx]; exact he
theorem yk (b B n j:Nat)(ss:List Zk)(s:Zk)(L:List QW)(ep it:Int)(w:Zc)(h:KL w b B n ss L)(hs:ss[j]?=some s)(h0:0<=ep)(h1:ep<=1099511627776)(hj:ep%(n:Int)=(j:Int))(hL:L.length<=100000) :
  Zv Zb 185 #[.pointer (some ⟨b,0,none⟩),.int .i64 ep,.int .i64 it] w fun e w'=>e= .returned (.bool true)/\ ∃s',KL w' b B n (ss.set j s') (L++[(ep,it)])/\(s'.ownBlock=s.ownBlock\/ ∃q,s'.ownBlock=some q/\w.heap.size<=q)/\Zx (fun i=>i=B\/s.ownBlock=some i) w w':=by
 have Dc:j < n:=ug
 have UN:=h.row j s hs;have hq:=Cv n L j;obtain ⟨a,cp,rfl,qV,qW⟩:=Ef UN;obtain ⟨x0,x1⟩:=h.cells hs;have Fp:=h.not hs;have HN:=Za (MM b n j n (some ⟨B,0,none⟩) ep w x0 h.pos h.top h0 h1 hj);have vv:Zl (∀i,(Yj a (bk n L j).length cp).ownBlock=some i->i < w.heap.size):=Za (fun i hi=>(UN.lt i hi).2);have NC:=h.own.lt;have hBl:=h.bks.lt;have HH:=Za h;have HS:=Za hs;have HJ:=Za hj;have HR:=Za UN;have HE:=Za (Zn h0 h1);have vy:=Za Fp;have hj1: ¬(j:Int)< 0:=Zf;have hj2: ¬(n:Int)<=(j:Int):=Zf;have hj3:(j:Int)< (n:Int):=Zf;obtain ⟨q,rk⟩:=ZT ((bk n L j).length);rw [rk] at hq vv HR vy qV x1;have HQ:=Za rk;clear h hs UN Fp hj rk;rw [HQ.o] at HS ⊢;obtain ⟨n0,Hi⟩:=ZT (w.heap.size);go_enter func185,ntmps185;go_wp2_with fail;refine HN.o.mono ?_;rintro e w' ⟨rfl,rfl⟩;go_wp2_with fail;refine Mz (fun _=>True) 18 18 [] trivial ?_;refine XK ?_;refine Uk (fun w'=>w'.cell? ⟨b,0,none⟩=some (.slice (some ⟨B,0,none⟩) n n)/\w'.cell? ⟨B,j,none⟩=some (.slice a q cp)) (m:=18) (f:=3) [0,1,2,3,4,5,6,7,8,9,10,11,12,13,14] (fun _ _=>trivial) ZC ⟨x0,x1⟩ ?_;refine JL ?_;show wpQuiet _ _ _ _ [_,_,_,_,_,_,_,_,_,_,_,_,_,_,_] _;refine DL ?_;refine Vk 189 _ (.slice (some ⟨B,0,none⟩) n n) (fun w h=>h.1) ?_;refine X5 ?_;refine Bi ?_;refine Vk 189 _ (.slice (some ⟨B,0,none⟩) n n) (fun w h=>h.1) ?_;refine X5 ?_;refine B9 ?_;refine Vk 165 _ (.slice a q cp) (fun w h=>h.2) ?_;refine X5 ?_;refine DL ?_;refine XK ?_;refine Jg (i:=15) ?_;refine Yz rfl rfl (Jl 165 271 (.tmp 31) _ (.int .i64 ep) (.int .i64 it) rfl rfl underlying165 Al ⟨⟨ZD _ x0,ZD _ x1⟩,?_⟩);refine Jg (i:=16) ?_;refine Da ?_;obtain ⟨i,hi,hz,CT,MG⟩:=CE;refine Yz rfl rfl (Eo _ (.tmp 28) (.tmp 32) 165 rfl 0 271 i _ 2 16 underlying165 hi hz CT MG rfl Zf (.slice a q cp) q (XR (bk n L j)) rfl (World.ownsRow.alloc (w:=w.drew) HR.o _)
  (some ⟨w.drew.heap.size,0,none⟩) 1 1 (Br (ep,it)) rfl rfl (fun _=>⟨_,rfl,j4 w.drew (ep,it) _⟩) (MQ _) GU Zf Zf ?_)
 intro s' w3 ho3 hg3 hs3;have HK3:Zl (Zx (fun i=>(Yj a q cp).ownBlock=some i) w w3):=Za (((ZM _ w).drew.alloc _).trans (Zx.of_grown hg3 (S:=fun i=>(Yj a q cp).ownBlock=some i) (fun i hi=>hi.symm)) (fun _ _ h=>h));have Wp:Zl (w3.ownsRow 0 271 2 s' (q+1) (XR (bk n L j)++Br (ep,it))):=Za ho3;have HS3:Zl (s'.ownBlock=(Yj a q cp).ownBlock\/ ∃p,s'.ownBlock=some p/\w.heap.size<=p):=Za (hs3.imp id (fun h=>⟨_,h,by simp⟩));have y0:=HK3.o.cell (p:=⟨b,0,none⟩) vy.o.1 x0;have y1:=HK3.o.cell (p:=⟨B,j,none⟩) vy.o.2 x1;obtain ⟨a',GP,rfl,-,-⟩:=Ef ho3;refine ⟨⟨y0,y1⟩,?_⟩;clear ho3 hg3 hs3 hi hz CT MG;refine Da ?_;refine SR (fun w'=>w'.cell? ⟨b,0,none⟩=some (.slice (some ⟨B,0,none⟩) n n)/\w'.cell? ⟨B,j,none⟩=some (.slice a q cp)) (m:=1) (f:=0) [17] ⟨y0,y1⟩ ?_;refine JL ?_;refine Hf ?_;refine Gz ?_;refine XK ?_;refine GO ?_;refine ⟨by kernel_rfl,?_⟩;refine Mh ?_;have z1:w3.frozen? ⟨B,j,none⟩=false:=by
  rw [HK3.o.frozen (p:=⟨B,j,none⟩) vy.o.2 hBl];exact HH.o.bks.frozen j
 go_wp2;refine Gy ?_;go_wp2;go_ret;refine ⟨rfl,.slice a' (q+1) GP,?_,HS3.o,?_⟩
 ·have hhs:=HS.o;exact sq HH.o hhs HJ.o HE.o HK3.o (by rw [HQ.o]; exact Wp.o) HS3.o
 ·exact (HK3.o.more (fun _ _ h=> .inr h)).setCell (.inl (.inl rfl)) _
theorem gX (b n:Nat)(S:Nat->Prop)(L:List QW)(ep it:Int)(w:Zc)(h:Gx w b S n L)(h0:0<=ep)(h1:ep<=1099511627776)(hL:L.length<=100000) :
  Zv Zb 185 #[.pointer (some ⟨b,0,none⟩),.int .i64 ep,.int .i64 it] w fun e w'=>e= .returned (.bool true)/\ ∃S',Gx w' b S' n (L++[(ep,it)])/\(∀i,S' i->S i\/w.heap.size<=i)/\Zx S w w':=by
 obtain ⟨B,ss,hp,hS⟩:=h;obtain ⟨j,hj⟩ : ∃j:Nat,ep%(n:Int)=(j:Int):=⟨(ep%(n:Int)).toNat,by have:=Int.emod_nonneg ep (b:=(n:Int)) jg; omega⟩;have Dc:j < n:=Za7
 obtain ⟨s,hs⟩:=hp.get Dc;refine (yk b B n j ss s L ep it w hp hs h0 h1 hj hL).mono ?_;rintro e w' ⟨he,s',h2,h3,h4⟩;refine ⟨he,fun i=>i=b\/i=B\/ ∃s:Zk,s ∈ ss.set j s'/\s.ownBlock=some i,⟨B,_,h2,fun _=>Iff.rfl⟩,?_,h4.more (fun i _ hi=>?_)⟩
 ·rintro i (rfl | rfl | ⟨t,ht,hq⟩)
  ·exact .inl ((hS _).2 (.inl rfl))
  ·exact .inl ((hS _).2 (.inr (.inl rfl)))
  ·rcases Qe ht with ht | rfl
   ·exact .inl ((hS i).2 (.inr (.inr ⟨t,ht,hq⟩)))
   ·rcases h3 with h3 | ⟨q,h3,hl⟩
    ·exact .inl ((hS i).2 (.inr (.inr ⟨s,Zy hs,by rw [<-h3]; exact hq⟩)))
    ·rw [hq] at h3;injection h3 with h3;exact .inr Zf
 ·exact Zis
end
section
open Go.RowKit
theorem DR {b:Nat}{D P B C:Int}{w:Zc}(h:Kw w b D P B C)(hF:Jt D P B C) :
  Xb 212 #[.pointer (some ⟨b,0,none⟩)] w (.int .u64 (D - P - B)):=
 aF b D P B w h.cells.1 h.cells.2.1 h.cells.2.2.1 hF.1 hF.2.1 hF.2.2.1 hF.2.2.2.1
theorem e8:(Tryz.prog.info? 260).map (fun i=>(i.zero,i.size))=some (some (.agg #[.int .i64 0,.int .u64 0]),2):=ZC
theorem SB (b:Nat)(D P B C x:Int)(w:Zc)(h:Kw w b D P B C)(hF:Jt D P B C)(hx:x>C -(D - P - B)) :
  Xb 168 #[.pointer (some ⟨b,0,none⟩),.int .u64 x] w (.int .i64 4):=by
 have c3:=h.cells.2.2.2;have HB:Zl (∀n,Xb 212 #[.pointer (some ⟨b,0,none⟩)] (w.drewN n) (.int .u64 (D - P - B))):=Za (fun n=>DR (Xq h n) hF);obtain ⟨f0,f1,f2,f3,f4,f5⟩:=hF;clear h;go_enter func168,ntmps168;go_wp2;go_quiet ((go_at_call 212; exact Qm (HB.o _)));exact ld
theorem CB (b:Nat)(D P B C x:Int)(w:Zc)(h:Kw w b D P B C)(hF:Jt D P B C)(x0:0<=x)(x1:x<=18446744073709551615)(hx:x<=C -(D - P - B))(ho:18446744073709551615 < D+x) :
  Z3 168 #[.pointer (some ⟨b,0,none⟩),.int .u64 x] w (.int .i64 10):=by
 have c3:=h.cells.2.2.2;have HB:Zl (∀n,Xb 212 #[.pointer (some ⟨b,0,none⟩)] (w.drewN n) (.int .u64 (D - P - B))):=Za (fun n=>DR (Xq h n) hF);have HK:Zl (∀(g:Nat) (w:Zc),Kw w b D P B C->Zu w g 260 #[.int .i64 (0:Nat),.int .u64 x]->Z3 213 #[.pointer (some ⟨b,0,none⟩),.slice (some ⟨g,0,none⟩) 1 1] w (.bool false)):=
  Za (fun g w hl hg=>wo 0 b g D P B C x D w hl hg Zf rfl (by have:=hF; unfold Jt at this; omega) hF.2.2.2.1 x0 x1 Zf)
 have H:=Za h;obtain ⟨f0,f1,f2,f3,f4,f5⟩:=hF;clear h;go_enter func168,ntmps168;go_wp2;go_quiet ((go_at_call 212; exact Qm (HB.o _)));go_wp2_with fail;refine (HK.o w.heap.size _ (Yw (Xq H.o nq) _) (Zt (w.drewN nq) _ _)).mono ?_;rintro e w1 ⟨rfl,EX⟩;go_wp2_with fail;go_ret;exact ⟨rfl,((below_drewN (Zo _ w) nq).alloc (Zh _) _).trans (EX.mono ZE)⟩
theorem eR (b:Nat)(D P B C x:Int)(w:Zc)(h:Kw w b D P B C)(hF:Jt D P B C)(x0:0<=x)(hx:x<=C -(D - P - B))(ho:D+x<=18446744073709551615) :
  Zv Zb 168 #[.pointer (some ⟨b,0,none⟩),.int .u64 x] w fun e w'=>e= .returned (.int .i64 0)/\Kw w' b (D+x) P B C/\w.grownBy w' (some b):=by
 have c3:=h.cells.2.2.2;have HB:Zl (∀n,Xb 212 #[.pointer (some ⟨b,0,none⟩)] (w.drewN n) (.int .u64 (D - P - B))):=Za (fun n=>DR (Xq h n) hF);have HK:Zl (∀(g:Nat) (w:Zc),Kw w b D P B C->Zu w g 260 #[.int .i64 (0:Nat),.int .u64 x]->Zv Zb 213 #[.pointer (some ⟨b,0,none⟩),.slice (some ⟨g,0,none⟩) 1 1] w fun e w'=>e= .returned (.bool true)/\Kw w' b (D+x) P B C/\w.grownBy w' (some b)):=
  Za (fun g w hl hg=>aI 0 b g D P B C (D+x) P B x D w hl hg Zf rfl rfl (by have:=hF; unfold Jt at this; omega) x0 ho)
 have H:=Za h;obtain ⟨f0,f1,f2,f3,f4,f5⟩:=hF;clear h;go_enter func168,ntmps168;go_wp2;go_quiet ((go_at_call 212; exact Qm (HB.o _)));go_wp2_with fail;refine (HK.o w.heap.size _ (Yw (Xq H.o nq) _) (Zt (w.drewN nq) _ _)).mono ?_;rintro e w1 ⟨rfl,hl1,hg1⟩;have HE:=Za (Zn hl1 (Th (Dt (Vz (Kl w (some b)) nq) _) hg1));clear hl1 hg1;go_wp2_with fail;go_ret;exact ⟨rfl,HE.o⟩
theorem Oe (b s:Nat)(D P B C D' P' B' x y:Int)(w:Zc)(h:Kw w b D P B C)(hF:Jt D P B C)(hx:x<=D - P - B)(x0:0<=x)(hs:s < 3)
  (hy:(#[.int .u64 D,.int .u64 P,.int .u64 B] :Array Zk)[s]?=some (.int .u64 y)) (hup:(#[.int .u64 D,.int .u64 P,.int .u64 B] :Array Zk).setIfInBounds s (.int .u64 (y+x))= #[.int .u64 D',.int .u64 P',.int .u64 B'])
  (y0:0<=y) (MJ:y+x<=18446744073709551615) :
  Zv Zb 228 #[.pointer (some ⟨b,0,none⟩),.agg #[.int .i64 s,.int .u64 x]] w fun e w'=>e= .returned (.int .i64 0)/\Kw w' b D' P' B' C/\w.grownBy w' (some b):=by
 have HK:Zl (∀(g:Nat) (w:Zc),Kw w b D P B C->Zu w g 260 #[.int .i64 s,.int .u64 x]->Zv Zb 213 #[.pointer (some ⟨b,0,none⟩),.slice (some ⟨g,0,none⟩) 1 1] w fun e w'=>e= .returned (.bool true)/\Kw w' b D' P' B' C/\w.grownBy w' (some b)):=
  Za (fun g w hl hg=>aI s b g D P B C D' P' B' x y w hl hg hs hy hup y0 x0 MJ)
 have uR:Zl (some w.heap.size≠some b):=Za (by have:=Zu.lt h; intro e; injection e with e; omega);have HF:=Za hF;have H1:Zl (Kw (w.alloc (.cells #[.int .i64 s,.int .u64 x] 260)) b D P B C):=Za (Yw h _);have HE:Zl (Zu (w.alloc (.cells #[.int .i64 s,.int .u64 x] 260)) w.heap.size 260 #[.int .i64 s,.int .u64 x]):=Za (Zt _ _ _);have HG:Zl (w.grownBy (w.alloc (.cells #[.int .i64 s,.int .u64 x] 260)) (some b)):=Za (Dt (Kl _ _) _);clear h hF hy hup MJ;go_enter func228,ntmps228;go_wp2;generalize w.alloc (.cells #[.int .i64 s,.int .u64 x] 260)=W at*;refine Mz (fun w'=>Zu w' w.heap.size 260 #[.int .i64 s,.int .u64 x]) 14 9 [0,1,2,3,4] (J3 HE.o) ?_;refine JL ?_;refine Ol ?_;refine Gz ?_;refine Vk 23 _ (.int .u64 x) (fun w h=>XP h 1) ?_;refine X5 ?_;refine DL ?_;refine XK ?_;refine DM ?_;refine JC #[.pointer (some ⟨b,0,none⟩)] call212 ((DR (J3 H1.o) HF.o).mono ?_);rintro e w1 ⟨rfl,m,rfl⟩;refine ⟨_,rfl,Xq (J3 HE.o) m,?_⟩;have HX:Zl (decide (D - P - B < x)=false):=Za (by simpa using hx);refine Da ?_;refine SR (fun w'=>Zu w' w.heap.size 260 #[.int .i64 s,.int .u64 x]) (m:=8) (f:=2) [6,7,8,9,10,11] (Xq (J3 HE.o) m) ?_;refine JL ?_;refine I2 ?_;refine Gz ?_;rw [HX.o];refine Bi ?_;refine QP 260 (.tmp 3) w.heap.size 260 _ _ ZC rfl rfl (fun _ h=>h) underlying260 rfl rC ?_;refine X5 ?_;refine XK ?_;refine Jg (i:=12) ?_;refine KQ rfl ZC (Jl 298 260 (.tmp 18) _ (.int .i64 s) (.int .u64 x) rfl rfl underlying298 e8 ⟨Yw (Xq (J3 HE.o) m) _,?_⟩);refine Da ?_;refine Jg (i:=13) ?_;refine KQ rfl ZC (Kt rfl #[.pointer (some ⟨b,0,none⟩),.slice (some ⟨(W.drew.drewN m).heap.size,0,none⟩) 1 1] ZC call213 ((HK.o (W.drew.drewN m).heap.size _ (Yw (Xq (J3 H1.o) m) _) (Zt (W.drew.drewN m) _ _)).mono ?_));rintro e w2 ⟨rfl,q5,Wv⟩;have hE2:=(Yw (Xq (J3 HE.o) m) (.cells #[.int .i64 s,.int .u64 x] 260)).grown Wv uR.o;have HZ:=Za (Zn q5 (Th (Dt (Vz (AJ HG.o) m) _) Wv));refine ⟨_,rfl,hE2,?_⟩;clear q5 Wv hE2;refine GO ?_;refine ⟨by kernel_rfl,?_⟩;refine Mh ?_;go_wp2;refine Gy ?_;go_wp2;go_ret;exact ⟨rfl,HZ.o⟩
end
section
open Go.RowKit
section
variable (b:Nat) (D P B C x:Int) (w:Zc) (h:Kw w b D P B C) (hF:Jt D P B C)
include h hF
theorem yc (x0:0<=x)(hx:x<=D - P - B) :Zv Zb 247 #[.pointer (some ⟨b,0,none⟩),.int .u64 x] w fun e w'=>e= .returned (.int .i64 0)/\Kw w' b D (P+x) B C/\w.grownBy w' (some b):=by
 have H:=Za (Oe b 1 D P B C D (P+x) B x P w h hF hx x0 Zf rfl rfl hF.1 (by unfold Jt at hF; omega));clear h hF hx;go_enter func247,ntmps247;exact Zii
theorem pL (x0:0<=x)(hx:x<=D - P - B) :Zv Zb 184 #[.pointer (some ⟨b,0,none⟩),.int .u64 x] w fun e w'=>e= .returned (.int .i64 0)/\Kw w' b D P (B+x) C/\w.grownBy w' (some b):=by
 have H:=Za (Oe b 2 D P B C D P (B+x) x B w h hF hx x0 Zf rfl rfl hF.2.1 (by unfold Jt at hF; omega));clear h hF hx;go_enter func184,ntmps184;exact Zii
end
end
section
open Go Go.RowKit
section
variable {α:Type} {row:α->List Zk} {k:Nat} {w w':Zc} {a:Option Addr} {l:List α} {S T:Nat->Prop}
def KA (row:α->List Zk)(k:Nat)(a:Option Addr)(l:List α) :Zc->(Nat->Prop)->Prop:=fun w S=>VM row k w (fun i=> ¬S i) a l/\ ∀i,S i->i < w.heap.size
theorem P6:Y3 (KA row k a l):=by
 refine ⟨fun w S h=>h.2,fun w w' S T h hk hT=>⟨?_,fun i hi=>Nat.lt_of_lt_of_le (h.2 i hi) hk.size⟩⟩;exact h.1.same hk.size fun b hb hn=>hk.block b hb (hT b (Classical.not_not.1 hn))
theorem KA.apart (h:KA row k a l w S)(hT: ∀i,S i-> ¬T i) :VM row k w T a l:=h.1.more fun i _ hi=>fun hs=>hT i hs hi
theorem KA.nil (w:Zc)(a:Option Addr) :KA row k a ([] :List α) w (fun _=>False):=⟨VM.nil _ _ _,fun _ h=>h.elim⟩
theorem VM.drop {b off:Nat}(h:VM row k w S (some ⟨b,off,none⟩) l)(n:Nat) :VM row k w S (some ⟨b,off+n*k,none⟩) (l.drop n):=fun h0=>by
 obtain ⟨b',Zg6,h1,h2,h3,h4⟩:=h (by rw [Jm] at h0; omega);obtain ⟨rfl,rfl⟩ :b=b'/\off=Zg6:=by
  have:=ZL h1;injection this with e1 e2;exact ⟨e1,e2⟩
 refine ⟨b,off+n*k,rfl,h2,h3,fun i v hi=>?_⟩;rw [List.getElem?_drop] at hi;have:=h4 (n+i) v hi;rwa [show off+(n+i)*k=off+n*k+i*k by rw [Nat.add_mul]; omega] at this
end
end
section
open Go Go.RowKit Go.Deep
theorem PY {x y:Zk}(o1:x.oneCell'=true)(o2:y.oneCell'=true) :(#[x,y] :Array Zk).all (·.oneCell')=true:=by simp [o1,o2]
theorem gZ (b g size n f c i:Nat)(C F:List Zk)(x y:Zk)(w:Zc)(hr:QX 151 116 2 w b g size n f c C)(hw:QF C (f*2) F)(hF:F.length=c*2)(hx:F[i*2]?=some x)(hy:F[i*2+1]?=some y)(o1:x.oneCell'=true)(o2:y.oneCell'=true) :
  Z3 298 #[.pointer (some ⟨b,0,none⟩),.int .i64 i] w (.tuple #[.agg #[x,y],.bool true]):=by
 obtain ⟨-,d1,d2,d3,-,-,-⟩:=hr.cells;obtain ⟨B1,B2,hC,Wu,SP,OW,hs⟩:=hr;have hic:i < c:=ZaO
 have hi1: ¬(i:Int)< 0:=Zf;have GQ: ¬(c:Int)<=(i:Int):=Zf;obtain ⟨p,hp⟩ : ∃p:Nat,(f+i)%n=p:=⟨_,rfl⟩;have OX:p < n:=uz
 have UJ:w.cell? ⟨g,p*2,none⟩=some x:=ZaF
 have CO:w.cell? ⟨g,p*2+1,none⟩=some y:=ZhF
 have Vr: ∀W:Zc,W.cell? ⟨b,1,none⟩=some (.slice (some ⟨g,0,none⟩) n n)->W.cell? ⟨b,2,none⟩=some (.int .i64 f)->Xb 191 #[.pointer (some ⟨b,0,none⟩),.int .i64 i] W (.int .i64 p):=fun W x1 x2=>by
  have:=Ll b n f i _ n W x1 x2 Zf Zf Zf;rwa [hp] at this
 have hgl:=B2.lt;have NC:=B1.lt;have hra:(w.alloc (.cells #[.int .i64 0,.int .i64 0] 116)).rangeAt g (p*2) [x,y]:=fun j v hv=>by
  exact Zh2
 have HRA:=Za hra;have R0:=Za Vr;have e1:=QI (.cells #[.int .i64 0,.int .i64 0] 116) d1;have e2:=QI (.cells #[.int .i64 0,.int .i64 0] 116) d2;clear Vr hp B1 B2 hC hw hF hx hy hra UJ CO;go_enter func298,ntmps298;go_wp2_with fail;refine (Tu _ c _ (QI _ d3)).mono ?_;rintro e w' ⟨rfl,rfl⟩;go_wp2;refine GL 9 ?_;refine GM ?_;iterate 8 (go_big_quiet_step ((go_at_call 191; exact Qm (R0.o _ e1 e2))))
 refine Il (.agg #[x,y]) rfl (fun W hW=>?_) ?_
 ·obtain ⟨q,rfl⟩:=hW;have hl:=run_loadAt_mid (P:=Zb) ((w.alloc (.cells #[.int .i64 0,.int .i64 0] 116)).drewN q) g (p*2) 116 [x,y] _ HRA.o underlying116 rfl ZC;unfold XL;simp only [Act.eval,Yr]
  erw [hl]
  rfl
 refine XK ?_;intro _ Jq;obtain ⟨nr,Y9⟩:=Jq;subst Y9;refine YH rfl _ _ _ rfl w.heap.size #[x,y] rfl rfl 116 _ (Xq (Zt w _ _) nr) ZC rfl (by simp [o1,o2]) ?_;have HB:Zl (Zu ((((w.alloc (.cells #[.int .i64 0,.int .i64 0] 116)).drewN nr)).setRow w.heap.size #[x,y]) w.heap.size 116 #[x,y]):=Za (Ji (Xq (Zt w _ _) nr) _);have HL:Zl (Zp w.heap.size w ((((w.alloc (.cells #[.int .i64 0,.int .i64 0] 116)).drewN nr)).setRow w.heap.size #[x,y])):=Za (below_setRow (below_drewN ((Zo _ _).alloc (Zh _) _) nr) (Zh _) _);go_wp2;refine Yd (v:= .tuple #[.agg #[x,y],.bool true]) (XS (fn:=Tryz.f298) rfl _ _ w.heap.size 116 _ (0,0) _ rfl HB.o underlying116 rfl ZC) rfl ⟨rfl,HL.o⟩
theorem nz (b g size n f c:Nat)(C F:List Zk)(x y:Zk)(w:Zc)(hr:QX 151 116 2 w b g size n f (c+1) C)(hw:QF C (f*2) (x::y::F))(hF:F.length=c*2)(o1:x.oneCell'=true)(o2:y.oneCell'=true) :
  Zv Zb 289 #[.pointer (some ⟨b,0,none⟩)] w fun e w'=>e= .returned (.tuple #[.agg #[x,y],.bool true])/\
   (∃f' C',QX 151 116 2 w' b g size n f' c C'/\QF C' (f'*2) F)/\Zx (fun i=>i=b\/i=g) w w':=by
 have hpk:=fun W (hW:Zl (QX 151 116 2 W b g size n f (c+1) C))=>gZ b g size n f (c+1) 0 C (x::y::F) x y W hW.o hw (by simp [hF]; omega) ZE ZE o1 o2
 have HR0:=Za hr;have hr0:=Za (hr.kept (S:=fun _=>False) ((ZM _ w).alloc (.cells #[.int .i64 0,.int .i64 0] 116)) id id);obtain ⟨B1,B2,hC,Wu,SP,OW,hs⟩:=hr;have NC:=B1.lt;have hgl:=B2.lt;have oI:=Za hpk;have DO:=Za B1;have Gv:=Za B2;have HC:=Za hC;have HW:=Za hw;have HF:=Za hF;obtain ⟨s,hsv⟩ : ∃s:Nat,(f+1)%n=s:=⟨_,rfl⟩;have DU:s < n:=uw
 have Vr: ∀W:Zc,W.cell? ⟨b,1,none⟩=some (.slice (some ⟨g,0,none⟩) n n)->W.cell? ⟨b,2,none⟩=some (.int .i64 f)->Xb 191 #[.pointer (some ⟨b,0,none⟩),.int .i64 1] W (.int .i64 s):=fun W x1 x2=>by
  have:=Ll b n f 1 _ n W x1 x2 Zf Zf Zf;rwa [hsv] at this
 have R0:=Za Vr;have zK:=Za hsv;clear Vr hsv hpk B1 B2 hC hw hF;go_enter func289,ntmps289;go_wp2_with fail;refine (oI.o _ hr0).mono ?_;rintro e w1 ⟨rfl,hB⟩;have hz:w.heap.size+1<=w1.heap.size:=by have:=hB.size; exact Bt
 have hR:Zu w1 w.heap.size 116 #[.int .i64 0,.int .i64 0]:=Zu.below (Zt w _ _) hB ZE;have HB:Zl (Zp w.heap.size w w1):=Za (((Zo _ _).alloc (Zh _) _).trans (hB.mono ZE));have HR:=Za hR;clear hB hR;go_wp2_with (first
  | (refine YH rfl _ _ _ rfl w1.heap.size #[x,y] rfl rfl 116 _ (Zt w1 _ _) ZC rfl (PY o1 o2) ?_; rw [Zr]))
 have jP:Zx (fun _=>False) w (w1.alloc (.cells #[x,y] 116)):=(YR HB.o).alloc _;obtain ⟨d0,d1,d2,d3,-,fz2,qx⟩:=(HR0.o.kept jP id id).cells;have DO:=Za (DO.o.kept jP id);have Gv:=Za (Gv.o.kept jP id);have Zb5:=Za (HR.o.alloc (.cells #[x,y] 116));have HX:=Za (Zt w1 116 #[x,y]);have HKW:=Za jP;have Bx:w1.heap.size < (w1.alloc (.cells #[x,y] 116)).heap.size:=ZE;clear jP HR HB;generalize w1.alloc (.cells #[x,y] 116)=w2 at*;refine GL 14 ?_;refine GM ?_
 repeat (go_big_quiet_step (fail))
 refine XK ?_;intro _ Jq;obtain ⟨nr,Y9⟩:=Jq;subst Y9;refine Em rfl (.tmp 27) _ rfl 116 underlying25 (.agg #[.int .i64 0,.int .i64 0]) (fun _=>by kernel_rfl) YW g (f*2) 1 (n - f) rfl Zf C 116 Gv.o iZ ?_;intro W1 HD1 K1;have RN: ¬b=g:=Zu.ne_ DO.o Gv.o YW;have Et:Zl (Zu W1 b 151 #[.int .i64 size,.slice (some ⟨g,0,none⟩) n n,.int .i64 f,.int .i64 ((c+1:Nat) :Int)]):=Za (QG (w:=w2.drewN nr) DO.o K1 RN);have x1:=Et.o.cell 1;have x2:=Et.o.cell 2;have x3:W1.cell? ⟨b,3,none⟩=some (.int .i64 ((c:Int)+1)):=Et.o.cell 3;have y2:=Et.o.frozen 2;have y3:=Et.o.frozen 3;have oY:=Za (QG (w:=w2.drewN nr) Zb5.o K1 Zf);have ej:=Za (QG (w:=w2.drewN nr) HX.o K1 Zf);have Nh:=Za K1;clear K1 d0 d1 d2 d3 fz2 qx;go_wp2_with fail;refine (R0.o _ x1 x2).mono ?_;rintro e w' ⟨rfl,q2,rfl⟩;have bO:w1.heap.size≠b:=Zf;have fJ:w.heap.size≠b:=Zf;have vD:=Za (JD (JD (ej.o.drewN q2) (p:=⟨b,2,none⟩) bO (.int .i64 s)) (p:=⟨b,3,none⟩) bO (.int .i64 c));have aj:=Za (JD (JD (oY.o.drewN q2) (p:=⟨b,2,none⟩) fJ (.int .i64 s)) (p:=⟨b,3,none⟩) fJ (.int .i64 c));go_wp2_with (first
  | (refine wpList_load_row rfl _ _ rfl w1.heap.size rfl 116 #[x,y] (0,0) _ vD.o underlying116 rfl ZC ?_)
  | (refine YH rfl _ _ _ rfl w.heap.size #[x,y] rfl rfl 116 _ aj.o ZC rfl (PY o1 o2) ?_))
 refine Yd (v:= .tuple #[.agg #[x,y],.bool true]) (XS (fn:=Tryz.f289) rfl _ _ w.heap.size 116 _ (0,0) _ rfl (Ji aj.o _) underlying116 rfl ZC) rfl ?_;refine ⟨rfl,⟨s,_,⟨Zu.setRow_far ?_ (Q0 fJ) _,Zu.setRow_far (JD (JD (HD1.o) (Q0 RN) _) (Q0 RN) _) Zf _,?_,DU,by omega,OW,hs⟩,?_⟩,?_⟩
 ·exact tY
 ·exact tL
 ·have hZ:(YM (Yi (.agg #[.int .i64 0,.int .i64 0])) 1).toList.length=2:=by simp [YM,Yi]
  generalize (YM (Yi (.agg #[.int .i64 0,.int .i64 0])) 1).toList=Z at*;exact ZhJ
 ·exact ZhL
theorem ny (b size c:Nat)(go:Option Nat)(F:List Zk)(x y:Zk)(w:Zc)(hi:Yv 151 116 2 w b go size (c+1) (x::y::F)) :
  Zv Zb 289 #[.pointer (some ⟨b,0,none⟩)] w fun e w'=>e= .returned (.tuple #[.agg #[x,y],.bool true])/\Yv 151 116 2 w' b go size c F/\Zx (QU b go) w w':=by
 obtain ⟨hF,hF1,⟨rfl,h0,_⟩ | ⟨g,n,f,C,rfl,h3,h4⟩⟩:=hi
 ·omega
 ·have hl:F.length=c*2:=ux
  exact (nz b g size n f c C F x y w h3 h4 hl (hF1 _ ZE) (hF1 _ ZE)).mono fun e w' ⟨he,⟨f',C',k1,k2⟩,k3⟩=>
   ⟨he,k1.at_ k2 hl (fun x hx=>hF1 x (KH _ (KH _ hx))),k3.more fun i _ hi=>hi.elim .inl (fun e=> .inr Er)⟩
end
section
open Go Go.RowKit Go.Deep
theorem P4 {x y:Zk}(o1:x.oneCell'=true)(o2:y.oneCell'=true) :(#[x,y] :Array Zk).all (·.oneCell')=true:=by simp [o1,o2]
theorem iy (b g size n f c i:Nat)(C F:List Zk)(x y:Zk)(w:Zc)(hr:QX 154 119 2 w b g size n f c C)(hw:QF C (f*2) F)(hF:F.length=c*2)(hx:F[i*2]?=some x)(hy:F[i*2+1]?=some y)(o1:x.oneCell'=true)(o2:y.oneCell'=true) :
  Z3 291 #[.pointer (some ⟨b,0,none⟩),.int .i64 i] w (.tuple #[.agg #[x,y],.bool true]):=by
 obtain ⟨-,d1,d2,d3,-,-,-⟩:=hr.cells;obtain ⟨B1,B2,hC,Wu,SP,OW,hs⟩:=hr;have hic:i < c:=ZaO
 have hi1: ¬(i:Int)< 0:=Zf;have GQ: ¬(c:Int)<=(i:Int):=Zf;obtain ⟨p,hp⟩ : ∃p:Nat,(f+i)%n=p:=⟨_,rfl⟩;have OX:p < n:=uz
 have UJ:w.cell? ⟨g,p*2,none⟩=some x:=ZaF
 have CO:w.cell? ⟨g,p*2+1,none⟩=some y:=ZhF
 have Vr: ∀W:Zc,W.cell? ⟨b,1,none⟩=some (.slice (some ⟨g,0,none⟩) n n)->W.cell? ⟨b,2,none⟩=some (.int .i64 f)->Xb 196 #[.pointer (some ⟨b,0,none⟩),.int .i64 i] W (.int .i64 p):=fun W x1 x2=>by
  have:=Lx b n f i _ n W x1 x2 Zf Zf Zf;rwa [hp] at this
 have hgl:=B2.lt;have NC:=B1.lt;have hra:(w.alloc (.cells #[.int .i64 0,.int .u64 0] 119)).rangeAt g (p*2) [x,y]:=fun j v hv=>by
  exact Zh2
 have HRA:=Za hra;have R0:=Za Vr;have e1:=QI (.cells #[.int .i64 0,.int .u64 0] 119) d1;have e2:=QI (.cells #[.int .i64 0,.int .u64 0] 119) d2;clear Vr hp B1 B2 hC hw hF hx hy hra UJ CO;go_enter func291,ntmps291;go_wp2_with fail;refine (TH _ c _ (QI _ d3)).mono ?_;rintro e w' ⟨rfl,rfl⟩;go_wp2;refine GL 9 ?_;refine GM ?_;iterate 8 (go_big_quiet_step ((go_at_call 196; exact Qm (R0.o _ e1 e2))))
 refine Il (.agg #[x,y]) rfl (fun W hW=>?_) ?_
 ·obtain ⟨q,rfl⟩:=hW;have hl:=run_loadAt_mid (P:=Zb) ((w.alloc (.cells #[.int .i64 0,.int .u64 0] 119)).drewN q) g (p*2) 119 [x,y] _ HRA.o underlying119 rfl ZC;unfold XL;simp only [Act.eval,Yr]
  erw [hl]
  rfl
 refine XK ?_;intro _ Jq;obtain ⟨nr,Y9⟩:=Jq;subst Y9;refine YH rfl _ _ _ rfl w.heap.size #[x,y] rfl rfl 119 _ (Xq (Zt w _ _) nr) ZC rfl (by simp [o1,o2]) ?_;have HB:Zl (Zu ((((w.alloc (.cells #[.int .i64 0,.int .u64 0] 119)).drewN nr)).setRow w.heap.size #[x,y]) w.heap.size 119 #[x,y]):=Za (Ji (Xq (Zt w _ _) nr) _);have HL:Zl (Zp w.heap.size w ((((w.alloc (.cells #[.int .i64 0,.int .u64 0] 119)).drewN nr)).setRow w.heap.size #[x,y])):=Za (below_setRow (below_drewN ((Zo _ _).alloc (Zh _) _) nr) (Zh _) _);go_wp2;refine Yd (v:= .tuple #[.agg #[x,y],.bool true]) (XS (fn:=Tryz.f291) rfl _ _ w.heap.size 119 _ (0,0) _ rfl HB.o underlying119 rfl ZC) rfl ⟨rfl,HL.o⟩
theorem nH (b g size n f c:Nat)(C F:List Zk)(x y:Zk)(w:Zc)(hr:QX 154 119 2 w b g size n f (c+1) C)(hw:QF C (f*2) (x::y::F))(hF:F.length=c*2)(o1:x.oneCell'=true)(o2:y.oneCell'=true) :
  Zv Zb 275 #[.pointer (some ⟨b,0,none⟩)] w fun e w'=>e= .returned (.tuple #[.agg #[x,y],.bool true])/\
   (∃f' C',QX 154 119 2 w' b g size n f' c C'/\QF C' (f'*2) F)/\Zx (fun i=>i=b\/i=g) w w':=by
 have hpk:=fun W (hW:Zl (QX 154 119 2 W b g size n f (c+1) C))=>iy b g size n f (c+1) 0 C (x::y::F) x y W hW.o hw (by simp [hF]; omega) ZE ZE o1 o2
 have HR0:=Za hr;have hr0:=Za (hr.kept (S:=fun _=>False) ((ZM _ w).alloc (.cells #[.int .i64 0,.int .u64 0] 119)) id id);obtain ⟨B1,B2,hC,Wu,SP,OW,hs⟩:=hr;have NC:=B1.lt;have hgl:=B2.lt;have oI:=Za hpk;have DO:=Za B1;have Gv:=Za B2;have HC:=Za hC;have HW:=Za hw;have HF:=Za hF;obtain ⟨s,hsv⟩ : ∃s:Nat,(f+1)%n=s:=⟨_,rfl⟩;have DU:s < n:=uw
 have Vr: ∀W:Zc,W.cell? ⟨b,1,none⟩=some (.slice (some ⟨g,0,none⟩) n n)->W.cell? ⟨b,2,none⟩=some (.int .i64 f)->Xb 196 #[.pointer (some ⟨b,0,none⟩),.int .i64 1] W (.int .i64 s):=fun W x1 x2=>by
  have:=Lx b n f 1 _ n W x1 x2 Zf Zf Zf;rwa [hsv] at this
 have R0:=Za Vr;have zK:=Za hsv;clear Vr hsv hpk B1 B2 hC hw hF;go_enter func275,ntmps275;go_wp2_with fail;refine (oI.o _ hr0).mono ?_;rintro e w1 ⟨rfl,hB⟩;have hz:w.heap.size+1<=w1.heap.size:=by have:=hB.size; exact Bt
 have hR:Zu w1 w.heap.size 119 #[.int .i64 0,.int .u64 0]:=Zu.below (Zt w _ _) hB ZE;have HB:Zl (Zp w.heap.size w w1):=Za (((Zo _ _).alloc (Zh _) _).trans (hB.mono ZE));have HR:=Za hR;clear hB hR;go_wp2_with (first
  | (refine YH rfl _ _ _ rfl w1.heap.size #[x,y] rfl rfl 119 _ (Zt w1 _ _) ZC rfl (P4 o1 o2) ?_; rw [Zr]))
 have jP:Zx (fun _=>False) w (w1.alloc (.cells #[x,y] 119)):=(YR HB.o).alloc _;obtain ⟨d0,d1,d2,d3,-,fz2,qx⟩:=(HR0.o.kept jP id id).cells;have DO:=Za (DO.o.kept jP id);have Gv:=Za (Gv.o.kept jP id);have Zb5:=Za (HR.o.alloc (.cells #[x,y] 119));have HX:=Za (Zt w1 119 #[x,y]);have HKW:=Za jP;have Bx:w1.heap.size < (w1.alloc (.cells #[x,y] 119)).heap.size:=ZE;clear jP HR HB;generalize w1.alloc (.cells #[x,y] 119)=w2 at*;refine GL 14 ?_;refine GM ?_
 repeat (go_big_quiet_step (fail))
 refine XK ?_;intro _ Jq;obtain ⟨nr,Y9⟩:=Jq;subst Y9;refine Em rfl (.tmp 27) _ rfl 119 underlying26 (.agg #[.int .i64 0,.int .u64 0]) (fun _=>by kernel_rfl) YW g (f*2) 1 (n - f) rfl Zf C 119 Gv.o iZ ?_;intro W1 HD1 K1;have RN: ¬b=g:=Zu.ne_ DO.o Gv.o YW;have Et:Zl (Zu W1 b 154 #[.int .i64 size,.slice (some ⟨g,0,none⟩) n n,.int .i64 f,.int .i64 ((c+1:Nat) :Int)]):=Za (QG (w:=w2.drewN nr) DO.o K1 RN);have x1:=Et.o.cell 1;have x2:=Et.o.cell 2;have x3:W1.cell? ⟨b,3,none⟩=some (.int .i64 ((c:Int)+1)):=Et.o.cell 3;have y2:=Et.o.frozen 2;have y3:=Et.o.frozen 3;have oY:=Za (QG (w:=w2.drewN nr) Zb5.o K1 Zf);have ej:=Za (QG (w:=w2.drewN nr) HX.o K1 Zf);have Nh:=Za K1;clear K1 d0 d1 d2 d3 fz2 qx;go_wp2_with fail;refine (R0.o _ x1 x2).mono ?_;rintro e w' ⟨rfl,q2,rfl⟩;have bO:w1.heap.size≠b:=Zf;have fJ:w.heap.size≠b:=Zf;have vD:=Za (JD (JD (ej.o.drewN q2) (p:=⟨b,2,none⟩) bO (.int .i64 s)) (p:=⟨b,3,none⟩) bO (.int .i64 c));have aj:=Za (JD (JD (oY.o.drewN q2) (p:=⟨b,2,none⟩) fJ (.int .i64 s)) (p:=⟨b,3,none⟩) fJ (.int .i64 c));go_wp2_with (first
  | (refine wpList_load_row rfl _ _ rfl w1.heap.size rfl 119 #[x,y] (0,0) _ vD.o underlying119 rfl ZC ?_)
  | (refine YH rfl _ _ _ rfl w.heap.size #[x,y] rfl rfl 119 _ aj.o ZC rfl (P4 o1 o2) ?_))
 refine Yd (v:= .tuple #[.agg #[x,y],.bool true]) (XS (fn:=Tryz.f275) rfl _ _ w.heap.size 119 _ (0,0) _ rfl (Ji aj.o _) underlying119 rfl ZC) rfl ?_;refine ⟨rfl,⟨s,_,⟨Zu.setRow_far ?_ (Q0 fJ) _,Zu.setRow_far (JD (JD (HD1.o) (Q0 RN) _) (Q0 RN) _) Zf _,?_,DU,by omega,OW,hs⟩,?_⟩,?_⟩
 ·exact tY
 ·exact tL
 ·have hZ:(YM (Yi (.agg #[.int .i64 0,.int .u64 0])) 1).toList.length=2:=by simp [YM,Yi]
  generalize (YM (Yi (.agg #[.int .i64 0,.int .u64 0])) 1).toList=Z at*;exact ZhJ
 ·exact ZhL
theorem nG (b size c:Nat)(go:Option Nat)(F:List Zk)(x y:Zk)(w:Zc)(hi:Yv 154 119 2 w b go size (c+1) (x::y::F)) :
  Zv Zb 275 #[.pointer (some ⟨b,0,none⟩)] w fun e w'=>e= .returned (.tuple #[.agg #[x,y],.bool true])/\Yv 154 119 2 w' b go size c F/\Zx (QU b go) w w':=by
 obtain ⟨hF,hF1,⟨rfl,h0,_⟩ | ⟨g,n,f,C,rfl,h3,h4⟩⟩:=hi
 ·omega
 ·have hl:F.length=c*2:=ux
  exact (nH b g size n f c C F x y w h3 h4 hl (hF1 _ ZE) (hF1 _ ZE)).mono fun e w' ⟨he,⟨f',C',k1,k2⟩,k3⟩=>
   ⟨he,k1.at_ k2 hl (fun x hx=>hF1 x (KH _ (KH _ hx))),k3.more fun i _ hi=>hi.elim .inl (fun e=> .inr Er)⟩
end
section
open Go Go.RowKit
structure An where
 bk:Int
 ep:Int
 V:List ZN
 D:Int
 P:Int
 B:Int
 ac:Int
 pd:List Int
 F:List Int
 W:List Int
 mn:Nat
 tn:Nat
 un:Int
def lvB (v:ZN) :Bool:=decide (3<=v.st/\v.st<=6)
def isP (v:ZN) :Bool:=decide (v.st=1)
def isE (v:ZN) :Bool:=decide (v.st=3/\v.ex= -1)
def isU (v:ZN) :Bool:=decide (v.st=4\/v.st=3/\v.ex≠ -1)
def mj (s:Int) :Bool:=decide (s=6\/s=7)
def okE (c:Nat->Int)(v:ZN) :Bool:=decide (v.ex= -1\/(3<=v.st/\v.st<=6)/\v.rq < v.ex/\c 10<=v.wd - v.ex)
def okZ (v:ZN) :Bool:=decide (v.bal=0\/ ¬(v.st=6\/v.st=7))
def okS (v:ZN) :Bool:=decide (v.sl=false\/(3<=v.st/\v.st<=6)/\v.dl= -1)
def OQ (q:List Int)(V:List ZN)(p:ZN->Bool) :Bool:=
 ((List.range V.length).all fun i=>!p (V.getD i ZS)||decide (q.count (i:Int)=1))&&decide (q.length=V.countP p)
def JU (c:Nat->Int)(s:An) :Nat->Bool
 | 0=>decide ((s.V.length:Int)<=c 0)
 | 1=>decide (Zw s.V+s.P+s.B=s.D)
 | 2=>decide (Zw s.V<=c 4)
 | 3=>decide (Ye s.V=s.ac)
 | 4=>OQ s.pd s.V isP
 | 5=>OQ (s.F++s.W) s.V isE
 | 6=>s.V.all (okE c)
 | 7=>s.V.all okZ
 | 8=>decide (s.un=(s.V.countP isU:Nat))
 | 9=>decide ((s.pd.length:Int)<=c 1/\(s.F.length:Int)<=c 1/\(s.W.length:Int)<=c 1/\(s.mn:Int)<=c 1/\(s.tn:Int)<=c 1)
 | 10=>decide (0<=s.bk/\s.ep=s.bk/c 13)
 | _=>s.V.all okS
def KW (c:Nat->Int)(s:An) :Nat->List Int
 | 0=> []
 | k+1=>KW c s k++if JU c s k=true then [] else [(k:Int)+1]
def Dl (c:Nat->Int)(s:An) :Int:=(KW c s 12).headD 0
theorem TZ {c:Nat->Int}{s:An}{k:Nat}(h:JU c s k=true) :KW c s (k+1)=KW c s k:=by simp [KW,h]
theorem kC {c:Nat->Int}{s:An}{k:Nat}(h:JU c s k=false) :KW c s (k+1)=KW c s k++[(k:Int)+1]:=by simp [KW,h]
theorem A7 {c:Nat->Int}{s:An}{k:Nat}{x:Int}{l:List Int}(h:KW c s k=x::l) : ∀d,∃l',KW c s (k+d)=x::l'
 | 0=>⟨l,h⟩
 | d+1=>by
  obtain ⟨l',hl⟩:=A7 h d;exact ⟨_,by rw [<-Q7,KW,hl,Yf]⟩
theorem qq {c:Nat->Int}{s:An}{k:Nat}(hk:k < 12)(h0:KW c s k=[])(h:JU c s k=false) :Dl c s=(k:Int)+1:=by
 have h1:=kC h;rw [h0,XZ] at h1;obtain ⟨l',hl⟩:=A7 h1 (12 -(k+1));rw [show k+1+(12 -(k+1))=12 by omega] at hl;unfold Dl;rw [hl];rfl
theorem SJ {c:Nat->Int}{s:An}(h0:KW c s 12=[]) :Dl c s=0:=by unfold Dl; rw [h0]; rfl
theorem dK (c:Nat->Int)(s:An) : ∀k,(KW c s k).length<=k
 | 0=>Zh _
 | k+1=>by
  have:=dK c s k;rw [KW,ZF]
  split <;> simp <;> omega
def BW (f:Nat->Nat) :Nat->Nat
 | 0=>0
 | k+1=>BW f k+f k
theorem dB (f g:Nat->Nat) : ∀n,BW (fun i=>f i+g i) n=BW f n+BW g n
 | 0=>rfl
 | n+1=>by simp only [BW,dB f g n]; omega
theorem MY {f g:Nat->Nat} : ∀n,(∀i,i < n->f i=g i)->BW f n=BW g n
 | 0,_=>rfl
 | n+1,h=>by rw [BW,BW,MY n (fun i hi=>h i Zf),h n Zf]
theorem dC (a:Int) : ∀n:Nat,BW (fun i=>if a=(i:Int) then 1 else 0) n<=1/\((n:Int)<=a->BW (fun i=>if a=(i:Int) then 1 else 0) n=0)
 | 0=>⟨by simp [BW],fun _=>rfl⟩
 | n+1=>by
  obtain ⟨h1,h2⟩:=dC a n;simp only [BW]
  by_cases h:a=(n:Int)
  ·have:=h2 Zf;rw [if_pos h];exact ⟨by omega,fun h3=>by omega⟩
  ·rw [if_neg h];exact ⟨by omega,fun h3=>h2 Zf⟩
theorem TT (p:ZN->Bool)(V:List ZN) : ∀n,n<=V.length->BW (fun i=>if p (V.getD i ZS)=true then 1 else 0) n=(V.take n).countP p
 | 0,_=>by simp [BW]
 | n+1,h=>by
  rw [BW,TT p V n Zf];have hv:V[n]?=some V[n]:=Zg Zf;rw [ES hv,List.countP_append,List.getD_eq_getElem?_getD,hv];simp only [Option.getD_some,List.countP_cons,List.countP_nil,ZV]
theorem MZ (V:List ZN) :Zw (V.filter fun v=>VX v.st)=Ye V:=by
 induction V with
 | nil=>rfl
 | cons v l ih=>
  rw [JH]
  by_cases h:VX v.st=true
  ·rw [if_pos h,Zw,Ye,ih,XB,if_pos h]
  ·rw [if_neg h,Ye,ih,XB,if_neg h]; omega
theorem Gr (V:List ZN) :Zw (V.filter fun _=>true)=Zw V:=by rw [List.filter_eq_self.2 (fun _ _=>rfl)]
theorem lA (p:ZN->Bool)(V:List ZN) :decide (V.countP p=V.length)=V.all p:=by
 rw [Y2,decide_eq_true_eq,List.countP_eq_length,List.all_eq_true]
theorem aR {V:List ZN}{k:Nat}{v:ZN}(p:ZN->Bool)(h:V[k]?=some v) :(V.take (k+1)).countP p=(V.take k).countP p+if p v=true then 1 else 0:=by
 rw [ES h,List.countP_append];simp [List.countP_cons]
theorem bA {V:List ZN}{k:Nat}{v:ZN}(p:ZN->Bool)(h:V[k]?=some v) :(V.take (k+1)).filter p=(V.take k).filter p++if p v=true then [v] else []:=by
 rw [ES h,QJ]
 congr 1
 rw [JH];rfl
end
section
open Go Go.RowKit Go.Deep
def BV (w W:Zc)(v:ZN) :Prop:=Zu W w.heap.size 68 (Zd v)/\Zp w.heap.size w W
theorem BV.new (w:Zc)(v:ZN) :BV w (w.alloc (.cells (Zd v) 68)) v:=⟨Zt w _ _,(Zo _ _).alloc (Zh _) _⟩
theorem BV.next {w W W':Zc}{v:ZN}(h:BV w W v)(hb:Zp W.heap.size W W') :BV w W' v:=⟨h.1.below hb h.1.lt,h.2.trans (hb.mono h.2.size)⟩
theorem BV.cells {w W:Zc}{v:ZN}(h:BV w W v) :W.cell? ⟨w.heap.size,0,none⟩=some (.int .u64 v.bal)/\W.cell? ⟨w.heap.size,1,none⟩=some (.int .i64 v.st)/\W.cell? ⟨w.heap.size,2,none⟩=some (.bool v.sl)/\W.cell? ⟨w.heap.size,3,none⟩=some (.int .i64 v.rq)/\W.cell? ⟨w.heap.size,4,none⟩=some (.int .i64 v.ex)/\W.cell? ⟨w.heap.size,5,none⟩=some (.int .i64 v.wd)/\W.cell? ⟨w.heap.size,6,none⟩=some (.int .i64 v.dl):=
 ⟨h.1.cell 0,h.1.cell 1,h.1.cell 2,h.1.cell 3,h.1.cell 4,h.1.cell 5,h.1.cell 6⟩
theorem ml (s:Int)(w:Zc) :YV 112 #[.int .i64 s] w (.bool (mj s)):=by
 by_cases h:s=6
 ·have e:mj s=true:=decide_eq_true (.inl h);subst h;exact Zbf
 ·have d:(s==6)=false:=KB
  by_cases h2:s=7
  ·have e:mj s=true:=decide_eq_true (.inr h2);subst h2;exact Zbf
  ·have d2:(s==7)=false:=by simpa using h2
   have e:mj s=false:=decide_eq_false Zf;rw [e];clear h h2 e;go_enter func112,ntmps112;go_wp2;go_ret;exact DF
theorem PS (v:ZN)(w:Zc) :Z3 110 #[.agg (Zd v)] w (.bool (lvB v)):=by
  have T:=Za (BV.new w v);obtain ⟨r,hr⟩:=ZT (lvB v);rw [hr];have HR:Zl (r=decide (3<=v.st/\v.st<=6)):=Za hr.symm;clear hr;have hc:v.st=3\/v.st=4\/v.st=5\/v.st=6\/(¬v.st=3/\ ¬v.st=4/\ ¬v.st=5/\ ¬v.st=6):=Zf;go_enter func110,ntmps110;go_upto_region 1 with (fail);generalize w.alloc (.cells (Zd v) 68)=W at*;obtain ⟨x0,x1,x2,x3,x4,x5,x6⟩:=T.o.cells;clear x0 x2 x3 x4 x5 x6
  rcases hc with h | h | h | h | ⟨h1,h2,h3,h4⟩
  all_goals first
    | (rw [h] at x1
       have hr:r=true:=by rw [HR.o,h]; rfl
       subst hr;clear h;go_wp2;go_ret;exact ⟨rfl,T.o.2⟩)
    | (have d1:(v.st==3)=false:=QQ
       have d2:(v.st==4)=false:=by simpa using h2
       have d3:(v.st==5)=false:=by simpa using h3
       have d4:(v.st==6)=false:=by simpa using h4
       have hr:r=false:=by rw [HR.o]; exact decide_eq_false Zf
       subst hr;clear h1 h2 h3 h4;go_wp2;go_ret;exact ⟨rfl,T.o.2⟩)
theorem Sd (v:ZN)(w:Zc) :Z3 100 #[.agg (Zd v)] w (.bool true):=by
 have T:=Za (BV.new w v);go_enter func100,ntmps100;go_upto_region 1 with (fail);generalize w.alloc (.cells (Zd v) 68)=W at*;exact dS
theorem ar (v:ZN)(w:Zc) :Z3 102 #[.agg (Zd v)] w (.bool (VX v.st)):=by
 have T:=Za (BV.new w v);have HL:=Za (fun w=>Lh v.st w);generalize VX v.st=r at*;go_enter func102,ntmps102;go_upto_region 1 with (fail);generalize w.alloc (.cells (Zd v) 68)=W at*;obtain ⟨x0,x1,x2,x3,x4,x5,x6⟩:=T.o.cells;clear x0 x2 x3 x4 x5 x6;go_wp2_with fail;refine (HL.o _).mono ?_;exact Zbx
theorem Ii (v:ZN)(w:Zc) :Z3 105 #[.agg (Zd v)] w (.bool (isP v)):=by
 have T:=Za (BV.new w v);obtain ⟨r,hr⟩:=ZT (isP v);have d:(v.st==1)=r:=by rw [<-hr]; unfold isP; rw [Y2]; simp
 rw [hr];clear hr;go_enter func105,ntmps105;go_upto_region 1 with (fail);generalize w.alloc (.cells (Zd v) 68)=W at*;obtain ⟨x0,x1,x2,x3,x4,x5,x6⟩:=T.o.cells;clear x0 x2 x3 x4 x5 x6;exact dS
theorem fm (v:ZN)(w:Zc) :Z3 107 #[.agg (Zd v)] w (.bool (isE v)):=by
 have T:=Za (BV.new w v);obtain ⟨r,hr⟩:=ZT (isE v);have HR:Zl (r=decide (v.st=3/\v.ex= -1)):=Za hr.symm;rw [hr];clear hr
 by_cases h:v.st=3
 ·have d1:(v.st==3)=true:=KB;have d:(v.ex== -1)=r:=by rw [HR.o,Y2]; simp [h]
  exact ZhS
 ·have d1:(v.st==3)=false:=KB;have hr:r=false:=by rw [HR.o]; exact lf
  subst hr;exact ZhS
theorem tq (v:ZN)(w:Zc) :Z3 114 #[.agg (Zd v)] w (.bool (isU v)):=by
 have T:=Za (BV.new w v);obtain ⟨r,hr⟩:=ZT (isU v);have HR:Zl (r=decide (v.st=4\/v.st=3/\v.ex≠ -1)):=Za hr.symm;rw [hr];clear hr
 by_cases h4:v.st=4
 ·have d1:(v.st==4)=true:=by simpa using h4
  have hr:r=true:=by rw [HR.o]; exact decide_eq_true (.inl h4)
  subst hr;clear h4;go_enter func114,ntmps114;go_upto_region 1 with (fail);generalize w.alloc (.cells (Zd v) 68)=W at*;obtain ⟨x0,x1,x2,x3,x4,x5,x6⟩:=T.o.cells;clear x0 x2 x3 x5 x6;exact dS
 ·have d1:(v.st==4)=false:=by simpa using h4
  by_cases h:v.st=3
  ·have d2:(v.st==3)=true:=KB;have d:(v.ex != -1)=r:=by rw [HR.o,Y2]; simp [h]
   exact ZhR
  ·have d2:(v.st==3)=false:=KB;have hr:r=false:=by rw [HR.o]; exact lf
   subst hr;exact ZhR
theorem eX (v:ZN)(w:Zc) :Z3 111 #[.agg (Zd v)] w (.bool (okZ v)):=by
 have T:=Za (BV.new w v);obtain ⟨r,hr⟩:=ZT (okZ v);have HR:Zl (r=decide (v.bal=0\/ ¬(v.st=6\/v.st=7))):=Za hr.symm;rw [hr];clear hr
 by_cases h:v.bal=0
 ·have d1:(v.bal==0)=true:=KB;have hr:r=true:=by rw [HR.o]; exact decide_eq_true (.inl h)
  subst hr;clear h;go_enter func111,ntmps111;go_upto_region 1 with (fail);generalize w.alloc (.cells (Zd v) 68)=W at*;obtain ⟨x0,x1,x2,x3,x4,x5,x6⟩:=T.o.cells;clear x2 x3 x4 x5 x6;exact dS
 ·have d1:(v.bal==0)=false:=KB;obtain ⟨q,hq⟩:=ZT (mj v.st);have HF:Zl (∀w,YV 112 #[.int .i64 v.st] w (.bool q)):=Za fun w=>by rw [<-hq]; exact ml v.st w
  have d:(!q)=r:=by
   rw [HR.o,<-hq];unfold mj;rw [Y2];simp [h]
  clear h hq;go_enter func111,ntmps111;go_upto_region 1 with (fail);generalize w.alloc (.cells (Zd v) 68)=W at*;obtain ⟨x0,x1,x2,x3,x4,x5,x6⟩:=T.o.cells;clear x2 x3 x4 x5 x6;go_wp2_with fail;refine (HF.o _).mono ?_;exact Zbx
theorem ID (v:ZN)(w:Zc) :Z3 115 #[.agg (Zd v)] w (.bool (okS v)):=by
 have T:=Za (BV.new w v);obtain ⟨r,hr⟩:=ZT (okS v);have HR:Zl (r=decide (v.sl=false\/(3<=v.st/\v.st<=6)/\v.dl= -1)):=Za hr.symm;have HV:=Za (PS v);rw [hr];clear hr
 cases hs:v.sl with
 | false=>
  have hr:r=true:=by rw [HR.o]; exact decide_eq_true (.inl hs)
  subst hr;have HS:=Za hs;clear hs;go_enter func115,ntmps115;go_upto_region 1 with (fail);generalize w.alloc (.cells (Zd v) 68)=W at*;obtain ⟨x0,x1,x2,x3,x4,x5,x6⟩:=T.o.cells;rw [HS.o] at x2;clear x0 x1 x3 x4 x5;exact dS
 | true=>
  have HS:=Za hs
  cases hl:lvB v with
  | true=>
   have d:(v.dl== -1)=r:=by
    have h2:3<=v.st/\v.st<=6:=by simpa [lvB] using hl
    rw [HR.o,Y2];simp [hs,h2]
   rw [hl] at HV;clear hs hl;go_enter func115,ntmps115;go_upto_region 1 with (fail);generalize w.alloc (.cells (Zd v) 68)=W at*;obtain ⟨x0,x1,x2,x3,x4,x5,x6⟩:=T.o.cells;rw [HS.o] at x2;clear x0 x1 x3 x4 x5;have HX:=Za T.o.1;go_wp2_with (first | (refine EU rfl 68 _ rfl w.heap.size rfl 68 _ (0,0) _ HX.o underlying68 rfl Yb ?_));refine (HV.o _).mono ?_;rintro e w1 ⟨rfl,hb⟩;have T1:=Za (T.o.next hb);clear hb x2 x6 HX T;obtain ⟨x0,x1,x2,x3,x4,x5,x6⟩:=T1.o.cells;clear x0 x1 x2 x3 x4 x5;go_wp2;go_ret;exact ⟨rfl,T1.o.2⟩
  | false=>
   have hr:r=false:=by
    have h2: ¬(3<=v.st/\v.st<=6):=by simpa [lvB] using hl
    rw [HR.o];exact decide_eq_false (by rw [hs]; simp; omega)
   subst hr;rw [hl] at HV;clear hs hl;go_enter func115,ntmps115;go_upto_region 1 with (fail);generalize w.alloc (.cells (Zd v) 68)=W at*;obtain ⟨x0,x1,x2,x3,x4,x5,x6⟩:=T.o.cells;rw [HS.o] at x2;clear x0 x1 x3 x4 x5;have HX:=Za T.o.1;go_wp2_with (first | (refine EU rfl 68 _ rfl w.heap.size rfl 68 _ (0,0) _ HX.o underlying68 rfl Yb ?_));refine (HV.o _).mono ?_;rintro e w1 ⟨rfl,hb⟩;have T1:=Za (T.o.next hb);clear hb x2 x6 HX T;go_wp2;go_ret;exact ⟨rfl,T1.o.2⟩
end
section
open Go Go.RowKit Go.Deep
theorem bd (v:ZN)(c:Nat->Int)(bc:Nat)(w:Zc)(hB:Zu w bc 30 (Zi c))(w0: -4611686018427387904<=v.wd)(w1:v.wd<=4611686018427387904)(c0:0<=c 10)(c1:c 10<=1048576) :
  Z3 109 #[.agg (Zd v),.pointer (some ⟨bc,0,none⟩)] w (.bool (okE c v)):=by
 have T:=Za (BV.new w v);obtain ⟨r,hr⟩:=ZT (okE c v);have HR:Zl (r=decide (v.ex= -1\/(3<=v.st/\v.st<=6)/\v.rq < v.ex/\c 10<=v.wd - v.ex)):=Za hr.symm;have HV:=Za (PS v);have HB:=Za (hB.alloc (.cells (Zd v) 68));have hw:wrap64 (v.wd - c 10)=v.wd - c 10:=by unfold wrap64; omega
 have HK:=Za (Zn w0 (Zn w1 (Zn c0 c1)));rw [hr];clear hr hB w0 w1 c0 c1;go_enter func109,ntmps109;go_upto_region 1 with (fail);generalize w.alloc (.cells (Zd v) 68)=W at*;obtain ⟨x0,x1,x2,x3,x4,x5,x6⟩:=T.o.cells;clear x0 x1 x2 x3 x5 x6
 by_cases h:v.ex= -1
 ·have hr:r=true:=by rw [HR.o]; exact decide_eq_true (.inl h)
  subst hr;rw [h] at x4;clear h hw;go_wp2_with fail;go_ret;exact ⟨rfl,T.o.2⟩
 ·have d1:(v.ex== -1)=false:=KB;have HH:=Za h;clear h;have HX:=Za T.o.1;go_wp2_with (first | (refine Kz 68 w.heap.size HX.o underlying68 Yb ?_))
  cases hl:lvB v with
  | false=>
   have hr:r=false:=by
    have h2: ¬(3<=v.st/\v.st<=6):=by simpa [lvB] using hl
    rw [HR.o];exact decide_eq_false (by have:=HH.o; omega)
   subst hr;rw [hl] at HV;clear hl hw;refine (HV.o _).mono ?_;rintro e w1 ⟨rfl,hb⟩;have T1:=Za (T.o.next hb);clear hb x4 HX T;exact uq
  | true=>
   have h2:3<=v.st/\v.st<=6:=by simpa [lvB] using hl
   have H2:=Za h2;rw [hl] at HV;clear hl h2;refine (HV.o _).mono ?_;rintro e w1 ⟨rfl,hb⟩;have T1:=Za (T.o.next hb);have DO:=Za (HB.o.below hb HB.o.lt);clear hb x4 HX T;obtain ⟨x0,x1,x2,x3,x4,x5,x6⟩:=T1.o.cells;have y:=DO.o.cell 10;have y10:w1.cell? ⟨bc,10,none⟩=some (.int .i64 (c 10)):=y;clear x0 x1 x2 x6 y
   by_cases h3:v.rq < v.ex
   ·have d2:decide (v.rq < v.ex)=true:=decide_eq_true h3;have d3:decide (v.ex<=v.wd - c 10)=r:=by
     rw [HR.o,Y2,decide_eq_true_eq,decide_eq_true_eq];have:=H2.o;have:=HH.o;omega
    clear h3;exact uq
   ·have d2:decide (v.rq < v.ex)=false:=decide_eq_false h3;have hr:r=false:=by
     rw [HR.o];exact decide_eq_false (by have:=HH.o; omega)
    subst hr;clear h3 hw;exact uq
end
end Go.Proofs.YtobgbcdgffgdhaaGreat
