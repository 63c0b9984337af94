/- Part 22 of 29: Sg Vok Phase Inv Tick Facts Rg RgT RgO Code. -/
import Derived.Test.YtianiiijaopdpaaGreatZy00
import Derived.Test.YtianiiijaopdpaaGreatZy12
import Derived.Test.YtianiiijaopdpaaGreatZy20
import Derived.Test.YtianiiijaopdpaaGreatZy21
namespace Go.Proofs.YtianiiijaopdpaaGreat
set_option linter.unusedVariables false
set_option linter.unusedSimpArgs false
set_option maxRecDepth 100000
set_option maxHeartbeats 8000000
open _root_.Int renaming emod_lt_of_pos → GC, emod_nonneg → Gt, le_refl → XF, mul_le_mul_of_nonneg_left → VK, toNat_natCast → YX
open _root_.List renaming append_assoc → XU, cons_append → Yh, ext_getElem? → Vb, filter_append → Ju, filter_cons → Vz, getD_eq_getElem?_getD → Zq, getElem?_append_left → Yn, getElem?_append_right → YF, getElem?_eq_getElem → Zf, getElem?_eq_some_iff → Zi, getElem?_map → ZP, getElem?_of_mem → Uq, getElem?_set_ne → YB, getElem?_set_self → YN, length_append → ZE, length_cons → Yp, length_drop → Q0, length_map → YE, length_set → Xt, length_singleton → Y1, map_append → XS, map_cons → Y2, map_map → VP, mem_append → YG, mem_cons → ZY, mem_filter → Js, mem_map → Yk, mem_map_of_mem → JR, mem_of_getElem? → ZB, mem_of_mem_drop → Xd, mem_of_mem_take → ZK, mem_range → QV, mem_singleton → YV, nodup_append → Jg, nodup_cons → Qx, range → Xm, range_succ → Gu
open _root_.Nat renaming le_refl → Zg, le_trans → Z9, lt_or_ge → Ys
open _root_.Option.some renaming inj → ZS
theorem FU {G:Prop}(h:G:=by simp [hi]) :G:=h
theorem NV {G:Prop}(h:G:=by rw [List.length_take]; omega) :G:=h
theorem Zf1 {G:Prop} (h:G:=by
  have hn:=(List.getElem?_eq_some_iff.1 vy).1;obtain ⟨u,hu,hp,_⟩:=h1 n V[n] (List.getElem?_eq_getElem Ze);rw [vy] at hu;obtain rfl:=Option.some.inj hu;exact ⟨_,_,List.getElem?_eq_getElem Ze,hp⟩) :G:=h
theorem Zgj {G:Prop} (h:G:=by
  unfold opO;rw [if_neg Ze,if_neg Ze,if_neg Ze,if_neg Ze,if_neg Ze,if_neg Ze,if_pos h7]) :G:=h
theorem Zgm {G:Prop} (h:G:=by
  obtain ⟨m,u,e,hu,hq⟩:=h.lnx i hm;obtain rfl:n=m:=by omega
  rw [hv] at hu;obtain rfl:=Option.some.inj hu;have:=hq.1;omega) :G:=h
theorem ZgE {G:Prop} (h:G:=by
  unfold tkP pmOf;rw [List.length_map];exact Nat.le_trans (OD _ _ _) NV) :G:=h
theorem zy {G:Prop} (h:G:=by
  intro j hj;rw [hV];exact (h.pdx j hj).set hv fun hq=>by unfold isPd at hq; omega) :G:=h
theorem zA {G:Prop} (h:G:=by
  unfold leaveV;rw [if_neg Ze];unfold ripenV;rw [if_neg Ze];exact h) :G:=h
theorem zC {G:Prop} (h:G:=by
  rcases hj with (hj | hj) | hj
  ·exact .inl hj
  ·exact absurd hj Mj
  ·exact .inr hj) :G:=h
theorem zS {G:Prop} (h:G:=by
  unfold exO
  split
  ·exact ⟨rfl,rfl,rfl,rfl,rfl,rfl⟩
  ·exact R _ _) :G:=h
theorem zU {G:Prop} (h:G:=by
  unfold exO
  split
  ·rename_i h0; exact ring_ex hc h h0 hr
  ·exact hr) :G:=h
theorem jw {G:Prop} (h:G:=by
  split
  ·exact ⟨rfl,rfl,rfl,rfl,rfl,rfl⟩
  ·exact R _ _) :G:=h
section
open Go Go.RowKit
structure Sg where
 bk:Int
 ep:Int
 V:List Yd
 D:Int
 P:Int
 B:Int
 pd:List Int
 F:List Int
 W:List Int
 mg:List (Int × Int)
 pt:List Rq
 cu:Nat
 cy:Int
structure Rp where
 kd:Int
 cd:Int
 ix:Int
 bl:Int
 ep:Int
 dl:Int
 la:List As
 lp:List Pm
 vs:Int
def fP:Sg:=⟨0,0,[],0,0,0,[],[],[],[],[],0,0⟩
def Ge (s:Sg)(k c:Int) :Rp:=⟨k,c,-1,s.bk,s.ep,-1,[],[],0⟩
def Fo (s:Sg)(k i d:Int) :Rp:=⟨k,0,i,s.bk,s.ep,d,[],[],0⟩
def wV (V:List Yd) :Int→Int:=KM (Jz V)
def Ub (V:List Yd)(i:Int) :Yd:=V.getD i.toNat ZZ
def Et (V:List Yd)(i:Int) :Bool:=decide (i < 0∨(V.length:Int)≤i)
def MH (x:Int) :Yd:=⟨x,1,false,-1,-1,-1,-1⟩
def PF (c:Nat→Int)(s:Sg)(x:Int) :Int:=
 if x < c 2∨c 3 < x then 3 else if c 0≤s.V.length then 5 else if c 1≤s.pd.length then 6
 else if c 4 -(s.D - s.P - s.B)< x then 4 else if 18446744073709551615 < s.D+x then 10 else 0
def Hr (s:Sg)(x:Int) :Sg:= { s with V:=s.V++[MH x],D:=s.D+x,pd:=s.pd++[(s.V.length:Int)]}
def Fw (c:Nat→Int)(s:Sg)(o:Oq) :Rp × Sg:=
 if PF c s o.am=0 then(Fo s o.kd s.V.length (-1),Hr s o.am) else(Ge s o.kd (PF c s o.am),s)
def AY (s:Sg)(v:Yd) :Int × Yd:=QA [Xw s.ep,Qu 2] v
def R0 (c:Nat→Int)(s:Sg)(cl:Int)(v:Yd) :Option Int:=
 if BW ((KK s.F s.W cl).map (wV s.V)) (KK s.F s.W cl).length=true then
  Pa (Hl ((KK s.F s.W cl).map (wV s.V)) (KK s.F s.W cl).length) v.bal c (c 10+BS c) s.ep
 else none
def mM (c:Nat→Int)(s:Sg)(i cl:Int) :Int:=
 if Et s.V i=true then 7 else if(AY s (Ub s.V i)).1≠0 then(AY s (Ub s.V i)).1
 else if c 1≤(U4 s.F s.W cl).length then 6 else if R0 c s cl (Ub s.V i)=none then 10 else 0
def yy (c:Nat→Int)(s:Sg)(i cl:Int) :Int:=(R0 c s cl (Ub s.V i)).getD 0
def P4 (c:Nat→Int)(s:Sg)(i cl:Int) :Sg:=
 { s with V:=s.V.set i.toNat { (AY s (Ub s.V i)).2 with dl:=yy c s i cl},F:=pushF (c 1).toNat s.F cl i,W:=pushV (c 1).toNat s.W cl i}
def exO (c:Nat→Int)(s:Sg)(o:Oq)(cl:Int) :Rp × Sg:=
 if mM c s o.ix cl=0 then(Fo s o.kd o.ix (yy c s o.ix cl),P4 c s o.ix cl) else(Ge s o.kd (mM c s o.ix cl),s)
def Iz (c:Nat→Int)(s:Sg)(i:Int) :Int:=
 if Et s.V i=true then 7 else if(LU (Ub s.V i) s.ep c).1≠0 then(LU (Ub s.V i) s.ep c).1
 else if(Ub s.V i).st=2∧c 1≤s.F.length then 6 else 0
def MZ (c:Nat→Int)(s:Sg)(i:Int) :Sg:=
 { s with V:=s.V.set i.toNat (LU (Ub s.V i) s.ep c).2,B:=s.B+tf (Ub s.V i) s.ep c,F:=if(Ub s.V i).st=2 then s.F++[i] else s.F}
def Wp (c:Nat→Int)(s:Sg)(o:Oq) :Rp × Sg:=
 if Iz c s o.ix=0 then(Fo s o.kd o.ix (-1),MZ c s o.ix) else(Ge s o.kd (Iz c s o.ix),s)
def sO (c:Nat→Int)(s:Sg)(p:Int × Int) :Int:=if DO s.V p (c 6)≠0 then DO s.V p (c 6) else if c 1≤s.mg.length then 6 else 0
def cT (c:Nat→Int)(s:Sg)(o:Oq) :Rp × Sg:=
 if sO c s (o.ix,o.tg)=0 then(Fo s o.kd o.ix (-1),{ s with mg:=s.mg++[(o.ix,o.tg)]}) else(Ge s o.kd (sO c s (o.ix,o.tg)),s)
def vU (c:Nat→Int)(s:Sg)(r:Rq) :Int:=if Ob s.V r≠0 then Ob s.V r else if c 1≤s.pt.length then 6 else 0
def cZ (c:Nat→Int)(s:Sg)(o:Oq) :Rp × Sg:=
 if vU c s ⟨o.ix,o.am⟩=0 then(Fo s o.kd o.ix (-1),{ s with pt:=s.pt++[⟨o.ix,o.am⟩]}) else(Ge s o.kd (vU c s ⟨o.ix,o.am⟩),s)
def leaveV (e:Int)(v:Yd) :Yd:=if v.st=3∧v.ex=e then { v with st:=4} else v
def ripenV (e:Int)(v:Yd) :Yd:=if v.st=4∧v.wd≤e then { v with st:=5} else v
def NZ (ev:Int)(v:Yd) :Yd:= { v with st:=JC v.st ev}
def P3 (ev:Int) :List Yd→List Int→List Yd
 | V,[]=>V
 | V,i::q=>P3 ev (V.set i.toNat (NZ ev (Ub V i))) q
def DL (c:Nat→Int)(e:Int) :List Yd→List (Int × Int)→List Yd
 | V,[]=>V
 | V,p::q=>DL c e (V.set p.1.toNat (QA [XN e,Q9 e (c 10)] (Ub V p.1)).2) q
def BO (s:Sg) :List Yd:=(s.V.map (leaveV s.ep)).map (ripenV s.ep)
def N8 (c:Nat→Int)(s:Sg) :Int:=Em (Yy (BO s)) (c 7) (c 8)
def M9 (c:Nat→Int)(s:Sg) :List (Int × Int) × List Int × List Int × Int:=Fc (wV (BO s)) s.F s.W s.cy (N8 c s)
def A7 (c:Nat→Int)(s:Sg) :List Yd:=DL c (s.ep+1) (BO s) (M9 c s).1
def WA (c:Nat→Int)(s:Sg) :Nat:=FW (N8 c s) (s.pd.map (wV (A7 c s)))
def jT (c:Nat→Int)(s:Sg) :List Yd:=P3 1 (A7 c s) (s.pd.take (WA c s))
def WB (c:Nat→Int)(s:Sg) :List As:=(M9 c s).1.map fun p=>⟨p.1,p.2,s.ep+1⟩
def bdS (c:Nat→Int)(s:Sg) :Sg:=
 { s with V:=Ki (c 6) (jT c s) (s.mg.take (BJ c s.mg)),F:=(M9 c s).2.1,W:=(M9 c s).2.2.1,cy:=EK (M9 c s),pd:=s.pd.drop (WA c s),mg:=s.mg.drop (BJ c s.mg)}
def SB (c:Nat→Int)(s:Sg) :Sg:=
 if(s.bk+1)%c 13=0 then bdS c { s with bk:=s.bk+1,ep:=s.ep+1} else { s with bk:=s.bk+1}
def nxO (c:Nat→Int)(s:Sg) :List As:=if(s.bk+1)%c 13=0 then WB c { s with bk:=s.bk+1,ep:=s.ep+1} else []
def goN (L:List Bool)(s:Nat)(v p:Int) :Nat→Nat→Nat
 | 0,k=>k
 | f+1,k=>if v≤(k:Int)∨L.length≤k∨p≤((J4 L s k).length:Int) then k else goN L s v p f (k+1)
def F8 (L:List Bool)(s:Nat)(v p:Int) :Nat:=goN L s v p L.length 0
def Hx (e:Int)(v:Yd) :Int × Yd:=QA [DF e,Qu 5] { v with bal:=v.bal - v.bal}
def WR (e:Int)(v:Yd) :Int:=if(Hx e v).1=0 then v.bal else 0
def Jl (e:Int) :List Yd→List Nat→List Yd
 | V,[]=>V
 | V,i::q=>Jl e (V.set i (Hx e (V.getD i ZZ)).2) q
def Qi (e:Int) :List Yd→List Nat→List Pm
 | _,[]=> []
 | V,i::q=>⟨i,WR e (V.getD i ZZ),true⟩::Qi e (V.set i (Hx e (V.getD i ZZ)).2) q
def MY (V:List Yd) :List Bool:=V.map fun v=>decide (v.st=5)
def Vk:List Pm→Int
 | []=>0
 | p::q=>p.am+Vk q
def EH (c:Nat→Int)(s:Sg) :Nat:=UE c s.pt
def He (c:Nat→Int)(s:Sg) :List Yd:=XQ (c 5) s.V (s.pt.take (EH c s))
def pmOf (l:List Py) :List Pm:=l.map fun p=>⟨p.ix,p.am,p.fu⟩
def tkP (c:Nat→Int)(s:Sg) :List Pm:=pmOf (Ks (c 5) s.V (s.pt.take (EH c s)))
def mw (c:Nat→Int)(s:Sg) :Nat:=F8 (MY (He c s)) s.cu (c 14 -(EH c s:Nat)) (c 15 -((tkP c s).length:Nat))
def AA (c:Nat→Int)(s:Sg) :List Nat:=J4 (MY (He c s)) s.cu (mw c s)
def TU (c:Nat→Int)(s:Sg) :List Pm:=tkP c s++Qi s.ep (He c s) (AA c s)
def Ia (c:Nat→Int)(s:Sg) :Sg:=
 { s with V:=Jl s.ep (He c s) (AA c s),P:=s.P+Vk (TU c s),pt:=s.pt.drop (EH c s),cu:=DN (He c s).length s.cu (mw c s)}
def xp (c:Nat→Int)(s:Sg) :Rp × Sg:=
 (⟨7,0,-1,(SB c s).bk,(SB c s).ep,-1,nxO c s,TU c (SB c s),(EH c (SB c s) :Nat)+(mw c (SB c s) :Nat)⟩,Ia c (SB c s))
def opO (c:Nat→Int)(s:Sg)(o:Oq) :Rp × Sg:=
 if o.kd=1 then Fw c s o else if o.kd=2 then exO c s o 1 else if o.kd=3 then exO c s o 0 else if o.kd=4 then Wp c s o
 else if o.kd=5 then cT c s o else if o.kd=6 then cZ c s o else if o.kd=7 then xp c s else(Ge s o.kd 11,s)
def Vr (c:Nat→Int) :Sg→List Oq→Sg
 | s,[]=>s
 | s,o::q=>Vr c (opO c s o).2 q
def GY (c:Nat→Int) :Sg→List Oq→List Rp
 | _,[]=> []
 | s,o::q=>(opO c s o).1::GY c (opO c s o).2 q
end
section
open Go Go.RowKit
structure Vok (e:Int)(v:Yd) :Prop where
 fit:Yo v
 lo:v.st=1∨v.st=2→v.ex= -1∧v.sl=false
 s3:v.st=3→v.ex= -1∨(v.ex=e+1∧e+1 < v.wd)
 s4:v.st=4→e < v.wd
 s5:v.st=5→v.wd≤e
 w:v.wd≤1099511627776
def Bm (V:List Yd)(p:Yd→Prop)(i:Int) :Prop:= ∃(m:Nat) (u:Yd),i=(m:Int)∧V[m]?=some u∧p u
def isPd (u:Yd) :Prop:=u.st=1
def DM (u:Yd) :Prop:=u.st=3∧u.ex= -1
theorem Bm.set {V:List Yd}{n:Nat}{v v':Yd}{p:Yd→Prop}{i:Int}(hv:V[n]?=some v)(h:p v→p v')(hx:Bm V p i) :Bm (V.set n v') p i:=by
 obtain ⟨m,u,e,hu,hp⟩:=hx;have hm:=(Zi.1 hv).1
 by_cases iB:n=m
 ·subst iB;rw [hv] at hu;obtain rfl:=ZS hu;exact ⟨n,v',e,by rw [YN hm],h hp⟩
 ·exact ⟨m,u,e,by rw [YB iB]; exact hu,hp⟩
theorem Bm.set_ne {V:List Yd}{n:Nat}{v':Yd}{p:Yd→Prop}{i:Int}(hi:i≠(n:Int))(hx:Bm V p i) :Bm (V.set n v') p i:=by
 obtain ⟨m,u,e,hu,hp⟩:=hx;exact ⟨m,u,e,by rw [YB Ze]; exact hu,hp⟩
theorem Bm.append {V W:List Yd}{p:Yd→Prop}{i:Int}(hx:Bm V p i) :Bm (V++W) p i:=by
 obtain ⟨m,u,e,hu,hp⟩:=hx;exact ⟨m,u,e,by rw [Yn (Zi.1 hu).1]; exact hu,hp⟩
theorem Bm.lt {V:List Yd}{p:Yd→Prop}{i:Int}(hx:Bm V p i) :0≤i∧i < (V.length:Int):=by
 obtain ⟨m,u,e,hu,hp⟩:=hx;have:=(Zi.1 hu).1;omega
theorem Bm.map {V:List Yd}{f:Yd→Yd}{p:Yd→Prop}{i:Int}(h: ∀v,p v→p (f v))(hx:Bm V p i) :Bm (V.map f) p i:=by
 obtain ⟨m,u,e,hu,hp⟩:=hx;exact ⟨m,f u,e,by rw [ZP,hu]; rfl,h u hp⟩
theorem Bb {V:List Yd}{i:Int}(h:Et V i=false) : ∃n:Nat,i=(n:Int)∧V[n]?=some (Ub V i):=by
 unfold Et at h;simp at h;refine ⟨i.toNat,by omega,?_⟩;unfold Ub;exact rZ
theorem My {V:List Yd}{n:Nat}{v:Yd}(h:V[n]?=some v) :Ub V (n:Int)=v:=by unfold Ub; rw [Zq,YX,h]; rfl
theorem Gw {V:List Yd}{n:Nat}{v:Yd}{p:Yd→Prop}(h: ∀x ∈ V,p x)(hv:p v) : ∀x ∈ V.set n v,p x:=fun x hx=>by
 rcases List.mem_or_eq_of_mem_set hx with hx | rfl
 ·exact h x hx
 ·exact hv
theorem QM {V:List Yd}{n:Nat}{v:Yd}(h:V[n]?=some v) :v ∈ V:=ZB h
theorem gh {x:Int}(h0:0≤x)(h1:x≤18446744073709551615) :(Lit.int .u64 x).wf=true:=by
 exact rX
variable {e:Int} {v:Yd} {c:Nat→Int}
theorem qi {x:Int}(h0:0≤x)(h1:x≤18446744073709551615) :Vok e (MH x):=
 ⟨⟨gh h0 h1,rfl⟩,fun _=>⟨rfl,rfl⟩,fun h=>absurd h (by simp [MH]),fun h=>absurd h (by simp [MH]),fun h=>absurd h (by simp [MH]),by show (-1:Int)≤_; omega⟩
theorem bT {s:Int}(h:JC s 2≠0) :s=2∧JC s 2=3:=by
 unfold JC at h ⊢
 repeat' split at h
 all_goals first | omega | (exact absurd rfl h)
theorem fC {s:Int}(h:JC s 7≠0) :(s=2∨s=3)∧JC s 7=3∨(s=4∨s=5)∧JC s 7=4:=by
 unfold JC at h ⊢;rw [if_pos rfl] at h ⊢
 by_cases h1:s=2∨s=3
 ·exact .inl ⟨h1,if_pos h1⟩
 ·by_cases h2:s=4∨s=5
  ·exact .inr ⟨h2,by rw [if_neg h1,if_pos h2]⟩
  ·rw [if_neg h1,if_neg h2] at h; exact absurd rfl h
theorem RA (h:(QA [Xw e,Qu 2] v).1=0) :v.st=2∧(QA [Xw e,Qu 2] v).2= { v with rq:=e,st:=3}:=by
 by_cases h1:Sr e
 ·by_cases h2:JC v.st 2=0
  ·rw [gQ h1 h2] at h; simp at h
  ·rw [nz h1 h2];obtain ⟨h3,h4⟩:=bT h2;exact ⟨h3,by rw [h4]⟩
 ·rw [tU h1] at h; simp at h
theorem tV (h:Vok e v)(h0:(QA [Xw e,Qu 2] v).1=0)(d:Int) :Vok e { (QA [Xw e,Qu 2] v).2 with dl:=d}:=by
 obtain ⟨h1,h2⟩:=RA h0;rw [h2];exact ⟨⟨h.fit.1,rfl⟩,fun h=>absurd h ZI,fun _=> .inl (h.lo (.inr h1)).1,fun h=>absurd h ZI,fun h=>absurd h ZI,h.w⟩
theorem NJ (h:(LU v e c).1=0) :v.sl=false∧((v.st=2∨v.st=3)∧(LU v e c).2.st=3∨(v.st=4∨v.st=5)∧(LU v e c).2.st=4)∧
  (LU v e c).2.ex=v.ex∧(LU v e c).2.wd=max v.wd (e+c 11)∧(LU v e c).2.bal=v.bal - penQ v c:=by
 unfold LU at h ⊢;rw [show Vs v e (c 11)=Vs { v with bal:=v.bal - penQ v c} e (c 11) from rfl] at h ⊢
 by_cases h1:v.sl=true
 ·exact r7
 ·have h1:v.sl=false:=by simpa using h1
  by_cases h2:JC v.st 7=0
  ·exact rY
  ·by_cases h3:O8 e (c 11)
   ·rw [q9 (v:= { v with bal:=v.bal - penQ v c}) h1 h2 h3];exact ⟨h1,fC h2,rfl,rfl,rfl⟩
   ·exact rW
theorem me (h:(LU v e c).1=0) :O8 e (c 11):=by
 unfold LU at h;rw [show Vs v e (c 11)=Vs { v with bal:=v.bal - penQ v c} e (c 11) from rfl] at h
 by_cases h1:v.sl=true
 ·exact r7
 ·have h1:v.sl=false:=by simpa using h1
  by_cases h2:JC v.st 7=0
  ·exact rY
  ·by_cases h3:O8 e (c 11)
   ·exact h3
   ·exact rW
theorem mf (h:Vok e v)(h0:(LU v e c).1=0)(hc:0 < c 11) :Vok e (LU v e c).2:=by
 obtain ⟨h1,h2,h3,h4,h5⟩:=NJ h0;refine ⟨Tn h.fit h0,fun h=>by rcases h2 with h2 | h2 <;> omega,fun h6=>?_,fun h6=>by rw [h4]; omega,fun h6=>by rcases h2 with h2 | h2 <;> omega,by have:=(me h0).2; have:=h.w; rw [h4]; omega⟩
 rcases h2 with ⟨h2 | h2,h7⟩ | h2
 ·exact .inl (h3.trans (h.lo (.inr h2)).1)
 ·rw [h3,h4]
  rcases h.s3 h2 with h8 | h8
  ·exact .inl h8
  ·exact .inr ⟨h8.1,by omega⟩
 ·omega
theorem LL (h:Vok e v)(he:0≤e) :Vok (e+1) (ripenV (e+1) (leaveV (e+1) v))∧((ripenV (e+1) (leaveV (e+1) v)).st=3→(ripenV (e+1) (leaveV (e+1) v)).ex= -1)∧(ripenV (e+1) (leaveV (e+1) v)).bal=v.bal:=by
 obtain ⟨hf,h2,h3,h4,h5,h6⟩:=h;unfold leaveV
 by_cases c1:v.st=3∧v.ex=e+1
 ·rw [if_pos c1];unfold ripenV;have hw:e+1 < v.wd:=by
   rcases h3 c1.1 with h | h
   ·omega
   ·exact h.2
  rw [if_neg LD];exact ⟨⟨⟨hf.1,rfl⟩,fun h=>absurd h ZI,fun h=>absurd h ZI,fun _=>hw,fun h=>absurd h ZI,h6⟩,fun h=>absurd h ZI,rfl⟩
 ·rw [if_neg c1];unfold ripenV
  by_cases c2:v.st=4∧v.wd≤e+1
  ·rw [if_pos c2];exact ⟨⟨⟨hf.1,rfl⟩,fun h=>absurd h ZI,fun h=>absurd h ZI,fun h=>absurd h ZI,fun _=>c2.2,h6⟩,fun h=>absurd h ZI,rfl⟩
  ·rw [if_neg c2];refine ⟨⟨hf,h2,fun h=> .inl ?_,fun h=>by omega,fun h=>by have:=h5 h; omega,h6⟩,fun h=>?_,rfl⟩
   all_goals
    rcases h3 h with k | k
    ·exact k
    ·exact absurd ⟨h,k.1⟩ c1
theorem Su {p:Int} :(isPd v→isPd (ripenV p (leaveV p v)))∧(0≤p→DM v→DM (ripenV p (leaveV p v))):=by
 refine ⟨fun h=>?_,fun h0 h=>?_⟩
 ·unfold isPd at*;exact zA
 ·unfold DM at*;exact zA
theorem gX (h:Vok e v)(hq:DM v)(hl:O8 (e+1) (c 10))(hc:0 < c 10) :(QA [XN (e+1),Q9 (e+1) (c 10)] v).1=0∧Vok e (QA [XN (e+1),Q9 (e+1) (c 10)] v).2∧
  (QA [XN (e+1),Q9 (e+1) (c 10)] v).2= { v with ex:=e+1,wd:=max v.wd (e+1+c 10)}:=by
 rw [A4 hq hl];exact ⟨rfl,⟨h.fit,fun k=>by have:=hq.1; simp only at k; omega,fun _=> .inr ⟨rfl,by simp only; omega⟩,fun k=>by have:=hq.1; simp only at k; omega,fun k=>by have:=hq.1; simp only at k; omega,by have:=hl.2; have:=h.w; simp only; omega⟩,rfl⟩
theorem ZaF (h:Vok e v)(hp:isPd v) :NZ 1 v= { v with st:=2}∧Vok e (NZ 1 v):=by
 have e1:NZ 1 v= { v with st:=2}:=by unfold NZ; rw [show v.st=1 from hp]; rfl
 rw [e1];exact ⟨rfl,⟨h.fit.1,rfl⟩,fun _=>h.lo (.inl hp),fun k=>absurd k ZI,fun k=>absurd k ZI,fun k=>absurd k ZI,h.w⟩
theorem P5 (h5:v.st=5)(hw:v.wd≤e) :Hx e v=(0,{ v with bal:=0,st:=6})∧WR e v=v.bal:=by
 have h1:Hx e v=(0,{ v with bal:=0,st:=6}):=by
  unfold Hx;rw [ZbU (v:= { v with bal:=v.bal - v.bal}) h5 hw,Int.sub_self]
 exact ⟨h1,by unfold WR; rw [h1]; rfl⟩
theorem az (hw:v.wd≤1099511627776) :Vok e { v with bal:=0,st:=6}:=
 ⟨⟨gh ZI ZI,rfl⟩,fun k=>absurd k ZI,fun k=>absurd k ZI,fun k=>absurd k ZI,fun k=>absurd k ZI,hw⟩
end
section
open Go Go.RowKit
structure cS (e:Int)(V W:List Yd) :Prop where
 len:W.length=V.length
 vok: ∀v ∈ W,Vok e v
 pd: ∀i,Bm V isPd i→Bm W isPd i
 qd: ∀i,Bm V DM i→Bm W DM i
theorem cS.refl {e:Int}{V:List Yd}(h: ∀v ∈ V,Vok e v) :cS e V V:=⟨rfl,h,fun _ h=>h,fun _ h=>h⟩
theorem cS.trans {e:Int}{U V W:List Yd}(h:cS e U V)(k:cS e V W) :cS e U W:=
 ⟨k.len.trans h.len,k.vok,fun i hi=>k.pd i (h.pd i hi),fun i hi=>k.qd i (h.qd i hi)⟩
theorem vK {V:List Yd}{v:Yd}(h:v ∈ V) : ∃n:Nat,V[n]?=some v:=Uq h
theorem AE {V:List Yd}{f:Yd→Yd}(h: ∀v ∈ V,(f v).bal=v.bal) :Zz (V.map f)=Zz V:=by
 induction V with
 | nil=>rfl
 | cons v V ih=>
  simp only [Y2,Zz];rw [h v ZI,ih (fun x hx=>h x Bj)]
section
variable {e:Int} {V:List Yd} {c:Nat→Int}
theorem nN (e:Int)(V:List Yd) :(V.map (leaveV e)).map (ripenV e)=V.map fun v=>ripenV e (leaveV e v):=by rw [VP]; rfl
theorem A9 (h: ∀v ∈ V,Vok e v)(he:0≤e) :cS (e+1) V ((V.map (leaveV (e+1))).map (ripenV (e+1)))∧Zz ((V.map (leaveV (e+1))).map (ripenV (e+1)))=Zz V∧
  ∀v ∈ (V.map (leaveV (e+1))).map (ripenV (e+1)),v.st=3→v.ex= -1:=by
 rw [nN];refine ⟨⟨by simp,fun v hv=>?_,fun i hi=>hi.map fun v=>Su.1,fun i hi=>hi.map fun v=>Su.2 Ze⟩,AE fun v hv=>(LL (h v hv) he).2.2,fun v hv=>?_⟩
 ·obtain ⟨u,hu,rfl⟩:=Yk.1 hv;exact (LL (h u hu) he).1
 ·obtain ⟨u,hu,rfl⟩:=Yk.1 hv;exact (LL (h u hu) he).2.1
theorem UG (V:List Yd) :Zz V=(Jz V).sum:=by
 induction V with
 | nil=>rfl
 | cons v V ih=>simp only [Zz,ih,Jz,Y2,List.sum_cons]
theorem IV {V:List Yd}{n:Nat}{v v':Yd}(hv:V[n]?=some v)(h:v'.bal=v.bal) :Jz (V.set n v')=Jz V:=by
 apply Vb;intro i;unfold Jz;rw [ZP,ZP]
 by_cases hi:n=i
 ·subst hi;rw [YN (Zi.1 hv).1,hv];simp [h]
 ·rw [YB hi]
theorem RH (hl:O8 (e+1) (c 10))(hc:0 < c 10) : ∀(q:List (Int × Int)) (V:List Yd),(∀v ∈ V,Vok e v)→(q.map (·.1)).Nodup→(∀p ∈ q,Bm V DM p.1)→
  (DL c (e+1) V q).length=V.length∧(∀v ∈ DL c (e+1) V q,Vok e v)∧Jz (DL c (e+1) V q)=Jz V∧(∀i,Bm V isPd i→Bm (DL c (e+1) V q) isPd i)∧
  (∀i,i ∉ q.map (·.1)→Bm V DM i→Bm (DL c (e+1) V q) DM i)
 | [],V,h,_,_=>⟨rfl,h,rfl,fun _ h=>h,fun _ _ h=>h⟩
 | p::q,V,h,hn,hq=>by
  obtain ⟨n,v,N0,hv,hqd⟩:=hq p ZI;have ha:Ub V p.1=v:=by rw [N0]; exact My hv
  rw [Y2,Qx] at hn;obtain ⟨k0,k1,k2⟩:=gX (h v (QM hv)) hqd hl hc;have e1:p.1.toNat=n:=by omega
  unfold DL;rw [ha,e1];have hb:Jz (V.set n (QA [XN (e+1),Q9 (e+1) (c 10)] v).2)=Jz V:=IV hv (by rw [k2]);have hnp: ¬isPd v:=fun h=>by have:=hqd.1; unfold isPd at h; omega
  obtain ⟨i1,i2,i3,i4,i5⟩:=RH hl hc q (V.set n (QA [XN (e+1),Q9 (e+1) (c 10)] v).2) (Gw h k1) hn.2 (fun p' cY=>(hq p' (by simp [cY])).set_ne (fun he=>hn.1 (by
   rw [N0,←he];exact JR cY)))
  refine ⟨i1.trans ZI,i2,i3.trans hb,fun i hi=>i4 i (hi.set hv fun h=>absurd h hnp),fun i sW hi=>?_⟩;rw [Y2,ZY] at sW;exact i5 i (fun h=>sW (.inr h)) (hi.set_ne (fun h=>sW (.inl (h.trans N0.symm))))
theorem Cm: ∀(q:List Int) (V:List Yd),(∀v ∈ V,Vok e v)→q.Nodup→(∀i ∈ q,Bm V isPd i)→
  (P3 1 V q).length=V.length∧(∀v ∈ P3 1 V q,Vok e v)∧Jz (P3 1 V q)=Jz V∧(∀i,Bm V DM i→Bm (P3 1 V q) DM i)∧(∀i,i ∉ q→Bm V isPd i→Bm (P3 1 V q) isPd i)
 | [],V,h,_,_=>⟨rfl,h,rfl,fun _ h=>h,fun _ _ h=>h⟩
 | x::q,V,h,hn,hq=>by
  obtain ⟨n,v,N0,hv,yU⟩:=hq x ZI;have ha:Ub V x=v:=by rw [N0]; exact My hv
  rw [Qx] at hn;obtain ⟨k1,k2⟩:=ZaF (h v (QM hv)) yU;have e1:x.toNat=n:=by omega
  unfold P3;rw [ha,e1];have hb:Jz (V.set n (NZ 1 v))=Jz V:=IV hv (by rw [k1]);have vk: ¬DM v:=fun h=>by have:=h.1; unfold isPd at yU; omega
  obtain ⟨i1,i2,i3,i4,i5⟩:=Cm q (V.set n (NZ 1 v)) (Gw h k2) hn.2 (fun i hi=>(hq i FU).set_ne (fun he=>hn.1 (by rw [N0,←he]; exact hi)));refine ⟨i1.trans ZI,i2,i3.trans hb,fun i hi=>i4 i (hi.set hv fun h=>absurd h vk),fun i sW hi=>?_⟩;rw [ZY] at sW;exact i5 i (fun h=>sW (.inr h)) (hi.set_ne (fun h=>sW (.inl (h.trans N0.symm))))
theorem vL (mb:Int)(q:List (Int × Int))(h: ∀v ∈ V,Vok e v) :cS e V (Ki mb V q)∧Zz (Ki mb V q)=Zz V:=by
 refine ⟨?_,(Tq mb q V).1⟩;refine LW mb (I:=fun W=>cS e V W) ?_ q V (cS.refl h);intro l i j s d hl KF hi hj hc;obtain ⟨mX,ve,_,_,_,_⟩:=RV hc;obtain ⟨f1,f2⟩:=ik (hl.vok s (QM hi)).fit (hl.vok d (QM hj)).fit hc;have kd:=hl.vok d (QM hj);have O3:(l.set i (Fj s))[j]?=some d:=by exact jC
 refine hl.trans ⟨by simp,Gw (Gw hl.vok ⟨f1,?_,?_,?_,?_,?_⟩) ⟨f2,kd.lo,kd.s3,kd.s4,kd.s5,kd.w⟩,fun x hx=>?_,fun x hx=>?_⟩
 ·simp only [Fj]; omega
 ·simp only [Fj]; omega
 ·simp only [Fj]; omega
 ·simp only [Fj]; omega
 ·exact (hl.vok s (QM hi)).w
 ·exact (hx.set hi (fun h=>by unfold isPd at h; omega)).set O3 (fun h=>by unfold isPd at h; omega)
 ·exact (hx.set hi (fun h=>by have:=h.1; omega)).set O3 (fun h=>by have:=h.1; omega)
end
section
variable {e:Int} {V:List Yd} {mb:Int}
def UF:List Py→Int
 | []=>0
 | p::q=>p.am+UF q
theorem Lu (a b:List Py) :UF (a++b)=UF a+UF b:=by
 induction a with
 | nil=>simp [UF]
 | cons p a ih=>simp only [Yh,UF,ih]; omega
theorem rj (i x:Int) :UF (Le i x)=x:=by
 unfold Le
 split
 ·rename_i h; simp [UF,h]
 ·simp [UF]
theorem lH {l:List Yd}(r:Rq)(mb:Int) :Zz (EZ l r mb)=Zz l - NB l r mb:=by
 by_cases h:Uz r l.length=true
 ·obtain ⟨i,v,hi,hv⟩:=aQ h;obtain ⟨_,h2,h3⟩:=fi mb hi hv;rw [h2,h3,J3 hv];simp only [Mx];omega
 ·unfold EZ NB;rw [if_neg h,if_neg h];omega
theorem FM (mb:Int) : ∀(q:List Rq) (l:List Yd),Zz (XQ mb l q)=Zz l - UF (Ks mb l q)
 | [],l=>by simp [XQ,Ks,UF]
 | r::q,l=>by
  unfold XQ Ks;rw [FM mb q,lH,Lu,rj];omega
theorem wj (hm:0≤mb)(q:List Rq)(hq: ∀r ∈ q,Ga r)(h: ∀v ∈ V,Vok e v) :cS e V (XQ mb V q):=by
 have hf: ∀v ∈ V,Yo v:=fun v hv=>(h v hv).fit
 obtain ⟨h1,_⟩:=DH mb hm q V hq hf;have hlen:=De mb q V;have back: ∀(n:Nat) (v':Yd),(XQ mb V q)[n]?=some v'→ ∃(v:Yd) (x:Int),V[n]?=some v∧v'= { v with bal:=v.bal - x}:=fun n v' vy=>by
  exact Zf1
 have yz: ∀(p:Yd→Prop),(∀v x,p v→p { v with bal:=v.bal - x})→ ∀i,Bm V p i→Bm (XQ mb V q) p i:=fun p hp i ⟨n,v,hi,hv,hpv⟩=>by
  obtain ⟨u,hu,kU,_⟩:=h1 n v hv;exact ⟨n,u,hi,hu,by rw [kU]; exact hp v _ hpv⟩
 refine ⟨hlen,fun v' vy=>?_,yz isPd fun v x h=>h,yz DM fun v x h=>h⟩;obtain ⟨n,hn⟩:=vK vy;obtain ⟨v,x,hv,rfl⟩:=back n v' hn;have k:=h v (QM hv);exact ⟨Ex mb hm q V hq hf _ vy,k.lo,k.s3,k.s4,k.s5,k.w⟩
def MF (e:Int)(v:Yd) :Prop:=v.st=5∧v.wd≤e
theorem EP: ∀(q:List Nat) (V:List Yd),(∀v ∈ V,Vok e v)→q.Nodup→(∀i ∈ q,Bm V (MF e) (i:Nat))→
  cS e V (Jl e V q)∧Zz (Jl e V q)=Zz V - Vk (Qi e V q)∧(∀p ∈ Qi e V q,0≤p.am∧p.fl=true)
 | [],V,h,_,_=>⟨cS.refl h,by simp [Jl,Qi,Vk],fun p hp=>by simp [Qi] at hp⟩
 | x::q,V,h,hn,hq=>by
  obtain ⟨n,v,N0,hv,hr⟩:=hq x ZI;obtain rfl:x=n:=by omega
  rw [Qx] at hn;have ha:V.getD x ZZ=v:=VT hv;obtain ⟨f1,f2⟩:=P5 hr.1 hr.2;unfold Jl Qi;rw [ha,f1,f2];have hb:=(h v (QM hv)).fit.bal;obtain ⟨i1,i2,i3⟩:=EP q (V.set x { v with bal:=0,st:=6}) (Gw h (az (h v (QM hv)).w)) hn.2 (fun i hi=>(hq i FU).set_ne (fun he=>hn.1 (by
   obtain rfl:i=x:=by omega
   exact hi)))
  refine ⟨cS.trans ⟨by simp,Gw h (az (h v (QM hv)).w),fun i hi=>hi.set hv fun k=>?_,fun i hi=>hi.set hv fun k=>?_⟩ i1,?_,fun p hp=>?_⟩
  ·have:=hr.1; unfold isPd at k; omega
  ·have:=hr.1; have:=k.1; omega
  ·rw [i2,J3 hv];simp only [Vk];omega
  ·rcases ZY.1 hp with rfl | hp
   ·exact ⟨hb.1,rfl⟩
   ·exact i3 p hp
end
end
section
open Go Go.RowKit
structure GE (c:Nat→Int) :Prop where
 g:Good c
 gc:IB c
 q0:1≤c 1
 q1:c 1≤4096
 a2:1≤c 2
 a23:c 2≤c 3
 a3:c 3≤c 4
 a4:c 4≤1152921504606846976
 m5:1≤c 5
 q8:1≤c 8
 m17:0≤c 17
 r0:1≤c 12
 r1:c 12≤4096
theorem LI {c:Nat→Int}(hf:AQ c)(h:RU c=0) :GE c:=by
 have g:=aA hf h;have gc:=Cp hf h
 rcases Oc c with ⟨_,hb⟩ | ⟨k,_,_,_,e⟩
 ·have h1:=VE (hb 1 Ze);have h2:decide (1≤c 2)=true:=hb 2 Ze;have h3:decide (c 2≤c 3)=true:=hb 3 Ze;have h4:=VE (hb 4 Ze);have h5:=VE (hb 5 Ze);have h8:decide (1≤c 8)=true:=hb 8 Ze;have TR:=VE (hb 12 Ze);have h17:=VE (hb 17 Ze);simp at h2 h3 h8;unfold bz at h4;exact ⟨g,gc,h1.1,h1.2,h2,h3,h4.1,h4.2,h5.1,h8,h17.1,TR.1,TR.2⟩
 ·omega
structure Inv (c:Nat→Int)(k:Nat)(s:Sg) :Prop where
 len:(s.V.length:Int)≤c 0
 vok: ∀v ∈ s.V,Vok s.ep v
 sum:Zz s.V+s.P+s.B=s.D
 p0:0≤s.P
 b0:0≤s.B
 d1:s.D≤18446744073709551615
 cap:s.D - s.P - s.B≤c 4
 pdl:(s.pd.length:Int)≤c 1
 fl:(s.F.length:Int)≤c 1
 wl:(s.W.length:Int)≤c 1
 mgl:(s.mg.length:Int)≤c 1
 ptl:(s.pt.length:Int)≤c 1
 pdx: ∀i ∈ s.pd,Bm s.V isPd i
 pdn:s.pd.Nodup
 lnx: ∀i ∈ s.F++s.W,Bm s.V DM i
 lnn:(s.F++s.W).Nodup
 ptf: ∀r ∈ s.pt,Ga r
 cu:s.cu≤s.V.length
 cy0:0≤s.cy
 cy1:s.cy≤18446744073709551615
 bk0:0≤s.bk
 bk1:s.bk≤k
 ep0:0≤s.ep
 ep1:s.ep≤s.bk
 epq:s.ep=s.bk/c 13
theorem inv0 {c:Nat→Int}(hc:GE c) :Inv c 0 fP:=by
 have:=hc.g.cap0;have:=hc.q0;have:=hc.a2;have:=hc.a23;have:=hc.a3;refine ⟨?_,?_,rfl,?_,?_,?_,?_,?_,?_,?_,?_,?_,?_,?_,?_,?_,?_,?_,?_,?_,?_,?_,?_,?_,?_⟩
 all_goals first | (simp [fP]; done) | (simp [fP]; omega)
section
variable {c:Nat→Int} {k:Nat} {s:Sg}
theorem Inv.fits (h:Inv c k s) : ∀v ∈ s.V,Yo v:=fun v hv=>(h.vok v hv).fit
theorem Inv.total (h:Inv c k s)(hc:GE c) :0≤Zz s.V∧Zz s.V≤c 4∧Zz s.V≤1152921504606846976:=by
 have:=Ka h.fits;have:=h.sum;have:=h.cap;have:=hc.a4;omega
theorem Inv.next (h:Inv c k s) :Inv c (k+1) s:= { h with bk1:=by have:=h.bk1; omega}
theorem MI {l:List Int}{x:Int}(h:l.Nodup)(hx:x ∉ l) :(l++[x]).Nodup:=by
 rw [Jg];exact ⟨h,by simp,fun a ha b hb=>by rw [YV] at hb; subst hb; exact fun e=>hx (e▸ha)⟩
theorem uD (hc:GE c)(h:Inv c k s){x:Int}(h0:PF c s x=0) :Inv c (k+1) (Hr s x):=by
 unfold PF at h0
 by_cases c1:x < c 2∨c 3 < x
 ·rw [if_pos c1] at h0; simp at h0
 rw [if_neg c1] at h0
 by_cases c2:c 0≤(s.V.length:Int)
 ·rw [if_pos c2] at h0; simp at h0
 rw [if_neg c2] at h0
 by_cases c3:c 1≤(s.pd.length:Int)
 ·rw [if_pos c3] at h0; simp at h0
 rw [if_neg c3] at h0
 by_cases c4:c 4 -(s.D - s.P - s.B)< x
 ·rw [if_pos c4] at h0; simp at h0
 rw [if_neg c4] at h0
 by_cases c5:18446744073709551615 < s.D+x
 ·rw [if_pos c5] at h0; simp at h0
 have a2:=hc.a2;have a3:=hc.a3;have a4:=hc.a4;have pr:Bm (s.V++[MH x]) isPd (s.V.length:Int):=⟨s.V.length,MH x,rfl,by simp,rfl⟩;refine { h with len:=?_,vok:=?_,sum:=?_,d1:=?_,cap:=?_,pdl:=?_,pdx:=?_,pdn:=?_,lnx:=?_,cu:=?_,bk1:=?_}
 ·simp only [Hr,ZE,Y1]; omega
 ·intro v hv;simp only [Hr,YG,YV] at hv
  rcases hv with hv | rfl
  ·exact h.vok v hv
  ·exact qi Ze Ze
 ·simp only [Hr];rw [Bg];have:=h.sum;simp only [Zz,MH];omega
 ·simp only [Hr]; omega
 ·simp only [Hr]; omega
 ·simp only [Hr,ZE,Y1]; omega
 ·intro i hi;simp only [Hr,YG,YV] at hi ⊢
  rcases hi with hi | rfl
  ·exact (h.pdx i hi).append
  ·exact pr
 ·exact MI h.pdn fun hm=>by have:=(h.pdx _ hm).lt; omega
 ·exact fun i hi=>(h.lnx i hi).append
 ·simp only [Hr,ZE,Y1]; have:=h.cu; omega
 ·have:=h.bk1; simp only [Hr]; omega
theorem ig {i cl:Int}(h0:mM c s i cl=0) :Et s.V i=false∧(AY s (Ub s.V i)).1=0∧((U4 s.F s.W cl).length:Int)< c 1∧ ∃d,R0 c s cl (Ub s.V i)=some d:=by
 unfold mM at h0
 by_cases c1:Et s.V i=true
 ·rw [if_pos c1] at h0; simp at h0
 rw [if_neg c1] at h0
 by_cases c2:(AY s (Ub s.V i)).1≠0
 ·rw [if_pos c2] at h0; exact absurd h0 c2
 rw [if_neg c2] at h0
 by_cases c3:c 1≤((U4 s.F s.W cl).length:Int)
 ·rw [if_pos c3] at h0; simp at h0
 rw [if_neg c3] at h0
 by_cases c4:R0 c s cl (Ub s.V i)=none
 ·rw [if_pos c4] at h0; simp at h0
 exact ⟨by simpa using c1,by simpa using c2,by omega,Option.ne_none_iff_exists'.1 c4⟩
theorem Ag {F W:List Int}{x:Int}(h:(F++W).Nodup)(hx:x ∉ F++W) :(F++[x]++W).Nodup:=by
 rw [XU,List.singleton_append];exact List.perm_middle.nodup_iff.2 (Qx.2 ⟨hx,h⟩)
theorem oK (hc:GE c)(h:Inv c k s){i cl:Int}(ES:cl=0∨cl=1)(h0:mM c s i cl=0) :Inv c (k+1) (P4 c s i cl):=by
 obtain ⟨c1,c2,c3,_⟩:=ig h0;obtain ⟨n,WU,hv⟩:=Bb c1;have q0:=hc.q0;generalize hy:Ub s.V i=v at*;obtain ⟨Um,o8⟩:=RA (e:=s.ep) (v:=v) c2;have PJ:=tV (h.vok v (QM hv)) c2 (yy c s i cl);have e1:i.toNat=n:=by omega
 have sW:i ∉ s.F++s.W:=fun hm=>by
  exact Zgm
 have hV:(P4 c s i cl).V=s.V.set n { (QA [Xw s.ep,Qu 2] v).2 with dl:=yy c s i cl}:=by
  simp only [P4,e1,hy];rfl
 have hme:Bm (P4 c s i cl).V DM i:=⟨n,_,WU,by rw [hV,YN (Zi.1 hv).1],by rw [o8]; exact ⟨rfl,((h.vok v (QM hv)).lo (.inr Um)).1⟩⟩;have hold: ∀j ∈ s.F++s.W,Bm (P4 c s i cl).V DM j:=fun j hj=>by
  rw [hV];exact (h.lnx j hj).set hv fun hq=>by have:=hq.1; omega
 have hFW:((P4 c s i cl).F=s.F++[i]∧(P4 c s i cl).W=s.W∧(s.F.length:Int)< c 1)∨((P4 c s i cl).F=s.F∧(P4 c s i cl).W=s.W++[i]∧(s.W.length:Int)< c 1):=by
  rcases ES with rfl | rfl
  ·have:s.F.length < (c 1).toNat:=by simp only [U4,if_true] at c3; omega
   exact .inl ⟨by simp [P4,pushF,this],by simp [P4,pushV],by omega⟩
  ·have:s.W.length < (c 1).toNat:=by simp [U4] at c3; omega
   exact .inr ⟨by simp [P4,pushF],by simp [P4,pushV,this],by omega⟩
 refine ⟨?_,?_,?_,h.p0,h.b0,h.d1,h.cap,h.pdl,?_,?_,h.mgl,h.ptl,?_,h.pdn,?_,?_,h.ptf,?_,h.cy0,h.cy1,h.bk0,?_,h.ep0,h.ep1,h.epq⟩
 ·rw [hV,Xt]; exact h.len
 ·rw [hV]; exact Gw h.vok PJ
 ·rw [hV,J3 hv,o8];have:=h.sum;simp only [P4];omega
 ·rcases hFW with ⟨e2,e3,h4⟩ | ⟨e2,e3,h4⟩
  ·rw [e2,ZE,Y1]; omega
  ·rw [e2]; exact h.fl
 ·rcases hFW with ⟨e2,e3,h4⟩ | ⟨e2,e3,h4⟩
  ·rw [e3]; exact h.wl
  ·rw [e3,ZE,Y1]; omega
 ·exact zy
 ·intro j hj
  by_cases Mj:j=i
  ·subst Mj; exact hme
  ·refine hold j ?_
   rcases hFW with ⟨e2,e3,h4⟩ | ⟨e2,e3,h4⟩
   ·rw [e2,e3] at hj;simp only [YG,YV] at hj ⊢;exact zC
   ·rw [e2,e3] at hj;simp only [YG,YV] at hj ⊢
    rcases hj with hj | hj | hj
    ·exact .inl hj
    ·exact .inr hj
    ·exact absurd hj Mj
 ·rcases hFW with ⟨e2,e3,h4⟩ | ⟨e2,e3,h4⟩
  ·rw [e2,e3]; exact Ag h.lnn sW
  ·rw [e2,e3,←XU]; exact MI h.lnn sW
 ·rw [hV,Xt]; exact h.cu
 ·have:=h.bk1; simp only [P4]; omega
theorem iY {i:Int}(h0:Iz c s i=0) :Et s.V i=false∧(LU (Ub s.V i) s.ep c).1=0∧((Ub s.V i).st=2→(s.F.length:Int)< c 1):=by
 unfold Iz at h0
 by_cases c1:Et s.V i=true
 ·rw [if_pos c1] at h0; simp at h0
 rw [if_neg c1] at h0
 by_cases c2:(LU (Ub s.V i) s.ep c).1≠0
 ·rw [if_pos c2] at h0; exact absurd h0 c2
 rw [if_neg c2] at h0
 by_cases c3:(Ub s.V i).st=2∧c 1≤(s.F.length:Int)
 ·rw [if_pos c3] at h0; simp at h0
 exact ⟨by simpa using c1,by simpa using c2,fun h=>by omega⟩
theorem Zca (hc:GE c)(h:Inv c k s){i:Int}(h0:Iz c s i=0) :Inv c (k+1) (MZ c s i):=by
 obtain ⟨c1,c2,c3⟩:=iY h0;obtain ⟨n,WU,hv⟩:=Bb c1;generalize hy:Ub s.V i=v at*;have s11:=hc.g.sla0;have s10:=hc.g.unb0;obtain ⟨mY,Um,hex,ei,hba⟩:=NJ c2;have PJ:=mf (h.vok v (QM hv)) c2 Ze;have e1:i.toNat=n:=by omega
 obtain ⟨p0,p1⟩:=LN c (h.vok v (QM hv)).fit;have hN:tf v s.ep c=penQ v c:=by unfold tf; rw [if_pos c2]
 have hV:(MZ c s i).V=s.V.set n (LU v s.ep c).2:=by simp only [MZ,e1,hy]
 have hB:(MZ c s i).B=s.B+penQ v c:=by simp only [MZ,hy,hN]
 have hF:(MZ c s i).F=if v.st=2 then s.F++[i] else s.F:=by simp only [MZ,hy]
 have hold: ∀j ∈ s.F++s.W,Bm (MZ c s i).V DM j:=fun j hj=>by
  rw [hV];refine (h.lnx j hj).set hv fun hq=>⟨?_,hex.trans hq.2⟩
  have:=hq.1
  rcases Um with ⟨_,h1⟩ | ⟨h1,_⟩
  ·exact h1
  ·omega
 refine ⟨?_,?_,?_,h.p0,?_,h.d1,?_,h.pdl,?_,h.wl,h.mgl,h.ptl,?_,h.pdn,?_,?_,h.ptf,?_,h.cy0,h.cy1,h.bk0,?_,h.ep0,h.ep1,h.epq⟩
 ·rw [hV,Xt]; exact h.len
 ·rw [hV]; exact Gw h.vok PJ
 ·rw [hV,J3 hv,hB,hba];have:=h.sum;simp only [MZ];omega
 ·rw [hB]; have:=h.b0; omega
 ·rw [hB]; have:=h.cap; simp only [MZ]; omega
 ·rw [hF]
  split
  ·rename_i h2; have:=c3 h2; rw [ZE,Y1]; omega
  ·exact h.fl
 ·exact zy
 ·intro j hj
  by_cases h2:v.st=2
  ·rw [hF,if_pos h2] at hj
   by_cases Mj:j=i
   ·subst Mj;refine ⟨n,_,WU,by rw [hV,YN (Zi.1 hv).1],?_,hex.trans ((h.vok v (QM hv)).lo (.inr h2)).1⟩
    rcases Um with ⟨_,h1⟩ | ⟨h1,_⟩
    ·exact h1
    ·omega
   ·refine hold j ?_;simp only [MZ,YG,YV] at hj ⊢;exact zC
  ·rw [hF,if_neg h2] at hj;exact hold j hj
 ·by_cases h2:v.st=2
  ·rw [hF,if_pos h2];refine Ag h.lnn fun hm=>?_
   exact Zgm
  ·rw [hF,if_neg h2]; exact h.lnn
 ·rw [hV,Xt]; exact h.cu
 ·have:=h.bk1; simp only [MZ]; omega
theorem Zau (h:Inv c k s){p:Int × Int}(h0:sO c s p=0) :Inv c (k+1) { s with mg:=s.mg++[p]}:=by
 unfold sO at h0
 by_cases c1:DO s.V p (c 6)≠0
 ·rw [if_pos c1] at h0; exact absurd h0 c1
 rw [if_neg c1] at h0
 by_cases c2:c 1≤(s.mg.length:Int)
 ·rw [if_pos c2] at h0; simp at h0
 exact { h with mgl:=by simp only [ZE,Y1]; omega,bk1:=by have:=h.bk1; simp only; omega}
theorem ZbT (h:Inv c k s){r:Rq}(hr:Ga r)(h0:vU c s r=0) :Inv c (k+1) { s with pt:=s.pt++[r]}:=by
 unfold vU at h0
 by_cases c1:Ob s.V r≠0
 ·rw [if_pos c1] at h0; exact absurd h0 c1
 rw [if_neg c1] at h0
 by_cases c2:c 1≤(s.pt.length:Int)
 ·rw [if_pos c2] at h0; simp at h0
 have hp: ∀x ∈ s.pt++[r],Ga x:=fun x hx=>by
  simp only [YG,YV] at hx
  rcases hx with hx | rfl
  ·exact h.ptf x hx
  ·exact hr
 exact { h with ptl:=by simp only [ZE,Y1]; omega,ptf:=hp,bk1:=by have:=h.bk1; simp only; omega}
end
end
section
open Go Go.RowKit
theorem IP (om:Int→Int)(F W:List Int)(B:Int) :((DK om F W B).1.map (·.1)++((DK om F W B).2.1++(DK om F W B).2.2.1)).Perm (F++W):=by
 refine LH (P:=fun F W B r=>(r.1.map (·.1)++(r.2.1++r.2.2.1)).Perm (F++W)) (fun B=> .refl _) (fun F W B _ _=> .refl _) (fun F W B r hb hx ih=>?_) _ F W B rfl;rw [Y2,Yh]
 match F,W,hb with
 | x::F,W,_=>exact ih.cons x
 | [],x::W,_=>exact ih.cons x
theorem gW (om:Int→Int)(F W:List Int)(B:Int) :(DK om F W B).2.1.length≤F.length∧(DK om F W B).2.2.1.length≤W.length:=
 LH (P:=fun F W B r=>r.2.1.length≤F.length∧r.2.2.1.length≤W.length) (fun B=>⟨Zg _,Zg _⟩) (fun F W B _ _=>⟨Zg _,Zg _⟩) (fun F W B r hb hx ih=>⟨Z9 ih.1 (qE F W).1,Z9 ih.2 (qE F W).2⟩) _ F W B rfl
theorem iq (L:List Bool)(s:Nat)(v p:Int) : ∀(f k:Nat),L.length≤k+f→(∀j,j < k→(j:Int)< v∧j < L.length∧((J4 L s j).length:Int)< p)→M6 L s v p (goN L s v p f k)
 | 0,k,hf,h=>⟨.inr (.inl (show L.length≤k by omega)),h⟩
 | f+1,k,hf,h=>by
  unfold goN
  by_cases hc:v≤(k:Int)∨L.length≤k∨p≤((J4 L s k).length:Int)
  ·rw [if_pos hc]; exact ⟨hc,h⟩
  ·rw [if_neg hc];refine iq L s v p f (k+1) Ze fun j hj=>?_
   rcases Ys j k with EU | EU
   ·exact h j EU
   ·obtain rfl:j=k:=by omega
    omega
theorem Re (L:List Bool)(s:Nat)(v p:Int) :M6 L s v p (F8 L s v p):=iq L s v p L.length 0 Ze (fun j hj=>by omega)
section
variable {c:Nat→Int} {k:Nat} {s:Sg}
theorem u5 {V:List Yd}{p:Yd→Prop}{n:Nat}{v:Yd}(hv:V[n]?=some v)(h:p v) :Bm V p (n:Int):=⟨n,v,rfl,hv,h⟩
def Qb (s:Sg) :Sg:= { s with bk:=s.bk+1,ep:=s.ep+1}
theorem Zaq (hc:GE c)(h:Inv c k s) :0≤Yy (BO (Qb s))∧Yy (BO (Qb s))≤18446744073709551615∧Zz (BO (Qb s))=Zz s.V∧(BO (Qb s)).length=s.V.length∧(∀v ∈ BO (Qb s),Yo v):=by
 obtain ⟨g1,g2,_⟩:=A9 h.vok h.ep0;have e:BO (Qb s)=(s.V.map (leaveV (s.ep+1))).map (ripenV (s.ep+1)):=rfl;rw [e];have hf: ∀v ∈ (s.V.map (leaveV (s.ep+1))).map (ripenV (s.ep+1)),Yo v:=fun v hv=>(g1.vok v hv).fit
 obtain ⟨a1,a2⟩:=Dh hf;have:=h.total hc;exact ⟨a1,by omega,g2,g1.len,hf⟩
theorem AG {V:List Yd}(h: ∀v ∈ V,Yo v)(i:Int) :0≤wV V i:=by
 unfold wV KM
 split
 ·rw [Zq]
  cases hx:(Jz V)[i.toNat]? with
  | none=>simp
  | some x=>
   have hm:=ZB hx;unfold Jz at hm;obtain ⟨v,hv,rfl⟩:=Yk.1 hm;exact (h v hv).bal.1
 ·exact XF _
theorem RK (hc:GE c) :1≤N8 c s:=by
 have:=hc.g.chu0;unfold N8 Em
 split
 ·exact this
 ·split <;> omega
theorem Zek {B x:Int}(h0:0≤B)(h1:B≤18446744073709551615)(hx:0≤x) :0≤gr B x∧gr B x≤18446744073709551615:=by
 unfold gr
 split <;> omega
theorem dQ {b L:Int}(h:1≤L) :(b+1)/L=b/L+if(b+1)%L=0 then 1 else 0:=by
 have h1:=Int.emod_add_mul_ediv b L;have h2:=Int.emod_add_mul_ediv (b+1) L;have h3:=Gt b (show L≠0 by omega);have h4:=GC b (show 0 < L by omega);have h5:=Gt (b+1) (show L≠0 by omega);have h6:=GC (b+1) (show 0 < L by omega);have hd:L*((b+1)/L - b/L)=b%L+1 -(b+1)%L:=by rw [Int.mul_sub]; omega
 have e:(b+1)/L=b/L+((b+1)/L - b/L):=by omega
 rw [e]
 congr 1
 generalize (b+1)/L - b/L=d at hd;have lo: ∀x,d≤x→L*d≤L*x:=fun x hx=>VK hx Ze
 have hi: ∀x,x≤d→L*x≤L*d:=fun x hx=>VK hx Ze
 split
 ·have a1: ¬d≤0:=fun h=>by have:=lo 0 h; rw [Int.mul_zero] at this; omega
  have a2: ¬2≤d:=fun h=>by have:=hi 2 h; omega
  omega
 ·have a1: ¬d≤ -1:=fun h=>by have:=lo (-1) h; omega
  have a2: ¬1≤d:=fun h=>by have:=hi 1 h; omega
  omega
theorem Zap (hc:GE c)(h:Inv c k s)(hk:k≤1000000)(Wc:(s.bk+1)%c 13=0) :Inv c (k+1) (bdS c (Qb s)):=by
 obtain ⟨a0,a1,a2,a3,a4⟩:=Zaq hc h;obtain ⟨g1,g2,g3⟩:=A9 h.vok h.ep0;have bk1:=h.bk1;have ep1:=h.ep1;have ep0:=h.ep0;have bk0:=h.bk0;have u0:=hc.g.unb0;have u1:=hc.g.unb1;have hl:O8 (s.ep+1+1) (c 10):=by unfold O8 Sr; omega
 have hX:1≤N8 c (Qb s):=RK hc;obtain ⟨b0,b1⟩:=Zek h.cy0 h.cy1 (show 0≤N8 c (Qb s) by omega);have pE:((M9 c (Qb s)).1.map (·.1)++((M9 c (Qb s)).2.1++(M9 c (Qb s)).2.2.1)).Perm (s.F++s.W):=IP _ _ _ _;have yT:=pE.nodup_iff.2 h.lnn;rw [Jg] at yT;obtain ⟨n1,n2,n3⟩:=yT;have Eo: ∀i,i ∈ (M9 c (Qb s)).1.map (·.1)∨i ∈ (M9 c (Qb s)).2.1++(M9 c (Qb s)).2.2.1→Bm (BO (Qb s)) DM i:=fun i hi=>
  g1.qd i (h.lnx i (pE.mem_iff.1 (YG.2 hi)))
 obtain ⟨r1,r2,r3,r4,r5⟩:=RH hl Ze (M9 c (Qb s)).1 (BO (Qb s)) g1.vok n1 (fun p hp=>Eo p.1 (.inl (JR hp)));have eh:(s.pd.take (WA c (Qb s))).Nodup:=h.pdn.sublist (List.take_sublist _ _);have pD: ∀i ∈ s.pd,Bm (A7 c (Qb s)) isPd i:=fun i hi=>r4 i (g1.pd i (h.pdx i hi))
 obtain ⟨t1,t2,t3,t4,t5⟩:=Cm (s.pd.take (WA c (Qb s))) (A7 c (Qb s)) r2 eh (fun i hi=>pD i (ZK hi));obtain ⟨m1,m2⟩:=vL (c 6) (s.mg.take (BJ c s.mg)) t2;have kN:Zz (jT c (Qb s))=Zz s.V:=by
  rw [UG,show jT c (Qb s)=P3 1 (A7 c (Qb s)) (s.pd.take (WA c (Qb s))) from rfl,t3,show A7 c (Qb s)=DL c (s.ep+1+1) (BO (Qb s)) (M9 c (Qb s)).1 from rfl,r3,←UG,a2]
 have hlen:(bdS c (Qb s)).V.length=s.V.length:=(m1.len.trans t1).trans (r1.trans a3);have hlens:=gV (wV (BO (Qb s))) s.F s.W (gr s.cy (N8 c (Qb s)));refine ⟨?_,m1.vok,?_,h.p0,h.b0,h.d1,h.cap,?_,?_,?_,?_,h.ptl,?_,?_,?_,n2,h.ptf,?_,?_,?_,?_,?_,?_,?_,?_⟩
 ·rw [hlen]; exact h.len
 ·have e:Zz (bdS c (Qb s)).V=Zz s.V:=m2.trans kN;rw [e]; exact h.sum
 ·have:=h.pdl;show ((s.pd.drop (WA c (Qb s))).length:Int)≤c 1;rw [Q0]; omega
 ·have hp:=gW (wV (BO (Qb s))) s.F s.W (gr s.cy (N8 c (Qb s)));have:=h.fl;show ((DK (wV (BO (Qb s))) s.F s.W (gr s.cy (N8 c (Qb s)))).2.1.length:Int)≤c 1;omega
 ·have hp:=gW (wV (BO (Qb s))) s.F s.W (gr s.cy (N8 c (Qb s)));have:=h.wl;show ((DK (wV (BO (Qb s))) s.F s.W (gr s.cy (N8 c (Qb s)))).2.2.1.length:Int)≤c 1;omega
 ·have:=h.mgl;show ((s.mg.drop (BJ c s.mg)).length:Int)≤c 1;rw [Q0]; omega
 ·intro i hi;have hi:i ∈ s.pd.drop (WA c (Qb s)):=hi;refine m1.pd i (t5 i (fun hm=>?_) (pD i (Xd hi)));have hn:=h.pdn;rw [←List.take_append_drop (WA c (Qb s)) s.pd,Jg] at hn;exact hn.2.2 i hm i hi rfl
 ·exact h.pdn.sublist (List.drop_sublist _ _)
 ·intro i hi;exact m1.qd i (t4 i (r5 i (fun hm=>n3 i hm i hi rfl) (Eo i (.inr hi))))
 ·rw [hlen]; exact h.cu
 ·show 0≤EK (M9 c (Qb s));unfold EK
  split
  ·exact nJ _ _ _ _ b0
  ·exact XF _
 ·show EK (M9 c (Qb s))≤18446744073709551615;unfold EK
  split
  ·have e1:=uh (wV (BO (Qb s))) s.F s.W (gr s.cy (N8 c (Qb s)));have e2:=cF (AG a4) (DK (wV (BO (Qb s))) s.F s.W (gr s.cy (N8 c (Qb s)))).1;show (DK (wV (BO (Qb s))) s.F s.W (gr s.cy (N8 c (Qb s)))).2.2.2≤_;omega
  ·decide
 ·show 0≤s.bk+1;omega
 ·show s.bk+1≤((k+1:Nat) :Int);omega
 ·show 0≤s.ep+1;omega
 ·show s.ep+1≤s.bk+1;omega
 ·show s.ep+1=(s.bk+1)/c 13;rw [dQ hc.g.len0,if_pos Wc,h.epq]
theorem SC (hc:GE c)(h:Inv c k s)(hk:k≤1000000) :Inv c (k+1) (SB c s):=by
 unfold SB
 split
 ·rename_i hb; exact Zap hc h hk hb
 ·rename_i hb
  have:=h.bk0;have:=h.bk1;have:=h.ep1;exact { h with bk0:=by simp only; omega,bk1:=by simp only; omega,ep1:=by simp only; omega,epq:=by simp only; rw [dQ hc.g.len0,if_neg hb,h.epq]; omega}
theorem Ls (a b:List Pm) :Vk (a++b)=Vk a+Vk b:=by
 induction a with
 | nil=>simp [Vk]
 | cons p a ih=>simp only [Yh,Vk,ih]; omega
theorem ja (l:List Py) :Vk (pmOf l)=UF l:=by
 induction l with
 | nil=>rfl
 | cons p l ih=>simp only [pmOf,Y2,Vk,UF] at*; rw [ih]
theorem Zfg {V:List Yd}{i:Nat}(h:(MY V).getD i false=true) : ∃v,V[i]?=some v∧v.st=5:=by
 unfold MY at h;rw [Zq,ZP] at h
 cases hx:V[i]? with
 | none=>rw [hx] at h; simp at h
 | some v=>rw [hx] at h; exact ⟨v,rfl,by simpa using h⟩
theorem LX (hc:GE c)(h:Inv c k s) :cS s.ep s.V (He c s)∧(AA c s).Nodup∧ ∀i ∈ AA c s,Bm (He c s) (MF s.ep) ((i:Nat) :Int):=by
 have hm:0≤c 5:=by have:=hc.m5; omega
 have g:=wj (V:=s.V) hm (s.pt.take (EH c s)) (fun r hr=>h.ptf r (ZK hr)) h.vok;have Um:=Re (MY (He c s)) s.cu (c 14 -(EH c s:Nat)) (c 15 -((tkP c s).length:Nat));refine ⟨g,Pc Um.le,fun i hi=>?_⟩;obtain ⟨v,hv,h5⟩:=Zfg (LM hi).2;exact u5 hv ⟨h5,(g.vok v (QM hv)).s5 h5⟩
theorem Zcg (hc:GE c)(h:Inv c k s) :Inv c k (Ia c s)∧Vk (TU c s)=Zz s.V - Zz (Ia c s).V∧ ∀p ∈ TU c s,0≤p.am:=by
 obtain ⟨g,hn,hr⟩:=LX hc h;obtain ⟨f1,f2,f3⟩:=EP (AA c s) (He c s) g.vok hn hr;have hm:0≤c 5:=by have:=hc.m5; omega
 have g2:=g.trans f1;have hs:=FM (c 5) (s.pt.take (EH c s)) s.V;have hF:Vk (TU c s)=Zz s.V - Zz (Ia c s).V:=by
  unfold TU tkP;rw [Ls,ja];show _=Zz s.V - Zz (Jl s.ep (He c s) (AA c s));rw [f2];have:Zz (He c s)=Zz s.V - UF (Ks (c 5) s.V (s.pt.take (EH c s))):=hs;omega
 have So: ∀p ∈ TU c s,0≤p.am:=fun p hp=>by
  unfold TU at hp
  rcases YG.1 hp with hp | hp
  ·obtain ⟨_,h2⟩:=DH (c 5) hm (s.pt.take (EH c s)) s.V (fun r hr=>h.ptf r (ZK hr)) h.fits;unfold tkP pmOf at hp;obtain ⟨y,hy,rfl⟩:=Yk.1 hp;have:=(h2 y hy).1;simp only;omega
  ·exact (f3 p hp).1
 have hsum0:0≤Vk (TU c s):=by
  generalize TU c s=l at So;clear hF
  induction l with
  | nil=>simp [Vk]
  | cons p l ih=>
   have:=ih (fun q hq=>So q (by simp [hq]));have:=So p ZI;simp only [Vk];omega
 have Um:=Re (MY (He c s)) s.cu (c 14 -(EH c s:Nat)) (c 15 -((tkP c s).length:Nat));refine ⟨⟨?_,g2.vok,?_,?_,h.b0,h.d1,?_,h.pdl,h.fl,h.wl,h.mgl,?_,fun i hi=>g2.pd i (h.pdx i hi),h.pdn,fun i hi=>g2.qd i (h.lnx i hi),h.lnn,fun r hr=>h.ptf r (Xd hr),?_,h.cy0,h.cy1,h.bk0,h.bk1,h.ep0,h.ep1,h.epq⟩,hF,So⟩
 ·have e:(Ia c s).V.length=s.V.length:=g2.len;rw [e]; exact h.len
 ·have:=h.sum;show Zz (Ia c s).V+(s.P+Vk (TU c s))+s.B=s.D;omega
 ·have:=h.p0;show 0≤s.P+Vk (TU c s);omega
 ·have:=h.cap;show s.D -(s.P+Vk (TU c s)) - s.B≤c 4;omega
 ·have:=h.ptl;show ((s.pt.drop (EH c s)).length:Int)≤c 1;rw [Q0]; omega
 ·have e:(Ia c s).V.length=(He c s).length:=f1.len;rw [e];show DN (He c s).length s.cu (mw c s)≤(He c s).length;have:=h.cu;have:=g.len;unfold DN
  split
  ·omega
  ·have hle:mw c s≤(MY (He c s)).length:=Um.le;have:(MY (He c s)).length=(He c s).length:=by simp [MY]
   exact Nat.le_of_lt (Nat.mod_lt _ Ze)
theorem rr (hc:GE c)(h:Inv c k s)(hk:k≤1000000) :Inv c (k+1) (xp c s).2:=(Zcg hc (SC hc h hk)).1
theorem ZbP (hc:GE c)(h:Inv c k s)(hk:k≤1000000)(o:Oq)(ho:Kk o) :Inv c (k+1) (opO c s o).2:=by
 unfold opO
 by_cases h1:o.kd=1
 ·rw [if_pos h1]; unfold Fw; split
  ·rename_i h0; exact uD hc h h0
  ·exact h.next
 rw [if_neg h1]
 by_cases h2:o.kd=2
 ·rw [if_pos h2]; unfold exO; split
  ·rename_i h0; exact oK hc h (.inr rfl) h0
  ·exact h.next
 rw [if_neg h2]
 by_cases h3:o.kd=3
 ·rw [if_pos h3]; unfold exO; split
  ·rename_i h0; exact oK hc h (.inl rfl) h0
  ·exact h.next
 rw [if_neg h3]
 by_cases h4:o.kd=4
 ·rw [if_pos h4]; unfold Wp; split
  ·rename_i h0; exact Zca hc h h0
  ·exact h.next
 rw [if_neg h4]
 by_cases h5:o.kd=5
 ·rw [if_pos h5]; unfold cT; split
  ·rename_i h0; exact Zau h h0
  ·exact h.next
 rw [if_neg h5]
 by_cases h6:o.kd=6
 ·rw [if_pos h6]; unfold cZ; split
  ·rename_i h0; exact ZbT h ⟨ho.2.1,ho.2.2.2⟩ h0
  ·exact h.next
 rw [if_neg h6]
 split
 ·exact rr hc h hk
 ·exact h.next
end
end
section
open Go Go.RowKit
section
variable {c:Nat→Int} {k:Nat} {s:Sg}
theorem qp (o:Oq)(h:o.kd≠7) :(opO c s o).1.la=[]∧(opO c s o).1.lp=[]∧(opO c s o).1.vs=0∧(opO c s o).2.P=s.P∧(opO c s o).2.bk=s.bk∧(opO c s o).2.ep=s.ep:=by
 have R: ∀k c,(Ge s k c).la=[]∧(Ge s k c).lp=[]∧(Ge s k c).vs=0∧s.P=s.P∧s.bk=s.bk∧s.ep=s.ep:=fun _ _=>⟨rfl,rfl,rfl,rfl,rfl,rfl⟩
 unfold opO
 split
 ·unfold Fw; exact jw
 split
 ·exact zS
 split
 ·exact zS
 split
 ·unfold Wp; exact jw
 split
 ·unfold cT; exact jw
 split
 ·unfold cZ; exact jw
 first | exact R _ _ | (rw [if_neg h]; exact R _ _)
theorem Sd (e:Int) : ∀(q:List Nat) (V:List Yd),(Qi e V q).length=q.length
 | [],_=>rfl
 | i::q,V=>by unfold Qi; rw [Yp,Yp,Sd e q]
theorem AB (hc:GE c)(s:Sg) :0≤((EH c s:Nat) :Int)+(mw c s:Nat)∧((EH c s:Nat) :Int)+(mw c s:Nat)≤c 14∧((TU c s).length:Int)≤c 15:=by
 have p0:=hc.g.part;have p1:=hc.g.vis0;have p2:=hc.g.pay0;have hN:((EH c s:Nat) :Int)≤c 16:=by unfold EH UE; omega
 have Um:=Re (MY (He c s)) s.cu (c 14 -(EH c s:Nat)) (c 15 -((tkP c s).length:Nat));have hv:=Um.le_v;have hp:=Um.le_p;have hP:(tkP c s).length≤EH c s:=by
  exact ZgE
 have e:(TU c s).length=(tkP c s).length+(AA c s).length:=by unfold TU; rw [ZE,Sd]
 have hv:mw c s=0∨((mw c s:Nat) :Int)≤c 14 -(EH c s:Nat):=hv;have hp:(AA c s).length=0∨(((AA c s).length:Nat) :Int)≤c 15 -((tkP c s).length:Nat):=hp;refine ⟨by omega,by omega,?_⟩;rw [e];omega
theorem Co (e:Int) : ∀(q:List Nat) (V:List Yd),q.Nodup→(∀i ∈ q,Bm V (MF e) (i:Nat))→
  (∀i ∈ q,∃v,(Jl e V q)[i]?=some v∧v.st=6∧v.bal=0)∧(∀i,i ∉ q→(Jl e V q)[i]?=V[i]?)∧(∀p ∈ Qi e V q,∃i ∈ q,p.ix=((i:Nat) :Int))
 | [],V,_,_=>⟨fun i hi=>by simp at hi,fun _ _=>rfl,fun p hp=>by simp [Qi] at hp⟩
 | x::q,V,hn,hq=>by
  obtain ⟨n,v,N0,hv,hr⟩:=hq x ZI;obtain rfl:x=n:=by omega
  rw [Qx] at hn;have ha:V.getD x ZZ=v:=VT hv;obtain ⟨f1,f2⟩:=P5 hr.1 hr.2;unfold Jl Qi;rw [ha,f1];obtain ⟨i1,i2,i3⟩:=Co e q (V.set x { v with bal:=0,st:=6}) hn.2 (fun i hi=>(hq i FU).set_ne (fun he=>hn.1 (by
   obtain rfl:i=x:=by omega
   exact hi)))
  refine ⟨fun i hi=>?_,fun i hi=>?_,fun p hp=>?_⟩
  ·rcases ZY.1 hi with rfl | hi
   ·exact ⟨_,(i2 i hn.1).trans (YN (Zi.1 hv).1),rfl,rfl⟩
   ·exact i1 i hi
  ·rw [ZY] at hi;rw [i2 i (fun h=>hi (.inr h)),YB (fun h=>hi (.inl h.symm))]
  ·rcases ZY.1 hp with rfl | hp
   ·exact ⟨x,by simp,rfl⟩
   ·obtain ⟨i,hi,h⟩:=i3 p hp;exact ⟨i,by simp [hi],h⟩
theorem xr (hc:GE c)(h:Inv c k s) : ∀p ∈ TU c s,∃(i:Nat) (v:Yd),p.ix=(i:Int)∧(Ia c s).V[i]?=some v∧(p.fl=true→v.st=6∧v.bal=0)∧(p.fl=false→v.st=2∧c 5≤v.bal):=by
 obtain ⟨g,hn,hr⟩:=LX hc h;obtain ⟨f1,f2,f3⟩:=Co s.ep (AA c s) (He c s) hn hr;have hm:0≤c 5:=by have:=hc.m5; omega
 intro p hp;unfold TU at hp
 rcases YG.1 hp with hp | hp
 ·have hq: ∀r ∈ s.pt.take (EH c s),Ga r:=fun r hr=>h.ptf r (ZK hr)
  obtain ⟨s1,s2⟩:=DH (c 5) hm (s.pt.take (EH c s)) s.V hq h.fits;unfold tkP pmOf at hp;obtain ⟨y,hy,rfl⟩:=Yk.1 hp;obtain ⟨y0,y1,i,v,y2,y3,y4,y5⟩:=s2 y hy;obtain ⟨u,hu,e,x0,x1⟩:=s1 i v y3;have KF:i ∉ AA c s:=fun hi=>by
   obtain ⟨m,u',e',hu',pF⟩:=hr i hi;obtain rfl:i=m:=by omega
   rw [show (He c s)[i]?=some u from hu] at hu';obtain rfl:=ZS hu';have:=pF.1;rw [e] at this;simp only at this;omega
  refine ⟨i,u,y2,(f2 i KF).trans hu,fun hf=>?_,fun _=>?_⟩
  ·simp only [y1] at hf; exact absurd hf ZI
  ·rw [e];refine ⟨y4,?_⟩;have hx:0 < KT i (Ks (c 5) s.V (s.pt.take (EH c s))):=by
    obtain ⟨j,hj⟩:=Uq hy;have t1:=bK i hj;have t2:=Pd i (ps:=Ks (c 5) s.V (s.pt.take (EH c s))) (fun p hp=>(s2 p hp).1) (j+1);have t3:=Pd i (ps:=Ks (c 5) s.V (s.pt.take (EH c s))) (fun p hp=>(s2 p hp).1) j;rw [if_pos y2] at t1;omega
   rcases x1 with x1 | ⟨_,_,x1⟩
   ·omega
   ·exact x1
 ·obtain ⟨i,hi,e⟩:=f3 p hp;obtain ⟨v,hv,h1,h2⟩:=f1 i hi;have hf:p.fl=true:=by
   have:=EP (AA c s) (He c s) g.vok hn hr;exact (this.2.2 p hp).2
  exact ⟨i,v,e,hv,fun _=>⟨h1,h2⟩,fun h=>by rw [hf] at h; simp at h⟩
theorem ly (hc:GE c)(h:Inv c k s)(hk:k≤1000000)(o:Oq) :0≤(opO c s o).1.vs∧(opO c s o).1.vs≤c 14∧((opO c s o).1.lp.length:Int)≤c 15∧
  ∀p ∈ (opO c s o).1.lp,∃(i:Nat) (v:Yd),p.ix=(i:Int)∧(opO c s o).2.V[i]?=some v∧(p.fl=true→v.st=6∧v.bal=0)∧(p.fl=false→v.st=2∧c 5≤v.bal):=by
 by_cases h7:o.kd=7
 ·have e:opO c s o=xp c s:=by
   exact Zgj
  rw [e];obtain ⟨v1,v2,v3⟩:=AB hc (SB c s);exact ⟨v1,v2,v3,xr hc (SC hc h hk)⟩
 ·obtain ⟨_,h2,h3,_⟩:=qp (c:=c) (s:=s) o h7;have:=hc.g.part;have:=hc.g.vis0;have:=hc.g.pay0;rw [h2,h3];exact ⟨by omega,by omega,by simp; omega,fun p hp=>by simp at hp⟩
theorem bH (a b:List Oq) : ∀s,Vr c s (a++b)=Vr c (Vr c s a) b:=by
 induction a with
 | nil=>exact fun _=>rfl
 | cons o a ih=>exact fun s=>ih _
theorem bG (a b:List Oq) : ∀s,GY c s (a++b)=GY c s a++GY c (Vr c s a) b:=by
 induction a with
 | nil=>exact fun _=>rfl
 | cons o a ih=>exact fun s=>by simp only [Yh,GY,Vr,ih]
end
end
section
open Go Go.RowKit
def VV (v:Yd) :Prop:=v.st=4∨(v.st=3∧v.ex≠ -1)
instance (v:Yd) :Decidable (VV v):=by unfold VV; infer_instance
def ga (V:List Yd) :Nat:=V.countP fun v=>decide (VV v)
structure XO (e:Int)(V:List Yd)(L:List QT) :Prop where
 nd:(L.map (·.2)).Nodup
 ub: ∀i,i ∈ L.map (·.2) ↔ Bm V VV i
 key: ∀p ∈ L,e < p.1
 wd: ∀p ∈ L,∀(n:Nat) (v:Yd),p.2=(n:Int)→V[n]?=some v→p.1≤v.wd
theorem Zfh:XO 0 [] []:=⟨by simp,fun i=>⟨fun h=>by simp at h,fun ⟨m,u,_,h,_⟩=>by simp at h⟩,fun p hp=>by simp at hp,fun p hp=>by simp at hp⟩
theorem RX (V:List Yd) : ∀n,n≤V.length→((Xm n).filter fun n=>decide (VV (V.getD n ZZ))).length=ga (V.take n)
 | 0,_=>by simp [ga]
 | n+1,h=>by
  have hv:V[n]?=some V[n]:=Zf Ze;have e1:V.getD n ZZ=V[n]:=VT hv;have e2:V.take (n+1)=V.take n++[V[n]]:=by rw [List.take_add_one,hv]; rfl
  rw [Gu,Ju,ZE,RX V n Ze,e2];unfold ga;rw [List.countP_append]
  congr 1
  by_cases hb:VV V[n]
  ·simp only [Vz,List.filter_nil,e1,hb,decide_true,if_true,Y1,List.countP_cons,List.countP_nil]
  ·simp only [Vz,List.filter_nil,e1,hb,decide_false,Bool.false_eq_true,if_false,List.length_nil,List.countP_cons,List.countP_nil]
theorem I5 (V:List Yd) :((Xm V.length).filter fun n=>decide (VV (V.getD n ZZ))).length=ga V:=by
 rw [RX V V.length (Zg _),List.take_length]
theorem XO.len {e:Int}{V:List Yd}{L:List QT}(h:XO e V L) :L.length=ga V:=by
 have hp:(L.map (·.2)).Perm (((Xm V.length).filter fun n=>decide (VV (V.getD n ZZ))).map fun n:Nat=>(n:Int)):=by
  refine (List.perm_ext_iff_of_nodup h.nd ?_).2 fun i=>?_
  ·exact List.pairwise_map.2 ((List.nodup_range.sublist List.filter_sublist).imp fun h e=>h Ze)
  ·rw [h.ub];constructor
   ·rintro ⟨m,u,rfl,hu,hp⟩;refine Yk.2 ⟨m,Js.2 ⟨QV.2 (Zi.1 hu).1,?_⟩,rfl⟩;rw [Zq,hu];simpa using hp
   ·intro hi;obtain ⟨m,hm,rfl⟩:=Yk.1 hi;obtain ⟨h1,h2⟩:=Js.1 hm;have h1:=QV.1 h1;refine ⟨m,V.getD m ZZ,rfl,?_,by simpa using h2⟩;rw [Zq,Zf h1];rfl
 have:=hp.length_eq;rw [YE,YE,I5] at this;exact this
section
variable {c:Nat→Int} {k:Nat} {s:Sg} {e:Int} {V W:List Yd} {L:List QT}
theorem XO.keep (h:XO e V L)(hub: ∀i,Bm W VV i ↔ Bm V VV i)(ei: ∀(n:Nat) (v:Yd),W[n]?=some v→VV v→ ∃u,V[n]?=some u∧u.wd≤v.wd) :XO e W L:=by
 refine ⟨h.nd,fun i=>(h.ub i).trans (hub i).symm,h.key,fun p hp n v hn hv=>?_⟩;obtain ⟨m,u,hm,hu,hb⟩:=(hub p.2).2 ((h.ub p.2).1 (JR hp));obtain rfl:n=m:=by omega
 rw [hv] at hu;obtain rfl:=ZS hu;obtain ⟨u,hu,hle⟩:=ei n v hv hb;exact Int.le_trans (h.wd p hp n u hn hu) hle
theorem Zcj {n:Nat}{v v':Yd}(hv:V[n]?=some v)(h:VV v' ↔ VV v)(i:Int) :Bm (V.set n v') VV i ↔ Bm V VV i:=by
 constructor
 ·rintro ⟨m,u,hm,hu,hb⟩
  by_cases iB:n=m
  ·subst iB;rw [YN (Zi.1 hv).1] at hu;obtain rfl:=ZS hu;exact ⟨n,v,hm,hv,h.1 hb⟩
  ·rw [YB iB] at hu;exact ⟨m,u,hm,hu,hb⟩
 ·exact fun hx=>hx.set hv h.2
theorem XO.set (h:XO e V L){n:Nat}{v v':Yd}(hv:V[n]?=some v)(hb:VV v' ↔ VV v)(hw:VV v→v.wd≤v'.wd) :XO e (V.set n v') L:=by
 refine h.keep (Zcj hv hb) fun m x hx hxb=>?_
 by_cases iB:n=m
 ·subst iB;rw [YN (Zi.1 hv).1] at hx;obtain rfl:=ZS hx;exact ⟨v,hv,hw (hb.1 hxb)⟩
 ·rw [YB iB] at hx;exact ⟨x,hx,XF _⟩
theorem XO.more (h:XO e V L){n:Nat}{v v':Yd}(hv:V[n]?=some v)(h0: ¬VV v)(h1:VV v'){t:Int}(ht:e < t)(hw:t≤v'.wd) :XO e (V.set n v') (L++[(t,(n:Int))]):=by
 have hn:(n:Int) ∉ L.map (·.2):=fun hm=>by
  obtain ⟨m,u,hm,hu,hb⟩:=(h.ub _).1 hm;obtain rfl:n=m:=by omega
  rw [hv] at hu;obtain rfl:=ZS hu;exact h0 hb
 have XP:=(Zi.1 hv).1;refine ⟨by rw [XS]; exact MI h.nd hn,fun i=>?_,fun p hp=>?_,fun p hp m x hm hx=>?_⟩
 ·rw [XS,YG,h.ub];constructor
  ·rintro (hi | hi)
   ·exact hi.set hv fun hb=>absurd hb h0
   ·obtain rfl:i=(n:Int):=by simpa using hi
    exact ⟨n,v',rfl,YN XP,h1⟩
  ·rintro ⟨m,u,hm,hu,hb⟩
   by_cases iB:n=m
   ·right; subst iB; simp [hm]
   ·rw [YB iB] at hu;exact .inl ⟨m,u,hm,hu,hb⟩
 ·rcases YG.1 hp with hp | hp
  ·exact h.key p hp
  ·obtain rfl:p=(t,(n:Int)):=by simpa using hp
   exact ht
 ·rcases YG.1 hp with hp | hp
  ·by_cases iB:n=m
   ·subst iB;exact absurd (hm▸JR hp) hn
   ·rw [YB iB] at hx;exact h.wd p hp m x hm hx
  ·obtain rfl:p=(t,(n:Int)):=by simpa using hp
   obtain rfl:n=m:=by have:(n:Int)=m:=hm; omega
   rw [YN XP] at hx;obtain rfl:=ZS hx;exact hw
theorem qW (h:XO e V L)(x:Int) :XO e (V++[MH x]) L:=by
  have mV: ¬VV (MH x):=by simp [VV,MH]
  refine h.keep (fun i=>⟨fun ⟨m,u,hm,hu,hb⟩=>?_,fun hx=>hx.append⟩) fun n v hv hb=>?_
  all_goals
    first
    | (rcases Ys m V.length with hl | hl
       · rw [Yn hl] at hu; exact ⟨m,u,hm,hu,hb⟩
       · rw [YF hl] at hu
         obtain ⟨_,hq⟩:=Zi.1 hu;simp at hq;exact absurd (hq▸hb) mV)
    | (rcases Ys n V.length with hl | hl
       · rw [Yn hl] at hv; exact ⟨v,hv,XF _⟩
       · rw [YF hl] at hv
         obtain ⟨_,hq⟩:=Zi.1 hv;simp at hq;exact absurd (hq▸hb) mV)
theorem ring_ex (hc:GE c)(h:Inv c k s){i cl:Int}(h0:mM c s i cl=0)(hr:XO s.ep s.V L) :XO s.ep (P4 c s i cl).V L:=by
 obtain ⟨c1,c2,c3,_⟩:=ig h0;obtain ⟨n,WU,hv⟩:=Bb c1;have e1:i.toNat=n:=by omega
 show XO s.ep (s.V.set i.toNat { (AY s (Ub s.V i)).2 with dl:=yy c s i cl}) L;generalize hy:Ub s.V i=v at*;obtain ⟨Um,o8⟩:=RA (e:=s.ep) (v:=v) c2;rw [e1,show (AY s v).2=(QA [Xw s.ep,Qu 2] v).2 from rfl,o8];have hx:=((h.vok v (QM hv)).lo (.inr Um)).1;refine hr.set hv ?_ fun hb=>XF _
 simp only [VV];omega
def wX (c:Nat→Int)(s:Sg)(i:Int) :List QT:=if(Ub s.V i).st=5 then [((LU (Ub s.V i) s.ep c).2.wd,i)] else []
theorem wS (hc:GE c)(h:Inv c k s){i:Int}(h0:Iz c s i=0)(hr:XO s.ep s.V L) :XO s.ep (MZ c s i).V (L++wX c s i):=by
 obtain ⟨c1,c2,c3⟩:=iY h0;obtain ⟨n,WU,hv⟩:=Bb c1;have e1:i.toNat=n:=by omega
 have s11:=hc.g.sla0;have s10:=hc.g.unb0;show XO s.ep (s.V.set i.toNat (LU (Ub s.V i) s.ep c).2) (L++wX c s i);unfold wX;generalize hy:Ub s.V i=v at*;obtain ⟨mY,Um,hex,ei,hba⟩:=NJ c2;have mT:=fun k=>((h.vok v (QM hv)).lo k).1
 rw [e1,WU]
 by_cases h5:v.st=5
 ·rw [if_pos h5];refine hr.more hv (by unfold VV; omega) ?_ (by rw [ei]; omega) (XF _);unfold VV;omega
 ·rw [if_neg h5,List.append_nil];refine hr.set hv ?_ fun hb=>by rw [ei]; omega
  unfold VV;omega
end
end
section
open Go Go.RowKit
section
variable {c:Nat→Int} {k:Nat} {s:Sg} {e:Int} {V W:List Yd} {L:List QT}
def Oz (e:Int) :List Yd→List Int→List Yd
 | V,[]=>V
 | V,i::q=>Oz e (if(Ub V i).wd≤e then V.set i.toNat (NZ 4 (Ub V i)) else V) q
def IT (e:Int)(V:List Yd)(q:List Int) :List QT:=(q.filter fun i=>decide (e < (Ub V i).wd)).map fun i=>((Ub V i).wd,i)
def Lh (e:Int)(V:List Yd)(L:List QT) :List QT:=Gf e L++IT e V (Vq e L)
theorem Dz {i:Int} :i ∈ Vq e L ↔ (e,i) ∈ L:=by
 unfold Vq;rw [Yk];constructor
 ·rintro ⟨p,hp,rfl⟩;obtain ⟨h1,h2⟩:=Js.1 hp;have:p.1=e:=by simpa using h2
  rw [←this]; exact h1
 ·exact fun h=>⟨(e,i),Js.2 ⟨h,by simp⟩,rfl⟩
theorem bw {p:QT} :p ∈ Gf e L ↔ p ∈ L∧p.1≠e:=by
 unfold Gf;rw [Js];simp
theorem MC (h:(L.map (·.2)).Nodup) :(Vq e L).Nodup:=h.sublist (by unfold Vq; exact List.filter_sublist.map _)
theorem lx (h:(L.map (·.2)).Nodup){p q:QT}(hp:p ∈ L)(hq:q ∈ L)(he:p.2=q.2) :p=q:=by
 induction L with
 | nil=>simp at hp
 | cons x L ih=>
  rw [Y2,Qx] at h
  rcases ZY.1 hp with e1 | k1
  ·rcases ZY.1 hq with e2 | k2
   ·rw [e1,e2]
   ·have hm:x.2 ∈ L.map (·.2):=Yk.2 ⟨q,k2,by rw [←he,e1]⟩;exact absurd hm h.1
  ·rcases ZY.1 hq with e2 | k2
   ·have hm:x.2 ∈ L.map (·.2):=Yk.2 ⟨p,k1,by rw [he,e2]⟩;exact absurd hm h.1
   ·exact ih h.2 k1 k2
theorem fK: ∀(q:List Int) (V:List Yd),(∀i ∈ q,∃n:Nat,i=(n:Int)∧n < V.length)→q.Nodup→(Oz e V q).length=V.length∧
  ∀n:Nat,(Oz e V q)[n]?=if(n:Int) ∈ q∧(Ub V n).wd≤e then(V[n]?).map (NZ 4) else V[n]?
 | [],V,_,_=>⟨rfl,fun n=>by simp [Oz]⟩
 | x::q,V,hq,hn=>by
  obtain ⟨m,rfl,hm⟩:=hq x ZI;rw [Qx] at hn;have hv:V[m]?=some V[m]:=Zf hm;have ha:=My hv;have e1:((m:Nat) :Int).toNat=m:=by omega
  unfold Oz;rw [ha,e1]
  by_cases hw:V[m].wd≤e
  ·rw [if_pos hw];obtain ⟨i1,i2⟩:=fK q (V.set m (NZ 4 V[m])) (fun i hi=>by obtain ⟨n,h1,h2⟩:=hq i FU; exact ⟨n,h1,by simpa using h2⟩) hn.2;refine ⟨i1.trans ZI,fun n=>?_⟩;rw [i2 n]
   by_cases iC:n=m
   ·subst iC;rw [if_neg (fun h=>hn.1 h.1),if_pos ⟨by simp,by rw [ha]; exact hw⟩,YN hm,hv];rfl
   ·have cU:Ub (V.set m (NZ 4 V[m])) (n:Int)=Ub V (n:Int):=by
     unfold Ub;rw [Zq,Zq,YX,YB (fun h=>iC h.symm)]
    rw [cU,YB (fun h=>iC h.symm)];have:((n:Int) ∈ ((m:Nat) :Int)::q) ↔ (n:Int) ∈ q:=by
     rw [ZY];constructor
     ·rintro (h | h)
      ·exact absurd Ze iC
      ·exact h
     ·exact .inr
    simp only [this]
  ·rw [if_neg hw];obtain ⟨i1,i2⟩:=fK q V (fun i hi=>hq i FU) hn.2;refine ⟨i1,fun n=>?_⟩;rw [i2 n]
   by_cases iC:n=m
   ·subst iC;rw [if_neg (fun h=>hn.1 h.1),if_neg (fun h=>hw (by rw [←ha]; exact h.2))]
   ·have:((n:Int) ∈ ((m:Nat) :Int)::q) ↔ (n:Int) ∈ q:=by
     rw [ZY];constructor
     ·rintro (h | h)
      ·exact absurd Ze iC
      ·exact h
     ·exact .inr
    simp only [this]
theorem br {v:Yd}(h:Vok e v)(he:0≤e) :VV (leaveV (e+1) v) ↔ VV v:=by
 unfold leaveV
 by_cases c1:v.st=3∧v.ex=e+1
 ·rw [if_pos c1];exact ⟨fun _=> .inr ⟨c1.1,by omega⟩,fun _=> .inl rfl⟩
 ·rw [if_neg c1]
theorem Dy (e:Int)(v:Yd) :(leaveV e v).wd=v.wd:=by unfold leaveV; split <;> rfl
theorem St {v:Yd}(h:Vok e v)(hb:VV v)(hw:v.wd≤e+1) :(leaveV (e+1) v).st=4:=by
 have h3:=h.s3;unfold VV at hb;unfold leaveV
 by_cases c1:v.st=3∧v.ex=e+1
 ·have:=h3 c1.1; rw [if_pos c1]
 ·rw [if_neg c1]
  rcases hb with hb | hb
  ·exact hb
  ·rcases h3 hb.1 with h | h
   ·exact absurd h hb.2
   ·exact absurd ⟨hb.1,h.1⟩ c1
theorem Zb8 (h: ∀v ∈ V,Vok e v)(he:0≤e)(hr:XO e V L) :Oz (e+1) (V.map (leaveV (e+1))) (Vq (e+1) L)=(V.map (leaveV (e+1))).map (ripenV (e+1)):=by
 have hq: ∀i ∈ Vq (e+1) L,∃n:Nat,i=(n:Int)∧n < (V.map (leaveV (e+1))).length:=fun i hi=>by
  obtain ⟨m,u,hm,hu,_⟩:=(hr.ub i).1 (Yk.2 ⟨_,Dz.1 hi,rfl⟩);exact ⟨m,hm,by rw [YE]; exact (Zi.1 hu).1⟩
 obtain ⟨r1,r2⟩:=fK (Vq (e+1) L) (V.map (leaveV (e+1))) hq (MC hr.nd);apply Vb;intro n;have hV1:(V.map (leaveV (e+1)))[n]?=(V[n]?).map (leaveV (e+1)):=ZP ..;have hV2:((V.map (leaveV (e+1))).map (ripenV (e+1)))[n]?=((V[n]?).map (leaveV (e+1))).map (ripenV (e+1)):=by rw [ZP,ZP]
 rw [r2 n,hV2,hV1];clear r2 hV1 hV2
 cases hv:V[n]? with
 | none=>simp
 | some v=>
  have cU:Ub (V.map (leaveV (e+1))) (n:Int)=leaveV (e+1) v:=My (by rw [ZP,hv]; rfl);rw [cU,Dy];have PJ:=h v (QM hv);simp only [Option.map_some]
  by_cases hc:(n:Int) ∈ Vq (e+1) L∧v.wd≤e+1
  ·rw [if_pos hc];obtain ⟨m,u,hm,hu,hb⟩:=(hr.ub (n:Int)).1 (Yk.2 ⟨_,Dz.1 hc.1,rfl⟩);obtain rfl:n=m:=by omega
   rw [hv] at hu;obtain rfl:=ZS hu;have h4:=St PJ hb hc.2;have hw:(leaveV (e+1) v).wd≤e+1:=by rw [Dy]; exact hc.2
   generalize leaveV (e+1) v=y at*;unfold ripenV NZ;rw [if_pos ⟨h4,hw⟩,h4];rfl
  ·rw [if_neg hc];have: ¬((leaveV (e+1) v).st=4∧(leaveV (e+1) v).wd≤e+1):=fun hy=>by
    rw [Dy] at hy;have hb:VV v:=(br PJ he).1 (.inl hy.1);obtain ⟨p,hp,kU⟩:=Yk.1 ((hr.ub (n:Int)).2 ⟨n,v,rfl,hv,hb⟩);have k1:=hr.key p hp;have k2:=hr.wd p hp n v kU hv;refine hc ⟨Dz.2 ?_,hy.2⟩;have:p=(e+1,(n:Int)):=Prod.ext Ze kU;rw [←this]; exact hp
   unfold ripenV;rw [if_neg this]
theorem iT (h: ∀v ∈ V,Vok e v)(he:0≤e)(hr:XO e V L) :XO (e+1) ((V.map (leaveV (e+1))).map (ripenV (e+1))) (Lh (e+1) (V.map (leaveV (e+1))) L):=by
 have cU: ∀(n:Nat) (v:Yd),V[n]?=some v→(Ub (V.map (leaveV (e+1))) (n:Int)).wd=v.wd:=fun n v hv=>by
  rw [My (v:=leaveV (e+1) v) (by rw [ZP,hv]; rfl),Dy]
 have Ku: ∀(n:Nat) (v:Yd),V[n]?=some v→((V.map (leaveV (e+1))).map (ripenV (e+1)))[n]?=some (ripenV (e+1) (leaveV (e+1) v)):=fun n v hv=>by
  rw [ZP,ZP,hv]; rfl
 have hub: ∀v,Vok e v→(VV (ripenV (e+1) (leaveV (e+1) v)) ↔ VV v∧e+1 < v.wd):=fun v PJ=>by
  have h4:=St PJ;have hl:=br PJ he;have ei:=Dy (e+1) v;generalize hy:leaveV (e+1) v=y at*;unfold ripenV
  by_cases c1:y.st=4∧y.wd≤e+1
  ·rw [if_pos c1];constructor
   ·intro hb; unfold VV at hb; simp only at hb; omega
   ·intro hb; omega
  ·rw [if_neg c1,hl];constructor
   ·intro hb;refine ⟨hb,?_⟩
    rcases Int.lt_or_le (e+1) v.wd with XP | hge
    ·exact XP
    ·exact absurd ⟨h4 hb hge,by rw [ei]; exact hge⟩ c1
   ·exact fun hb=>hb.1
 have hwd2: ∀v,(ripenV (e+1) (leaveV (e+1) v)).wd=v.wd:=fun v=>by
  rw [←Dy (e+1) v];unfold ripenV; split <;> rfl
 have Eo: ∀p,p ∈ Lh (e+1) (V.map (leaveV (e+1))) L ↔ (p ∈ L∧p.1≠e+1)∨((e+1,p.2) ∈ L∧e+1 < (Ub (V.map (leaveV (e+1))) p.2).wd∧p.1=(Ub (V.map (leaveV (e+1))) p.2).wd):=fun p=>by
  unfold Lh IT;rw [YG,bw,Yk];constructor
  ·rintro (hp | ⟨i,hi,rfl⟩)
   ·exact .inl hp
   ·obtain ⟨h1,h2⟩:=Js.1 hi;exact .inr ⟨Dz.1 h1,by simpa using h2,rfl⟩
  ·rintro (hp | ⟨h1,h2,h3⟩)
   ·exact .inl hp
   ·exact .inr ⟨p.2,Js.2 ⟨Dz.2 h1,by simpa using h2⟩,Prod.ext h3.symm rfl⟩
 refine ⟨?_,fun i=>?_,fun p hp=>?_,fun p hp n y hn hy=>?_⟩
 ·unfold Lh IT;rw [XS,VP,Jg];refine ⟨hr.nd.sublist (List.filter_sublist.map _),?_,?_⟩
  ·rw [show ((fun x:QT=>x.2) ∘ fun i=>((Ub (V.map (leaveV (e+1))) i).wd,i))=id from rfl,List.map_id];exact (MC hr.nd).sublist List.filter_sublist
  ·intro a ha b hb hab;subst hab;rw [show ((fun x:QT=>x.2) ∘ fun i=>((Ub (V.map (leaveV (e+1))) i).wd,i))=id from rfl,List.map_id] at hb;obtain ⟨p,hp,rfl⟩:=Yk.1 ha;have h1:=bw.1 hp;have h2:=Dz.1 (Js.1 hb).1;exact h1.2 (congrArg (·.1) (lx hr.nd h1.1 h2 rfl))
 ·rw [Yk];constructor
  ·rintro ⟨p,hp,rfl⟩;have WU:p.2 ∈ L.map (·.2):=by
    rcases (Eo p).1 hp with h1 | h1
    ·exact JR h1.1
    ·exact Yk.2 ⟨_,h1.1,rfl⟩
   obtain ⟨m,u,hm,hu,hb⟩:=(hr.ub p.2).1 WU;refine ⟨m,_,hm,Ku m u hu,(hub u (h u (QM hu))).2 ⟨hb,?_⟩⟩
   rcases (Eo p).1 hp with h1 | h1
   ·have:=hr.key p h1.1;have:=hr.wd p h1.1 m u hm hu;omega
   ·have:=h1.2.1;rw [hm,cU m u hu] at this;exact this
  ·rintro ⟨m,y,rfl,hy,hb⟩
   cases hv:V[m]? with
   | none=>rw [ZP,ZP,hv] at hy; simp at hy
   | some v=>
    rw [Ku m v hv] at hy;obtain rfl:=ZS hy;obtain ⟨b1,b2⟩:=(hub v (h v (QM hv))).1 hb;obtain ⟨p,hp,kU⟩:=Yk.1 ((hr.ub (m:Int)).2 ⟨m,v,rfl,hv,b1⟩)
    by_cases hpe:p.1=e+1
    ·refine ⟨(v.wd,(m:Int)),(Eo _).2 (.inr ⟨?_,?_,?_⟩),rfl⟩
     ·have:p=(e+1,(m:Int)):=Prod.ext hpe kU;rw [←this]; exact hp
     ·rw [cU m v hv]; exact b2
     ·rw [cU m v hv]
    ·exact ⟨p,(Eo p).2 (.inl ⟨hp,hpe⟩),kU⟩
 ·rcases (Eo p).1 hp with h1 | h1
  ·have:=hr.key p h1.1;omega
  ·omega
 ·cases hv:V[n]? with
  | none=>rw [ZP,ZP,hv] at hy; simp at hy
  | some v=>
   rw [Ku n v hv] at hy;obtain rfl:=ZS hy;rw [hwd2]
   rcases (Eo p).1 hp with h1 | h1
   ·exact hr.wd p h1.1 n v hn hv
   ·have h3:=h1.2.2;rw [hn,cU n v hv] at h3;omega
def EJ (c:Nat→Int)(e:Int) :List Yd→List (Int × Int)→List QT
 | _,[]=> []
 | V,p::q=>((QA [XN e,Q9 e (c 10)] (Ub V p.1)).2.wd,p.1)::EJ c e (V.set p.1.toNat (QA [XN e,Q9 e (c 10)] (Ub V p.1)).2) q
theorem bW (he:0≤e)(hl:O8 (e+1) (c 10))(hc:0 < c 10) : ∀(q:List (Int × Int)) (V:List Yd) (L:List QT),(∀v ∈ V,Vok e v)→(q.map (·.1)).Nodup→(∀p ∈ q,Bm V DM p.1)→XO e V L→
  XO e (DL c (e+1) V q) (L++EJ c (e+1) V q)
 | [],V,L,_,_,_,hr=>by simpa [DL,EJ] using hr
 | p::q,V,L,h,hn,hq,hr=>by
  obtain ⟨n,v,N0,hv,hqd⟩:=hq p ZI;have ha:Ub V p.1=v:=by rw [N0]; exact My hv
  rw [Y2,Qx] at hn;obtain ⟨k0,k1,k2⟩:=gX (h v (QM hv)) hqd hl hc;have e1:p.1.toNat=n:=by omega
  unfold DL EJ;rw [ha,e1];have hm:=hr.more (t:=(QA [XN (e+1),Q9 (e+1) (c 10)] v).2.wd) hv (v':=(QA [XN (e+1),Q9 (e+1) (c 10)] v).2) (fun hb=>by have:=hqd.1; have:=hqd.2; unfold VV at hb; omega) (by
   rw [k2]; have:=hqd.1; unfold VV; simp only; omega) (by rw [k2]; simp only; omega) (XF _)
  have ih:=bW he hl hc q (V.set n (QA [XN (e+1),Q9 (e+1) (c 10)] v).2) (L++[((QA [XN (e+1),Q9 (e+1) (c 10)] v).2.wd,(n:Int))]) (Gw h k1) hn.2 (fun p' cY=>(hq p' (by simp [cY])).set_ne (fun he=>hn.1 (by
   rw [N0,←he];exact JR cY))) hm
  rw [XU,List.singleton_append] at ih;rw [N0];exact ih
theorem iU: ∀(q:List Int) (V:List Yd),q.Nodup→(∀i ∈ q,Bm V isPd i)→XO e V L→XO e (P3 1 V q) L
 | [],V,_,_,hr=>hr
 | x::q,V,hn,hq,hr=>by
  obtain ⟨n,v,N0,hv,yU⟩:=hq x ZI;have ha:Ub V x=v:=by rw [N0]; exact My hv
  rw [Qx] at hn;have e1:x.toNat=n:=by omega
  unfold P3;rw [ha,e1];refine iU q (V.set n (NZ 1 v)) hn.2 (fun i hi=>(hq i FU).set_ne (fun he=>hn.1 (by rw [N0,←he]; exact hi))) (hr.set hv ?_ fun _=>XF _);unfold NZ;rw [show v.st=1 from yU];have:v.st=1:=yU;unfold VV;show (JC 1 1=4∨(JC 1 1=3∧v.ex≠ -1)) ↔ _;rw [show JC 1 1=2 from rfl];omega
theorem wO (mb:Int)(q:List (Int × Int))(hr:XO e V L) :XO e (Ki mb V q) L:=by
 refine LW mb (I:=fun W=>XO e W L) ?_ q V hr;intro l i j s d hl KF hi hj hc;obtain ⟨mX,ve,_,_,_,_⟩:=RV hc;have O3:(l.set i (Fj s))[j]?=some d:=by exact jC
 exact (hl.set (v':=Fj s) hi (by unfold VV; simp only [Fj]; omega) fun _=>XF _).set (v':=N2 s d) O3 Iff.rfl fun _=>XF _
theorem wR {mb:Int}(hm:0≤mb)(q:List Rq)(hq: ∀r ∈ q,Ga r)(hf: ∀v ∈ V,Yo v)(hr:XO e V L) :XO e (XQ mb V q) L:=by
 obtain ⟨h1,_⟩:=DH mb hm q V hq hf;have hlen:=De mb q V;have back: ∀(n:Nat) (v':Yd),(XQ mb V q)[n]?=some v'→ ∃(v:Yd) (x:Int),V[n]?=some v∧v'= { v with bal:=v.bal - x}:=fun n v' vy=>by
  exact Zf1
 refine hr.keep (fun i=>⟨fun ⟨m,u,hm,hu,hb⟩=>?_,fun ⟨m,u,hm,hu,hb⟩=>?_⟩) fun n v hv hb=>?_
 ·obtain ⟨v,x,hv,rfl⟩:=back m u hu;exact ⟨m,v,hm,hv,hb⟩
 ·obtain ⟨u',hu',hp,_⟩:=h1 m u hu;exact ⟨m,u',hm,hu',by rw [hp]; exact hb⟩
 ·obtain ⟨u,x,hu,rfl⟩:=back n v hv;exact ⟨u,hu,XF _⟩
theorem iV: ∀(q:List Nat) (V:List Yd),q.Nodup→(∀i ∈ q,Bm V (MF e) (i:Nat))→XO e V L→XO e (Jl e V q) L
 | [],V,_,_,hr=>hr
 | x::q,V,hn,hq,hr=>by
  obtain ⟨n,v,N0,hv,hp⟩:=hq x ZI;obtain rfl:x=n:=by omega
  rw [Qx] at hn;have ha:V.getD x ZZ=v:=VT hv;obtain ⟨f1,f2⟩:=P5 hp.1 hp.2;unfold Jl;rw [ha,f1];refine iV q (V.set x { v with bal:=0,st:=6}) hn.2 (fun i hi=>(hq i FU).set_ne (fun he=>hn.1 (by
   obtain rfl:i=x:=by omega
   exact hi))) (hr.set hv ?_ fun _=>XF _)
  have:=hp.1;unfold VV;simp only;omega
end
end
section
open Go Go.RowKit
section
variable {c:Nat→Int} {k:Nat} {s:Sg} {L:List QT}
def sN (c:Nat→Int)(s:Sg)(L:List QT) :List QT:=Lh s.ep (s.V.map (leaveV s.ep)) L++EJ c (s.ep+1) (BO s) (M9 c s).1
def zf (c:Nat→Int)(s:Sg)(L:List QT) :List QT:=if(s.bk+1)%c 13=0 then sN c (Qb s) L else L
def Gn (c:Nat→Int)(s:Sg)(L:List QT)(o:Oq) :List QT:=
 if o.kd=7 then zf c s L else if o.kd=4∧Iz c s o.ix=0 then L++wX c s o.ix else L
structure ZhG (c:Nat→Int)(s:Sg) :Prop where
 v1: ∀v ∈ BO (Qb s),Vok (s.ep+1) v
 v2: ∀v ∈ A7 c (Qb s),Vok (s.ep+1) v
 v3: ∀v ∈ jT c (Qb s),Vok (s.ep+1) v
 nd:((M9 c (Qb s)).1.map (·.1)).Nodup
 qd: ∀p ∈ (M9 c (Qb s)).1,Bm (BO (Qb s)) DM p.1
 pn:(s.pd.take (WA c (Qb s))).Nodup
 pd: ∀i ∈ s.pd,Bm (A7 c (Qb s)) isPd i
 lo:O8 (s.ep+1+1) (c 10)
 l1:(BO (Qb s)).length=s.V.length
 l2:(A7 c (Qb s)).length=s.V.length
 l3:(jT c (Qb s)).length=s.V.length
 b1:Jz (BO (Qb s))=Jz s.V
 b2:Jz (A7 c (Qb s))=Jz s.V
 b3:Jz (jT c (Qb s))=Jz s.V
theorem nM {V:List Yd}{f:Yd→Yd}(h: ∀v ∈ V,(f v).bal=v.bal) :Jz (V.map f)=Jz V:=by
 unfold Jz;rw [VP];exact List.map_congr_left fun v hv=>h v hv
theorem nP (hc:GE c)(h:Inv c k s)(hk:k≤1000000) :ZhG c s:=by
 obtain ⟨g1,g2,g3⟩:=A9 h.vok h.ep0;have bk1:=h.bk1;have ep1:=h.ep1;have ep0:=h.ep0;have u0:=hc.g.unb0;have u1:=hc.g.unb1;have hl:O8 (s.ep+1+1) (c 10):=by unfold O8 Sr; omega
 have pE:((M9 c (Qb s)).1.map (·.1)++((M9 c (Qb s)).2.1++(M9 c (Qb s)).2.2.1)).Perm (s.F++s.W):=IP _ _ _ _;have yT:=pE.nodup_iff.2 h.lnn;rw [Jg] at yT;obtain ⟨n1,n2,n3⟩:=yT;have Eo: ∀p ∈ (M9 c (Qb s)).1,Bm (BO (Qb s)) DM p.1:=fun p hp=>
  g1.qd p.1 (h.lnx p.1 (pE.mem_iff.1 (YG.2 (.inl (JR hp)))))
 obtain ⟨r1,r2,r3,r4,r5⟩:=RH hl Ze (M9 c (Qb s)).1 (BO (Qb s)) g1.vok n1 Eo;have eh:(s.pd.take (WA c (Qb s))).Nodup:=h.pdn.sublist (List.take_sublist _ _);have pD: ∀i ∈ s.pd,Bm (A7 c (Qb s)) isPd i:=fun i hi=>r4 i (g1.pd i (h.pdx i hi))
 obtain ⟨t1,t2,t3,t4,t5⟩:=Cm (s.pd.take (WA c (Qb s))) (A7 c (Qb s)) r2 eh (fun i hi=>pD i (ZK hi));have hb:Jz (BO (Qb s))=Jz s.V:=by
  show Jz ((s.V.map (leaveV (s.ep+1))).map (ripenV (s.ep+1)))=_;rw [nN];exact nM fun v hv=>(LL (h.vok v hv) h.ep0).2.2
 exact ⟨g1.vok,r2,t2,n1,Eo,eh,pD,hl,g1.len,r1.trans g1.len,t1.trans (r1.trans g1.len),hb,r3.trans hb,t3.trans (r3.trans hb)⟩
theorem qV (hc:GE c)(h:Inv c k s)(hk:k≤1000000)(hr:XO s.ep s.V L) :XO (s.ep+1) (bdS c (Qb s)).V (sN c (Qb s) L):=by
 have b:=nP hc h hk;have u0:=hc.g.unb0;have ep0:=h.ep0;have r1:=iT h.vok h.ep0 hr;have r2:=bW Ze b.lo Ze (M9 c (Qb s)).1 (BO (Qb s)) _ b.v1 b.nd b.qd r1;have r3:=iU (s.pd.take (WA c (Qb s))) (A7 c (Qb s)) b.pn (fun i hi=>b.pd i (ZK hi)) r2;exact wO (c 6) (s.mg.take (BJ c s.mg)) r3
theorem wP (hc:GE c)(h:Inv c k s)(hk:k≤1000000)(hr:XO s.ep s.V L) :XO (SB c s).ep (SB c s).V (zf c s L):=by
 unfold SB zf
 split
 ·exact qV hc h hk hr
 ·exact hr
theorem wT (hc:GE c)(h:Inv c k s)(hr:XO s.ep s.V L) :XO (Ia c s).ep (Ia c s).V L:=by
 obtain ⟨g,hn,hp⟩:=LX hc h;have hm:0≤c 5:=by have:=hc.m5; omega
 exact iV (AA c s) (He c s) hn hp (wR hm (s.pt.take (EH c s)) (fun r hr=>h.ptf r (ZK hr)) h.fits hr)
theorem wQ (hc:GE c)(h:Inv c k s)(hk:k≤1000000)(hr:XO s.ep s.V L)(o:Oq) :XO (opO c s o).2.ep (opO c s o).2.V (Gn c s L o):=by
 by_cases h7:o.kd=7
 ·have e:opO c s o=xp c s:=by
   exact Zgj
  rw [e];unfold Gn;rw [if_pos h7];exact wT hc (SC hc h hk) (wP hc h hk hr)
 ·unfold Gn;rw [if_neg h7]
  by_cases h4:o.kd=4
  ·have e:opO c s o=Wp c s o:=by
    unfold opO;rw [if_neg Ze,if_neg Ze,if_neg Ze,if_pos h4]
   rw [e];unfold Wp
   by_cases h0:Iz c s o.ix=0
   ·rw [if_pos h0,if_pos ⟨h4,h0⟩]; exact wS hc h h0 hr
   ·rw [if_neg h0,if_neg (fun h=>h0 h.2)]; exact hr
  ·rw [if_neg (fun h=>h4 h.1)];unfold opO
   by_cases h1:o.kd=1
   ·rw [if_pos h1]; unfold Fw; split
    ·exact qW hr _
    ·exact hr
   rw [if_neg h1]
   by_cases h2:o.kd=2
   ·rw [if_pos h2]; exact zU
   rw [if_neg h2]
   by_cases h3:o.kd=3
   ·rw [if_pos h3]; exact zU
   rw [if_neg h3,if_neg h4]
   by_cases h5:o.kd=5
   ·rw [if_pos h5]; unfold cT; split <;> exact hr
   rw [if_neg h5]
   by_cases h6:o.kd=6
   ·rw [if_pos h6]; unfold cZ; split <;> exact hr
   rw [if_neg h6,if_neg h7];exact hr
end
end
section
open Go Go.RowKit
section
variable {c:Nat→Int} {k:Nat} {s:Sg} {e:Int} {v:Yd} {V:List Yd}
theorem Rz (he:Sr e) :(QA [Xw e,Qu 2] v).1=if v.st=2 then 0 else 8:=by
 by_cases h2:JC v.st 2=0
 ·rw [gQ he h2,if_neg (fun h=>by rw [h] at h2; exact absurd h2 YU)]
 ·rw [nz he h2,if_pos (bT h2).1]
theorem fR (hv:Vok e v)(hl:O8 e (c 11))(h2:v.st=2) :(LU v e c).1=0:=by
 have h1:v.sl=false:=(hv.lo (.inr h2)).2;unfold LU;rw [show Vs v e (c 11)=Vs { v with bal:=v.bal - penQ v c} e (c 11) from rfl];have h3: ¬JC v.st 7=0:=by rw [h2]; decide
 rw [q9 (v:= { v with bal:=v.bal - penQ v c}) h1 h3 hl]
theorem Inv.ep_in (h:Inv c k s)(hk:k≤1000000) :Sr s.ep:=by
 have:=h.ep0;have:=h.ep1;have:=h.bk1;unfold Sr; omega
theorem Inv.slk (hc:GE c)(h:Inv c k s)(hk:k≤1000000) :O8 s.ep (c 11):=by
 have:=h.ep0;have:=h.ep1;have:=h.bk1;have:=hc.gc;refine ⟨h.ep_in hk,?_⟩;have:=hc.gc.sd1;omega
theorem Zei (h:Inv c k s)(hk:k≤1000000)(i cl:Int) :mM c s i cl=if Et s.V i=true then 7 else if(Ub s.V i).st≠2 then 8 else if c 1≤(U4 s.F s.W cl).length then 6 else if R0 c s cl (Ub s.V i)=none then 10 else 0:=by
 unfold mM AY;rw [Rz (h.ep_in hk)]
 by_cases h2:(Ub s.V i).st=2
 ·simp only [h2,if_true,ne_eq,not_true,if_false]
 ·simp only [if_neg h2,ne_eq,h2,not_false_iff,if_true];rfl
theorem Zfj (hc:GE c)(h:Inv c k s)(hk:k≤1000000)(i:Int) :Iz c s i=if Et s.V i=true then 7 else if(Ub s.V i).st=2∧c 1≤s.F.length then 6 else(LU (Ub s.V i) s.ep c).1:=by
 unfold Iz
 by_cases ho:Et s.V i=true
 ·rw [if_pos ho,if_pos ho]
 ·rw [if_neg ho,if_neg ho];obtain ⟨n,_,hn⟩:=Bb (V:=s.V) (i:=i) (by simpa using ho)
  by_cases h2:(Ub s.V i).st=2
  ·have h0:=fR (c:=c) (h.vok _ (QM hn)) (h.slk hc hk) h2;rw [if_neg (fun hh=>hh h0),h0]
  ·have hq: ¬((Ub s.V i).st=2∧c 1≤s.F.length):=fun hh=>h2 hh.1
   rw [if_neg hq,if_neg hq]
   by_cases h0:(LU (Ub s.V i) s.ep c).1=0
   ·rw [if_neg (fun hh=>hh h0),h0]
   ·rw [if_pos h0]
def Lx (V:List Yd)(st:Int)(n:Nat) :List Nat:=(Xm n).filter fun i=>decide ((V.getD i ZZ).st=st)
theorem Ty (V:List Yd)(st:Int)(n:Nat) :Lx V st (n+1)=if(V.getD n ZZ).st=st then Lx V st n++[n] else Lx V st n:=by
 unfold Lx;rw [Gu,Ju]
 by_cases h:(V.getD n ZZ).st=st
 ·rw [if_pos h,Vz,if_pos (decide_eq_true h)]; rfl
 ·rw [if_neg h,Vz,if_neg (by rw [decide_eq_false h]; simp)]; simp
theorem AI (V:List Yd)(st:Int)(n:Nat) :(Lx V st n).Nodup:=List.nodup_range.sublist List.filter_sublist
theorem Nw {V:List Yd}{st:Int}{n i:Nat} :i ∈ Lx V st n ↔ i < n∧(V.getD i ZZ).st=st:=by simp [Lx]
theorem AH (V:List Yd)(st:Int) : ∀n,n≤V.length→((Lx V st n).length:Int)=Xj (V.take n) st
 | 0,_=>by simp [Lx,Xj]
 | n+1,h=>by
  have ih:=AH V st n Ze;have hv:V[n]?=some (V.getD n ZZ):=by rw [Zq,Zf Ze]; rfl
  rw [Ty,mu hv,Db,←ih]
  by_cases h2:(V.getD n ZZ).st=st
  ·rw [if_pos h2]; simp only [ZE,Y1,Xj,if_pos h2]; omega
  ·rw [if_neg h2]; simp only [Xj,if_neg h2]; omega
theorem xz (V:List Yd)(st:Int) :((Lx V st V.length).length:Int)=Xj V st:=by rw [AH V st _ (Zg _),List.take_length]
theorem Zcm (V:List Yd)(st:Int){n m:Nat}(h:n≤m) :(Lx V st n).length≤(Lx V st m).length:=by
 induction m with
 | zero=>rw [Nat.le_zero.1 h]; exact Zg _
 | succ m ih=>
  rcases Ys m n with h1 | h1
  ·rw [show n=m+1 by omega]; exact Zg _
  ·refine Z9 (ih h1) ?_;rw [Ty]
   split <;> simp
theorem rC {V:List Yd}{st:Int}{n:Nat}(hn:n≤V.length)(h:(Lx V st n).length=(Lx V st V.length).length) :Lx V st n=Lx V st V.length:=by
 have hp:Lx V st n <+:Lx V st V.length:=by
  unfold Lx;obtain ⟨d,hd⟩ : ∃d,V.length=n+d:=⟨V.length - n,by omega⟩;rw [hd,List.range_add,Ju];exact List.prefix_append _ _
 exact hp.eq_of_length h
def Hf (f:Yd→Yd) :List Yd→List Nat→List Yd
 | V,[]=>V
 | V,i::q=>Hf f (V.set i (f (V.getD i ZZ))) q
theorem Cf (f:Yd→Yd) : ∀(q:List Nat) (V:List Yd),(Hf f V q).length=V.length
 | [],V=>rfl
 | i::q,V=>by rw [Hf,Cf f q,Xt]
theorem getD_set_ne {V:List Yd}{i j:Nat}{x:Yd}(h:i≠j) :(V.set i x).getD j ZZ=V.getD j ZZ:=by
 rw [Zq,YB h,←Zq]
theorem OY {V:List Yd}{i:Nat}{x:Yd}(h:i < V.length) :(V.set i x).getD i ZZ=x:=by
 rw [Zq,YN h]; rfl
theorem dB (f:Yd→Yd) : ∀(q:List Nat) (V:List Yd),q.Nodup→(∀i ∈ q,i < V.length)→ ∀j,(Hf f V q).getD j ZZ=if j ∈ q then f (V.getD j ZZ) else V.getD j ZZ
 | [],V,_,_,j=>by simp [Hf]
 | i::q,V,hn,hq,j=>by
  obtain ⟨h1,h2⟩:=Qx.1 hn;have hi:=hq i ZI;rw [Hf,dB f q _ h2 (fun k hk=>by rw [Xt]; exact hq k (by simp [hk])) j]
  by_cases hj:j=i
  ·subst hj;rw [if_neg h1,OY hi,if_pos ZI]
  ·rw [getD_set_ne (fun e=>hj e.symm)]
   by_cases h3:j ∈ q
   ·rw [if_pos h3,if_pos (by simp [h3])]
   ·rw [if_neg h3,if_neg (by simp [hj,h3])]
theorem aw {V W:List Yd}(hl:V.length=W.length)(h: ∀j,j < V.length→V.getD j ZZ=W.getD j ZZ) :V=W:=by
 apply List.ext_getElem hl;intro j h1 h2;have:=h j h1;rwa [Zq,Zq,Zf h1,Zf h2] at this
theorem oT {f:Yd→Yd}{V:List Yd}{j:Nat}(h:j < V.length) :(V.map f).getD j ZZ=f (V.getD j ZZ):=by
 rw [Zq,Zq,ZP,Zf h]; rfl
theorem uB (f:Yd→Yd)(V:List Yd)(st:Int)(hf: ∀v,v.st≠st→f v=v) :Hf f V (Lx V st V.length)=V.map f:=by
 refine aw (by rw [Cf,YE]) fun j hj=>?_
 rw [Cf] at hj;rw [dB f _ _ (AI _ _ _) (fun i hi=>(Nw.1 hi).1),oT hj]
 split
 ·rfl
 ·rename_i h
  exact (hf _ fun Um=>h (Nw.2 ⟨hj,Um⟩)).symm
end
end
end Go.Proofs.YtianiiijaopdpaaGreat
