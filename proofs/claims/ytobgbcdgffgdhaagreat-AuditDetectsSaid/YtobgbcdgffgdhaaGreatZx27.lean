/- Part 27 of 34: Sg FM Phase Inv Tick Facts Rg RgT RgO Code In2. -/
import Derived.Test.YtobgbcdgffgdhaaGreatZx00
import Derived.Test.YtobgbcdgffgdhaaGreatZx15
import Derived.Test.YtobgbcdgffgdhaaGreatZx25
import Derived.Test.YtobgbcdgffgdhaaGreatZx26
namespace Go.Proofs.YtobgbcdgffgdhaaGreat
set_option linter.unusedVariables false
set_option linter.unusedSimpArgs false
set_option maxRecDepth 100000
set_option maxHeartbeats 8000000
open _root_.Int renaming emod_lt_of_pos -> KF, emod_nonneg -> JR, le_refl -> Xy, mul_le_mul_of_nonneg_left -> VV, toNat_natCast -> Y7
open _root_.List renaming append_assoc -> Qd, cons_append -> Yf, count_cons -> Uj, ext_getElem? -> Ve, filter_append -> Q7, filter_cons -> JZ, getD_eq_getElem?_getD -> Zo, getElem?_append_left -> Yw, getElem?_append_right -> YY, getElem?_eq_getElem -> Zg, getElem?_eq_some_iff -> Zk, getElem?_map -> ZM, getElem?_set_ne -> Yn, getElem?_set_self -> Yz, length_append -> ZI, length_cons -> Yg, length_drop -> J0, length_map -> Yt, length_set -> Xb, length_singleton -> Xq, map_append -> Xv, map_cons -> Xa, map_map -> Vf, mem_append -> Yb, mem_cons -> ZX, mem_filter -> QL, mem_map -> Yc, mem_map_of_mem -> QR, mem_of_getElem? -> Zz, mem_of_mem_drop -> Xn, mem_of_mem_take -> ZT, mem_range -> XT, mem_singleton -> Ym, nodup_append -> QU, nodup_cons -> XH, range -> YO, range_succ -> Kh, take_append_drop -> QS, take_length -> J1, take_sublist -> Uy
open _root_.Nat renaming le_refl -> Zh, le_trans -> ZZ, lt_or_ge -> YI
open _root_.Option.some renaming inj -> ZP
theorem dK {G:Prop}(h:G:=by rw [RI,<-he]; exact hi) :G:=h
theorem Dv {G:Prop}(h:G:=by simp [hi]) :G:=h
theorem Fv {G:Prop}(h:G:=by rw [List.length_take]; omega) :G:=h
theorem ZmD {G:Prop} (h:G:=by
  refine ⟨⟨?_,fun h=>by simp at h,fun h=>⟨by simp,(L9 h).2⟩,fun h=>by simp at h,hw0⟩,fun h=>by simp [Vt] at h,fun h=>by have:=h.1; simp at this⟩
  rcases h7 with h | ⟨_,h9,SG⟩
  ·exact .inl h
  ·exact .inr ⟨by simp,h9,SG⟩) :G:=h
theorem ZmI {G:Prop} (h:G:=by
  have hn:=(List.getElem?_eq_some_iff.1 hv').1;obtain ⟨u,hu,hp,_⟩:=h1 n V[n] (List.getElem?_eq_getElem Zd);rw [hv'] at hu;obtain rfl:=Option.some.inj hu;exact ⟨_,_,List.getElem?_eq_getElem Zd,hp⟩) :G:=h
theorem Zna {G:Prop} (h:G:=by
  obtain ⟨m,u,e,hu,hq⟩:=h.lnx i hm;obtain rfl:n=m:=Zd;rw [hv] at hu;obtain rfl:=Option.some.inj hu;have:=hq.1;omega) :G:=h
theorem Ze3 {G:Prop} (h:G:=by
  unfold CR Ij;rw [List.length_map];exact Nat.le_trans (RZ _ _ _) Fv) :G:=h
theorem Zfp {G:Prop} (h:G:=by
  intro j hj;rw [hV];exact (h.pdx j hj).set hv fun hq=>by unfold Vt at hq; omega) :G:=h
theorem Zfs {G:Prop} (h:G:=by
  unfold YB;rw [if_neg Zd];unfold QM;rw [if_neg Zd];exact h) :G:=h
theorem Zfv {G:Prop} (h:G:=by
  rcases hj with (hj | hj) | hj
  ·exact .inl hj
  ·exact absurd hj Pu
  ·exact .inr hj) :G:=h
theorem ZfV {G:Prop} (h:G:=by
  simp only [L1,List.length_append,List.length_singleton];omega) :G:=h
theorem ZfW {G:Prop} (h:G:=by
  unfold SA
  split
  ·rename_i h0; exact Zdd hc h h0 hr
  ·exact hr) :G:=h
theorem ZfX {G:Prop} (h:G:=by
  rw [List.getD_eq_getElem?_getD,List.getElem?_eq_getElem hi];rfl) :G:=h
theorem Tl {G:Prop} (h:G:=by
  simp only [Fg];omega) :G:=h
section
open Go Go.RowKit
structure Sg where
 bk:Int
 ep:Int
 V:List ZN
 D:Int
 P:Int
 B:Int
 pd:List Int
 F:List Int
 W:List Int
 mg:List (Int × Int)
 pt:List Rq
 cu:Nat
 cy:Int
structure Rp where
 kd:Int
 cd:Int
 ix:Int
 bl:Int
 ep:Int
 dl:Int
 la:List As
 lp:List Pm
 vs:Int
def dY:Sg:=⟨0,0,[],0,0,0,[],[],[],[],[],0,0⟩
def BN (s:Sg)(k c:Int) :Rp:=⟨k,c,-1,s.bk,s.ep,-1,[],[],0⟩
def LW (s:Sg)(k i d:Int) :Rp:=⟨k,0,i,s.bk,s.ep,d,[],[],0⟩
def wV (V:List ZN) :Int->Int:=KK (Qj V)
def VW (V:List ZN)(i:Int) :ZN:=V.getD i.toNat ZU
def F6 (V:List ZN)(i:Int) :Bool:=decide (i < 0\/(V.length:Int)<=i)
def Lc (x:Int) :ZN:=⟨x,1,false,-1,-1,-1,-1⟩
def Tu (c:Nat->Int)(s:Sg)(x:Int) :Int:=
 if x < c 2\/c 3 < x then 3 else if c 0<=s.V.length then 5 else if c 1<=s.pd.length then 6
 else if c 4 -(s.D - s.P - s.B)< x then 4 else if 18446744073709551615 < s.D+x then 10 else 0
def L1 (s:Sg)(x:Int) :Sg:= { s with V:=s.V++[Lc x],D:=s.D+x,pd:=s.pd++[(s.V.length:Int)]}
def LY (c:Nat->Int)(s:Sg)(o:Oq) :Rp × Sg:=
 if Tu c s o.am=0 then(LW s o.kd s.V.length (-1),L1 s o.am) else(BN s o.kd (Tu c s o.am),s)
def CU (s:Sg)(v:ZN) :Int × ZN:=QE [XA s.ep,QH 2] v
def WM (c:Nat->Int)(s:Sg)(cl:Int)(v:ZN) :Option Int:=
 if KS ((KH s.F s.W cl).map (wV s.V)) (KH s.F s.W cl).length=true then
  SM (BB ((KH s.F s.W cl).map (wV s.V)) (KH s.F s.W cl).length) v.bal c (c 10+DS c) s.ep
 else none
def qJ (c:Nat->Int)(s:Sg)(i cl:Int) :Int:=
 if F6 s.V i=true then 7 else if(CU s (VW s.V i)).1≠0 then(CU s (VW s.V i)).1
 else if c 1<=(UA s.F s.W cl).length then 6 else if WM c s cl (VW s.V i)=none then 10 else 0
def exD (c:Nat->Int)(s:Sg)(i cl:Int) :Int:=(WM c s cl (VW s.V i)).getD 0
def L8 (c:Nat->Int)(s:Sg)(i cl:Int) :Sg:=
 { s with V:=s.V.set i.toNat { (CU s (VW s.V i)).2 with dl:=exD c s i cl},F:=LH (c 1).toNat s.F cl i,W:=LI (c 1).toNat s.W cl i}
def SA (c:Nat->Int)(s:Sg)(o:Oq)(cl:Int) :Rp × Sg:=
 if qJ c s o.ix cl=0 then(LW s o.kd o.ix (exD c s o.ix cl),L8 c s o.ix cl) else(BN s o.kd (qJ c s o.ix cl),s)
def da (c:Nat->Int)(s:Sg)(i:Int) :Int:=
 if F6 s.V i=true then 7 else if(Fl (VW s.V i) s.ep c).1≠0 then(Fl (VW s.V i) s.ep c).1
 else if(VW s.V i).st=2/\c 1<=s.F.length then 6 else 0
def MW (c:Nat->Int)(s:Sg)(i:Int) :Sg:=
 { s with V:=s.V.set i.toNat (Fl (VW s.V i) s.ep c).2,B:=s.B+slN (VW s.V i) s.ep c,F:=if(VW s.V i).st=2 then s.F++[i] else s.F}
def av (c:Nat->Int)(s:Sg)(o:Oq) :Rp × Sg:=
 if da c s o.ix=0 then(LW s o.kd o.ix (-1),MW c s o.ix) else(BN s o.kd (da c s o.ix),s)
def cnC (c:Nat->Int)(s:Sg)(p:Int × Int) :Int:=if ES s.V p (c 6)≠0 then ES s.V p (c 6) else if c 1<=s.mg.length then 6 else 0
def jR (c:Nat->Int)(s:Sg)(o:Oq) :Rp × Sg:=
 if cnC c s (o.ix,o.tg)=0 then(LW s o.kd o.ix (-1),{ s with mg:=s.mg++[(o.ix,o.tg)]}) else(BN s o.kd (cnC c s (o.ix,o.tg)),s)
def paC (c:Nat->Int)(s:Sg)(r:Rq) :Int:=if Ru s.V r≠0 then Ru s.V r else if c 1<=s.pt.length then 6 else 0
def lC (c:Nat->Int)(s:Sg)(o:Oq) :Rp × Sg:=
 if paC c s ⟨o.ix,o.am⟩=0 then(LW s o.kd o.ix (-1),{ s with pt:=s.pt++[⟨o.ix,o.am⟩]}) else(BN s o.kd (paC c s ⟨o.ix,o.am⟩),s)
def YB (e:Int)(v:ZN) :ZN:=if v.st=3/\v.ex=e then { v with st:=4} else v
def QM (e:Int)(v:ZN) :ZN:=if v.st=4/\v.wd<=e then { v with st:=5} else v
def ON (ev:Int)(v:ZN) :ZN:= { v with st:=Jz v.st ev}
def Rz (ev:Int) :List ZN->List Int->List ZN
 | V,[]=>V
 | V,i::q=>Rz ev (V.set i.toNat (ON ev (VW V i))) q
def DJ (c:Nat->Int)(e:Int) :List ZN->List (Int × Int)->List ZN
 | V,[]=>V
 | V,p::q=>DJ c e (V.set p.1.toNat (QE [XM e,Ja e (c 10)] (VW V p.1)).2) q
def Dr (s:Sg) :List ZN:=(s.V.map (YB s.ep)).map (QM s.ep)
def Rr (c:Nat->Int)(s:Sg) :Int:=Fy (Yh (Dr s)) (c 7) (c 8)
def Nl (c:Nat->Int)(s:Sg) :List (Int × Int) × List Int × List Int × Int:=He (wV (Dr s)) s.F s.W s.cy (Rr c s)
def CO (c:Nat->Int)(s:Sg) :List ZN:=DJ c (s.ep+1) (Dr s) (Nl c s).1
def St (c:Nat->Int)(s:Sg) :Nat:=LC (Rr c s) (s.pd.map (wV (CO c s)))
def p5 (c:Nat->Int)(s:Sg) :List ZN:=Rz 1 (CO c s) (s.pd.take (St c s))
def br (c:Nat->Int)(s:Sg) :List As:=(Nl c s).1.map fun p=>⟨p.1,p.2,s.ep+1⟩
def bdS (c:Nat->Int)(s:Sg) :Sg:=
 { s with V:=Kb (c 6) (p5 c s) (s.mg.take (B9 c s.mg)),F:=(Nl c s).2.1,W:=(Nl c s).2.2.1,cy:=FR (Nl c s),pd:=s.pd.drop (St c s),mg:=s.mg.drop (B9 c s.mg)}
def SR (c:Nat->Int)(s:Sg) :Sg:=
 if(s.bk+1)%c 13=0 then bdS c { s with bk:=s.bk+1,ep:=s.ep+1} else { s with bk:=s.bk+1}
def nxO (c:Nat->Int)(s:Sg) :List As:=if(s.bk+1)%c 13=0 then br c { s with bk:=s.bk+1,ep:=s.ep+1} else []
def goN (L:List Bool)(s:Nat)(v p:Int) :Nat->Nat->Nat
 | 0,k=>k
 | f+1,k=>if v<=(k:Int)\/L.length<=k\/p<=((Kq L s k).length:Int) then k else goN L s v p f (k+1)
def LN (L:List Bool)(s:Nat)(v p:Int) :Nat:=goN L s v p L.length 0
def Mw (e:Int)(v:ZN) :Int × ZN:=QE [EG e,QH 5] { v with bal:=v.bal - v.bal}
def IS (e:Int)(v:ZN) :Int:=if(Mw e v).1=0 then v.bal else 0
def Jd (e:Int) :List ZN->List Nat->List ZN
 | V,[]=>V
 | V,i::q=>Jd e (V.set i (Mw e (V.getD i ZU)).2) q
def Qq (e:Int) :List ZN->List Nat->List Pm
 | _,[]=> []
 | V,i::q=>⟨i,IS e (V.getD i ZU),true⟩::Qq e (V.set i (Mw e (V.getD i ZU)).2) q
def OS (V:List ZN) :List Bool:=V.map fun v=>decide (v.st=5)
def Vn:List Pm->Int
 | []=>0
 | p::q=>p.am+Vn q
def LO (c:Nat->Int)(s:Sg) :Nat:=UX c s.pt
def M4 (c:Nat->Int)(s:Sg) :List ZN:=XO (c 5) s.V (s.pt.take (LO c s))
def Ij (l:List Py) :List Pm:=l.map fun p=>⟨p.ix,p.am,p.fu⟩
def CR (c:Nat->Int)(s:Sg) :List Pm:=Ij (KV (c 5) s.V (s.pt.take (LO c s)))
def sQ (c:Nat->Int)(s:Sg) :Nat:=LN (OS (M4 c s)) s.cu (c 14 -(LO c s:Nat)) (c 15 -((CR c s).length:Nat))
def dZ (c:Nat->Int)(s:Sg) :List Nat:=Kq (OS (M4 c s)) s.cu (sQ c s)
def aF (c:Nat->Int)(s:Sg) :List Pm:=CR c s++Qq s.ep (M4 c s) (dZ c s)
def dj (c:Nat->Int)(s:Sg) :Sg:=
 { s with V:=Jd s.ep (M4 c s) (dZ c s),P:=s.P+Vn (aF c s),pt:=s.pt.drop (LO c s),cu:=ER (M4 c s).length s.cu (sQ c s)}
def tkO (c:Nat->Int)(s:Sg) :Rp × Sg:=
 (⟨7,0,-1,(SR c s).bk,(SR c s).ep,-1,nxO c s,aF c (SR c s),(LO c (SR c s) :Nat)+(sQ c (SR c s) :Nat)⟩,dj c (SR c s))
def Hl (c:Nat->Int)(s:Sg)(o:Oq) :Rp × Sg:=
 if o.kd=1 then LY c s o else if o.kd=2 then SA c s o 1 else if o.kd=3 then SA c s o 0 else if o.kd=4 then av c s o
 else if o.kd=5 then jR c s o else if o.kd=6 then lC c s o else if o.kd=7 then tkO c s else(BN s o.kd 11,s)
def EP (c:Nat->Int) :Sg->List Oq->Sg
 | s,[]=>s
 | s,o::q=>EP c (Hl c s o).2 q
def NM (c:Nat->Int) :Sg->List Oq->List Rp
 | _,[]=> []
 | s,o::q=>(Hl c s o).1::NM c (Hl c s o).2 q
end
section
open Go Go.RowKit
structure FM (e:Int)(v:ZN) :Prop where
 fit:Yp v
 lo:v.st=1\/v.st=2->v.ex= -1/\v.sl=false
 s3:v.st=3->v.ex= -1\/(v.ex=e+1/\e+1 < v.wd)
 s4:v.st=4->e < v.wd
 s5:v.st=5->v.wd<=e
 w:v.wd<=1099511627776
def VU (V:List ZN)(p:ZN->Prop)(i:Int) :Prop:= ∃(m:Nat) (u:ZN),i=(m:Int)/\V[m]?=some u/\p u
def Vt (u:ZN) :Prop:=u.st=1
def UE (u:ZN) :Prop:=u.st=3/\u.ex= -1
theorem VU.set {V:List ZN}{n:Nat}{v v':ZN}{p:ZN->Prop}{i:Int}(hv:V[n]?=some v)(h:p v->p v')(hx:VU V p i) :VU (V.set n v') p i:=by
 obtain ⟨m,u,e,hu,hp⟩:=hx;have hm:=(Zk.1 hv).1
 by_cases Ia:n=m
 ·subst Ia;rw [hv] at hu;obtain rfl:=ZP hu;exact ⟨n,v',e,by rw [Yz hm],h hp⟩
 ·exact ⟨m,u,e,by rw [Yn Ia]; exact hu,hp⟩
theorem VU.set_ne {V:List ZN}{n:Nat}{v':ZN}{p:ZN->Prop}{i:Int}(hi:i≠(n:Int))(hx:VU V p i) :VU (V.set n v') p i:=by
 obtain ⟨m,u,e,hu,hp⟩:=hx;exact ⟨m,u,e,by rw [Yn Zd]; exact hu,hp⟩
theorem VU.append {V W:List ZN}{p:ZN->Prop}{i:Int}(hx:VU V p i) :VU (V++W) p i:=by
 obtain ⟨m,u,e,hu,hp⟩:=hx;exact ⟨m,u,e,by rw [Yw (Zk.1 hu).1]; exact hu,hp⟩
theorem VU.lt {V:List ZN}{p:ZN->Prop}{i:Int}(hx:VU V p i) :0<=i/\i < (V.length:Int):=by
 obtain ⟨m,u,e,hu,hp⟩:=hx;have:=(Zk.1 hu).1;omega
theorem VU.map {V:List ZN}{f:ZN->ZN}{p:ZN->Prop}{i:Int}(h: ∀v,p v->p (f v))(hx:VU V p i) :VU (V.map f) p i:=by
 obtain ⟨m,u,e,hu,hp⟩:=hx;exact ⟨m,f u,e,by rw [ZM,hu]; rfl,h u hp⟩
theorem UK {V:List ZN}{i:Int}(h:F6 V i=false) : ∃n:Nat,i=(n:Int)/\V[n]?=some (VW V i):=by
 unfold F6 at h;simp at h;refine ⟨i.toNat,by omega,?_⟩;unfold VW;exact yY
theorem Hp {V:List ZN}{n:Nat}{v:ZN}(h:V[n]?=some v) :VW V (n:Int)=v:=by unfold VW; rw [Zo,Y7,h]; rfl
theorem Kt {V:List ZN}{n:Nat}{v:ZN}{p:ZN->Prop}(h: ∀x ∈ V,p x)(hv:p v) : ∀x ∈ V.set n v,p x:=fun x hx=>by
 rcases List.mem_or_eq_of_mem_set hx with hx | rfl
 ·exact h x hx
 ·exact hv
theorem Xt {V:List ZN}{n:Nat}{v:ZN}(h:V[n]?=some v) :v ∈ V:=Zz h
theorem mH {x:Int}(h0:0<=x)(h1:x<=18446744073709551615) :(Lit.int .u64 x).wf=true:=jf
theorem ZdG {x:Int}(h0: -9223372036854775808<=x)(h1:x<=9223372036854775807) :(Lit.int .i64 x).wf=true:=jf
variable {e:Int} {v:ZN} {c:Nat->Int}
theorem wW {x:Int}(h0:0<=x)(h1:x<=18446744073709551615) :FM e (Lc x):=
 ⟨⟨mH h0 h1,rfl⟩,fun _=>⟨rfl,rfl⟩,fun h=>absurd h (by simp [Lc]),fun h=>absurd h (by simp [Lc]),fun h=>absurd h (by simp [Lc]),by show (-1:Int)<=_; omega⟩
theorem ir {s:Int}(h:Jz s 2≠0) :s=2/\Jz s 2=3:=by
 unfold Jz at h ⊢
 repeat' split at h
 all_goals first | omega | (exact absurd rfl h)
theorem lW {s:Int}(h:Jz s 7≠0) :(s=2\/s=3)/\Jz s 7=3\/(s=4\/s=5)/\Jz s 7=4:=by
 unfold Jz at h ⊢;rw [if_pos rfl] at h ⊢
 by_cases h1:s=2\/s=3
 ·exact .inl ⟨h1,if_pos h1⟩
 ·by_cases h2:s=4\/s=5
  ·exact .inr ⟨h2,by rw [if_neg h1,if_pos h2]⟩
  ·rw [if_neg h1,if_neg h2] at h; exact absurd rfl h
theorem Rl (h:(QE [XA e,QH 2] v).1=0) :v.st=2/\(QE [XA e,QH 2] v).2= { v with rq:=e,st:=3}:=by
 by_cases h1:TV e
 ·by_cases h2:Jz v.st 2=0
  ·rw [nj h1 h2] at h; simp at h
  ·rw [tN h1 h2];obtain ⟨h3,h4⟩:=ir h2;exact ⟨h3,by rw [h4]⟩
 ·rw [Za8 h1] at h; simp at h
theorem Za9 (h:FM e v)(h0:(QE [XA e,QH 2] v).1=0)(d:Int) :FM e { (QE [XA e,QH 2] v).2 with dl:=d}:=by
 obtain ⟨h1,h2⟩:=Rl h0;rw [h2];exact ⟨⟨h.fit.1,rfl⟩,fun h=>absurd h ZE,fun _=> .inl (h.lo (.inr h1)).1,fun h=>absurd h ZE,fun h=>absurd h ZE,h.w⟩
theorem MY (h:(Fl v e c).1=0) :v.sl=false/\((v.st=2\/v.st=3)/\(Fl v e c).2.st=3\/(v.st=4\/v.st=5)/\(Fl v e c).2.st=4)/\
  (Fl v e c).2.ex=v.ex/\(Fl v e c).2.wd=max v.wd (e+c 11)/\(Fl v e c).2.bal=v.bal - DQ v c:=by
 unfold Fl at h ⊢;rw [show KI v e (c 11)=KI { v with bal:=v.bal - DQ v c} e (c 11) from rfl] at h ⊢
 by_cases h1:v.sl=true
 ·exact pg
 ·have h1:v.sl=false:=QT
  by_cases h2:Jz v.st 7=0
  ·exact o9
  ·by_cases h3:OR e (c 11)
   ·rw [oD (v:= { v with bal:=v.bal - DQ v c}) h1 h2 h3];exact ⟨h1,lW h2,rfl,rfl,rfl⟩
   ·exact o7
theorem sD (h:(Fl v e c).1=0) :OR e (c 11):=by
 unfold Fl at h;rw [show KI v e (c 11)=KI { v with bal:=v.bal - DQ v c} e (c 11) from rfl] at h
 by_cases h1:v.sl=true
 ·exact pg
 ·have h1:v.sl=false:=QT
  by_cases h2:Jz v.st 7=0
  ·exact o9
  ·by_cases h3:OR e (c 11)
   ·exact h3
   ·exact o7
theorem sE (h:FM e v)(h0:(Fl v e c).1=0)(hc:0 < c 11) :FM e (Fl v e c).2:=by
 obtain ⟨h1,h2,h3,h4,h5⟩:=MY h0;refine ⟨Cf h.fit h0,fun h=>by rcases h2 with h2 | h2 <;> omega,fun h6=>?_,fun h6=>by rw [h4]; omega,fun h6=>by rcases h2 with h2 | h2 <;> omega,by have:=(sD h0).2; have:=h.w; rw [h4]; omega⟩
 rcases h2 with ⟨h2 | h2,h7⟩ | h2
 ·exact .inl (h3.trans (h.lo (.inr h2)).1)
 ·rw [h3,h4]
  rcases h.s3 h2 with h8 | h8
  ·exact .inl h8
  ·exact .inr ⟨h8.1,by omega⟩
 ·omega
theorem Nt (h:FM e v)(he:0<=e) :FM (e+1) (QM (e+1) (YB (e+1) v))/\((QM (e+1) (YB (e+1) v)).st=3->(QM (e+1) (YB (e+1) v)).ex= -1)/\(QM (e+1) (YB (e+1) v)).bal=v.bal:=by
 obtain ⟨hf,h2,h3,h4,h5,h6⟩:=h;unfold YB
 by_cases c1:v.st=3/\v.ex=e+1
 ·rw [if_pos c1];unfold QM;have hw:e+1 < v.wd:=by
   rcases h3 c1.1 with h | h
   ·omega
   ·exact h.2
  rw [if_neg Lu];exact ⟨⟨⟨hf.1,rfl⟩,fun h=>absurd h ZE,fun h=>absurd h ZE,fun _=>hw,fun h=>absurd h ZE,h6⟩,fun h=>absurd h ZE,rfl⟩
 ·rw [if_neg c1];unfold QM
  by_cases c2:v.st=4/\v.wd<=e+1
  ·rw [if_pos c2];exact ⟨⟨⟨hf.1,rfl⟩,fun h=>absurd h ZE,fun h=>absurd h ZE,fun h=>absurd h ZE,fun _=>c2.2,h6⟩,fun h=>absurd h ZE,rfl⟩
  ·rw [if_neg c2];refine ⟨⟨hf,h2,fun h=> .inl ?_,fun h=>by omega,fun h=>by have:=h5 h; omega,h6⟩,fun h=>?_,rfl⟩
   all_goals
    rcases h3 h with k | k
    ·exact k
    ·exact absurd ⟨h,k.1⟩ c1
theorem At {p:Int} :(Vt v->Vt (QM p (YB p v)))/\(0<=p->UE v->UE (QM p (YB p v))):=by
 refine ⟨fun h=>?_,fun h0 h=>?_⟩
 ·unfold Vt at*;exact Zfs
 ·unfold UE at*;exact Zfs
theorem bg (h:FM e v)(hq:UE v)(hl:OR (e+1) (c 10))(hc:0 < c 10) :(QE [XM (e+1),Ja (e+1) (c 10)] v).1=0/\FM e (QE [XM (e+1),Ja (e+1) (c 10)] v).2/\
  (QE [XM (e+1),Ja (e+1) (c 10)] v).2= { v with ex:=e+1,wd:=max v.wd (e+1+c 10)}:=by
 rw [be hq hl];exact ⟨rfl,⟨h.fit,fun k=>by have:=hq.1; simp only at k; omega,fun _=> .inr ⟨rfl,by simp only; omega⟩,fun k=>by have:=hq.1; simp only at k; omega,fun k=>by have:=hq.1; simp only at k; omega,by have:=hl.2; have:=h.w; simp only; omega⟩,rfl⟩
theorem uU (h:FM e v)(hp:Vt v) :ON 1 v= { v with st:=2}/\FM e (ON 1 v):=by
 have e1:ON 1 v= { v with st:=2}:=by unfold ON; rw [show v.st=1 from hp]; rfl
 rw [e1];exact ⟨rfl,⟨h.fit.1,rfl⟩,fun _=>h.lo (.inl hp),fun k=>absurd k ZE,fun k=>absurd k ZE,fun k=>absurd k ZE,h.w⟩
theorem Po (h5:v.st=5)(hw:v.wd<=e) :Mw e v=(0,{ v with bal:=0,st:=6})/\IS e v=v.bal:=by
 have h1:Mw e v=(0,{ v with bal:=0,st:=6}):=by
  unfold Mw;rw [Zij (v:= { v with bal:=v.bal - v.bal}) h5 hw,Int.sub_self]
 exact ⟨h1,by unfold IS; rw [h1]; rfl⟩
theorem fO (hw:v.wd<=1099511627776) :FM e { v with bal:=0,st:=6}:=
 ⟨⟨mH ZE ZE,rfl⟩,fun k=>absurd k ZE,fun k=>absurd k ZE,fun k=>absurd k ZE,fun k=>absurd k ZE,hw⟩
end
section
open Go Go.RowKit
structure js (e:Int)(V W:List ZN) :Prop where
 len:W.length=V.length
 vok: ∀v ∈ W,FM e v
 pd: ∀i,VU V Vt i->VU W Vt i
 qd: ∀i,VU V UE i->VU W UE i
theorem js.refl {e:Int}{V:List ZN}(h: ∀v ∈ V,FM e v) :js e V V:=⟨rfl,h,fun _ h=>h,fun _ h=>h⟩
theorem js.trans {e:Int}{U V W:List ZN}(h:js e U V)(k:js e V W) :js e U W:=
 ⟨k.len.trans h.len,k.vok,fun i hi=>k.pd i (h.pd i hi),fun i hi=>k.qd i (h.qd i hi)⟩
theorem Zcx {V:List ZN}{v:ZN}(h:v ∈ V) : ∃n:Nat,V[n]?=some v:=List.getElem?_of_mem h
theorem aH {V:List ZN}{f:ZN->ZN}(h: ∀v ∈ V,(f v).bal=v.bal) :Zw (V.map f)=Zw V:=by
 induction V with
 | nil=>rfl
 | cons v V ih=>
  simp only [Xa,Zw];rw [h v ZE,ih (fun x hx=>h x Dp)]
section
variable {e:Int} {V:List ZN} {c:Nat->Int}
theorem jK (e:Int)(V:List ZN) :(V.map (YB e)).map (QM e)=V.map fun v=>QM e (YB e v):=by rw [Vf]; rfl
theorem TL (h: ∀v ∈ V,FM e v)(he:0<=e) :js (e+1) V ((V.map (YB (e+1))).map (QM (e+1)))/\Zw ((V.map (YB (e+1))).map (QM (e+1)))=Zw V/\
  ∀v ∈ (V.map (YB (e+1))).map (QM (e+1)),v.st=3->v.ex= -1:=by
 rw [jK];refine ⟨⟨by simp,fun v hv=>?_,fun i hi=>hi.map fun v=>At.1,fun i hi=>hi.map fun v=>At.2 Zd⟩,aH fun v hv=>(Nt (h v hv) he).2.2,fun v hv=>?_⟩
 ·obtain ⟨u,hu,rfl⟩:=Yc.1 hv;exact (Nt (h u hu) he).1
 ·obtain ⟨u,hu,rfl⟩:=Yc.1 hv;exact (Nt (h u hu) he).2.1
theorem UZ (V:List ZN) :Zw V=(Qj V).sum:=by
 induction V with
 | nil=>rfl
 | cons v V ih=>simp only [Zw,ih,Qj,Xa,List.sum_cons]
theorem eH {V:List ZN}{n:Nat}{v v':ZN}(hv:V[n]?=some v)(h:v'.bal=v.bal) :Qj (V.set n v')=Qj V:=by
 apply Ve;intro i;unfold Qj;rw [ZM,ZM]
 by_cases hi:n=i
 ·subst hi;rw [Yz (Zk.1 hv).1,hv];simp [h]
 ·rw [Yn hi]
theorem O8 (hl:OR (e+1) (c 10))(hc:0 < c 10) : ∀(q:List (Int × Int)) (V:List ZN),(∀v ∈ V,FM e v)->(q.map (·.1)).Nodup->(∀p ∈ q,VU V UE p.1)->
  (DJ c (e+1) V q).length=V.length/\(∀v ∈ DJ c (e+1) V q,FM e v)/\Qj (DJ c (e+1) V q)=Qj V/\(∀i,VU V Vt i->VU (DJ c (e+1) V q) Vt i)/\
  (∀i,i ∉ q.map (·.1)->VU V UE i->VU (DJ c (e+1) V q) UE i)
 | [],V,h,_,_=>⟨rfl,h,rfl,fun _ h=>h,fun _ _ h=>h⟩
 | p::q,V,h,hn,hq=>by
  obtain ⟨n,v,RI,hv,nX⟩:=hq p ZE;have ha:VW V p.1=v:=by rw [RI]; exact Hp hv
  rw [Xa,XH] at hn;obtain ⟨k0,k1,k2⟩:=bg (h v (Xt hv)) nX hl hc;have e1:p.1.toNat=n:=Zd;unfold DJ;rw [ha,e1];have hb:Qj (V.set n (QE [XM (e+1),Ja (e+1) (c 10)] v).2)=Qj V:=eH hv (by rw [k2]);have hnp: ¬Vt v:=fun h=>by have:=nX.1; unfold Vt at h; omega
  obtain ⟨i1,i2,i3,i4,i5⟩:=O8 hl hc q (V.set n (QE [XM (e+1),Ja (e+1) (c 10)] v).2) (Kt h k1) hn.2 (fun p' Aj=>(hq p' (by simp [Aj])).set_ne (fun he=>hn.1 (by
   rw [RI,<-he];exact QR Aj)))
  refine ⟨i1.trans ZE,i2,i3.trans hb,fun i hi=>i4 i (hi.set hv fun h=>absurd h hnp),fun i hni hi=>?_⟩;rw [Xa,ZX] at hni;exact i5 i (fun h=>hni (.inr h)) (hi.set_ne (fun h=>hni (.inl (h.trans RI.symm))))
theorem TO: ∀(q:List Int) (V:List ZN),(∀v ∈ V,FM e v)->q.Nodup->(∀i ∈ q,VU V Vt i)->
  (Rz 1 V q).length=V.length/\(∀v ∈ Rz 1 V q,FM e v)/\Qj (Rz 1 V q)=Qj V/\(∀i,VU V UE i->VU (Rz 1 V q) UE i)/\(∀i,i ∉ q->VU V Vt i->VU (Rz 1 V q) Vt i)
 | [],V,h,_,_=>⟨rfl,h,rfl,fun _ h=>h,fun _ _ h=>h⟩
 | x::q,V,h,hn,hq=>by
  obtain ⟨n,v,RI,hv,tz⟩:=hq x ZE;have ha:VW V x=v:=by rw [RI]; exact Hp hv
  rw [XH] at hn;obtain ⟨k1,k2⟩:=uU (h v (Xt hv)) tz;have e1:x.toNat=n:=Zd;unfold Rz;rw [ha,e1];have hb:Qj (V.set n (ON 1 v))=Qj V:=eH hv (by rw [k1]);have hnq: ¬UE v:=fun h=>by have:=h.1; unfold Vt at tz; omega
  obtain ⟨i1,i2,i3,i4,i5⟩:=TO q (V.set n (ON 1 v)) (Kt h k2) hn.2 (fun i hi=>(hq i Dv).set_ne (fun he=>hn.1 dK));refine ⟨i1.trans ZE,i2,i3.trans hb,fun i hi=>i4 i (hi.set hv fun h=>absurd h hnq),fun i hni hi=>?_⟩;rw [ZX] at hni;exact i5 i (fun h=>hni (.inr h)) (hi.set_ne (fun h=>hni (.inl (h.trans RI.symm))))
theorem Zcy (mb:Int)(q:List (Int × Int))(h: ∀v ∈ V,FM e v) :js e V (Kb mb V q)/\Zw (Kb mb V q)=Zw V:=by
 refine ⟨?_,(Ci mb q V).1⟩;refine Hc mb (I:=fun W=>js e V W) ?_ q V (js.refl h);intro l i j s d hl Kj hi hj hc;obtain ⟨bV,vE,_,_,_,_⟩:=Rv hc;obtain ⟨f1,f2⟩:=bL (hl.vok s (Xt hi)).fit (hl.vok d (Xt hj)).fit hc;have kd:=hl.vok d (Xt hj);have SI:(l.set i (Fg s))[j]?=some d:=jl
 refine hl.trans ⟨by simp,Kt (Kt hl.vok ⟨f1,?_,?_,?_,?_,?_⟩) ⟨f2,kd.lo,kd.s3,kd.s4,kd.s5,kd.w⟩,fun x hx=>?_,fun x hx=>?_⟩
 ·exact Tl
 ·exact Tl
 ·exact Tl
 ·exact Tl
 ·exact (hl.vok s (Xt hi)).w
 ·exact (hx.set hi (fun h=>by unfold Vt at h; omega)).set SI (fun h=>by unfold Vt at h; omega)
 ·exact (hx.set hi (fun h=>by have:=h.1; omega)).set SI (fun h=>by have:=h.1; omega)
end
section
variable {e:Int} {V:List ZN} {mb:Int}
def UY:List Py->Int
 | []=>0
 | p::q=>p.am+UY q
theorem M3 (a b:List Py) :UY (a++b)=UY a+UY b:=by
 induction a with
 | nil=>simp [UY]
 | cons p a ih=>simp only [Yf,UY,ih]; omega
theorem ye (i x:Int) :UY (ML i x)=x:=by
 unfold ML
 split
 ·rename_i h; simp [UY,h]
 ·simp [UY]
theorem rU {l:List ZN}(r:Rq)(mb:Int) :Zw (EC l r mb)=Zw l - PJ l r mb:=by
 by_cases h:Uu r l.length=true
 ·obtain ⟨i,v,hi,hv⟩:=IZ h;obtain ⟨_,h2,h3⟩:=cD mb hi hv;rw [h2,h3,J4 hv];simp only [LX];omega
 ·unfold EC PJ;rw [if_neg h,if_neg h];omega
theorem Lj (mb:Int) : ∀(q:List Rq) (l:List ZN),Zw (XO mb l q)=Zw l - UY (KV mb l q)
 | [],l=>by simp [XO,KV,UY]
 | r::q,l=>by
  unfold XO KV;rw [Lj mb q,rU,M3,ye];omega
theorem ZcT (hm:0<=mb)(q:List Rq)(hq: ∀r ∈ q,UH r)(h: ∀v ∈ V,FM e v) :js e V (XO mb V q):=by
 have hf: ∀v ∈ V,Yp v:=fun v hv=>(h v hv).fit
 obtain ⟨h1,_⟩:=Hd mb hm q V hq hf;have hlen:=Eb mb q V;have back: ∀(n:Nat) (v':ZN),(XO mb V q)[n]?=some v'-> ∃(v:ZN) (x:Int),V[n]?=some v/\v'= { v with bal:=v.bal - x}:=fun n v' hv'=>by
  exact ZmI
 have Zee: ∀(p:ZN->Prop),(∀v x,p v->p { v with bal:=v.bal - x})-> ∀i,VU V p i->VU (XO mb V q) p i:=fun p hp i ⟨n,v,hi,hv,hpv⟩=>by
  obtain ⟨u,hu,rj,_⟩:=h1 n v hv;exact ⟨n,u,hi,hu,by rw [rj]; exact hp v _ hpv⟩
 refine ⟨hlen,fun v' hv'=>?_,Zee Vt fun v x h=>h,Zee UE fun v x h=>h⟩;obtain ⟨n,hn⟩:=Zcx hv';obtain ⟨v,x,hv,rfl⟩:=back n v' hn;have k:=h v (Xt hv);exact ⟨FF mb hm q V hq hf _ hv',k.lo,k.s3,k.s4,k.s5,k.w⟩
def ME (e:Int)(v:ZN) :Prop:=v.st=5/\v.wd<=e
theorem Nq: ∀(q:List Nat) (V:List ZN),(∀v ∈ V,FM e v)->q.Nodup->(∀i ∈ q,VU V (ME e) (i:Nat))->
  js e V (Jd e V q)/\Zw (Jd e V q)=Zw V - Vn (Qq e V q)/\(∀p ∈ Qq e V q,0<=p.am/\p.fl=true)
 | [],V,h,_,_=>⟨js.refl h,by simp [Jd,Qq,Vn],fun p hp=>by simp [Qq] at hp⟩
 | x::q,V,h,hn,hq=>by
  obtain ⟨n,v,RI,hv,hr⟩:=hq x ZE;obtain rfl:x=n:=Zd;rw [XH] at hn;have ha:V.getD x ZU=v:=VG hv;obtain ⟨f1,f2⟩:=Po hr.1 hr.2;unfold Jd Qq;rw [ha,f1,f2];have hb:=(h v (Xt hv)).fit.bal;obtain ⟨i1,i2,i3⟩:=Nq q (V.set x { v with bal:=0,st:=6}) (Kt h (fO (h v (Xt hv)).w)) hn.2 (fun i hi=>(hq i Dv).set_ne (fun he=>hn.1 (by
   obtain rfl:i=x:=Zd;exact hi)))
  refine ⟨js.trans ⟨by simp,Kt h (fO (h v (Xt hv)).w),fun i hi=>hi.set hv fun k=>?_,fun i hi=>hi.set hv fun k=>?_⟩ i1,?_,fun p hp=>?_⟩
  ·have:=hr.1; unfold Vt at k; omega
  ·have:=hr.1; have:=k.1; omega
  ·rw [i2,J4 hv];simp only [Vn];omega
  ·rcases ZX.1 hp with rfl | hp
   ·exact ⟨hb.1,rfl⟩
   ·exact i3 p hp
end
end
section
open Go Go.RowKit
structure GE (c:Nat->Int) :Prop where
 g:Good c
 gc:ec c
 q0:1<=c 1
 q1:c 1<=4096
 a2:1<=c 2
 a23:c 2<=c 3
 a3:c 3<=c 4
 a4:c 4<=1152921504606846976
 m5:1<=c 5
 q8:1<=c 8
 m17:0<=c 17
 r0:1<=c 12
 r1:c 12<=4096
theorem RE {c:Nat->Int}(hf:Wi c)(h:TM c=0) :GE c:=by
 have g:=fP hf h;have gc:=bM hf h
 rcases Nn c with ⟨_,hb⟩ | ⟨k,_,_,_,e⟩
 ·have h1:=Ko (hb 1 Zd);have h2:decide (1<=c 2)=true:=hb 2 Zd;have h3:decide (c 2<=c 3)=true:=hb 3 Zd;have h4:=Ko (hb 4 Zd);have h5:=Ko (hb 5 Zd);have h8:decide (1<=c 8)=true:=hb 8 Zd;have L9:=Ko (hb 12 Zd);have h17:=Ko (hb 17 Zd);simp at h2 h3 h8;unfold cr at h4;exact ⟨g,gc,h1.1,h1.2,h2,h3,h4.1,h4.2,h5.1,h8,h17.1,L9.1,L9.2⟩
 ·omega
structure Inv (c:Nat->Int)(k:Nat)(s:Sg) :Prop where
 len:(s.V.length:Int)<=c 0
 vok: ∀v ∈ s.V,FM s.ep v
 sum:Zw s.V+s.P+s.B=s.D
 p0:0<=s.P
 b0:0<=s.B
 d1:s.D<=18446744073709551615
 cap:s.D - s.P - s.B<=c 4
 pdl:(s.pd.length:Int)<=c 1
 fl:(s.F.length:Int)<=c 1
 wl:(s.W.length:Int)<=c 1
 mgl:(s.mg.length:Int)<=c 1
 ptl:(s.pt.length:Int)<=c 1
 pdx: ∀i ∈ s.pd,VU s.V Vt i
 pdn:s.pd.Nodup
 lnx: ∀i ∈ s.F++s.W,VU s.V UE i
 lnn:(s.F++s.W).Nodup
 ptf: ∀r ∈ s.pt,UH r
 cu:s.cu<=s.V.length
 cy0:0<=s.cy
 cy1:s.cy<=18446744073709551615
 bk0:0<=s.bk
 bk1:s.bk<=k
 ep0:0<=s.ep
 ep1:s.ep<=s.bk
 epq:s.ep=s.bk/c 13
theorem inv0 {c:Nat->Int}(hc:GE c) :Inv c 0 dY:=by
 have:=hc.g.cap0;have:=hc.q0;have:=hc.a2;have:=hc.a23;have:=hc.a3;refine ⟨?_,?_,rfl,?_,?_,?_,?_,?_,?_,?_,?_,?_,?_,?_,?_,?_,?_,?_,?_,?_,?_,?_,?_,?_,?_⟩
 all_goals first | (simp [dY]; done) | (simp [dY]; omega)
section
variable {c:Nat->Int} {k:Nat} {s:Sg}
theorem Inv.fits (h:Inv c k s) : ∀v ∈ s.V,Yp v:=fun v hv=>(h.vok v hv).fit
theorem Inv.total (h:Inv c k s)(hc:GE c) :0<=Zw s.V/\Zw s.V<=c 4/\Zw s.V<=1152921504606846976:=by
 have:=JP h.fits;have:=h.sum;have:=h.cap;have:=hc.a4;omega
theorem Inv.next (h:Inv c k s) :Inv c (k+1) s:= { h with bk1:=by have:=h.bk1; omega}
theorem Om {l:List Int}{x:Int}(h:l.Nodup)(hx:x ∉ l) :(l++[x]).Nodup:=by
 rw [QU];exact ⟨h,by simp,fun a ha b hb=>by rw [Ym] at hb; subst hb; exact fun e=>hx (e▸ha)⟩
theorem Zbz (hc:GE c)(h:Inv c k s){x:Int}(h0:Tu c s x=0) :Inv c (k+1) (L1 s x):=by
 unfold Tu at h0
 by_cases c1:x < c 2\/c 3 < x
 ·rw [if_pos c1] at h0; simp at h0
 rw [if_neg c1] at h0
 by_cases c2:c 0<=(s.V.length:Int)
 ·rw [if_pos c2] at h0; simp at h0
 rw [if_neg c2] at h0
 by_cases c3:c 1<=(s.pd.length:Int)
 ·rw [if_pos c3] at h0; simp at h0
 rw [if_neg c3] at h0
 by_cases c4:c 4 -(s.D - s.P - s.B)< x
 ·rw [if_pos c4] at h0; simp at h0
 rw [if_neg c4] at h0
 by_cases c5:18446744073709551615 < s.D+x
 ·rw [if_pos c5] at h0; simp at h0
 have a2:=hc.a2;have a3:=hc.a3;have a4:=hc.a4;have vI:VU (s.V++[Lc x]) Vt (s.V.length:Int):=⟨s.V.length,Lc x,rfl,by simp,rfl⟩;refine { h with len:=?_,vok:=?_,sum:=?_,d1:=?_,cap:=?_,pdl:=?_,pdx:=?_,pdn:=?_,lnx:=?_,cu:=?_,bk1:=?_}
 ·exact ZfV
 ·intro v hv;simp only [L1,Yb,Ym] at hv
  rcases hv with hv | rfl
  ·exact h.vok v hv
  ·exact wW Zd Zd
 ·simp only [L1];rw [Gq];have:=h.sum;simp only [Zw,Lc];omega
 ·simp only [L1]; omega
 ·simp only [L1]; omega
 ·exact ZfV
 ·intro i hi;simp only [L1,Yb,Ym] at hi ⊢
  rcases hi with hi | rfl
  ·exact (h.pdx i hi).append
  ·exact vI
 ·exact Om h.pdn fun hm=>by have:=(h.pdx _ hm).lt; omega
 ·exact fun i hi=>(h.lnx i hi).append
 ·simp only [L1,ZI,Xq]; have:=h.cu; omega
 ·have:=h.bk1; simp only [L1]; omega
theorem bK {i cl:Int}(h0:qJ c s i cl=0) :F6 s.V i=false/\(CU s (VW s.V i)).1=0/\((UA s.F s.W cl).length:Int)< c 1/\ ∃d,WM c s cl (VW s.V i)=some d:=by
 unfold qJ at h0
 by_cases c1:F6 s.V i=true
 ·rw [if_pos c1] at h0; simp at h0
 rw [if_neg c1] at h0
 by_cases c2:(CU s (VW s.V i)).1≠0
 ·rw [if_pos c2] at h0; exact absurd h0 c2
 rw [if_neg c2] at h0
 by_cases c3:c 1<=((UA s.F s.W cl).length:Int)
 ·rw [if_pos c3] at h0; simp at h0
 rw [if_neg c3] at h0
 by_cases c4:WM c s cl (VW s.V i)=none
 ·rw [if_pos c4] at h0; simp at h0
 exact ⟨by simpa using c1,by simpa using c2,by omega,Option.ne_none_iff_exists'.1 c4⟩
theorem I9 {F W:List Int}{x:Int}(h:(F++W).Nodup)(hx:x ∉ F++W) :(F++[x]++W).Nodup:=by
 rw [Qd,List.singleton_append];exact List.perm_middle.nodup_iff.2 (XH.2 ⟨hx,h⟩)
theorem uV (hc:GE c)(h:Inv c k s){i cl:Int}(FA:cl=0\/cl=1)(h0:qJ c s i cl=0) :Inv c (k+1) (L8 c s i cl):=by
 obtain ⟨c1,c2,c3,_⟩:=bK h0;obtain ⟨n,C9,hv⟩:=UK c1;have q0:=hc.q0;generalize hy:VW s.V i=v at*;obtain ⟨GN,qY⟩:=Rl (e:=s.ep) (v:=v) c2;have Ag:=Za9 (h.vok v (Xt hv)) c2 (exD c s i cl);have e1:i.toNat=n:=Zd;have hni:i ∉ s.F++s.W:=fun hm=>by
  exact Zna
 have hV:(L8 c s i cl).V=s.V.set n { (QE [XA s.ep,QH 2] v).2 with dl:=exD c s i cl}:=by
  simp only [L8,e1,hy];rfl
 have hme:VU (L8 c s i cl).V UE i:=⟨n,_,C9,by rw [hV,Yz (Zk.1 hv).1],by rw [qY]; exact ⟨rfl,((h.vok v (Xt hv)).lo (.inr GN)).1⟩⟩;have hold: ∀j ∈ s.F++s.W,VU (L8 c s i cl).V UE j:=fun j hj=>by
  rw [hV];exact (h.lnx j hj).set hv fun hq=>by have:=hq.1; omega
 have hFW:((L8 c s i cl).F=s.F++[i]/\(L8 c s i cl).W=s.W/\(s.F.length:Int)< c 1)\/((L8 c s i cl).F=s.F/\(L8 c s i cl).W=s.W++[i]/\(s.W.length:Int)< c 1):=by
  rcases FA with rfl | rfl
  ·have:s.F.length < (c 1).toNat:=by simp only [UA,if_true] at c3; omega
   exact .inl ⟨by simp [L8,LH,this],by simp [L8,LI],by omega⟩
  ·have:s.W.length < (c 1).toNat:=by simp [UA] at c3; omega
   exact .inr ⟨by simp [L8,LH],by simp [L8,LI,this],by omega⟩
 refine ⟨?_,?_,?_,h.p0,h.b0,h.d1,h.cap,h.pdl,?_,?_,h.mgl,h.ptl,?_,h.pdn,?_,?_,h.ptf,?_,h.cy0,h.cy1,h.bk0,?_,h.ep0,h.ep1,h.epq⟩
 ·rw [hV,Xb]; exact h.len
 ·rw [hV]; exact Kt h.vok Ag
 ·rw [hV,J4 hv,qY];have:=h.sum;simp only [L8];omega
 ·rcases hFW with ⟨e2,e3,h4⟩ | ⟨e2,e3,h4⟩
  ·rw [e2,ZI,Xq]; omega
  ·rw [e2]; exact h.fl
 ·rcases hFW with ⟨e2,e3,h4⟩ | ⟨e2,e3,h4⟩
  ·rw [e3]; exact h.wl
  ·rw [e3,ZI,Xq]; omega
 ·exact Zfp
 ·intro j hj
  by_cases Pu:j=i
  ·subst Pu; exact hme
  ·refine hold j ?_
   rcases hFW with ⟨e2,e3,h4⟩ | ⟨e2,e3,h4⟩
   ·rw [e2,e3] at hj;simp only [Yb,Ym] at hj ⊢;exact Zfv
   ·rw [e2,e3] at hj;simp only [Yb,Ym] at hj ⊢
    rcases hj with hj | hj | hj
    ·exact .inl hj
    ·exact .inr hj
    ·exact absurd hj Pu
 ·rcases hFW with ⟨e2,e3,h4⟩ | ⟨e2,e3,h4⟩
  ·rw [e2,e3]; exact I9 h.lnn hni
  ·rw [e2,e3,<-Qd]; exact Om h.lnn hni
 ·rw [hV,Xb]; exact h.cu
 ·have:=h.bk1; simp only [L8]; omega
theorem db {i:Int}(h0:da c s i=0) :F6 s.V i=false/\(Fl (VW s.V i) s.ep c).1=0/\((VW s.V i).st=2->(s.F.length:Int)< c 1):=by
 unfold da at h0
 by_cases c1:F6 s.V i=true
 ·rw [if_pos c1] at h0; simp at h0
 rw [if_neg c1] at h0
 by_cases c2:(Fl (VW s.V i) s.ep c).1≠0
 ·rw [if_pos c2] at h0; exact absurd h0 c2
 rw [if_neg c2] at h0
 by_cases c3:(VW s.V i).st=2/\c 1<=(s.F.length:Int)
 ·rw [if_pos c3] at h0; simp at h0
 exact ⟨by simpa using c1,by simpa using c2,fun h=>by omega⟩
theorem ZiB (hc:GE c)(h:Inv c k s){i:Int}(h0:da c s i=0) :Inv c (k+1) (MW c s i):=by
 obtain ⟨c1,c2,c3⟩:=db h0;obtain ⟨n,C9,hv⟩:=UK c1;generalize hy:VW s.V i=v at*;have s11:=hc.g.sla0;have s10:=hc.g.unb0;obtain ⟨rk,GN,hex,IY,hba⟩:=MY c2;have Ag:=sE (h.vok v (Xt hv)) c2 Zd;have e1:i.toNat=n:=Zd;obtain ⟨p0,p1⟩:=Nv c (h.vok v (Xt hv)).fit;have hN:slN v s.ep c=DQ v c:=by unfold slN; rw [if_pos c2]
 have hV:(MW c s i).V=s.V.set n (Fl v s.ep c).2:=by simp only [MW,e1,hy]
 have hB:(MW c s i).B=s.B+DQ v c:=by simp only [MW,hy,hN]
 have hF:(MW c s i).F=if v.st=2 then s.F++[i] else s.F:=by simp only [MW,hy]
 have hold: ∀j ∈ s.F++s.W,VU (MW c s i).V UE j:=fun j hj=>by
  rw [hV];refine (h.lnx j hj).set hv fun hq=>⟨?_,hex.trans hq.2⟩
  have:=hq.1
  rcases GN with ⟨_,h1⟩ | ⟨h1,_⟩
  ·exact h1
  ·omega
 refine ⟨?_,?_,?_,h.p0,?_,h.d1,?_,h.pdl,?_,h.wl,h.mgl,h.ptl,?_,h.pdn,?_,?_,h.ptf,?_,h.cy0,h.cy1,h.bk0,?_,h.ep0,h.ep1,h.epq⟩
 ·rw [hV,Xb]; exact h.len
 ·rw [hV]; exact Kt h.vok Ag
 ·rw [hV,J4 hv,hB,hba];have:=h.sum;simp only [MW];omega
 ·rw [hB]; have:=h.b0; omega
 ·rw [hB]; have:=h.cap; simp only [MW]; omega
 ·rw [hF]
  split
  ·rename_i h2; have:=c3 h2; rw [ZI,Xq]; omega
  ·exact h.fl
 ·exact Zfp
 ·intro j hj
  by_cases h2:v.st=2
  ·rw [hF,if_pos h2] at hj
   by_cases Pu:j=i
   ·subst Pu;refine ⟨n,_,C9,by rw [hV,Yz (Zk.1 hv).1],?_,hex.trans ((h.vok v (Xt hv)).lo (.inr h2)).1⟩
    rcases GN with ⟨_,h1⟩ | ⟨h1,_⟩
    ·exact h1
    ·omega
   ·refine hold j ?_;simp only [MW,Yb,Ym] at hj ⊢;exact Zfv
  ·rw [hF,if_neg h2] at hj;exact hold j hj
 ·by_cases h2:v.st=2
  ·rw [hF,if_pos h2];refine I9 h.lnn fun hm=>?_
   exact Zna
  ·rw [hF,if_neg h2]; exact h.lnn
 ·rw [hV,Xb]; exact h.cu
 ·have:=h.bk1; simp only [MW]; omega
theorem ZgU (h:Inv c k s){p:Int × Int}(h0:cnC c s p=0) :Inv c (k+1) { s with mg:=s.mg++[p]}:=by
 unfold cnC at h0
 by_cases c1:ES s.V p (c 6)≠0
 ·rw [if_pos c1] at h0; exact absurd h0 c1
 rw [if_neg c1] at h0
 by_cases c2:c 1<=(s.mg.length:Int)
 ·rw [if_pos c2] at h0; simp at h0
 exact { h with mgl:=by simp only [ZI,Xq]; omega,bk1:=by have:=h.bk1; simp only; omega}
theorem Zii (h:Inv c k s){r:Rq}(hr:UH r)(h0:paC c s r=0) :Inv c (k+1) { s with pt:=s.pt++[r]}:=by
 unfold paC at h0
 by_cases c1:Ru s.V r≠0
 ·rw [if_pos c1] at h0; exact absurd h0 c1
 rw [if_neg c1] at h0
 by_cases c2:c 1<=(s.pt.length:Int)
 ·rw [if_pos c2] at h0; simp at h0
 have hp: ∀x ∈ s.pt++[r],UH x:=fun x hx=>by
  simp only [Yb,Ym] at hx
  rcases hx with hx | rfl
  ·exact h.ptf x hx
  ·exact hr
 exact { h with ptl:=by simp only [ZI,Xq]; omega,ptf:=hp,bk1:=by have:=h.bk1; simp only; omega}
end
end
section
open Go Go.RowKit
theorem Wu (om:Int->Int)(F W:List Int)(B:Int) :((EW om F W B).1.map (·.1)++((EW om F W B).2.1++(EW om F W B).2.2.1)).Perm (F++W):=by
 refine O9 (P:=fun F W B r=>(r.1.map (·.1)++(r.2.1++r.2.2.1)).Perm (F++W)) (fun B=> .refl _) (fun F W B _ _=> .refl _) (fun F W B r hb hx ih=>?_) _ F W B rfl;rw [Xa,Yf]
 match F,W,hb with
 | x::F,W,_=>exact ih.cons x
 | [],x::W,_=>exact ih.cons x
theorem nx (om:Int->Int)(F W:List Int)(B:Int) :(EW om F W B).2.1.length<=F.length/\(EW om F W B).2.2.1.length<=W.length:=
 O9 (P:=fun F W B r=>r.2.1.length<=F.length/\r.2.2.1.length<=W.length) (fun B=>⟨Zh _,Zh _⟩) (fun F W B _ _=>⟨Zh _,Zh _⟩) (fun F W B r hb hx ih=>⟨ZZ ih.1 (xn F W).1,ZZ ih.2 (xn F W).2⟩) _ F W B rfl
theorem nL (L:List Bool)(s:Nat)(v p:Int) : ∀(f k:Nat),L.length<=k+f->(∀j,j < k->(j:Int)< v/\j < L.length/\((Kq L s j).length:Int)< p)->Tr L s v p (goN L s v p f k)
 | 0,k,hf,h=>⟨.inr (.inl (show L.length<=k by omega)),h⟩
 | f+1,k,hf,h=>by
  unfold goN
  by_cases hc:v<=(k:Int)\/L.length<=k\/p<=((Kq L s k).length:Int)
  ·rw [if_pos hc]; exact ⟨hc,h⟩
  ·rw [if_neg hc];refine nL L s v p f (k+1) Zd fun j hj=>?_
   rcases YI j k with FY | FY
   ·exact h j FY
   ·obtain rfl:j=k:=Zd;omega
theorem TZ (L:List Bool)(s:Nat)(v p:Int) :Tr L s v p (LN L s v p):=nL L s v p L.length 0 Zd (fun j hj=>by omega)
section
variable {c:Nat->Int} {k:Nat} {s:Sg}
theorem ZbZ {V:List ZN}{p:ZN->Prop}{n:Nat}{v:ZN}(hv:V[n]?=some v)(h:p v) :VU V p (n:Int):=⟨n,v,rfl,hv,h⟩
def XP (s:Sg) :Sg:= { s with bk:=s.bk+1,ep:=s.ep+1}
theorem ug (hc:GE c)(h:Inv c k s) :0<=Yh (Dr (XP s))/\Yh (Dr (XP s))<=18446744073709551615/\Zw (Dr (XP s))=Zw s.V/\(Dr (XP s)).length=s.V.length/\(∀v ∈ Dr (XP s),Yp v):=by
 obtain ⟨g1,g2,_⟩:=TL h.vok h.ep0;have e:Dr (XP s)=(s.V.map (YB (s.ep+1))).map (QM (s.ep+1)):=rfl;rw [e];have hf: ∀v ∈ (s.V.map (YB (s.ep+1))).map (QM (s.ep+1)),Yp v:=fun v hv=>(g1.vok v hv).fit
 obtain ⟨a1,a2⟩:=Da hf;have:=h.total hc;exact ⟨a1,by omega,g2,g1.len,hf⟩
theorem aI {V:List ZN}(h: ∀v ∈ V,Yp v)(i:Int) :0<=wV V i:=by
 unfold wV KK
 split
 ·rw [Zo]
  cases hx:(Qj V)[i.toNat]? with
  | none=>simp
  | some x=>
   have hm:=Zz hx;unfold Qj at hm;obtain ⟨v,hv,rfl⟩:=Yc.1 hm;exact (h v hv).bal.1
 ·exact Xy _
theorem Wx (hc:GE c) :1<=Rr c s:=by
 have:=hc.g.chu0;unfold Rr Fy
 split
 ·exact this
 ·split <;> omega
theorem ZkP {B x:Int}(h0:0<=B)(h1:B<=18446744073709551615)(hx:0<=x) :0<=gr B x/\gr B x<=18446744073709551615:=by
 unfold gr
 split <;> omega
theorem j7 {b L:Int}(h:1<=L) :(b+1)/L=b/L+if(b+1)%L=0 then 1 else 0:=by
 have h1:=Int.emod_add_mul_ediv b L;have h2:=Int.emod_add_mul_ediv (b+1) L;have h3:=JR b (show L≠0 by omega);have h4:=KF b (show 0 < L by omega);have h5:=JR (b+1) (show L≠0 by omega);have h6:=KF (b+1) (show 0 < L by omega);have hd:L*((b+1)/L - b/L)=b%L+1 -(b+1)%L:=by rw [Int.mul_sub]; omega
 have e:(b+1)/L=b/L+((b+1)/L - b/L):=Zd;rw [e]
 congr 1
 generalize (b+1)/L - b/L=d at hd;have lo: ∀x,d<=x->L*d<=L*x:=fun x hx=>VV hx Zd
 have hi: ∀x,x<=d->L*x<=L*d:=fun x hx=>VV hx Zd
 split
 ·have a1: ¬d<=0:=fun h=>by have:=lo 0 h; rw [Int.mul_zero] at this; omega
  have a2: ¬2<=d:=fun h=>by have:=hi 2 h; omega
  omega
 ·have a1: ¬d<= -1:=fun h=>by have:=lo (-1) h; omega
  have a2: ¬1<=d:=fun h=>by have:=hi 1 h; omega
  omega
theorem ZgQ (hc:GE c)(h:Inv c k s)(hk:k<=1000000)(RF:(s.bk+1)%c 13=0) :Inv c (k+1) (bdS c (XP s)):=by
 obtain ⟨a0,a1,a2,a3,a4⟩:=ug hc h;obtain ⟨g1,g2,g3⟩:=TL h.vok h.ep0;have bk1:=h.bk1;have ep1:=h.ep1;have ep0:=h.ep0;have bk0:=h.bk0;have u0:=hc.g.unb0;have u1:=hc.g.unb1;have hl:OR (s.ep+1+1) (c 10):=by unfold OR TV; omega
 have hX:1<=Rr c (XP s):=Wx hc;obtain ⟨b0,b1⟩:=ZkP h.cy0 h.cy1 (show 0<=Rr c (XP s) by omega);have bU:((Nl c (XP s)).1.map (·.1)++((Nl c (XP s)).2.1++(Nl c (XP s)).2.2.1)).Perm (s.F++s.W):=Wu _ _ _ _;have vX:=bU.nodup_iff.2 h.lnn;rw [QU] at vX;obtain ⟨n1,n2,n3⟩:=vX;have D8: ∀i,i ∈ (Nl c (XP s)).1.map (·.1)\/i ∈ (Nl c (XP s)).2.1++(Nl c (XP s)).2.2.1->VU (Dr (XP s)) UE i:=fun i hi=>
  g1.qd i (h.lnx i (bU.mem_iff.1 (Yb.2 hi)))
 obtain ⟨r1,r2,r3,r4,r5⟩:=O8 hl Zd (Nl c (XP s)).1 (Dr (XP s)) g1.vok n1 (fun p hp=>D8 p.1 (.inl (QR hp)));have Ib:(s.pd.take (St c (XP s))).Nodup:=h.pdn.sublist (Uy _ _);have ga: ∀i ∈ s.pd,VU (CO c (XP s)) Vt i:=fun i hi=>r4 i (g1.pd i (h.pdx i hi))
 obtain ⟨t1,t2,t3,t4,t5⟩:=TO (s.pd.take (St c (XP s))) (CO c (XP s)) r2 Ib (fun i hi=>ga i (ZT hi));obtain ⟨m1,m2⟩:=Zcy (c 6) (s.mg.take (B9 c s.mg)) t2;have q6:Zw (p5 c (XP s))=Zw s.V:=by
  rw [UZ,show p5 c (XP s)=Rz 1 (CO c (XP s)) (s.pd.take (St c (XP s))) from rfl,t3,show CO c (XP s)=DJ c (s.ep+1+1) (Dr (XP s)) (Nl c (XP s)).1 from rfl,r3,<-UZ,a2]
 have hlen:(bdS c (XP s)).V.length=s.V.length:=(m1.len.trans t1).trans (r1.trans a3);have hlens:=nw (wV (Dr (XP s))) s.F s.W (gr s.cy (Rr c (XP s)));refine ⟨?_,m1.vok,?_,h.p0,h.b0,h.d1,h.cap,?_,?_,?_,?_,h.ptl,?_,?_,?_,n2,h.ptf,?_,?_,?_,?_,?_,?_,?_,?_⟩
 ·rw [hlen]; exact h.len
 ·have e:Zw (bdS c (XP s)).V=Zw s.V:=m2.trans q6;rw [e]; exact h.sum
 ·have:=h.pdl;show ((s.pd.drop (St c (XP s))).length:Int)<=c 1;rw [J0]; omega
 ·have hp:=nx (wV (Dr (XP s))) s.F s.W (gr s.cy (Rr c (XP s)));have:=h.fl;show ((EW (wV (Dr (XP s))) s.F s.W (gr s.cy (Rr c (XP s)))).2.1.length:Int)<=c 1;omega
 ·have hp:=nx (wV (Dr (XP s))) s.F s.W (gr s.cy (Rr c (XP s)));have:=h.wl;show ((EW (wV (Dr (XP s))) s.F s.W (gr s.cy (Rr c (XP s)))).2.2.1.length:Int)<=c 1;omega
 ·have:=h.mgl;show ((s.mg.drop (B9 c s.mg)).length:Int)<=c 1;rw [J0]; omega
 ·intro i hi;have hi:i ∈ s.pd.drop (St c (XP s)):=hi;refine m1.pd i (t5 i (fun hm=>?_) (ga i (Xn hi)));have hn:=h.pdn;rw [<-QS (St c (XP s)) s.pd,QU] at hn;exact hn.2.2 i hm i hi rfl
 ·exact h.pdn.sublist (List.drop_sublist _ _)
 ·intro i hi;exact m1.qd i (t4 i (r5 i (fun hm=>n3 i hm i hi rfl) (D8 i (.inr hi))))
 ·rw [hlen]; exact h.cu
 ·show 0<=FR (Nl c (XP s));unfold FR
  split
  ·exact tX _ _ _ _ b0
  ·exact Xy _
 ·show FR (Nl c (XP s))<=18446744073709551615;unfold FR
  split
  ·have e1:=Zbg (wV (Dr (XP s))) s.F s.W (gr s.cy (Rr c (XP s)));have e2:=iV (aI a4) (EW (wV (Dr (XP s))) s.F s.W (gr s.cy (Rr c (XP s)))).1;show (EW (wV (Dr (XP s))) s.F s.W (gr s.cy (Rr c (XP s)))).2.2.2<=_;omega
  ·decide
 ·show 0<=s.bk+1;omega
 ·show s.bk+1<=((k+1:Nat) :Int);omega
 ·show 0<=s.ep+1;omega
 ·show s.ep+1<=s.bk+1;omega
 ·show s.ep+1=(s.bk+1)/c 13;rw [j7 hc.g.len0,if_pos RF,h.epq]
theorem Az (hc:GE c)(h:Inv c k s)(hk:k<=1000000) :Inv c (k+1) (SR c s):=by
 unfold SR
 split
 ·rename_i hb; exact ZgQ hc h hk hb
 ·rename_i hb
  have:=h.bk0;have:=h.bk1;have:=h.ep1;exact { h with bk0:=by simp only; omega,bk1:=by simp only; omega,ep1:=by simp only; omega,epq:=by simp only; rw [j7 hc.g.len0,if_neg hb,h.epq]; omega}
theorem M0 (a b:List Pm) :Vn (a++b)=Vn a+Vn b:=by
 induction a with
 | nil=>simp [Vn]
 | cons p a ih=>simp only [Yf,Vn,ih]; omega
theorem oI (l:List Py) :Vn (Ij l)=UY l:=by
 induction l with
 | nil=>rfl
 | cons p l ih=>simp only [Ij,Xa,Vn,UY] at*; rw [ih]
theorem ZlM {V:List ZN}{i:Nat}(h:(OS V).getD i false=true) : ∃v,V[i]?=some v/\v.st=5:=by
 unfold OS at h;rw [Zo,ZM] at h
 cases hx:V[i]? with
 | none=>rw [hx] at h; simp at h
 | some v=>rw [hx] at h; exact ⟨v,rfl,by simpa using h⟩
theorem ND (hc:GE c)(h:Inv c k s) :js s.ep s.V (M4 c s)/\(dZ c s).Nodup/\ ∀i ∈ dZ c s,VU (M4 c s) (ME s.ep) ((i:Nat) :Int):=by
 have hm:0<=c 5:=by have:=hc.m5; omega
 have g:=ZcT (V:=s.V) hm (s.pt.take (LO c s)) (fun r hr=>h.ptf r (ZT hr)) h.vok;have GN:=TZ (OS (M4 c s)) s.cu (c 14 -(LO c s:Nat)) (c 15 -((CR c s).length:Nat));refine ⟨g,SS GN.le,fun i hi=>?_⟩;obtain ⟨v,hv,h5⟩:=ZlM (Nu hi).2;exact ZbZ hv ⟨h5,(g.vok v (Xt hv)).s5 h5⟩
theorem ZiI (hc:GE c)(h:Inv c k s) :Inv c k (dj c s)/\Vn (aF c s)=Zw s.V - Zw (dj c s).V/\ ∀p ∈ aF c s,0<=p.am:=by
 obtain ⟨g,hn,hr⟩:=ND hc h;obtain ⟨f1,f2,f3⟩:=Nq (dZ c s) (M4 c s) g.vok hn hr;have hm:0<=c 5:=by have:=hc.m5; omega
 have g2:=g.trans f1;have hs:=Lj (c 5) (s.pt.take (LO c s)) s.V;have hF:Vn (aF c s)=Zw s.V - Zw (dj c s).V:=by
  unfold aF CR;rw [M0,oI];show _=Zw s.V - Zw (Jd s.ep (M4 c s) (dZ c s));rw [f2];have:Zw (M4 c s)=Zw s.V - UY (KV (c 5) s.V (s.pt.take (LO c s))):=hs;omega
 have Ak: ∀p ∈ aF c s,0<=p.am:=fun p hp=>by
  unfold aF at hp
  rcases Yb.1 hp with hp | hp
  ·obtain ⟨_,h2⟩:=Hd (c 5) hm (s.pt.take (LO c s)) s.V (fun r hr=>h.ptf r (ZT hr)) h.fits;unfold CR Ij at hp;obtain ⟨y,hy,rfl⟩:=Yc.1 hp;have:=(h2 y hy).1;simp only;omega
  ·exact (f3 p hp).1
 have hsum0:0<=Vn (aF c s):=by
  generalize aF c s=l at Ak;clear hF
  induction l with
  | nil=>simp [Vn]
  | cons p l ih=>
   have:=ih (fun q hq=>Ak q (by simp [hq]));have:=Ak p ZE;simp only [Vn];omega
 have GN:=TZ (OS (M4 c s)) s.cu (c 14 -(LO c s:Nat)) (c 15 -((CR c s).length:Nat));refine ⟨⟨?_,g2.vok,?_,?_,h.b0,h.d1,?_,h.pdl,h.fl,h.wl,h.mgl,?_,fun i hi=>g2.pd i (h.pdx i hi),h.pdn,fun i hi=>g2.qd i (h.lnx i hi),h.lnn,fun r hr=>h.ptf r (Xn hr),?_,h.cy0,h.cy1,h.bk0,h.bk1,h.ep0,h.ep1,h.epq⟩,hF,Ak⟩
 ·have e:(dj c s).V.length=s.V.length:=g2.len;rw [e]; exact h.len
 ·have:=h.sum;show Zw (dj c s).V+(s.P+Vn (aF c s))+s.B=s.D;omega
 ·have:=h.p0;show 0<=s.P+Vn (aF c s);omega
 ·have:=h.cap;show s.D -(s.P+Vn (aF c s)) - s.B<=c 4;omega
 ·have:=h.ptl;show ((s.pt.drop (LO c s)).length:Int)<=c 1;rw [J0]; omega
 ·have e:(dj c s).V.length=(M4 c s).length:=f1.len;rw [e];show ER (M4 c s).length s.cu (sQ c s)<=(M4 c s).length;have:=h.cu;have:=g.len;unfold ER
  split
  ·omega
  ·have hle:sQ c s<=(OS (M4 c s)).length:=GN.le;have:(OS (M4 c s)).length=(M4 c s).length:=by simp [OS]
   exact Nat.le_of_lt (Nat.mod_lt _ Zd)
theorem yl (hc:GE c)(h:Inv c k s)(hk:k<=1000000) :Inv c (k+1) (tkO c s).2:=(ZiI hc (Az hc h hk)).1
theorem Zig (hc:GE c)(h:Inv c k s)(hk:k<=1000000)(o:Oq)(ho:UG o) :Inv c (k+1) (Hl c s o).2:=by
 unfold Hl
 by_cases h1:o.kd=1
 ·rw [if_pos h1]; unfold LY; split
  ·rename_i h0; exact Zbz hc h h0
  ·exact h.next
 rw [if_neg h1]
 by_cases h2:o.kd=2
 ·rw [if_pos h2]; unfold SA; split
  ·rename_i h0; exact uV hc h (.inr rfl) h0
  ·exact h.next
 rw [if_neg h2]
 by_cases h3:o.kd=3
 ·rw [if_pos h3]; unfold SA; split
  ·rename_i h0; exact uV hc h (.inl rfl) h0
  ·exact h.next
 rw [if_neg h3]
 by_cases h4:o.kd=4
 ·rw [if_pos h4]; unfold av; split
  ·rename_i h0; exact ZiB hc h h0
  ·exact h.next
 rw [if_neg h4]
 by_cases h5:o.kd=5
 ·rw [if_pos h5]; unfold jR; split
  ·rename_i h0; exact ZgU h h0
  ·exact h.next
 rw [if_neg h5]
 by_cases h6:o.kd=6
 ·rw [if_pos h6]; unfold lC; split
  ·rename_i h0; exact Zii h ⟨ho.2.1,ho.2.2.2⟩ h0
  ·exact h.next
 rw [if_neg h6]
 split
 ·exact yl hc h hk
 ·exact h.next
end
end
section
open Go Go.RowKit
section
variable {c:Nat->Int} {k:Nat} {s:Sg}
theorem WV (e:Int) : ∀(q:List Nat) (V:List ZN),(Qq e V q).length=q.length
 | [],_=>rfl
 | i::q,V=>by unfold Qq; rw [Yg,Yg,WV e q]
theorem sR (hc:GE c)(s:Sg) :0<=((LO c s:Nat) :Int)+(sQ c s:Nat)/\((LO c s:Nat) :Int)+(sQ c s:Nat)<=c 14/\((aF c s).length:Int)<=c 15:=by
 have p0:=hc.g.part;have p1:=hc.g.vis0;have p2:=hc.g.pay0;have hN:((LO c s:Nat) :Int)<=c 16:=by unfold LO UX; omega
 have GN:=TZ (OS (M4 c s)) s.cu (c 14 -(LO c s:Nat)) (c 15 -((CR c s).length:Nat));have hv:=GN.le_v;have hp:=GN.le_p;have hP:(CR c s).length<=LO c s:=Ze3
 have e:(aF c s).length=(CR c s).length+(dZ c s).length:=by unfold aF; rw [ZI,WV]
 have hv:sQ c s=0\/((sQ c s:Nat) :Int)<=c 14 -(LO c s:Nat):=hv;have hp:(dZ c s).length=0\/(((dZ c s).length:Nat) :Int)<=c 15 -((CR c s).length:Nat):=hp;refine ⟨by omega,by omega,?_⟩;rw [e];omega
theorem nI (e:Int) : ∀(q:List Nat) (V:List ZN),q.Nodup->(∀i ∈ q,VU V (ME e) (i:Nat))->
  (∀i ∈ q,∃v,(Jd e V q)[i]?=some v/\v.st=6/\v.bal=0)/\(∀i,i ∉ q->(Jd e V q)[i]?=V[i]?)/\(∀p ∈ Qq e V q,∃i ∈ q,p.ix=((i:Nat) :Int))
 | [],V,_,_=>⟨fun i hi=>by simp at hi,fun _ _=>rfl,fun p hp=>by simp [Qq] at hp⟩
 | x::q,V,hn,hq=>by
  obtain ⟨n,v,RI,hv,hr⟩:=hq x ZE;obtain rfl:x=n:=Zd;rw [XH] at hn;have ha:V.getD x ZU=v:=VG hv;obtain ⟨f1,f2⟩:=Po hr.1 hr.2;unfold Jd Qq;rw [ha,f1];obtain ⟨i1,i2,i3⟩:=nI e q (V.set x { v with bal:=0,st:=6}) hn.2 (fun i hi=>(hq i Dv).set_ne (fun he=>hn.1 (by
   obtain rfl:i=x:=Zd;exact hi)))
  refine ⟨fun i hi=>?_,fun i hi=>?_,fun p hp=>?_⟩
  ·rcases ZX.1 hi with rfl | hi
   ·exact ⟨_,(i2 i hn.1).trans (Yz (Zk.1 hv).1),rfl,rfl⟩
   ·exact i1 i hi
  ·rw [ZX] at hi;rw [i2 i (fun h=>hi (.inr h)),Yn (fun h=>hi (.inl h.symm))]
  ·rcases ZX.1 hp with rfl | hp
   ·exact ⟨x,by simp,rfl⟩
   ·obtain ⟨i,hi,h⟩:=i3 p hp;exact ⟨i,by simp [hi],h⟩
end
end
section
open Go Go.RowKit
def Uc (v:ZN) :Prop:=v.st=4\/(v.st=3/\v.ex≠ -1)
instance (v:ZN) :Decidable (Uc v):=by unfold Uc; infer_instance
def mD (V:List ZN) :Nat:=V.countP fun v=>decide (Uc v)
structure XZ (e:Int)(V:List ZN)(L:List QZ) :Prop where
 nd:(L.map (·.2)).Nodup
 ub: ∀i,i ∈ L.map (·.2) ↔ VU V Uc i
 key: ∀p ∈ L,e < p.1
 wd: ∀p ∈ L,∀(n:Nat) (v:ZN),p.2=(n:Int)->V[n]?=some v->p.1<=v.wd
theorem ZlN:XZ 0 [] []:=⟨by simp,fun i=>⟨fun h=>by simp at h,fun ⟨m,u,_,h,_⟩=>by simp at h⟩,fun p hp=>by simp at hp,fun p hp=>by simp at hp⟩
theorem WK (V:List ZN) : ∀n,n<=V.length->((YO n).filter fun n=>decide (Uc (V.getD n ZU))).length=mD (V.take n)
 | 0,_=>by simp [mD]
 | n+1,h=>by
  have hv:V[n]?=some V[n]:=Zg Zd;have e1:V.getD n ZU=V[n]:=VG hv;have e2:V.take (n+1)=V.take n++[V[n]]:=by rw [List.take_add_one,hv]; rfl
  rw [Kh,Q7,ZI,WK V n Zd,e2];unfold mD;rw [List.countP_append]
  congr 1
  by_cases hb:Uc V[n]
  ·simp only [JZ,List.filter_nil,e1,hb,decide_true,if_true,Xq,List.countP_cons,List.countP_nil]
  ·simp only [JZ,List.filter_nil,e1,hb,decide_false,Bool.false_eq_true,if_false,List.length_nil,List.countP_cons,List.countP_nil]
theorem fe (V:List ZN) :((YO V.length).filter fun n=>decide (Uc (V.getD n ZU))).length=mD V:=by
 rw [WK V V.length (Zh _),J1]
theorem XZ.len {e:Int}{V:List ZN}{L:List QZ}(h:XZ e V L) :L.length=mD V:=by
 have hp:(L.map (·.2)).Perm (((YO V.length).filter fun n=>decide (Uc (V.getD n ZU))).map fun n:Nat=>(n:Int)):=by
  refine (List.perm_ext_iff_of_nodup h.nd ?_).2 fun i=>?_
  ·exact List.pairwise_map.2 ((List.nodup_range.sublist List.filter_sublist).imp fun h e=>h Zd)
  ·rw [h.ub];constructor
   ·rintro ⟨m,u,rfl,hu,hp⟩;refine Yc.2 ⟨m,QL.2 ⟨XT.2 (Zk.1 hu).1,?_⟩,rfl⟩;rw [Zo,hu];simpa using hp
   ·intro hi;obtain ⟨m,hm,rfl⟩:=Yc.1 hi;obtain ⟨h1,h2⟩:=QL.1 hm;have h1:=XT.1 h1;refine ⟨m,V.getD m ZU,rfl,?_,by simpa using h2⟩;rw [Zo,Zg h1];rfl
 have:=hp.length_eq;rw [Yt,Yt,fe] at this;exact this
section
variable {c:Nat->Int} {k:Nat} {s:Sg} {e:Int} {V W:List ZN} {L:List QZ}
theorem XZ.keep (h:XZ e V L)(hub: ∀i,VU W Uc i ↔ VU V Uc i)(IY: ∀(n:Nat) (v:ZN),W[n]?=some v->Uc v-> ∃u,V[n]?=some u/\u.wd<=v.wd) :XZ e W L:=by
 refine ⟨h.nd,fun i=>(h.ub i).trans (hub i).symm,h.key,fun p hp n v hn hv=>?_⟩;obtain ⟨m,u,hm,hu,hb⟩:=(hub p.2).2 ((h.ub p.2).1 (QR hp));obtain rfl:n=m:=Zd;rw [hv] at hu;obtain rfl:=ZP hu;obtain ⟨u,hu,hle⟩:=IY n v hv hb;exact Int.le_trans (h.wd p hp n u hn hu) hle
theorem ZiL {n:Nat}{v v':ZN}(hv:V[n]?=some v)(h:Uc v' ↔ Uc v)(i:Int) :VU (V.set n v') Uc i ↔ VU V Uc i:=by
 constructor
 ·rintro ⟨m,u,hm,hu,hb⟩
  by_cases Ia:n=m
  ·subst Ia;rw [Yz (Zk.1 hv).1] at hu;obtain rfl:=ZP hu;exact ⟨n,v,hm,hv,h.1 hb⟩
  ·rw [Yn Ia] at hu;exact ⟨m,u,hm,hu,hb⟩
 ·exact fun hx=>hx.set hv h.2
theorem XZ.set (h:XZ e V L){n:Nat}{v v':ZN}(hv:V[n]?=some v)(hb:Uc v' ↔ Uc v)(hw:Uc v->v.wd<=v'.wd) :XZ e (V.set n v') L:=by
 refine h.keep (ZiL hv hb) fun m x hx hxb=>?_
 by_cases Ia:n=m
 ·subst Ia;rw [Yz (Zk.1 hv).1] at hx;obtain rfl:=ZP hx;exact ⟨v,hv,hw (hb.1 hxb)⟩
 ·rw [Yn Ia] at hx;exact ⟨x,hx,Xy _⟩
theorem XZ.more (h:XZ e V L){n:Nat}{v v':ZN}(hv:V[n]?=some v)(h0: ¬Uc v)(h1:Uc v'){t:Int}(ht:e < t)(hw:t<=v'.wd) :XZ e (V.set n v') (L++[(t,(n:Int))]):=by
 have hn:(n:Int) ∉ L.map (·.2):=fun hm=>by
  obtain ⟨m,u,hm,hu,hb⟩:=(h.ub _).1 hm;obtain rfl:n=m:=Zd;rw [hv] at hu;obtain rfl:=ZP hu;exact h0 hb
 have XJ:=(Zk.1 hv).1;refine ⟨by rw [Xv]; exact Om h.nd hn,fun i=>?_,fun p hp=>?_,fun p hp m x hm hx=>?_⟩
 ·rw [Xv,Yb,h.ub];constructor
  ·rintro (hi | hi)
   ·exact hi.set hv fun hb=>absurd hb h0
   ·obtain rfl:i=(n:Int):=by simpa using hi
    exact ⟨n,v',rfl,Yz XJ,h1⟩
  ·rintro ⟨m,u,hm,hu,hb⟩
   by_cases Ia:n=m
   ·right; subst Ia; simp [hm]
   ·rw [Yn Ia] at hu;exact .inl ⟨m,u,hm,hu,hb⟩
 ·rcases Yb.1 hp with hp | hp
  ·exact h.key p hp
  ·obtain rfl:p=(t,(n:Int)):=by simpa using hp
   exact ht
 ·rcases Yb.1 hp with hp | hp
  ·by_cases Ia:n=m
   ·subst Ia;exact absurd (hm▸QR hp) hn
   ·rw [Yn Ia] at hx;exact h.wd p hp m x hm hx
  ·obtain rfl:p=(t,(n:Int)):=by simpa using hp
   obtain rfl:n=m:=by have:(n:Int)=m:=hm; omega
   rw [Yz XJ] at hx;obtain rfl:=ZP hx;exact hw
theorem xD (h:XZ e V L)(x:Int) :XZ e (V++[Lc x]) L:=by
  have nU: ¬Uc (Lc x):=by simp [Uc,Lc]
  refine h.keep (fun i=>⟨fun ⟨m,u,hm,hu,hb⟩=>?_,fun hx=>hx.append⟩) fun n v hv hb=>?_
  all_goals
    first
    | (rcases YI m V.length with hl | hl
       · rw [Yw hl] at hu; exact ⟨m,u,hm,hu,hb⟩
       · rw [YY hl] at hu
         obtain ⟨_,hq⟩:=Zk.1 hu;simp at hq;exact absurd (hq▸hb) nU)
    | (rcases YI n V.length with hl | hl
       · rw [Yw hl] at hv; exact ⟨v,hv,Xy _⟩
       · rw [YY hl] at hv
         obtain ⟨_,hq⟩:=Zk.1 hv;simp at hq;exact absurd (hq▸hb) nU)
theorem Zdd (hc:GE c)(h:Inv c k s){i cl:Int}(h0:qJ c s i cl=0)(hr:XZ s.ep s.V L) :XZ s.ep (L8 c s i cl).V L:=by
 obtain ⟨c1,c2,c3,_⟩:=bK h0;obtain ⟨n,C9,hv⟩:=UK c1;have e1:i.toNat=n:=Zd;show XZ s.ep (s.V.set i.toNat { (CU s (VW s.V i)).2 with dl:=exD c s i cl}) L;generalize hy:VW s.V i=v at*;obtain ⟨GN,qY⟩:=Rl (e:=s.ep) (v:=v) c2;rw [e1,show (CU s v).2=(QE [XA s.ep,QH 2] v).2 from rfl,qY];have hx:=((h.vok v (Xt hv)).lo (.inr GN)).1;refine hr.set hv ?_ fun hb=>Xy _
 simp only [Uc];omega
def slL (c:Nat->Int)(s:Sg)(i:Int) :List QZ:=if(VW s.V i).st=5 then [((Fl (VW s.V i) s.ep c).2.wd,i)] else []
theorem Zdi (hc:GE c)(h:Inv c k s){i:Int}(h0:da c s i=0)(hr:XZ s.ep s.V L) :XZ s.ep (MW c s i).V (L++slL c s i):=by
 obtain ⟨c1,c2,c3⟩:=db h0;obtain ⟨n,C9,hv⟩:=UK c1;have e1:i.toNat=n:=Zd;have s11:=hc.g.sla0;have s10:=hc.g.unb0;show XZ s.ep (s.V.set i.toNat (Fl (VW s.V i) s.ep c).2) (L++slL c s i);unfold slL;generalize hy:VW s.V i=v at*;obtain ⟨rk,GN,hex,IY,hba⟩:=MY c2;have dU:=fun k=>((h.vok v (Xt hv)).lo k).1
 rw [e1,C9]
 by_cases h5:v.st=5
 ·rw [if_pos h5];refine hr.more hv (by unfold Uc; omega) ?_ (by rw [IY]; omega) (Xy _);unfold Uc;omega
 ·rw [if_neg h5,List.append_nil];refine hr.set hv ?_ fun hb=>by rw [IY]; omega
  unfold Uc;omega
end
end
section
open Go Go.RowKit
section
variable {c:Nat->Int} {k:Nat} {s:Sg} {e:Int} {V W:List ZN} {L:List QZ}
def RV (e:Int) :List ZN->List Int->List ZN
 | V,[]=>V
 | V,i::q=>RV e (if(VW V i).wd<=e then V.set i.toNat (ON 4 (VW V i)) else V) q
def eF (e:Int)(V:List ZN)(q:List Int) :List QZ:=(q.filter fun i=>decide (e < (VW V i).wd)).map fun i=>((VW V i).wd,i)
def MP (e:Int)(V:List ZN)(L:List QZ) :List QZ:=GB e L++eF e V (Vr e L)
theorem Ez {i:Int} :i ∈ Vr e L ↔ (e,i) ∈ L:=by
 unfold Vr;rw [Yc];constructor
 ·rintro ⟨p,hp,rfl⟩;obtain ⟨h1,h2⟩:=QL.1 hp;have:p.1=e:=by simpa using h2
  rw [<-this]; exact h1
 ·exact fun h=>⟨(e,i),QL.2 ⟨h,by simp⟩,rfl⟩
theorem gO {p:QZ} :p ∈ GB e L ↔ p ∈ L/\p.1≠e:=by
 unfold GB;rw [QL];simp
theorem Oh (h:(L.map (·.2)).Nodup) :(Vr e L).Nodup:=h.sublist (by unfold Vr; exact List.filter_sublist.map _)
theorem rK (h:(L.map (·.2)).Nodup){p q:QZ}(hp:p ∈ L)(hq:q ∈ L)(he:p.2=q.2) :p=q:=by
 induction L with
 | nil=>simp at hp
 | cons x L ih=>
  rw [Xa,XH] at h
  rcases ZX.1 hp with e1 | k1
  ·rcases ZX.1 hq with e2 | k2
   ·rw [e1,e2]
   ·have hm:x.2 ∈ L.map (·.2):=Yc.2 ⟨q,k2,by rw [<-he,e1]⟩;exact absurd hm h.1
  ·rcases ZX.1 hq with e2 | k2
   ·have hm:x.2 ∈ L.map (·.2):=Yc.2 ⟨p,k1,by rw [he,e2]⟩;exact absurd hm h.1
   ·exact ih h.2 k1 k2
theorem me: ∀(q:List Int) (V:List ZN),(∀i ∈ q,∃n:Nat,i=(n:Int)/\n < V.length)->q.Nodup->(RV e V q).length=V.length/\
  ∀n:Nat,(RV e V q)[n]?=if(n:Int) ∈ q/\(VW V n).wd<=e then(V[n]?).map (ON 4) else V[n]?
 | [],V,_,_=>⟨rfl,fun n=>by simp [RV]⟩
 | x::q,V,hq,hn=>by
  obtain ⟨m,rfl,hm⟩:=hq x ZE;rw [XH] at hn;have hv:V[m]?=some V[m]:=Zg hm;have ha:=Hp hv;have e1:((m:Nat) :Int).toNat=m:=Zd;unfold RV;rw [ha,e1]
  by_cases hw:V[m].wd<=e
  ·rw [if_pos hw];obtain ⟨i1,i2⟩:=me q (V.set m (ON 4 V[m])) (fun i hi=>by obtain ⟨n,h1,h2⟩:=hq i Dv; exact ⟨n,h1,by simpa using h2⟩) hn.2;refine ⟨i1.trans ZE,fun n=>?_⟩;rw [i2 n]
   by_cases nW:n=m
   ·subst nW;rw [if_neg (fun h=>hn.1 h.1),if_pos ⟨by simp,by rw [ha]; exact hw⟩,Yz hm,hv];rfl
   ·have jt:VW (V.set m (ON 4 V[m])) (n:Int)=VW V (n:Int):=by
     unfold VW;rw [Zo,Zo,Y7,Yn (fun h=>nW h.symm)]
    rw [jt,Yn (fun h=>nW h.symm)];have:((n:Int) ∈ ((m:Nat) :Int)::q) ↔ (n:Int) ∈ q:=by
     rw [ZX];constructor
     ·rintro (h | h)
      ·exact absurd Zd nW
      ·exact h
     ·exact .inr
    simp only [this]
  ·rw [if_neg hw];obtain ⟨i1,i2⟩:=me q V (fun i hi=>hq i Dv) hn.2;refine ⟨i1,fun n=>?_⟩;rw [i2 n]
   by_cases nW:n=m
   ·subst nW;rw [if_neg (fun h=>hn.1 h.1),if_neg (fun h=>hw (by rw [<-ha]; exact h.2))]
   ·have:((n:Int) ∈ ((m:Nat) :Int)::q) ↔ (n:Int) ∈ q:=by
     rw [ZX];constructor
     ·rintro (h | h)
      ·exact absurd Zd nW
      ·exact h
     ·exact .inr
    simp only [this]
theorem gM {v:ZN}(h:FM e v)(he:0<=e) :Uc (YB (e+1) v) ↔ Uc v:=by
 unfold YB
 by_cases c1:v.st=3/\v.ex=e+1
 ·rw [if_pos c1];exact ⟨fun _=> .inr ⟨c1.1,by omega⟩,fun _=> .inl rfl⟩
 ·rw [if_neg c1]
theorem Ey (e:Int)(v:ZN) :(YB e v).wd=v.wd:=by unfold YB; split <;> rfl
theorem Ar {v:ZN}(h:FM e v)(hb:Uc v)(hw:v.wd<=e+1) :(YB (e+1) v).st=4:=by
 have h3:=h.s3;unfold Uc at hb;unfold YB
 by_cases c1:v.st=3/\v.ex=e+1
 ·have:=h3 c1.1; rw [if_pos c1]
 ·rw [if_neg c1]
  rcases hb with hb | hb
  ·exact hb
  ·rcases h3 hb.1 with h | h
   ·exact absurd h hb.2
   ·exact absurd ⟨hb.1,h.1⟩ c1
theorem Ziz (h: ∀v ∈ V,FM e v)(he:0<=e)(hr:XZ e V L) :RV (e+1) (V.map (YB (e+1))) (Vr (e+1) L)=(V.map (YB (e+1))).map (QM (e+1)):=by
 have hq: ∀i ∈ Vr (e+1) L,∃n:Nat,i=(n:Int)/\n < (V.map (YB (e+1))).length:=fun i hi=>by
  obtain ⟨m,u,hm,hu,_⟩:=(hr.ub i).1 (Yc.2 ⟨_,Ez.1 hi,rfl⟩);exact ⟨m,hm,by rw [Yt]; exact (Zk.1 hu).1⟩
 obtain ⟨r1,r2⟩:=me (Vr (e+1) L) (V.map (YB (e+1))) hq (Oh hr.nd);apply Ve;intro n;have hV1:(V.map (YB (e+1)))[n]?=(V[n]?).map (YB (e+1)):=ZM ..;have hV2:((V.map (YB (e+1))).map (QM (e+1)))[n]?=((V[n]?).map (YB (e+1))).map (QM (e+1)):=by rw [ZM,ZM]
 rw [r2 n,hV2,hV1];clear r2 hV1 hV2
 cases hv:V[n]? with
 | none=>simp
 | some v=>
  have jt:VW (V.map (YB (e+1))) (n:Int)=YB (e+1) v:=Hp (by rw [ZM,hv]; rfl);rw [jt,Ey];have Ag:=h v (Xt hv);simp only [Option.map_some]
  by_cases hc:(n:Int) ∈ Vr (e+1) L/\v.wd<=e+1
  ·rw [if_pos hc];obtain ⟨m,u,hm,hu,hb⟩:=(hr.ub (n:Int)).1 (Yc.2 ⟨_,Ez.1 hc.1,rfl⟩);obtain rfl:n=m:=Zd;rw [hv] at hu;obtain rfl:=ZP hu;have h4:=Ar Ag hb hc.2;have hw:(YB (e+1) v).wd<=e+1:=by rw [Ey]; exact hc.2
   generalize YB (e+1) v=y at*;unfold QM ON;rw [if_pos ⟨h4,hw⟩,h4];rfl
  ·rw [if_neg hc];have: ¬((YB (e+1) v).st=4/\(YB (e+1) v).wd<=e+1):=fun hy=>by
    rw [Ey] at hy;have hb:Uc v:=(gM Ag he).1 (.inl hy.1);obtain ⟨p,hp,rj⟩:=Yc.1 ((hr.ub (n:Int)).2 ⟨n,v,rfl,hv,hb⟩);have k1:=hr.key p hp;have k2:=hr.wd p hp n v rj hv;refine hc ⟨Ez.2 ?_,hy.2⟩;have:p=(e+1,(n:Int)):=Prod.ext Zd rj;rw [<-this]; exact hp
   unfold QM;rw [if_neg this]
theorem ow (h: ∀v ∈ V,FM e v)(he:0<=e)(hr:XZ e V L) :XZ (e+1) ((V.map (YB (e+1))).map (QM (e+1))) (MP (e+1) (V.map (YB (e+1))) L):=by
 have jt: ∀(n:Nat) (v:ZN),V[n]?=some v->(VW (V.map (YB (e+1))) (n:Int)).wd=v.wd:=fun n v hv=>by
  rw [Hp (v:=YB (e+1) v) (by rw [ZM,hv]; rfl),Ey]
 have Ub: ∀(n:Nat) (v:ZN),V[n]?=some v->((V.map (YB (e+1))).map (QM (e+1)))[n]?=some (QM (e+1) (YB (e+1) v)):=fun n v hv=>by
  rw [ZM,ZM,hv]; rfl
 have hub: ∀v,FM e v->(Uc (QM (e+1) (YB (e+1) v)) ↔ Uc v/\e+1 < v.wd):=fun v Ag=>by
  have h4:=Ar Ag;have hl:=gM Ag he;have IY:=Ey (e+1) v;generalize hy:YB (e+1) v=y at*;unfold QM
  by_cases c1:y.st=4/\y.wd<=e+1
  ·rw [if_pos c1];constructor
   ·intro hb; unfold Uc at hb; simp only at hb; omega
   ·intro hb; omega
  ·rw [if_neg c1,hl];constructor
   ·intro hb;refine ⟨hb,?_⟩
    rcases Int.lt_or_le (e+1) v.wd with XJ | TT
    ·exact XJ
    ·exact absurd ⟨h4 hb TT,by rw [IY]; exact TT⟩ c1
   ·exact fun hb=>hb.1
 have hwd2: ∀v,(QM (e+1) (YB (e+1) v)).wd=v.wd:=fun v=>by
  rw [<-Ey (e+1) v];unfold QM; split <;> rfl
 have D8: ∀p,p ∈ MP (e+1) (V.map (YB (e+1))) L ↔ (p ∈ L/\p.1≠e+1)\/((e+1,p.2) ∈ L/\e+1 < (VW (V.map (YB (e+1))) p.2).wd/\p.1=(VW (V.map (YB (e+1))) p.2).wd):=fun p=>by
  unfold MP eF;rw [Yb,gO,Yc];constructor
  ·rintro (hp | ⟨i,hi,rfl⟩)
   ·exact .inl hp
   ·obtain ⟨h1,h2⟩:=QL.1 hi;exact .inr ⟨Ez.1 h1,by simpa using h2,rfl⟩
  ·rintro (hp | ⟨h1,h2,h3⟩)
   ·exact .inl hp
   ·exact .inr ⟨p.2,QL.2 ⟨Ez.2 h1,by simpa using h2⟩,Prod.ext h3.symm rfl⟩
 refine ⟨?_,fun i=>?_,fun p hp=>?_,fun p hp n y hn hy=>?_⟩
 ·unfold MP eF;rw [Xv,Vf,QU];refine ⟨hr.nd.sublist (List.filter_sublist.map _),?_,?_⟩
  ·rw [show ((fun x:QZ=>x.2) ∘ fun i=>((VW (V.map (YB (e+1))) i).wd,i))=id from rfl,List.map_id];exact (Oh hr.nd).sublist List.filter_sublist
  ·intro a ha b hb hab;subst hab;rw [show ((fun x:QZ=>x.2) ∘ fun i=>((VW (V.map (YB (e+1))) i).wd,i))=id from rfl,List.map_id] at hb;obtain ⟨p,hp,rfl⟩:=Yc.1 ha;have h1:=gO.1 hp;have h2:=Ez.1 (QL.1 hb).1;exact h1.2 (congrArg (·.1) (rK hr.nd h1.1 h2 rfl))
 ·rw [Yc];constructor
  ·rintro ⟨p,hp,rfl⟩;have C9:p.2 ∈ L.map (·.2):=by
    rcases (D8 p).1 hp with h1 | h1
    ·exact QR h1.1
    ·exact Yc.2 ⟨_,h1.1,rfl⟩
   obtain ⟨m,u,hm,hu,hb⟩:=(hr.ub p.2).1 C9;refine ⟨m,_,hm,Ub m u hu,(hub u (h u (Xt hu))).2 ⟨hb,?_⟩⟩
   rcases (D8 p).1 hp with h1 | h1
   ·have:=hr.key p h1.1;have:=hr.wd p h1.1 m u hm hu;omega
   ·have:=h1.2.1;rw [hm,jt m u hu] at this;exact this
  ·rintro ⟨m,y,rfl,hy,hb⟩
   cases hv:V[m]? with
   | none=>rw [ZM,ZM,hv] at hy; simp at hy
   | some v=>
    rw [Ub m v hv] at hy;obtain rfl:=ZP hy;obtain ⟨b1,b2⟩:=(hub v (h v (Xt hv))).1 hb;obtain ⟨p,hp,rj⟩:=Yc.1 ((hr.ub (m:Int)).2 ⟨m,v,rfl,hv,b1⟩)
    by_cases hpe:p.1=e+1
    ·refine ⟨(v.wd,(m:Int)),(D8 _).2 (.inr ⟨?_,?_,?_⟩),rfl⟩
     ·have:p=(e+1,(m:Int)):=Prod.ext hpe rj;rw [<-this]; exact hp
     ·rw [jt m v hv]; exact b2
     ·rw [jt m v hv]
    ·exact ⟨p,(D8 p).2 (.inl ⟨hp,hpe⟩),rj⟩
 ·rcases (D8 p).1 hp with h1 | h1
  ·have:=hr.key p h1.1;omega
  ·omega
 ·cases hv:V[n]? with
  | none=>rw [ZM,ZM,hv] at hy; simp at hy
  | some v=>
   rw [Ub n v hv] at hy;obtain rfl:=ZP hy;rw [hwd2]
   rcases (D8 p).1 hp with h1 | h1
   ·exact hr.wd p h1.1 n v hn hv
   ·have h3:=h1.2.2;rw [hn,jt n v hv] at h3;omega
def FQ (c:Nat->Int)(e:Int) :List ZN->List (Int × Int)->List QZ
 | _,[]=> []
 | V,p::q=>((QE [XM e,Ja e (c 10)] (VW V p.1)).2.wd,p.1)::FQ c e (V.set p.1.toNat (QE [XM e,Ja e (c 10)] (VW V p.1)).2) q
theorem iB (he:0<=e)(hl:OR (e+1) (c 10))(hc:0 < c 10) : ∀(q:List (Int × Int)) (V:List ZN) (L:List QZ),(∀v ∈ V,FM e v)->(q.map (·.1)).Nodup->(∀p ∈ q,VU V UE p.1)->XZ e V L->
  XZ e (DJ c (e+1) V q) (L++FQ c (e+1) V q)
 | [],V,L,_,_,_,hr=>by simpa [DJ,FQ] using hr
 | p::q,V,L,h,hn,hq,hr=>by
  obtain ⟨n,v,RI,hv,nX⟩:=hq p ZE;have ha:VW V p.1=v:=by rw [RI]; exact Hp hv
  rw [Xa,XH] at hn;obtain ⟨k0,k1,k2⟩:=bg (h v (Xt hv)) nX hl hc;have e1:p.1.toNat=n:=Zd;unfold DJ FQ;rw [ha,e1];have hm:=hr.more (t:=(QE [XM (e+1),Ja (e+1) (c 10)] v).2.wd) hv (v':=(QE [XM (e+1),Ja (e+1) (c 10)] v).2) (fun hb=>by have:=nX.1; have:=nX.2; unfold Uc at hb; omega) (by
   rw [k2]; have:=nX.1; unfold Uc; simp only; omega) (by rw [k2]; simp only; omega) (Xy _)
  have ih:=iB he hl hc q (V.set n (QE [XM (e+1),Ja (e+1) (c 10)] v).2) (L++[((QE [XM (e+1),Ja (e+1) (c 10)] v).2.wd,(n:Int))]) (Kt h k1) hn.2 (fun p' Aj=>(hq p' (by simp [Aj])).set_ne (fun he=>hn.1 (by
   rw [RI,<-he];exact QR Aj))) hm
  rw [Qd,List.singleton_append] at ih;rw [RI];exact ih
theorem ox: ∀(q:List Int) (V:List ZN),q.Nodup->(∀i ∈ q,VU V Vt i)->XZ e V L->XZ e (Rz 1 V q) L
 | [],V,_,_,hr=>hr
 | x::q,V,hn,hq,hr=>by
  obtain ⟨n,v,RI,hv,tz⟩:=hq x ZE;have ha:VW V x=v:=by rw [RI]; exact Hp hv
  rw [XH] at hn;have e1:x.toNat=n:=Zd;unfold Rz;rw [ha,e1];refine ox q (V.set n (ON 1 v)) hn.2 (fun i hi=>(hq i Dv).set_ne (fun he=>hn.1 dK)) (hr.set hv ?_ fun _=>Xy _);unfold ON;rw [show v.st=1 from tz];have:v.st=1:=tz;unfold Uc;show (Jz 1 1=4\/(Jz 1 1=3/\v.ex≠ -1)) ↔ _;rw [show Jz 1 1=2 from rfl];omega
theorem Zde (mb:Int)(q:List (Int × Int))(hr:XZ e V L) :XZ e (Kb mb V q) L:=by
 refine Hc mb (I:=fun W=>XZ e W L) ?_ q V hr;intro l i j s d hl Kj hi hj hc;obtain ⟨bV,vE,_,_,_,_⟩:=Rv hc;have SI:(l.set i (Fg s))[j]?=some d:=jl
 exact (hl.set (v':=Fg s) hi (by unfold Uc; simp only [Fg]; omega) fun _=>Xy _).set (v':=PF s d) SI Iff.rfl fun _=>Xy _
theorem Zdh {mb:Int}(hm:0<=mb)(q:List Rq)(hq: ∀r ∈ q,UH r)(hf: ∀v ∈ V,Yp v)(hr:XZ e V L) :XZ e (XO mb V q) L:=by
 obtain ⟨h1,_⟩:=Hd mb hm q V hq hf;have hlen:=Eb mb q V;have back: ∀(n:Nat) (v':ZN),(XO mb V q)[n]?=some v'-> ∃(v:ZN) (x:Int),V[n]?=some v/\v'= { v with bal:=v.bal - x}:=fun n v' hv'=>by
  exact ZmI
 refine hr.keep (fun i=>⟨fun ⟨m,u,hm,hu,hb⟩=>?_,fun ⟨m,u,hm,hu,hb⟩=>?_⟩) fun n v hv hb=>?_
 ·obtain ⟨v,x,hv,rfl⟩:=back m u hu;exact ⟨m,v,hm,hv,hb⟩
 ·obtain ⟨u',hu',hp,_⟩:=h1 m u hu;exact ⟨m,u',hm,hu',by rw [hp]; exact hb⟩
 ·obtain ⟨u,x,hu,rfl⟩:=back n v hv;exact ⟨u,hu,Xy _⟩
theorem oy: ∀(q:List Nat) (V:List ZN),q.Nodup->(∀i ∈ q,VU V (ME e) (i:Nat))->XZ e V L->XZ e (Jd e V q) L
 | [],V,_,_,hr=>hr
 | x::q,V,hn,hq,hr=>by
  obtain ⟨n,v,RI,hv,hp⟩:=hq x ZE;obtain rfl:x=n:=Zd;rw [XH] at hn;have ha:V.getD x ZU=v:=VG hv;obtain ⟨f1,f2⟩:=Po hp.1 hp.2;unfold Jd;rw [ha,f1];refine oy q (V.set x { v with bal:=0,st:=6}) hn.2 (fun i hi=>(hq i Dv).set_ne (fun he=>hn.1 (by
   obtain rfl:i=x:=Zd;exact hi))) (hr.set hv ?_ fun _=>Xy _)
  have:=hp.1;unfold Uc;simp only;omega
end
end
section
open Go Go.RowKit
section
variable {c:Nat->Int} {k:Nat} {s:Sg} {L:List QZ}
def bdL (c:Nat->Int)(s:Sg)(L:List QZ) :List QZ:=MP s.ep (s.V.map (YB s.ep)) L++FQ c (s.ep+1) (Dr s) (Nl c s).1
def nxL (c:Nat->Int)(s:Sg)(L:List QZ) :List QZ:=if(s.bk+1)%c 13=0 then bdL c (XP s) L else L
def Bw (c:Nat->Int)(s:Sg)(L:List QZ)(o:Oq) :List QZ:=
 if o.kd=7 then nxL c s L else if o.kd=4/\da c s o.ix=0 then L++slL c s o.ix else L
structure Zoj (c:Nat->Int)(s:Sg) :Prop where
 v1: ∀v ∈ Dr (XP s),FM (s.ep+1) v
 v2: ∀v ∈ CO c (XP s),FM (s.ep+1) v
 v3: ∀v ∈ p5 c (XP s),FM (s.ep+1) v
 nd:((Nl c (XP s)).1.map (·.1)).Nodup
 qd: ∀p ∈ (Nl c (XP s)).1,VU (Dr (XP s)) UE p.1
 pn:(s.pd.take (St c (XP s))).Nodup
 pd: ∀i ∈ s.pd,VU (CO c (XP s)) Vt i
 lo:OR (s.ep+1+1) (c 10)
 l1:(Dr (XP s)).length=s.V.length
 l2:(CO c (XP s)).length=s.V.length
 l3:(p5 c (XP s)).length=s.V.length
 b1:Qj (Dr (XP s))=Qj s.V
 b2:Qj (CO c (XP s))=Qj s.V
 b3:Qj (p5 c (XP s))=Qj s.V
theorem ue {V:List ZN}{f:ZN->ZN}(h: ∀v ∈ V,(f v).bal=v.bal) :Qj (V.map f)=Qj V:=by
 unfold Qj;rw [Vf];exact List.map_congr_left fun v hv=>h v hv
theorem uf (hc:GE c)(h:Inv c k s)(hk:k<=1000000) :Zoj c s:=by
 obtain ⟨g1,g2,g3⟩:=TL h.vok h.ep0;have bk1:=h.bk1;have ep1:=h.ep1;have ep0:=h.ep0;have u0:=hc.g.unb0;have u1:=hc.g.unb1;have hl:OR (s.ep+1+1) (c 10):=by unfold OR TV; omega
 have bU:((Nl c (XP s)).1.map (·.1)++((Nl c (XP s)).2.1++(Nl c (XP s)).2.2.1)).Perm (s.F++s.W):=Wu _ _ _ _;have vX:=bU.nodup_iff.2 h.lnn;rw [QU] at vX;obtain ⟨n1,n2,n3⟩:=vX;have D8: ∀p ∈ (Nl c (XP s)).1,VU (Dr (XP s)) UE p.1:=fun p hp=>
  g1.qd p.1 (h.lnx p.1 (bU.mem_iff.1 (Yb.2 (.inl (QR hp)))))
 obtain ⟨r1,r2,r3,r4,r5⟩:=O8 hl Zd (Nl c (XP s)).1 (Dr (XP s)) g1.vok n1 D8;have Ib:(s.pd.take (St c (XP s))).Nodup:=h.pdn.sublist (Uy _ _);have ga: ∀i ∈ s.pd,VU (CO c (XP s)) Vt i:=fun i hi=>r4 i (g1.pd i (h.pdx i hi))
 obtain ⟨t1,t2,t3,t4,t5⟩:=TO (s.pd.take (St c (XP s))) (CO c (XP s)) r2 Ib (fun i hi=>ga i (ZT hi));have hb:Qj (Dr (XP s))=Qj s.V:=by
  show Qj ((s.V.map (YB (s.ep+1))).map (QM (s.ep+1)))=_;rw [jK];exact ue fun v hv=>(Nt (h.vok v hv) h.ep0).2.2
 exact ⟨g1.vok,r2,t2,n1,D8,Ib,ga,hl,g1.len,r1.trans g1.len,t1.trans (r1.trans g1.len),hb,r3.trans hb,t3.trans (r3.trans hb)⟩
theorem xC (hc:GE c)(h:Inv c k s)(hk:k<=1000000)(hr:XZ s.ep s.V L) :XZ (s.ep+1) (bdS c (XP s)).V (bdL c (XP s) L):=by
 have b:=uf hc h hk;have u0:=hc.g.unb0;have ep0:=h.ep0;have r1:=ow h.vok h.ep0 hr;have r2:=iB Zd b.lo Zd (Nl c (XP s)).1 (Dr (XP s)) _ b.v1 b.nd b.qd r1;have r3:=ox (s.pd.take (St c (XP s))) (CO c (XP s)) b.pn (fun i hi=>b.pd i (ZT hi)) r2;exact Zde (c 6) (s.mg.take (B9 c s.mg)) r3
theorem Zdf (hc:GE c)(h:Inv c k s)(hk:k<=1000000)(hr:XZ s.ep s.V L) :XZ (SR c s).ep (SR c s).V (nxL c s L):=by
 unfold SR nxL
 split
 ·exact xC hc h hk hr
 ·exact hr
theorem Zdj (hc:GE c)(h:Inv c k s)(hr:XZ s.ep s.V L) :XZ (dj c s).ep (dj c s).V L:=by
 obtain ⟨g,hn,hp⟩:=ND hc h;have hm:0<=c 5:=by have:=hc.m5; omega
 exact oy (dZ c s) (M4 c s) hn hp (Zdh hm (s.pt.take (LO c s)) (fun r hr=>h.ptf r (ZT hr)) h.fits hr)
theorem Zdg (hc:GE c)(h:Inv c k s)(hk:k<=1000000)(hr:XZ s.ep s.V L)(o:Oq) :XZ (Hl c s o).2.ep (Hl c s o).2.V (Bw c s L o):=by
 by_cases h7:o.kd=7
 ·have e:Hl c s o=tkO c s:=by
   unfold Hl;rw [if_neg Zd,if_neg Zd,if_neg Zd,if_neg Zd,if_neg Zd,if_neg Zd,if_pos h7]
  rw [e];unfold Bw;rw [if_pos h7];exact Zdj hc (Az hc h hk) (Zdf hc h hk hr)
 ·unfold Bw;rw [if_neg h7]
  by_cases h4:o.kd=4
  ·have e:Hl c s o=av c s o:=by
    unfold Hl;rw [if_neg Zd,if_neg Zd,if_neg Zd,if_pos h4]
   rw [e];unfold av
   by_cases h0:da c s o.ix=0
   ·rw [if_pos h0,if_pos ⟨h4,h0⟩]; exact Zdi hc h h0 hr
   ·rw [if_neg h0,if_neg (fun h=>h0 h.2)]; exact hr
  ·rw [if_neg (fun h=>h4 h.1)];unfold Hl
   by_cases h1:o.kd=1
   ·rw [if_pos h1]; unfold LY; split
    ·exact xD hr _
    ·exact hr
   rw [if_neg h1]
   by_cases h2:o.kd=2
   ·rw [if_pos h2]; exact ZfW
   rw [if_neg h2]
   by_cases h3:o.kd=3
   ·rw [if_pos h3]; exact ZfW
   rw [if_neg h3,if_neg h4]
   by_cases h5:o.kd=5
   ·rw [if_pos h5]; unfold jR; split <;> exact hr
   rw [if_neg h5]
   by_cases h6:o.kd=6
   ·rw [if_pos h6]; unfold lC; split <;> exact hr
   rw [if_neg h6,if_neg h7];exact hr
end
end
section
open Go Go.RowKit
section
variable {c:Nat->Int} {k:Nat} {s:Sg} {e:Int} {v:ZN} {V:List ZN}
theorem ej (he:TV e) :(QE [XA e,QH 2] v).1=if v.st=2 then 0 else 8:=by
 by_cases h2:Jz v.st 2=0
 ·rw [nj he h2,if_neg (fun h=>by rw [h] at h2; exact absurd h2 Y5)]
 ·rw [tN he h2,if_pos (ir h2).1]
theorem mq (hv:FM e v)(hl:OR e (c 11))(h2:v.st=2) :(Fl v e c).1=0:=by
 have h1:v.sl=false:=(hv.lo (.inr h2)).2;unfold Fl;rw [show KI v e (c 11)=KI { v with bal:=v.bal - DQ v c} e (c 11) from rfl];have h3: ¬Jz v.st 7=0:=by rw [h2]; decide
 rw [oD (v:= { v with bal:=v.bal - DQ v c}) h1 h3 hl]
theorem Inv.ep_in (h:Inv c k s)(hk:k<=1000000) :TV s.ep:=by
 have:=h.ep0;have:=h.ep1;have:=h.bk1;unfold TV; omega
theorem Inv.slk (hc:GE c)(h:Inv c k s)(hk:k<=1000000) :OR s.ep (c 11):=by
 have:=h.ep0;have:=h.ep1;have:=h.bk1;have:=hc.gc;refine ⟨h.ep_in hk,?_⟩;have:=hc.gc.sd1;omega
theorem ZkN (h:Inv c k s)(hk:k<=1000000)(i cl:Int) :qJ c s i cl=if F6 s.V i=true then 7 else if(VW s.V i).st≠2 then 8 else if c 1<=(UA s.F s.W cl).length then 6 else if WM c s cl (VW s.V i)=none then 10 else 0:=by
 unfold qJ CU;rw [ej (h.ep_in hk)]
 by_cases h2:(VW s.V i).st=2
 ·simp only [h2,if_true,ne_eq,not_true,if_false]
 ·simp only [if_neg h2,ne_eq,h2,not_false_iff,if_true];rfl
theorem ZlP (hc:GE c)(h:Inv c k s)(hk:k<=1000000)(i:Int) :da c s i=if F6 s.V i=true then 7 else if(VW s.V i).st=2/\c 1<=s.F.length then 6 else(Fl (VW s.V i) s.ep c).1:=by
 unfold da
 by_cases ho:F6 s.V i=true
 ·rw [if_pos ho,if_pos ho]
 ·rw [if_neg ho,if_neg ho];obtain ⟨n,_,hn⟩:=UK (V:=s.V) (i:=i) (by simpa using ho)
  by_cases h2:(VW s.V i).st=2
  ·have h0:=mq (c:=c) (h.vok _ (Xt hn)) (h.slk hc hk) h2;rw [if_neg (fun hh=>hh h0),h0]
  ·have hq: ¬((VW s.V i).st=2/\c 1<=s.F.length):=fun hh=>h2 hh.1
   rw [if_neg hq,if_neg hq]
   by_cases h0:(Fl (VW s.V i) s.ep c).1=0
   ·rw [if_neg (fun hh=>hh h0),h0]
   ·rw [if_pos h0]
def M8 (V:List ZN)(st:Int)(n:Nat) :List Nat:=(YO n).filter fun i=>decide ((V.getD i ZU).st=st)
theorem Cs (V:List ZN)(st:Int)(n:Nat) :M8 V st (n+1)=if(V.getD n ZU).st=st then M8 V st n++[n] else M8 V st n:=by
 unfold M8;rw [Kh,Q7]
 by_cases h:(V.getD n ZU).st=st
 ·rw [if_pos h,JZ,if_pos (decide_eq_true h)]; rfl
 ·rw [if_neg h,JZ,if_neg (by rw [decide_eq_false h]; simp)]; simp
theorem aK (V:List ZN)(st:Int)(n:Nat) :(M8 V st n).Nodup:=List.nodup_range.sublist List.filter_sublist
theorem PE {V:List ZN}{st:Int}{n i:Nat} :i ∈ M8 V st n ↔ i < n/\(V.getD i ZU).st=st:=by simp [M8]
theorem aJ (V:List ZN)(st:Int) : ∀n,n<=V.length->((M8 V st n).length:Int)=Xj (V.take n) st
 | 0,_=>by simp [M8,Xj]
 | n+1,h=>by
  have ih:=aJ V st n Zd;have hv:V[n]?=some (V.getD n ZU):=by rw [Zo,Zg Zd]; rfl
  rw [Cs,Bx hv,D6,<-ih]
  by_cases h2:(V.getD n ZU).st=st
  ·rw [if_pos h2]; simp only [ZI,Xq,Xj,if_pos h2]; omega
  ·rw [if_neg h2]; simp only [Xj,if_neg h2]; omega
theorem ZdI (V:List ZN)(st:Int) :((M8 V st V.length).length:Int)=Xj V st:=by rw [aJ V st _ (Zh _),J1]
theorem ZiN (V:List ZN)(st:Int){n m:Nat}(h:n<=m) :(M8 V st n).length<=(M8 V st m).length:=by
 induction m with
 | zero=>rw [Nat.le_zero.1 h]; exact Zh _
 | succ m ih=>
  rcases YI m n with h1 | h1
  ·rw [show n=m+1 by omega]; exact Zh _
  ·refine ZZ (ih h1) ?_;rw [Cs]
   split <;> simp
theorem yv {V:List ZN}{st:Int}{n:Nat}(hn:n<=V.length)(h:(M8 V st n).length=(M8 V st V.length).length) :M8 V st n=M8 V st V.length:=by
 have hp:M8 V st n <+:M8 V st V.length:=by
  unfold M8;obtain ⟨d,hd⟩ : ∃d,V.length=n+d:=⟨V.length - n,by omega⟩;rw [hd,List.range_add,Q7];exact List.prefix_append _ _
 exact hp.eq_of_length h
def L6 (f:ZN->ZN) :List ZN->List Nat->List ZN
 | V,[]=>V
 | V,i::q=>L6 f (V.set i (f (V.getD i ZU))) q
theorem bC (f:ZN->ZN) : ∀(q:List Nat) (V:List ZN),(L6 f V q).length=V.length
 | [],V=>rfl
 | i::q,V=>by rw [L6,bC f q,Xb]
theorem getD_set_ne {V:List ZN}{i j:Nat}{x:ZN}(h:i≠j) :(V.set i x).getD j ZU=V.getD j ZU:=by
 rw [Zo,Yn h,<-Zo]
theorem SF {V:List ZN}{i:Nat}{x:ZN}(h:i < V.length) :(V.set i x).getD i ZU=x:=by
 rw [Zo,Yz h]; rfl
theorem jP (f:ZN->ZN) : ∀(q:List Nat) (V:List ZN),q.Nodup->(∀i ∈ q,i < V.length)-> ∀j,(L6 f V q).getD j ZU=if j ∈ q then f (V.getD j ZU) else V.getD j ZU
 | [],V,_,_,j=>by simp [L6]
 | i::q,V,hn,hq,j=>by
  obtain ⟨h1,h2⟩:=XH.1 hn;have hi:=hq i ZE;rw [L6,jP f q _ h2 (fun k hk=>by rw [Xb]; exact hq k (by simp [hk])) j]
  by_cases hj:j=i
  ·subst hj;rw [if_neg h1,SF hi,if_pos ZE]
  ·rw [getD_set_ne (fun e=>hj e.symm)]
   by_cases h3:j ∈ q
   ·rw [if_pos h3,if_pos (by simp [h3])]
   ·rw [if_neg h3,if_neg (by simp [hj,h3])]
theorem fL {V W:List ZN}(hl:V.length=W.length)(h: ∀j,j < V.length->V.getD j ZU=W.getD j ZU) :V=W:=by
 apply List.ext_getElem hl;intro j h1 h2;have:=h j h1;rwa [Zo,Zo,Zg h1,Zg h2] at this
theorem vh {f:ZN->ZN}{V:List ZN}{j:Nat}(h:j < V.length) :(V.map f).getD j ZU=f (V.getD j ZU):=by
 rw [Zo,Zo,ZM,Zg h]; rfl
theorem Zbv (f:ZN->ZN)(V:List ZN)(st:Int)(hf: ∀v,v.st≠st->f v=v) :L6 f V (M8 V st V.length)=V.map f:=by
 refine fL (by rw [bC,Yt]) fun j hj=>?_
 rw [bC] at hj;rw [jP f _ _ (aK _ _ _) (fun i hi=>(PE.1 hi).1),vh hj]
 split
 ·rfl
 ·rename_i h
  exact (hf _ fun GN=>h (PE.2 ⟨hj,GN⟩)).symm
end
end
section
open Go Go.RowKit
structure jo (c:Nat->Int)(e:Int)(v:ZN) :Prop where
 r7:v.ex= -1\/(3<=v.st/\v.st<=6)/\v.rq < v.ex/\c 10<=v.wd - v.ex
 r8:v.st=6\/v.st=7->v.bal=0
 r12:v.sl=true->(3<=v.st/\v.st<=6)/\v.dl= -1
 rq:v.st=3->v.ex= -1->v.rq<=e
 w0: -1<=v.wd
structure Fw (c:Nat->Int)(s:Sg) :Prop where
 ok: ∀v ∈ s.V,jo c s.ep v
 pd: ∀i,VU s.V Vt i->i ∈ s.pd
 qd: ∀i,VU s.V UE i->i ∈ s.F++s.W
theorem ZhU (c:Nat->Int) :Fw c dY:=⟨fun v hv=>by simp [dY] at hv,fun i ⟨n,v,_,h,_⟩=>by simp [dY] at h,fun i ⟨n,v,_,h,_⟩=>by simp [dY] at h⟩
section
variable {c:Nat->Int} {k:Nat} {s:Sg}
theorem WX {V:List ZN}{v:ZN}{p:ZN->Prop}{i:Int}(h:VU (V++[v]) p i) :VU V p i\/i=(V.length:Int)/\p v:=by
 obtain ⟨n,u,hi,hu,hp⟩:=h
 rcases YI n V.length with hl | hl
 ·rw [Yw hl] at hu;exact .inl ⟨n,u,hi,hu,hp⟩
 ·have hn:n=V.length:=by
   have:=(Zk.1 hu).1;simp at this; omega
  subst hn;simp at hu;subst hu;exact .inr ⟨hi,hp⟩
theorem Fb {V:List ZN}{n:Nat}{v':ZN}{p:ZN->Prop}{i:Int}(h:VU (V.set n v') p i) :(i≠(n:Int)/\VU V p i)\/(i=(n:Int)/\p v'):=by
 obtain ⟨m,u,hi,hu,hp⟩:=h
 by_cases Ia:n=m
 ·subst Ia;have hl:n < V.length:=by have:=(Zk.1 hu).1; exact DI
  rw [Yz hl] at hu;obtain rfl:=ZP hu;exact .inr ⟨hi,hp⟩
 ·rw [Yn Ia] at hu;exact .inl ⟨by omega,m,u,hi,hu,hp⟩
theorem uF (h:Fw c s)(x:Int) :Fw c (L1 s x):=by
 refine ⟨fun v hv=>?_,fun i hi=>?_,fun i hi=>?_⟩
 ·simp only [L1,Yb,Ym] at hv
  rcases hv with hv | rfl
  ·exact h.ok v hv
  ·exact ⟨.inl rfl,fun h=>by simp [Lc] at h,fun h=>by simp [Lc] at h,fun h=>by simp [Lc] at h,by show (-1:Int)<= -1; omega⟩
 ·simp only [L1,Yb,Ym]
  rcases WX hi with h1 | ⟨h1,_⟩
  ·exact .inl (h.pd i h1)
  ·exact .inr h1
 ·rcases WX hi with h1 | ⟨_,h2⟩
  ·exact h.qd i h1
  ·have:=h2.1; simp [Lc] at this
theorem nE (hc:GE c)(hI:Inv c k s)(h:Fw c s){i cl:Int}(FA:cl=0\/cl=1)(h0:qJ c s i cl=0) :Fw c (L8 c s i cl):=by
 obtain ⟨c1,c2,c3,_⟩:=bK h0;obtain ⟨n,C9,hv⟩:=UK c1;have q0:=hc.q0;generalize hy:VW s.V i=v at*;obtain ⟨GN,qY⟩:=Rl (e:=s.ep) (v:=v) c2;have e1:i.toNat=n:=Zd;have dU:=(hI.vok v (Xt hv)).lo (.inr GN);have hV:(L8 c s i cl).V=s.V.set n { v with rq:=s.ep,st:=3,dl:=exD c s i cl}:=by
  simp only [L8,e1,hy,CU,qY]
 have hE:((L8 c s i cl).F=s.F++[i]/\(L8 c s i cl).W=s.W)\/((L8 c s i cl).F=s.F/\(L8 c s i cl).W=s.W++[i]):=by
  rcases FA with rfl | rfl
  ·have:s.F.length < (c 1).toNat:=by simp only [UA,if_true] at c3; omega
   exact .inl ⟨by simp [L8,LH,this],by simp [L8,LI]⟩
  ·have:s.W.length < (c 1).toNat:=by simp [UA] at c3; omega
   exact .inr ⟨by simp [L8,LH],by simp [L8,LI,this]⟩
 have hFW: ∀j,j=i\/j ∈ s.F++s.W->j ∈ (L8 c s i cl).F++(L8 c s i cl).W:=fun j hj=>by
  rcases hE with ⟨e2,e3⟩ | ⟨e2,e3⟩
  ·rw [e2,e3];simp only [Yb,Ym] at hj ⊢
   rcases hj with h | h | h
   ·exact .inl (.inr h)
   ·exact .inl (.inl h)
   ·exact .inr h
  ·rw [e2,e3];simp only [Yb,Ym] at hj ⊢
   rcases hj with h | h | h
   ·exact .inr (.inr h)
   ·exact .inl h
   ·exact .inr (.inl h)
 refine ⟨?_,fun j hj=>?_,fun j hj=>?_⟩
 ·rw [hV];refine Kt h.ok ⟨.inl dU.1,fun h=>by simp at h,fun h=>?_,fun _ _=>Xy _,(h.ok v (Xt hv)).w0⟩;rw [dU.2] at h; cases h
 ·rw [hV] at hj
  rcases Fb hj with ⟨_,h1⟩ | ⟨_,h2⟩
  ·exact h.pd j h1
  ·simp [Vt] at h2
 ·rw [hV] at hj
  rcases Fb hj with ⟨_,h1⟩ | ⟨h1,_⟩
  ·exact hFW j (.inr (h.qd j h1))
  ·exact hFW j (.inl (h1.trans C9.symm))
theorem xZ {e:Int}{v:ZN}(h:(Fl v e c).1=0) :(v.st=2->(Fl v e c).2.rq=e)/\(v.st≠2->(Fl v e c).2.rq=v.rq)/\(Fl v e c).2.dl= -1/\(Fl v e c).2.sl=true:=by
 unfold Fl at h ⊢;rw [show KI v e (c 11)=KI { v with bal:=v.bal - DQ v c} e (c 11) from rfl] at h ⊢
 by_cases h1:v.sl=true
 ·exact pg
 ·have h1:v.sl=false:=QT
  by_cases h2:Jz v.st 7=0
  ·exact o9
  ·by_cases h3:OR e (c 11)
   ·rw [oD (v:= { v with bal:=v.bal - DQ v c}) h1 h2 h3]
    by_cases h4:v.st=2 <;> simp [mm,h4]
   ·exact o7
theorem Zdo (hc:GE c)(hI:Inv c k s)(h:Fw c s){i:Int}(h0:da c s i=0) :Fw c (MW c s i):=by
 obtain ⟨c1,c2,c3⟩:=db h0;obtain ⟨n,C9,hv⟩:=UK c1;generalize hy:VW s.V i=v at*;obtain ⟨rk,GN,hex,IY,hba⟩:=MY c2;obtain ⟨k1,k2,k3,k4⟩:=xZ c2;have e1:i.toNat=n:=Zd;have hV:(MW c s i).V=s.V.set n (Fl v s.ep c).2:=by simp only [MW,e1,hy]
 have hF:(MW c s i).F=if v.st=2 then s.F++[i] else s.F:=by simp only [MW,hy]
 have hW:(MW c s i).W=s.W:=rfl;have hA:=h.ok v (Xt hv);have hst':3<=(Fl v s.ep c).2.st/\(Fl v s.ep c).2.st<=4:=Zd;have rl: ∀j,j ∈ s.F++s.W->j ∈ (MW c s i).F++(MW c s i).W:=fun j hj=>by
  rw [hF,hW]
  split
  ·simp only [Yb,Ym] at hj ⊢
   rcases hj with h | h
   ·exact .inl (.inl h)
   ·exact .inr h
  ·exact hj
 refine ⟨?_,fun j hj=>?_,fun j hj=>?_⟩
 ·rw [hV];refine Kt h.ok ⟨?_,fun h=>by omega,fun _=>⟨by omega,k3⟩,fun h5 h6=>?_,by rw [IY]; have:=hA.w0; have:v.wd<=max v.wd (s.ep+c 11):=Int.le_max_left _ _; omega⟩
  ·rw [hex,IY]
   rcases hA.r7 with h7 | ⟨h7,h8,h9⟩
   ·exact .inl h7
   ·right;have h2:v.st≠2:=Zd;refine ⟨by omega,by rw [k2 h2]; exact h8,?_⟩;have:v.wd<=max v.wd (s.ep+c 11):=Int.le_max_left _ _;omega
  ·by_cases h2:v.st=2
   ·rw [k1 h2]; exact Xy _
   ·rw [k2 h2];exact hA.rq Zd (by rw [<-hex]; exact h6)
 ·rw [hV] at hj
  rcases Fb hj with ⟨_,h1⟩ | ⟨_,h2⟩
  ·exact h.pd j h1
  ·have:(Fl v s.ep c).2.st=1:=h2;omega
 ·rw [hV] at hj
  rcases Fb hj with ⟨_,h1⟩ | ⟨h1,h2⟩
  ·exact rl j (h.qd j h1)
  ·by_cases h3:v.st=2
   ·rw [hF,if_pos h3];simp only [Yb,Ym];exact .inl (.inr (h1.trans C9.symm))
   ·refine rl j (h.qd j ⟨n,v,h1,hv,?_,?_⟩)
    ·have:=h2.1; omega
    ·rw [<-hex]; exact h2.2
structure NR (c:Nat->Int)(e:Int)(V W:List ZN) :Prop where
 ok: ∀v ∈ W,jo c e v
 pd: ∀i,VU W Vt i->VU V Vt i
 qd: ∀i,VU W UE i->VU V UE i
theorem NR.refl {e:Int}{V:List ZN}(h: ∀v ∈ V,jo c e v) :NR c e V V:=⟨h,fun _ h=>h,fun _ h=>h⟩
theorem NR.trans {e:Int}{U V W:List ZN}(h:NR c e U V)(k:NR c e V W) :NR c e U W:=⟨k.ok,fun i hi=>h.pd i (k.pd i hi),fun i hi=>h.qd i (k.qd i hi)⟩
theorem NR.set {e:Int}{V:List ZN}{n:Nat}{v v':ZN}(h: ∀v ∈ V,jo c e v)(hv:V[n]?=some v)(ha:jo c e v')(hp:Vt v'->Vt v)(hq:UE v'->UE v) :NR c e V (V.set n v'):=
 ⟨Kt h ha,fun i hi=>by
  rcases Fb hi with ⟨_,h1⟩ | ⟨h1,h2⟩
  ·exact h1
  ·exact ⟨n,v,h1,hv,hp h2⟩,fun i hi=>by
  rcases Fb hi with ⟨_,h1⟩ | ⟨h1,h2⟩
  ·exact h1
  ·exact ⟨n,v,h1,hv,hq h2⟩⟩
theorem jo.up {e e':Int}{v:ZN}(h:jo c e v)(he:e<=e') :jo c e' v:=⟨h.r7,h.r8,h.r12,fun a b=>by have:=h.rq a b; omega,h.w0⟩
theorem RM {e:Int}{v:ZN}(hk:FM e v)(he:0<=e)(h:jo c e v) :jo c (e+1) (QM (e+1) (YB (e+1) v))/\(Vt (QM (e+1) (YB (e+1) v))->Vt v)/\(UE (QM (e+1) (YB (e+1) v))->UE v):=by
 obtain ⟨h7,h8,L9,hr,hw0⟩:=h.up (show e<=e+1 by omega);unfold YB
 by_cases c1:v.st=3/\v.ex=e+1
 ·rw [if_pos c1];unfold QM;have hw:e+1 < v.wd:=by
   rcases hk.s3 c1.1 with h | h
   ·omega
   ·exact h.2
  rw [if_neg Lu];exact ZmD
 ·rw [if_neg c1];unfold QM
  by_cases c2:v.st=4/\v.wd<=e+1
  ·rw [if_pos c2];exact ZmD
  ·rw [if_neg c2];exact ⟨⟨h7,h8,L9,hr,hw0⟩,fun h=>h,fun h=>h⟩
theorem ZkC {e:Int}{V:List ZN}(hk: ∀v ∈ V,FM e v)(he:0<=e)(h: ∀v ∈ V,jo c e v) :NR c (e+1) V ((V.map (YB (e+1))).map (QM (e+1))):=by
 rw [jK];have back: ∀(p:ZN->Prop),(∀v ∈ V,p (QM (e+1) (YB (e+1) v))->p v)-> ∀i,VU (V.map fun v=>QM (e+1) (YB (e+1) v)) p i->VU V p i:=fun p hp i ⟨n,u,hi,hu,hpu⟩=>by
  rw [ZM] at hu
  cases hv:V[n]? with
  | none=>rw [hv] at hu; cases hu
  | some v=>
   rw [hv] at hu;obtain rfl:=ZP hu;exact ⟨n,v,hi,hv,hp v (Xt hv) hpu⟩
 refine ⟨fun v hv=>?_,back Vt fun v hv=>(RM (hk v hv) he (h v hv)).2.1,back UE fun v hv=>(RM (hk v hv) he (h v hv)).2.2⟩;obtain ⟨u,hu,rfl⟩:=Yc.1 hv;exact (RM (hk u hu) he (h u hu)).1
theorem tW {e:Int}(he:0<=e)(hl:OR (e+1) (c 10))(hc:0 < c 10) : ∀(q:List (Int × Int)) (V:List ZN),(∀v ∈ V,FM e v)->(∀v ∈ V,jo c e v)->(q.map (·.1)).Nodup->(∀p ∈ q,VU V UE p.1)->
  NR c e V (DJ c (e+1) V q)/\ ∀p ∈ q,¬VU (DJ c (e+1) V q) UE p.1
 | [],V,_,h,_,_=>⟨NR.refl h,fun p hp=>by simp at hp⟩
 | p::q,V,hk,h,hn,hq=>by
  obtain ⟨n,v,RI,hv,nX⟩:=hq p ZE;have ha:VW V p.1=v:=by rw [RI]; exact Hp hv
  rw [Xa,XH] at hn;obtain ⟨k0,k1,k2⟩:=bg (hk v (Xt hv)) nX hl hc;have e1:p.1.toNat=n:=Zd;have hA:=h v (Xt hv);have hb:NR c e V (V.set n (QE [XM (e+1),Ja (e+1) (c 10)] v).2):=by
   rw [k2];refine NR.set h hv ⟨.inr ⟨by have:=nX.1; simp only; omega,by have:=hA.rq nX.1 nX.2; simp only; omega,?_⟩,fun h5=>by have:=nX.1; simp only at h5; omega,hA.r12,fun h5 h6=>by simp only at h6; omega,by have:=hA.w0; have:v.wd<=max v.wd (e+1+c 10):=Int.le_max_left _ _; simp only; omega⟩ (fun h5=>h5) (fun h5=>nX);have:e+1+c 10<=max v.wd (e+1+c 10):=Int.le_max_right _ _;simp only;omega
  have hs: ∀p' ∈ q,VU (V.set n (QE [XM (e+1),Ja (e+1) (c 10)] v).2) UE p'.1:=fun p' Aj=>(hq p' (by simp [Aj])).set_ne (fun he=>hn.1 (by
   rw [RI,<-he];exact QR Aj))
  obtain ⟨i1,i2⟩:=tW he hl hc q _ (Kt hk k1) hb.ok hn.2 hs;unfold DJ;rw [ha,e1];refine ⟨hb.trans i1,fun p' Aj hh=>?_⟩
  rcases ZX.1 Aj with rfl | Aj
  ·have h2:=i1.qd _ hh
   rcases Fb h2 with ⟨h3,_⟩ | ⟨_,h3⟩
   ·exact h3 RI
   ·rw [k2] at h3;have:=h3.2;simp only at this;omega
  ·exact i2 p' Aj hh
theorem Zec {e:Int} : ∀(q:List Int) (V:List ZN),(∀v ∈ V,FM e v)->(∀v ∈ V,jo c e v)->q.Nodup->(∀i ∈ q,VU V Vt i)->
  NR c e V (Rz 1 V q)/\ ∀i ∈ q,¬VU (Rz 1 V q) Vt i
 | [],V,_,h,_,_=>⟨NR.refl h,fun p hp=>by simp at hp⟩
 | x::q,V,hk,h,hn,hq=>by
  obtain ⟨n,v,RI,hv,tz⟩:=hq x ZE;have ha:VW V x=v:=by rw [RI]; exact Hp hv
  rw [XH] at hn;obtain ⟨k1,k2⟩:=uU (hk v (Xt hv)) tz;have e1:x.toNat=n:=Zd;have hA:=h v (Xt hv);have dU:=(hk v (Xt hv)).lo (.inl tz);have hb:NR c e V (V.set n (ON 1 v)):=by
   rw [k1];refine NR.set h hv ⟨.inl dU.1,fun h5=>by simp at h5,fun h5=>?_,fun h5=>by simp at h5,hA.w0⟩ (fun h5=>tz) (fun h5=>by have:=h5.1; simp at this);rw [show v.sl=false from dU.2] at h5; cases h5
  obtain ⟨i1,i2⟩:=Zec q (V.set n (ON 1 v)) (Kt hk k2) hb.ok hn.2 (fun i hi=>(hq i Dv).set_ne (fun he=>hn.1 dK));unfold Rz;rw [ha,e1];refine ⟨hb.trans i1,fun i hi hh=>?_⟩
  rcases ZX.1 hi with rfl | hi
  ·rcases Fb (i1.pd _ hh) with ⟨h3,_⟩ | ⟨_,h3⟩
   ·exact h3 RI
   ·rw [k1] at h3;simp [Vt] at h3
  ·exact i2 i hi hh
theorem ZlH {e:Int}{V:List ZN}(mb:Int)(q:List (Int × Int))(hk: ∀v ∈ V,FM e v)(h: ∀v ∈ V,jo c e v) :NR c e V (Kb mb V q):=by
 refine (Hc mb (I:=fun W=>(∀v ∈ W,FM e v)/\NR c e V W) ?_ q V ⟨hk,NR.refl h⟩).2;rintro l i j s d ⟨hl,hb⟩ Kj hi hj hc;obtain ⟨bV,vE,_,_,_,_⟩:=Rv hc;obtain ⟨f1,f2⟩:=bL (hl s (Xt hi)).fit (hl d (Xt hj)).fit hc;have kd:=hl d (Xt hj);have ks:=(hl s (Xt hi)).lo (.inr bV);have kd2:=kd.lo (.inr vE);have SI:(l.set i (Fg s))[j]?=some d:=jl
 have h1:NR c e l (l.set i (Fg s)):=NR.set hb.ok hi ⟨.inl ks.1,fun _=>rfl,fun h5=>(by have h6:s.sl=true:=h5; rw [ks.2] at h6; cases h6),fun h5=>by simp [Fg] at h5,(hb.ok s (Xt hi)).w0⟩ (fun h5=>by simp [Vt,Fg] at h5) (fun h5=>by have:=h5.1; simp [Fg] at this);have h2:NR c e (l.set i (Fg s)) ((l.set i (Fg s)).set j (PF s d)):=NR.set h1.ok SI ⟨.inl kd2.1,fun h5=>(by have h6:d.st=6\/d.st=7:=h5; omega),fun h5=>(by have h6:d.sl=true:=h5; rw [kd2.2] at h6; cases h6),fun h5=>(by have h6:d.st=3:=h5; omega),(hb.ok d (Xt hj)).w0⟩ (fun h5=>h5) (fun h5=>h5);refine ⟨Kt (Kt hl ⟨f1,?_,?_,?_,?_,?_⟩) ⟨f2,kd.lo,kd.s3,kd.s4,kd.s5,kd.w⟩,hb.trans (h1.trans h2)⟩
 ·exact Tl
 ·exact Tl
 ·exact Tl
 ·exact Tl
 ·exact (hl s (Xt hi)).w
theorem ZcN (mb:Int)(r:Rq)(l:List ZN) :EC l r mb=l\/ ∃(n:Nat) (v:ZN),l[n]?=some v/\EC l r mb=l.set n (LX v r.am mb):=by
 by_cases h:Uu r l.length=true
 ·obtain ⟨i,v,hi,hv⟩:=IZ h;obtain ⟨_,h2,h3⟩:=cD mb hi hv;exact .inr ⟨i,v,hv,h3⟩
 ·left;unfold EC;rw [if_neg h]
theorem xq {e mb:Int} : ∀(q:List Rq) (V:List ZN),(∀r ∈ q,UH r)->(∀v ∈ V,jo c e v)->NR c e V (XO mb V q)
 | [],V,_,h=>NR.refl h
 | r::q,V,hq,h=>by
  have jw: ∀r ∈ q,UH r:=fun r hr=>hq r (by simp [hr])
  have ham:=(bounds_u64 (hq r ZE).2).1;unfold XO
  rcases ZcN mb r V with h1 | ⟨n,v,hv,h1⟩
  ·rw [h1]; exact xq q V jw h
  ·rw [h1];have hA:=h v (Xt hv);have hb:NR c e V (V.set n (LX v r.am mb)):=NR.set h hv ⟨hA.r7,fun h5=>?_,hA.r12,hA.rq,hA.w0⟩ (fun h5=>h5) (fun h5=>h5)
   ·exact hb.trans (xq q _ jw hb.ok)
   ·have h6:v.st=6\/v.st=7:=h5;have h7:=hA.r8 h6;simp only [LX];have:DF v r.am mb=0:=by
     unfold DF Bt;rw [h7]
     split <;> omega
    omega
theorem nJ {e:Int} : ∀(q:List Nat) (V:List ZN),(∀v ∈ V,jo c e v)->q.Nodup->(∀i ∈ q,VU V (ME e) (i:Nat))->NR c e V (Jd e V q)
 | [],V,h,_,_=>NR.refl h
 | x::q,V,h,hn,hq=>by
  obtain ⟨n,v,RI,hv,hr⟩:=hq x ZE;obtain rfl:x=n:=Zd;rw [XH] at hn;have ha:V.getD x ZU=v:=VG hv;obtain ⟨f1,f2⟩:=Po hr.1 hr.2;unfold Jd;rw [ha,f1];have hA:=h v (Xt hv);have h5:=hr.1;have hb:NR c e V (V.set x { v with bal:=0,st:=6}):=by
   refine NR.set h hv ⟨?_,fun _=>rfl,fun h6=>⟨by simp,(hA.r12 h6).2⟩,fun h6=>by simp at h6,hA.w0⟩ (fun h6=>by simp [Vt] at h6) (fun h6=>by have:=h6.1; simp at this)
   rcases hA.r7 with h7 | ⟨_,h8,h9⟩
   ·exact .inl h7
   ·exact .inr ⟨by simp,h8,h9⟩
  exact hb.trans (nJ q _ hb.ok hn.2 (fun i hi=>(hq i Dv).set_ne (fun he=>hn.1 (by
   obtain rfl:i=x:=Zd;exact hi))))
theorem Zbk (hc:GE c)(h:Inv c k s)(h2:Fw c s)(hk:k<=1000000) :Fw c (bdS c (XP s)):=by
 obtain ⟨a0,a1,a2,a3,a4⟩:=ug hc h;obtain ⟨g1,g2,g3⟩:=TL h.vok h.ep0;have b1:=ZkC h.vok h.ep0 h2.ok;have bk1:=h.bk1;have ep1:=h.ep1;have ep0:=h.ep0;have u0:=hc.g.unb0;have u1:=hc.g.unb1;have hl:OR (s.ep+1+1) (c 10):=by unfold OR TV; omega
 have bU:((Nl c (XP s)).1.map (·.1)++((Nl c (XP s)).2.1++(Nl c (XP s)).2.2.1)).Perm (s.F++s.W):=Wu _ _ _ _;have vX:=bU.nodup_iff.2 h.lnn;rw [QU] at vX;obtain ⟨n1,n2,n3⟩:=vX;have D8: ∀p ∈ (Nl c (XP s)).1,VU (Dr (XP s)) UE p.1:=fun p hp=>
  g1.qd p.1 (h.lnx p.1 (bU.mem_iff.1 (Yb.2 (.inl (QR hp)))))
 obtain ⟨r1,r2,r3,r4,r5⟩:=O8 hl Zd (Nl c (XP s)).1 (Dr (XP s)) g1.vok n1 D8;obtain ⟨b2,b3⟩:=tW (e:=s.ep+1) Zd hl Zd (Nl c (XP s)).1 (Dr (XP s)) g1.vok b1.ok n1 D8;have Ib:(s.pd.take (St c (XP s))).Nodup:=h.pdn.sublist (Uy _ _);have ga: ∀i ∈ s.pd.take (St c (XP s)),VU (CO c (XP s)) Vt i:=fun i hi=>r4 i (g1.pd i (h.pdx i (ZT hi)))
 obtain ⟨t1,t2,_⟩:=TO (s.pd.take (St c (XP s))) (CO c (XP s)) r2 Ib ga;obtain ⟨b4,b5⟩:=Zec (s.pd.take (St c (XP s))) (CO c (XP s)) r2 b2.ok Ib ga;have b6:=ZlH (c 6) (s.mg.take (B9 c s.mg)) t2 b4.ok;refine ⟨b6.ok,fun i hi=>?_,fun i hi=>?_⟩
 ·have h5:=b6.pd i hi;have h6:=h2.pd i (b1.pd i (b2.pd i (b4.pd i h5)));show i ∈ s.pd.drop (St c (XP s));rw [<-QS (St c (XP s)) s.pd,Yb] at h6
  rcases h6 with h6 | h6
  ·exact absurd h5 (b5 i h6)
  ·exact h6
 ·have h5:=b4.qd i (b6.qd i hi);have h6:=bU.mem_iff.2 (h2.qd i (b1.qd i (b2.qd i h5)));rw [Yb] at h6
  rcases h6 with h6 | h6
  ·obtain ⟨p,hp,rfl⟩:=Yc.1 h6;exact absurd h5 (b3 p hp)
  ·exact h6
theorem sP (hc:GE c)(h:Inv c k s)(h2:Fw c s)(hk:k<=1000000) :Fw c (tkO c s).2:=by
 have hN:Fw c (SR c s):=by
  unfold SR
  split
  ·exact Zbk hc h h2 hk
  ·exact ⟨h2.ok,h2.pd,h2.qd⟩
 have hI:=Az hc h hk;show Fw c (dj c (SR c s));generalize SR c s=s at hN hI;obtain ⟨g,hn,hr⟩:=ND hc hI;have p1:=xq (e:=s.ep) (mb:=c 5) (s.pt.take (LO c s)) s.V (fun r hr=>hI.ptf r (ZT hr)) hN.ok;have p2:=nJ (dZ c s) (M4 c s) p1.ok hn hr;exact ⟨p2.ok,fun i hi=>hN.pd i (p1.pd i (p2.pd i hi)),fun i hi=>hN.qd i (p1.qd i (p2.qd i hi))⟩
theorem ZcH (hc:GE c)(hI:Inv c k s)(h:Fw c s)(hk:k<=1000000)(o:Oq) :Fw c (Hl c s o).2:=by
 unfold Hl
 by_cases h1:o.kd=1
 ·rw [if_pos h1]; unfold LY; split
  ·exact uF h _
  ·exact h
 rw [if_neg h1]
 by_cases h2:o.kd=2
 ·rw [if_pos h2]; unfold SA; split
  ·rename_i h0; exact nE hc hI h (.inr rfl) h0
  ·exact h
 rw [if_neg h2]
 by_cases h3:o.kd=3
 ·rw [if_pos h3]; unfold SA; split
  ·rename_i h0; exact nE hc hI h (.inl rfl) h0
  ·exact h
 rw [if_neg h3]
 by_cases h4:o.kd=4
 ·rw [if_pos h4]; unfold av; split
  ·rename_i h0; exact Zdo hc hI h h0
  ·exact h
 rw [if_neg h4]
 by_cases h5:o.kd=5
 ·rw [if_pos h5]; unfold jR; split
  ·exact ⟨h.ok,h.pd,h.qd⟩
  ·exact h
 rw [if_neg h5]
 by_cases h6:o.kd=6
 ·rw [if_pos h6]; unfold lC; split
  ·exact ⟨h.ok,h.pd,h.qd⟩
  ·exact h
 rw [if_neg h6]
 split
 ·exact sP hc hI h hk
 ·exact h
theorem Cm (n:Nat) : ∀q:List Int,(∀i ∈ q,0<=i/\i < (n:Int))->Vz (fun i=>q.count (i:Int)) n=q.length
 | [],_=>by
  have: ∀n,Vz (fun i=>([] :List Int).count (i:Int)) n=0:=fun n=>by
   induction n with
   | zero=>rfl
   | succ n ih=>simpa [Vz] using ih
  rw [this]; rfl
 | a::q,h=>by
  have h1:=Cm n q (fun i hi=>h i Dv);have e:Vz (fun i=>(a::q).count (i:Int)) n=Vz (fun i=>q.count (i:Int)) n+Vz (fun i=>if a=(i:Int) then 1 else 0) n:=by
   rw [<-Cj];refine Dm n fun i _=>?_
   rw [Uj];simp [beq_iff_eq]
  have h2: ∀m:Nat,a < (m:Int)->0<=a->Vz (fun i=>if a=(i:Int) then 1 else 0) m=1:=fun m=>by
   induction m with
   | zero=>intro h3 h4; omega
   | succ m ih=>
    intro h3 h4;simp only [Vz]
    by_cases h5:a=(m:Int)
    ·have:=(Ck a m).2 Zd;rw [this,if_pos h5]
    ·rw [ih Zd h4,if_neg h5]
  have:=h a ZE;rw [e,h1,h2 n this.2 this.1,Yg]
theorem e9 {q:List Int}{a:Int}(hn:q.Nodup)(hm:a ∈ q) :q.count a=1:=by
 induction q with
 | nil=>simp at hm
 | cons b q ih=>
  rw [XH] at hn;rw [Uj]
  by_cases e:b=a
  ·subst e;rw [List.count_eq_zero.2 hn.1];simp
  ·have hm':a ∈ q:=by
    rcases ZX.1 hm with h | h
    ·exact absurd h.symm e
    ·exact h
   rw [ih hn.2 hm'];simp [e]
theorem fF {q:List Int}{V:List ZN}{p:ZN->Bool}{P:ZN->Prop}(hp: ∀v,p v=true ↔ P v)(hn:q.Nodup)(h1: ∀i ∈ q,VU V P i)(h2: ∀i,VU V P i->i ∈ q) :Et q V p=true:=by
 have hk: ∀i,i < V.length->q.count (i:Int)=if p (V.getD i ZU)=true then 1 else 0:=fun i hi=>by
  have hv:V[i]?=some (V.getD i ZU):=ZfX
  by_cases hq:p (V.getD i ZU)=true
  ·rw [if_pos hq];exact e9 hn (h2 _ ⟨i,_,rfl,hv,(hp _).1 hq⟩)
  ·rw [if_neg hq];refine List.count_eq_zero.2 fun hm=>hq ?_
   obtain ⟨m,u,e,hu,hP⟩:=h1 _ hm;obtain rfl:i=m:=Zd;rw [hv] at hu;obtain rfl:=ZP hu;exact (hp _).2 hP
 have hs:=Cm V.length q (fun i hi=>(h1 i hi).lt);have hP:=OE p V V.length (Zh _);rw [J1] at hP;unfold Et;simp only [Bool.and_eq_true,List.all_eq_true,XT,Bool.or_eq_true,Bool.not_eq_true',decide_eq_true_eq];refine ⟨fun i hi=>?_,by rw [<-hs,Dm _ hk,hP]⟩;rw [hk i hi]
 cases p (V.getD i ZU)<;> simp
end
end
end Go.Proofs.YtobgbcdgffgdhaaGreat
