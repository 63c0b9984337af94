/- Part 25 of 31: Sg Es Phase Inv Tick Facts Rg RgT RgO Code In2. -/
import Derived.Test.YtobgbcdgffgdhaaGreatZw00
import Derived.Test.YtobgbcdgffgdhaaGreatZw14
import Derived.Test.YtobgbcdgffgdhaaGreatZw23
import Derived.Test.YtobgbcdgffgdhaaGreatZw24
namespace Go.Proofs.YtobgbcdgffgdhaaGreat
set_option linter.unusedVariables false
set_option linter.unusedSimpArgs false
set_option maxRecDepth 100000
set_option maxHeartbeats 8000000
open _root_.Int renaming emod_lt_of_pos -> Ge, emod_nonneg -> U1, le_refl -> Xn, mul_le_mul_of_nonneg_left -> Vo, toNat_natCast -> YT
open _root_.List renaming append_assoc -> Qb, cons_append -> Yf, ext_getElem? -> VS, filter_append -> QJ, filter_cons -> JH, getD_eq_getElem?_getD -> Zm, getElem?_append_left -> YB, getElem?_append_right -> Y6, getElem?_eq_getElem -> Zg, getElem?_eq_some_iff -> Zj, getElem?_map -> ZH, getElem?_set_ne -> Yo, getElem?_set_self -> YD, length_append -> ZF, length_cons -> Yc, length_drop -> Jm, length_map -> YG, length_set -> Xj, length_singleton -> Xf, map_append -> Xv, map_cons -> YY, map_map -> KF, mem_append -> Ya, mem_cons -> ZU, mem_filter -> QR, mem_map -> Z6, mem_map_of_mem -> Qt, mem_of_getElem? -> Zy, mem_of_mem_drop -> Xc, mem_of_mem_take -> ZQ, mem_range -> Qo, mem_singleton -> Yk, nodup_append -> QA, nodup_cons -> Xw, range -> YS, range_succ -> KC, take_append_drop -> Qz, take_length -> Vc, take_sublist -> VT
open _root_.Nat renaming le_refl -> Zh, le_trans -> ZY, lt_or_ge -> YF
open _root_.Option.some renaming inj -> ZL
theorem IY {G:Prop}(h:G:=by rw [OX,<-he]; exact hi) :G:=h
theorem FN {G:Prop}(h:G:=by rw [List.length_take]; omega) :G:=h
theorem Bh {G:Prop}(h:G:=by simp [hi]) :G:=h
theorem ZhQ {G:Prop} (h:G:=by
  refine ⟨⟨?_,fun h=>by simp at h,fun h=>⟨by simp,(L1 h).2⟩,fun h=>by simp at h,hw0⟩,fun h=>by simp [KT] at h,fun h=>by have:=h.1; simp at this⟩
  rcases h7 with h | ⟨_,h9,PK⟩
  ·exact .inl h
  ·exact .inr ⟨by simp,h9,PK⟩) :G:=h
theorem ZhT {G:Prop} (h:G:=by
  have hn:=(List.getElem?_eq_some_iff.1 xD).1;obtain ⟨u,hu,hp,_⟩:=h1 n V[n] (List.getElem?_eq_getElem Ze);rw [xD] at hu;obtain rfl:=Option.some.inj hu;exact ⟨_,_,List.getElem?_eq_getElem Ze,hp⟩) :G:=h
theorem Zih {G:Prop} (h:G:=by
  obtain ⟨m,u,e,hu,hq⟩:=h.lnx i hm;obtain rfl:n=m:=Ze;rw [hv] at hu;obtain rfl:=Option.some.inj hu;have:=hq.1;omega) :G:=h
theorem ZaG {G:Prop} (h:G:=by
  unfold Ww WN;rw [List.length_map];exact Nat.le_trans (Pe _ _ _) FN) :G:=h
theorem Za0 {G:Prop} (h:G:=by
  intro j hj;rw [hV];exact (h.pdx j hj).set hv fun hq=>by unfold KT at hq; omega) :G:=h
theorem Za3 {G:Prop} (h:G:=by
  unfold Yt;rw [if_neg Ze];unfold Qp;rw [if_neg Ze];exact h) :G:=h
theorem Za6 {G:Prop} (h:G:=by
  rcases hj with (hj | hj) | hj
  ·exact .inl hj
  ·exact absurd hj NF
  ·exact .inr hj) :G:=h
theorem Zbr {G:Prop} (h:G:=by
  simp only [Hc,List.length_append,List.length_singleton];omega) :G:=h
theorem Zbs {G:Prop} (h:G:=by
  unfold PH
  split
  ·rename_i h0; exact yD hc h h0 hr
  ·exact hr) :G:=h
theorem Zbt {G:Prop} (h:G:=by
  rw [List.getD_eq_getElem?_getD,List.getElem?_eq_getElem hi];rfl) :G:=h
theorem Rd {G:Prop} (h:G:=by
  simp only [DV];omega) :G:=h
section
open Go Go.RowKit
structure Sg where
 bk:Int
 ep:Int
 V:List ZN
 D:Int
 P:Int
 B:Int
 pd:List Int
 F:List Int
 W:List Int
 mg:List (Int × Int)
 pt:List Rq
 cu:Nat
 cy:Int
structure Rp where
 kd:Int
 cd:Int
 ix:Int
 bl:Int
 ep:Int
 dl:Int
 la:List As
 lp:List Pm
 vs:Int
def ae:Sg:=⟨0,0,[],0,0,0,[],[],[],[],[],0,0⟩
def GI (s:Sg)(k c:Int) :Rp:=⟨k,c,-1,s.bk,s.ep,-1,[],[],0⟩
def F8 (s:Sg)(k i d:Int) :Rp:=⟨k,0,i,s.bk,s.ep,d,[],[],0⟩
def wV (V:List ZN) :Int->Int:=Ks (QN V)
def Vq (V:List ZN)(i:Int) :ZN:=V.getD i.toNat ZS
def EI (V:List ZN)(i:Int) :Bool:=decide (i < 0\/(V.length:Int)<=i)
def Fu (x:Int) :ZN:=⟨x,1,false,-1,-1,-1,-1⟩
def Rm (c:Nat->Int)(s:Sg)(x:Int) :Int:=
 if x < c 2\/c 3 < x then 3 else if c 0<=s.V.length then 5 else if c 1<=s.pd.length then 6
 else if c 4 -(s.D - s.P - s.B)< x then 4 else if 18446744073709551615 < s.D+x then 10 else 0
def Hc (s:Sg)(x:Int) :Sg:= { s with V:=s.V++[Fu x],D:=s.D+x,pd:=s.pd++[(s.V.length:Int)]}
def Ha (c:Nat->Int)(s:Sg)(o:Oq) :Rp × Sg:=
 if Rm c s o.am=0 then(F8 s o.kd s.V.length (-1),Hc s o.am) else(GI s o.kd (Rm c s o.am),s)
def Wy (s:Sg)(v:ZN) :Int × ZN:=Qh [Xo s.ep,Qj 2] v
def SD (c:Nat->Int)(s:Sg)(cl:Int)(v:ZN) :Option Int:=
 if VU ((Ko s.F s.W cl).map (wV s.V)) (Ko s.F s.W cl).length=true then
  PQ (BO ((Ko s.F s.W cl).map (wV s.V)) (Ko s.F s.W cl).length) v.bal c (c 10+BF c) s.ep
 else none
def me (c:Nat->Int)(s:Sg)(i cl:Int) :Int:=
 if EI s.V i=true then 7 else if(Wy s (Vq s.V i)).1≠0 then(Wy s (Vq s.V i)).1
 else if c 1<=(VW s.F s.W cl).length then 6 else if SD c s cl (Vq s.V i)=none then 10 else 0
def wO (c:Nat->Int)(s:Sg)(i cl:Int) :Int:=(SD c s cl (Vq s.V i)).getD 0
def Hh (c:Nat->Int)(s:Sg)(i cl:Int) :Sg:=
 { s with V:=s.V.set i.toNat { (Wy s (Vq s.V i)).2 with dl:=wO c s i cl},F:=FR (c 1).toNat s.F cl i,W:=FT (c 1).toNat s.W cl i}
def PH (c:Nat->Int)(s:Sg)(o:Oq)(cl:Int) :Rp × Sg:=
 if me c s o.ix cl=0 then(F8 s o.kd o.ix (wO c s o.ix cl),Hh c s o.ix cl) else(GI s o.kd (me c s o.ix cl),s)
def IA (c:Nat->Int)(s:Sg)(i:Int) :Int:=
 if EI s.V i=true then 7 else if(DZ (Vq s.V i) s.ep c).1≠0 then(DZ (Vq s.V i) s.ep c).1
 else if(Vq s.V i).st=2/\c 1<=s.F.length then 6 else 0
def LA (c:Nat->Int)(s:Sg)(i:Int) :Sg:=
 { s with V:=s.V.set i.toNat (DZ (Vq s.V i) s.ep c).2,B:=s.B+vj (Vq s.V i) s.ep c,F:=if(Vq s.V i).st=2 then s.F++[i] else s.F}
def AS (c:Nat->Int)(s:Sg)(o:Oq) :Rp × Sg:=
 if IA c s o.ix=0 then(F8 s o.kd o.ix (-1),LA c s o.ix) else(GI s o.kd (IA c s o.ix),s)
def uV (c:Nat->Int)(s:Sg)(p:Int × Int) :Int:=if DK s.V p (c 6)≠0 then DK s.V p (c 6) else if c 1<=s.mg.length then 6 else 0
def eO (c:Nat->Int)(s:Sg)(o:Oq) :Rp × Sg:=
 if uV c s (o.ix,o.tg)=0 then(F8 s o.kd o.ix (-1),{ s with mg:=s.mg++[(o.ix,o.tg)]}) else(GI s o.kd (uV c s (o.ix,o.tg)),s)
def xV (c:Nat->Int)(s:Sg)(r:Rq) :Int:=if OJ s.V r≠0 then OJ s.V r else if c 1<=s.pt.length then 6 else 0
def gJ (c:Nat->Int)(s:Sg)(o:Oq) :Rp × Sg:=
 if xV c s ⟨o.ix,o.am⟩=0 then(F8 s o.kd o.ix (-1),{ s with pt:=s.pt++[⟨o.ix,o.am⟩]}) else(GI s o.kd (xV c s ⟨o.ix,o.am⟩),s)
def Yt (e:Int)(v:ZN) :ZN:=if v.st=3/\v.ex=e then { v with st:=4} else v
def Qp (e:Int)(v:ZN) :ZN:=if v.st=4/\v.wd<=e then { v with st:=5} else v
def M8 (ev:Int)(v:ZN) :ZN:= { v with st:=Jk v.st ev}
def OP (ev:Int) :List ZN->List Int->List ZN
 | V,[]=>V
 | V,i::q=>OP ev (V.set i.toNat (M8 ev (Vq V i))) q
def Bu (c:Nat->Int)(e:Int) :List ZN->List (Int × Int)->List ZN
 | V,[]=>V
 | V,p::q=>Bu c e (V.set p.1.toNat (Qh [XA e,QO e (c 10)] (Vq V p.1)).2) q
def Bf (s:Sg) :List ZN:=(s.V.map (Yt s.ep)).map (Qp s.ep)
def OG (c:Nat->Int)(s:Sg) :Int:=Ea (Ye (Bf s)) (c 7) (c 8)
def LW (c:Nat->Int)(s:Sg) :List (Int × Int) × List Int × List Int × Int:=EP (wV (Bf s)) s.F s.W s.cy (OG c s)
def Wr (c:Nat->Int)(s:Sg) :List ZN:=Bu c (s.ep+1) (Bf s) (LW c s).1
def PC (c:Nat->Int)(s:Sg) :Nat:=FP (OG c s) (s.pd.map (wV (Wr c s)))
def lG (c:Nat->Int)(s:Sg) :List ZN:=OP 1 (Wr c s) (s.pd.take (PC c s))
def Cu (c:Nat->Int)(s:Sg) :List As:=(LW c s).1.map fun p=>⟨p.1,p.2,s.ep+1⟩
def zR (c:Nat->Int)(s:Sg) :Sg:=
 { s with V:=JW (c 6) (lG c s) (s.mg.take (GS c s.mg)),F:=(LW c s).2.1,W:=(LW c s).2.2.1,cy:=Ey (LW c s),pd:=s.pd.drop (PC c s),mg:=s.mg.drop (GS c s.mg)}
def PT (c:Nat->Int)(s:Sg) :Sg:=
 if(s.bk+1)%c 13=0 then zR c { s with bk:=s.bk+1,ep:=s.ep+1} else { s with bk:=s.bk+1}
def nxO (c:Nat->Int)(s:Sg) :List As:=if(s.bk+1)%c 13=0 then Cu c { s with bk:=s.bk+1,ep:=s.ep+1} else []
def goN (L:List Bool)(s:Nat)(v p:Int) :Nat->Nat->Nat
 | 0,k=>k
 | f+1,k=>if v<=(k:Int)\/L.length<=k\/p<=((JM L s k).length:Int) then k else goN L s v p f (k+1)
def FY (L:List Bool)(s:Nat)(v p:Int) :Nat:=goN L s v p L.length 0
def La (e:Int)(v:ZN) :Int × ZN:=Qh [Dy e,Qj 5] { v with bal:=v.bal - v.bal}
def Ao (e:Int)(v:ZN) :Int:=if(La e v).1=0 then v.bal else 0
def QT (e:Int) :List ZN->List Nat->List ZN
 | V,[]=>V
 | V,i::q=>QT e (V.set i (La e (V.getD i ZS)).2) q
def X6 (e:Int) :List ZN->List Nat->List Pm
 | _,[]=> []
 | V,i::q=>⟨i,Ao e (V.getD i ZS),true⟩::X6 e (V.set i (La e (V.getD i ZS)).2) q
def Nd (V:List ZN) :List Bool:=V.map fun v=>decide (v.st=5)
def KN:List Pm->Int
 | []=>0
 | p::q=>p.am+KN q
def FZ (c:Nat->Int)(s:Sg) :Nat:=Up c s.pt
def LI (c:Nat->Int)(s:Sg) :List ZN:=XC (c 5) s.V (s.pt.take (FZ c s))
def WN (l:List Py) :List Pm:=l.map fun p=>⟨p.ix,p.am,p.fu⟩
def Ww (c:Nat->Int)(s:Sg) :List Pm:=WN (Ky (c 5) s.V (s.pt.take (FZ c s)))
def oq (c:Nat->Int)(s:Sg) :Nat:=FY (Nd (LI c s)) s.cu (c 14 -(FZ c s:Nat)) (c 15 -((Ww c s).length:Nat))
def af (c:Nat->Int)(s:Sg) :List Nat:=JM (Nd (LI c s)) s.cu (oq c s)
def A4 (c:Nat->Int)(s:Sg) :List Pm:=Ww c s++X6 s.ep (LI c s) (af c s)
def II (c:Nat->Int)(s:Sg) :Sg:=
 { s with V:=QT s.ep (LI c s) (af c s),P:=s.P+KN (A4 c s),pt:=s.pt.drop (FZ c s),cu:=DJ (LI c s).length s.cu (oq c s)}
def yZ (c:Nat->Int)(s:Sg) :Rp × Sg:=
 (⟨7,0,-1,(PT c s).bk,(PT c s).ep,-1,nxO c s,A4 c (PT c s),(FZ c (PT c s) :Nat)+(oq c (PT c s) :Nat)⟩,II c (PT c s))
def MN (c:Nat->Int)(s:Sg)(o:Oq) :Rp × Sg:=
 if o.kd=1 then Ha c s o else if o.kd=2 then PH c s o 1 else if o.kd=3 then PH c s o 0 else if o.kd=4 then AS c s o
 else if o.kd=5 then eO c s o else if o.kd=6 then gJ c s o else if o.kd=7 then yZ c s else(GI s o.kd 11,s)
end
section
open Go Go.RowKit
structure Es (e:Int)(v:ZN) :Prop where
 fit:Yh v
 lo:v.st=1\/v.st=2->v.ex= -1/\v.sl=false
 s3:v.st=3->v.ex= -1\/(v.ex=e+1/\e+1 < v.wd)
 s4:v.st=4->e < v.wd
 s5:v.st=5->v.wd<=e
 w:v.wd<=1099511627776
def Vn (V:List ZN)(p:ZN->Prop)(i:Int) :Prop:= ∃(m:Nat) (u:ZN),i=(m:Int)/\V[m]?=some u/\p u
def KT (u:ZN) :Prop:=u.st=1
def V5 (u:ZN) :Prop:=u.st=3/\u.ex= -1
theorem Vn.set {V:List ZN}{n:Nat}{v v':ZN}{p:ZN->Prop}{i:Int}(hv:V[n]?=some v)(h:p v->p v')(hx:Vn V p i) :Vn (V.set n v') p i:=by
 obtain ⟨m,u,e,hu,hp⟩:=hx;have hm:=(Zj.1 hv).1
 by_cases bM:n=m
 ·subst bM;rw [hv] at hu;obtain rfl:=ZL hu;exact ⟨n,v',e,by rw [YD hm],h hp⟩
 ·exact ⟨m,u,e,by rw [Yo bM]; exact hu,hp⟩
theorem Vn.set_ne {V:List ZN}{n:Nat}{v':ZN}{p:ZN->Prop}{i:Int}(hi:i≠(n:Int))(hx:Vn V p i) :Vn (V.set n v') p i:=by
 obtain ⟨m,u,e,hu,hp⟩:=hx;exact ⟨m,u,e,by rw [Yo Ze]; exact hu,hp⟩
theorem Vn.append {V W:List ZN}{p:ZN->Prop}{i:Int}(hx:Vn V p i) :Vn (V++W) p i:=by
 obtain ⟨m,u,e,hu,hp⟩:=hx;exact ⟨m,u,e,by rw [YB (Zj.1 hu).1]; exact hu,hp⟩
theorem Vn.lt {V:List ZN}{p:ZN->Prop}{i:Int}(hx:Vn V p i) :0<=i/\i < (V.length:Int):=by
 obtain ⟨m,u,e,hu,hp⟩:=hx;have:=(Zj.1 hu).1;omega
theorem Vn.map {V:List ZN}{f:ZN->ZN}{p:ZN->Prop}{i:Int}(h: ∀v,p v->p (f v))(hx:Vn V p i) :Vn (V.map f) p i:=by
 obtain ⟨m,u,e,hu,hp⟩:=hx;exact ⟨m,f u,e,by rw [ZH,hu]; rfl,h u hp⟩
theorem Ue {V:List ZN}{i:Int}(h:EI V i=false) : ∃n:Nat,i=(n:Int)/\V[n]?=some (Vq V i):=by
 unfold EI at h;simp at h;refine ⟨i.toNat,by omega,?_⟩;unfold Vq;exact tV
theorem Ff {V:List ZN}{n:Nat}{v:ZN}(h:V[n]?=some v) :Vq V (n:Int)=v:=by unfold Vq; rw [Zm,YT,h]; rfl
theorem J9 {V:List ZN}{n:Nat}{v:ZN}{p:ZN->Prop}(h: ∀x ∈ V,p x)(hv:p v) : ∀x ∈ V.set n v,p x:=fun x hx=>by
 rcases List.mem_or_eq_of_mem_set hx with hx | rfl
 ·exact h x hx
 ·exact hv
theorem Xi {V:List ZN}{n:Nat}{v:ZN}(h:V[n]?=some v) :v ∈ V:=Zy h
theorem iS {x:Int}(h0:0<=x)(h1:x<=18446744073709551615) :(Lit.int .u64 x).wf=true:=dO
theorem zj {x:Int}(h0: -9223372036854775808<=x)(h1:x<=9223372036854775807) :(Lit.int .i64 x).wf=true:=dO
variable {e:Int} {v:ZN} {c:Nat->Int}
theorem rT {x:Int}(h0:0<=x)(h1:x<=18446744073709551615) :Es e (Fu x):=
 ⟨⟨iS h0 h1,rfl⟩,fun _=>⟨rfl,rfl⟩,fun h=>absurd h (by simp [Fu]),fun h=>absurd h (by simp [Fu]),fun h=>absurd h (by simp [Fu]),by show (-1:Int)<=_; omega⟩
theorem da {s:Int}(h:Jk s 2≠0) :s=2/\Jk s 2=3:=by
 unfold Jk at h ⊢
 repeat' split at h
 all_goals first | omega | (exact absurd rfl h)
theorem ig {s:Int}(h:Jk s 7≠0) :(s=2\/s=3)/\Jk s 7=3\/(s=4\/s=5)/\Jk s 7=4:=by
 unfold Jk at h ⊢;rw [if_pos rfl] at h ⊢
 by_cases h1:s=2\/s=3
 ·exact .inl ⟨h1,if_pos h1⟩
 ·by_cases h2:s=4\/s=5
  ·exact .inr ⟨h2,by rw [if_neg h1,if_pos h2]⟩
  ·rw [if_neg h1,if_neg h2] at h; exact absurd rfl h
theorem OC (h:(Qh [Xo e,Qj 2] v).1=0) :v.st=2/\(Qh [Xo e,Qj 2] v).2= { v with rq:=e,st:=3}:=by
 by_cases h1:RO e
 ·by_cases h2:Jk v.st 2=0
  ·rw [js h1 h2] at h; simp at h
  ·rw [o6 h1 h2];obtain ⟨h3,h4⟩:=da h2;exact ⟨h3,by rw [h4]⟩
 ·rw [vK h1] at h; simp at h
theorem vL (h:Es e v)(h0:(Qh [Xo e,Qj 2] v).1=0)(d:Int) :Es e { (Qh [Xo e,Qj 2] v).2 with dl:=d}:=by
 obtain ⟨h1,h2⟩:=OC h0;rw [h2];exact ⟨⟨h.fit.1,rfl⟩,fun h=>absurd h ZE,fun _=> .inl (h.lo (.inr h1)).1,fun h=>absurd h ZE,fun h=>absurd h ZE,h.w⟩
theorem LD (h:(DZ v e c).1=0) :v.sl=false/\((v.st=2\/v.st=3)/\(DZ v e c).2.st=3\/(v.st=4\/v.st=5)/\(DZ v e c).2.st=4)/\
  (DZ v e c).2.ex=v.ex/\(DZ v e c).2.wd=max v.wd (e+c 11)/\(DZ v e c).2.bal=v.bal - BE v c:=by
 unfold DZ at h ⊢;rw [show Kq v e (c 11)=Kq { v with bal:=v.bal - BE v c} e (c 11) from rfl] at h ⊢
 by_cases h1:v.sl=true
 ·exact kT
 ·have h1:v.sl=false:=QQ
  by_cases h2:Jk v.st 7=0
  ·exact kS
  ·by_cases h3:Nc e (c 11)
   ·rw [kt (v:= { v with bal:=v.bal - BE v c}) h1 h2 h3];exact ⟨h1,ig h2,rfl,rfl,rfl⟩
   ·exact kQ
theorem nX (h:(DZ v e c).1=0) :Nc e (c 11):=by
 unfold DZ at h;rw [show Kq v e (c 11)=Kq { v with bal:=v.bal - BE v c} e (c 11) from rfl] at h
 by_cases h1:v.sl=true
 ·exact kT
 ·have h1:v.sl=false:=QQ
  by_cases h2:Jk v.st 7=0
  ·exact kS
  ·by_cases h3:Nc e (c 11)
   ·exact h3
   ·exact kQ
theorem nY (h:Es e v)(h0:(DZ v e c).1=0)(hc:0 < c 11) :Es e (DZ v e c).2:=by
 obtain ⟨h1,h2,h3,h4,h5⟩:=LD h0;refine ⟨TO h.fit h0,fun h=>by rcases h2 with h2 | h2 <;> omega,fun h6=>?_,fun h6=>by rw [h4]; omega,fun h6=>by rcases h2 with h2 | h2 <;> omega,by have:=(nX h0).2; have:=h.w; rw [h4]; omega⟩
 rcases h2 with ⟨h2 | h2,h7⟩ | h2
 ·exact .inl (h3.trans (h.lo (.inr h2)).1)
 ·rw [h3,h4]
  rcases h.s3 h2 with h8 | h8
  ·exact .inl h8
  ·exact .inr ⟨h8.1,by omega⟩
 ·omega
theorem L5 (h:Es e v)(he:0<=e) :Es (e+1) (Qp (e+1) (Yt (e+1) v))/\((Qp (e+1) (Yt (e+1) v)).st=3->(Qp (e+1) (Yt (e+1) v)).ex= -1)/\(Qp (e+1) (Yt (e+1) v)).bal=v.bal:=by
 obtain ⟨hf,h2,h3,h4,h5,h6⟩:=h;unfold Yt
 by_cases c1:v.st=3/\v.ex=e+1
 ·rw [if_pos c1];unfold Qp;have hw:e+1 < v.wd:=by
   rcases h3 c1.1 with h | h
   ·omega
   ·exact h.2
  rw [if_neg FK];exact ⟨⟨⟨hf.1,rfl⟩,fun h=>absurd h ZE,fun h=>absurd h ZE,fun _=>hw,fun h=>absurd h ZE,h6⟩,fun h=>absurd h ZE,rfl⟩
 ·rw [if_neg c1];unfold Qp
  by_cases c2:v.st=4/\v.wd<=e+1
  ·rw [if_pos c2];exact ⟨⟨⟨hf.1,rfl⟩,fun h=>absurd h ZE,fun h=>absurd h ZE,fun h=>absurd h ZE,fun _=>c2.2,h6⟩,fun h=>absurd h ZE,rfl⟩
  ·rw [if_neg c2];refine ⟨⟨hf,h2,fun h=> .inl ?_,fun h=>by omega,fun h=>by have:=h5 h; omega,h6⟩,fun h=>?_,rfl⟩
   all_goals
    rcases h3 h with k | k
    ·exact k
    ·exact absurd ⟨h,k.1⟩ c1
theorem Tc {p:Int} :(KT v->KT (Qp p (Yt p v)))/\(0<=p->V5 v->V5 (Qp p (Yt p v))):=by
 refine ⟨fun h=>?_,fun h0 h=>?_⟩
 ·unfold KT at*;exact Za3
 ·unfold V5 at*;exact Za3
theorem Cr (h:Es e v)(hq:V5 v)(hl:Nc (e+1) (c 10))(hc:0 < c 10) :(Qh [XA (e+1),QO (e+1) (c 10)] v).1=0/\Es e (Qh [XA (e+1),QO (e+1) (c 10)] v).2/\
  (Qh [XA (e+1),QO (e+1) (c 10)] v).2= { v with ex:=e+1,wd:=max v.wd (e+1+c 10)}:=by
 rw [Cq hq hl];exact ⟨rfl,⟨h.fit,fun k=>by have:=hq.1; simp only at k; omega,fun _=> .inr ⟨rfl,by simp only; omega⟩,fun k=>by have:=hq.1; simp only at k; omega,fun k=>by have:=hq.1; simp only at k; omega,by have:=hl.2; have:=h.w; simp only; omega⟩,rfl⟩
theorem qk (h:Es e v)(hp:KT v) :M8 1 v= { v with st:=2}/\Es e (M8 1 v):=by
 have e1:M8 1 v= { v with st:=2}:=by unfold M8; rw [show v.st=1 from hp]; rfl
 rw [e1];exact ⟨rfl,⟨h.fit.1,rfl⟩,fun _=>h.lo (.inl hp),fun k=>absurd k ZE,fun k=>absurd k ZE,fun k=>absurd k ZE,h.w⟩
theorem NA (h5:v.st=5)(hw:v.wd<=e) :La e v=(0,{ v with bal:=0,st:=6})/\Ao e v=v.bal:=by
 have h1:La e v=(0,{ v with bal:=0,st:=6}):=by
  unfold La;rw [ZdL (v:= { v with bal:=v.bal - v.bal}) h5 hw,Int.sub_self]
 exact ⟨h1,by unfold Ao; rw [h1]; rfl⟩
theorem bD (hw:v.wd<=1099511627776) :Es e { v with bal:=0,st:=6}:=
 ⟨⟨iS ZE ZE,rfl⟩,fun k=>absurd k ZE,fun k=>absurd k ZE,fun k=>absurd k ZE,fun k=>absurd k ZE,hw⟩
end
section
open Go Go.RowKit
structure ec (e:Int)(V W:List ZN) :Prop where
 len:W.length=V.length
 vok: ∀v ∈ W,Es e v
 pd: ∀i,Vn V KT i->Vn W KT i
 qd: ∀i,Vn V V5 i->Vn W V5 i
theorem ec.refl {e:Int}{V:List ZN}(h: ∀v ∈ V,Es e v) :ec e V V:=⟨rfl,h,fun _ h=>h,fun _ h=>h⟩
theorem ec.trans {e:Int}{U V W:List ZN}(h:ec e U V)(k:ec e V W) :ec e U W:=
 ⟨k.len.trans h.len,k.vok,fun i hi=>k.pd i (h.pd i hi),fun i hi=>k.qd i (h.qd i hi)⟩
theorem xL {V:List ZN}{v:ZN}(h:v ∈ V) : ∃n:Nat,V[n]?=some v:=List.getElem?_of_mem h
theorem A6 {V:List ZN}{f:ZN->ZN}(h: ∀v ∈ V,(f v).bal=v.bal) :Zw (V.map f)=Zw V:=by
 induction V with
 | nil=>rfl
 | cons v V ih=>
  simp only [YY,Zw];rw [h v ZE,ih (fun x hx=>h x DD)]
section
variable {e:Int} {V:List ZN} {c:Nat->Int}
theorem eG (e:Int)(V:List ZN) :(V.map (Yt e)).map (Qp e)=V.map fun v=>Qp e (Yt e v):=by rw [KF]; rfl
theorem RJ (h: ∀v ∈ V,Es e v)(he:0<=e) :ec (e+1) V ((V.map (Yt (e+1))).map (Qp (e+1)))/\Zw ((V.map (Yt (e+1))).map (Qp (e+1)))=Zw V/\
  ∀v ∈ (V.map (Yt (e+1))).map (Qp (e+1)),v.st=3->v.ex= -1:=by
 rw [eG];refine ⟨⟨by simp,fun v hv=>?_,fun i hi=>hi.map fun v=>Tc.1,fun i hi=>hi.map fun v=>Tc.2 Ze⟩,A6 fun v hv=>(L5 (h v hv) he).2.2,fun v hv=>?_⟩
 ·obtain ⟨u,hu,rfl⟩:=Z6.1 hv;exact (L5 (h u hu) he).1
 ·obtain ⟨u,hu,rfl⟩:=Z6.1 hv;exact (L5 (h u hu) he).2.1
theorem Ur (V:List ZN) :Zw V=(QN V).sum:=by
 induction V with
 | nil=>rfl
 | cons v V ih=>simp only [Zw,ih,QN,YY,List.sum_cons]
theorem aG {V:List ZN}{n:Nat}{v v':ZN}(hv:V[n]?=some v)(h:v'.bal=v.bal) :QN (V.set n v')=QN V:=by
 apply VS;intro i;unfold QN;rw [ZH,ZH]
 by_cases hi:n=i
 ·subst hi;rw [YD (Zj.1 hv).1,hv];simp [h]
 ·rw [Yo hi]
theorem Nl (hl:Nc (e+1) (c 10))(hc:0 < c 10) : ∀(q:List (Int × Int)) (V:List ZN),(∀v ∈ V,Es e v)->(q.map (·.1)).Nodup->(∀p ∈ q,Vn V V5 p.1)->
  (Bu c (e+1) V q).length=V.length/\(∀v ∈ Bu c (e+1) V q,Es e v)/\QN (Bu c (e+1) V q)=QN V/\(∀i,Vn V KT i->Vn (Bu c (e+1) V q) KT i)/\
  (∀i,i ∉ q.map (·.1)->Vn V V5 i->Vn (Bu c (e+1) V q) V5 i)
 | [],V,h,_,_=>⟨rfl,h,rfl,fun _ h=>h,fun _ _ h=>h⟩
 | p::q,V,h,hn,hq=>by
  obtain ⟨n,v,OX,hv,jT⟩:=hq p ZE;have ha:Vq V p.1=v:=by rw [OX]; exact Ff hv
  rw [YY,Xw] at hn;obtain ⟨k0,k1,k2⟩:=Cr (h v (Xi hv)) jT hl hc;have e1:p.1.toNat=n:=Ze;unfold Bu;rw [ha,e1];have hb:QN (V.set n (Qh [XA (e+1),QO (e+1) (c 10)] v).2)=QN V:=aG hv (by rw [k2]);have hnp: ¬KT v:=fun h=>by have:=jT.1; unfold KT at h; omega
  obtain ⟨i1,i2,i3,i4,i5⟩:=Nl hl hc q (V.set n (Qh [XA (e+1),QO (e+1) (c 10)] v).2) (J9 h k1) hn.2 (fun p' S7=>(hq p' (by simp [S7])).set_ne (fun he=>hn.1 (by
   rw [OX,<-he];exact Qt S7)))
  refine ⟨i1.trans ZE,i2,i3.trans hb,fun i hi=>i4 i (hi.set hv fun h=>absurd h hnp),fun i u4 hi=>?_⟩;rw [YY,ZU] at u4;exact i5 i (fun h=>u4 (.inr h)) (hi.set_ne (fun h=>u4 (.inl (h.trans OX.symm))))
theorem RL: ∀(q:List Int) (V:List ZN),(∀v ∈ V,Es e v)->q.Nodup->(∀i ∈ q,Vn V KT i)->
  (OP 1 V q).length=V.length/\(∀v ∈ OP 1 V q,Es e v)/\QN (OP 1 V q)=QN V/\(∀i,Vn V V5 i->Vn (OP 1 V q) V5 i)/\(∀i,i ∉ q->Vn V KT i->Vn (OP 1 V q) KT i)
 | [],V,h,_,_=>⟨rfl,h,rfl,fun _ h=>h,fun _ _ h=>h⟩
 | x::q,V,h,hn,hq=>by
  obtain ⟨n,v,OX,hv,oP⟩:=hq x ZE;have ha:Vq V x=v:=by rw [OX]; exact Ff hv
  rw [Xw] at hn;obtain ⟨k1,k2⟩:=qk (h v (Xi hv)) oP;have e1:x.toNat=n:=Ze;unfold OP;rw [ha,e1];have hb:QN (V.set n (M8 1 v))=QN V:=aG hv (by rw [k1]);have xm: ¬V5 v:=fun h=>by have:=h.1; unfold KT at oP; omega
  obtain ⟨i1,i2,i3,i4,i5⟩:=RL q (V.set n (M8 1 v)) (J9 h k2) hn.2 (fun i hi=>(hq i Bh).set_ne (fun he=>hn.1 IY));refine ⟨i1.trans ZE,i2,i3.trans hb,fun i hi=>i4 i (hi.set hv fun h=>absurd h xm),fun i u4 hi=>?_⟩;rw [ZU] at u4;exact i5 i (fun h=>u4 (.inr h)) (hi.set_ne (fun h=>u4 (.inl (h.trans OX.symm))))
theorem xM (mb:Int)(q:List (Int × Int))(h: ∀v ∈ V,Es e v) :ec e V (JW mb V q)/\Zw (JW mb V q)=Zw V:=by
 refine ⟨?_,(TR mb q V).1⟩;refine EN mb (I:=fun W=>ec e V W) ?_ q V (ec.refl h);intro l i j s d hl Ka hi hj hc;obtain ⟨CT,qX,_,_,_,_⟩:=OK hc;obtain ⟨f1,f2⟩:=CK (hl.vok s (Xi hi)).fit (hl.vok d (Xi hj)).fit hc;have kd:=hl.vok d (Xi hj);have Ou:(l.set i (DV s))[j]?=some d:=dR
 refine hl.trans ⟨by simp,J9 (J9 hl.vok ⟨f1,?_,?_,?_,?_,?_⟩) ⟨f2,kd.lo,kd.s3,kd.s4,kd.s5,kd.w⟩,fun x hx=>?_,fun x hx=>?_⟩
 ·exact Rd
 ·exact Rd
 ·exact Rd
 ·exact Rd
 ·exact (hl.vok s (Xi hi)).w
 ·exact (hx.set hi (fun h=>by unfold KT at h; omega)).set Ou (fun h=>by unfold KT at h; omega)
 ·exact (hx.set hi (fun h=>by have:=h.1; omega)).set Ou (fun h=>by have:=h.1; omega)
end
section
variable {e:Int} {V:List ZN} {mb:Int}
def Uq:List Py->Int
 | []=>0
 | p::q=>p.am+Uq q
theorem LH (a b:List Py) :Uq (a++b)=Uq a+Uq b:=by
 induction a with
 | nil=>simp [Uq]
 | cons p a ih=>simp only [Yf,Uq,ih]; omega
theorem tf (i x:Int) :Uq (Lm i x)=x:=by
 unfold Lm
 split
 ·rename_i h; simp [Uq,h]
 ·simp [Uq]
theorem np {l:List ZN}(r:Rq)(mb:Int) :Zw (Du l r mb)=Zw l - NU l r mb:=by
 by_cases h:VP r l.length=true
 ·obtain ⟨i,v,hi,hv⟩:=Ax h;obtain ⟨_,h2,h3⟩:=Ig mb hi hv;rw [h2,h3,JK hv];simp only [F9];omega
 ·unfold Du NU;rw [if_neg h,if_neg h];omega
theorem FD (mb:Int) : ∀(q:List Rq) (l:List ZN),Zw (XC mb l q)=Zw l - Uq (Ky mb l q)
 | [],l=>by simp [XC,Ky,Uq]
 | r::q,l=>by
  unfold XC Ky;rw [FD mb q,np,LH,tf];omega
theorem yg (hm:0<=mb)(q:List Rq)(hq: ∀r ∈ q,V8 r)(h: ∀v ∈ V,Es e v) :ec e V (XC mb V q):=by
 have hf: ∀v ∈ V,Yh v:=fun v hv=>(h v hv).fit
 obtain ⟨h1,_⟩:=EO mb hm q V hq hf;have hlen:=BU mb q V;have back: ∀(n:Nat) (v':ZN),(XC mb V q)[n]?=some v'-> ∃(v:ZN) (x:Int),V[n]?=some v/\v'= { v with bal:=v.bal - x}:=fun n v' xD=>by
  exact ZhT
 have zZ: ∀(p:ZN->Prop),(∀v x,p v->p { v with bal:=v.bal - x})-> ∀i,Vn V p i->Vn (XC mb V q) p i:=fun p hp i ⟨n,v,hi,hv,hpv⟩=>by
  obtain ⟨u,hu,mG,_⟩:=h1 n v hv;exact ⟨n,u,hi,hu,by rw [mG]; exact hp v _ hpv⟩
 refine ⟨hlen,fun v' xD=>?_,zZ KT fun v x h=>h,zZ V5 fun v x h=>h⟩;obtain ⟨n,hn⟩:=xL xD;obtain ⟨v,x,hv,rfl⟩:=back n v' hn;have k:=h v (Xi hv);exact ⟨Ei mb hm q V hq hf _ xD,k.lo,k.s3,k.s4,k.s5,k.w⟩
def Lg (e:Int)(v:ZN) :Prop:=v.st=5/\v.wd<=e
theorem LZ: ∀(q:List Nat) (V:List ZN),(∀v ∈ V,Es e v)->q.Nodup->(∀i ∈ q,Vn V (Lg e) (i:Nat))->
  ec e V (QT e V q)/\Zw (QT e V q)=Zw V - KN (X6 e V q)/\(∀p ∈ X6 e V q,0<=p.am/\p.fl=true)
 | [],V,h,_,_=>⟨ec.refl h,by simp [QT,X6,KN],fun p hp=>by simp [X6] at hp⟩
 | x::q,V,h,hn,hq=>by
  obtain ⟨n,v,OX,hv,hr⟩:=hq x ZE;obtain rfl:x=n:=Ze;rw [Xw] at hn;have ha:V.getD x ZS=v:=K8 hv;obtain ⟨f1,f2⟩:=NA hr.1 hr.2;unfold QT X6;rw [ha,f1,f2];have hb:=(h v (Xi hv)).fit.bal;obtain ⟨i1,i2,i3⟩:=LZ q (V.set x { v with bal:=0,st:=6}) (J9 h (bD (h v (Xi hv)).w)) hn.2 (fun i hi=>(hq i Bh).set_ne (fun he=>hn.1 (by
   obtain rfl:i=x:=Ze;exact hi)))
  refine ⟨ec.trans ⟨by simp,J9 h (bD (h v (Xi hv)).w),fun i hi=>hi.set hv fun k=>?_,fun i hi=>hi.set hv fun k=>?_⟩ i1,?_,fun p hp=>?_⟩
  ·have:=hr.1; unfold KT at k; omega
  ·have:=hr.1; have:=k.1; omega
  ·rw [i2,JK hv];simp only [KN];omega
  ·rcases ZU.1 hp with rfl | hp
   ·exact ⟨hb.1,rfl⟩
   ·exact i3 p hp
end
end
section
open Go Go.RowKit
structure GE (c:Nat->Int) :Prop where
 g:Good c
 gc:ah c
 q0:1<=c 1
 q1:c 1<=4096
 a2:1<=c 2
 a23:c 2<=c 3
 a3:c 3<=c 4
 a4:c 4<=1152921504606846976
 m5:1<=c 5
 q8:1<=c 8
 m17:0<=c 17
 r0:1<=c 12
 r1:c 12<=4096
theorem OU {c:Nat->Int}(hf:Ci c)(h:Ws c=0) :GE c:=by
 have g:=bE hf h;have gc:=CL hf h
 rcases LX c with ⟨_,hb⟩ | ⟨k,_,_,_,e⟩
 ·have h1:=J5 (hb 1 Ze);have h2:decide (1<=c 2)=true:=hb 2 Ze;have h3:decide (c 2<=c 3)=true:=hb 3 Ze;have h4:=J5 (hb 4 Ze);have h5:=J5 (hb 5 Ze);have h8:decide (1<=c 8)=true:=hb 8 Ze;have L1:=J5 (hb 12 Ze);have h17:=J5 (hb 17 Ze);simp at h2 h3 h8;unfold Ia at h4;exact ⟨g,gc,h1.1,h1.2,h2,h3,h4.1,h4.2,h5.1,h8,h17.1,L1.1,L1.2⟩
 ·omega
structure Inv (c:Nat->Int)(k:Nat)(s:Sg) :Prop where
 len:(s.V.length:Int)<=c 0
 vok: ∀v ∈ s.V,Es s.ep v
 sum:Zw s.V+s.P+s.B=s.D
 p0:0<=s.P
 b0:0<=s.B
 d1:s.D<=18446744073709551615
 cap:s.D - s.P - s.B<=c 4
 pdl:(s.pd.length:Int)<=c 1
 fl:(s.F.length:Int)<=c 1
 wl:(s.W.length:Int)<=c 1
 mgl:(s.mg.length:Int)<=c 1
 ptl:(s.pt.length:Int)<=c 1
 pdx: ∀i ∈ s.pd,Vn s.V KT i
 pdn:s.pd.Nodup
 lnx: ∀i ∈ s.F++s.W,Vn s.V V5 i
 lnn:(s.F++s.W).Nodup
 ptf: ∀r ∈ s.pt,V8 r
 cu:s.cu<=s.V.length
 cy0:0<=s.cy
 cy1:s.cy<=18446744073709551615
 bk0:0<=s.bk
 bk1:s.bk<=k
 ep0:0<=s.ep
 ep1:s.ep<=s.bk
 epq:s.ep=s.bk/c 13
theorem inv0 {c:Nat->Int}(hc:GE c) :Inv c 0 ae:=by
 have:=hc.g.cap0;have:=hc.q0;have:=hc.a2;have:=hc.a23;have:=hc.a3;refine ⟨?_,?_,rfl,?_,?_,?_,?_,?_,?_,?_,?_,?_,?_,?_,?_,?_,?_,?_,?_,?_,?_,?_,?_,?_,?_⟩
 all_goals first | (simp [ae]; done) | (simp [ae]; omega)
section
variable {c:Nat->Int} {k:Nat} {s:Sg}
theorem Inv.fits (h:Inv c k s) : ∀v ∈ s.V,Yh v:=fun v hv=>(h.vok v hv).fit
theorem Inv.total (h:Inv c k s)(hc:GE c) :0<=Zw s.V/\Zw s.V<=c 4/\Zw s.V<=1152921504606846976:=by
 have:=Jz h.fits;have:=h.sum;have:=h.cap;have:=hc.a4;omega
theorem Inv.next (h:Inv c k s) :Inv c (k+1) s:= { h with bk1:=by have:=h.bk1; omega}
theorem ML {l:List Int}{x:Int}(h:l.Nodup)(hx:x ∉ l) :(l++[x]).Nodup:=by
 rw [QA];exact ⟨h,by simp,fun a ha b hb=>by rw [Yk] at hb; subst hb; exact fun e=>hx (e▸ha)⟩
theorem wA (hc:GE c)(h:Inv c k s){x:Int}(h0:Rm c s x=0) :Inv c (k+1) (Hc s x):=by
 unfold Rm at h0
 by_cases c1:x < c 2\/c 3 < x
 ·rw [if_pos c1] at h0; simp at h0
 rw [if_neg c1] at h0
 by_cases c2:c 0<=(s.V.length:Int)
 ·rw [if_pos c2] at h0; simp at h0
 rw [if_neg c2] at h0
 by_cases c3:c 1<=(s.pd.length:Int)
 ·rw [if_pos c3] at h0; simp at h0
 rw [if_neg c3] at h0
 by_cases c4:c 4 -(s.D - s.P - s.B)< x
 ·rw [if_pos c4] at h0; simp at h0
 rw [if_neg c4] at h0
 by_cases c5:18446744073709551615 < s.D+x
 ·rw [if_pos c5] at h0; simp at h0
 have a2:=hc.a2;have a3:=hc.a3;have a4:=hc.a4;have q6:Vn (s.V++[Fu x]) KT (s.V.length:Int):=⟨s.V.length,Fu x,rfl,by simp,rfl⟩;refine { h with len:=?_,vok:=?_,sum:=?_,d1:=?_,cap:=?_,pdl:=?_,pdx:=?_,pdn:=?_,lnx:=?_,cu:=?_,bk1:=?_}
 ·exact Zbr
 ·intro v hv;simp only [Hc,Ya,Yk] at hv
  rcases hv with hv | rfl
  ·exact h.vok v hv
  ·exact rT Ze Ze
 ·simp only [Hc];rw [UF];have:=h.sum;simp only [Zw,Fu];omega
 ·simp only [Hc]; omega
 ·simp only [Hc]; omega
 ·exact Zbr
 ·intro i hi;simp only [Hc,Ya,Yk] at hi ⊢
  rcases hi with hi | rfl
  ·exact (h.pdx i hi).append
  ·exact q6
 ·exact ML h.pdn fun hm=>by have:=(h.pdx _ hm).lt; omega
 ·exact fun i hi=>(h.lnx i hi).append
 ·simp only [Hc,ZF,Xf]; have:=h.cu; omega
 ·have:=h.bk1; simp only [Hc]; omega
theorem CJ {i cl:Int}(h0:me c s i cl=0) :EI s.V i=false/\(Wy s (Vq s.V i)).1=0/\((VW s.F s.W cl).length:Int)< c 1/\ ∃d,SD c s cl (Vq s.V i)=some d:=by
 unfold me at h0
 by_cases c1:EI s.V i=true
 ·rw [if_pos c1] at h0; simp at h0
 rw [if_neg c1] at h0
 by_cases c2:(Wy s (Vq s.V i)).1≠0
 ·rw [if_pos c2] at h0; exact absurd h0 c2
 rw [if_neg c2] at h0
 by_cases c3:c 1<=((VW s.F s.W cl).length:Int)
 ·rw [if_pos c3] at h0; simp at h0
 rw [if_neg c3] at h0
 by_cases c4:SD c s cl (Vq s.V i)=none
 ·rw [if_pos c4] at h0; simp at h0
 exact ⟨by simpa using c1,by simpa using c2,by omega,Option.ne_none_iff_exists'.1 c4⟩
theorem AI {F W:List Int}{x:Int}(h:(F++W).Nodup)(hx:x ∉ F++W) :(F++[x]++W).Nodup:=by
 rw [Qb,List.singleton_append];exact List.perm_middle.nodup_iff.2 (Xw.2 ⟨hx,h⟩)
theorem ql (hc:GE c)(h:Inv c k s){i cl:Int}(Ec:cl=0\/cl=1)(h0:me c s i cl=0) :Inv c (k+1) (Hh c s i cl):=by
 obtain ⟨c1,c2,c3,_⟩:=CJ h0;obtain ⟨n,WG,hv⟩:=Ue c1;have q0:=hc.q0;generalize hy:Vq s.V i=v at*;obtain ⟨GR,mz⟩:=OC (e:=s.ep) (v:=v) c2;have SX:=vL (h.vok v (Xi hv)) c2 (wO c s i cl);have e1:i.toNat=n:=Ze;have u4:i ∉ s.F++s.W:=fun hm=>by
  exact Zih
 have hV:(Hh c s i cl).V=s.V.set n { (Qh [Xo s.ep,Qj 2] v).2 with dl:=wO c s i cl}:=by
  simp only [Hh,e1,hy];rfl
 have hme:Vn (Hh c s i cl).V V5 i:=⟨n,_,WG,by rw [hV,YD (Zj.1 hv).1],by rw [mz]; exact ⟨rfl,((h.vok v (Xi hv)).lo (.inr GR)).1⟩⟩;have hold: ∀j ∈ s.F++s.W,Vn (Hh c s i cl).V V5 j:=fun j hj=>by
  rw [hV];exact (h.lnx j hj).set hv fun hq=>by have:=hq.1; omega
 have hFW:((Hh c s i cl).F=s.F++[i]/\(Hh c s i cl).W=s.W/\(s.F.length:Int)< c 1)\/((Hh c s i cl).F=s.F/\(Hh c s i cl).W=s.W++[i]/\(s.W.length:Int)< c 1):=by
  rcases Ec with rfl | rfl
  ·have:s.F.length < (c 1).toNat:=by simp only [VW,if_true] at c3; omega
   exact .inl ⟨by simp [Hh,FR,this],by simp [Hh,FT],by omega⟩
  ·have:s.W.length < (c 1).toNat:=by simp [VW] at c3; omega
   exact .inr ⟨by simp [Hh,FR],by simp [Hh,FT,this],by omega⟩
 refine ⟨?_,?_,?_,h.p0,h.b0,h.d1,h.cap,h.pdl,?_,?_,h.mgl,h.ptl,?_,h.pdn,?_,?_,h.ptf,?_,h.cy0,h.cy1,h.bk0,?_,h.ep0,h.ep1,h.epq⟩
 ·rw [hV,Xj]; exact h.len
 ·rw [hV]; exact J9 h.vok SX
 ·rw [hV,JK hv,mz];have:=h.sum;simp only [Hh];omega
 ·rcases hFW with ⟨e2,e3,h4⟩ | ⟨e2,e3,h4⟩
  ·rw [e2,ZF,Xf]; omega
  ·rw [e2]; exact h.fl
 ·rcases hFW with ⟨e2,e3,h4⟩ | ⟨e2,e3,h4⟩
  ·rw [e3]; exact h.wl
  ·rw [e3,ZF,Xf]; omega
 ·exact Za0
 ·intro j hj
  by_cases NF:j=i
  ·subst NF; exact hme
  ·refine hold j ?_
   rcases hFW with ⟨e2,e3,h4⟩ | ⟨e2,e3,h4⟩
   ·rw [e2,e3] at hj;simp only [Ya,Yk] at hj ⊢;exact Za6
   ·rw [e2,e3] at hj;simp only [Ya,Yk] at hj ⊢
    rcases hj with hj | hj | hj
    ·exact .inl hj
    ·exact .inr hj
    ·exact absurd hj NF
 ·rcases hFW with ⟨e2,e3,h4⟩ | ⟨e2,e3,h4⟩
  ·rw [e2,e3]; exact AI h.lnn u4
  ·rw [e2,e3,<-Qb]; exact ML h.lnn u4
 ·rw [hV,Xj]; exact h.cu
 ·have:=h.bk1; simp only [Hh]; omega
theorem IB {i:Int}(h0:IA c s i=0) :EI s.V i=false/\(DZ (Vq s.V i) s.ep c).1=0/\((Vq s.V i).st=2->(s.F.length:Int)< c 1):=by
 unfold IA at h0
 by_cases c1:EI s.V i=true
 ·rw [if_pos c1] at h0; simp at h0
 rw [if_neg c1] at h0
 by_cases c2:(DZ (Vq s.V i) s.ep c).1≠0
 ·rw [if_pos c2] at h0; exact absurd h0 c2
 rw [if_neg c2] at h0
 by_cases c3:(Vq s.V i).st=2/\c 1<=(s.F.length:Int)
 ·rw [if_pos c3] at h0; simp at h0
 exact ⟨by simpa using c1,by simpa using c2,fun h=>by omega⟩
theorem Zd1 (hc:GE c)(h:Inv c k s){i:Int}(h0:IA c s i=0) :Inv c (k+1) (LA c s i):=by
 obtain ⟨c1,c2,c3⟩:=IB h0;obtain ⟨n,WG,hv⟩:=Ue c1;generalize hy:Vq s.V i=v at*;have s11:=hc.g.sla0;have s10:=hc.g.unb0;obtain ⟨mH,GR,hex,Aw,hba⟩:=LD c2;have SX:=nY (h.vok v (Xi hv)) c2 Ze;have e1:i.toNat=n:=Ze;obtain ⟨p0,p1⟩:=L8 c (h.vok v (Xi hv)).fit;have hN:vj v s.ep c=BE v c:=by unfold vj; rw [if_pos c2]
 have hV:(LA c s i).V=s.V.set n (DZ v s.ep c).2:=by simp only [LA,e1,hy]
 have hB:(LA c s i).B=s.B+BE v c:=by simp only [LA,hy,hN]
 have hF:(LA c s i).F=if v.st=2 then s.F++[i] else s.F:=by simp only [LA,hy]
 have hold: ∀j ∈ s.F++s.W,Vn (LA c s i).V V5 j:=fun j hj=>by
  rw [hV];refine (h.lnx j hj).set hv fun hq=>⟨?_,hex.trans hq.2⟩
  have:=hq.1
  rcases GR with ⟨_,h1⟩ | ⟨h1,_⟩
  ·exact h1
  ·omega
 refine ⟨?_,?_,?_,h.p0,?_,h.d1,?_,h.pdl,?_,h.wl,h.mgl,h.ptl,?_,h.pdn,?_,?_,h.ptf,?_,h.cy0,h.cy1,h.bk0,?_,h.ep0,h.ep1,h.epq⟩
 ·rw [hV,Xj]; exact h.len
 ·rw [hV]; exact J9 h.vok SX
 ·rw [hV,JK hv,hB,hba];have:=h.sum;simp only [LA];omega
 ·rw [hB]; have:=h.b0; omega
 ·rw [hB]; have:=h.cap; simp only [LA]; omega
 ·rw [hF]
  split
  ·rename_i h2; have:=c3 h2; rw [ZF,Xf]; omega
  ·exact h.fl
 ·exact Za0
 ·intro j hj
  by_cases h2:v.st=2
  ·rw [hF,if_pos h2] at hj
   by_cases NF:j=i
   ·subst NF;refine ⟨n,_,WG,by rw [hV,YD (Zj.1 hv).1],?_,hex.trans ((h.vok v (Xi hv)).lo (.inr h2)).1⟩
    rcases GR with ⟨_,h1⟩ | ⟨h1,_⟩
    ·exact h1
    ·omega
   ·refine hold j ?_;simp only [LA,Ya,Yk] at hj ⊢;exact Za6
  ·rw [hF,if_neg h2] at hj;exact hold j hj
 ·by_cases h2:v.st=2
  ·rw [hF,if_pos h2];refine AI h.lnn fun hm=>?_
   exact Zih
  ·rw [hF,if_neg h2]; exact h.lnn
 ·rw [hV,Xj]; exact h.cu
 ·have:=h.bk1; simp only [LA]; omega
theorem Zcj (h:Inv c k s){p:Int × Int}(h0:uV c s p=0) :Inv c (k+1) { s with mg:=s.mg++[p]}:=by
 unfold uV at h0
 by_cases c1:DK s.V p (c 6)≠0
 ·rw [if_pos c1] at h0; exact absurd h0 c1
 rw [if_neg c1] at h0
 by_cases c2:c 1<=(s.mg.length:Int)
 ·rw [if_pos c2] at h0; simp at h0
 exact { h with mgl:=by simp only [ZF,Xf]; omega,bk1:=by have:=h.bk1; simp only; omega}
theorem ZdK (h:Inv c k s){r:Rq}(hr:V8 r)(h0:xV c s r=0) :Inv c (k+1) { s with pt:=s.pt++[r]}:=by
 unfold xV at h0
 by_cases c1:OJ s.V r≠0
 ·rw [if_pos c1] at h0; exact absurd h0 c1
 rw [if_neg c1] at h0
 by_cases c2:c 1<=(s.pt.length:Int)
 ·rw [if_pos c2] at h0; simp at h0
 have hp: ∀x ∈ s.pt++[r],V8 x:=fun x hx=>by
  simp only [Ya,Yk] at hx
  rcases hx with hx | rfl
  ·exact h.ptf x hx
  ·exact hr
 exact { h with ptl:=by simp only [ZF,Xf]; omega,ptf:=hp,bk1:=by have:=h.bk1; simp only; omega}
end
end
section
open Go Go.RowKit
theorem Sh (om:Int->Int)(F W:List Int)(B:Int) :((DQ om F W B).1.map (·.1)++((DQ om F W B).2.1++(DQ om F W B).2.2.1)).Perm (F++W):=by
 refine Nn (P:=fun F W B r=>(r.1.map (·.1)++(r.2.1++r.2.2.1)).Perm (F++W)) (fun B=> .refl _) (fun F W B _ _=> .refl _) (fun F W B r hb hx ih=>?_) _ F W B rfl;rw [YY,Yf]
 match F,W,hb with
 | x::F,W,_=>exact ih.cons x
 | [],x::W,_=>exact ih.cons x
theorem jx (om:Int->Int)(F W:List Int)(B:Int) :(DQ om F W B).2.1.length<=F.length/\(DQ om F W B).2.2.1.length<=W.length:=
 Nn (P:=fun F W B r=>r.2.1.length<=F.length/\r.2.2.1.length<=W.length) (fun B=>⟨Zh _,Zh _⟩) (fun F W B _ _=>⟨Zh _,Zh _⟩) (fun F W B r hb hx ih=>⟨ZY ih.1 (sf F W).1,ZY ih.2 (sf F W).2⟩) _ F W B rfl
theorem jK (L:List Bool)(s:Nat)(v p:Int) : ∀(f k:Nat),L.length<=k+f->(∀j,j < k->(j:Int)< v/\j < L.length/\((JM L s j).length:Int)< p)->Nj L s v p (goN L s v p f k)
 | 0,k,hf,h=>⟨.inr (.inl (show L.length<=k by omega)),h⟩
 | f+1,k,hf,h=>by
  unfold goN
  by_cases hc:v<=(k:Int)\/L.length<=k\/p<=((JM L s k).length:Int)
  ·rw [if_pos hc]; exact ⟨hc,h⟩
  ·rw [if_neg hc];refine jK L s v p f (k+1) Ze fun j hj=>?_
   rcases YF j k with ED | ED
   ·exact h j ED
   ·obtain rfl:j=k:=Ze;omega
theorem RU (L:List Bool)(s:Nat)(v p:Int) :Nj L s v p (FY L s v p):=jK L s v p L.length 0 Ze (fun j hj=>by omega)
section
variable {c:Nat->Int} {k:Nat} {s:Sg}
theorem wZ {V:List ZN}{p:ZN->Prop}{n:Nat}{v:ZN}(hv:V[n]?=some v)(h:p v) :Vn V p (n:Int):=⟨n,v,rfl,hv,h⟩
def XF (s:Sg) :Sg:= { s with bk:=s.bk+1,ep:=s.ep+1}
theorem pz (hc:GE c)(h:Inv c k s) :0<=Ye (Bf (XF s))/\Ye (Bf (XF s))<=18446744073709551615/\Zw (Bf (XF s))=Zw s.V/\(Bf (XF s)).length=s.V.length/\(∀v ∈ Bf (XF s),Yh v):=by
 obtain ⟨g1,g2,_⟩:=RJ h.vok h.ep0;have e:Bf (XF s)=(s.V.map (Yt (s.ep+1))).map (Qp (s.ep+1)):=rfl;rw [e];have hf: ∀v ∈ (s.V.map (Yt (s.ep+1))).map (Qp (s.ep+1)),Yh v:=fun v hv=>(g1.vok v hv).fit
 obtain ⟨a1,a2⟩:=GV hf;have:=h.total hc;exact ⟨a1,by omega,g2,g1.len,hf⟩
theorem A9 {V:List ZN}(h: ∀v ∈ V,Yh v)(i:Int) :0<=wV V i:=by
 unfold wV Ks
 split
 ·rw [Zm]
  cases hx:(QN V)[i.toNat]? with
  | none=>simp
  | some x=>
   have hm:=Zy hx;unfold QN at hm;obtain ⟨v,hv,rfl⟩:=Z6.1 hm;exact (h v hv).bal.1
 ·exact Xn _
theorem Sm (hc:GE c) :1<=OG c s:=by
 have:=hc.g.chu0;unfold OG Ea
 split
 ·exact this
 ·split <;> omega
theorem Zga {B x:Int}(h0:0<=B)(h1:B<=18446744073709551615)(hx:0<=x) :0<=gr B x/\gr B x<=18446744073709551615:=by
 unfold gr
 split <;> omega
theorem fh {b L:Int}(h:1<=L) :(b+1)/L=b/L+if(b+1)%L=0 then 1 else 0:=by
 have h1:=Int.emod_add_mul_ediv b L;have h2:=Int.emod_add_mul_ediv (b+1) L;have h3:=U1 b (show L≠0 by omega);have h4:=Ge b (show 0 < L by omega);have h5:=U1 (b+1) (show L≠0 by omega);have h6:=Ge (b+1) (show 0 < L by omega);have hd:L*((b+1)/L - b/L)=b%L+1 -(b+1)%L:=by rw [Int.mul_sub]; omega
 have e:(b+1)/L=b/L+((b+1)/L - b/L):=Ze;rw [e]
 congr 1
 generalize (b+1)/L - b/L=d at hd;have lo: ∀x,d<=x->L*d<=L*x:=fun x hx=>Vo hx Ze
 have hi: ∀x,x<=d->L*x<=L*d:=fun x hx=>Vo hx Ze
 split
 ·have a1: ¬d<=0:=fun h=>by have:=lo 0 h; rw [Int.mul_zero] at this; omega
  have a2: ¬2<=d:=fun h=>by have:=hi 2 h; omega
  omega
 ·have a1: ¬d<= -1:=fun h=>by have:=lo (-1) h; omega
  have a2: ¬1<=d:=fun h=>by have:=hi 1 h; omega
  omega
theorem Zcf (hc:GE c)(h:Inv c k s)(hk:k<=1000000)(Ro:(s.bk+1)%c 13=0) :Inv c (k+1) (zR c (XF s)):=by
 obtain ⟨a0,a1,a2,a3,a4⟩:=pz hc h;obtain ⟨g1,g2,g3⟩:=RJ h.vok h.ep0;have bk1:=h.bk1;have ep1:=h.ep1;have ep0:=h.ep0;have bk0:=h.bk0;have u0:=hc.g.unb0;have u1:=hc.g.unb1;have hl:Nc (s.ep+1+1) (c 10):=by unfold Nc RO; omega
 have hX:1<=OG c (XF s):=Sm hc;obtain ⟨b0,b1⟩:=Zga h.cy0 h.cy1 (show 0<=OG c (XF s) by omega);have CS:((LW c (XF s)).1.map (·.1)++((LW c (XF s)).2.1++(LW c (XF s)).2.2.1)).Perm (s.F++s.W):=Sh _ _ _ _;have rf:=CS.nodup_iff.2 h.lnn;rw [QA] at rf;obtain ⟨n1,n2,n3⟩:=rf;have BQ: ∀i,i ∈ (LW c (XF s)).1.map (·.1)\/i ∈ (LW c (XF s)).2.1++(LW c (XF s)).2.2.1->Vn (Bf (XF s)) V5 i:=fun i hi=>
  g1.qd i (h.lnx i (CS.mem_iff.1 (Ya.2 hi)))
 obtain ⟨r1,r2,r3,r4,r5⟩:=Nl hl Ze (LW c (XF s)).1 (Bf (XF s)) g1.vok n1 (fun p hp=>BQ p.1 (.inl (Qt hp)));have I8:(s.pd.take (PC c (XF s))).Nodup:=h.pdn.sublist (VT _ _);have bQ: ∀i ∈ s.pd,Vn (Wr c (XF s)) KT i:=fun i hi=>r4 i (g1.pd i (h.pdx i hi))
 obtain ⟨t1,t2,t3,t4,t5⟩:=RL (s.pd.take (PC c (XF s))) (Wr c (XF s)) r2 I8 (fun i hi=>bQ i (ZQ hi));obtain ⟨m1,m2⟩:=xM (c 6) (s.mg.take (GS c s.mg)) t2;have mA:Zw (lG c (XF s))=Zw s.V:=by
  rw [Ur,show lG c (XF s)=OP 1 (Wr c (XF s)) (s.pd.take (PC c (XF s))) from rfl,t3,show Wr c (XF s)=Bu c (s.ep+1+1) (Bf (XF s)) (LW c (XF s)).1 from rfl,r3,<-Ur,a2]
 have hlen:(zR c (XF s)).V.length=s.V.length:=(m1.len.trans t1).trans (r1.trans a3);have hlens:=jw (wV (Bf (XF s))) s.F s.W (gr s.cy (OG c (XF s)));refine ⟨?_,m1.vok,?_,h.p0,h.b0,h.d1,h.cap,?_,?_,?_,?_,h.ptl,?_,?_,?_,n2,h.ptf,?_,?_,?_,?_,?_,?_,?_,?_⟩
 ·rw [hlen]; exact h.len
 ·have e:Zw (zR c (XF s)).V=Zw s.V:=m2.trans mA;rw [e]; exact h.sum
 ·have:=h.pdl;show ((s.pd.drop (PC c (XF s))).length:Int)<=c 1;rw [Jm]; omega
 ·have hp:=jx (wV (Bf (XF s))) s.F s.W (gr s.cy (OG c (XF s)));have:=h.fl;show ((DQ (wV (Bf (XF s))) s.F s.W (gr s.cy (OG c (XF s)))).2.1.length:Int)<=c 1;omega
 ·have hp:=jx (wV (Bf (XF s))) s.F s.W (gr s.cy (OG c (XF s)));have:=h.wl;show ((DQ (wV (Bf (XF s))) s.F s.W (gr s.cy (OG c (XF s)))).2.2.1.length:Int)<=c 1;omega
 ·have:=h.mgl;show ((s.mg.drop (GS c s.mg)).length:Int)<=c 1;rw [Jm]; omega
 ·intro i hi;have hi:i ∈ s.pd.drop (PC c (XF s)):=hi;refine m1.pd i (t5 i (fun hm=>?_) (bQ i (Xc hi)));have hn:=h.pdn;rw [<-Qz (PC c (XF s)) s.pd,QA] at hn;exact hn.2.2 i hm i hi rfl
 ·exact h.pdn.sublist (List.drop_sublist _ _)
 ·intro i hi;exact m1.qd i (t4 i (r5 i (fun hm=>n3 i hm i hi rfl) (BQ i (.inr hi))))
 ·rw [hlen]; exact h.cu
 ·show 0<=Ey (LW c (XF s));unfold Ey
  split
  ·exact pq _ _ _ _ b0
  ·exact Xn _
 ·show Ey (LW c (XF s))<=18446744073709551615;unfold Ey
  split
  ·have e1:=vT (wV (Bf (XF s))) s.F s.W (gr s.cy (OG c (XF s)));have e2:=dE (A9 a4) (DQ (wV (Bf (XF s))) s.F s.W (gr s.cy (OG c (XF s)))).1;show (DQ (wV (Bf (XF s))) s.F s.W (gr s.cy (OG c (XF s)))).2.2.2<=_;omega
  ·decide
 ·show 0<=s.bk+1;omega
 ·show s.bk+1<=((k+1:Nat) :Int);omega
 ·show 0<=s.ep+1;omega
 ·show s.ep+1<=s.bk+1;omega
 ·show s.ep+1=(s.bk+1)/c 13;rw [fh hc.g.len0,if_pos Ro,h.epq]
theorem Tg (hc:GE c)(h:Inv c k s)(hk:k<=1000000) :Inv c (k+1) (PT c s):=by
 unfold PT
 split
 ·rename_i hb; exact Zcf hc h hk hb
 ·rename_i hb
  have:=h.bk0;have:=h.bk1;have:=h.ep1;exact { h with bk0:=by simp only; omega,bk1:=by simp only; omega,ep1:=by simp only; omega,epq:=by simp only; rw [fh hc.g.len0,if_neg hb,h.epq]; omega}
theorem LG (a b:List Pm) :KN (a++b)=KN a+KN b:=by
 induction a with
 | nil=>simp [KN]
 | cons p a ih=>simp only [Yf,KN,ih]; omega
theorem ky (l:List Py) :KN (WN l)=Uq l:=by
 induction l with
 | nil=>rfl
 | cons p l ih=>simp only [WN,YY,KN,Uq] at*; rw [ih]
theorem Zg8 {V:List ZN}{i:Nat}(h:(Nd V).getD i false=true) : ∃v,V[i]?=some v/\v.st=5:=by
 unfold Nd at h;rw [Zm,ZH] at h
 cases hx:V[i]? with
 | none=>rw [hx] at h; simp at h
 | some v=>rw [hx] at h; exact ⟨v,rfl,by simpa using h⟩
theorem Mg (hc:GE c)(h:Inv c k s) :ec s.ep s.V (LI c s)/\(af c s).Nodup/\ ∀i ∈ af c s,Vn (LI c s) (Lg s.ep) ((i:Nat) :Int):=by
 have hm:0<=c 5:=by have:=hc.m5; omega
 have g:=yg (V:=s.V) hm (s.pt.take (FZ c s)) (fun r hr=>h.ptf r (ZQ hr)) h.vok;have GR:=RU (Nd (LI c s)) s.cu (c 14 -(FZ c s:Nat)) (c 15 -((Ww c s).length:Nat));refine ⟨g,PU GR.le,fun i hi=>?_⟩;obtain ⟨v,hv,h5⟩:=Zg8 (L6 hi).2;exact wZ hv ⟨h5,(g.vok v (Xi hv)).s5 h5⟩
theorem Zd7 (hc:GE c)(h:Inv c k s) :Inv c k (II c s)/\KN (A4 c s)=Zw s.V - Zw (II c s).V/\ ∀p ∈ A4 c s,0<=p.am:=by
 obtain ⟨g,hn,hr⟩:=Mg hc h;obtain ⟨f1,f2,f3⟩:=LZ (af c s) (LI c s) g.vok hn hr;have hm:0<=c 5:=by have:=hc.m5; omega
 have g2:=g.trans f1;have hs:=FD (c 5) (s.pt.take (FZ c s)) s.V;have hF:KN (A4 c s)=Zw s.V - Zw (II c s).V:=by
  unfold A4 Ww;rw [LG,ky];show _=Zw s.V - Zw (QT s.ep (LI c s) (af c s));rw [f2];have:Zw (LI c s)=Zw s.V - Uq (Ky (c 5) s.V (s.pt.take (FZ c s))):=hs;omega
 have S8: ∀p ∈ A4 c s,0<=p.am:=fun p hp=>by
  unfold A4 at hp
  rcases Ya.1 hp with hp | hp
  ·obtain ⟨_,h2⟩:=EO (c 5) hm (s.pt.take (FZ c s)) s.V (fun r hr=>h.ptf r (ZQ hr)) h.fits;unfold Ww WN at hp;obtain ⟨y,hy,rfl⟩:=Z6.1 hp;have:=(h2 y hy).1;simp only;omega
  ·exact (f3 p hp).1
 have hsum0:0<=KN (A4 c s):=by
  generalize A4 c s=l at S8;clear hF
  induction l with
  | nil=>simp [KN]
  | cons p l ih=>
   have:=ih (fun q hq=>S8 q (by simp [hq]));have:=S8 p ZE;simp only [KN];omega
 have GR:=RU (Nd (LI c s)) s.cu (c 14 -(FZ c s:Nat)) (c 15 -((Ww c s).length:Nat));refine ⟨⟨?_,g2.vok,?_,?_,h.b0,h.d1,?_,h.pdl,h.fl,h.wl,h.mgl,?_,fun i hi=>g2.pd i (h.pdx i hi),h.pdn,fun i hi=>g2.qd i (h.lnx i hi),h.lnn,fun r hr=>h.ptf r (Xc hr),?_,h.cy0,h.cy1,h.bk0,h.bk1,h.ep0,h.ep1,h.epq⟩,hF,S8⟩
 ·have e:(II c s).V.length=s.V.length:=g2.len;rw [e]; exact h.len
 ·have:=h.sum;show Zw (II c s).V+(s.P+KN (A4 c s))+s.B=s.D;omega
 ·have:=h.p0;show 0<=s.P+KN (A4 c s);omega
 ·have:=h.cap;show s.D -(s.P+KN (A4 c s)) - s.B<=c 4;omega
 ·have:=h.ptl;show ((s.pt.drop (FZ c s)).length:Int)<=c 1;rw [Jm]; omega
 ·have e:(II c s).V.length=(LI c s).length:=f1.len;rw [e];show DJ (LI c s).length s.cu (oq c s)<=(LI c s).length;have:=h.cu;have:=g.len;unfold DJ
  split
  ·omega
  ·have hle:oq c s<=(Nd (LI c s)).length:=GR.le;have:(Nd (LI c s)).length=(LI c s).length:=by simp [Nd]
   exact Nat.le_of_lt (Nat.mod_lt _ Ze)
theorem tp (hc:GE c)(h:Inv c k s)(hk:k<=1000000) :Inv c (k+1) (yZ c s).2:=(Zd7 hc (Tg hc h hk)).1
theorem ZdI (hc:GE c)(h:Inv c k s)(hk:k<=1000000)(o:Oq)(ho:GB o) :Inv c (k+1) (MN c s o).2:=by
 unfold MN
 by_cases h1:o.kd=1
 ·rw [if_pos h1]; unfold Ha; split
  ·rename_i h0; exact wA hc h h0
  ·exact h.next
 rw [if_neg h1]
 by_cases h2:o.kd=2
 ·rw [if_pos h2]; unfold PH; split
  ·rename_i h0; exact ql hc h (.inr rfl) h0
  ·exact h.next
 rw [if_neg h2]
 by_cases h3:o.kd=3
 ·rw [if_pos h3]; unfold PH; split
  ·rename_i h0; exact ql hc h (.inl rfl) h0
  ·exact h.next
 rw [if_neg h3]
 by_cases h4:o.kd=4
 ·rw [if_pos h4]; unfold AS; split
  ·rename_i h0; exact Zd1 hc h h0
  ·exact h.next
 rw [if_neg h4]
 by_cases h5:o.kd=5
 ·rw [if_pos h5]; unfold eO; split
  ·rename_i h0; exact Zcj h h0
  ·exact h.next
 rw [if_neg h5]
 by_cases h6:o.kd=6
 ·rw [if_pos h6]; unfold gJ; split
  ·rename_i h0; exact ZdK h ⟨ho.2.1,ho.2.2.2⟩ h0
  ·exact h.next
 rw [if_neg h6]
 split
 ·exact tp hc h hk
 ·exact h.next
end
end
section
open Go Go.RowKit
section
variable {c:Nat->Int} {k:Nat} {s:Sg}
theorem SL (e:Int) : ∀(q:List Nat) (V:List ZN),(X6 e V q).length=q.length
 | [],_=>rfl
 | i::q,V=>by unfold X6; rw [Yc,Yc,SL e q]
theorem ot (hc:GE c)(s:Sg) :0<=((FZ c s:Nat) :Int)+(oq c s:Nat)/\((FZ c s:Nat) :Int)+(oq c s:Nat)<=c 14/\((A4 c s).length:Int)<=c 15:=by
 have p0:=hc.g.part;have p1:=hc.g.vis0;have p2:=hc.g.pay0;have hN:((FZ c s:Nat) :Int)<=c 16:=by unfold FZ Up; omega
 have GR:=RU (Nd (LI c s)) s.cu (c 14 -(FZ c s:Nat)) (c 15 -((Ww c s).length:Nat));have hv:=GR.le_v;have hp:=GR.le_p;have hP:(Ww c s).length<=FZ c s:=ZaG
 have e:(A4 c s).length=(Ww c s).length+(af c s).length:=by unfold A4; rw [ZF,SL]
 have hv:oq c s=0\/((oq c s:Nat) :Int)<=c 14 -(FZ c s:Nat):=hv;have hp:(af c s).length=0\/(((af c s).length:Nat) :Int)<=c 15 -((Ww c s).length:Nat):=hp;refine ⟨by omega,by omega,?_⟩;rw [e];omega
theorem jH (e:Int) : ∀(q:List Nat) (V:List ZN),q.Nodup->(∀i ∈ q,Vn V (Lg e) (i:Nat))->
  (∀i ∈ q,∃v,(QT e V q)[i]?=some v/\v.st=6/\v.bal=0)/\(∀i,i ∉ q->(QT e V q)[i]?=V[i]?)/\(∀p ∈ X6 e V q,∃i ∈ q,p.ix=((i:Nat) :Int))
 | [],V,_,_=>⟨fun i hi=>by simp at hi,fun _ _=>rfl,fun p hp=>by simp [X6] at hp⟩
 | x::q,V,hn,hq=>by
  obtain ⟨n,v,OX,hv,hr⟩:=hq x ZE;obtain rfl:x=n:=Ze;rw [Xw] at hn;have ha:V.getD x ZS=v:=K8 hv;obtain ⟨f1,f2⟩:=NA hr.1 hr.2;unfold QT X6;rw [ha,f1];obtain ⟨i1,i2,i3⟩:=jH e q (V.set x { v with bal:=0,st:=6}) hn.2 (fun i hi=>(hq i Bh).set_ne (fun he=>hn.1 (by
   obtain rfl:i=x:=Ze;exact hi)))
  refine ⟨fun i hi=>?_,fun i hi=>?_,fun p hp=>?_⟩
  ·rcases ZU.1 hi with rfl | hi
   ·exact ⟨_,(i2 i hn.1).trans (YD (Zj.1 hv).1),rfl,rfl⟩
   ·exact i1 i hi
  ·rw [ZU] at hi;rw [i2 i (fun h=>hi (.inr h)),Yo (fun h=>hi (.inl h.symm))]
  ·rcases ZU.1 hp with rfl | hp
   ·exact ⟨x,by simp,rfl⟩
   ·obtain ⟨i,hi,h⟩:=i3 p hp;exact ⟨i,by simp [hi],h⟩
end
end
section
open Go Go.RowKit
def Vy (v:ZN) :Prop:=v.st=4\/(v.st=3/\v.ex≠ -1)
instance (v:ZN) :Decidable (Vy v):=by unfold Vy; infer_instance
def iO (V:List ZN) :Nat:=V.countP fun v=>decide (Vy v)
structure XI (e:Int)(V:List ZN)(L:List QW) :Prop where
 nd:(L.map (·.2)).Nodup
 ub: ∀i,i ∈ L.map (·.2) ↔ Vn V Vy i
 key: ∀p ∈ L,e < p.1
 wd: ∀p ∈ L,∀(n:Nat) (v:ZN),p.2=(n:Int)->V[n]?=some v->p.1<=v.wd
theorem Zg9:XI 0 [] []:=⟨by simp,fun i=>⟨fun h=>by simp at h,fun ⟨m,u,_,h,_⟩=>by simp at h⟩,fun p hp=>by simp at hp,fun p hp=>by simp at hp⟩
theorem SA (V:List ZN) : ∀n,n<=V.length->((YS n).filter fun n=>decide (Vy (V.getD n ZS))).length=iO (V.take n)
 | 0,_=>by simp [iO]
 | n+1,h=>by
  have hv:V[n]?=some V[n]:=Zg Ze;have e1:V.getD n ZS=V[n]:=K8 hv;have e2:V.take (n+1)=V.take n++[V[n]]:=by rw [List.take_add_one,hv]; rfl
  rw [KC,QJ,ZF,SA V n Ze,e2];unfold iO;rw [List.countP_append]
  congr 1
  by_cases hb:Vy V[n]
  ·simp only [JH,List.filter_nil,e1,hb,decide_true,if_true,Xf,List.countP_cons,List.countP_nil]
  ·simp only [JH,List.filter_nil,e1,hb,decide_false,Bool.false_eq_true,if_false,List.length_nil,List.countP_cons,List.countP_nil]
theorem aT (V:List ZN) :((YS V.length).filter fun n=>decide (Vy (V.getD n ZS))).length=iO V:=by
 rw [SA V V.length (Zh _),Vc]
theorem XI.len {e:Int}{V:List ZN}{L:List QW}(h:XI e V L) :L.length=iO V:=by
 have hp:(L.map (·.2)).Perm (((YS V.length).filter fun n=>decide (Vy (V.getD n ZS))).map fun n:Nat=>(n:Int)):=by
  refine (List.perm_ext_iff_of_nodup h.nd ?_).2 fun i=>?_
  ·exact List.pairwise_map.2 ((List.nodup_range.sublist List.filter_sublist).imp fun h e=>h Ze)
  ·rw [h.ub];constructor
   ·rintro ⟨m,u,rfl,hu,hp⟩;refine Z6.2 ⟨m,QR.2 ⟨Qo.2 (Zj.1 hu).1,?_⟩,rfl⟩;rw [Zm,hu];simpa using hp
   ·intro hi;obtain ⟨m,hm,rfl⟩:=Z6.1 hi;obtain ⟨h1,h2⟩:=QR.1 hm;have h1:=Qo.1 h1;refine ⟨m,V.getD m ZS,rfl,?_,by simpa using h2⟩;rw [Zm,Zg h1];rfl
 have:=hp.length_eq;rw [YG,YG,aT] at this;exact this
section
variable {c:Nat->Int} {k:Nat} {s:Sg} {e:Int} {V W:List ZN} {L:List QW}
theorem XI.keep (h:XI e V L)(hub: ∀i,Vn W Vy i ↔ Vn V Vy i)(Aw: ∀(n:Nat) (v:ZN),W[n]?=some v->Vy v-> ∃u,V[n]?=some u/\u.wd<=v.wd) :XI e W L:=by
 refine ⟨h.nd,fun i=>(h.ub i).trans (hub i).symm,h.key,fun p hp n v hn hv=>?_⟩;obtain ⟨m,u,hm,hu,hb⟩:=(hub p.2).2 ((h.ub p.2).1 (Qt hp));obtain rfl:n=m:=Ze;rw [hv] at hu;obtain rfl:=ZL hu;obtain ⟨u,hu,hle⟩:=Aw n v hv hb;exact Int.le_trans (h.wd p hp n u hn hu) hle
theorem Zea {n:Nat}{v v':ZN}(hv:V[n]?=some v)(h:Vy v' ↔ Vy v)(i:Int) :Vn (V.set n v') Vy i ↔ Vn V Vy i:=by
 constructor
 ·rintro ⟨m,u,hm,hu,hb⟩
  by_cases bM:n=m
  ·subst bM;rw [YD (Zj.1 hv).1] at hu;obtain rfl:=ZL hu;exact ⟨n,v,hm,hv,h.1 hb⟩
  ·rw [Yo bM] at hu;exact ⟨m,u,hm,hu,hb⟩
 ·exact fun hx=>hx.set hv h.2
theorem XI.set (h:XI e V L){n:Nat}{v v':ZN}(hv:V[n]?=some v)(hb:Vy v' ↔ Vy v)(hw:Vy v->v.wd<=v'.wd) :XI e (V.set n v') L:=by
 refine h.keep (Zea hv hb) fun m x hx hxb=>?_
 by_cases bM:n=m
 ·subst bM;rw [YD (Zj.1 hv).1] at hx;obtain rfl:=ZL hx;exact ⟨v,hv,hw (hb.1 hxb)⟩
 ·rw [Yo bM] at hx;exact ⟨x,hx,Xn _⟩
theorem XI.more (h:XI e V L){n:Nat}{v v':ZN}(hv:V[n]?=some v)(h0: ¬Vy v)(h1:Vy v'){t:Int}(ht:e < t)(hw:t<=v'.wd) :XI e (V.set n v') (L++[(t,(n:Int))]):=by
 have hn:(n:Int) ∉ L.map (·.2):=fun hm=>by
  obtain ⟨m,u,hm,hu,hb⟩:=(h.ub _).1 hm;obtain rfl:n=m:=Ze;rw [hv] at hu;obtain rfl:=ZL hu;exact h0 hb
 have XV:=(Zj.1 hv).1;refine ⟨by rw [Xv]; exact ML h.nd hn,fun i=>?_,fun p hp=>?_,fun p hp m x hm hx=>?_⟩
 ·rw [Xv,Ya,h.ub];constructor
  ·rintro (hi | hi)
   ·exact hi.set hv fun hb=>absurd hb h0
   ·obtain rfl:i=(n:Int):=by simpa using hi
    exact ⟨n,v',rfl,YD XV,h1⟩
  ·rintro ⟨m,u,hm,hu,hb⟩
   by_cases bM:n=m
   ·right; subst bM; simp [hm]
   ·rw [Yo bM] at hu;exact .inl ⟨m,u,hm,hu,hb⟩
 ·rcases Ya.1 hp with hp | hp
  ·exact h.key p hp
  ·obtain rfl:p=(t,(n:Int)):=by simpa using hp
   exact ht
 ·rcases Ya.1 hp with hp | hp
  ·by_cases bM:n=m
   ·subst bM;exact absurd (hm▸Qt hp) hn
   ·rw [Yo bM] at hx;exact h.wd p hp m x hm hx
  ·obtain rfl:p=(t,(n:Int)):=by simpa using hp
   obtain rfl:n=m:=by have:(n:Int)=m:=hm; omega
   rw [YD XV] at hx;obtain rfl:=ZL hx;exact hw
theorem sB (h:XI e V L)(x:Int) :XI e (V++[Fu x]) L:=by
  have jR: ¬Vy (Fu x):=by simp [Vy,Fu]
  refine h.keep (fun i=>⟨fun ⟨m,u,hm,hu,hb⟩=>?_,fun hx=>hx.append⟩) fun n v hv hb=>?_
  all_goals
    first
    | (rcases YF m V.length with hl | hl
       · rw [YB hl] at hu; exact ⟨m,u,hm,hu,hb⟩
       · rw [Y6 hl] at hu
         obtain ⟨_,hq⟩:=Zj.1 hu;simp at hq;exact absurd (hq▸hb) jR)
    | (rcases YF n V.length with hl | hl
       · rw [YB hl] at hv; exact ⟨v,hv,Xn _⟩
       · rw [Y6 hl] at hv
         obtain ⟨_,hq⟩:=Zj.1 hv;simp at hq;exact absurd (hq▸hb) jR)
theorem yD (hc:GE c)(h:Inv c k s){i cl:Int}(h0:me c s i cl=0)(hr:XI s.ep s.V L) :XI s.ep (Hh c s i cl).V L:=by
 obtain ⟨c1,c2,c3,_⟩:=CJ h0;obtain ⟨n,WG,hv⟩:=Ue c1;have e1:i.toNat=n:=Ze;show XI s.ep (s.V.set i.toNat { (Wy s (Vq s.V i)).2 with dl:=wO c s i cl}) L;generalize hy:Vq s.V i=v at*;obtain ⟨GR,mz⟩:=OC (e:=s.ep) (v:=v) c2;rw [e1,show (Wy s v).2=(Qh [Xo s.ep,Qj 2] v).2 from rfl,mz];have hx:=((h.vok v (Xi hv)).lo (.inr GR)).1;refine hr.set hv ?_ fun hb=>Xn _
 simp only [Vy];omega
def yM (c:Nat->Int)(s:Sg)(i:Int) :List QW:=if(Vq s.V i).st=5 then [((DZ (Vq s.V i) s.ep c).2.wd,i)] else []
theorem yI (hc:GE c)(h:Inv c k s){i:Int}(h0:IA c s i=0)(hr:XI s.ep s.V L) :XI s.ep (LA c s i).V (L++yM c s i):=by
 obtain ⟨c1,c2,c3⟩:=IB h0;obtain ⟨n,WG,hv⟩:=Ue c1;have e1:i.toNat=n:=Ze;have s11:=hc.g.sla0;have s10:=hc.g.unb0;show XI s.ep (s.V.set i.toNat (DZ (Vq s.V i) s.ep c).2) (L++yM c s i);unfold yM;generalize hy:Vq s.V i=v at*;obtain ⟨mH,GR,hex,Aw,hba⟩:=LD c2;have I7:=fun k=>((h.vok v (Xi hv)).lo k).1
 rw [e1,WG]
 by_cases h5:v.st=5
 ·rw [if_pos h5];refine hr.more hv (by unfold Vy; omega) ?_ (by rw [Aw]; omega) (Xn _);unfold Vy;omega
 ·rw [if_neg h5,List.append_nil];refine hr.set hv ?_ fun hb=>by rw [Aw]; omega
  unfold Vy;omega
end
end
section
open Go Go.RowKit
section
variable {c:Nat->Int} {k:Nat} {s:Sg} {e:Int} {V W:List ZN} {L:List QW}
def Pa (e:Int) :List ZN->List Int->List ZN
 | V,[]=>V
 | V,i::q=>Pa e (if(Vq V i).wd<=e then V.set i.toNat (M8 4 (Vq V i)) else V) q
def aE (e:Int)(V:List ZN)(q:List Int) :List QW:=(q.filter fun i=>decide (e < (Vq V i).wd)).map fun i=>((Vq V i).wd,i)
def Ls (e:Int)(V:List ZN)(L:List QW) :List QW:=UO e L++aE e V (KS e L)
theorem Dr {i:Int} :i ∈ KS e L ↔ (e,i) ∈ L:=by
 unfold KS;rw [Z6];constructor
 ·rintro ⟨p,hp,rfl⟩;obtain ⟨h1,h2⟩:=QR.1 hp;have:p.1=e:=by simpa using h2
  rw [<-this]; exact h1
 ·exact fun h=>⟨(e,i),QR.2 ⟨h,by simp⟩,rfl⟩
theorem cH {p:QW} :p ∈ UO e L ↔ p ∈ L/\p.1≠e:=by
 unfold UO;rw [QR];simp
theorem MF (h:(L.map (·.2)).Nodup) :(KS e L).Nodup:=h.sublist (by unfold KS; exact List.filter_sublist.map _)
theorem mY (h:(L.map (·.2)).Nodup){p q:QW}(hp:p ∈ L)(hq:q ∈ L)(he:p.2=q.2) :p=q:=by
 induction L with
 | nil=>simp at hp
 | cons x L ih=>
  rw [YY,Xw] at h
  rcases ZU.1 hp with e1 | k1
  ·rcases ZU.1 hq with e2 | k2
   ·rw [e1,e2]
   ·have hm:x.2 ∈ L.map (·.2):=Z6.2 ⟨q,k2,by rw [<-he,e1]⟩;exact absurd hm h.1
  ·rcases ZU.1 hq with e2 | k2
   ·have hm:x.2 ∈ L.map (·.2):=Z6.2 ⟨p,k1,by rw [he,e2]⟩;exact absurd hm h.1
   ·exact ih h.2 k1 k2
theorem iu: ∀(q:List Int) (V:List ZN),(∀i ∈ q,∃n:Nat,i=(n:Int)/\n < V.length)->q.Nodup->(Pa e V q).length=V.length/\
  ∀n:Nat,(Pa e V q)[n]?=if(n:Int) ∈ q/\(Vq V n).wd<=e then(V[n]?).map (M8 4) else V[n]?
 | [],V,_,_=>⟨rfl,fun n=>by simp [Pa]⟩
 | x::q,V,hq,hn=>by
  obtain ⟨m,rfl,hm⟩:=hq x ZE;rw [Xw] at hn;have hv:V[m]?=some V[m]:=Zg hm;have ha:=Ff hv;have e1:((m:Nat) :Int).toNat=m:=Ze;unfold Pa;rw [ha,e1]
  by_cases hw:V[m].wd<=e
  ·rw [if_pos hw];obtain ⟨i1,i2⟩:=iu q (V.set m (M8 4 V[m])) (fun i hi=>by obtain ⟨n,h1,h2⟩:=hq i Bh; exact ⟨n,h1,by simpa using h2⟩) hn.2;refine ⟨i1.trans ZE,fun n=>?_⟩;rw [i2 n]
   by_cases jS:n=m
   ·subst jS;rw [if_neg (fun h=>hn.1 h.1),if_pos ⟨by simp,by rw [ha]; exact hw⟩,YD hm,hv];rfl
   ·have jN:Vq (V.set m (M8 4 V[m])) (n:Int)=Vq V (n:Int):=by
     unfold Vq;rw [Zm,Zm,YT,Yo (fun h=>jS h.symm)]
    rw [jN,Yo (fun h=>jS h.symm)];have:((n:Int) ∈ ((m:Nat) :Int)::q) ↔ (n:Int) ∈ q:=by
     rw [ZU];constructor
     ·rintro (h | h)
      ·exact absurd Ze jS
      ·exact h
     ·exact .inr
    simp only [this]
  ·rw [if_neg hw];obtain ⟨i1,i2⟩:=iu q V (fun i hi=>hq i Bh) hn.2;refine ⟨i1,fun n=>?_⟩;rw [i2 n]
   by_cases jS:n=m
   ·subst jS;rw [if_neg (fun h=>hn.1 h.1),if_neg (fun h=>hw (by rw [<-ha]; exact h.2))]
   ·have:((n:Int) ∈ ((m:Nat) :Int)::q) ↔ (n:Int) ∈ q:=by
     rw [ZU];constructor
     ·rintro (h | h)
      ·exact absurd Ze jS
      ·exact h
     ·exact .inr
    simp only [this]
theorem cF {v:ZN}(h:Es e v)(he:0<=e) :Vy (Yt (e+1) v) ↔ Vy v:=by
 unfold Yt
 by_cases c1:v.st=3/\v.ex=e+1
 ·rw [if_pos c1];exact ⟨fun _=> .inr ⟨c1.1,by omega⟩,fun _=> .inl rfl⟩
 ·rw [if_neg c1]
theorem Dq (e:Int)(v:ZN) :(Yt e v).wd=v.wd:=by unfold Yt; split <;> rfl
theorem Tb {v:ZN}(h:Es e v)(hb:Vy v)(hw:v.wd<=e+1) :(Yt (e+1) v).st=4:=by
 have h3:=h.s3;unfold Vy at hb;unfold Yt
 by_cases c1:v.st=3/\v.ex=e+1
 ·have:=h3 c1.1; rw [if_pos c1]
 ·rw [if_neg c1]
  rcases hb with hb | hb
  ·exact hb
  ·rcases h3 hb.1 with h | h
   ·exact absurd h hb.2
   ·exact absurd ⟨hb.1,h.1⟩ c1
theorem ZdZ (h: ∀v ∈ V,Es e v)(he:0<=e)(hr:XI e V L) :Pa (e+1) (V.map (Yt (e+1))) (KS (e+1) L)=(V.map (Yt (e+1))).map (Qp (e+1)):=by
 have hq: ∀i ∈ KS (e+1) L,∃n:Nat,i=(n:Int)/\n < (V.map (Yt (e+1))).length:=fun i hi=>by
  obtain ⟨m,u,hm,hu,_⟩:=(hr.ub i).1 (Z6.2 ⟨_,Dr.1 hi,rfl⟩);exact ⟨m,hm,by rw [YG]; exact (Zj.1 hu).1⟩
 obtain ⟨r1,r2⟩:=iu (KS (e+1) L) (V.map (Yt (e+1))) hq (MF hr.nd);apply VS;intro n;have hV1:(V.map (Yt (e+1)))[n]?=(V[n]?).map (Yt (e+1)):=ZH ..;have hV2:((V.map (Yt (e+1))).map (Qp (e+1)))[n]?=((V[n]?).map (Yt (e+1))).map (Qp (e+1)):=by rw [ZH,ZH]
 rw [r2 n,hV2,hV1];clear r2 hV1 hV2
 cases hv:V[n]? with
 | none=>simp
 | some v=>
  have jN:Vq (V.map (Yt (e+1))) (n:Int)=Yt (e+1) v:=Ff (by rw [ZH,hv]; rfl);rw [jN,Dq];have SX:=h v (Xi hv);simp only [Option.map_some]
  by_cases hc:(n:Int) ∈ KS (e+1) L/\v.wd<=e+1
  ·rw [if_pos hc];obtain ⟨m,u,hm,hu,hb⟩:=(hr.ub (n:Int)).1 (Z6.2 ⟨_,Dr.1 hc.1,rfl⟩);obtain rfl:n=m:=Ze;rw [hv] at hu;obtain rfl:=ZL hu;have h4:=Tb SX hb hc.2;have hw:(Yt (e+1) v).wd<=e+1:=by rw [Dq]; exact hc.2
   generalize Yt (e+1) v=y at*;unfold Qp M8;rw [if_pos ⟨h4,hw⟩,h4];rfl
  ·rw [if_neg hc];have: ¬((Yt (e+1) v).st=4/\(Yt (e+1) v).wd<=e+1):=fun hy=>by
    rw [Dq] at hy;have hb:Vy v:=(cF SX he).1 (.inl hy.1);obtain ⟨p,hp,mG⟩:=Z6.1 ((hr.ub (n:Int)).2 ⟨n,v,rfl,hv,hb⟩);have k1:=hr.key p hp;have k2:=hr.wd p hp n v mG hv;refine hc ⟨Dr.2 ?_,hy.2⟩;have:p=(e+1,(n:Int)):=Prod.ext Ze mG;rw [<-this]; exact hp
   unfold Qp;rw [if_neg this]
theorem ka (h: ∀v ∈ V,Es e v)(he:0<=e)(hr:XI e V L) :XI (e+1) ((V.map (Yt (e+1))).map (Qp (e+1))) (Ls (e+1) (V.map (Yt (e+1))) L):=by
 have jN: ∀(n:Nat) (v:ZN),V[n]?=some v->(Vq (V.map (Yt (e+1))) (n:Int)).wd=v.wd:=fun n v hv=>by
  rw [Ff (v:=Yt (e+1) v) (by rw [ZH,hv]; rfl),Dq]
 have Vx: ∀(n:Nat) (v:ZN),V[n]?=some v->((V.map (Yt (e+1))).map (Qp (e+1)))[n]?=some (Qp (e+1) (Yt (e+1) v)):=fun n v hv=>by
  rw [ZH,ZH,hv]; rfl
 have hub: ∀v,Es e v->(Vy (Qp (e+1) (Yt (e+1) v)) ↔ Vy v/\e+1 < v.wd):=fun v SX=>by
  have h4:=Tb SX;have hl:=cF SX he;have Aw:=Dq (e+1) v;generalize hy:Yt (e+1) v=y at*;unfold Qp
  by_cases c1:y.st=4/\y.wd<=e+1
  ·rw [if_pos c1];constructor
   ·intro hb; unfold Vy at hb; simp only at hb; omega
   ·intro hb; omega
  ·rw [if_neg c1,hl];constructor
   ·intro hb;refine ⟨hb,?_⟩
    rcases Int.lt_or_le (e+1) v.wd with XV | hge
    ·exact XV
    ·exact absurd ⟨h4 hb hge,by rw [Aw]; exact hge⟩ c1
   ·exact fun hb=>hb.1
 have hwd2: ∀v,(Qp (e+1) (Yt (e+1) v)).wd=v.wd:=fun v=>by
  rw [<-Dq (e+1) v];unfold Qp; split <;> rfl
 have BQ: ∀p,p ∈ Ls (e+1) (V.map (Yt (e+1))) L ↔ (p ∈ L/\p.1≠e+1)\/((e+1,p.2) ∈ L/\e+1 < (Vq (V.map (Yt (e+1))) p.2).wd/\p.1=(Vq (V.map (Yt (e+1))) p.2).wd):=fun p=>by
  unfold Ls aE;rw [Ya,cH,Z6];constructor
  ·rintro (hp | ⟨i,hi,rfl⟩)
   ·exact .inl hp
   ·obtain ⟨h1,h2⟩:=QR.1 hi;exact .inr ⟨Dr.1 h1,by simpa using h2,rfl⟩
  ·rintro (hp | ⟨h1,h2,h3⟩)
   ·exact .inl hp
   ·exact .inr ⟨p.2,QR.2 ⟨Dr.2 h1,by simpa using h2⟩,Prod.ext h3.symm rfl⟩
 refine ⟨?_,fun i=>?_,fun p hp=>?_,fun p hp n y hn hy=>?_⟩
 ·unfold Ls aE;rw [Xv,KF,QA];refine ⟨hr.nd.sublist (List.filter_sublist.map _),?_,?_⟩
  ·rw [show ((fun x:QW=>x.2) ∘ fun i=>((Vq (V.map (Yt (e+1))) i).wd,i))=id from rfl,List.map_id];exact (MF hr.nd).sublist List.filter_sublist
  ·intro a ha b hb hab;subst hab;rw [show ((fun x:QW=>x.2) ∘ fun i=>((Vq (V.map (Yt (e+1))) i).wd,i))=id from rfl,List.map_id] at hb;obtain ⟨p,hp,rfl⟩:=Z6.1 ha;have h1:=cH.1 hp;have h2:=Dr.1 (QR.1 hb).1;exact h1.2 (congrArg (·.1) (mY hr.nd h1.1 h2 rfl))
 ·rw [Z6];constructor
  ·rintro ⟨p,hp,rfl⟩;have WG:p.2 ∈ L.map (·.2):=by
    rcases (BQ p).1 hp with h1 | h1
    ·exact Qt h1.1
    ·exact Z6.2 ⟨_,h1.1,rfl⟩
   obtain ⟨m,u,hm,hu,hb⟩:=(hr.ub p.2).1 WG;refine ⟨m,_,hm,Vx m u hu,(hub u (h u (Xi hu))).2 ⟨hb,?_⟩⟩
   rcases (BQ p).1 hp with h1 | h1
   ·have:=hr.key p h1.1;have:=hr.wd p h1.1 m u hm hu;omega
   ·have:=h1.2.1;rw [hm,jN m u hu] at this;exact this
  ·rintro ⟨m,y,rfl,hy,hb⟩
   cases hv:V[m]? with
   | none=>rw [ZH,ZH,hv] at hy; simp at hy
   | some v=>
    rw [Vx m v hv] at hy;obtain rfl:=ZL hy;obtain ⟨b1,b2⟩:=(hub v (h v (Xi hv))).1 hb;obtain ⟨p,hp,mG⟩:=Z6.1 ((hr.ub (m:Int)).2 ⟨m,v,rfl,hv,b1⟩)
    by_cases hpe:p.1=e+1
    ·refine ⟨(v.wd,(m:Int)),(BQ _).2 (.inr ⟨?_,?_,?_⟩),rfl⟩
     ·have:p=(e+1,(m:Int)):=Prod.ext hpe mG;rw [<-this]; exact hp
     ·rw [jN m v hv]; exact b2
     ·rw [jN m v hv]
    ·exact ⟨p,(BQ p).2 (.inl ⟨hp,hpe⟩),mG⟩
 ·rcases (BQ p).1 hp with h1 | h1
  ·have:=hr.key p h1.1;omega
  ·omega
 ·cases hv:V[n]? with
  | none=>rw [ZH,ZH,hv] at hy; simp at hy
  | some v=>
   rw [Vx n v hv] at hy;obtain rfl:=ZL hy;rw [hwd2]
   rcases (BQ p).1 hp with h1 | h1
   ·exact hr.wd p h1.1 n v hn hv
   ·have h3:=h1.2.2;rw [hn,jN n v hv] at h3;omega
def Ex (c:Nat->Int)(e:Int) :List ZN->List (Int × Int)->List QW
 | _,[]=> []
 | V,p::q=>((Qh [XA e,QO e (c 10)] (Vq V p.1)).2.wd,p.1)::Ex c e (V.set p.1.toNat (Qh [XA e,QO e (c 10)] (Vq V p.1)).2) q
theorem dd (he:0<=e)(hl:Nc (e+1) (c 10))(hc:0 < c 10) : ∀(q:List (Int × Int)) (V:List ZN) (L:List QW),(∀v ∈ V,Es e v)->(q.map (·.1)).Nodup->(∀p ∈ q,Vn V V5 p.1)->XI e V L->
  XI e (Bu c (e+1) V q) (L++Ex c (e+1) V q)
 | [],V,L,_,_,_,hr=>by simpa [Bu,Ex] using hr
 | p::q,V,L,h,hn,hq,hr=>by
  obtain ⟨n,v,OX,hv,jT⟩:=hq p ZE;have ha:Vq V p.1=v:=by rw [OX]; exact Ff hv
  rw [YY,Xw] at hn;obtain ⟨k0,k1,k2⟩:=Cr (h v (Xi hv)) jT hl hc;have e1:p.1.toNat=n:=Ze;unfold Bu Ex;rw [ha,e1];have hm:=hr.more (t:=(Qh [XA (e+1),QO (e+1) (c 10)] v).2.wd) hv (v':=(Qh [XA (e+1),QO (e+1) (c 10)] v).2) (fun hb=>by have:=jT.1; have:=jT.2; unfold Vy at hb; omega) (by
   rw [k2]; have:=jT.1; unfold Vy; simp only; omega) (by rw [k2]; simp only; omega) (Xn _)
  have ih:=dd he hl hc q (V.set n (Qh [XA (e+1),QO (e+1) (c 10)] v).2) (L++[((Qh [XA (e+1),QO (e+1) (c 10)] v).2.wd,(n:Int))]) (J9 h k1) hn.2 (fun p' S7=>(hq p' (by simp [S7])).set_ne (fun he=>hn.1 (by
   rw [OX,<-he];exact Qt S7))) hm
  rw [Qb,List.singleton_append] at ih;rw [OX];exact ih
theorem kb: ∀(q:List Int) (V:List ZN),q.Nodup->(∀i ∈ q,Vn V KT i)->XI e V L->XI e (OP 1 V q) L
 | [],V,_,_,hr=>hr
 | x::q,V,hn,hq,hr=>by
  obtain ⟨n,v,OX,hv,oP⟩:=hq x ZE;have ha:Vq V x=v:=by rw [OX]; exact Ff hv
  rw [Xw] at hn;have e1:x.toNat=n:=Ze;unfold OP;rw [ha,e1];refine kb q (V.set n (M8 1 v)) hn.2 (fun i hi=>(hq i Bh).set_ne (fun he=>hn.1 IY)) (hr.set hv ?_ fun _=>Xn _);unfold M8;rw [show v.st=1 from oP];have:v.st=1:=oP;unfold Vy;show (Jk 1 1=4\/(Jk 1 1=3/\v.ex≠ -1)) ↔ _;rw [show Jk 1 1=2 from rfl];omega
theorem yE (mb:Int)(q:List (Int × Int))(hr:XI e V L) :XI e (JW mb V q) L:=by
 refine EN mb (I:=fun W=>XI e W L) ?_ q V hr;intro l i j s d hl Ka hi hj hc;obtain ⟨CT,qX,_,_,_,_⟩:=OK hc;have Ou:(l.set i (DV s))[j]?=some d:=dR
 exact (hl.set (v':=DV s) hi (by unfold Vy; simp only [DV]; omega) fun _=>Xn _).set (v':=NQ s d) Ou Iff.rfl fun _=>Xn _
theorem yH {mb:Int}(hm:0<=mb)(q:List Rq)(hq: ∀r ∈ q,V8 r)(hf: ∀v ∈ V,Yh v)(hr:XI e V L) :XI e (XC mb V q) L:=by
 obtain ⟨h1,_⟩:=EO mb hm q V hq hf;have hlen:=BU mb q V;have back: ∀(n:Nat) (v':ZN),(XC mb V q)[n]?=some v'-> ∃(v:ZN) (x:Int),V[n]?=some v/\v'= { v with bal:=v.bal - x}:=fun n v' xD=>by
  exact ZhT
 refine hr.keep (fun i=>⟨fun ⟨m,u,hm,hu,hb⟩=>?_,fun ⟨m,u,hm,hu,hb⟩=>?_⟩) fun n v hv hb=>?_
 ·obtain ⟨v,x,hv,rfl⟩:=back m u hu;exact ⟨m,v,hm,hv,hb⟩
 ·obtain ⟨u',hu',hp,_⟩:=h1 m u hu;exact ⟨m,u',hm,hu',by rw [hp]; exact hb⟩
 ·obtain ⟨u,x,hu,rfl⟩:=back n v hv;exact ⟨u,hu,Xn _⟩
theorem kf: ∀(q:List Nat) (V:List ZN),q.Nodup->(∀i ∈ q,Vn V (Lg e) (i:Nat))->XI e V L->XI e (QT e V q) L
 | [],V,_,_,hr=>hr
 | x::q,V,hn,hq,hr=>by
  obtain ⟨n,v,OX,hv,hp⟩:=hq x ZE;obtain rfl:x=n:=Ze;rw [Xw] at hn;have ha:V.getD x ZS=v:=K8 hv;obtain ⟨f1,f2⟩:=NA hp.1 hp.2;unfold QT;rw [ha,f1];refine kf q (V.set x { v with bal:=0,st:=6}) hn.2 (fun i hi=>(hq i Bh).set_ne (fun he=>hn.1 (by
   obtain rfl:i=x:=Ze;exact hi))) (hr.set hv ?_ fun _=>Xn _)
  have:=hp.1;unfold Vy;simp only;omega
end
end
section
open Go Go.RowKit
section
variable {c:Nat->Int} {k:Nat} {s:Sg} {L:List QW}
def uU (c:Nat->Int)(s:Sg)(L:List QW) :List QW:=Ls s.ep (s.V.map (Yt s.ep)) L++Ex c (s.ep+1) (Bf s) (LW c s).1
def nxL (c:Nat->Int)(s:Sg)(L:List QW) :List QW:=if(s.bk+1)%c 13=0 then uU c (XF s) L else L
def Dx (c:Nat->Int)(s:Sg)(L:List QW)(o:Oq) :List QW:=
 if o.kd=7 then nxL c s L else if o.kd=4/\IA c s o.ix=0 then L++yM c s o.ix else L
structure ZjA (c:Nat->Int)(s:Sg) :Prop where
 v1: ∀v ∈ Bf (XF s),Es (s.ep+1) v
 v2: ∀v ∈ Wr c (XF s),Es (s.ep+1) v
 v3: ∀v ∈ lG c (XF s),Es (s.ep+1) v
 nd:((LW c (XF s)).1.map (·.1)).Nodup
 qd: ∀p ∈ (LW c (XF s)).1,Vn (Bf (XF s)) V5 p.1
 pn:(s.pd.take (PC c (XF s))).Nodup
 pd: ∀i ∈ s.pd,Vn (Wr c (XF s)) KT i
 lo:Nc (s.ep+1+1) (c 10)
 l1:(Bf (XF s)).length=s.V.length
 l2:(Wr c (XF s)).length=s.V.length
 l3:(lG c (XF s)).length=s.V.length
 b1:QN (Bf (XF s))=QN s.V
 b2:QN (Wr c (XF s))=QN s.V
 b3:QN (lG c (XF s))=QN s.V
theorem px {V:List ZN}{f:ZN->ZN}(h: ∀v ∈ V,(f v).bal=v.bal) :QN (V.map f)=QN V:=by
 unfold QN;rw [KF];exact List.map_congr_left fun v hv=>h v hv
theorem py (hc:GE c)(h:Inv c k s)(hk:k<=1000000) :ZjA c s:=by
 obtain ⟨g1,g2,g3⟩:=RJ h.vok h.ep0;have bk1:=h.bk1;have ep1:=h.ep1;have ep0:=h.ep0;have u0:=hc.g.unb0;have u1:=hc.g.unb1;have hl:Nc (s.ep+1+1) (c 10):=by unfold Nc RO; omega
 have CS:((LW c (XF s)).1.map (·.1)++((LW c (XF s)).2.1++(LW c (XF s)).2.2.1)).Perm (s.F++s.W):=Sh _ _ _ _;have rf:=CS.nodup_iff.2 h.lnn;rw [QA] at rf;obtain ⟨n1,n2,n3⟩:=rf;have BQ: ∀p ∈ (LW c (XF s)).1,Vn (Bf (XF s)) V5 p.1:=fun p hp=>
  g1.qd p.1 (h.lnx p.1 (CS.mem_iff.1 (Ya.2 (.inl (Qt hp)))))
 obtain ⟨r1,r2,r3,r4,r5⟩:=Nl hl Ze (LW c (XF s)).1 (Bf (XF s)) g1.vok n1 BQ;have I8:(s.pd.take (PC c (XF s))).Nodup:=h.pdn.sublist (VT _ _);have bQ: ∀i ∈ s.pd,Vn (Wr c (XF s)) KT i:=fun i hi=>r4 i (g1.pd i (h.pdx i hi))
 obtain ⟨t1,t2,t3,t4,t5⟩:=RL (s.pd.take (PC c (XF s))) (Wr c (XF s)) r2 I8 (fun i hi=>bQ i (ZQ hi));have hb:QN (Bf (XF s))=QN s.V:=by
  show QN ((s.V.map (Yt (s.ep+1))).map (Qp (s.ep+1)))=_;rw [eG];exact px fun v hv=>(L5 (h.vok v hv) h.ep0).2.2
 exact ⟨g1.vok,r2,t2,n1,BQ,I8,bQ,hl,g1.len,r1.trans g1.len,t1.trans (r1.trans g1.len),hb,r3.trans hb,t3.trans (r3.trans hb)⟩
theorem sA (hc:GE c)(h:Inv c k s)(hk:k<=1000000)(hr:XI s.ep s.V L) :XI (s.ep+1) (zR c (XF s)).V (uU c (XF s) L):=by
 have b:=py hc h hk;have u0:=hc.g.unb0;have ep0:=h.ep0;have r1:=ka h.vok h.ep0 hr;have r2:=dd Ze b.lo Ze (LW c (XF s)).1 (Bf (XF s)) _ b.v1 b.nd b.qd r1;have r3:=kb (s.pd.take (PC c (XF s))) (Wr c (XF s)) b.pn (fun i hi=>b.pd i (ZQ hi)) r2;exact yE (c 6) (s.mg.take (GS c s.mg)) r3
theorem yF (hc:GE c)(h:Inv c k s)(hk:k<=1000000)(hr:XI s.ep s.V L) :XI (PT c s).ep (PT c s).V (nxL c s L):=by
 unfold PT nxL
 split
 ·exact sA hc h hk hr
 ·exact hr
theorem yJ (hc:GE c)(h:Inv c k s)(hr:XI s.ep s.V L) :XI (II c s).ep (II c s).V L:=by
 obtain ⟨g,hn,hp⟩:=Mg hc h;have hm:0<=c 5:=by have:=hc.m5; omega
 exact kf (af c s) (LI c s) hn hp (yH hm (s.pt.take (FZ c s)) (fun r hr=>h.ptf r (ZQ hr)) h.fits hr)
theorem yG (hc:GE c)(h:Inv c k s)(hk:k<=1000000)(hr:XI s.ep s.V L)(o:Oq) :XI (MN c s o).2.ep (MN c s o).2.V (Dx c s L o):=by
 by_cases h7:o.kd=7
 ·have e:MN c s o=yZ c s:=by
   unfold MN;rw [if_neg Ze,if_neg Ze,if_neg Ze,if_neg Ze,if_neg Ze,if_neg Ze,if_pos h7]
  rw [e];unfold Dx;rw [if_pos h7];exact yJ hc (Tg hc h hk) (yF hc h hk hr)
 ·unfold Dx;rw [if_neg h7]
  by_cases h4:o.kd=4
  ·have e:MN c s o=AS c s o:=by
    unfold MN;rw [if_neg Ze,if_neg Ze,if_neg Ze,if_pos h4]
   rw [e];unfold AS
   by_cases h0:IA c s o.ix=0
   ·rw [if_pos h0,if_pos ⟨h4,h0⟩]; exact yI hc h h0 hr
   ·rw [if_neg h0,if_neg (fun h=>h0 h.2)]; exact hr
  ·rw [if_neg (fun h=>h4 h.1)];unfold MN
   by_cases h1:o.kd=1
   ·rw [if_pos h1]; unfold Ha; split
    ·exact sB hr _
    ·exact hr
   rw [if_neg h1]
   by_cases h2:o.kd=2
   ·rw [if_pos h2]; exact Zbs
   rw [if_neg h2]
   by_cases h3:o.kd=3
   ·rw [if_pos h3]; exact Zbs
   rw [if_neg h3,if_neg h4]
   by_cases h5:o.kd=5
   ·rw [if_pos h5]; unfold eO; split <;> exact hr
   rw [if_neg h5]
   by_cases h6:o.kd=6
   ·rw [if_pos h6]; unfold gJ; split <;> exact hr
   rw [if_neg h6,if_neg h7];exact hr
end
end
section
open Go Go.RowKit
section
variable {c:Nat->Int} {k:Nat} {s:Sg} {e:Int} {v:ZN} {V:List ZN}
theorem aq (he:RO e) :(Qh [Xo e,Qj 2] v).1=if v.st=2 then 0 else 8:=by
 by_cases h2:Jk v.st 2=0
 ·rw [js he h2,if_neg (fun h=>by rw [h] at h2; exact absurd h2 YW)]
 ·rw [o6 he h2,if_pos (da h2).1]
theorem iE (hv:Es e v)(hl:Nc e (c 11))(h2:v.st=2) :(DZ v e c).1=0:=by
 have h1:v.sl=false:=(hv.lo (.inr h2)).2;unfold DZ;rw [show Kq v e (c 11)=Kq { v with bal:=v.bal - BE v c} e (c 11) from rfl];have h3: ¬Jk v.st 7=0:=by rw [h2]; decide
 rw [kt (v:= { v with bal:=v.bal - BE v c}) h1 h3 hl]
theorem Inv.ep_in (h:Inv c k s)(hk:k<=1000000) :RO s.ep:=by
 have:=h.ep0;have:=h.ep1;have:=h.bk1;unfold RO; omega
theorem Inv.slk (hc:GE c)(h:Inv c k s)(hk:k<=1000000) :Nc s.ep (c 11):=by
 have:=h.ep0;have:=h.ep1;have:=h.bk1;have:=hc.gc;refine ⟨h.ep_in hk,?_⟩;have:=hc.gc.sd1;omega
theorem Zf8 (h:Inv c k s)(hk:k<=1000000)(i cl:Int) :me c s i cl=if EI s.V i=true then 7 else if(Vq s.V i).st≠2 then 8 else if c 1<=(VW s.F s.W cl).length then 6 else if SD c s cl (Vq s.V i)=none then 10 else 0:=by
 unfold me Wy;rw [aq (h.ep_in hk)]
 by_cases h2:(Vq s.V i).st=2
 ·simp only [h2,if_true,ne_eq,not_true,if_false]
 ·simp only [if_neg h2,ne_eq,h2,not_false_iff,if_true];rfl
theorem Zhb (hc:GE c)(h:Inv c k s)(hk:k<=1000000)(i:Int) :IA c s i=if EI s.V i=true then 7 else if(Vq s.V i).st=2/\c 1<=s.F.length then 6 else(DZ (Vq s.V i) s.ep c).1:=by
 unfold IA
 by_cases ho:EI s.V i=true
 ·rw [if_pos ho,if_pos ho]
 ·rw [if_neg ho,if_neg ho];obtain ⟨n,_,hn⟩:=Ue (V:=s.V) (i:=i) (by simpa using ho)
  by_cases h2:(Vq s.V i).st=2
  ·have h0:=iE (c:=c) (h.vok _ (Xi hn)) (h.slk hc hk) h2;rw [if_neg (fun hh=>hh h0),h0]
  ·have hq: ¬((Vq s.V i).st=2/\c 1<=s.F.length):=fun hh=>h2 hh.1
   rw [if_neg hq,if_neg hq]
   by_cases h0:(DZ (Vq s.V i) s.ep c).1=0
   ·rw [if_neg (fun hh=>hh h0),h0]
   ·rw [if_pos h0]
def LM (V:List ZN)(st:Int)(n:Nat) :List Nat:=(YS n).filter fun i=>decide ((V.getD i ZS).st=st)
theorem T9 (V:List ZN)(st:Int)(n:Nat) :LM V st (n+1)=if(V.getD n ZS).st=st then LM V st n++[n] else LM V st n:=by
 unfold LM;rw [KC,QJ]
 by_cases h:(V.getD n ZS).st=st
 ·rw [if_pos h,JH,if_pos (decide_eq_true h)]; rfl
 ·rw [if_neg h,JH,if_neg (by rw [decide_eq_false h]; simp)]; simp
theorem Cb (V:List ZN)(st:Int)(n:Nat) :(LM V st n).Nodup:=List.nodup_range.sublist List.filter_sublist
theorem NP {V:List ZN}{st:Int}{n i:Nat} :i ∈ LM V st n ↔ i < n/\(V.getD i ZS).st=st:=by simp [LM]
theorem Ca (V:List ZN)(st:Int) : ∀n,n<=V.length->((LM V st n).length:Int)=Y8 (V.take n) st
 | 0,_=>by simp [LM,Y8]
 | n+1,h=>by
  have ih:=Ca V st n Ze;have hv:V[n]?=some (V.getD n ZS):=by rw [Zm,Zg Ze]; rfl
  rw [T9,ES hv,BP,<-ih]
  by_cases h2:(V.getD n ZS).st=st
  ·rw [if_pos h2]; simp only [ZF,Xf,Y8,if_pos h2]; omega
  ·rw [if_neg h2]; simp only [Y8,if_neg h2]; omega
theorem zl (V:List ZN)(st:Int) :((LM V st V.length).length:Int)=Y8 V st:=by rw [Ca V st _ (Zh _),Vc]
theorem Zec (V:List ZN)(st:Int){n m:Nat}(h:n<=m) :(LM V st n).length<=(LM V st m).length:=by
 induction m with
 | zero=>rw [Nat.le_zero.1 h]; exact Zh _
 | succ m ih=>
  rcases YF m n with h1 | h1
  ·rw [show n=m+1 by omega]; exact Zh _
  ·refine ZY (ih h1) ?_;rw [T9]
   split <;> simp
theorem tz {V:List ZN}{st:Int}{n:Nat}(hn:n<=V.length)(h:(LM V st n).length=(LM V st V.length).length) :LM V st n=LM V st V.length:=by
 have hp:LM V st n <+:LM V st V.length:=by
  unfold LM;obtain ⟨d,hd⟩ : ∃d,V.length=n+d:=⟨V.length - n,by omega⟩;rw [hd,List.range_add,QJ];exact List.prefix_append _ _
 exact hp.eq_of_length h
def Hg (f:ZN->ZN) :List ZN->List Nat->List ZN
 | V,[]=>V
 | V,i::q=>Hg f (V.set i (f (V.getD i ZS))) q
theorem Cz (f:ZN->ZN) : ∀(q:List Nat) (V:List ZN),(Hg f V q).length=V.length
 | [],V=>rfl
 | i::q,V=>by rw [Hg,Cz f q,Xj]
theorem getD_set_ne {V:List ZN}{i j:Nat}{x:ZN}(h:i≠j) :(V.set i x).getD j ZS=V.getD j ZS:=by
 rw [Zm,Yo h,<-Zm]
theorem PJ {V:List ZN}{i:Nat}{x:ZN}(h:i < V.length) :(V.set i x).getD i ZS=x:=by
 rw [Zm,YD h]; rfl
theorem eM (f:ZN->ZN) : ∀(q:List Nat) (V:List ZN),q.Nodup->(∀i ∈ q,i < V.length)-> ∀j,(Hg f V q).getD j ZS=if j ∈ q then f (V.getD j ZS) else V.getD j ZS
 | [],V,_,_,j=>by simp [Hg]
 | i::q,V,hn,hq,j=>by
  obtain ⟨h1,h2⟩:=Xw.1 hn;have hi:=hq i ZE;rw [Hg,eM f q _ h2 (fun k hk=>by rw [Xj]; exact hq k (by simp [hk])) j]
  by_cases hj:j=i
  ·subst hj;rw [if_neg h1,PJ hi,if_pos ZE]
  ·rw [getD_set_ne (fun e=>hj e.symm)]
   by_cases h3:j ∈ q
   ·rw [if_pos h3,if_pos (by simp [h3])]
   ·rw [if_neg h3,if_neg (by simp [hj,h3])]
theorem bz {V W:List ZN}(hl:V.length=W.length)(h: ∀j,j < V.length->V.getD j ZS=W.getD j ZS) :V=W:=by
 apply List.ext_getElem hl;intro j h1 h2;have:=h j h1;rwa [Zm,Zm,Zg h1,Zg h2] at this
theorem qy {f:ZN->ZN}{V:List ZN}{j:Nat}(h:j < V.length) :(V.map f).getD j ZS=f (V.getD j ZS):=by
 rw [Zm,Zm,ZH,Zg h]; rfl
theorem wq (f:ZN->ZN)(V:List ZN)(st:Int)(hf: ∀v,v.st≠st->f v=v) :Hg f V (LM V st V.length)=V.map f:=by
 refine bz (by rw [Cz,YG]) fun j hj=>?_
 rw [Cz] at hj;rw [eM f _ _ (Cb _ _ _) (fun i hi=>(NP.1 hi).1),qy hj]
 split
 ·rfl
 ·rename_i h
  exact (hf _ fun GR=>h (NP.2 ⟨hj,GR⟩)).symm
end
end
section
open Go Go.RowKit
structure dX (c:Nat->Int)(e:Int)(v:ZN) :Prop where
 r7:v.ex= -1\/(3<=v.st/\v.st<=6)/\v.rq < v.ex/\c 10<=v.wd - v.ex
 r8:v.st=6\/v.st=7->v.bal=0
 r12:v.sl=true->(3<=v.st/\v.st<=6)/\v.dl= -1
 rq:v.st=3->v.ex= -1->v.rq<=e
 w0: -1<=v.wd
structure Ew (c:Nat->Int)(s:Sg) :Prop where
 ok: ∀v ∈ s.V,dX c s.ep v
 pd: ∀i,Vn s.V KT i->i ∈ s.pd
 qd: ∀i,Vn s.V V5 i->i ∈ s.F++s.W
theorem Zdm (c:Nat->Int) :Ew c ae:=⟨fun v hv=>by simp [ae] at hv,fun i ⟨n,v,_,h,_⟩=>by simp [ae] at h,fun i ⟨n,v,_,h,_⟩=>by simp [ae] at h⟩
section
variable {c:Nat->Int} {k:Nat} {s:Sg}
theorem SM {V:List ZN}{v:ZN}{p:ZN->Prop}{i:Int}(h:Vn (V++[v]) p i) :Vn V p i\/i=(V.length:Int)/\p v:=by
 obtain ⟨n,u,hi,hu,hp⟩:=h
 rcases YF n V.length with hl | hl
 ·rw [YB hl] at hu;exact .inl ⟨n,u,hi,hu,hp⟩
 ·have hn:n=V.length:=by
   have:=(Zj.1 hu).1;simp at this; omega
  subst hn;simp at hu;subst hu;exact .inr ⟨hi,hp⟩
theorem DT {V:List ZN}{n:Nat}{v':ZN}{p:ZN->Prop}{i:Int}(h:Vn (V.set n v') p i) :(i≠(n:Int)/\Vn V p i)\/(i=(n:Int)/\p v'):=by
 obtain ⟨m,u,hi,hu,hp⟩:=h
 by_cases bM:n=m
 ·subst bM;have hl:n < V.length:=by have:=(Zj.1 hu).1; exact Bt
  rw [YD hl] at hu;obtain rfl:=ZL hu;exact .inr ⟨hi,hp⟩
 ·rw [Yo bM] at hu;exact .inl ⟨by omega,m,u,hi,hu,hp⟩
theorem pX (h:Ew c s)(x:Int) :Ew c (Hc s x):=by
 refine ⟨fun v hv=>?_,fun i hi=>?_,fun i hi=>?_⟩
 ·simp only [Hc,Ya,Yk] at hv
  rcases hv with hv | rfl
  ·exact h.ok v hv
  ·exact ⟨.inl rfl,fun h=>by simp [Fu] at h,fun h=>by simp [Fu] at h,fun h=>by simp [Fu] at h,by show (-1:Int)<= -1; omega⟩
 ·simp only [Hc,Ya,Yk]
  rcases SM hi with h1 | ⟨h1,_⟩
  ·exact .inl (h.pd i h1)
  ·exact .inr h1
 ·rcases SM hi with h1 | ⟨_,h2⟩
  ·exact h.qd i h1
  ·have:=h2.1; simp [Fu] at this
theorem jE (hc:GE c)(hI:Inv c k s)(h:Ew c s){i cl:Int}(Ec:cl=0\/cl=1)(h0:me c s i cl=0) :Ew c (Hh c s i cl):=by
 obtain ⟨c1,c2,c3,_⟩:=CJ h0;obtain ⟨n,WG,hv⟩:=Ue c1;have q0:=hc.q0;generalize hy:Vq s.V i=v at*;obtain ⟨GR,mz⟩:=OC (e:=s.ep) (v:=v) c2;have e1:i.toNat=n:=Ze;have I7:=(hI.vok v (Xi hv)).lo (.inr GR);have hV:(Hh c s i cl).V=s.V.set n { v with rq:=s.ep,st:=3,dl:=wO c s i cl}:=by
  simp only [Hh,e1,hy,Wy,mz]
 have hE:((Hh c s i cl).F=s.F++[i]/\(Hh c s i cl).W=s.W)\/((Hh c s i cl).F=s.F/\(Hh c s i cl).W=s.W++[i]):=by
  rcases Ec with rfl | rfl
  ·have:s.F.length < (c 1).toNat:=by simp only [VW,if_true] at c3; omega
   exact .inl ⟨by simp [Hh,FR,this],by simp [Hh,FT]⟩
  ·have:s.W.length < (c 1).toNat:=by simp [VW] at c3; omega
   exact .inr ⟨by simp [Hh,FR],by simp [Hh,FT,this]⟩
 have hFW: ∀j,j=i\/j ∈ s.F++s.W->j ∈ (Hh c s i cl).F++(Hh c s i cl).W:=fun j hj=>by
  rcases hE with ⟨e2,e3⟩ | ⟨e2,e3⟩
  ·rw [e2,e3];simp only [Ya,Yk] at hj ⊢
   rcases hj with h | h | h
   ·exact .inl (.inr h)
   ·exact .inl (.inl h)
   ·exact .inr h
  ·rw [e2,e3];simp only [Ya,Yk] at hj ⊢
   rcases hj with h | h | h
   ·exact .inr (.inr h)
   ·exact .inl h
   ·exact .inr (.inl h)
 refine ⟨?_,fun j hj=>?_,fun j hj=>?_⟩
 ·rw [hV];refine J9 h.ok ⟨.inl I7.1,fun h=>by simp at h,fun h=>?_,fun _ _=>Xn _,(h.ok v (Xi hv)).w0⟩;rw [I7.2] at h; cases h
 ·rw [hV] at hj
  rcases DT hj with ⟨_,h1⟩ | ⟨_,h2⟩
  ·exact h.pd j h1
  ·simp [KT] at h2
 ·rw [hV] at hj
  rcases DT hj with ⟨_,h1⟩ | ⟨h1,_⟩
  ·exact hFW j (.inr (h.qd j h1))
  ·exact hFW j (.inl (h1.trans WG.symm))
theorem sW {e:Int}{v:ZN}(h:(DZ v e c).1=0) :(v.st=2->(DZ v e c).2.rq=e)/\(v.st≠2->(DZ v e c).2.rq=v.rq)/\(DZ v e c).2.dl= -1/\(DZ v e c).2.sl=true:=by
 unfold DZ at h ⊢;rw [show Kq v e (c 11)=Kq { v with bal:=v.bal - BE v c} e (c 11) from rfl] at h ⊢
 by_cases h1:v.sl=true
 ·exact kT
 ·have h1:v.sl=false:=QQ
  by_cases h2:Jk v.st 7=0
  ·exact kS
  ·by_cases h3:Nc e (c 11)
   ·rw [kt (v:= { v with bal:=v.bal - BE v c}) h1 h2 h3]
    by_cases h4:v.st=2 <;> simp [iD,h4]
   ·exact kQ
theorem yO (hc:GE c)(hI:Inv c k s)(h:Ew c s){i:Int}(h0:IA c s i=0) :Ew c (LA c s i):=by
 obtain ⟨c1,c2,c3⟩:=IB h0;obtain ⟨n,WG,hv⟩:=Ue c1;generalize hy:Vq s.V i=v at*;obtain ⟨mH,GR,hex,Aw,hba⟩:=LD c2;obtain ⟨k1,k2,k3,k4⟩:=sW c2;have e1:i.toNat=n:=Ze;have hV:(LA c s i).V=s.V.set n (DZ v s.ep c).2:=by simp only [LA,e1,hy]
 have hF:(LA c s i).F=if v.st=2 then s.F++[i] else s.F:=by simp only [LA,hy]
 have hW:(LA c s i).W=s.W:=rfl;have hA:=h.ok v (Xi hv);have hst':3<=(DZ v s.ep c).2.st/\(DZ v s.ep c).2.st<=4:=Ze;have mI: ∀j,j ∈ s.F++s.W->j ∈ (LA c s i).F++(LA c s i).W:=fun j hj=>by
  rw [hF,hW]
  split
  ·simp only [Ya,Yk] at hj ⊢
   rcases hj with h | h
   ·exact .inl (.inl h)
   ·exact .inr h
  ·exact hj
 refine ⟨?_,fun j hj=>?_,fun j hj=>?_⟩
 ·rw [hV];refine J9 h.ok ⟨?_,fun h=>by omega,fun _=>⟨by omega,k3⟩,fun h5 h6=>?_,by rw [Aw]; have:=hA.w0; have:v.wd<=max v.wd (s.ep+c 11):=Int.le_max_left _ _; omega⟩
  ·rw [hex,Aw]
   rcases hA.r7 with h7 | ⟨h7,h8,h9⟩
   ·exact .inl h7
   ·right;have h2:v.st≠2:=Ze;refine ⟨by omega,by rw [k2 h2]; exact h8,?_⟩;have:v.wd<=max v.wd (s.ep+c 11):=Int.le_max_left _ _;omega
  ·by_cases h2:v.st=2
   ·rw [k1 h2]; exact Xn _
   ·rw [k2 h2];exact hA.rq Ze (by rw [<-hex]; exact h6)
 ·rw [hV] at hj
  rcases DT hj with ⟨_,h1⟩ | ⟨_,h2⟩
  ·exact h.pd j h1
  ·have:(DZ v s.ep c).2.st=1:=h2;omega
 ·rw [hV] at hj
  rcases DT hj with ⟨_,h1⟩ | ⟨h1,h2⟩
  ·exact mI j (h.qd j h1)
  ·by_cases h3:v.st=2
   ·rw [hF,if_pos h3];simp only [Ya,Yk];exact .inl (.inr (h1.trans WG.symm))
   ·refine mI j (h.qd j ⟨n,v,h1,hv,?_,?_⟩)
    ·have:=h2.1; omega
    ·rw [<-hex]; exact h2.2
structure Mq (c:Nat->Int)(e:Int)(V W:List ZN) :Prop where
 ok: ∀v ∈ W,dX c e v
 pd: ∀i,Vn W KT i->Vn V KT i
 qd: ∀i,Vn W V5 i->Vn V V5 i
theorem Mq.refl {e:Int}{V:List ZN}(h: ∀v ∈ V,dX c e v) :Mq c e V V:=⟨h,fun _ h=>h,fun _ h=>h⟩
theorem Mq.trans {e:Int}{U V W:List ZN}(h:Mq c e U V)(k:Mq c e V W) :Mq c e U W:=⟨k.ok,fun i hi=>h.pd i (k.pd i hi),fun i hi=>h.qd i (k.qd i hi)⟩
theorem Mq.set {e:Int}{V:List ZN}{n:Nat}{v v':ZN}(h: ∀v ∈ V,dX c e v)(hv:V[n]?=some v)(ha:dX c e v')(hp:KT v'->KT v)(hq:V5 v'->V5 v) :Mq c e V (V.set n v'):=
 ⟨J9 h ha,fun i hi=>by
  rcases DT hi with ⟨_,h1⟩ | ⟨h1,h2⟩
  ·exact h1
  ·exact ⟨n,v,h1,hv,hp h2⟩,fun i hi=>by
  rcases DT hi with ⟨_,h1⟩ | ⟨h1,h2⟩
  ·exact h1
  ·exact ⟨n,v,h1,hv,hq h2⟩⟩
theorem dX.up {e e':Int}{v:ZN}(h:dX c e v)(he:e<=e') :dX c e' v:=⟨h.r7,h.r8,h.r12,fun a b=>by have:=h.rq a b; omega,h.w0⟩
theorem O4 {e:Int}{v:ZN}(hk:Es e v)(he:0<=e)(h:dX c e v) :dX c (e+1) (Qp (e+1) (Yt (e+1) v))/\(KT (Qp (e+1) (Yt (e+1) v))->KT v)/\(V5 (Qp (e+1) (Yt (e+1) v))->V5 v):=by
 obtain ⟨h7,h8,L1,hr,hw0⟩:=h.up (show e<=e+1 by omega);unfold Yt
 by_cases c1:v.st=3/\v.ex=e+1
 ·rw [if_pos c1];unfold Qp;have hw:e+1 < v.wd:=by
   rcases hk.s3 c1.1 with h | h
   ·omega
   ·exact h.2
  rw [if_neg FK];exact ZhQ
 ·rw [if_neg c1];unfold Qp
  by_cases c2:v.st=4/\v.wd<=e+1
  ·rw [if_pos c2];exact ZhQ
  ·rw [if_neg c2];exact ⟨⟨h7,h8,L1,hr,hw0⟩,fun h=>h,fun h=>h⟩
theorem ZfX {e:Int}{V:List ZN}(hk: ∀v ∈ V,Es e v)(he:0<=e)(h: ∀v ∈ V,dX c e v) :Mq c (e+1) V ((V.map (Yt (e+1))).map (Qp (e+1))):=by
 rw [eG];have back: ∀(p:ZN->Prop),(∀v ∈ V,p (Qp (e+1) (Yt (e+1) v))->p v)-> ∀i,Vn (V.map fun v=>Qp (e+1) (Yt (e+1) v)) p i->Vn V p i:=fun p hp i ⟨n,u,hi,hu,hpu⟩=>by
  rw [ZH] at hu
  cases hv:V[n]? with
  | none=>rw [hv] at hu; cases hu
  | some v=>
   rw [hv] at hu;obtain rfl:=ZL hu;exact ⟨n,v,hi,hv,hp v (Xi hv) hpu⟩
 refine ⟨fun v hv=>?_,back KT fun v hv=>(O4 (hk v hv) he (h v hv)).2.1,back V5 fun v hv=>(O4 (hk v hv) he (h v hv)).2.2⟩;obtain ⟨u,hu,rfl⟩:=Z6.1 hv;exact (O4 (hk u hu) he (h u hu)).1
theorem po {e:Int}(he:0<=e)(hl:Nc (e+1) (c 10))(hc:0 < c 10) : ∀(q:List (Int × Int)) (V:List ZN),(∀v ∈ V,Es e v)->(∀v ∈ V,dX c e v)->(q.map (·.1)).Nodup->(∀p ∈ q,Vn V V5 p.1)->
  Mq c e V (Bu c (e+1) V q)/\ ∀p ∈ q,¬Vn (Bu c (e+1) V q) V5 p.1
 | [],V,_,h,_,_=>⟨Mq.refl h,fun p hp=>by simp at hp⟩
 | p::q,V,hk,h,hn,hq=>by
  obtain ⟨n,v,OX,hv,jT⟩:=hq p ZE;have ha:Vq V p.1=v:=by rw [OX]; exact Ff hv
  rw [YY,Xw] at hn;obtain ⟨k0,k1,k2⟩:=Cr (hk v (Xi hv)) jT hl hc;have e1:p.1.toNat=n:=Ze;have hA:=h v (Xi hv);have hb:Mq c e V (V.set n (Qh [XA (e+1),QO (e+1) (c 10)] v).2):=by
   rw [k2];refine Mq.set h hv ⟨.inr ⟨by have:=jT.1; simp only; omega,by have:=hA.rq jT.1 jT.2; simp only; omega,?_⟩,fun h5=>by have:=jT.1; simp only at h5; omega,hA.r12,fun h5 h6=>by simp only at h6; omega,by have:=hA.w0; have:v.wd<=max v.wd (e+1+c 10):=Int.le_max_left _ _; simp only; omega⟩ (fun h5=>h5) (fun h5=>jT);have:e+1+c 10<=max v.wd (e+1+c 10):=Int.le_max_right _ _;simp only;omega
  have hs: ∀p' ∈ q,Vn (V.set n (Qh [XA (e+1),QO (e+1) (c 10)] v).2) V5 p'.1:=fun p' S7=>(hq p' (by simp [S7])).set_ne (fun he=>hn.1 (by
   rw [OX,<-he];exact Qt S7))
  obtain ⟨i1,i2⟩:=po he hl hc q _ (J9 hk k1) hb.ok hn.2 hs;unfold Bu;rw [ha,e1];refine ⟨hb.trans i1,fun p' S7 hh=>?_⟩
  rcases ZU.1 S7 with rfl | S7
  ·have h2:=i1.qd _ hh
   rcases DT h2 with ⟨h3,_⟩ | ⟨_,h3⟩
   ·exact h3 OX
   ·rw [k2] at h3;have:=h3.2;simp only at this;omega
  ·exact i2 p' S7 hh
theorem zX {e:Int} : ∀(q:List Int) (V:List ZN),(∀v ∈ V,Es e v)->(∀v ∈ V,dX c e v)->q.Nodup->(∀i ∈ q,Vn V KT i)->
  Mq c e V (OP 1 V q)/\ ∀i ∈ q,¬Vn (OP 1 V q) KT i
 | [],V,_,h,_,_=>⟨Mq.refl h,fun p hp=>by simp at hp⟩
 | x::q,V,hk,h,hn,hq=>by
  obtain ⟨n,v,OX,hv,oP⟩:=hq x ZE;have ha:Vq V x=v:=by rw [OX]; exact Ff hv
  rw [Xw] at hn;obtain ⟨k1,k2⟩:=qk (hk v (Xi hv)) oP;have e1:x.toNat=n:=Ze;have hA:=h v (Xi hv);have I7:=(hk v (Xi hv)).lo (.inl oP);have hb:Mq c e V (V.set n (M8 1 v)):=by
   rw [k1];refine Mq.set h hv ⟨.inl I7.1,fun h5=>by simp at h5,fun h5=>?_,fun h5=>by simp at h5,hA.w0⟩ (fun h5=>oP) (fun h5=>by have:=h5.1; simp at this);rw [show v.sl=false from I7.2] at h5; cases h5
  obtain ⟨i1,i2⟩:=zX q (V.set n (M8 1 v)) (J9 hk k2) hb.ok hn.2 (fun i hi=>(hq i Bh).set_ne (fun he=>hn.1 IY));unfold OP;rw [ha,e1];refine ⟨hb.trans i1,fun i hi hh=>?_⟩
  rcases ZU.1 hi with rfl | hi
  ·rcases DT (i1.pd _ hh) with ⟨h3,_⟩ | ⟨_,h3⟩
   ·exact h3 OX
   ·rw [k1] at h3;simp [KT] at h3
  ·exact i2 i hi hh
theorem Zg4 {e:Int}{V:List ZN}(mb:Int)(q:List (Int × Int))(hk: ∀v ∈ V,Es e v)(h: ∀v ∈ V,dX c e v) :Mq c e V (JW mb V q):=by
 refine (EN mb (I:=fun W=>(∀v ∈ W,Es e v)/\Mq c e V W) ?_ q V ⟨hk,Mq.refl h⟩).2;rintro l i j s d ⟨hl,hb⟩ Ka hi hj hc;obtain ⟨CT,qX,_,_,_,_⟩:=OK hc;obtain ⟨f1,f2⟩:=CK (hl s (Xi hi)).fit (hl d (Xi hj)).fit hc;have kd:=hl d (Xi hj);have ks:=(hl s (Xi hi)).lo (.inr CT);have kd2:=kd.lo (.inr qX);have Ou:(l.set i (DV s))[j]?=some d:=dR
 have h1:Mq c e l (l.set i (DV s)):=Mq.set hb.ok hi ⟨.inl ks.1,fun _=>rfl,fun h5=>(by have h6:s.sl=true:=h5; rw [ks.2] at h6; cases h6),fun h5=>by simp [DV] at h5,(hb.ok s (Xi hi)).w0⟩ (fun h5=>by simp [KT,DV] at h5) (fun h5=>by have:=h5.1; simp [DV] at this);have h2:Mq c e (l.set i (DV s)) ((l.set i (DV s)).set j (NQ s d)):=Mq.set h1.ok Ou ⟨.inl kd2.1,fun h5=>(by have h6:d.st=6\/d.st=7:=h5; omega),fun h5=>(by have h6:d.sl=true:=h5; rw [kd2.2] at h6; cases h6),fun h5=>(by have h6:d.st=3:=h5; omega),(hb.ok d (Xi hj)).w0⟩ (fun h5=>h5) (fun h5=>h5);refine ⟨J9 (J9 hl ⟨f1,?_,?_,?_,?_,?_⟩) ⟨f2,kd.lo,kd.s3,kd.s4,kd.s5,kd.w⟩,hb.trans (h1.trans h2)⟩
 ·exact Rd
 ·exact Rd
 ·exact Rd
 ·exact Rd
 ·exact (hl s (Xi hi)).w
theorem ya (mb:Int)(r:Rq)(l:List ZN) :Du l r mb=l\/ ∃(n:Nat) (v:ZN),l[n]?=some v/\Du l r mb=l.set n (F9 v r.am mb):=by
 by_cases h:VP r l.length=true
 ·obtain ⟨i,v,hi,hv⟩:=Ax h;obtain ⟨_,h2,h3⟩:=Ig mb hi hv;exact .inr ⟨i,v,hv,h3⟩
 ·left;unfold Du;rw [if_neg h]
theorem si {e mb:Int} : ∀(q:List Rq) (V:List ZN),(∀r ∈ q,V8 r)->(∀v ∈ V,dX c e v)->Mq c e V (XC mb V q)
 | [],V,_,h=>Mq.refl h
 | r::q,V,hq,h=>by
  have ei: ∀r ∈ q,V8 r:=fun r hr=>hq r (by simp [hr])
  have ham:=(bounds_u64 (hq r ZE).2).1;unfold XC
  rcases ya mb r V with h1 | ⟨n,v,hv,h1⟩
  ·rw [h1]; exact si q V ei h
  ·rw [h1];have hA:=h v (Xi hv);have hb:Mq c e V (V.set n (F9 v r.am mb)):=Mq.set h hv ⟨hA.r7,fun h5=>?_,hA.r12,hA.rq,hA.w0⟩ (fun h5=>h5) (fun h5=>h5)
   ·exact hb.trans (si q _ ei hb.ok)
   ·have h6:v.st=6\/v.st=7:=h5;have h7:=hA.r8 h6;simp only [F9];have:Bq v r.am mb=0:=by
     unfold Bq Gq;rw [h7]
     split <;> omega
    omega
theorem jI {e:Int} : ∀(q:List Nat) (V:List ZN),(∀v ∈ V,dX c e v)->q.Nodup->(∀i ∈ q,Vn V (Lg e) (i:Nat))->Mq c e V (QT e V q)
 | [],V,h,_,_=>Mq.refl h
 | x::q,V,h,hn,hq=>by
  obtain ⟨n,v,OX,hv,hr⟩:=hq x ZE;obtain rfl:x=n:=Ze;rw [Xw] at hn;have ha:V.getD x ZS=v:=K8 hv;obtain ⟨f1,f2⟩:=NA hr.1 hr.2;unfold QT;rw [ha,f1];have hA:=h v (Xi hv);have h5:=hr.1;have hb:Mq c e V (V.set x { v with bal:=0,st:=6}):=by
   refine Mq.set h hv ⟨?_,fun _=>rfl,fun h6=>⟨by simp,(hA.r12 h6).2⟩,fun h6=>by simp at h6,hA.w0⟩ (fun h6=>by simp [KT] at h6) (fun h6=>by have:=h6.1; simp at this)
   rcases hA.r7 with h7 | ⟨_,h8,h9⟩
   ·exact .inl h7
   ·exact .inr ⟨by simp,h8,h9⟩
  exact hb.trans (jI q _ hb.ok hn.2 (fun i hi=>(hq i Bh).set_ne (fun he=>hn.1 (by
   obtain rfl:i=x:=Ze;exact hi))))
theorem vX (hc:GE c)(h:Inv c k s)(h2:Ew c s)(hk:k<=1000000) :Ew c (zR c (XF s)):=by
 obtain ⟨a0,a1,a2,a3,a4⟩:=pz hc h;obtain ⟨g1,g2,g3⟩:=RJ h.vok h.ep0;have b1:=ZfX h.vok h.ep0 h2.ok;have bk1:=h.bk1;have ep1:=h.ep1;have ep0:=h.ep0;have u0:=hc.g.unb0;have u1:=hc.g.unb1;have hl:Nc (s.ep+1+1) (c 10):=by unfold Nc RO; omega
 have CS:((LW c (XF s)).1.map (·.1)++((LW c (XF s)).2.1++(LW c (XF s)).2.2.1)).Perm (s.F++s.W):=Sh _ _ _ _;have rf:=CS.nodup_iff.2 h.lnn;rw [QA] at rf;obtain ⟨n1,n2,n3⟩:=rf;have BQ: ∀p ∈ (LW c (XF s)).1,Vn (Bf (XF s)) V5 p.1:=fun p hp=>
  g1.qd p.1 (h.lnx p.1 (CS.mem_iff.1 (Ya.2 (.inl (Qt hp)))))
 obtain ⟨r1,r2,r3,r4,r5⟩:=Nl hl Ze (LW c (XF s)).1 (Bf (XF s)) g1.vok n1 BQ;obtain ⟨b2,b3⟩:=po (e:=s.ep+1) Ze hl Ze (LW c (XF s)).1 (Bf (XF s)) g1.vok b1.ok n1 BQ;have I8:(s.pd.take (PC c (XF s))).Nodup:=h.pdn.sublist (VT _ _);have bQ: ∀i ∈ s.pd.take (PC c (XF s)),Vn (Wr c (XF s)) KT i:=fun i hi=>r4 i (g1.pd i (h.pdx i (ZQ hi)))
 obtain ⟨t1,t2,_⟩:=RL (s.pd.take (PC c (XF s))) (Wr c (XF s)) r2 I8 bQ;obtain ⟨b4,b5⟩:=zX (s.pd.take (PC c (XF s))) (Wr c (XF s)) r2 b2.ok I8 bQ;have b6:=Zg4 (c 6) (s.mg.take (GS c s.mg)) t2 b4.ok;refine ⟨b6.ok,fun i hi=>?_,fun i hi=>?_⟩
 ·have h5:=b6.pd i hi;have h6:=h2.pd i (b1.pd i (b2.pd i (b4.pd i h5)));show i ∈ s.pd.drop (PC c (XF s));rw [<-Qz (PC c (XF s)) s.pd,Ya] at h6
  rcases h6 with h6 | h6
  ·exact absurd h5 (b5 i h6)
  ·exact h6
 ·have h5:=b4.qd i (b6.qd i hi);have h6:=CS.mem_iff.2 (h2.qd i (b1.qd i (b2.qd i h5)));rw [Ya] at h6
  rcases h6 with h6 | h6
  ·obtain ⟨p,hp,rfl⟩:=Z6.1 h6;exact absurd h5 (b3 p hp)
  ·exact h6
theorem oo (hc:GE c)(h:Inv c k s)(h2:Ew c s)(hk:k<=1000000) :Ew c (yZ c s).2:=by
 have hN:Ew c (PT c s):=by
  unfold PT
  split
  ·exact vX hc h h2 hk
  ·exact ⟨h2.ok,h2.pd,h2.qd⟩
 have hI:=Tg hc h hk;show Ew c (II c (PT c s));generalize PT c s=s at hN hI;obtain ⟨g,hn,hr⟩:=Mg hc hI;have p1:=si (e:=s.ep) (mb:=c 5) (s.pt.take (FZ c s)) s.V (fun r hr=>hI.ptf r (ZQ hr)) hN.ok;have p2:=jI (af c s) (LI c s) p1.ok hn hr;exact ⟨p2.ok,fun i hi=>hN.pd i (p1.pd i (p2.pd i hi)),fun i hi=>hN.qd i (p1.qd i (p2.qd i hi))⟩
theorem xU (hc:GE c)(hI:Inv c k s)(h:Ew c s)(hk:k<=1000000)(o:Oq) :Ew c (MN c s o).2:=by
 unfold MN
 by_cases h1:o.kd=1
 ·rw [if_pos h1]; unfold Ha; split
  ·exact pX h _
  ·exact h
 rw [if_neg h1]
 by_cases h2:o.kd=2
 ·rw [if_pos h2]; unfold PH; split
  ·rename_i h0; exact jE hc hI h (.inr rfl) h0
  ·exact h
 rw [if_neg h2]
 by_cases h3:o.kd=3
 ·rw [if_pos h3]; unfold PH; split
  ·rename_i h0; exact jE hc hI h (.inl rfl) h0
  ·exact h
 rw [if_neg h3]
 by_cases h4:o.kd=4
 ·rw [if_pos h4]; unfold AS; split
  ·rename_i h0; exact yO hc hI h h0
  ·exact h
 rw [if_neg h4]
 by_cases h5:o.kd=5
 ·rw [if_pos h5]; unfold eO; split
  ·exact ⟨h.ok,h.pd,h.qd⟩
  ·exact h
 rw [if_neg h5]
 by_cases h6:o.kd=6
 ·rw [if_pos h6]; unfold gJ; split
  ·exact ⟨h.ok,h.pd,h.qd⟩
  ·exact h
 rw [if_neg h6]
 split
 ·exact oo hc hI h hk
 ·exact h
theorem TU (n:Nat) : ∀q:List Int,(∀i ∈ q,0<=i/\i < (n:Int))->BW (fun i=>q.count (i:Int)) n=q.length
 | [],_=>by
  have: ∀n,BW (fun i=>([] :List Int).count (i:Int)) n=0:=fun n=>by
   induction n with
   | zero=>rfl
   | succ n ih=>simpa [BW] using ih
  rw [this]; rfl
 | a::q,h=>by
  have h1:=TU n q (fun i hi=>h i Bh);have e:BW (fun i=>(a::q).count (i:Int)) n=BW (fun i=>q.count (i:Int)) n+BW (fun i=>if a=(i:Int) then 1 else 0) n:=by
   rw [<-dB];refine MY n fun i _=>?_
   rw [List.count_cons];simp [beq_iff_eq]
  have h2: ∀m:Nat,a < (m:Int)->0<=a->BW (fun i=>if a=(i:Int) then 1 else 0) m=1:=fun m=>by
   induction m with
   | zero=>intro h3 h4; omega
   | succ m ih=>
    intro h3 h4;simp only [BW]
    by_cases h5:a=(m:Int)
    ·have:=(dC a m).2 Ze;rw [this,if_pos h5]
    ·rw [ih Ze h4,if_neg h5]
  have:=h a ZE;rw [e,h1,h2 n this.2 this.1,Yc]
theorem aS {q:List Int}{a:Int}(hn:q.Nodup)(hm:a ∈ q) :q.count a=1:=by
 induction q with
 | nil=>simp at hm
 | cons b q ih=>
  rw [Xw] at hn;rw [List.count_cons]
  by_cases e:b=a
  ·subst e;rw [List.count_eq_zero.2 hn.1];simp
  ·have hm':a ∈ q:=by
    rcases ZU.1 hm with h | h
    ·exact absurd h.symm e
    ·exact h
   rw [ih hn.2 hm'];simp [e]
theorem bj {q:List Int}{V:List ZN}{p:ZN->Bool}{P:ZN->Prop}(hp: ∀v,p v=true ↔ P v)(hn:q.Nodup)(h1: ∀i ∈ q,Vn V P i)(h2: ∀i,Vn V P i->i ∈ q) :OQ q V p=true:=by
 have hk: ∀i,i < V.length->q.count (i:Int)=if p (V.getD i ZS)=true then 1 else 0:=fun i hi=>by
  have hv:V[i]?=some (V.getD i ZS):=Zbt
  by_cases hq:p (V.getD i ZS)=true
  ·rw [if_pos hq];exact aS hn (h2 _ ⟨i,_,rfl,hv,(hp _).1 hq⟩)
  ·rw [if_neg hq];refine List.count_eq_zero.2 fun hm=>hq ?_
   obtain ⟨m,u,e,hu,hP⟩:=h1 _ hm;obtain rfl:i=m:=Ze;rw [hv] at hu;obtain rfl:=ZL hu;exact (hp _).2 hP
 have hs:=TU V.length q (fun i hi=>(h1 i hi).lt);have hP:=TT p V V.length (Zh _);rw [Vc] at hP;unfold OQ;simp only [Bool.and_eq_true,List.all_eq_true,Qo,Bool.or_eq_true,Bool.not_eq_true',decide_eq_true_eq];refine ⟨fun i hi=>?_,by rw [<-hs,MY _ hk,hP]⟩;rw [hk i hi]
 cases p (V.getD i ZS)<;> simp
end
end
end Go.Proofs.YtobgbcdgffgdhaaGreat
