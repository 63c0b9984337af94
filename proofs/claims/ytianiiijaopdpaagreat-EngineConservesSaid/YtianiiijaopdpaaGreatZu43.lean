/- Part 43 of 58: Sg Vok Phase Inv Tick Facts Rg RgT RgO Code. -/
import Derived.Test.YtianiiijaopdpaaGreatZu00
import Derived.Test.YtianiiijaopdpaaGreatZu36
import Derived.Test.YtianiiijaopdpaaGreatZu39
import Derived.Test.YtianiiijaopdpaaGreatZu42
namespace Go.Proofs.YtianiiijaopdpaaGreat
set_option linter.unusedVariables false
set_option linter.unusedSimpArgs false
set_option maxRecDepth 100000
set_option maxHeartbeats 8000000
open _root_.Int renaming emod_lt_of_pos → GB, emod_nonneg → Gr, le_refl → XI, mul_le_mul_of_nonneg_left → Vw, toNat_natCast → YX
open _root_.List renaming append_assoc → XK, cons_append → Ym, ext_getElem? → KM, filter_append → Jp, filter_cons → JT, getD_eq_getElem?_getD → Zq, getElem?_append_left → YD, getElem?_append_right → YV, getElem?_eq_getElem → Zf, getElem?_eq_some_iff → Zh, getElem?_map → ZR, getElem?_of_mem → Uh, getElem?_set_ne → YG, getElem?_set_self → YQ, length_append → ZN, length_cons → Yu, length_drop → Q7, length_map → YM, length_set → Xw, length_singleton → Y9, map_append → XM, map_cons → YW, map_map → KN, mem_append → YK, mem_cons → Z6, mem_filter → Qw, mem_map → Yj, mem_map_of_mem → JH, mem_of_getElem? → ZE, mem_of_mem_drop → Y6, mem_of_mem_take → ZP, mem_range → QU, mem_singleton → Y5, nodup_append → Jf, nodup_cons → Qx, range → Xo, range_succ → Gt, take_length → UD
open _root_.Nat renaming le_refl → Zg, le_trans → Yk, lt_or_ge → YA
open _root_.Option.some renaming inj → ZZ
theorem FO {G:Prop}(h:G:=by simp [hi]) :G:=h
theorem N5 {G:Prop}(h:G:=by rw [List.length_take]; omega) :G:=h
theorem Zgr {G:Prop} (h:G:=by
  have hn:=(List.getElem?_eq_some_iff.1 wF).1;obtain ⟨u,hu,hp,_⟩:=h1 n V[n] (List.getElem?_eq_getElem Ze);rw [wF] at hu;obtain rfl:=Option.some.inj hu;exact ⟨_,_,List.getElem?_eq_getElem Ze,hp⟩) :G:=h
theorem tx {G:Prop} (h:G:=by
  unfold opO;rw [if_neg Ze,if_neg Ze,if_neg Ze,if_neg Ze,if_neg Ze,if_neg Ze,if_pos h7]) :G:=h
theorem ZgP {G:Prop} (h:G:=by
  obtain ⟨m,u,e,hu,hq⟩:=h.lnx i hm;obtain rfl:n=m:=by omega
  rw [hv] at hu;obtain rfl:=Option.some.inj hu;have:=hq.1;omega) :G:=h
theorem Zad {G:Prop} (h:G:=by
  unfold tkP pmOf;rw [List.length_map];exact Nat.le_trans (OQ _ _ _) N5) :G:=h
theorem Zaq {G:Prop} (h:G:=by
  unfold exO at h ⊢
  split at h
  ·exact absurd rfl h
  ·rename_i hc; rw [if_neg hc]; exact ⟨rfl,rfl⟩) :G:=h
theorem Zax {G:Prop} (h:G:=by
  intro j hj;rw [hV];exact (h.pdx j hj).set hv fun hq=>by unfold isPd at hq; omega) :G:=h
theorem Zaz {G:Prop} (h:G:=by
  unfold leaveV;rw [if_neg Ze];unfold ripenV;rw [if_neg Ze];exact h) :G:=h
theorem ZaB {G:Prop} (h:G:=by
  rcases hj with (hj | hj) | hj
  ·exact .inl hj
  ·exact absurd hj Mj
  ·exact .inr hj) :G:=h
theorem j7 {G:Prop} (h:G:=by
  split at h
  ·exact absurd rfl h
  ·rename_i hc; rw [if_neg hc]; exact ⟨rfl,rfl⟩) :G:=h
theorem ZaT {G:Prop} (h:G:=by
  unfold exO
  split
  ·exact ⟨rfl,rfl,rfl,rfl,rfl,rfl⟩
  ·exact R _ _) :G:=h
theorem ZaW {G:Prop} (h:G:=by
  unfold exO
  split
  ·rename_i h0; exact ring_ex hc h h0 hr
  ·exact hr) :G:=h
theorem kb {G:Prop} (h:G:=by
  split
  ·exact ⟨rfl,rfl,rfl,rfl,rfl,rfl⟩
  ·exact R _ _) :G:=h
theorem A7 {G:Prop} (h:G:=by
  unfold exO
  split <;> rfl) :G:=h
section
open Go Go.RowKit
structure Sg where
 bk:Int
 ep:Int
 V:List Yd
 D:Int
 P:Int
 B:Int
 pd:List Int
 F:List Int
 W:List Int
 mg:List (Int × Int)
 pt:List Rq
 cu:Nat
 cy:Int
structure Rp where
 kd:Int
 cd:Int
 ix:Int
 bl:Int
 ep:Int
 dl:Int
 la:List As
 lp:List Pm
 vs:Int
def cW:Sg:=⟨0,0,[],0,0,0,[],[],[],[],[],0,0⟩
def UN (s:Sg)(k c:Int) :Rp:=⟨k,c,-1,s.bk,s.ep,-1,[],[],0⟩
def Fj (s:Sg)(k i d:Int) :Rp:=⟨k,0,i,s.bk,s.ep,d,[],[],0⟩
def wV (V:List Yd) :Int→Int:=Kz (Q0 V)
def Vy (V:List Yd)(i:Int) :Yd:=V.getD i.toNat Z9
def GI (V:List Yd)(i:Int) :Bool:=decide (i < 0∨(V.length:Int)≤i)
def MJ (x:Int) :Yd:=⟨x,1,false,-1,-1,-1,-1⟩
def Nl (c:Nat→Int)(s:Sg)(x:Int) :Int:=
 if x < c 2∨c 3 < x then 3 else if c 0≤s.V.length then 5 else if c 1≤s.pd.length then 6
 else if c 4 -(s.D - s.P - s.B)< x then 4 else if 18446744073709551615 < s.D+x then 10 else 0
def Hn (s:Sg)(x:Int) :Sg:= { s with V:=s.V++[MJ x],D:=s.D+x,pd:=s.pd++[(s.V.length:Int)]}
def DR (c:Nat→Int)(s:Sg)(o:Oq) :Rp × Sg:=
 if Nl c s o.am=0 then(Fj s o.kd s.V.length (-1),Hn s o.am) else(UN s o.kd (Nl c s o.am),s)
def Wn (s:Sg)(v:Yd) :Int × Yd:=Qn [Xs s.ep,Qm 2] v
def Ou (c:Nat→Int)(s:Sg)(cl:Int)(v:Yd) :Option Int:=
 if G9 ((Kw s.F s.W cl).map (wV s.V)) (Kw s.F s.W cl).length=true then
  Mp (EG ((Kw s.F s.W cl).map (wV s.V)) (Kw s.F s.W cl).length) v.bal c (c 10+BO c) s.ep
 else none
def iV (c:Nat→Int)(s:Sg)(i cl:Int) :Int:=
 if GI s.V i=true then 7 else if(Wn s (Vy s.V i)).1≠0 then(Wn s (Vy s.V i)).1
 else if c 1≤(UW s.F s.W cl).length then 6 else if Ou c s cl (Vy s.V i)=none then 10 else 0
def tI (c:Nat→Int)(s:Sg)(i cl:Int) :Int:=(Ou c s cl (Vy s.V i)).getD 0
def P9 (c:Nat→Int)(s:Sg)(i cl:Int) :Sg:=
 { s with V:=s.V.set i.toNat { (Wn s (Vy s.V i)).2 with dl:=tI c s i cl},F:=pushF (c 1).toNat s.F cl i,W:=pushV (c 1).toNat s.W cl i}
def exO (c:Nat→Int)(s:Sg)(o:Oq)(cl:Int) :Rp × Sg:=
 if iV c s o.ix cl=0 then(Fj s o.kd o.ix (tI c s o.ix cl),P9 c s o.ix cl) else(UN s o.kd (iV c s o.ix cl),s)
def WH (c:Nat→Int)(s:Sg)(i:Int) :Int:=
 if GI s.V i=true then 7 else if(Hc (Vy s.V i) s.ep c).1≠0 then(Hc (Vy s.V i) s.ep c).1
 else if(Vy s.V i).st=2∧c 1≤s.F.length then 6 else 0
def M8 (c:Nat→Int)(s:Sg)(i:Int) :Sg:=
 { s with V:=s.V.set i.toNat (Hc (Vy s.V i) s.ep c).2,B:=s.B+tW (Vy s.V i) s.ep c,F:=if(Vy s.V i).st=2 then s.F++[i] else s.F}
def Rj (c:Nat→Int)(s:Sg)(o:Oq) :Rp × Sg:=
 if WH c s o.ix=0 then(Fj s o.kd o.ix (-1),M8 c s o.ix) else(UN s o.kd (WH c s o.ix),s)
def nJ (c:Nat→Int)(s:Sg)(p:Int × Int) :Int:=if Db s.V p (c 6)≠0 then Db s.V p (c 6) else if c 1≤s.mg.length then 6 else 0
def IX (c:Nat→Int)(s:Sg)(o:Oq) :Rp × Sg:=
 if nJ c s (o.ix,o.tg)=0 then(Fj s o.kd o.ix (-1),{ s with mg:=s.mg++[(o.ix,o.tg)]}) else(UN s o.kd (nJ c s (o.ix,o.tg)),s)
def ru (c:Nat→Int)(s:Sg)(r:Rq) :Int:=if My s.V r≠0 then My s.V r else if c 1≤s.pt.length then 6 else 0
def I2 (c:Nat→Int)(s:Sg)(o:Oq) :Rp × Sg:=
 if ru c s ⟨o.ix,o.am⟩=0 then(Fj s o.kd o.ix (-1),{ s with pt:=s.pt++[⟨o.ix,o.am⟩]}) else(UN s o.kd (ru c s ⟨o.ix,o.am⟩),s)
def leaveV (e:Int)(v:Yd) :Yd:=if v.st=3∧v.ex=e then { v with st:=4} else v
def ripenV (e:Int)(v:Yd) :Yd:=if v.st=4∧v.wd≤e then { v with st:=5} else v
def Oc (ev:Int)(v:Yd) :Yd:= { v with st:=Jt v.st ev}
def P8 (ev:Int) :List Yd→List Int→List Yd
 | V,[]=>V
 | V,i::q=>P8 ev (V.set i.toNat (Oc ev (Vy V i))) q
def DP (c:Nat→Int)(e:Int) :List Yd→List (Int × Int)→List Yd
 | V,[]=>V
 | V,p::q=>DP c e (V.set p.1.toNat (Qn [XS e,Q3 e (c 10)] (Vy V p.1)).2) q
def BJ (s:Sg) :List Yd:=(s.V.map (leaveV s.ep)).map (ripenV s.ep)
def Ob (c:Nat→Int)(s:Sg) :Int:=Ej (ZY (BJ s)) (c 7) (c 8)
def Oa (c:Nat→Int)(s:Sg) :List (Int × Int) × List Int × List Int × Int:=Fa (wV (BJ s)) s.F s.W s.cy (Ob c s)
def Cm (c:Nat→Int)(s:Sg) :List Yd:=DP c (s.ep+1) (BJ s) (Oa c s).1
def WT (c:Nat→Int)(s:Sg) :Nat:=FQ (Ob c s) (s.pd.map (wV (Cm c s)))
def kP (c:Nat→Int)(s:Sg) :List Yd:=P8 1 (Cm c s) (s.pd.take (WT c s))
def Wp (c:Nat→Int)(s:Sg) :List As:=(Oa c s).1.map fun p=>⟨p.1,p.2,s.ep+1⟩
def bdS (c:Nat→Int)(s:Sg) :Sg:=
 { s with V:=J8 (c 6) (kP c s) (s.mg.take (BI c s.mg)),F:=(Oa c s).2.1,W:=(Oa c s).2.2.1,cy:=EI (Oa c s),pd:=s.pd.drop (WT c s),mg:=s.mg.drop (BI c s.mg)}
def L4 (c:Nat→Int)(s:Sg) :Sg:=
 if(s.bk+1)%c 13=0 then bdS c { s with bk:=s.bk+1,ep:=s.ep+1} else { s with bk:=s.bk+1}
def nxO (c:Nat→Int)(s:Sg) :List As:=if(s.bk+1)%c 13=0 then Wp c { s with bk:=s.bk+1,ep:=s.ep+1} else []
def goN (L:List Bool)(s:Nat)(v p:Int) :Nat→Nat→Nat
 | 0,k=>k
 | f+1,k=>if v≤(k:Int)∨L.length≤k∨p≤((JW L s k).length:Int) then k else goN L s v p f (k+1)
def FZ (L:List Bool)(s:Nat)(v p:Int) :Nat:=goN L s v p L.length 0
def Ht (e:Int)(v:Yd) :Int × Yd:=Qn [DH e,Qm 5] { v with bal:=v.bal - v.bal}
def Ag (e:Int)(v:Yd) :Int:=if(Ht e v).1=0 then v.bal else 0
def Ji (e:Int) :List Yd→List Nat→List Yd
 | V,[]=>V
 | V,i::q=>Ji e (V.set i (Ht e (V.getD i Z9)).2) q
def Qf (e:Int) :List Yd→List Nat→List Pm
 | _,[]=> []
 | V,i::q=>⟨i,Ag e (V.getD i Z9),true⟩::Qf e (V.set i (Ht e (V.getD i Z9)).2) q
def M7 (V:List Yd) :List Bool:=V.map fun v=>decide (v.st=5)
def JJ:List Pm→Int
 | []=>0
 | p::q=>p.am+JJ q
def EC (c:Nat→Int)(s:Sg) :Nat:=Uw c s.pt
def F8 (c:Nat→Int)(s:Sg) :List Yd:=XX (c 5) s.V (s.pt.take (EC c s))
def pmOf (l:List Py) :List Pm:=l.map fun p=>⟨p.ix,p.am,p.fu⟩
def tkP (c:Nat→Int)(s:Sg) :List Pm:=pmOf (Kf (c 5) s.V (s.pt.take (EC c s)))
def nt (c:Nat→Int)(s:Sg) :Nat:=FZ (M7 (F8 c s)) s.cu (c 14 -(EC c s:Nat)) (c 15 -((tkP c s).length:Nat))
def AQ (c:Nat→Int)(s:Sg) :List Nat:=JW (M7 (F8 c s)) s.cu (nt c s)
def Rm (c:Nat→Int)(s:Sg) :List Pm:=tkP c s++Qf s.ep (F8 c s) (AQ c s)
def IA (c:Nat→Int)(s:Sg) :Sg:=
 { s with V:=Ji s.ep (F8 c s) (AQ c s),P:=s.P+JJ (Rm c s),pt:=s.pt.drop (EC c s),cu:=DS (F8 c s).length s.cu (nt c s)}
def nw (c:Nat→Int)(s:Sg) :Rp × Sg:=
 (⟨7,0,-1,(L4 c s).bk,(L4 c s).ep,-1,nxO c s,Rm c (L4 c s),(EC c (L4 c s) :Nat)+(nt c (L4 c s) :Nat)⟩,IA c (L4 c s))
def opO (c:Nat→Int)(s:Sg)(o:Oq) :Rp × Sg:=
 if o.kd=1 then DR c s o else if o.kd=2 then exO c s o 1 else if o.kd=3 then exO c s o 0 else if o.kd=4 then Rj c s o
 else if o.kd=5 then IX c s o else if o.kd=6 then I2 c s o else if o.kd=7 then nw c s else(UN s o.kd 11,s)
def DB (c:Nat→Int) :Sg→List Oq→Sg
 | s,[]=>s
 | s,o::q=>DB c (opO c s o).2 q
def L5 (c:Nat→Int) :Sg→List Oq→List Rp
 | _,[]=> []
 | s,o::q=>(opO c s o).1::L5 c (opO c s o).2 q
end
section
open Go Go.RowKit
structure Vok (e:Int)(v:Yd) :Prop where
 fit:Yq v
 lo:v.st=1∨v.st=2→v.ex= -1∧v.sl=false
 s3:v.st=3→v.ex= -1∨(v.ex=e+1∧e+1 < v.wd)
 s4:v.st=4→e < v.wd
 s5:v.st=5→v.wd≤e
 w:v.wd≤1099511627776
def Bl (V:List Yd)(p:Yd→Prop)(i:Int) :Prop:= ∃(m:Nat) (u:Yd),i=(m:Int)∧V[m]?=some u∧p u
def isPd (u:Yd) :Prop:=u.st=1
def Dv (u:Yd) :Prop:=u.st=3∧u.ex= -1
theorem Bl.set {V:List Yd}{n:Nat}{v v':Yd}{p:Yd→Prop}{i:Int}(hv:V[n]?=some v)(h:p v→p v')(hx:Bl V p i) :Bl (V.set n v') p i:=by
 obtain ⟨m,u,e,hu,hp⟩:=hx;have hm:=(Zh.1 hv).1
 by_cases ji:n=m
 ·subst ji;rw [hv] at hu;obtain rfl:=ZZ hu;exact ⟨n,v',e,by rw [YQ hm],h hp⟩
 ·exact ⟨m,u,e,by rw [YG ji]; exact hu,hp⟩
theorem Bl.set_ne {V:List Yd}{n:Nat}{v':Yd}{p:Yd→Prop}{i:Int}(hi:i≠(n:Int))(hx:Bl V p i) :Bl (V.set n v') p i:=by
 obtain ⟨m,u,e,hu,hp⟩:=hx;exact ⟨m,u,e,by rw [YG Ze]; exact hu,hp⟩
theorem Bl.append {V W:List Yd}{p:Yd→Prop}{i:Int}(hx:Bl V p i) :Bl (V++W) p i:=by
 obtain ⟨m,u,e,hu,hp⟩:=hx;exact ⟨m,u,e,by rw [YD (Zh.1 hu).1]; exact hu,hp⟩
theorem Bl.lt {V:List Yd}{p:Yd→Prop}{i:Int}(hx:Bl V p i) :0≤i∧i < (V.length:Int):=by
 obtain ⟨m,u,e,hu,hp⟩:=hx;have:=(Zh.1 hu).1;omega
theorem Bl.map {V:List Yd}{f:Yd→Yd}{p:Yd→Prop}{i:Int}(h: ∀v,p v→p (f v))(hx:Bl V p i) :Bl (V.map f) p i:=by
 obtain ⟨m,u,e,hu,hp⟩:=hx;exact ⟨m,f u,e,by rw [ZR,hu]; rfl,h u hp⟩
theorem Gg {V:List Yd}{i:Int}(h:GI V i=false) : ∃n:Nat,i=(n:Int)∧V[n]?=some (Vy V i):=by
 unfold GI at h;simp at h;refine ⟨i.toNat,by omega,?_⟩;unfold Vy;exact sW
theorem Mx {V:List Yd}{n:Nat}{v:Yd}(h:V[n]?=some v) :Vy V (n:Int)=v:=by unfold Vy; rw [Zq,YX,h]; rfl
theorem Gv {V:List Yd}{n:Nat}{v:Yd}{p:Yd→Prop}(h: ∀x ∈ V,p x)(hv:p v) : ∀x ∈ V.set n v,p x:=fun x hx=>by
 rcases List.mem_or_eq_of_mem_set hx with hx | rfl
 ·exact h x hx
 ·exact hv
theorem QI {V:List Yd}{n:Nat}{v:Yd}(h:V[n]?=some v) :v ∈ V:=ZE h
theorem gZ {x:Int}(h0:0≤x)(h1:x≤18446744073709551615) :(Lit.int .u64 x).wf=true:=by
 exact dx
variable {e:Int} {v:Yd} {c:Nat→Int}
theorem re {x:Int}(h0:0≤x)(h1:x≤18446744073709551615) :Vok e (MJ x):=
 ⟨⟨gZ h0 h1,rfl⟩,fun _=>⟨rfl,rfl⟩,fun h=>absurd h (by simp [MJ]),fun h=>absurd h (by simp [MJ]),fun h=>absurd h (by simp [MJ]),by show (-1:Int)≤_; omega⟩
theorem cH {s:Int}(h:Jt s 2≠0) :s=2∧Jt s 2=3:=by
 unfold Jt at h ⊢
 repeat' split at h
 all_goals first | omega | (exact absurd rfl h)
theorem gm {s:Int}(h:Jt s 7≠0) :(s=2∨s=3)∧Jt s 7=3∨(s=4∨s=5)∧Jt s 7=4:=by
 unfold Jt at h ⊢;rw [if_pos rfl] at h ⊢
 by_cases h1:s=2∨s=3
 ·exact .inl ⟨h1,if_pos h1⟩
 ·by_cases h2:s=4∨s=5
  ·exact .inr ⟨h2,by rw [if_neg h1,if_pos h2]⟩
  ·rw [if_neg h1,if_neg h2] at h; exact absurd rfl h
theorem RJ (h:(Qn [Xs e,Qm 2] v).1=0) :v.st=2∧(Qn [Xs e,Qm 2] v).2= { v with rq:=e,st:=3}:=by
 by_cases h1:SK e
 ·by_cases h2:Jt v.st 2=0
  ·rw [iK h1 h2] at h; simp at h
  ·rw [ow h1 h2];obtain ⟨h3,h4⟩:=cH h2;exact ⟨h3,by rw [h4]⟩
 ·rw [uS h1] at h; simp at h
theorem uT (h:Vok e v)(h0:(Qn [Xs e,Qm 2] v).1=0)(d:Int) :Vok e { (Qn [Xs e,Qm 2] v).2 with dl:=d}:=by
 obtain ⟨h1,h2⟩:=RJ h0;rw [h2];exact ⟨⟨h.fit.1,rfl⟩,fun h=>absurd h ZO,fun _=> .inl (h.lo (.inr h1)).1,fun h=>absurd h ZO,fun h=>absurd h ZO,h.w⟩
theorem NQ (h:(Hc v e c).1=0) :v.sl=false∧((v.st=2∨v.st=3)∧(Hc v e c).2.st=3∨(v.st=4∨v.st=5)∧(Hc v e c).2.st=4)∧
  (Hc v e c).2.ex=v.ex∧(Hc v e c).2.wd=max v.wd (e+c 11)∧(Hc v e c).2.bal=v.bal - penQ v c:=by
 unfold Hc at h ⊢;rw [show KG v e (c 11)=KG { v with bal:=v.bal - penQ v c} e (c 11) from rfl] at h ⊢
 by_cases h1:v.sl=true
 ·exact sY
 ·have h1:v.sl=false:=by simpa using h1
  by_cases h2:Jt v.st 7=0
  ·exact sV
  ·by_cases h3:Pn e (c 11)
   ·rw [sc (v:= { v with bal:=v.bal - penQ v c}) h1 h2 h3];exact ⟨h1,gm h2,rfl,rfl,rfl⟩
   ·exact sU
theorem mZ (h:(Hc v e c).1=0) :Pn e (c 11):=by
 unfold Hc at h;rw [show KG v e (c 11)=KG { v with bal:=v.bal - penQ v c} e (c 11) from rfl] at h
 by_cases h1:v.sl=true
 ·exact sY
 ·have h1:v.sl=false:=by simpa using h1
  by_cases h2:Jt v.st 7=0
  ·exact sV
  ·by_cases h3:Pn e (c 11)
   ·exact h3
   ·exact sU
theorem na (h:Vok e v)(h0:(Hc v e c).1=0)(hc:0 < c 11) :Vok e (Hc v e c).2:=by
 obtain ⟨h1,h2,h3,h4,h5⟩:=NQ h0;refine ⟨TB h.fit h0,fun h=>by rcases h2 with h2 | h2 <;> omega,fun h6=>?_,fun h6=>by rw [h4]; omega,fun h6=>by rcases h2 with h2 | h2 <;> omega,by have:=(mZ h0).2; have:=h.w; rw [h4]; omega⟩
 rcases h2 with ⟨h2 | h2,h7⟩ | h2
 ·exact .inl (h3.trans (h.lo (.inr h2)).1)
 ·rw [h3,h4]
  rcases h.s3 h2 with h8 | h8
  ·exact .inl h8
  ·exact .inr ⟨h8.1,by omega⟩
 ·omega
theorem LJ (h:Vok e v)(he:0≤e) :Vok (e+1) (ripenV (e+1) (leaveV (e+1) v))∧((ripenV (e+1) (leaveV (e+1) v)).st=3→(ripenV (e+1) (leaveV (e+1) v)).ex= -1)∧(ripenV (e+1) (leaveV (e+1) v)).bal=v.bal:=by
 obtain ⟨hf,h2,h3,h4,h5,h6⟩:=h;unfold leaveV
 by_cases c1:v.st=3∧v.ex=e+1
 ·rw [if_pos c1];unfold ripenV;have hw:e+1 < v.wd:=by
   rcases h3 c1.1 with h | h
   ·omega
   ·exact h.2
  rw [if_neg Ef];exact ⟨⟨⟨hf.1,rfl⟩,fun h=>absurd h ZO,fun h=>absurd h ZO,fun _=>hw,fun h=>absurd h ZO,h6⟩,fun h=>absurd h ZO,rfl⟩
 ·rw [if_neg c1];unfold ripenV
  by_cases c2:v.st=4∧v.wd≤e+1
  ·rw [if_pos c2];exact ⟨⟨⟨hf.1,rfl⟩,fun h=>absurd h ZO,fun h=>absurd h ZO,fun h=>absurd h ZO,fun _=>c2.2,h6⟩,fun h=>absurd h ZO,rfl⟩
  ·rw [if_neg c2];refine ⟨⟨hf,h2,fun h=> .inl ?_,fun h=>by omega,fun h=>by have:=h5 h; omega,h6⟩,fun h=>?_,rfl⟩
   all_goals
    rcases h3 h with k | k
    ·exact k
    ·exact absurd ⟨h,k.1⟩ c1
theorem SO {p:Int} :(isPd v→isPd (ripenV p (leaveV p v)))∧(0≤p→Dv v→Dv (ripenV p (leaveV p v))):=by
 refine ⟨fun h=>?_,fun h0 h=>?_⟩
 ·unfold isPd at*;exact Zaz
 ·unfold Dv at*;exact Zaz
theorem iQ (h:Vok e v)(hq:Dv v)(hl:Pn (e+1) (c 10))(hc:0 < c 10) :(Qn [XS (e+1),Q3 (e+1) (c 10)] v).1=0∧Vok e (Qn [XS (e+1),Q3 (e+1) (c 10)] v).2∧
  (Qn [XS (e+1),Q3 (e+1) (c 10)] v).2= { v with ex:=e+1,wd:=max v.wd (e+1+c 10)}:=by
 rw [Cj hq hl];exact ⟨rfl,⟨h.fit,fun k=>by have:=hq.1; simp only at k; omega,fun _=> .inr ⟨rfl,by simp only; omega⟩,fun k=>by have:=hq.1; simp only at k; omega,fun k=>by have:=hq.1; simp only at k; omega,by have:=hl.2; have:=h.w; simp only; omega⟩,rfl⟩
theorem Zbw (h:Vok e v)(hp:isPd v) :Oc 1 v= { v with st:=2}∧Vok e (Oc 1 v):=by
 have e1:Oc 1 v= { v with st:=2}:=by unfold Oc; rw [show v.st=1 from hp]; rfl
 rw [e1];exact ⟨rfl,⟨h.fit.1,rfl⟩,fun _=>h.lo (.inl hp),fun k=>absurd k ZO,fun k=>absurd k ZO,fun k=>absurd k ZO,h.w⟩
theorem Ra (h5:v.st=5)(hw:v.wd≤e) :Ht e v=(0,{ v with bal:=0,st:=6})∧Ag e v=v.bal:=by
 have h1:Ht e v=(0,{ v with bal:=0,st:=6}):=by
  unfold Ht;rw [ZcN (v:= { v with bal:=v.bal - v.bal}) h5 hw,Int.sub_self]
 exact ⟨h1,by unfold Ag; rw [h1]; rfl⟩
theorem ba (hw:v.wd≤1099511627776) :Vok e { v with bal:=0,st:=6}:=
 ⟨⟨gZ ZO ZO,rfl⟩,fun k=>absurd k ZO,fun k=>absurd k ZO,fun k=>absurd k ZO,fun k=>absurd k ZO,hw⟩
end
section
open Go Go.RowKit
structure dE (e:Int)(V W:List Yd) :Prop where
 len:W.length=V.length
 vok: ∀v ∈ W,Vok e v
 pd: ∀i,Bl V isPd i→Bl W isPd i
 qd: ∀i,Bl V Dv i→Bl W Dv i
theorem dE.refl {e:Int}{V:List Yd}(h: ∀v ∈ V,Vok e v) :dE e V V:=⟨rfl,h,fun _ h=>h,fun _ h=>h⟩
theorem dE.trans {e:Int}{U V W:List Yd}(h:dE e U V)(k:dE e V W) :dE e U W:=
 ⟨k.len.trans h.len,k.vok,fun i hi=>k.pd i (h.pd i hi),fun i hi=>k.qd i (h.qd i hi)⟩
theorem wO {V:List Yd}{v:Yd}(h:v ∈ V) : ∃n:Nat,V[n]?=some v:=Uh h
theorem AT {V:List Yd}{f:Yd→Yd}(h: ∀v ∈ V,(f v).bal=v.bal) :ZA (V.map f)=ZA V:=by
 induction V with
 | nil=>rfl
 | cons v V ih=>
  simp only [YW,ZA];rw [h v ZO,ih (fun x hx=>h x UT)]
section
variable {e:Int} {V:List Yd} {c:Nat→Int}
theorem oK (e:Int)(V:List Yd) :(V.map (leaveV e)).map (ripenV e)=V.map fun v=>ripenV e (leaveV e v):=by rw [KN]; rfl
theorem Cn (h: ∀v ∈ V,Vok e v)(he:0≤e) :dE (e+1) V ((V.map (leaveV (e+1))).map (ripenV (e+1)))∧ZA ((V.map (leaveV (e+1))).map (ripenV (e+1)))=ZA V∧
  ∀v ∈ (V.map (leaveV (e+1))).map (ripenV (e+1)),v.st=3→v.ex= -1:=by
 rw [oK];refine ⟨⟨by simp,fun v hv=>?_,fun i hi=>hi.map fun v=>SO.1,fun i hi=>hi.map fun v=>SO.2 Ze⟩,AT fun v hv=>(LJ (h v hv) he).2.2,fun v hv=>?_⟩
 ·obtain ⟨u,hu,rfl⟩:=Yj.1 hv;exact (LJ (h u hu) he).1
 ·obtain ⟨u,hu,rfl⟩:=Yj.1 hv;exact (LJ (h u hu) he).2.1
theorem Uy (V:List Yd) :ZA V=(Q0 V).sum:=by
 induction V with
 | nil=>rfl
 | cons v V ih=>simp only [ZA,ih,Q0,YW,List.sum_cons]
theorem ax {V:List Yd}{n:Nat}{v v':Yd}(hv:V[n]?=some v)(h:v'.bal=v.bal) :Q0 (V.set n v')=Q0 V:=by
 apply KM;intro i;unfold Q0;rw [ZR,ZR]
 by_cases hi:n=i
 ·subst hi;rw [YQ (Zh.1 hv).1,hv];simp [h]
 ·rw [YG hi]
theorem RR (hl:Pn (e+1) (c 10))(hc:0 < c 10) : ∀(q:List (Int × Int)) (V:List Yd),(∀v ∈ V,Vok e v)→(q.map (·.1)).Nodup→(∀p ∈ q,Bl V Dv p.1)→
  (DP c (e+1) V q).length=V.length∧(∀v ∈ DP c (e+1) V q,Vok e v)∧Q0 (DP c (e+1) V q)=Q0 V∧(∀i,Bl V isPd i→Bl (DP c (e+1) V q) isPd i)∧
  (∀i,i ∉ q.map (·.1)→Bl V Dv i→Bl (DP c (e+1) V q) Dv i)
 | [],V,h,_,_=>⟨rfl,h,rfl,fun _ h=>h,fun _ _ h=>h⟩
 | p::q,V,h,hn,hq=>by
  obtain ⟨n,v,Nv,hv,hqd⟩:=hq p ZO;have ha:Vy V p.1=v:=by rw [Nv]; exact Mx hv
  rw [YW,Qx] at hn;obtain ⟨k0,k1,k2⟩:=iQ (h v (QI hv)) hqd hl hc;have e1:p.1.toNat=n:=by omega
  unfold DP;rw [ha,e1];have hb:Q0 (V.set n (Qn [XS (e+1),Q3 (e+1) (c 10)] v).2)=Q0 V:=ax hv (by rw [k2]);have hnp: ¬isPd v:=fun h=>by have:=hqd.1; unfold isPd at h; omega
  obtain ⟨i1,i2,i3,i4,i5⟩:=RR hl hc q (V.set n (Qn [XS (e+1),Q3 (e+1) (c 10)] v).2) (Gv h k1) hn.2 (fun p' dJ=>(hq p' (by simp [dJ])).set_ne (fun he=>hn.1 (by
   rw [Nv,←he];exact JH dJ)))
  refine ⟨i1.trans ZO,i2,i3.trans hb,fun i hi=>i4 i (hi.set hv fun h=>absurd h hnp),fun i tQ hi=>?_⟩;rw [YW,Z6] at tQ;exact i5 i (fun h=>tQ (.inr h)) (hi.set_ne (fun h=>tQ (.inl (h.trans Nv.symm))))
theorem CF: ∀(q:List Int) (V:List Yd),(∀v ∈ V,Vok e v)→q.Nodup→(∀i ∈ q,Bl V isPd i)→
  (P8 1 V q).length=V.length∧(∀v ∈ P8 1 V q,Vok e v)∧Q0 (P8 1 V q)=Q0 V∧(∀i,Bl V Dv i→Bl (P8 1 V q) Dv i)∧(∀i,i ∉ q→Bl V isPd i→Bl (P8 1 V q) isPd i)
 | [],V,h,_,_=>⟨rfl,h,rfl,fun _ h=>h,fun _ _ h=>h⟩
 | x::q,V,h,hn,hq=>by
  obtain ⟨n,v,Nv,hv,jm⟩:=hq x ZO;have ha:Vy V x=v:=by rw [Nv]; exact Mx hv
  rw [Qx] at hn;obtain ⟨k1,k2⟩:=Zbw (h v (QI hv)) jm;have e1:x.toNat=n:=by omega
  unfold P8;rw [ha,e1];have hb:Q0 (V.set n (Oc 1 v))=Q0 V:=ax hv (by rw [k1]);have wi: ¬Dv v:=fun h=>by have:=h.1; unfold isPd at jm; omega
  obtain ⟨i1,i2,i3,i4,i5⟩:=CF q (V.set n (Oc 1 v)) (Gv h k2) hn.2 (fun i hi=>(hq i FO).set_ne (fun he=>hn.1 (by rw [Nv,←he]; exact hi)));refine ⟨i1.trans ZO,i2,i3.trans hb,fun i hi=>i4 i (hi.set hv fun h=>absurd h wi),fun i tQ hi=>?_⟩;rw [Z6] at tQ;exact i5 i (fun h=>tQ (.inr h)) (hi.set_ne (fun h=>tQ (.inl (h.trans Nv.symm))))
theorem wP (mb:Int)(q:List (Int × Int))(h: ∀v ∈ V,Vok e v) :dE e V (J8 mb V q)∧ZA (J8 mb V q)=ZA V:=by
 refine ⟨?_,(TE mb q V).1⟩;refine LS mb (I:=fun W=>dE e V W) ?_ q V (dE.refl h);intro l i j s d hl Kt hi hj hc;obtain ⟨M4,vV,_,_,_,_⟩:=Se hc;obtain ⟨f1,f2⟩:=iY (hl.vok s (QI hi)).fit (hl.vok d (QI hj)).fit hc;have kd:=hl.vok d (QI hj);have Pe:(l.set i (Fg s))[j]?=some d:=by exact kt
 refine hl.trans ⟨by simp,Gv (Gv hl.vok ⟨f1,?_,?_,?_,?_,?_⟩) ⟨f2,kd.lo,kd.s3,kd.s4,kd.s5,kd.w⟩,fun x hx=>?_,fun x hx=>?_⟩
 ·simp only [Fg]; omega
 ·simp only [Fg]; omega
 ·simp only [Fg]; omega
 ·simp only [Fg]; omega
 ·exact (hl.vok s (QI hi)).w
 ·exact (hx.set hi (fun h=>by unfold isPd at h; omega)).set Pe (fun h=>by unfold isPd at h; omega)
 ·exact (hx.set hi (fun h=>by have:=h.1; omega)).set Pe (fun h=>by have:=h.1; omega)
end
section
variable {e:Int} {V:List Yd} {mb:Int}
def Ux:List Py→Int
 | []=>0
 | p::q=>p.am+Ux q
theorem Ls (a b:List Py) :Ux (a++b)=Ux a+Ux b:=by
 induction a with
 | nil=>simp [Ux]
 | cons p a ih=>simp only [Ym,Ux,ih]; omega
theorem si (i x:Int) :Ux (Lc i x)=x:=by
 unfold Lc
 split
 ·rename_i h; simp [Ux,h]
 ·simp [Ux]
theorem mB {l:List Yd}(r:Rq)(mb:Int) :ZA (EX l r mb)=ZA l - NI l r mb:=by
 by_cases h:Ur r l.length=true
 ·obtain ⟨i,v,hi,hv⟩:=bD h;obtain ⟨_,h2,h3⟩:=fW mb hi hv;rw [h2,h3,total_set hv];simp only [Mw];omega
 ·unfold EX NI;rw [if_neg h,if_neg h];omega
theorem FH (mb:Int) : ∀(q:List Rq) (l:List Yd),ZA (XX mb l q)=ZA l - Ux (Kf mb l q)
 | [],l=>by simp [XX,Kf,Ux]
 | r::q,l=>by
  unfold XX Kf;rw [FH mb q,mB,Ls,si];omega
theorem xq (hm:0≤mb)(q:List Rq)(hq: ∀r ∈ q,UY r)(h: ∀v ∈ V,Vok e v) :dE e V (XX mb V q):=by
 have hf: ∀v ∈ V,Yq v:=fun v hv=>(h v hv).fit
 obtain ⟨h1,_⟩:=DJ mb hm q V hq hf;have hlen:=Dd mb q V;have back: ∀(n:Nat) (v':Yd),(XX mb V q)[n]?=some v'→ ∃(v:Yd) (x:Int),V[n]?=some v∧v'= { v with bal:=v.bal - x}:=fun n v' wF=>by
  exact Zgr
 have zt: ∀(p:Yd→Prop),(∀v x,p v→p { v with bal:=v.bal - x})→ ∀i,Bl V p i→Bl (XX mb V q) p i:=fun p hp i ⟨n,v,hi,hv,hpv⟩=>by
  obtain ⟨u,hu,lV,_⟩:=h1 n v hv;exact ⟨n,u,hi,hu,by rw [lV]; exact hp v _ hpv⟩
 refine ⟨hlen,fun v' wF=>?_,zt isPd fun v x h=>h,zt Dv fun v x h=>h⟩;obtain ⟨n,hn⟩:=wO wF;obtain ⟨v,x,hv,rfl⟩:=back n v' hn;have k:=h v (QI hv);exact ⟨Et mb hm q V hq hf _ wF,k.lo,k.s3,k.s4,k.s5,k.w⟩
def MH (e:Int)(v:Yd) :Prop:=v.st=5∧v.wd≤e
theorem EN: ∀(q:List Nat) (V:List Yd),(∀v ∈ V,Vok e v)→q.Nodup→(∀i ∈ q,Bl V (MH e) (i:Nat))→
  dE e V (Ji e V q)∧ZA (Ji e V q)=ZA V - JJ (Qf e V q)∧(∀p ∈ Qf e V q,0≤p.am∧p.fl=true)
 | [],V,h,_,_=>⟨dE.refl h,by simp [Ji,Qf,JJ],fun p hp=>by simp [Qf] at hp⟩
 | x::q,V,h,hn,hq=>by
  obtain ⟨n,v,Nv,hv,hr⟩:=hq x ZO;obtain rfl:x=n:=by omega
  rw [Qx] at hn;have ha:V.getD x Z9=v:=Vg hv;obtain ⟨f1,f2⟩:=Ra hr.1 hr.2;unfold Ji Qf;rw [ha,f1,f2];have hb:=(h v (QI hv)).fit.bal;obtain ⟨i1,i2,i3⟩:=EN q (V.set x { v with bal:=0,st:=6}) (Gv h (ba (h v (QI hv)).w)) hn.2 (fun i hi=>(hq i FO).set_ne (fun he=>hn.1 (by
   obtain rfl:i=x:=by omega
   exact hi)))
  refine ⟨dE.trans ⟨by simp,Gv h (ba (h v (QI hv)).w),fun i hi=>hi.set hv fun k=>?_,fun i hi=>hi.set hv fun k=>?_⟩ i1,?_,fun p hp=>?_⟩
  ·have:=hr.1; unfold isPd at k; omega
  ·have:=hr.1; have:=k.1; omega
  ·rw [i2,total_set hv];simp only [JJ];omega
  ·rcases Z6.1 hp with rfl | hp
   ·exact ⟨hb.1,rfl⟩
   ·exact i3 p hp
end
end
section
open Go Go.RowKit
structure GE (c:Nat→Int) :Prop where
 g:Good c
 gc:I4 c
 q0:1≤c 1
 q1:c 1≤4096
 a2:1≤c 2
 a23:c 2≤c 3
 a3:c 3≤c 4
 a4:c 4≤1152921504606846976
 m5:1≤c 5
 q8:1≤c 8
 m17:0≤c 17
 r0:1≤c 12
 r1:c 12≤4096
theorem Bu {c:Nat→Int}(hf:Wj c)(h:P6 c=0) :GE c:=by
 have g:=bd hf h;have gc:=CK hf h
 rcases Oo c with ⟨_,hb⟩ | ⟨k,_,_,_,e⟩
 ·have h1:=Vm (hb 1 Ze);have h2:decide (1≤c 2)=true:=hb 2 Ze;have h3:decide (c 2≤c 3)=true:=hb 3 Ze;have h4:=Vm (hb 4 Ze);have h5:=Vm (hb 5 Ze);have h8:decide (1≤c 8)=true:=hb 8 Ze;have We:=Vm (hb 12 Ze);have h17:=Vm (hb 17 Ze);simp at h2 h3 h8;unfold cb at h4;exact ⟨g,gc,h1.1,h1.2,h2,h3,h4.1,h4.2,h5.1,h8,h17.1,We.1,We.2⟩
 ·omega
structure Inv (c:Nat→Int)(k:Nat)(s:Sg) :Prop where
 len:(s.V.length:Int)≤c 0
 vok: ∀v ∈ s.V,Vok s.ep v
 sum:ZA s.V+s.P+s.B=s.D
 p0:0≤s.P
 b0:0≤s.B
 d1:s.D≤18446744073709551615
 cap:s.D - s.P - s.B≤c 4
 pdl:(s.pd.length:Int)≤c 1
 fl:(s.F.length:Int)≤c 1
 wl:(s.W.length:Int)≤c 1
 mgl:(s.mg.length:Int)≤c 1
 ptl:(s.pt.length:Int)≤c 1
 pdx: ∀i ∈ s.pd,Bl s.V isPd i
 pdn:s.pd.Nodup
 lnx: ∀i ∈ s.F++s.W,Bl s.V Dv i
 lnn:(s.F++s.W).Nodup
 ptf: ∀r ∈ s.pt,UY r
 cu:s.cu≤s.V.length
 cy0:0≤s.cy
 cy1:s.cy≤18446744073709551615
 bk0:0≤s.bk
 bk1:s.bk≤k
 ep0:0≤s.ep
 ep1:s.ep≤s.bk
 epq:s.ep=s.bk/c 13
theorem inv0 {c:Nat→Int}(hc:GE c) :Inv c 0 cW:=by
 have:=hc.g.cap0;have:=hc.q0;have:=hc.a2;have:=hc.a23;have:=hc.a3;refine ⟨?_,?_,rfl,?_,?_,?_,?_,?_,?_,?_,?_,?_,?_,?_,?_,?_,?_,?_,?_,?_,?_,?_,?_,?_,?_⟩
 all_goals first | (simp [cW]; done) | (simp [cW]; omega)
section
variable {c:Nat→Int} {k:Nat} {s:Sg}
theorem Inv.fits (h:Inv c k s) : ∀v ∈ s.V,Yq v:=fun v hv=>(h.vok v hv).fit
theorem Inv.total (h:Inv c k s)(hc:GE c) :0≤ZA s.V∧ZA s.V≤c 4∧ZA s.V≤1152921504606846976:=by
 have:=total_nonneg h.fits;have:=h.sum;have:=h.cap;have:=hc.a4;omega
theorem Inv.next (h:Inv c k s) :Inv c (k+1) s:= { h with bk1:=by have:=h.bk1; omega}
theorem MK {l:List Int}{x:Int}(h:l.Nodup)(hx:x ∉ l) :(l++[x]).Nodup:=by
 rw [Jf];exact ⟨h,by simp,fun a ha b hb=>by rw [Y5] at hb; subst hb; exact fun e=>hx (e▸ha)⟩
theorem vq (hc:GE c)(h:Inv c k s){x:Int}(h0:Nl c s x=0) :Inv c (k+1) (Hn s x):=by
 unfold Nl at h0
 by_cases c1:x < c 2∨c 3 < x
 ·rw [if_pos c1] at h0; simp at h0
 rw [if_neg c1] at h0
 by_cases c2:c 0≤(s.V.length:Int)
 ·rw [if_pos c2] at h0; simp at h0
 rw [if_neg c2] at h0
 by_cases c3:c 1≤(s.pd.length:Int)
 ·rw [if_pos c3] at h0; simp at h0
 rw [if_neg c3] at h0
 by_cases c4:c 4 -(s.D - s.P - s.B)< x
 ·rw [if_pos c4] at h0; simp at h0
 rw [if_neg c4] at h0
 by_cases c5:18446744073709551615 < s.D+x
 ·rw [if_pos c5] at h0; simp at h0
 have a2:=hc.a2;have a3:=hc.a3;have a4:=hc.a4;have qg:Bl (s.V++[MJ x]) isPd (s.V.length:Int):=⟨s.V.length,MJ x,rfl,by simp,rfl⟩;refine { h with len:=?_,vok:=?_,sum:=?_,d1:=?_,cap:=?_,pdl:=?_,pdx:=?_,pdn:=?_,lnx:=?_,cu:=?_,bk1:=?_}
 ·simp only [Hn,ZN,Y9]; omega
 ·intro v hv;simp only [Hn,YK,Y5] at hv
  rcases hv with hv | rfl
  ·exact h.vok v hv
  ·exact re Ze Ze
 ·simp only [Hn];rw [UP];have:=h.sum;simp only [ZA,MJ];omega
 ·simp only [Hn]; omega
 ·simp only [Hn]; omega
 ·simp only [Hn,ZN,Y9]; omega
 ·intro i hi;simp only [Hn,YK,Y5] at hi ⊢
  rcases hi with hi | rfl
  ·exact (h.pdx i hi).append
  ·exact qg
 ·exact MK h.pdn fun hm=>by have:=(h.pdx _ hm).lt; omega
 ·exact fun i hi=>(h.lnx i hi).append
 ·simp only [Hn,ZN,Y9]; have:=h.cu; omega
 ·have:=h.bk1; simp only [Hn]; omega
theorem iW {i cl:Int}(h0:iV c s i cl=0) :GI s.V i=false∧(Wn s (Vy s.V i)).1=0∧((UW s.F s.W cl).length:Int)< c 1∧ ∃d,Ou c s cl (Vy s.V i)=some d:=by
 unfold iV at h0
 by_cases c1:GI s.V i=true
 ·rw [if_pos c1] at h0; simp at h0
 rw [if_neg c1] at h0
 by_cases c2:(Wn s (Vy s.V i)).1≠0
 ·rw [if_pos c2] at h0; exact absurd h0 c2
 rw [if_neg c2] at h0
 by_cases c3:c 1≤((UW s.F s.W cl).length:Int)
 ·rw [if_pos c3] at h0; simp at h0
 rw [if_neg c3] at h0
 by_cases c4:Ou c s cl (Vy s.V i)=none
 ·rw [if_pos c4] at h0; simp at h0
 exact ⟨by simpa using c1,by simpa using c2,by omega,Option.ne_none_iff_exists'.1 c4⟩
theorem Ax {F W:List Int}{x:Int}(h:(F++W).Nodup)(hx:x ∉ F++W) :(F++[x]++W).Nodup:=by
 rw [XK,List.singleton_append];exact List.perm_middle.nodup_iff.2 (Qx.2 ⟨hx,h⟩)
theorem pz (hc:GE c)(h:Inv c k s){i cl:Int}(Ek:cl=0∨cl=1)(h0:iV c s i cl=0) :Inv c (k+1) (P9 c s i cl):=by
 obtain ⟨c1,c2,c3,_⟩:=iW h0;obtain ⟨n,Ak,hv⟩:=Gg c1;have q0:=hc.q0;generalize hy:Vy s.V i=v at*;obtain ⟨Gm,je⟩:=RJ (e:=s.ep) (v:=v) c2;have Og:=uT (h.vok v (QI hv)) c2 (tI c s i cl);have e1:i.toNat=n:=by omega
 have tQ:i ∉ s.F++s.W:=fun hm=>by
  exact ZgP
 have hV:(P9 c s i cl).V=s.V.set n { (Qn [Xs s.ep,Qm 2] v).2 with dl:=tI c s i cl}:=by
  simp only [P9,e1,hy];rfl
 have hme:Bl (P9 c s i cl).V Dv i:=⟨n,_,Ak,by rw [hV,YQ (Zh.1 hv).1],by rw [je]; exact ⟨rfl,((h.vok v (QI hv)).lo (.inr Gm)).1⟩⟩;have hold: ∀j ∈ s.F++s.W,Bl (P9 c s i cl).V Dv j:=fun j hj=>by
  rw [hV];exact (h.lnx j hj).set hv fun hq=>by have:=hq.1; omega
 have hFW:((P9 c s i cl).F=s.F++[i]∧(P9 c s i cl).W=s.W∧(s.F.length:Int)< c 1)∨((P9 c s i cl).F=s.F∧(P9 c s i cl).W=s.W++[i]∧(s.W.length:Int)< c 1):=by
  rcases Ek with rfl | rfl
  ·have:s.F.length < (c 1).toNat:=by simp only [UW,if_true] at c3; omega
   exact .inl ⟨by simp [P9,pushF,this],by simp [P9,pushV],by omega⟩
  ·have:s.W.length < (c 1).toNat:=by simp [UW] at c3; omega
   exact .inr ⟨by simp [P9,pushF],by simp [P9,pushV,this],by omega⟩
 refine ⟨?_,?_,?_,h.p0,h.b0,h.d1,h.cap,h.pdl,?_,?_,h.mgl,h.ptl,?_,h.pdn,?_,?_,h.ptf,?_,h.cy0,h.cy1,h.bk0,?_,h.ep0,h.ep1,h.epq⟩
 ·rw [hV,Xw]; exact h.len
 ·rw [hV]; exact Gv h.vok Og
 ·rw [hV,total_set hv,je];have:=h.sum;simp only [P9];omega
 ·rcases hFW with ⟨e2,e3,h4⟩ | ⟨e2,e3,h4⟩
  ·rw [e2,ZN,Y9]; omega
  ·rw [e2]; exact h.fl
 ·rcases hFW with ⟨e2,e3,h4⟩ | ⟨e2,e3,h4⟩
  ·rw [e3]; exact h.wl
  ·rw [e3,ZN,Y9]; omega
 ·exact Zax
 ·intro j hj
  by_cases Mj:j=i
  ·subst Mj; exact hme
  ·refine hold j ?_
   rcases hFW with ⟨e2,e3,h4⟩ | ⟨e2,e3,h4⟩
   ·rw [e2,e3] at hj;simp only [YK,Y5] at hj ⊢;exact ZaB
   ·rw [e2,e3] at hj;simp only [YK,Y5] at hj ⊢
    rcases hj with hj | hj | hj
    ·exact .inl hj
    ·exact .inr hj
    ·exact absurd hj Mj
 ·rcases hFW with ⟨e2,e3,h4⟩ | ⟨e2,e3,h4⟩
  ·rw [e2,e3]; exact Ax h.lnn tQ
  ·rw [e2,e3,←XK]; exact MK h.lnn tQ
 ·rw [hV,Xw]; exact h.cu
 ·have:=h.bk1; simp only [P9]; omega
theorem jK {i:Int}(h0:WH c s i=0) :GI s.V i=false∧(Hc (Vy s.V i) s.ep c).1=0∧((Vy s.V i).st=2→(s.F.length:Int)< c 1):=by
 unfold WH at h0
 by_cases c1:GI s.V i=true
 ·rw [if_pos c1] at h0; simp at h0
 rw [if_neg c1] at h0
 by_cases c2:(Hc (Vy s.V i) s.ep c).1≠0
 ·rw [if_pos c2] at h0; exact absurd h0 c2
 rw [if_neg c2] at h0
 by_cases c3:(Vy s.V i).st=2∧c 1≤(s.F.length:Int)
 ·rw [if_pos c3] at h0; simp at h0
 exact ⟨by simpa using c1,by simpa using c2,fun h=>by omega⟩
theorem Zc5 (hc:GE c)(h:Inv c k s){i:Int}(h0:WH c s i=0) :Inv c (k+1) (M8 c s i):=by
 obtain ⟨c1,c2,c3⟩:=jK h0;obtain ⟨n,Ak,hv⟩:=Gg c1;generalize hy:Vy s.V i=v at*;have s11:=hc.g.sla0;have s10:=hc.g.unb0;obtain ⟨nX,Gm,hex,fc,hba⟩:=NQ c2;have Og:=na (h.vok v (QI hv)) c2 Ze;have e1:i.toNat=n:=by omega
 obtain ⟨p0,p1⟩:=LL c (h.vok v (QI hv)).fit;have hN:tW v s.ep c=penQ v c:=by unfold tW; rw [if_pos c2]
 have hV:(M8 c s i).V=s.V.set n (Hc v s.ep c).2:=by simp only [M8,e1,hy]
 have hB:(M8 c s i).B=s.B+penQ v c:=by simp only [M8,hy,hN]
 have hF:(M8 c s i).F=if v.st=2 then s.F++[i] else s.F:=by simp only [M8,hy]
 have hold: ∀j ∈ s.F++s.W,Bl (M8 c s i).V Dv j:=fun j hj=>by
  rw [hV];refine (h.lnx j hj).set hv fun hq=>⟨?_,hex.trans hq.2⟩
  have:=hq.1
  rcases Gm with ⟨_,h1⟩ | ⟨h1,_⟩
  ·exact h1
  ·omega
 refine ⟨?_,?_,?_,h.p0,?_,h.d1,?_,h.pdl,?_,h.wl,h.mgl,h.ptl,?_,h.pdn,?_,?_,h.ptf,?_,h.cy0,h.cy1,h.bk0,?_,h.ep0,h.ep1,h.epq⟩
 ·rw [hV,Xw]; exact h.len
 ·rw [hV]; exact Gv h.vok Og
 ·rw [hV,total_set hv,hB,hba];have:=h.sum;simp only [M8];omega
 ·rw [hB]; have:=h.b0; omega
 ·rw [hB]; have:=h.cap; simp only [M8]; omega
 ·rw [hF]
  split
  ·rename_i h2; have:=c3 h2; rw [ZN,Y9]; omega
  ·exact h.fl
 ·exact Zax
 ·intro j hj
  by_cases h2:v.st=2
  ·rw [hF,if_pos h2] at hj
   by_cases Mj:j=i
   ·subst Mj;refine ⟨n,_,Ak,by rw [hV,YQ (Zh.1 hv).1],?_,hex.trans ((h.vok v (QI hv)).lo (.inr h2)).1⟩
    rcases Gm with ⟨_,h1⟩ | ⟨h1,_⟩
    ·exact h1
    ·omega
   ·refine hold j ?_;simp only [M8,YK,Y5] at hj ⊢;exact ZaB
  ·rw [hF,if_neg h2] at hj;exact hold j hj
 ·by_cases h2:v.st=2
  ·rw [hF,if_pos h2];refine Ax h.lnn fun hm=>?_
   exact ZgP
  ·rw [hF,if_neg h2]; exact h.lnn
 ·rw [hV,Xw]; exact h.cu
 ·have:=h.bk1; simp only [M8]; omega
theorem Zbm (h:Inv c k s){p:Int × Int}(h0:nJ c s p=0) :Inv c (k+1) { s with mg:=s.mg++[p]}:=by
 unfold nJ at h0
 by_cases c1:Db s.V p (c 6)≠0
 ·rw [if_pos c1] at h0; exact absurd h0 c1
 rw [if_neg c1] at h0
 by_cases c2:c 1≤(s.mg.length:Int)
 ·rw [if_pos c2] at h0; simp at h0
 exact { h with mgl:=by simp only [ZN,Y9]; omega,bk1:=by have:=h.bk1; simp only; omega}
theorem ZcM (h:Inv c k s){r:Rq}(hr:UY r)(h0:ru c s r=0) :Inv c (k+1) { s with pt:=s.pt++[r]}:=by
 unfold ru at h0
 by_cases c1:My s.V r≠0
 ·rw [if_pos c1] at h0; exact absurd h0 c1
 rw [if_neg c1] at h0
 by_cases c2:c 1≤(s.pt.length:Int)
 ·rw [if_pos c2] at h0; simp at h0
 have hp: ∀x ∈ s.pt++[r],UY x:=fun x hx=>by
  simp only [YK,Y5] at hx
  rcases hx with hx | rfl
  ·exact h.ptf x hx
  ·exact hr
 exact { h with ptl:=by simp only [ZN,Y9]; omega,ptf:=hp,bk1:=by have:=h.bk1; simp only; omega}
end
end
section
open Go Go.RowKit
theorem aq (om:Int→Int)(F W:List Int)(B:Int) :((asg om F W B).1.map (·.1)++((asg om F W B).2.1++(asg om F W B).2.2.1)).Perm (F++W):=by
 refine Fo (P:=fun F W B r=>(r.1.map (·.1)++(r.2.1++r.2.2.1)).Perm (F++W)) (fun B=> .refl _) (fun F W B _ _=> .refl _) (fun F W B r hb hx ih=>?_) _ F W B rfl;rw [YW,Ym]
 match F,W,hb with
 | x::F,W,_=>exact ih.cons x
 | [],x::W,_=>exact ih.cons x
theorem iP (om:Int→Int)(F W:List Int)(B:Int) :(asg om F W B).2.1.length≤F.length∧(asg om F W B).2.2.1.length≤W.length:=
 Fo (P:=fun F W B r=>r.2.1.length≤F.length∧r.2.2.1.length≤W.length) (fun B=>⟨Zg _,Zg _⟩) (fun F W B _ _=>⟨Zg _,Zg _⟩) (fun F W B r hb hx ih=>⟨Yk ih.1 (rD F W).1,Yk ih.2 (rD F W).2⟩) _ F W B rfl
theorem jb (L:List Bool)(s:Nat)(v p:Int) : ∀(f k:Nat),L.length≤k+f→(∀j,j < k→(j:Int)< v∧j < L.length∧((JW L s j).length:Int)< p)→Nc L s v p (goN L s v p f k)
 | 0,k,hf,h=>⟨.inr (.inl (show L.length≤k by omega)),h⟩
 | f+1,k,hf,h=>by
  unfold goN
  by_cases hc:v≤(k:Int)∨L.length≤k∨p≤((JW L s k).length:Int)
  ·rw [if_pos hc]; exact ⟨hc,h⟩
  ·rw [if_neg hc];refine jb L s v p f (k+1) Ze fun j hj=>?_
   rcases YA j k with ER | ER
   ·exact h j ER
   ·obtain rfl:j=k:=by omega
    omega
theorem Rl (L:List Bool)(s:Nat)(v p:Int) :Nc L s v p (FZ L s v p):=jb L s v p L.length 0 Ze (fun j hj=>by omega)
section
variable {c:Nat→Int} {k:Nat} {s:Sg}
theorem vR {V:List Yd}{p:Yd→Prop}{n:Nat}{v:Yd}(hv:V[n]?=some v)(h:p v) :Bl V p (n:Int):=⟨n,v,rfl,hv,h⟩
def X9 (s:Sg) :Sg:= { s with bk:=s.bk+1,ep:=s.ep+1}
theorem Zbj (hc:GE c)(h:Inv c k s) :0≤ZY (BJ (X9 s))∧ZY (BJ (X9 s))≤18446744073709551615∧ZA (BJ (X9 s))=ZA s.V∧(BJ (X9 s)).length=s.V.length∧(∀v ∈ BJ (X9 s),Yq v):=by
 obtain ⟨g1,g2,_⟩:=Cn h.vok h.ep0;have e:BJ (X9 s)=(s.V.map (leaveV (s.ep+1))).map (ripenV (s.ep+1)):=rfl;rw [e];have hf: ∀v ∈ (s.V.map (leaveV (s.ep+1))).map (ripenV (s.ep+1)),Yq v:=fun v hv=>(g1.vok v hv).fit
 obtain ⟨a1,a2⟩:=active_le hf;have:=h.total hc;exact ⟨a1,by omega,g2,g1.len,hf⟩
theorem AV {V:List Yd}(h: ∀v ∈ V,Yq v)(i:Int) :0≤wV V i:=by
 unfold wV Kz
 split
 ·rw [Zq]
  cases hx:(Q0 V)[i.toNat]? with
  | none=>simp
  | some x=>
   have hm:=ZE hx;unfold Q0 at hm;obtain ⟨v,hv,rfl⟩:=Yj.1 hm;exact (h v hv).bal.1
 ·exact XI _
theorem RW (hc:GE c) :1≤Ob c s:=by
 have:=hc.g.chu0;unfold Ob Ej
 split
 ·exact this
 ·split <;> omega
theorem ZeZ {B x:Int}(h0:0≤B)(h1:B≤18446744073709551615)(hx:0≤x) :0≤gr B x∧gr B x≤18446744073709551615:=by
 unfold gr
 split <;> omega
theorem eJ {b L:Int}(h:1≤L) :(b+1)/L=b/L+if(b+1)%L=0 then 1 else 0:=by
 have h1:=Int.emod_add_mul_ediv b L;have h2:=Int.emod_add_mul_ediv (b+1) L;have h3:=Gr b (show L≠0 by omega);have h4:=GB b (show 0 < L by omega);have h5:=Gr (b+1) (show L≠0 by omega);have h6:=GB (b+1) (show 0 < L by omega);have hd:L*((b+1)/L - b/L)=b%L+1 -(b+1)%L:=by rw [Int.mul_sub]; omega
 have e:(b+1)/L=b/L+((b+1)/L - b/L):=by omega
 rw [e]
 congr 1
 generalize (b+1)/L - b/L=d at hd;have lo: ∀x,d≤x→L*d≤L*x:=fun x hx=>Vw hx Ze
 have hi: ∀x,x≤d→L*x≤L*d:=fun x hx=>Vw hx Ze
 split
 ·have a1: ¬d≤0:=fun h=>by have:=lo 0 h; rw [Int.mul_zero] at this; omega
  have a2: ¬2≤d:=fun h=>by have:=hi 2 h; omega
  omega
 ·have a1: ¬d≤ -1:=fun h=>by have:=lo (-1) h; omega
  have a2: ¬1≤d:=fun h=>by have:=hi 1 h; omega
  omega
theorem Zbi (hc:GE c)(h:Inv c k s)(hk:k≤1000000)(Ai:(s.bk+1)%c 13=0) :Inv c (k+1) (bdS c (X9 s)):=by
 obtain ⟨a0,a1,a2,a3,a4⟩:=Zbj hc h;obtain ⟨g1,g2,g3⟩:=Cn h.vok h.ep0;have bk1:=h.bk1;have ep1:=h.ep1;have ep0:=h.ep0;have bk0:=h.bk0;have u0:=hc.g.unb0;have u1:=hc.g.unb1;have hl:Pn (s.ep+1+1) (c 10):=by unfold Pn SK; omega
 have hX:1≤Ob c (X9 s):=RW hc;obtain ⟨b0,b1⟩:=ZeZ h.cy0 h.cy1 (show 0≤Ob c (X9 s) by omega);have qu:((Oa c (X9 s)).1.map (·.1)++((Oa c (X9 s)).2.1++(Oa c (X9 s)).2.2.1)).Perm (s.F++s.W):=aq _ _ _ _;have tP:=qu.nodup_iff.2 h.lnn;rw [Jf] at tP;obtain ⟨n1,n2,n3⟩:=tP;have El: ∀i,i ∈ (Oa c (X9 s)).1.map (·.1)∨i ∈ (Oa c (X9 s)).2.1++(Oa c (X9 s)).2.2.1→Bl (BJ (X9 s)) Dv i:=fun i hi=>
  g1.qd i (h.lnx i (qu.mem_iff.1 (YK.2 hi)))
 obtain ⟨r1,r2,r3,r4,r5⟩:=RR hl Ze (Oa c (X9 s)).1 (BJ (X9 s)) g1.vok n1 (fun p hp=>El p.1 (.inl (JH hp)));have e9:(s.pd.take (WT c (X9 s))).Nodup:=h.pdn.sublist (List.take_sublist _ _);have qt: ∀i ∈ s.pd,Bl (Cm c (X9 s)) isPd i:=fun i hi=>r4 i (g1.pd i (h.pdx i hi))
 obtain ⟨t1,t2,t3,t4,t5⟩:=CF (s.pd.take (WT c (X9 s))) (Cm c (X9 s)) r2 e9 (fun i hi=>qt i (ZP hi));obtain ⟨m1,m2⟩:=wP (c 6) (s.mg.take (BI c s.mg)) t2;have lM:ZA (kP c (X9 s))=ZA s.V:=by
  rw [Uy,show kP c (X9 s)=P8 1 (Cm c (X9 s)) (s.pd.take (WT c (X9 s))) from rfl,t3,show Cm c (X9 s)=DP c (s.ep+1+1) (BJ (X9 s)) (Oa c (X9 s)).1 from rfl,r3,←Uy,a2]
 have hlen:(bdS c (X9 s)).V.length=s.V.length:=(m1.len.trans t1).trans (r1.trans a3);have hlens:=iO (wV (BJ (X9 s))) s.F s.W (gr s.cy (Ob c (X9 s)));refine ⟨?_,m1.vok,?_,h.p0,h.b0,h.d1,h.cap,?_,?_,?_,?_,h.ptl,?_,?_,?_,n2,h.ptf,?_,?_,?_,?_,?_,?_,?_,?_⟩
 ·rw [hlen]; exact h.len
 ·have e:ZA (bdS c (X9 s)).V=ZA s.V:=m2.trans lM;rw [e]; exact h.sum
 ·have:=h.pdl;show ((s.pd.drop (WT c (X9 s))).length:Int)≤c 1;rw [Q7]; omega
 ·have hp:=iP (wV (BJ (X9 s))) s.F s.W (gr s.cy (Ob c (X9 s)));have:=h.fl;show ((asg (wV (BJ (X9 s))) s.F s.W (gr s.cy (Ob c (X9 s)))).2.1.length:Int)≤c 1;omega
 ·have hp:=iP (wV (BJ (X9 s))) s.F s.W (gr s.cy (Ob c (X9 s)));have:=h.wl;show ((asg (wV (BJ (X9 s))) s.F s.W (gr s.cy (Ob c (X9 s)))).2.2.1.length:Int)≤c 1;omega
 ·have:=h.mgl;show ((s.mg.drop (BI c s.mg)).length:Int)≤c 1;rw [Q7]; omega
 ·intro i hi;have hi:i ∈ s.pd.drop (WT c (X9 s)):=hi;refine m1.pd i (t5 i (fun hm=>?_) (qt i (Y6 hi)));have hn:=h.pdn;rw [←List.take_append_drop (WT c (X9 s)) s.pd,Jf] at hn;exact hn.2.2 i hm i hi rfl
 ·exact h.pdn.sublist (List.drop_sublist _ _)
 ·intro i hi;exact m1.qd i (t4 i (r5 i (fun hm=>n3 i hm i hi rfl) (El i (.inr hi))))
 ·rw [hlen]; exact h.cu
 ·show 0≤EI (Oa c (X9 s));unfold EI
  split
  ·exact oF _ _ _ _ b0
  ·exact XI _
 ·show EI (Oa c (X9 s))≤18446744073709551615;unfold EI
  split
  ·have e1:=u6 (wV (BJ (X9 s))) s.F s.W (gr s.cy (Ob c (X9 s)));have e2:=di (AV a4) (asg (wV (BJ (X9 s))) s.F s.W (gr s.cy (Ob c (X9 s)))).1;show (asg (wV (BJ (X9 s))) s.F s.W (gr s.cy (Ob c (X9 s)))).2.2.2≤_;omega
  ·decide
 ·show 0≤s.bk+1;omega
 ·show s.bk+1≤((k+1:Nat) :Int);omega
 ·show 0≤s.ep+1;omega
 ·show s.ep+1≤s.bk+1;omega
 ·show s.ep+1=(s.bk+1)/c 13;rw [eJ hc.g.len0,if_pos Ai,h.epq]
theorem OE (hc:GE c)(h:Inv c k s)(hk:k≤1000000) :Inv c (k+1) (L4 c s):=by
 unfold L4
 split
 ·rename_i hb; exact Zbi hc h hk hb
 ·rename_i hb
  have:=h.bk0;have:=h.bk1;have:=h.ep1;exact { h with bk0:=by simp only; omega,bk1:=by simp only; omega,ep1:=by simp only; omega,epq:=by simp only; rw [eJ hc.g.len0,if_neg hb,h.epq]; omega}
theorem Lr (a b:List Pm) :JJ (a++b)=JJ a+JJ b:=by
 induction a with
 | nil=>simp [JJ]
 | cons p a ih=>simp only [Ym,JJ,ih]; omega
theorem jN (l:List Py) :JJ (pmOf l)=Ux l:=by
 induction l with
 | nil=>rfl
 | cons p l ih=>simp only [pmOf,YW,JJ,Ux] at*; rw [ih]
theorem ZfV {V:List Yd}{i:Nat}(h:(M7 V).getD i false=true) : ∃v,V[i]?=some v∧v.st=5:=by
 unfold M7 at h;rw [Zq,ZR] at h
 cases hx:V[i]? with
 | none=>rw [hx] at h; simp at h
 | some v=>rw [hx] at h; exact ⟨v,rfl,by simpa using h⟩
theorem LV (hc:GE c)(h:Inv c k s) :dE s.ep s.V (F8 c s)∧(AQ c s).Nodup∧ ∀i ∈ AQ c s,Bl (F8 c s) (MH s.ep) ((i:Nat) :Int):=by
 have hm:0≤c 5:=by have:=hc.m5; omega
 have g:=xq (V:=s.V) hm (s.pt.take (EC c s)) (fun r hr=>h.ptf r (ZP hr)) h.vok;have Gm:=Rl (M7 (F8 c s)) s.cu (c 14 -(EC c s:Nat)) (c 15 -((tkP c s).length:Nat));refine ⟨g,Pp Gm.le,fun i hi=>?_⟩;obtain ⟨v,hv,h5⟩:=ZfV (LK hi).2;exact vR hv ⟨h5,(g.vok v (QI hv)).s5 h5⟩
theorem sw (hc:GE c)(h:Inv c k s) :Inv c k (IA c s)∧JJ (Rm c s)=ZA s.V - ZA (IA c s).V∧ ∀p ∈ Rm c s,0≤p.am:=by
 obtain ⟨g,hn,hr⟩:=LV hc h;obtain ⟨f1,f2,f3⟩:=EN (AQ c s) (F8 c s) g.vok hn hr;have hm:0≤c 5:=by have:=hc.m5; omega
 have g2:=g.trans f1;have hs:=FH (c 5) (s.pt.take (EC c s)) s.V;have hF:JJ (Rm c s)=ZA s.V - ZA (IA c s).V:=by
  unfold Rm tkP;rw [Lr,jN];show _=ZA s.V - ZA (Ji s.ep (F8 c s) (AQ c s));rw [f2];have:ZA (F8 c s)=ZA s.V - Ux (Kf (c 5) s.V (s.pt.take (EC c s))):=hs;omega
 have SI: ∀p ∈ Rm c s,0≤p.am:=fun p hp=>by
  unfold Rm at hp
  rcases YK.1 hp with hp | hp
  ·obtain ⟨_,h2⟩:=DJ (c 5) hm (s.pt.take (EC c s)) s.V (fun r hr=>h.ptf r (ZP hr)) h.fits;unfold tkP pmOf at hp;obtain ⟨y,hy,rfl⟩:=Yj.1 hp;have:=(h2 y hy).1;simp only;omega
  ·exact (f3 p hp).1
 have hsum0:0≤JJ (Rm c s):=by
  generalize Rm c s=l at SI;clear hF
  induction l with
  | nil=>simp [JJ]
  | cons p l ih=>
   have:=ih (fun q hq=>SI q (by simp [hq]));have:=SI p ZO;simp only [JJ];omega
 have Gm:=Rl (M7 (F8 c s)) s.cu (c 14 -(EC c s:Nat)) (c 15 -((tkP c s).length:Nat));refine ⟨⟨?_,g2.vok,?_,?_,h.b0,h.d1,?_,h.pdl,h.fl,h.wl,h.mgl,?_,fun i hi=>g2.pd i (h.pdx i hi),h.pdn,fun i hi=>g2.qd i (h.lnx i hi),h.lnn,fun r hr=>h.ptf r (Y6 hr),?_,h.cy0,h.cy1,h.bk0,h.bk1,h.ep0,h.ep1,h.epq⟩,hF,SI⟩
 ·have e:(IA c s).V.length=s.V.length:=g2.len;rw [e]; exact h.len
 ·have:=h.sum;show ZA (IA c s).V+(s.P+JJ (Rm c s))+s.B=s.D;omega
 ·have:=h.p0;show 0≤s.P+JJ (Rm c s);omega
 ·have:=h.cap;show s.D -(s.P+JJ (Rm c s)) - s.B≤c 4;omega
 ·have:=h.ptl;show ((s.pt.drop (EC c s)).length:Int)≤c 1;rw [Q7]; omega
 ·have e:(IA c s).V.length=(F8 c s).length:=f1.len;rw [e];show DS (F8 c s).length s.cu (nt c s)≤(F8 c s).length;have:=h.cu;have:=g.len;unfold DS
  split
  ·omega
  ·have hle:nt c s≤(M7 (F8 c s)).length:=Gm.le;have:(M7 (F8 c s)).length=(F8 c s).length:=by simp [M7]
   exact Nat.le_of_lt (Nat.mod_lt _ Ze)
theorem su (hc:GE c)(h:Inv c k s)(hk:k≤1000000) :Inv c (k+1) (nw c s).2:=(sw hc (OE hc h hk)).1
theorem rj (hc:GE c)(h:Inv c k s)(hk:k≤1000000)(o:Oq)(ho:Kg o) :Inv c (k+1) (opO c s o).2:=by
 unfold opO
 by_cases h1:o.kd=1
 ·rw [if_pos h1]; unfold DR; split
  ·rename_i h0; exact vq hc h h0
  ·exact h.next
 rw [if_neg h1]
 by_cases h2:o.kd=2
 ·rw [if_pos h2]; unfold exO; split
  ·rename_i h0; exact pz hc h (.inr rfl) h0
  ·exact h.next
 rw [if_neg h2]
 by_cases h3:o.kd=3
 ·rw [if_pos h3]; unfold exO; split
  ·rename_i h0; exact pz hc h (.inl rfl) h0
  ·exact h.next
 rw [if_neg h3]
 by_cases h4:o.kd=4
 ·rw [if_pos h4]; unfold Rj; split
  ·rename_i h0; exact Zc5 hc h h0
  ·exact h.next
 rw [if_neg h4]
 by_cases h5:o.kd=5
 ·rw [if_pos h5]; unfold IX; split
  ·rename_i h0; exact Zbm h h0
  ·exact h.next
 rw [if_neg h5]
 by_cases h6:o.kd=6
 ·rw [if_pos h6]; unfold I2; split
  ·rename_i h0; exact ZcM h ⟨ho.2.1,ho.2.2.2⟩ h0
  ·exact h.next
 rw [if_neg h6]
 split
 ·exact su hc h hk
 ·exact h.next
end
end
section
open Go Go.RowKit
section
variable {c:Nat→Int} {k:Nat} {s:Sg}
theorem mn (o:Oq)(h:(opO c s o).1.cd≠0) :(opO c s o).2=s∧(opO c s o).1=UN s o.kd (opO c s o).1.cd:=by
 unfold opO at h ⊢
 by_cases h1:o.kd=1
 ·rw [if_pos h1] at h ⊢;unfold DR at h ⊢;exact j7
 rw [if_neg h1] at h ⊢
 by_cases h2:o.kd=2
 ·rw [if_pos h2] at h ⊢;exact Zaq
 rw [if_neg h2] at h ⊢
 by_cases h3:o.kd=3
 ·rw [if_pos h3] at h ⊢;exact Zaq
 rw [if_neg h3] at h ⊢
 by_cases h4:o.kd=4
 ·rw [if_pos h4] at h ⊢;unfold Rj at h ⊢;exact j7
 rw [if_neg h4] at h ⊢
 by_cases h5:o.kd=5
 ·rw [if_pos h5] at h ⊢;unfold IX at h ⊢;exact j7
 rw [if_neg h5] at h ⊢
 by_cases h6:o.kd=6
 ·rw [if_pos h6] at h ⊢;unfold I2 at h ⊢;exact j7
 rw [if_neg h6] at h ⊢
 by_cases h7:o.kd=7
 ·rw [if_pos h7] at h;exact absurd rfl h
 ·rw [if_neg h7] at h ⊢; exact BV
theorem NF (o:Oq)(h:o.kd≠7) :(opO c s o).1.la=[]∧(opO c s o).1.lp=[]∧(opO c s o).1.vs=0∧(opO c s o).2.P=s.P∧(opO c s o).2.bk=s.bk∧(opO c s o).2.ep=s.ep:=by
 have R: ∀k c,(UN s k c).la=[]∧(UN s k c).lp=[]∧(UN s k c).vs=0∧s.P=s.P∧s.bk=s.bk∧s.ep=s.ep:=fun _ _=>⟨rfl,rfl,rfl,rfl,rfl,rfl⟩
 unfold opO
 split
 ·unfold DR; exact kb
 split
 ·exact ZaT
 split
 ·exact ZaT
 split
 ·unfold Rj; exact kb
 split
 ·unfold IX; exact kb
 split
 ·unfold I2; exact kb
 first | exact R _ _ | (rw [if_neg h]; exact R _ _)
theorem jx (s:Sg) :(L4 c s).P=s.P∧(L4 c s).D=s.D∧(L4 c s).B=s.B∧(L4 c s).pt=s.pt∧(L4 c s).cu=s.cu∧(L4 c s).bk=s.bk+1:=by
 unfold L4
 split <;> exact ⟨rfl,rfl,rfl,rfl,rfl,rfl⟩
theorem C0 (o:Oq) :(opO c s o).2.D=s.D+if o.kd=1∧(opO c s o).1.cd=0 then o.am else 0:=by
 by_cases h1:o.kd=1
 ·have e:opO c s o=DR c s o:=by unfold opO; rw [if_pos h1]
  rw [e];unfold DR
  split
  ·rw [if_pos ⟨h1,rfl⟩]; rfl
  ·rename_i hc
   rw [if_neg (fun h=>hc h.2)];simp
 ·rw [if_neg (fun h=>h1 h.1)];have hD:(opO c s o).2.D=s.D:=by
   unfold opO;rw [if_neg h1]
   split
   ·exact A7
   split
   ·exact A7
   split
   ·unfold Rj; split <;> rfl
   split
   ·unfold IX; split <;> rfl
   split
   ·unfold I2; split <;> rfl
   split
   ·exact (jx s).2.1
   ·rfl
  rw [hD]; omega
theorem jz (o:Oq) :(opO c s o).2.P=s.P+JJ (opO c s o).1.lp:=by
 by_cases h7:o.kd=7
 ·have e:opO c s o=nw c s:=by
   exact tx
  rw [e];show (L4 c s).P+JJ (Rm c (L4 c s))=s.P+JJ (Rm c (L4 c s));rw [(jx s).1]
 ·obtain ⟨_,h2,_,h4,_⟩:=NF (c:=c) (s:=s) o h7;rw [h2,h4];simp [JJ]
theorem ZcI (hc:GE c)(h:Inv c k s)(hk:k≤1000000)(o:Oq) : ∀p ∈ (opO c s o).1.lp,0≤p.am:=by
 by_cases h7:o.kd=7
 ·have e:opO c s o=nw c s:=by
   exact tx
  rw [e];exact (sw hc (OE hc h hk)).2.2
 ·intro p hp;rw [(NF (c:=c) (s:=s) o h7).2.1] at hp;simp at hp
theorem Sy (e:Int) : ∀(q:List Nat) (V:List Yd),(Qf e V q).length=q.length
 | [],_=>rfl
 | i::q,V=>by unfold Qf; rw [Yu,Yu,Sy e q]
theorem AR (hc:GE c)(s:Sg) :0≤((EC c s:Nat) :Int)+(nt c s:Nat)∧((EC c s:Nat) :Int)+(nt c s:Nat)≤c 14∧((Rm c s).length:Int)≤c 15:=by
 have p0:=hc.g.part;have p1:=hc.g.vis0;have p2:=hc.g.pay0;have hN:((EC c s:Nat) :Int)≤c 16:=by unfold EC Uw; omega
 have Gm:=Rl (M7 (F8 c s)) s.cu (c 14 -(EC c s:Nat)) (c 15 -((tkP c s).length:Nat));have hv:=Gm.le_v;have hp:=Gm.le_p;have hP:(tkP c s).length≤EC c s:=by
  exact Zad
 have e:(Rm c s).length=(tkP c s).length+(AQ c s).length:=by unfold Rm; rw [ZN,Sy]
 have hv:nt c s=0∨((nt c s:Nat) :Int)≤c 14 -(EC c s:Nat):=hv;have hp:(AQ c s).length=0∨(((AQ c s).length:Nat) :Int)≤c 15 -((tkP c s).length:Nat):=hp;refine ⟨by omega,by omega,?_⟩;rw [e];omega
theorem CJ (e:Int) : ∀(q:List Nat) (V:List Yd),q.Nodup→(∀i ∈ q,Bl V (MH e) (i:Nat))→
  (∀i ∈ q,∃v,(Ji e V q)[i]?=some v∧v.st=6∧v.bal=0)∧(∀i,i ∉ q→(Ji e V q)[i]?=V[i]?)∧(∀p ∈ Qf e V q,∃i ∈ q,p.ix=((i:Nat) :Int))
 | [],V,_,_=>⟨fun i hi=>by simp at hi,fun _ _=>rfl,fun p hp=>by simp [Qf] at hp⟩
 | x::q,V,hn,hq=>by
  obtain ⟨n,v,Nv,hv,hr⟩:=hq x ZO;obtain rfl:x=n:=by omega
  rw [Qx] at hn;have ha:V.getD x Z9=v:=Vg hv;obtain ⟨f1,f2⟩:=Ra hr.1 hr.2;unfold Ji Qf;rw [ha,f1];obtain ⟨i1,i2,i3⟩:=CJ e q (V.set x { v with bal:=0,st:=6}) hn.2 (fun i hi=>(hq i FO).set_ne (fun he=>hn.1 (by
   obtain rfl:i=x:=by omega
   exact hi)))
  refine ⟨fun i hi=>?_,fun i hi=>?_,fun p hp=>?_⟩
  ·rcases Z6.1 hi with rfl | hi
   ·exact ⟨_,(i2 i hn.1).trans (YQ (Zh.1 hv).1),rfl,rfl⟩
   ·exact i1 i hi
  ·rw [Z6] at hi;rw [i2 i (fun h=>hi (.inr h)),YG (fun h=>hi (.inl h.symm))]
  ·rcases Z6.1 hp with rfl | hp
   ·exact ⟨x,by simp,rfl⟩
   ·obtain ⟨i,hi,h⟩:=i3 p hp;exact ⟨i,by simp [hi],h⟩
theorem yn (hc:GE c)(h:Inv c k s) : ∀p ∈ Rm c s,∃(i:Nat) (v:Yd),p.ix=(i:Int)∧(IA c s).V[i]?=some v∧(p.fl=true→v.st=6∧v.bal=0)∧(p.fl=false→v.st=2∧c 5≤v.bal):=by
 obtain ⟨g,hn,hr⟩:=LV hc h;obtain ⟨f1,f2,f3⟩:=CJ s.ep (AQ c s) (F8 c s) hn hr;have hm:0≤c 5:=by have:=hc.m5; omega
 intro p hp;unfold Rm at hp
 rcases YK.1 hp with hp | hp
 ·have hq: ∀r ∈ s.pt.take (EC c s),UY r:=fun r hr=>h.ptf r (ZP hr)
  obtain ⟨s1,s2⟩:=DJ (c 5) hm (s.pt.take (EC c s)) s.V hq h.fits;unfold tkP pmOf at hp;obtain ⟨y,hy,rfl⟩:=Yj.1 hp;obtain ⟨y0,y1,i,v,y2,y3,y4,y5⟩:=s2 y hy;obtain ⟨u,hu,e,x0,x1⟩:=s1 i v y3;have Kt:i ∉ AQ c s:=fun hi=>by
   obtain ⟨m,u',e',hu',qw⟩:=hr i hi;obtain rfl:i=m:=by omega
   rw [show (F8 c s)[i]?=some u from hu] at hu';obtain rfl:=ZZ hu';have:=qw.1;rw [e] at this;simp only at this;omega
  refine ⟨i,u,y2,(f2 i Kt).trans hu,fun hf=>?_,fun _=>?_⟩
  ·simp only [y1] at hf; exact absurd hf ZO
  ·rw [e];refine ⟨y4,?_⟩;have hx:0 < KF i (Kf (c 5) s.V (s.pt.take (EC c s))):=by
    obtain ⟨j,hj⟩:=Uh hy;have t1:=cz i hj;have t2:=Pq i (ps:=Kf (c 5) s.V (s.pt.take (EC c s))) (fun p hp=>(s2 p hp).1) (j+1);have t3:=Pq i (ps:=Kf (c 5) s.V (s.pt.take (EC c s))) (fun p hp=>(s2 p hp).1) j;rw [if_pos y2] at t1;omega
   rcases x1 with x1 | ⟨_,_,x1⟩
   ·omega
   ·exact x1
 ·obtain ⟨i,hi,e⟩:=f3 p hp;obtain ⟨v,hv,h1,h2⟩:=f1 i hi;have hf:p.fl=true:=by
   have:=EN (AQ c s) (F8 c s) g.vok hn hr;exact (this.2.2 p hp).2
  exact ⟨i,v,e,hv,fun _=>⟨h1,h2⟩,fun h=>by rw [hf] at h; simp at h⟩
theorem OG (hc:GE c)(h:Inv c k s)(hk:k≤1000000)(o:Oq) :0≤(opO c s o).1.vs∧(opO c s o).1.vs≤c 14∧((opO c s o).1.lp.length:Int)≤c 15∧
  ∀p ∈ (opO c s o).1.lp,∃(i:Nat) (v:Yd),p.ix=(i:Int)∧(opO c s o).2.V[i]?=some v∧(p.fl=true→v.st=6∧v.bal=0)∧(p.fl=false→v.st=2∧c 5≤v.bal):=by
 by_cases h7:o.kd=7
 ·have e:opO c s o=nw c s:=by
   exact tx
  rw [e];obtain ⟨v1,v2,v3⟩:=AR hc (L4 c s);exact ⟨v1,v2,v3,yn hc (OE hc h hk)⟩
 ·obtain ⟨_,h2,h3,_⟩:=NF (c:=c) (s:=s) o h7;have:=hc.g.part;have:=hc.g.vis0;have:=hc.g.pay0;rw [h2,h3];exact ⟨by omega,by omega,by simp; omega,fun p hp=>by simp at hp⟩
end
end
section
open Go Go.RowKit
def VL (v:Yd) :Prop:=v.st=4∨(v.st=3∧v.ex≠ -1)
instance (v:Yd) :Decidable (VL v):=by unfold VL; infer_instance
def gV (V:List Yd) :Nat:=V.countP fun v=>decide (VL v)
structure XU (e:Int)(V:List Yd)(L:List QO) :Prop where
 nd:(L.map (·.2)).Nodup
 ub: ∀i,i ∈ L.map (·.2) ↔ Bl V VL i
 key: ∀p ∈ L,e < p.1
 wd: ∀p ∈ L,∀(n:Nat) (v:Yd),p.2=(n:Int)→V[n]?=some v→p.1≤v.wd
theorem ZfW:XU 0 [] []:=⟨by simp,fun i=>⟨fun h=>by simp at h,fun ⟨m,u,_,h,_⟩=>by simp at h⟩,fun p hp=>by simp at hp,fun p hp=>by simp at hp⟩
theorem Si (V:List Yd) : ∀n,n≤V.length→((Xo n).filter fun n=>decide (VL (V.getD n Z9))).length=gV (V.take n)
 | 0,_=>by simp [gV]
 | n+1,h=>by
  have hv:V[n]?=some V[n]:=Zf Ze;have e1:V.getD n Z9=V[n]:=Vg hv;have e2:V.take (n+1)=V.take n++[V[n]]:=by rw [List.take_add_one,hv]; rfl
  rw [Gt,Jp,ZN,Si V n Ze,e2];unfold gV;rw [List.countP_append]
  congr 1
  by_cases hb:VL V[n]
  ·simp only [JT,List.filter_nil,e1,hb,decide_true,if_true,Y9,List.countP_cons,List.countP_nil]
  ·simp only [JT,List.filter_nil,e1,hb,decide_false,Bool.false_eq_true,if_false,List.length_nil,List.countP_cons,List.countP_nil]
theorem aH (V:List Yd) :((Xo V.length).filter fun n=>decide (VL (V.getD n Z9))).length=gV V:=by
 rw [Si V V.length (Zg _),UD]
theorem XU.len {e:Int}{V:List Yd}{L:List QO}(h:XU e V L) :L.length=gV V:=by
 have hp:(L.map (·.2)).Perm (((Xo V.length).filter fun n=>decide (VL (V.getD n Z9))).map fun n:Nat=>(n:Int)):=by
  refine (List.perm_ext_iff_of_nodup h.nd ?_).2 fun i=>?_
  ·exact List.pairwise_map.2 ((List.nodup_range.sublist List.filter_sublist).imp fun h e=>h Ze)
  ·rw [h.ub];constructor
   ·rintro ⟨m,u,rfl,hu,hp⟩;refine Yj.2 ⟨m,Qw.2 ⟨QU.2 (Zh.1 hu).1,?_⟩,rfl⟩;rw [Zq,hu];simpa using hp
   ·intro hi;obtain ⟨m,hm,rfl⟩:=Yj.1 hi;obtain ⟨h1,h2⟩:=Qw.1 hm;have h1:=QU.1 h1;refine ⟨m,V.getD m Z9,rfl,?_,by simpa using h2⟩;rw [Zq,Zf h1];rfl
 have:=hp.length_eq;rw [YM,YM,aH] at this;exact this
section
variable {c:Nat→Int} {k:Nat} {s:Sg} {e:Int} {V W:List Yd} {L:List QO}
theorem XU.keep (h:XU e V L)(qy: ∀i,Bl W VL i ↔ Bl V VL i)(fc: ∀(n:Nat) (v:Yd),W[n]?=some v→VL v→ ∃u,V[n]?=some u∧u.wd≤v.wd) :XU e W L:=by
 refine ⟨h.nd,fun i=>(h.ub i).trans (qy i).symm,h.key,fun p hp n v hn hv=>?_⟩;obtain ⟨m,u,hm,hu,hb⟩:=(qy p.2).2 ((h.ub p.2).1 (JH hp));obtain rfl:n=m:=by omega
 rw [hv] at hu;obtain rfl:=ZZ hu;obtain ⟨u,hu,hle⟩:=fc n v hv hb;exact Int.le_trans (h.wd p hp n u hn hu) hle
theorem Zdc {n:Nat}{v v':Yd}(hv:V[n]?=some v)(h:VL v' ↔ VL v)(i:Int) :Bl (V.set n v') VL i ↔ Bl V VL i:=by
 constructor
 ·rintro ⟨m,u,hm,hu,hb⟩
  by_cases ji:n=m
  ·subst ji;rw [YQ (Zh.1 hv).1] at hu;obtain rfl:=ZZ hu;exact ⟨n,v,hm,hv,h.1 hb⟩
  ·rw [YG ji] at hu;exact ⟨m,u,hm,hu,hb⟩
 ·exact fun hx=>hx.set hv h.2
theorem XU.set (h:XU e V L){n:Nat}{v v':Yd}(hv:V[n]?=some v)(hb:VL v' ↔ VL v)(hw:VL v→v.wd≤v'.wd) :XU e (V.set n v') L:=by
 refine h.keep (Zdc hv hb) fun m x hx hxb=>?_
 by_cases ji:n=m
 ·subst ji;rw [YQ (Zh.1 hv).1] at hx;obtain rfl:=ZZ hx;exact ⟨v,hv,hw (hb.1 hxb)⟩
 ·rw [YG ji] at hx;exact ⟨x,hx,XI _⟩
theorem XU.more (h:XU e V L){n:Nat}{v v':Yd}(hv:V[n]?=some v)(h0: ¬VL v)(h1:VL v'){t:Int}(ht:e < t)(hw:t≤v'.wd) :XU e (V.set n v') (L++[(t,(n:Int))]):=by
 have hn:(n:Int) ∉ L.map (·.2):=fun hm=>by
  obtain ⟨m,u,hm,hu,hb⟩:=(h.ub _).1 hm;obtain rfl:n=m:=by omega
  rw [hv] at hu;obtain rfl:=ZZ hu;exact h0 hb
 have XJ:=(Zh.1 hv).1;refine ⟨by rw [XM]; exact MK h.nd hn,fun i=>?_,fun p hp=>?_,fun p hp m x hm hx=>?_⟩
 ·rw [XM,YK,h.ub];constructor
  ·rintro (hi | hi)
   ·exact hi.set hv fun hb=>absurd hb h0
   ·obtain rfl:i=(n:Int):=by simpa using hi
    exact ⟨n,v',rfl,YQ XJ,h1⟩
  ·rintro ⟨m,u,hm,hu,hb⟩
   by_cases ji:n=m
   ·right; subst ji; simp [hm]
   ·rw [YG ji] at hu;exact .inl ⟨m,u,hm,hu,hb⟩
 ·rcases YK.1 hp with hp | hp
  ·exact h.key p hp
  ·obtain rfl:p=(t,(n:Int)):=by simpa using hp
   exact ht
 ·rcases YK.1 hp with hp | hp
  ·by_cases ji:n=m
   ·subst ji;exact absurd (hm▸JH hp) hn
   ·rw [YG ji] at hx;exact h.wd p hp m x hm hx
  ·obtain rfl:p=(t,(n:Int)):=by simpa using hp
   obtain rfl:n=m:=by have:(n:Int)=m:=hm; omega
   rw [YQ XJ] at hx;obtain rfl:=ZZ hx;exact hw
theorem rT (h:XU e V L)(x:Int) :XU e (V++[MJ x]) L:=by
  have nU: ¬VL (MJ x):=by simp [VL,MJ]
  refine h.keep (fun i=>⟨fun ⟨m,u,hm,hu,hb⟩=>?_,fun hx=>hx.append⟩) fun n v hv hb=>?_
  all_goals
    first
    | (rcases YA m V.length with hl | hl
       · rw [YD hl] at hu; exact ⟨m,u,hm,hu,hb⟩
       · rw [YV hl] at hu
         obtain ⟨_,hq⟩:=Zh.1 hu;simp at hq;exact absurd (hq▸hb) nU)
    | (rcases YA n V.length with hl | hl
       · rw [YD hl] at hv; exact ⟨v,hv,XI _⟩
       · rw [YV hl] at hv
         obtain ⟨_,hq⟩:=Zh.1 hv;simp at hq;exact absurd (hq▸hb) nU)
theorem ring_ex (hc:GE c)(h:Inv c k s){i cl:Int}(h0:iV c s i cl=0)(hr:XU s.ep s.V L) :XU s.ep (P9 c s i cl).V L:=by
 obtain ⟨c1,c2,c3,_⟩:=iW h0;obtain ⟨n,Ak,hv⟩:=Gg c1;have e1:i.toNat=n:=by omega
 show XU s.ep (s.V.set i.toNat { (Wn s (Vy s.V i)).2 with dl:=tI c s i cl}) L;generalize hy:Vy s.V i=v at*;obtain ⟨Gm,je⟩:=RJ (e:=s.ep) (v:=v) c2;rw [e1,show (Wn s v).2=(Qn [Xs s.ep,Qm 2] v).2 from rfl,je];have hx:=((h.vok v (QI hv)).lo (.inr Gm)).1;refine hr.set hv ?_ fun hb=>XI _
 simp only [VL];omega
def xV (c:Nat→Int)(s:Sg)(i:Int) :List QO:=if(Vy s.V i).st=5 then [((Hc (Vy s.V i) s.ep c).2.wd,i)] else []
theorem xR (hc:GE c)(h:Inv c k s){i:Int}(h0:WH c s i=0)(hr:XU s.ep s.V L) :XU s.ep (M8 c s i).V (L++xV c s i):=by
 obtain ⟨c1,c2,c3⟩:=jK h0;obtain ⟨n,Ak,hv⟩:=Gg c1;have e1:i.toNat=n:=by omega
 have s11:=hc.g.sla0;have s10:=hc.g.unb0;show XU s.ep (s.V.set i.toNat (Hc (Vy s.V i) s.ep c).2) (L++xV c s i);unfold xV;generalize hy:Vy s.V i=v at*;obtain ⟨nX,Gm,hex,fc,hba⟩:=NQ c2;have nS:=fun k=>((h.vok v (QI hv)).lo k).1
 rw [e1,Ak]
 by_cases h5:v.st=5
 ·rw [if_pos h5];refine hr.more hv (by unfold VL; omega) ?_ (by rw [fc]; omega) (XI _);unfold VL;omega
 ·rw [if_neg h5,List.append_nil];refine hr.set hv ?_ fun hb=>by rw [fc]; omega
  unfold VL;omega
end
end
section
open Go Go.RowKit
section
variable {c:Nat→Int} {k:Nat} {s:Sg} {e:Int} {V W:List Yd} {L:List QO}
def OK (e:Int) :List Yd→List Int→List Yd
 | V,[]=>V
 | V,i::q=>OK e (if(Vy V i).wd≤e then V.set i.toNat (Oc 4 (Vy V i)) else V) q
def av (e:Int)(V:List Yd)(q:List Int) :List QO:=(q.filter fun i=>decide (e < (Vy V i).wd)).map fun i=>((Vy V i).wd,i)
def Lf (e:Int)(V:List Yd)(L:List QO) :List QO:=U4 e L++av e V (Vb e L)
theorem Dy {i:Int} :i ∈ Vb e L ↔ (e,i) ∈ L:=by
 unfold Vb;rw [Yj];constructor
 ·rintro ⟨p,hp,rfl⟩;obtain ⟨h1,h2⟩:=Qw.1 hp;have:p.1=e:=by simpa using h2
  rw [←this]; exact h1
 ·exact fun h=>⟨(e,i),Qw.2 ⟨h,by simp⟩,rfl⟩
theorem bZ {p:QO} :p ∈ U4 e L ↔ p ∈ L∧p.1≠e:=by
 unfold U4;rw [Qw];simp
theorem MC (h:(L.map (·.2)).Nodup) :(Vb e L).Nodup:=h.sublist (by unfold Vb; exact List.filter_sublist.map _)
theorem mm (h:(L.map (·.2)).Nodup){p q:QO}(hp:p ∈ L)(hq:q ∈ L)(he:p.2=q.2) :p=q:=by
 induction L with
 | nil=>simp at hp
 | cons x L ih=>
  rw [YW,Qx] at h
  rcases Z6.1 hp with e1 | k1
  ·rcases Z6.1 hq with e2 | k2
   ·rw [e1,e2]
   ·have hm:x.2 ∈ L.map (·.2):=Yj.2 ⟨q,k2,by rw [←he,e1]⟩;exact absurd hm h.1
  ·rcases Z6.1 hq with e2 | k2
   ·have hm:x.2 ∈ L.map (·.2):=Yj.2 ⟨p,k1,by rw [he,e2]⟩;exact absurd hm h.1
   ·exact ih h.2 k1 k2
theorem gE: ∀(q:List Int) (V:List Yd),(∀i ∈ q,∃n:Nat,i=(n:Int)∧n < V.length)→q.Nodup→(OK e V q).length=V.length∧
  ∀n:Nat,(OK e V q)[n]?=if(n:Int) ∈ q∧(Vy V n).wd≤e then(V[n]?).map (Oc 4) else V[n]?
 | [],V,_,_=>⟨rfl,fun n=>by simp [OK]⟩
 | x::q,V,hq,hn=>by
  obtain ⟨m,rfl,hm⟩:=hq x ZO;rw [Qx] at hn;have hv:V[m]?=some V[m]:=Zf hm;have ha:=Mx hv;have e1:((m:Nat) :Int).toNat=m:=by omega
  unfold OK;rw [ha,e1]
  by_cases hw:V[m].wd≤e
  ·rw [if_pos hw];obtain ⟨i1,i2⟩:=gE q (V.set m (Oc 4 V[m])) (fun i hi=>by obtain ⟨n,h1,h2⟩:=hq i FO; exact ⟨n,h1,by simpa using h2⟩) hn.2;refine ⟨i1.trans ZO,fun n=>?_⟩;rw [i2 n]
   by_cases jk:n=m
   ·subst jk;rw [if_neg (fun h=>hn.1 h.1),if_pos ⟨by simp,by rw [ha]; exact hw⟩,YQ hm,hv];rfl
   ·have dF:Vy (V.set m (Oc 4 V[m])) (n:Int)=Vy V (n:Int):=by
     unfold Vy;rw [Zq,Zq,YX,YG (fun h=>jk h.symm)]
    rw [dF,YG (fun h=>jk h.symm)];have:((n:Int) ∈ ((m:Nat) :Int)::q) ↔ (n:Int) ∈ q:=by
     rw [Z6];constructor
     ·rintro (h | h)
      ·exact absurd Ze jk
      ·exact h
     ·exact .inr
    simp only [this]
  ·rw [if_neg hw];obtain ⟨i1,i2⟩:=gE q V (fun i hi=>hq i FO) hn.2;refine ⟨i1,fun n=>?_⟩;rw [i2 n]
   by_cases jk:n=m
   ·subst jk;rw [if_neg (fun h=>hn.1 h.1),if_neg (fun h=>hw (by rw [←ha]; exact h.2))]
   ·have:((n:Int) ∈ ((m:Nat) :Int)::q) ↔ (n:Int) ∈ q:=by
     rw [Z6];constructor
     ·rintro (h | h)
      ·exact absurd Ze jk
      ·exact h
     ·exact .inr
    simp only [this]
theorem bX {v:Yd}(h:Vok e v)(he:0≤e) :VL (leaveV (e+1) v) ↔ VL v:=by
 unfold leaveV
 by_cases c1:v.st=3∧v.ex=e+1
 ·rw [if_pos c1];exact ⟨fun _=> .inr ⟨c1.1,by omega⟩,fun _=> .inl rfl⟩
 ·rw [if_neg c1]
theorem Dx (e:Int)(v:Yd) :(leaveV e v).wd=v.wd:=by unfold leaveV; split <;> rfl
theorem SM {v:Yd}(h:Vok e v)(hb:VL v)(hw:v.wd≤e+1) :(leaveV (e+1) v).st=4:=by
 have h3:=h.s3;unfold VL at hb;unfold leaveV
 by_cases c1:v.st=3∧v.ex=e+1
 ·have:=h3 c1.1; rw [if_pos c1]
 ·rw [if_neg c1]
  rcases hb with hb | hb
  ·exact hb
  ·rcases h3 hb.1 with h | h
   ·exact absurd h hb.2
   ·exact absurd ⟨hb.1,h.1⟩ c1
theorem Zc1 (h: ∀v ∈ V,Vok e v)(he:0≤e)(hr:XU e V L) :OK (e+1) (V.map (leaveV (e+1))) (Vb (e+1) L)=(V.map (leaveV (e+1))).map (ripenV (e+1)):=by
 have hq: ∀i ∈ Vb (e+1) L,∃n:Nat,i=(n:Int)∧n < (V.map (leaveV (e+1))).length:=fun i hi=>by
  obtain ⟨m,u,hm,hu,_⟩:=(hr.ub i).1 (Yj.2 ⟨_,Dy.1 hi,rfl⟩);exact ⟨m,hm,by rw [YM]; exact (Zh.1 hu).1⟩
 obtain ⟨r1,r2⟩:=gE (Vb (e+1) L) (V.map (leaveV (e+1))) hq (MC hr.nd);apply KM;intro n;have hV1:(V.map (leaveV (e+1)))[n]?=(V[n]?).map (leaveV (e+1)):=ZR ..;have hV2:((V.map (leaveV (e+1))).map (ripenV (e+1)))[n]?=((V[n]?).map (leaveV (e+1))).map (ripenV (e+1)):=by rw [ZR,ZR]
 rw [r2 n,hV2,hV1];clear r2 hV1 hV2
 cases hv:V[n]? with
 | none=>simp
 | some v=>
  have dF:Vy (V.map (leaveV (e+1))) (n:Int)=leaveV (e+1) v:=Mx (by rw [ZR,hv]; rfl);rw [dF,Dx];have Og:=h v (QI hv);simp only [Option.map_some]
  by_cases hc:(n:Int) ∈ Vb (e+1) L∧v.wd≤e+1
  ·rw [if_pos hc];obtain ⟨m,u,hm,hu,hb⟩:=(hr.ub (n:Int)).1 (Yj.2 ⟨_,Dy.1 hc.1,rfl⟩);obtain rfl:n=m:=by omega
   rw [hv] at hu;obtain rfl:=ZZ hu;have h4:=SM Og hb hc.2;have hw:(leaveV (e+1) v).wd≤e+1:=by rw [Dx]; exact hc.2
   generalize leaveV (e+1) v=y at*;unfold ripenV Oc;rw [if_pos ⟨h4,hw⟩,h4];rfl
  ·rw [if_neg hc];have: ¬((leaveV (e+1) v).st=4∧(leaveV (e+1) v).wd≤e+1):=fun hy=>by
    rw [Dx] at hy;have hb:VL v:=(bX Og he).1 (.inl hy.1);obtain ⟨p,hp,lV⟩:=Yj.1 ((hr.ub (n:Int)).2 ⟨n,v,rfl,hv,hb⟩);have k1:=hr.key p hp;have k2:=hr.wd p hp n v lV hv;refine hc ⟨Dy.2 ?_,hy.2⟩;have:p=(e+1,(n:Int)):=Prod.ext Ze lV;rw [←this]; exact hp
   unfold ripenV;rw [if_neg this]
theorem jF (h: ∀v ∈ V,Vok e v)(he:0≤e)(hr:XU e V L) :XU (e+1) ((V.map (leaveV (e+1))).map (ripenV (e+1))) (Lf (e+1) (V.map (leaveV (e+1))) L):=by
 have dF: ∀(n:Nat) (v:Yd),V[n]?=some v→(Vy (V.map (leaveV (e+1))) (n:Int)).wd=v.wd:=fun n v hv=>by
  rw [Mx (v:=leaveV (e+1) v) (by rw [ZR,hv]; rfl),Dx]
 have Kj: ∀(n:Nat) (v:Yd),V[n]?=some v→((V.map (leaveV (e+1))).map (ripenV (e+1)))[n]?=some (ripenV (e+1) (leaveV (e+1) v)):=fun n v hv=>by
  rw [ZR,ZR,hv]; rfl
 have qy: ∀v,Vok e v→(VL (ripenV (e+1) (leaveV (e+1) v)) ↔ VL v∧e+1 < v.wd):=fun v Og=>by
  have h4:=SM Og;have hl:=bX Og he;have fc:=Dx (e+1) v;generalize hy:leaveV (e+1) v=y at*;unfold ripenV
  by_cases c1:y.st=4∧y.wd≤e+1
  ·rw [if_pos c1];constructor
   ·intro hb; unfold VL at hb; simp only at hb; omega
   ·intro hb; omega
  ·rw [if_neg c1,hl];constructor
   ·intro hb;refine ⟨hb,?_⟩
    rcases Int.lt_or_le (e+1) v.wd with XJ | hge
    ·exact XJ
    ·exact absurd ⟨h4 hb hge,by rw [fc]; exact hge⟩ c1
   ·exact fun hb=>hb.1
 have hwd2: ∀v,(ripenV (e+1) (leaveV (e+1) v)).wd=v.wd:=fun v=>by
  rw [←Dx (e+1) v];unfold ripenV; split <;> rfl
 have El: ∀p,p ∈ Lf (e+1) (V.map (leaveV (e+1))) L ↔ (p ∈ L∧p.1≠e+1)∨((e+1,p.2) ∈ L∧e+1 < (Vy (V.map (leaveV (e+1))) p.2).wd∧p.1=(Vy (V.map (leaveV (e+1))) p.2).wd):=fun p=>by
  unfold Lf av;rw [YK,bZ,Yj];constructor
  ·rintro (hp | ⟨i,hi,rfl⟩)
   ·exact .inl hp
   ·obtain ⟨h1,h2⟩:=Qw.1 hi;exact .inr ⟨Dy.1 h1,by simpa using h2,rfl⟩
  ·rintro (hp | ⟨h1,h2,h3⟩)
   ·exact .inl hp
   ·exact .inr ⟨p.2,Qw.2 ⟨Dy.2 h1,by simpa using h2⟩,Prod.ext h3.symm rfl⟩
 refine ⟨?_,fun i=>?_,fun p hp=>?_,fun p hp n y hn hy=>?_⟩
 ·unfold Lf av;rw [XM,KN,Jf];refine ⟨hr.nd.sublist (List.filter_sublist.map _),?_,?_⟩
  ·rw [show ((fun x:QO=>x.2) ∘ fun i=>((Vy (V.map (leaveV (e+1))) i).wd,i))=id from rfl,List.map_id];exact (MC hr.nd).sublist List.filter_sublist
  ·intro a ha b hb hab;subst hab;rw [show ((fun x:QO=>x.2) ∘ fun i=>((Vy (V.map (leaveV (e+1))) i).wd,i))=id from rfl,List.map_id] at hb;obtain ⟨p,hp,rfl⟩:=Yj.1 ha;have h1:=bZ.1 hp;have h2:=Dy.1 (Qw.1 hb).1;exact h1.2 (congrArg (·.1) (mm hr.nd h1.1 h2 rfl))
 ·rw [Yj];constructor
  ·rintro ⟨p,hp,rfl⟩;have Ak:p.2 ∈ L.map (·.2):=by
    rcases (El p).1 hp with h1 | h1
    ·exact JH h1.1
    ·exact Yj.2 ⟨_,h1.1,rfl⟩
   obtain ⟨m,u,hm,hu,hb⟩:=(hr.ub p.2).1 Ak;refine ⟨m,_,hm,Kj m u hu,(qy u (h u (QI hu))).2 ⟨hb,?_⟩⟩
   rcases (El p).1 hp with h1 | h1
   ·have:=hr.key p h1.1;have:=hr.wd p h1.1 m u hm hu;omega
   ·have:=h1.2.1;rw [hm,dF m u hu] at this;exact this
  ·rintro ⟨m,y,rfl,hy,hb⟩
   cases hv:V[m]? with
   | none=>rw [ZR,ZR,hv] at hy; simp at hy
   | some v=>
    rw [Kj m v hv] at hy;obtain rfl:=ZZ hy;obtain ⟨b1,b2⟩:=(qy v (h v (QI hv))).1 hb;obtain ⟨p,hp,lV⟩:=Yj.1 ((hr.ub (m:Int)).2 ⟨m,v,rfl,hv,b1⟩)
    by_cases hpe:p.1=e+1
    ·refine ⟨(v.wd,(m:Int)),(El _).2 (.inr ⟨?_,?_,?_⟩),rfl⟩
     ·have:p=(e+1,(m:Int)):=Prod.ext hpe lV;rw [←this]; exact hp
     ·rw [dF m v hv]; exact b2
     ·rw [dF m v hv]
    ·exact ⟨p,(El p).2 (.inl ⟨hp,hpe⟩),lV⟩
 ·rcases (El p).1 hp with h1 | h1
  ·have:=hr.key p h1.1;omega
  ·omega
 ·cases hv:V[n]? with
  | none=>rw [ZR,ZR,hv] at hy; simp at hy
  | some v=>
   rw [Kj n v hv] at hy;obtain rfl:=ZZ hy;rw [hwd2]
   rcases (El p).1 hp with h1 | h1
   ·exact hr.wd p h1.1 n v hn hv
   ·have h3:=h1.2.2;rw [hn,dF n v hv] at h3;omega
def EH (c:Nat→Int)(e:Int) :List Yd→List (Int × Int)→List QO
 | _,[]=> []
 | V,p::q=>((Qn [XS e,Q3 e (c 10)] (Vy V p.1)).2.wd,p.1)::EH c e (V.set p.1.toNat (Qn [XS e,Q3 e (c 10)] (Vy V p.1)).2) q
theorem cM (he:0≤e)(hl:Pn (e+1) (c 10))(hc:0 < c 10) : ∀(q:List (Int × Int)) (V:List Yd) (L:List QO),(∀v ∈ V,Vok e v)→(q.map (·.1)).Nodup→(∀p ∈ q,Bl V Dv p.1)→XU e V L→
  XU e (DP c (e+1) V q) (L++EH c (e+1) V q)
 | [],V,L,_,_,_,hr=>by simpa [DP,EH] using hr
 | p::q,V,L,h,hn,hq,hr=>by
  obtain ⟨n,v,Nv,hv,hqd⟩:=hq p ZO;have ha:Vy V p.1=v:=by rw [Nv]; exact Mx hv
  rw [YW,Qx] at hn;obtain ⟨k0,k1,k2⟩:=iQ (h v (QI hv)) hqd hl hc;have e1:p.1.toNat=n:=by omega
  unfold DP EH;rw [ha,e1];have hm:=hr.more (t:=(Qn [XS (e+1),Q3 (e+1) (c 10)] v).2.wd) hv (v':=(Qn [XS (e+1),Q3 (e+1) (c 10)] v).2) (fun hb=>by have:=hqd.1; have:=hqd.2; unfold VL at hb; omega) (by
   rw [k2]; have:=hqd.1; unfold VL; simp only; omega) (by rw [k2]; simp only; omega) (XI _)
  have ih:=cM he hl hc q (V.set n (Qn [XS (e+1),Q3 (e+1) (c 10)] v).2) (L++[((Qn [XS (e+1),Q3 (e+1) (c 10)] v).2.wd,(n:Int))]) (Gv h k1) hn.2 (fun p' dJ=>(hq p' (by simp [dJ])).set_ne (fun he=>hn.1 (by
   rw [Nv,←he];exact JH dJ))) hm
  rw [XK,List.singleton_append] at ih;rw [Nv];exact ih
theorem jG: ∀(q:List Int) (V:List Yd),q.Nodup→(∀i ∈ q,Bl V isPd i)→XU e V L→XU e (P8 1 V q) L
 | [],V,_,_,hr=>hr
 | x::q,V,hn,hq,hr=>by
  obtain ⟨n,v,Nv,hv,jm⟩:=hq x ZO;have ha:Vy V x=v:=by rw [Nv]; exact Mx hv
  rw [Qx] at hn;have e1:x.toNat=n:=by omega
  unfold P8;rw [ha,e1];refine jG q (V.set n (Oc 1 v)) hn.2 (fun i hi=>(hq i FO).set_ne (fun he=>hn.1 (by rw [Nv,←he]; exact hi))) (hr.set hv ?_ fun _=>XI _);unfold Oc;rw [show v.st=1 from jm];have:v.st=1:=jm;unfold VL;show (Jt 1 1=4∨(Jt 1 1=3∧v.ex≠ -1)) ↔ _;rw [show Jt 1 1=2 from rfl];omega
theorem xN (mb:Int)(q:List (Int × Int))(hr:XU e V L) :XU e (J8 mb V q) L:=by
 refine LS mb (I:=fun W=>XU e W L) ?_ q V hr;intro l i j s d hl Kt hi hj hc;obtain ⟨M4,vV,_,_,_,_⟩:=Se hc;have Pe:(l.set i (Fg s))[j]?=some d:=by exact kt
 exact (hl.set (v':=Fg s) hi (by unfold VL; simp only [Fg]; omega) fun _=>XI _).set (v':=Oh s d) Pe Iff.rfl fun _=>XI _
theorem xQ {mb:Int}(hm:0≤mb)(q:List Rq)(hq: ∀r ∈ q,UY r)(hf: ∀v ∈ V,Yq v)(hr:XU e V L) :XU e (XX mb V q) L:=by
 obtain ⟨h1,_⟩:=DJ mb hm q V hq hf;have hlen:=Dd mb q V;have back: ∀(n:Nat) (v':Yd),(XX mb V q)[n]?=some v'→ ∃(v:Yd) (x:Int),V[n]?=some v∧v'= { v with bal:=v.bal - x}:=fun n v' wF=>by
  exact Zgr
 refine hr.keep (fun i=>⟨fun ⟨m,u,hm,hu,hb⟩=>?_,fun ⟨m,u,hm,hu,hb⟩=>?_⟩) fun n v hv hb=>?_
 ·obtain ⟨v,x,hv,rfl⟩:=back m u hu;exact ⟨m,v,hm,hv,hb⟩
 ·obtain ⟨u',hu',hp,_⟩:=h1 m u hu;exact ⟨m,u',hm,hu',by rw [hp]; exact hb⟩
 ·obtain ⟨u,x,hu,rfl⟩:=back n v hv;exact ⟨u,hu,XI _⟩
theorem jH: ∀(q:List Nat) (V:List Yd),q.Nodup→(∀i ∈ q,Bl V (MH e) (i:Nat))→XU e V L→XU e (Ji e V q) L
 | [],V,_,_,hr=>hr
 | x::q,V,hn,hq,hr=>by
  obtain ⟨n,v,Nv,hv,hp⟩:=hq x ZO;obtain rfl:x=n:=by omega
  rw [Qx] at hn;have ha:V.getD x Z9=v:=Vg hv;obtain ⟨f1,f2⟩:=Ra hp.1 hp.2;unfold Ji;rw [ha,f1];refine jH q (V.set x { v with bal:=0,st:=6}) hn.2 (fun i hi=>(hq i FO).set_ne (fun he=>hn.1 (by
   obtain rfl:i=x:=by omega
   exact hi))) (hr.set hv ?_ fun _=>XI _)
  have:=hp.1;unfold VL;simp only;omega
end
end
section
open Go Go.RowKit
section
variable {c:Nat→Int} {k:Nat} {s:Sg} {L:List QO}
def tH (c:Nat→Int)(s:Sg)(L:List QO) :List QO:=Lf s.ep (s.V.map (leaveV s.ep)) L++EH c (s.ep+1) (BJ s) (Oa c s).1
def zW (c:Nat→Int)(s:Sg)(L:List QO) :List QO:=if(s.bk+1)%c 13=0 then tH c (X9 s) L else L
def VA (c:Nat→Int)(s:Sg)(L:List QO)(o:Oq) :List QO:=
 if o.kd=7 then zW c s L else if o.kd=4∧WH c s o.ix=0 then L++xV c s o.ix else L
structure ZhW (c:Nat→Int)(s:Sg) :Prop where
 v1: ∀v ∈ BJ (X9 s),Vok (s.ep+1) v
 v2: ∀v ∈ Cm c (X9 s),Vok (s.ep+1) v
 v3: ∀v ∈ kP c (X9 s),Vok (s.ep+1) v
 nd:((Oa c (X9 s)).1.map (·.1)).Nodup
 qd: ∀p ∈ (Oa c (X9 s)).1,Bl (BJ (X9 s)) Dv p.1
 pn:(s.pd.take (WT c (X9 s))).Nodup
 pd: ∀i ∈ s.pd,Bl (Cm c (X9 s)) isPd i
 lo:Pn (s.ep+1+1) (c 10)
 l1:(BJ (X9 s)).length=s.V.length
 l2:(Cm c (X9 s)).length=s.V.length
 l3:(kP c (X9 s)).length=s.V.length
 b1:Q0 (BJ (X9 s))=Q0 s.V
 b2:Q0 (Cm c (X9 s))=Q0 s.V
 b3:Q0 (kP c (X9 s))=Q0 s.V
theorem oI {V:List Yd}{f:Yd→Yd}(h: ∀v ∈ V,(f v).bal=v.bal) :Q0 (V.map f)=Q0 V:=by
 unfold Q0;rw [KN];exact List.map_congr_left fun v hv=>h v hv
theorem oL (hc:GE c)(h:Inv c k s)(hk:k≤1000000) :ZhW c s:=by
 obtain ⟨g1,g2,g3⟩:=Cn h.vok h.ep0;have bk1:=h.bk1;have ep1:=h.ep1;have ep0:=h.ep0;have u0:=hc.g.unb0;have u1:=hc.g.unb1;have hl:Pn (s.ep+1+1) (c 10):=by unfold Pn SK; omega
 have qu:((Oa c (X9 s)).1.map (·.1)++((Oa c (X9 s)).2.1++(Oa c (X9 s)).2.2.1)).Perm (s.F++s.W):=aq _ _ _ _;have tP:=qu.nodup_iff.2 h.lnn;rw [Jf] at tP;obtain ⟨n1,n2,n3⟩:=tP;have El: ∀p ∈ (Oa c (X9 s)).1,Bl (BJ (X9 s)) Dv p.1:=fun p hp=>
  g1.qd p.1 (h.lnx p.1 (qu.mem_iff.1 (YK.2 (.inl (JH hp)))))
 obtain ⟨r1,r2,r3,r4,r5⟩:=RR hl Ze (Oa c (X9 s)).1 (BJ (X9 s)) g1.vok n1 El;have e9:(s.pd.take (WT c (X9 s))).Nodup:=h.pdn.sublist (List.take_sublist _ _);have qt: ∀i ∈ s.pd,Bl (Cm c (X9 s)) isPd i:=fun i hi=>r4 i (g1.pd i (h.pdx i hi))
 obtain ⟨t1,t2,t3,t4,t5⟩:=CF (s.pd.take (WT c (X9 s))) (Cm c (X9 s)) r2 e9 (fun i hi=>qt i (ZP hi));have hb:Q0 (BJ (X9 s))=Q0 s.V:=by
  show Q0 ((s.V.map (leaveV (s.ep+1))).map (ripenV (s.ep+1)))=_;rw [oK];exact oI fun v hv=>(LJ (h.vok v hv) h.ep0).2.2
 exact ⟨g1.vok,r2,t2,n1,El,e9,qt,hl,g1.len,r1.trans g1.len,t1.trans (r1.trans g1.len),hb,r3.trans hb,t3.trans (r3.trans hb)⟩
theorem rS (hc:GE c)(h:Inv c k s)(hk:k≤1000000)(hr:XU s.ep s.V L) :XU (s.ep+1) (bdS c (X9 s)).V (tH c (X9 s) L):=by
 have b:=oL hc h hk;have u0:=hc.g.unb0;have ep0:=h.ep0;have r1:=jF h.vok h.ep0 hr;have r2:=cM Ze b.lo Ze (Oa c (X9 s)).1 (BJ (X9 s)) _ b.v1 b.nd b.qd r1;have r3:=jG (s.pd.take (WT c (X9 s))) (Cm c (X9 s)) b.pn (fun i hi=>b.pd i (ZP hi)) r2;exact xN (c 6) (s.mg.take (BI c s.mg)) r3
theorem xO (hc:GE c)(h:Inv c k s)(hk:k≤1000000)(hr:XU s.ep s.V L) :XU (L4 c s).ep (L4 c s).V (zW c s L):=by
 unfold L4 zW
 split
 ·exact rS hc h hk hr
 ·exact hr
theorem xS (hc:GE c)(h:Inv c k s)(hr:XU s.ep s.V L) :XU (IA c s).ep (IA c s).V L:=by
 obtain ⟨g,hn,hp⟩:=LV hc h;have hm:0≤c 5:=by have:=hc.m5; omega
 exact jH (AQ c s) (F8 c s) hn hp (xQ hm (s.pt.take (EC c s)) (fun r hr=>h.ptf r (ZP hr)) h.fits hr)
theorem xP (hc:GE c)(h:Inv c k s)(hk:k≤1000000)(hr:XU s.ep s.V L)(o:Oq) :XU (opO c s o).2.ep (opO c s o).2.V (VA c s L o):=by
 by_cases h7:o.kd=7
 ·have e:opO c s o=nw c s:=by
   exact tx
  rw [e];unfold VA;rw [if_pos h7];exact xS hc (OE hc h hk) (xO hc h hk hr)
 ·unfold VA;rw [if_neg h7]
  by_cases h4:o.kd=4
  ·have e:opO c s o=Rj c s o:=by
    unfold opO;rw [if_neg Ze,if_neg Ze,if_neg Ze,if_pos h4]
   rw [e];unfold Rj
   by_cases h0:WH c s o.ix=0
   ·rw [if_pos h0,if_pos ⟨h4,h0⟩]; exact xR hc h h0 hr
   ·rw [if_neg h0,if_neg (fun h=>h0 h.2)]; exact hr
  ·rw [if_neg (fun h=>h4 h.1)];unfold opO
   by_cases h1:o.kd=1
   ·rw [if_pos h1]; unfold DR; split
    ·exact rT hr _
    ·exact hr
   rw [if_neg h1]
   by_cases h2:o.kd=2
   ·rw [if_pos h2]; exact ZaW
   rw [if_neg h2]
   by_cases h3:o.kd=3
   ·rw [if_pos h3]; exact ZaW
   rw [if_neg h3,if_neg h4]
   by_cases h5:o.kd=5
   ·rw [if_pos h5]; unfold IX; split <;> exact hr
   rw [if_neg h5]
   by_cases h6:o.kd=6
   ·rw [if_pos h6]; unfold I2; split <;> exact hr
   rw [if_neg h6,if_neg h7];exact hr
end
end
section
open Go Go.RowKit
section
variable {c:Nat→Int} {k:Nat} {s:Sg} {e:Int} {v:Yd} {V:List Yd}
theorem RI (he:SK e) :(Qn [Xs e,Qm 2] v).1=if v.st=2 then 0 else 8:=by
 by_cases h2:Jt v.st 2=0
 ·rw [iK he h2,if_neg (fun h=>by rw [h] at h2; exact absurd h2 Xh)]
 ·rw [ow he h2,if_pos (cH h2).1]
theorem gK (hv:Vok e v)(hl:Pn e (c 11))(h2:v.st=2) :(Hc v e c).1=0:=by
 have h1:v.sl=false:=(hv.lo (.inr h2)).2;unfold Hc;rw [show KG v e (c 11)=KG { v with bal:=v.bal - penQ v c} e (c 11) from rfl];have h3: ¬Jt v.st 7=0:=by rw [h2]; decide
 rw [sc (v:= { v with bal:=v.bal - penQ v c}) h1 h3 hl]
theorem Inv.ep_in (h:Inv c k s)(hk:k≤1000000) :SK s.ep:=by
 have:=h.ep0;have:=h.ep1;have:=h.bk1;unfold SK; omega
theorem Inv.slk (hc:GE c)(h:Inv c k s)(hk:k≤1000000) :Pn s.ep (c 11):=by
 have:=h.ep0;have:=h.ep1;have:=h.bk1;have:=hc.gc;refine ⟨h.ep_in hk,?_⟩;have:=hc.gc.sd1;omega
theorem ZeX (h:Inv c k s)(hk:k≤1000000)(i cl:Int) :iV c s i cl=if GI s.V i=true then 7 else if(Vy s.V i).st≠2 then 8 else if c 1≤(UW s.F s.W cl).length then 6 else if Ou c s cl (Vy s.V i)=none then 10 else 0:=by
 unfold iV Wn;rw [RI (h.ep_in hk)]
 by_cases h2:(Vy s.V i).st=2
 ·simp only [h2,if_true,ne_eq,not_true,if_false]
 ·simp only [if_neg h2,ne_eq,h2,not_false_iff,if_true];rfl
theorem ZfY (hc:GE c)(h:Inv c k s)(hk:k≤1000000)(i:Int) :WH c s i=if GI s.V i=true then 7 else if(Vy s.V i).st=2∧c 1≤s.F.length then 6 else(Hc (Vy s.V i) s.ep c).1:=by
 unfold WH
 by_cases ho:GI s.V i=true
 ·rw [if_pos ho,if_pos ho]
 ·rw [if_neg ho,if_neg ho];obtain ⟨n,_,hn⟩:=Gg (V:=s.V) (i:=i) (by simpa using ho)
  by_cases h2:(Vy s.V i).st=2
  ·have h0:=gK (c:=c) (h.vok _ (QI hn)) (h.slk hc hk) h2;rw [if_neg (fun hh=>hh h0),h0]
  ·have hq: ¬((Vy s.V i).st=2∧c 1≤s.F.length):=fun hh=>h2 hh.1
   rw [if_neg hq,if_neg hq]
   by_cases h0:(Hc (Vy s.V i) s.ep c).1=0
   ·rw [if_neg (fun hh=>hh h0),h0]
   ·rw [if_pos h0]
def Lx (V:List Yd)(st:Int)(n:Nat) :List Nat:=(Xo n).filter fun i=>decide ((V.getD i Z9).st=st)
theorem TK (V:List Yd)(st:Int)(n:Nat) :Lx V st (n+1)=if(V.getD n Z9).st=st then Lx V st n++[n] else Lx V st n:=by
 unfold Lx;rw [Gt,Jp]
 by_cases h:(V.getD n Z9).st=st
 ·rw [if_pos h,JT,if_pos (decide_eq_true h)]; rfl
 ·rw [if_neg h,JT,if_neg (by rw [decide_eq_false h]; simp)]; simp
theorem AX (V:List Yd)(st:Int)(n:Nat) :(Lx V st n).Nodup:=List.nodup_range.sublist List.filter_sublist
theorem NB {V:List Yd}{st:Int}{n i:Nat} :i ∈ Lx V st n ↔ i < n∧(V.getD i Z9).st=st:=by simp [Lx]
theorem AW (V:List Yd)(st:Int) : ∀n,n≤V.length→((Lx V st n).length:Int)=Xk (V.take n) st
 | 0,_=>by simp [Lx,Xk]
 | n+1,h=>by
  have ih:=AW V st n Ze;have hv:V[n]?=some (V.getD n Z9):=by rw [Zq,Zf Ze]; rfl
  rw [TK,LU hv,BY,←ih]
  by_cases h2:(V.getD n Z9).st=st
  ·rw [if_pos h2]; simp only [ZN,Y9,Xk,if_pos h2]; omega
  ·rw [if_neg h2]; simp only [Xk,if_neg h2]; omega
theorem yw (V:List Yd)(st:Int) :((Lx V st V.length).length:Int)=Xk V st:=by rw [AW V st _ (Zg _),UD]
theorem Zde (V:List Yd)(st:Int){n m:Nat}(h:n≤m) :(Lx V st n).length≤(Lx V st m).length:=by
 induction m with
 | zero=>rw [Nat.le_zero.1 h]; exact Zg _
 | succ m ih=>
  rcases YA m n with h1 | h1
  ·rw [show n=m+1 by omega]; exact Zg _
  ·refine Yk (ih h1) ?_;rw [TK]
   split <;> simp
theorem sC {V:List Yd}{st:Int}{n:Nat}(hn:n≤V.length)(h:(Lx V st n).length=(Lx V st V.length).length) :Lx V st n=Lx V st V.length:=by
 have hp:Lx V st n <+:Lx V st V.length:=by
  unfold Lx;obtain ⟨d,hd⟩ : ∃d,V.length=n+d:=⟨V.length - n,by omega⟩;rw [hd,List.range_add,Jp];exact List.prefix_append _ _
 exact hp.eq_of_length h
def F9 (f:Yd→Yd) :List Yd→List Nat→List Yd
 | V,[]=>V
 | V,i::q=>F9 f (V.set i (f (V.getD i Z9))) q
theorem Cy (f:Yd→Yd) : ∀(q:List Nat) (V:List Yd),(F9 f V q).length=V.length
 | [],V=>rfl
 | i::q,V=>by rw [F9,Cy f q,Xw]
theorem getD_set_ne {V:List Yd}{i j:Nat}{x:Yd}(h:i≠j) :(V.set i x).getD j Z9=V.getD j Z9:=by
 rw [Zq,YG h,←Zq]
theorem Pc {V:List Yd}{i:Nat}{x:Yd}(h:i < V.length) :(V.set i x).getD i Z9=x:=by
 rw [Zq,YQ h]; rfl
theorem ek (f:Yd→Yd) : ∀(q:List Nat) (V:List Yd),q.Nodup→(∀i ∈ q,i < V.length)→ ∀j,(F9 f V q).getD j Z9=if j ∈ q then f (V.getD j Z9) else V.getD j Z9
 | [],V,_,_,j=>by simp [F9]
 | i::q,V,hn,hq,j=>by
  obtain ⟨h1,h2⟩:=Qx.1 hn;have hi:=hq i ZO;rw [F9,ek f q _ h2 (fun k hk=>by rw [Xw]; exact hq k (by simp [hk])) j]
  by_cases hj:j=i
  ·subst hj;rw [if_neg h1,Pc hi,if_pos ZO]
  ·rw [getD_set_ne (fun e=>hj e.symm)]
   by_cases h3:j ∈ q
   ·rw [if_pos h3,if_pos (by simp [h3])]
   ·rw [if_neg h3,if_neg (by simp [hj,h3])]
theorem aY {V W:List Yd}(hl:V.length=W.length)(h: ∀j,j < V.length→V.getD j Z9=W.getD j Z9) :V=W:=by
 apply List.ext_getElem hl;intro j h1 h2;have:=h j h1;rwa [Zq,Zq,Zf h1,Zf h2] at this
theorem pK {f:Yd→Yd}{V:List Yd}{j:Nat}(h:j < V.length) :(V.map f).getD j Z9=f (V.getD j Z9):=by
 rw [Zq,Zq,ZR,Zf h]; rfl
theorem vl (f:Yd→Yd)(V:List Yd)(st:Int)(hf: ∀v,v.st≠st→f v=v) :F9 f V (Lx V st V.length)=V.map f:=by
 refine aY (by rw [Cy,YM]) fun j hj=>?_
 rw [Cy] at hj;rw [ek f _ _ (AX _ _ _) (fun i hi=>(NB.1 hi).1),pK hj]
 split
 ·rfl
 ·rename_i h
  exact (hf _ fun Gm=>h (NB.2 ⟨hj,Gm⟩)).symm
end
end
end Go.Proofs.YtianiiijaopdpaaGreat
