/- Part 31 of 34: Asn Mix Prt Mer Who CI. -/
import Derived.Test.YtobgbcdgffgdhaaGreatZx00
import Derived.Test.YtobgbcdgffgdhaaGreatZx30
namespace Go.Proofs.YtobgbcdgffgdhaaGreat
set_option linter.unusedVariables false
set_option linter.unusedSimpArgs false
set_option maxRecDepth 100000
set_option maxHeartbeats 8000000
open _root_.And renaming intro -> Zm
open _root_.Array renaming getElem?_eq_some_iff -> Yj
open _root_.Go.Proofs.YtobgbcdgffgdhaaGreat.As renaming row -> Qv
open _root_.Go.RowKit.Below renaming refl -> Zn
open _root_.Go renaming Calls -> Zv, Value -> Zl, World -> Zc, heap_alloc_new -> ZB, wpList_load_mid -> Jt, wpQuiet -> Yl, wp_store_row -> QF
open _root_.Go.Proofs.YtobgbcdgffgdhaaGreat.Eg renaming blkAt -> Uh
open _root_.Go.Instr renaming index -> Yy
open _root_.List renaming cons_append -> Yf, getD_eq_getElem?_getD -> Zo, getElem?_eq_getElem -> Zg, getElem?_eq_some_iff -> Zk, getElem?_map -> ZM, getElem_mem -> Gd, length_cons -> Yg, length_map -> Yt, length_take -> Xl, map_congr_left -> Gy, map_map -> Vf, mem_map -> Yc, mem_of_getElem? -> Zz, mem_of_mem_take -> ZT, take_add_one -> Y8, take_of_length_le -> ZV
open _root_.Nat renaming le_refl -> Zh, le_trans -> ZZ
open _root_.Go.NoPanic renaming normal -> YM
open _root_.Option renaming toList_some -> QA
open _root_.Go.Proofs.YtobgbcdgffgdhaaGreat.Pm renaming row -> J2
open _root_.Go.Proofs.YtobgbcdgffgdhaaGreat.Py renaming row -> V9
open _root_.Go.Proofs.Tryz renaming prog -> Zb
open _root_.Go.Value renaming int -> ZG, ownBlock -> YZ
open _root_.Go.World renaming setRow_alloc_new -> Zq
open Go.Proofs.Tryz
theorem Zl2 {G H:Prop} (k:H) (h:Dq H->G:=by
  intro zk;refine Jb 68 _ zb 68 (Ze v2) _ rfl rfl rfl (fun w' h=>by obtain ⟨m,rfl⟩:=h; exact HB7.o) underlying68 rfl Ya ?_;exact zk.o) :G:=h ⟨k⟩
theorem zT8 {G:Prop} (h:G:=by
  refine Jk ?_;refine Ed ?_;refine JA #[.agg (Ze u),.int .i64 s.ep] call210 ((HPy.o _).mono ?_);rintro e w6 ⟨rfl,hb6⟩;have E6:=Za (E5.o.below hb6);have hD6:Eg (N+2) w0 w6 c a q (ZK (ZK Z N (VM NN 1 (some ⟨g,off,none⟩) (F.map fun i:Nat=>(i:Int)))) (N+1) (YU 252 3 (.slice pa k pc) k (YE Pm.row (Qq s.ep s.V (F.take k))))) { s with V:=Jd s.ep s.V (F.take k),P:=s.P+Vn (Qq s.ep s.V (F.take k)),cu:=e0} L:=E6.o.drop Yd;refine ⟨_,rfl,hD6,?_⟩;clear E5 hb6 HPy hD5;refine Jk ?_;refine NL (fun w'=>Eg (N+2) w0 w' c a q (ZK (ZK Z N (VM NN 1 (some ⟨g,off,none⟩) (F.map fun i:Nat=>(i:Int)))) (N+1) (YU 252 3 (.slice pa k pc) k (YE Pm.row (Qq s.ep s.V (F.take k))))) { s with V:=Jd s.ep s.V (F.take k),P:=s.P+Vn (Qq s.ep s.V (F.take k)),cu:=e0} L) (m:=7) (f:=3) [6,7,8,9] (?_) ?_
  ·exact hD6
  refine JH ?_;refine Hg ?_;refine Dw ?_;refine Yo ?_;refine JC (i:=10) ?_;have hB:=E6.o.blkAt (r:=N+2) Yd Zd Zr;refine Yv rfl rfl (wp_store_row _ _ _ rfl zb (Ze v2) rfl rfl 68 _ hB Ya rfl (Yi _) ?_);have h7:=E6.o.setr (r:=N+2) Yd Zd Zr (cs':=Ze v2) (Zu.setRow hB _) (ZA.setRow (S:=fun i=>i=zb) (ZA.refl _ _) (.inl rfl) _);rw [XB] at h7;have E7:=Za h7;have hD7:=h7.drop Yd;refine ⟨hD7,?_⟩;clear E6 hD6 hB h7;generalize w6.setRow zb (Ze v2)=W7 at*;refine Jk ?_;refine NL (fun w'=>Eg (N+2) w0 w' c a q (ZK (ZK Z N (VM NN 1 (some ⟨g,off,none⟩) (F.map fun i:Nat=>(i:Int)))) (N+1) (YU 252 3 (.slice pa k pc) k (YE Pm.row (Qq s.ep s.V (F.take k))))) { s with V:=Jd s.ep s.V (F.take k),P:=s.P+Vn (Qq s.ep s.V (F.take k)),cu:=e0} L) (m:=2) (f:=0) [11,12] (?_) ?_
  ·exact hD7
  refine JH ?_;refine je ?_;refine BZ ?_;refine Yo ?_;clear hD7;refine ⟨by kernel_rfl,NoPanic.normal ?_⟩;refine Jk ?_;go_wp2_with fail;go_meet;exact ⟨rfl,rfl,E7⟩) :G:=h
theorem Zl9 {G:Prop} (h:G:=by
  refine Jk ?_;refine NL (fun w'=>Eg (N+2) w0 w' c a q (ZK (ZK Z N (YU 280 3 (.slice (some ⟨g,0,none⟩) m cp) m (YE As.row (l.map (EN (s.ep+1)))))) (N+1) (Xm za 280 (JX (EN (s.ep+1) p)))) sk Lk) (m:=1) (f:=0) [13] (?_) ?_
  ·exact h4
  refine JH ?_;refine Hh ?_;refine U4 ?_;refine Yo ?_;refine ⟨by kernel_rfl,NoPanic.normal ?_⟩;refine Jk ?_;go_wp2_with fail;go_meet;exact ⟨_,rfl,rfl,Za h3⟩) :G:=h
theorem Zf0 {G:Prop} (h:G:=by
  rw [add_plain] at this;rw [Nat.zero_add] at this ⊢;exact this) :G:=h
theorem py {G:Prop} (h:G:=by
  have:=HX.o.2.2.2.2.2.2.1;omega) :G:=h
section
open Go Go.RowKit Go.Deep
def asF (c:Nat->Int)(e:Int)(v:ZN) :ZN:=(QE [XM e,Ja e (c 10)] v).2
def ixN (p:Int × Int) :Nat:=p.1.toNat
theorem Wt (c:Nat->Int)(e:Int) : ∀(l:List (Int × Int)) (V:List ZN),DJ c e V l=L6 (asF c e) V (l.map ixN)
 | [],_=>rfl
 | p::l,V=>Wt c e l _
theorem Ws (c:Nat->Int)(e:Int) : ∀(A B:List (Int × Int)) (V:List ZN),FQ c e V (A++B)=FQ c e V A++FQ c e (DJ c e V A) B
 | [],_,_=>rfl
 | p::A,B,V=>by rw [Yf,FQ,FQ,DJ,Ws c e A B,Yf]
theorem tV {c:Nat->Int}{e:Int}{V:List ZN}{l:List (Int × Int)}{k:Nat}{p:Int × Int}(hk:l[k]?=some p) :FQ c e V (l.take (k+1))=FQ c e V (l.take k)++[((asF c e (VW (DJ c e V (l.take k)) p.1)).wd,p.1)]:=by
 rw [Y8,hk,QA,Ws]; rfl
theorem nt (c:Nat->Int)(e:Int) : ∀(l:List (Int × Int)) (V:List ZN),(FQ c e V l).length=l.length
 | [],_=>rfl
 | p::l,V=>by rw [FQ,Yg,nt c e l,Yg]
theorem II {f:ZN->ZN}{V:List ZN}{F:List Nat}(hv: ∀v ∈ V,Yp v)(hn:F.Nodup)(hF: ∀i ∈ F,i < V.length)(hf: ∀i ∈ F,Yp (f (V.getD i ZU))/\(f (V.getD i ZU)).bal=(V.getD i ZU).bal) : ∀k,Hm V (L6 f V (F.take k))
 | 0=>Hm.refl hv
 | k+1=>by
  have ih:=II hv hn hF hf k
  cases hk:F[k]? with
  | none=>
   have h1:=List.getElem?_eq_none_iff.1 hk;have h2:F.take (k+1)=F.take k:=by rw [ZV Zd,ZV Zd]
   rw [h2]; exact ih
  | some i=>
   have hm:=Zz hk;have hi:i < (L6 f V (F.take k)).length:=by rw [ih.1]; exact hF i hm
   have hx:(L6 f V (F.take k))[i]?=some ((L6 f V (F.take k)).getD i ZU):=by rw [Zo,Zg hi]; rfl
   rw [Pd hk];have Af:=Pc (f:=f) hn hF hk;exact ih.set hx (by rw [Af]; exact (hf i hm).2) (by rw [Af]; exact (hf i hm).1)
def EN (e:Int)(p:Int × Int) :As:=⟨p.1,p.2,e⟩
theorem se (e:Int)(l:List (Int × Int)) :TD e l=YE Qv (l.map (EN e)):=by
 unfold TD YE;rw [List.flatMap_map];rfl
theorem Ny {α:Type}{row:α->List Zl}{sz:Nat}{w:Zc}{e:TypeId}{n k:Nat}{ia:Option Addr}{cp:Nat}{l:List α}{v:α}(BK: ∀v,(row v).length=sz)(h:w.ownsRow 0 e sz (.slice ia n cp) n (YE row l))(h0:0 < n)(hk:l[k]?=some v) : ∃g,ia=some ⟨g,0,none⟩/\w.rangeAt g (k*sz) (row v):=by
 rcases h.2 with ⟨h1,h2⟩ | ⟨g,Bg,cur,h1,_⟩
 ·injection h1 with _ h3 _; omega
 ·injection h1 with h1 _ _;refine ⟨g,h1,fun j u hj=>?_⟩;subst h1;have Fc:=(Zk.1 hj).1;rw [BK] at Fc;have:=h.cells rfl (k*sz+j) u (by rw [Mr BK hk Fc]; exact hj);rwa [add_plain,Nat.zero_add] at this
section
variable {N:Nat} {w0:FP} {w w' w1:Zc} {c:Nat->Int} {a:Pl} {q:Ql} {Z:Nat->Zc->(Nat->Prop)->Prop} {s s':Sg} {L L':List QZ} {k:Nat}
def asS (s:Sg)(R:List (Int × Int) × List Int × List Int × Int) :Sg:= { s with F:=R.2.1,W:=R.2.2.1,cy:=FR R}
theorem Eg.assign (h:Eg N w0 w c a q Z s L){r:Nat}(GM:11<=r)(hr:r < N){wv:Zl}{U:List Int}{nu:Nat}{x ep:Int}(hx8:Z r=YU 23 1 wv nu (U.map FG))(hl:U.length<=9223372036854775807)(hA:NI U)(hx:0<=x)(fU:0<=ep)(he1:ep<=1099511627776) :
  Zv Zb 235 #[.int .i64 ep,.pointer (some ⟨a.n,0,none⟩),.pointer (some ⟨a.m,0,none⟩),.int .u64 x,wv] w fun e w'=> ∃v,e= .returned v/\
   Eg (N+1) w0 w' c a q (ZK Z N (YU 280 3 v (He (KK U) s.F s.W s.cy x).1.length (YE Qv ((He (KK U) s.F s.W s.cy x).1.map (EN (ep+1)))))) (asS s (He (KK U) s.F s.W s.cy x)) L:=by
 obtain ⟨X,hX,Uz,hh,_,hK,hz,_⟩:=h.open;refine (hh.assign hX Uz (r:=r) Zd hr (hz r GM hr |>.trans hx8) hl hA hx fU he1).mono fun e w' ⟨v,he,g1,_⟩=>⟨v,he,?_⟩
 rw [se] at g1;exact hK _ _ _ _ g1 Jl rfl rfl
theorem ZbG (h:Eg N w0 w c a q Z s L)(t:Tm c s){r:Nat}(GM:11<=r)(hr:r < N){wv:Zl}{U:List Int}{nu:Nat}{x:Int}(hx8:Z r=YU 23 1 wv nu (U.map FG))(hUl:U.length<=9223372036854775807)(hA:NI U)(hx:0<=x)(fU:0<=s.ep)(he1:s.ep<=1099511627776)
  {R:List (Int × Int) × List Int × List Int × Int} (hR:He (KK U) s.F s.W s.cy x=R) (hn:(R.1.map (·.1)).Nodup) (hq: ∀p ∈ R.1,VU s.V UE p.1) (dU:OR (s.ep+1) (c 10)) (hg:ec c) (hf: ∀v ∈ s.V,Yp v) (IY: ∀v ∈ s.V,v.wd<=1099511627776) (ht:Zw s.V<=18446744073709551615) (bO:L.length+R.1.length<=100000) :
  Zv Zb 202 #[.pointer (some ⟨q.e,0,none⟩),.int .u64 x,wv] w fun e w'=> ∃v,e= .returned v/\
   Eg (N+1) w0 w' c a q (ZK Z N (YU 280 3 v R.1.length (YE Qv (R.1.map (EN (s.ep+1)))))) { asS s R with V:=DJ c (s.ep+1) s.V R.1} (L++FQ c (s.ep+1) s.V R.1):=by
 have hN:=h.low;obtain ⟨l,hl⟩:=ZR (R.1);have hG:(l.map ixN).Nodup/\(∀i ∈ l.map ixN,i < s.V.length)/\(∀p ∈ l,∃n:Nat,p.1=(n:Int)/\n < s.V.length/\(s.V.getD n ZU).st=3/\(s.V.getD n ZU).ex= -1):=by
  rw [hl] at hn hq;have h3: ∀p ∈ l,∃n:Nat,p.1=(n:Int)/\n < s.V.length/\(s.V.getD n ZU).st=3/\(s.V.getD n ZU).ex= -1:=fun p hp=>by
   obtain ⟨n,v,e,hv,h1,h2⟩:=hq p hp;have:s.V.getD n ZU=v:=by rw [Zo,hv]; rfl
   exact ⟨n,e,(Zk.1 hv).1,by rw [this]; exact h1,by rw [this]; exact h2⟩
  refine ⟨?_,fun i hi=>?_,h3⟩
  ·have e:(l.map ixN).map Ic=l.map (·.1):=by
    rw [Vf];refine Gy fun p hp=>?_
    obtain ⟨n,e,_⟩:=h3 p hp;show ((p.1.toNat:Nat) :Int)=p.1;omega
   rw [<-e] at hn;exact List.Pairwise.of_map Ic (fun a b h e=>h FK) hn
  ·obtain ⟨p,hp,rfl⟩:=Yc.1 hi;obtain ⟨n,e,hnl,_⟩:=h3 p hp;unfold ixN; omega
 have hfi: ∀i ∈ l.map ixN,Yp (asF c (s.ep+1) (s.V.getD i ZU))/\(asF c (s.ep+1) (s.V.getD i ZU)).bal=(s.V.getD i ZU).bal:=fun i hi=>by
  obtain ⟨p,hp,rfl⟩:=Yc.1 hi;obtain ⟨n,e,hnl,h1,h2⟩:=hG.2.2 p hp;have:ixN p=n:=by unfold ixN; omega
  rw [this];have hm:=hf (s.V.getD n ZU) (by rw [Zo,Zg hnl]; exact Gd hnl);unfold asF;rw [be ⟨h1,h2⟩ dU];exact ⟨hm,rfl⟩
 have tF:Zj (∀k,Hm s.V (DJ c (s.ep+1) s.V (l.take k))):=Za fun k=>by
  rw [Wt,List.map_take];exact II hf hG.1 hG.2.1 hfi k
 have ni:Zj (∀wx,Eg N w0 wx c a q Z s L->Zv Zb 235 #[.int .i64 s.ep,.pointer (some ⟨a.n,0,none⟩),.pointer (some ⟨a.m,0,none⟩),.int .u64 x,wv] wx fun e w'=> ∃v,e= .returned v/\Eg (N+1) w0 w' c a q (ZK Z N (YU 280 3 v l.length (YE Qv (l.map (EN (s.ep+1)))))) (asS s R) L):=Za fun wx hw=>by
  have:=hw.assign GM hr hx8 hUl hA hx fU he1;rw [hR,hl] at this;exact this
 have tx:l.length<=100000:=by rw [hl] at bO; omega
 rw [hl] at bO;have HX:=Za (Zm hG (Zm dU (Zm hg (Zm hf (Zm IY (Zm ht (Zm bO (Zm fU t))))))));have HN:=Za hN;have HH:=Za h;rw [hl];clear h t hx8 hUl hA hx hn hq dU hg hf IY ht bO hN hG hfi fU he1 GM hr hR hl;go_enter func202,ntmps202;go_wp2_with fail;refine Ti (fun w'=>Zu w' q.e 102 (UN c a q)) 3 [0,1,2,4,5,6,7,8,9,10,11,12,13,14,15] (?_) ?_
 ·exact HH.o.drew.blk
 refine JH ?_;show Yl _ _ _ _ [_,_,_,_,_,_,_,_,_,_,_,_,_,_,_] _;refine dN ?_;refine KY _ ⟨q.e,24,none⟩ (.pointer (some ⟨a.n,0,none⟩)) (fun w h=>h.cell 24) ?_;refine X7 ?_;refine Dw ?_;refine KY _ ⟨q.e,25,none⟩ (.pointer (some ⟨a.m,0,none⟩)) (fun w h=>h.cell 25) ?_;refine X7 ?_;refine BZ ?_;refine Yo ?_;have H0:=Za HH.o.drew;clear HH;generalize w.drew=V0 at*;refine JC (i:=3) ?_;refine JA #[.pointer (some ⟨q.e,20,none⟩)] call42 ((BI H0.o HX.o.2.2.2.2.2.2.2.2.b0 HX.o.2.2.2.2.2.2.2.2.b1 HX.o.2.2.2.2.2.2.2.2.l HX.o.2.2.2.2.2.2.2.2.q).mono ?_);rintro e w1 ⟨rfl,m1,rfl⟩;have H1:=Za (H0.o.drewN m1);refine ⟨_,rfl,H1.o.blk,?_⟩;clear H0;generalize V0.drewN m1=V1 at*;refine JC (i:=16) ?_;refine Jk ?_;refine JA #[.int .i64 s.ep,.pointer (some ⟨a.n,0,none⟩),.pointer (some ⟨a.m,0,none⟩),.int .u64 x,wv] call235 ((ni.o _ H1.o).mono ?_);rintro e w2 ⟨v,rfl,h2⟩;refine ⟨_,rfl,h2.blk,?_⟩;clear H1 ni;obtain ⟨ia,cp,rfl⟩:=XK (h2.row (r:=N) HN.o Zd Zr);obtain ⟨m,hm⟩:=ZR (l.length);have HM:=Za hm;rw [hm] at h2 tx;have H2:=Za h2;rw [hm];have GI:=Za h2.blk;clear h2 hm;refine Jk ?_;refine NL (fun w'=>Zu w' q.e 102 (UN c a q)) (m:=1) (f:=0) [17] (?_) ?_
 ·exact GI.o
 refine JH ?_;refine Hh ?_;refine U4 ?_;refine Yo ?_;clear GI;refine ⟨by kernel_rfl,YM ?_⟩;refine Jk ?_;go_wp2_with fail;go_loopw [31] (fun s31 wr=> ∃(k:Nat),k<=m/\s31= .int .i64 k/\Zj (Eg (N+1) w0 wr c a q (ZK Z N (YU 280 3 (.slice ia m cp) m (YE Qv (l.map (EN (s.ep+1)))))) { asS s R with V:=DJ c (s.ep+1) s.V (l.take k)} (L++FQ c (s.ep+1) s.V (l.take k)))) (fun s31 _=>m -(intOf s31).toNat)
 case atStart=>exact ⟨0,by omega,rfl,Za (by rw [show FQ c (s.ep+1) s.V (l.take 0)=[] from rfl,List.append_nil]; exact H2.o)⟩
 case round=>
  obtain ⟨k,hk,rfl,HE⟩:=hrel
  by_cases XJ:k < m
  ·obtain ⟨p,hp⟩ : ∃p,l[k]?=some p:=⟨_,Zg Wc⟩;obtain ⟨g,rfl,My⟩:=Ny (row:=Qv) (v:=EN (s.ep+1) p) (k:=k) As.row_len (HE.o.row (r:=N) HN.o Zd Zr) Zd (by rw [ZM,hp]; rfl);obtain ⟨i,hip,FX,GN,hex⟩:=HX.o.1.2.2 p (Zz hp);have NX:=tF.o k;have hlk1:=tF.o (k+1);have ZhE:(l.map ixN)[k]?=some i:=by rw [ZM,hp]; show some p.1.toNat=_; rw [hip]; rfl
   have Af:=Pc (f:=asF c (s.ep+1)) HX.o.1.1 HX.o.1.2.1 ZhE;have Ff:=Pd (f:=asF c (s.ep+1)) (V:=s.V) ZhE;rw [<-List.map_take,<-List.map_take,<-Wt,<-Wt] at Ff;rw [<-List.map_take,<-Wt] at Af;have hks:=tV (c:=c) (e:=s.ep+1) (V:=s.V) hp;have tw:=nt c (s.ep+1) (l.take k) s.V;obtain ⟨W,hW⟩:=ZR (DJ c (s.ep+1) s.V (l.take k));rw [hW] at HE NX Af Ff hks;obtain ⟨u,hu⟩:=ZR (W.getD i ZU);have qZ:VW W p.1=u:=by rw [hip]; exact hu
   rw [hu] at Ff;rw [qZ] at hks;rw [<-Af,hu] at GN hex;have tu:i < W.length:=by rw [NX.1]; exact FX
   have huw:u.wd<=1099511627776:=by rw [<-hu,Af]; exact HX.o.2.2.2.2.1 _ oT
   have Zb1:asF c (s.ep+1) u= { u with ex:=s.ep+1,wd:=max u.wd (s.ep+1+c 10)}:=by unfold asF; rw [be ⟨GN,hex⟩ HX.o.2.1]
   have hLk:(L++FQ c (s.ep+1) s.V (l.take k)).length<=100000:=by
    rw [List.length_append,tw,Xl];exact py
   have ju:Yp u:=NX.2.2 u (by rw [<-hu,Zo,Zg tu]; exact Gd tu);obtain ⟨v2,SJ⟩:=ZR (asF c (s.ep+1) u);have TQ:QE [XM (s.ep+1),Ja (s.ep+1) (c 10)] u=(0,v2):=by rw [be ⟨GN,hex⟩ HX.o.2.1,<-SJ,Zb1]
   have Zly:v2.wd=max u.wd (s.ep+1+c 10):=by rw [<-SJ,Zb1]
   have Zlx:v2.bal=u.bal/\Yp v2:=by rw [<-SJ,Zb1]; exact ⟨rfl,ju⟩
   rw [SJ] at Ff hks;obtain ⟨sk,hsk⟩ : ∃sk,({ asS s R with V:=W} :Sg)=sk:=⟨_,rfl⟩;obtain ⟨Lk,fS⟩:=ZR (L++FQ c (s.ep+1) s.V (l.take k));have Zlq:sk.V=W:=by rw [<-hsk]
   rw [hsk,fS] at HE;rw [fS] at hLk;have HAs:Zj (∀wx,Z3 236 #[.agg (Ze u),.int .i64 (s.ep+1),.agg (Zi c)] wx (.tuple #[.agg (Ze v2),.int .i64 0])):=Za fun wx=>by
    have:=jJ u (s.ep+1) c wx ju.2 HX.o.2.2.1.ub0 HX.o.2.2.1.ub1;unfold ans at this;rw [TQ] at this;exact this
   have HU:=Za (Zm tu (Zm NX (Zm Ff (Zm hks (Zm hu (Zm Zlq (Zm hsk (Zm fS (Zm hLk (Zm huw (Zm Zly (Zm Zlx hip))))))))))));have HRg:=Za My;clear hp My FX GN hex NX hlk1 ZhE Af Ff hks tw hW hu qZ tu huw Zb1 hLk ju SJ TQ Zly Zlx hsk fS Zlq hip;go_upto_region 4 with (fail);have CJ:=Za (HE.o.box (JX (EN (s.ep+1) p)) 280);go_upto_region 5 with (first | (refine Jt rfl 280 _ rfl g (k*3) rfl (EN (s.ep+1) p).row _ HRg.o underlying280 rfl wz ?_) | (refine Up wr.heap.size (JX (EN (s.ep+1) p)) 280 (ZB wr _) wz (eM _) ?_; rw [Zq]));clear HE HRg;generalize wr.heap.size=za at*;generalize wr.alloc (.cells (JX (EN (s.ep+1) p)) 280)=W1 at*;have HGt:Zj (∀wx,Eg (N+2) w0 wx c a q (ZK (ZK Z N (YU 280 3 (.slice (some ⟨g,0,none⟩) m cp) m (YE Qv (l.map (EN (s.ep+1)))))) (N+1) (Xm za 280 (JX (EN (s.ep+1) p)))) sk Lk->Z3 126 #[.pointer (some ⟨a.r,0,none⟩),.int .i64 p.1] wx (.tuple #[.agg (Ze u),.bool true])):=Za fun wx hw=>by
    have:=hw.get (n:=i) (by rw [HU.o.2.2.2.2.2.1]; exact HU.o.1);rw [HU.o.2.2.2.2.2.1,HU.o.2.2.2.2.1] at this;rw [HU.o.2.2.2.2.2.2.2.2.2.2.2.2];exact this
   refine Jk ?_;go_cut [10,11] from 35 to 45 (fun s10 s11 wx=> ∃zb:Nat,s10= .pointer (some ⟨zb,0,none⟩)/\s11= .bool true/\Zj (Eg (N+2+1) w0 wx c a q (ZK (ZK (ZK Z N (YU 280 3 (.slice (some ⟨g,0,none⟩) m cp) m (YE Qv (l.map (EN (s.ep+1)))))) (N+1) (Xm za 280 (JX (EN (s.ep+1) p)))) (N+2) (Xm zb 68 (Ze u))) sk Lk))
   case first=>
    refine Ti (fun w'=>Eg (N+2) w0 w' c a q (ZK (ZK Z N (YU 280 3 (.slice (some ⟨g,0,none⟩) m cp) m (YE Qv (l.map (EN (s.ep+1)))))) (N+1) (Xm za 280 (JX (EN (s.ep+1) p)))) sk Lk) 7 [0,1,2,3,4,5,6] (?_) ?_
    ·exact CJ.o.drew
    refine JH ?_;show Yl _ _ _ _ [_,_,_,_,_,_,_] _;refine Dw ?_;refine yB ?_;refine X7 ?_;refine U4 ?_;refine KY _ ⟨za,0,none⟩ (.int .i64 p.1) (fun w h=>(Uh h (r:=N+1) Yd Zd Zr).cell 0) ?_;refine X7 ?_;refine Yo ?_;have hD:Eg (N+2) w0 W1.drew c a q (ZK (ZK Z N (YU 280 3 (.slice (some ⟨g,0,none⟩) m cp) m (YE Qv (l.map (EN (s.ep+1)))))) (N+1) (Xm za 280 (JX (EN (s.ep+1) p)))) sk Lk:=CJ.o.drew;clear CJ;generalize W1.drew=V at*;refine KC (i:=7) (k:=11) ZC ZE ZE ?_ ?_
    ·refine JA #[.pointer (some ⟨a.r,0,none⟩),.int .i64 p.1] call126 ((HGt.o _ hD).mono ?_);rintro e w2 ⟨rfl,hb⟩;have h2:Eg (N+2) w0 w2 c a q (ZK (ZK Z N (YU 280 3 (.slice (some ⟨g,0,none⟩) m cp) m (YE Qv (l.map (EN (s.ep+1)))))) (N+1) (Xm za 280 (JX (EN (s.ep+1) p)))) sk Lk:=hD.below hb;refine ⟨_,rfl,h2,?_⟩;clear hb;refine Jk ?_;refine NL (fun w'=>Eg (N+2) w0 w' c a q (ZK (ZK Z N (YU 280 3 (.slice (some ⟨g,0,none⟩) m cp) m (YE Qv (l.map (EN (s.ep+1)))))) (N+1) (Xm za 280 (JX (EN (s.ep+1) p)))) sk Lk) (m:=6) (f:=3) [8,9,10] (?_) ?_
     ·exact h2
     refine JH ?_;refine Nh ?_;refine Ec ?_;refine Yo ?_;refine JC (i:=11) ?_;refine Yv rfl rfl (Kv rfl ?_);refine ⟨h2.below ((Zn _ _).alloc (Zh _) _),?_⟩;refine Jk ?_;refine JC (i:=12) ?_;refine Yv rfl rfl (QF _ _ _ rfl w2.heap.size (Ze u) rfl rfl 68 _ (ZB w2 _) Ya rfl (Yi _) ?_);rw [oC];have h3:=Eg.box h2 (Ze u) 68;have h4:Eg (N+2) w0 (w2.alloc (.cells (Ze u) 68)) c a q (ZK (ZK Z N (YU 280 3 (.slice (some ⟨g,0,none⟩) m cp) m (YE Qv (l.map (EN (s.ep+1)))))) (N+1) (Xm za 280 (JX (EN (s.ep+1) p)))) sk Lk:=h2.below ((Zn _ _).alloc (Zh _) _);refine ⟨h4,?_⟩;generalize w2.alloc (.cells (Ze u) 68)=w4 at*;exact Zl9
    ·refine Yv rfl rfl (Kv rfl ?_);have h1:=Eg.box hD (Ze ZU) 68;have h1':Eg (N+2) w0 (V.alloc (.cells (Ze ZU) 68)) c a q (ZK (ZK Z N (YU 280 3 (.slice (some ⟨g,0,none⟩) m cp) m (YE Qv (l.map (EN (s.ep+1)))))) (N+1) (Xm za 280 (JX (EN (s.ep+1) p)))) sk Lk:=hD.below ((Zn _ _).alloc (Zh _) _);refine ⟨h1',?_⟩;generalize V.heap.size=zb at*;generalize V.alloc (.cells (Ze ZU) 68)=V1 at*;refine Jk ?_;refine P8 ?_;refine Jk ?_;refine JA #[.pointer (some ⟨a.r,0,none⟩),.int .i64 p.1] call126 ((HGt.o _ h1').mono ?_);rintro e w2 ⟨rfl,hb⟩;have h2:=h1.below hb;have h2':Eg (N+2) w0 w2 c a q (ZK (ZK Z N (YU 280 3 (.slice (some ⟨g,0,none⟩) m cp) m (YE Qv (l.map (EN (s.ep+1)))))) (N+1) (Xm za 280 (JX (EN (s.ep+1) p)))) sk Lk:=h1'.below hb;refine ⟨_,rfl,h2',?_⟩;clear hb;refine Jk ?_;refine NL (fun w'=>Eg (N+2) w0 w' c a q (ZK (ZK Z N (YU 280 3 (.slice (some ⟨g,0,none⟩) m cp) m (YE Qv (l.map (EN (s.ep+1)))))) (N+1) (Xm za 280 (JX (EN (s.ep+1) p)))) sk Lk) (m:=5) (f:=2) [8,9,10] (?_) ?_
     ·exact h2'
     refine JH ?_;refine Nh ?_;refine Ec ?_;refine Yo ?_;refine JC (i:=12) ?_;have hB:=h2.blkAt (r:=N+2) Yd Zd Zr;refine Yv rfl rfl (QF _ _ _ rfl zb (Ze u) rfl rfl 68 _ hB Ya rfl (Yi _) ?_);have h3:=h2.setr (r:=N+2) Yd Zd Zr (cs':=Ze u) (Zu.setRow hB _) (ZA.setRow (S:=fun i=>i=zb) (ZA.refl _ _) (.inl rfl) _);rw [XB] at h3;have h4:Eg (N+2) w0 (w2.setRow zb (Ze u)) c a q (ZK (ZK Z N (YU 280 3 (.slice (some ⟨g,0,none⟩) m cp) m (YE Qv (l.map (EN (s.ep+1)))))) (N+1) (Xm za 280 (JX (EN (s.ep+1) p)))) sk Lk:=h3.drop Yd;refine ⟨h4,?_⟩;generalize w2.setRow zb (Ze u)=w4 at*;exact Zl9
   case rest=>
    obtain ⟨zb,rfl,rfl,Me⟩:=hcut;clear CJ HGt;go_upto_region 6 with (fail);have kv:Eg (N+2) w0 wc.drew c a q (ZK (ZK Z N (YU 280 3 (.slice (some ⟨g,0,none⟩) m cp) m (YE Qv (l.map (EN (s.ep+1)))))) (N+1) (Xm za 280 (JX (EN (s.ep+1) p)))) sk Lk:=(Me.o.drew).drop Yd;refine Ti (fun w'=>Eg (N+2) w0 w' c a q (ZK (ZK Z N (YU 280 3 (.slice (some ⟨g,0,none⟩) m cp) m (YE Qv (l.map (EN (s.ep+1)))))) (N+1) (Xm za 280 (JX (EN (s.ep+1) p)))) sk Lk) 6 [1,2,3,4,5,6] (?_) ?_
    ·exact kv
    refine JH ?_;refine dO ?_;refine U4 ?_;refine KY _ ⟨za,2,none⟩ (.int .i64 (s.ep+1)) (fun w h=>(Uh h (r:=N+1) Yd Zd Zr).cell 2) ?_;refine X7 ?_;refine Ec ?_;refine ZiR ?_;refine Yo ?_;have OM:=Za Me.o.drew;clear Me;generalize wc.drew=V3 at*;refine JC (i:=0) ?_;refine Yv rfl rfl (wp_load_row 68 _ rfl zb rfl 68 (Ze u) (0,0) _ (OM.o.blkAt (r:=N+2) Yd Zd Zr) underlying68 rfl Ya ?_);refine ⟨kv,?_⟩;refine Jk ?_;refine P8 ?_;refine JA #[.agg (Ze u),.int .i64 (s.ep+1),.agg (Zi c)] call236 ((HAs.o _).mono ?_);rintro e w5 ⟨rfl,hb5⟩;have aW:=Za (OM.o.below hb5);have hD5:Eg (N+2) w0 w5 c a q (ZK (ZK Z N (YU 280 3 (.slice (some ⟨g,0,none⟩) m cp) m (YE Qv (l.map (EN (s.ep+1)))))) (N+1) (Xm za 280 (JX (EN (s.ep+1) p)))) sk Lk:=aW.o.drop Yd;refine ⟨_,rfl,hD5,?_⟩;clear OM hb5 HAs kv;refine Jk ?_;refine NL (fun w'=>Eg (N+2) w0 w' c a q (ZK (ZK Z N (YU 280 3 (.slice (some ⟨g,0,none⟩) m cp) m (YE Qv (l.map (EN (s.ep+1)))))) (N+1) (Xm za 280 (JX (EN (s.ep+1) p)))) sk Lk) (m:=4) (f:=1) [8,9,10] (?_) ?_
    ·exact hD5
    refine JH ?_;refine Nh ?_;refine Ec ?_;refine Yo ?_;refine JC (i:=11) ?_;have hB:=aW.o.blkAt (r:=N+2) Yd Zd Zr;refine Yv rfl rfl (QF _ _ _ rfl zb (Ze v2) rfl rfl 68 _ hB Ya rfl (Yi _) ?_);have h7:=aW.o.setr (r:=N+2) Yd Zd Zr (cs':=Ze v2) (Zu.setRow hB _) (ZA.setRow (S:=fun i=>i=zb) (ZA.refl _ _) (.inl rfl) _);rw [XB] at h7;have pG:=Za h7;refine ⟨h7.drop Yd,?_⟩;clear aW hD5 hB h7;generalize w5.setRow zb (Ze v2)=w7 at*;refine ⟨by kernel_rfl,YM ?_⟩;refine Jk ?_;go_wp2_with fail;have x21:=Eg.x21 pG.o;have k0:w7.cell? ⟨za,0,none⟩=some (.int .i64 p.1):=(Uh pG.o (r:=N+1) Yd Zd Uv).cell 0;have HB7:=Za (pG.o.blkAt (r:=N+2) Yd Zd Zr);refine BU 8 ?_;refine BY ?_;refine dN ?_;refine Zl2 ?_;refine X7 ?_;refine Yo ?_;intro _ JG;obtain ⟨nr,Xk⟩:=JG;subst Xk;have ni:Zj (Zv Zb 175 #[.pointer (some ⟨a.r,0,none⟩),.int .i64 p.1,.agg (Ze v2)] (w7.drewN nr) fun e w'=>e= .returned (.int .i64 0)/\Eg (N+2+1) w0 w' c a q (ZK (ZK (ZK Z N (YU 280 3 (.slice (some ⟨g,0,none⟩) m cp) m (YE Qv (l.map (EN (s.ep+1)))))) (N+1) (Xm za 280 (JX (EN (s.ep+1) p)))) (N+2) (Xm zb 68 (Ze v2))) { asS s R with V:=DJ c (s.ep+1) s.V (l.take (k+1))} Lk):=Za (by
     have hx:=pG.o.drewN nr;obtain ⟨X,hX,Uz,hh,hK,_⟩:=hx.open;have hv:sk.V[i]?=some u:=by rw [HU.o.2.2.2.2.2.1,<-HU.o.2.2.2.2.1,Zo,Zg HU.o.1]; rfl
     have htt:Zw sk.V<=18446744073709551615:=by rw [HU.o.2.2.2.2.2.1,HU.o.2.1.2.1]; exact HX.o.2.2.2.2.2.1
     have hs:=hh.set hX Uz (v':=v2) hv HU.o.2.2.2.2.2.2.2.2.2.2.2.1.2 (by rw [HU.o.2.2.2.2.2.2.2.2.2.2.2.1.1]; omega);rw [<-HU.o.2.2.2.2.2.2.2.2.2.2.2.2] at hs;refine hs.mono fun e w' ⟨he,h1⟩=>⟨he,?_⟩
     have h3:=hK _ _ _ h1 rfl rfl;rw [HU.o.2.2.1];rw [HU.o.2.2.2.2.2.1,<-HU.o.2.2.2.2.2.2.1] at h3;exact h3)
    clear pG x21 k0 HB7;generalize w7.drewN nr=W8 at*;go_wp2_with fail;refine ni.o.mono ?_;rintro e w9 ⟨rfl,h9⟩;have CT:=Za h9;clear h9 ni;go_wp2_with fail;have k0:w9.cell? ⟨za,0,none⟩=some (.int .i64 p.1):=(Uh CT.o (r:=N+1) Yd Zd Uv).cell 0;have HB9:=Za (CT.o.blkAt (r:=N+2) Yd Zd Zr);refine BU 6 ?_;refine BY ?_;refine Sk ?_;refine Jb 68 _ zb 68 (Ze v2) _ rfl rfl rfl (fun w' h=>by obtain ⟨m,rfl⟩:=h; exact HB9.o) underlying68 rfl Ya ?_;refine X7 ?_;refine Yo ?_;intro _ JG;obtain ⟨nr,Xk⟩:=JG;subst Xk;have HHo:Zj (Zv Zb 131 #[.pointer (some ⟨q.e,24,none⟩),.int .i64 p.1,.agg (Ze v2)] (w9.drewN nr) fun e w'=>e= .returned (.tuple #[])/\Eg (N+1) w0 w' c a q (ZK Z N (YU 280 3 (.slice (some ⟨g,0,none⟩) m cp) m (YE Qv (l.map (EN (s.ep+1)))))) { asS s R with V:=DJ c (s.ep+1) s.V (l.take (k+1))} (L++FQ c (s.ep+1) s.V (l.take (k+1)))):=Za (by
     have h0:=HX.o.2.2.2.2.2.2.2.1;have SG:=HX.o.2.1.2;have GM:=HX.o.2.2.1.ub0;have OQ:=HU.o.2.2.2.2.2.2.2.2.2.2.1;have huw:=HU.o.2.2.2.2.2.2.2.2.2.1;have:=uM (CT.o.drewN nr) (i:=p.1) (v:=v2) Zd Zd HU.o.2.2.2.2.2.2.2.2.1;refine this.mono fun e w' ⟨he,h5⟩=>⟨he,?_⟩
     rw [HU.o.2.2.2.1,<-List.append_assoc,HU.o.2.2.2.2.2.2.2.1];exact (h5.drop Yd).drop Yd)
    clear CT k0 HB9 HU;generalize w9.drewN nr=W10 at*;go_wp2_with fail;refine HHo.o.mono ?_;rintro e w11 ⟨rfl,GM⟩;have H6:=Za GM;clear GM HHo;exact yK
  ·obtain rfl:k=m:=Zd;clear XJ;have XJ: ¬k < k:=Zd;have H7:=HE.o;rw [ZV Wb] at H7;have H8:=Za H7;clear HE H7;go_wp2_with fail;go_ret;exact ⟨_,rfl,by rw [HM.o]; exact H8.o⟩
end
end
section
open Go Go.RowKit
def dQ (V A:List ZN)(F:List Nat)(W:List ZN) :Prop:=W.length=V.length/\ ∀j,j < V.length->W.getD j ZU=if j ∈ F then A.getD j ZU else V.getD j ZU
section
variable {V A W:List ZN} {F:List Nat} {i:Nat}
theorem dQ.refl (V A:List ZN) :dQ V A [] V:=⟨rfl,fun j _=>by simp⟩
theorem dQ.set (h:dQ V A F W)(hi:i < V.length) :dQ V A (F++[i]) (W.set i (A.getD i ZU)):=by
 refine ⟨by rw [List.length_set]; exact h.1,fun j hj=>?_⟩
 by_cases e:i=j
 ·subst e;rw [SF (by rw [h.1]; exact hi),if_pos ZE]
 ·rw [getD_set_ne e,h.2 j hj];have Kj: ¬j=i:=fun h=>e h.symm
  by_cases hF:j ∈ F
  ·rw [if_pos hF,if_pos (by simp [hF])]
  ·rw [if_neg hF,if_neg (by simp [hF,Kj])]
theorem dQ.done (h:dQ V A F W)(hl:A.length=V.length)(ho: ∀j,j < V.length->j ∉ F->V.getD j ZU=A.getD j ZU) :W=A:=by
 refine fL (h.1.trans hl.symm) fun j hj=>?_
 have SI:j < V.length:=by rw [<-h.1]; exact hj
 rw [h.2 j SI]
 split
 ·rfl
 ·rename_i hF; exact ho j SI hF
theorem I6: ∀(V A W:List ZN),A.length=V.length->W.length=V.length->(∀j,j < V.length->W.getD j ZU=V.getD j ZU\/W.getD j ZU=A.getD j ZU)->(∀v ∈ V,Yp v)->(∀v ∈ A,Yp v)->Zw W<=Zw V+Zw A
 | [],A,W,h1,h2,_,_,ha=>by
  rw [List.eq_nil_of_length_eq_zero h2];have:=JP ha;show (0:Int)<=0+Zw A;omega
 | v::V,[],W,h1,_,_,_,_=>by simp at h1
 | v::V,a::A,[],_,h2,_,_,_=>by simp at h2
 | v::V,a::A,w::W,h1,h2,h,hv,ha=>by
  have ih:=I6 V A W QT (by simpa using h2) (fun j hj=>by
   have:=h (j+1) Xo;simpa using this) (fun x hx=>hv x Dp) (fun x hx=>ha x Dp)
  have h0:=h 0 ZE;have b1:=(bounds_u64 (hv v ZE).1).1;have b2:=(bounds_u64 (ha a ZE).1).1;have e1:Zw (w::W)=w.bal+Zw W:=rfl;have e2:Zw (v::V)=v.bal+Zw V:=rfl;have e3:Zw (a::A)=a.bal+Zw A:=rfl;have:w=v\/w=a:=by simpa using h0
  rcases this with rfl | rfl <;> omega
theorem dQ.or (h:dQ V A F W) : ∀j,j < V.length->W.getD j ZU=V.getD j ZU\/W.getD j ZU=A.getD j ZU:=fun j hj=>by
 rw [h.2 j hj]
 split
 ·exact .inr rfl
 ·exact .inl rfl
theorem dQ.total (h:dQ V A F W)(hl:A.length=V.length)(hv: ∀v ∈ V,Yp v)(ha: ∀v ∈ A,Yp v) :Zw W<=Zw V+Zw A:=I6 V A W hl h.1 h.or hv ha
theorem iQ {mb:Int}{p:Int × Int}{j:Nat}(h1:j≠p.1.toNat)(h2:j≠p.2.toNat)(V:List ZN) :(Gp V p mb).getD j ZU=V.getD j ZU:=by
 unfold Gp
 split
 ·unfold Aw;rw [getD_set_ne (fun e=>h2 e.symm),getD_set_ne (fun e=>h1 e.symm)]
 ·rfl
theorem aA (mb:Int) : ∀(q:List (Int × Int)) (V:List ZN) (j:Nat),(∀p ∈ q,j≠p.1.toNat/\j≠p.2.toNat)->(Kb mb V q).getD j ZU=V.getD j ZU
 | [],V,j,_=>rfl
 | p::q,V,j,h=>by
  show (Kb mb (Gp V p mb) q).getD j ZU=_;rw [aA mb q _ j (fun x hx=>h x Dp),iQ (h p ZE).1 (h p ZE).2]
theorem AG {j:Nat} : ∀(l:List Py),(∀p ∈ l,p.ix≠(j:Int))->DP j l=0
 | [],_=>rfl
 | p::l,h=>by
  have:=AG l (fun x hx=>h x Dp);have h2:=h p ZE;simp only [DP,if_neg h2,this];rfl
theorem ZcO {mb:Int}(hm:0<=mb){q:List Rq}{V:List ZN}(hq: ∀r ∈ q,UH r)(hv: ∀v ∈ V,Yp v){j:Nat}(hj:j < V.length)(h: ∀p ∈ KV mb V q,p.ix≠(j:Int)) :(XO mb V q).getD j ZU=V.getD j ZU:=by
 have hx:V[j]?=some (V.getD j ZU):=by rw [Zo,Zg hj]; rfl
 obtain ⟨v',h1,h2⟩:=(Hd mb hm q V hq hv).1 j _ hx;rw [AG _ h] at h2;rw [Zo,h1,Option.getD_some,h2.1,Int.sub_zero]
end
end
section
open Go Go.RowKit Go.Deep
theorem Zih {w:Zc}{b1 b2 k1 k2 n1 n2:Nat}{e1 e2:TypeId}{v1 v2:Zl}{x1 x2:List Zl}(h1:w.ownsRow b1 e1 k1 v1 n1 x1)(h2:w.ownsRow b2 e2 k2 v2 n2 x2)(Kj:e1≠e2) : ∀i,v1.ownBlock=some i-> ¬v2.ownBlock=some i:=fun i hi hj=>by
 rcases h1.2 with ⟨rfl,_⟩ | ⟨g1,_,c1,rfl,_,a1,_⟩
 ·simp [YZ] at hi
 ·rcases h2.2 with ⟨rfl,_⟩ | ⟨g2,_,c2,rfl,_,a2,_⟩
  ·simp [YZ] at hj
  ·have e1:g1=i:=by simpa [YZ] using hi
   have e2:g2=i:=by simpa [YZ] using hj
   rw [e1] at a1;rw [e2,a1] at a2;injection a2 with a2;injection a2 with _ a2 _;exact Kj a2
theorem PT: ∀ {l:List Py},(∀p ∈ l,0 < p.am)->0<=UY l
 | [],_=>Int.le_refl _
 | p::l,h=>by
  have h1:=PT (l:=l) (fun x hx=>h x Dp);have h2:=h p ZE;show 0<=p.am+UY l;omega
theorem sM {l:List Py}{k:Nat}{p:Py}(hk:l[k]?=some p) :UY (l.take (k+1))=UY (l.take k)+p.am:=by
 rw [Y8,hk,QA,M3];show _=_;simp [UY]
theorem Zdv {l:List Py}(h: ∀p ∈ l,0 < p.am)(k:Nat) :UY (l.take k)<=UY l:=by
 have e:=M3 (l.take k) (l.drop k);rw [List.take_append_drop] at e;have:=PT (l:=l.drop k) (fun x hx=>h x (List.mem_of_mem_drop hx));omega
def pyN (p:Py) :Nat:=p.ix.toNat
theorem rW (l:List Py) :YE J2 (Ij l)=YE V9 l:=by
 unfold YE Ij;rw [List.flatMap_map];rfl
section
variable {N:Nat} {w0:FP} {w w' w1:Zc} {c cf:Nat->Int} {a:Pl} {q:Ql} {X Z:Nat->Zc->(Nat->Prop)->Prop} {s s':Sg} {L L':List QZ} {k:Nat}
theorem En.more2 (h:En N w0 w cf a X s L)(hX: ∀k,8<=k->Xh (X k))(hN:8<=N){Q1 Q2:Zc->(Nat->Prop)->Prop}(hQ1:Xh Q1)(hQ2:Xh Q2){S1 S2:Nat->Prop}(h1:Q1 w' S1)(h2:Q2 w' S2)(IU: ∀i,S1 i->w.heap.size<=i)(vu: ∀i,S2 i->w.heap.size<=i)(hd: ∀i,S1 i-> ¬S2 i)(hb:Below w.heap.size w w') :En (N+2) w0 w' cf a (ZK (ZK X N Q1) (N+1) Q2) s L:=by
 obtain ⟨Φ,F,g1,g2⟩:=h;have F0:=F.below (fun j _=>Xu hX j) hb;have q1:Pt cf a (ZK X N Q1) s L N w' S1:=by rw [Js hN,Zr]; exact h1
 have F1:=F0.put (P':=Pt cf a (ZK X N Q1) s L) (Fi hN) q1 (fun i hi=>hQ1.1 w' S1 h1 i hi) (fun j hj i hi hv=>by
  have:=IU i hv;have:=F.lt j hj i hi;omega)
 have q2:Pt cf a (ZK (ZK X N Q1) (N+1) Q2) s L (N+1) w' S2:=by rw [Js Zd,Zr]; exact h2
 have F2:=F1.put (P':=Pt cf a (ZK (ZK X N Q1) (N+1) Q2) s L) (Fi Zd) q2 (fun i hi=>hQ2.1 w' S2 h2 i hi) (fun j hj i hi hv=>by
  by_cases NW:j=N
  ·subst NW; rw [Xe] at hi; exact hd i hi hv
  ·rw [YS NW] at hi;have:=vu i hv;have:=F.lt j Zd i hi;omega)
 have g3:ZA w0.T w0.w w':=g2.trans (ZA.of_below (S:=fun _=>False) hb) (fun _ _ h=>h.elim);refine ⟨_,F2,fun j hj i hi=>?_,g3⟩
 by_cases hj1:j=N+1
 ·subst hj1; rw [Xe] at hi; exact .inr (ZZ g2.size (vu i hi))
 ·rw [YS hj1] at hi
  by_cases NW:j=N
  ·subst NW; rw [Xe] at hi; exact .inr (ZZ g2.size (IU i hi))
  ·exact zx
theorem Eg.fresh2 (h:Eg N w0 w c a q Z s L){e1 e2:TypeId}{k1 k2 n1 n2:Nat}{v1 v2:Zl}{x1 x2:List Zl}(h1:w'.ownsRow w.heap.size e1 k1 v1 n1 x1)(h2:w'.ownsRow w.heap.size e2 k2 v2 n2 x2)(Kj:e1≠e2)(hb:Below w.heap.size w w') :
  Eg (N+2) w0 w' c a q (ZK (ZK Z N (YU e1 k1 v1 n1 x1)) (N+1) (YU e2 k2 v2 n2 x2)) s L:=by
 obtain ⟨X,hX,hZ,hN,h⟩:=h;refine ⟨ZK (ZK X N (YU e1 k1 v1 n1 x1)) (N+1) (YU e2 k2 v2 n2 x2),fun k hk=>?_,fun k g1 g2=>?_,by omega,?_⟩
 ·unfold ZK; split
  ·exact Jl
  ·split
   ·exact Jl
   ·exact hX k hk
 ·unfold ZK; split
  ·rfl
  ·split
   ·rfl
   ·exact hZ k g1 Zd
 ·have:=h.more2 (EL hX) Zd Jl Jl (BP h1) (BP h2) (fun i hi=>(UB h1 i hi).1) (fun i hi=>(UB h2 i hi).1) (Zih h1 h2 Kj) hb;rw [Sb hN,Sb Zd] at this;exact this
theorem Zg1 (hc:GE c)(hi:Inv c k s)(h:Eg N w0 w c a q Z s L) :
  Zv Zb 138 #[.pointer (some ⟨q.e,0,none⟩)] w fun e w'=> ∃v,e= .returned (.tuple #[v,.int .i64 ((LO c s:Nat) :Int)])/\
   Eg (N+1) w0 w' c a q (ZK Z N (YU 252 3 v (CR c s).length (YE J2 (CR c s)))) { s with V:=M4 c s,P:=s.P+UY (KV (c 5) s.V (s.pt.take (LO c s))),pt:=s.pt.drop (LO c s)} L:=by
 have hN:=h.low;obtain ⟨n,hn⟩:=ZR (LO c s);have hnk:min (c 16).toNat s.pt.length=n:=hn;obtain ⟨A,hA⟩:=ZR (M4 c s);obtain ⟨Ps,hPs⟩:=ZR (KV (c 5) s.V (s.pt.take n));have hPP:CR c s=Ij Ps:=by unfold CR; rw [hn,hPs]
 have hA2:XO (c 5) s.V (s.pt.take n)=A:=by rw [<-hA]; unfold M4; rw [hn]
 have vp:0<=c 16:=hc.g.part;have hpl:s.pt.length<=4096:=by have:=hi.ptl; have:=hc.q1; omega
 have hvl:s.V.length<=4096:=by have:=hi.len; have:=hc.g.cap1; omega
 have h5:0<=c 5:=by have:=hc.m5; omega
 have nY:(s.pt.take n).length=n:=Fv;have HNx:=Za (fun m=>uP (h.drewN m) (mo:=c 16) vp Zd hnk);have x16:=Eg.x16 h;have HC:=Za (Zm hc hi);have HX:=Za (Zm hnk (Zm hA2 (Zm hPs (Zm vp (Zm hpl (Zm hvl (Zm h5 nY)))))));have HN:=Za hN;rw [hn,hA,hPP,hPs,rW];have hlen:(Ij Ps).length=Ps.length:=by simp [Ij]
 rw [hlen];clear hc hi h hN hn hnk hA hPs hPP hA2 vp hpl hvl h5 hlen nY;go_enter func138,ntmps138;go_wp2_with fail;refine BU 8 ?_;refine BY ?_;iterate 8 (go_big_quiet_step ((intros; rfl)))
 refine Yo ?_;intro _ JG;obtain ⟨nr,Xk⟩:=JG;subst Xk;go_wp2_with fail;refine (HNx.o nr).mono ?_;rintro e w2 ⟨vd,rfl,h2,_⟩;obtain ⟨id,cd,rfl⟩:=XK (h2.row (r:=N) HN.o Zd Zr);have H2:=Za h2;clear h2 HNx x16
 by_cases h0:n=0
 ·have d0:((n:Int)==0)=true:=by simp [h0]
  have hP0:Ps=[]:=by rw [<-HX.o.2.2.1,h0,List.take_zero]; rfl
  have Tv:s.V=A:=by rw [<-HX.o.2.1,h0,List.take_zero]; rfl
  have h3:=((H2.o.drop HN.o).nil 252 3);have H3:Zj (Eg (N+1) w0 w2 c a q (ZK Z N (YU 252 3 (.slice none 0 0) Ps.length (YE V9 Ps))) { s with V:=A,P:=s.P+UY Ps,pt:=s.pt.drop n} L):=Za (by
   rw [hP0,<-Tv];have e:s.P+UY []=s.P:=by simp [UY]
   rw [e];exact h3)
  have HNe:=Za h0;clear h3 hP0 Tv h0 H2;go_wp2_with fail;go_ret2;exact ⟨_,by rw [HNe.o]; rfl,H3.o⟩
 ·have d0:((n:Int)==0)=false:=by simp [h0]
  have hPp: ∀p ∈ Ps,0 < p.am/\ ∃i:Nat,p.ix=(i:Int)/\i < s.V.length:=fun p hp=>by
   rw [<-HX.o.2.2.1] at hp;obtain ⟨g1,_,i,v,g2,g3,_⟩:=(Hd (c 5) HX.o.2.2.2.2.2.2.1 _ s.V (fun r hr=>HC.o.2.ptf r (ZT hr)) HC.o.2.fits).2 p hp;exact ⟨g1,i,g2,(Zk.1 g3).1⟩
  have hAl:A.length=s.V.length:=by rw [<-HX.o.2.1]; exact Eb _ _ _
  have hAf: ∀v ∈ A,Yp v:=by
   rw [<-HX.o.2.1];exact FF (c 5) HX.o.2.2.2.2.2.2.1 _ _ (fun r hr=>HC.o.2.ptf r (ZT hr)) HC.o.2.fits
  have hAt:Zw A=Zw s.V - UY Ps:=by rw [<-HX.o.2.1,<-HX.o.2.2.1]; exact Lj _ _ _
  have we: ∀j,j < s.V.length->j ∉ Ps.map pyN->s.V.getD j ZU=A.getD j ZU:=fun j hj Ei=>by
   rw [<-HX.o.2.1];refine (ZcO HX.o.2.2.2.2.2.2.1 (fun r hr=>HC.o.2.ptf r (ZT hr)) HC.o.2.fits hj fun p hp e=>?_).symm;rw [HX.o.2.2.1] at hp;exact Ei (Yc.2 ⟨p,hp,by unfold pyN; omega⟩)
  have hPl:Ps.length<=4096:=by
   have h1:=RZ (c 5) (s.pt.take n) s.V;rw [HX.o.2.2.1,HX.o.2.2.2.2.2.2.2] at h1;have:=HX.o.1; have:=HX.o.2.2.2.2.1; omega
  have HY:=Za (Zm hPp (Zm hAl (Zm hAf (Zm hAt we))));have hn5:n<=4096:=by have:=HX.o.1; have:=HX.o.2.2.2.2.1; omega
  clear h0 hPp hAl hAf hAt we;go_wp2_with fail;refine Ti (fun w'=>Zu w' q.e 102 (UN c a q)) 9 [0,1,2,3,4,6,7,8,9,10] (?_) ?_
  ·exact H2.o.drew.blk
  refine JH ?_;refine mX ?_;refine Dw ?_;refine KY _ ⟨q.e,21,none⟩ (.pointer (some ⟨a.r,0,none⟩)) (fun w h=>h.cell 21) ?_;refine X7 ?_;refine Dw ?_;refine SV 30 _ q.e 0 (Zi c) _ rfl rfl rfl (fun w h=>TN h) underlying30 rfl Qk ?_;refine Yo ?_;have H3:=Za H2.o.drew;clear H2;generalize w2.drew=V3 at*;refine Ed ?_;refine JA #[.pointer (some ⟨a.r,0,none⟩)] call43 ((Eg.all H3.o).mono ?_);rintro e w4 ⟨va,rfl,h4,_⟩;have H4:=Za h4;refine ⟨_,rfl,h4.blk,?_⟩;clear h4 H3;have ni:Zj (Zv Zb 207 #[va,.slice id n cd,.agg (Zi c)] w4 fun e w'=> ∃v p,e= .returned (.tuple #[v,p,.int .i64 (n:Int)])/\Eg (N+1+1+2) w0 w' c a q (ZK (ZK (ZK (ZK Z N (YU 119 2 (.slice id n cd) n (Jp (s.pt.take n)))) (N+1) (YU 68 7 va s.V.length (XC s.V))) (N+1+1) (YU 68 7 v s.V.length (XC A))) (N+1+1+1) (YU 252 3 p Ps.length (YE V9 Ps))) { s with pt:=s.pt.drop n} L):=Za (by
   have r1:=H4.o.row (r:=N) HN.o Zd Uv;obtain ⟨ab,ac,rfl,hl⟩:=H4.o.lst (r:=N+1) Yd Zd Zr;have hcd:n<=cd:=by
    rcases r1.2 with ⟨e1,e2⟩ | ⟨g1,cp1,cur,e1,_,_,e3,_⟩
    ·omega
    ·injection e1 with _ _ e4; omega
   have hq:Vy Rq.row 2 w4 (fun _=>False) id (s.pt.take n):=fun h0=>by
    rcases r1.2 with ⟨e1,e2⟩ | ⟨g1,cp1,cur,e1,_,e2,_⟩
    ·have:=HX.o.2.2.2.2.2.2.2; omega
    ·injection e1 with e1 _ _;refine ⟨g1,0,e1,fun h=>h,(Yj.1 e2).1,fun i v hi=>?_⟩;subst e1;intro j u hj;have Fc:=(Zk.1 hj).1;have:=r1.cells rfl (i*2+j) u (by unfold Jp; rw [Mr (row:=Rq.row) (k:=2) (fun _=>rfl) hi Fc]; exact hj);exact Zf0
   have:=iT ab id ac cd s.V (s.pt.take n) c w4 hl hq HC.o.2.fits (fun r hr=>HC.o.2.ptf r (ZT hr)) HX.o.2.2.2.2.2.2.1 HX.o.2.2.2.1 HX.o.2.2.2.2.2.1 (by rw [HX.o.2.2.2.2.2.2.2]; omega) (by rw [HX.o.2.2.2.2.2.2.2]; exact hcd);have e1:UX c (s.pt.take n)=n:=by unfold UX; rw [HX.o.2.2.2.2.2.2.2]; have:=HX.o.1; omega
   rw [e1,HX.o.2.2.2.2.2.2.2,ZV (by rw [HX.o.2.2.2.2.2.2.2]; exact Zh _),HX.o.2.1,HX.o.2.2.1] at this;refine this.mono fun e w' ⟨v,p,he,g1,g2,g3⟩=>⟨v,p,he,H4.o.fresh2 g1 g2 Y5 g3⟩)
  refine JC (i:=11) ?_;refine Jk ?_;refine JA #[va,.slice id n cd,.agg (Zi c)] call207 ((ni.o).mono ?_);rintro e w5 ⟨vA,vP,rfl,h5⟩;refine ⟨_,rfl,h5.blk,?_⟩;have HB5:=Za h5.blk;have rA:=h5.row (r:=N+1+1) Yd Zd Uv;obtain ⟨iA,cA,rfl⟩:=XK rA;obtain ⟨ip,cp,rfl⟩:=XK (h5.row (r:=N+1+1+1) Yd Zd Zr);obtain ⟨m,hm⟩:=ZR (Ps.length);obtain ⟨nV,fZ⟩:=ZR (s.V.length);have HM:=Za (Zm hm fZ);rw [hm,fZ] at h5;rw [hm] at hPl;have H5:=Za h5;rw [hm,fZ];clear ni H4 h5 rA hm fZ;refine Jk ?_;refine NL (fun w'=>Zu w' q.e 102 (UN c a q)) (m:=7) (f:=0) [12,13,14,15,16,17,18] (?_) ?_
  ·exact HB5.o
  refine JH ?_;show Yl _ _ _ _ [_,_,_,_,_,_,_] _;refine dN ?_;refine Yo ?_;clear HB5;refine ⟨by kernel_rfl,YM ?_⟩;refine Jk ?_;go_wp2_with fail;go_loopw [40] (fun s40 wr=> ∃(k:Nat) (W:List ZN),k<=m/\s40= .int .i64 k/\Zj (dQ s.V A ((Ps.take k).map pyN) W/\Eg (N+1+1+2) w0 wr c a q (ZK (ZK (ZK (ZK Z N (YU 119 2 (.slice id n cd) n (Jp (s.pt.take n)))) (N+1) (YU 68 7 va nV (XC s.V))) (N+1+1) (YU 68 7 (.slice iA nV cA) nV (XC A))) (N+1+1+1) (YU 252 3 (.slice ip m cp) m (YE V9 Ps))) { s with V:=W,P:=s.P+UY (Ps.take k),pt:=s.pt.drop n} L)) (fun s40 _=>m -(intOf s40).toNat)
  case atStart=>exact ⟨0,s.V,by omega,rfl,Za ⟨dQ.refl _ _,by
   have e:s.P+UY (Ps.take 0)=s.P:=by simp [UY]
   rw [e]; exact H5.o⟩⟩
  case round=>
   obtain ⟨k,W,hk,rfl,HE⟩:=hrel
   by_cases XJ:k < m
   ·obtain ⟨p,hp⟩ : ∃p,Ps[k]?=some p:=⟨_,Zg (by rw [HM.o.1]; exact XJ)⟩;have rP:=HE.o.2.row (r:=N+1+1+1) Yd Zd Zr;obtain ⟨gP,rfl,My⟩:=Ny (row:=V9) Py.row_len rP Zd hp;obtain ⟨hpa,i,hip,FX⟩:=HY.o.1 p (Zz hp);have vV:=HE.o.1.set (i:=i) FX;have Zlc:(Ps.take k).map pyN++[i]=(Ps.take (k+1)).map pyN:=by
     rw [Y8,hp,QA,List.map_append];show _=_++[p.ix.toNat];rw [hip]; rfl
    rw [Zlc] at vV;have hsm:=sM hp;have rk:=Zdv (fun p hp=>(HY.o.1 p hp).1) (k+1);have hsp:=PT (l:=Ps.take k) (fun p hp=>(HY.o.1 p (ZT hp)).1);have Tv:=JP HY.o.2.2.1;have hAt:=HY.o.2.2.2.1;have gg:=HC.o.2.total HC.o.1;have MB:=HC.o.2.sum;have hmt:=vV.total HY.o.2.1 HC.o.2.fits HY.o.2.2.1;have hp0:=HC.o.2.p0;have RF:=HC.o.2.b0;have hd1:=HC.o.2.d1;have Gh:=HC.o.2.cap;have hc4:=HC.o.1.a4;have hiA:i < A.length:=by rw [HY.o.2.1]; exact FX
    have hxA:A[i]?=some (A.getD i ZU):=by rw [Zo,Zg hiA]; rfl
    have hxW:W[i]?=some (W.getD i ZU):=by rw [Zo,Zg (by rw [HE.o.1.1]; exact FX)]; rfl
    rw [J4 hxW] at hmt;obtain ⟨vA,hvA⟩:=ZR (A.getD i ZU);rw [hvA] at vV hmt hxA;have hfA:Yp vA:=HY.o.2.2.1 vA (Xt hxA);have rA:=HE.o.2.row (r:=N+1+1) Yd Zd Uv;obtain ⟨gA,rfl,hrA⟩:=Ny (row:=ZN.row) (sz:=7) (l:=A) (fun _=>rfl) rA (by have:=HM.o.2; omega) hxA;have C9:(i:Int)< (nV:Int):=by have:=HM.o.2; omega
    have Oi: ¬(i:Int)< 0:=Zd;have tH:Zj (∀wx,Eg (N+1+1+2+1) w0 wx c a q (ZK (ZK (ZK (ZK (ZK Z N (YU 119 2 (.slice id n cd) n (Jp (s.pt.take n)))) (N+1) (YU 68 7 va nV (XC s.V))) (N+1+1) (YU 68 7 (.slice (some ⟨gA,0,none⟩) nV cA) nV (XC A))) (N+1+1+1) (YU 252 3 (.slice (some ⟨gP,0,none⟩) m cp) m (YE V9 Ps))) (N+1+1+2) (Xm wr.heap.size 252 (J7 p))) { s with V:=W,P:=s.P+UY (Ps.take k),pt:=s.pt.drop n} L->Zv Zb 208 #[.pointer (some ⟨q.e,21,none⟩),.int .i64 p.ix,.agg (Ze vA),.int .u64 p.am] wx fun e w'=>e= .returned (.tuple #[])/\dQ s.V A ((Ps.take (k+1)).map pyN) (W.set i vA)/\Eg (N+1+1+2) w0 w' c a q (ZK (ZK (ZK (ZK Z N (YU 119 2 (.slice id n cd) n (Jp (s.pt.take n)))) (N+1) (YU 68 7 va nV (XC s.V))) (N+1+1) (YU 68 7 (.slice (some ⟨gA,0,none⟩) nV cA) nV (XC A))) (N+1+1+1) (YU 252 3 (.slice (some ⟨gP,0,none⟩) m cp) m (YE V9 Ps))) { s with V:=W.set i vA,P:=s.P+UY (Ps.take (k+1)),pt:=s.pt.drop n} L):=Za fun wx hx=>by
     have:=ZkJ hx (n:=i) (v:=W.getD i ZU) (v':=vA) (x:=p.am) hxW hfA (by show Zw W - _+_<=_; omega) (by unfold JJ; simp only; omega) Zd Lu;rw [<-hip] at this;refine this.mono fun e w' ⟨he,h1⟩=>⟨he,vV,?_⟩
     rw [hsm,<-Int.add_assoc];exact h1.drop Yd
    have HR:=Za (Zm My hrA);have HV:=Za hip;clear hp rP My hpa FX vV Zlc hsm rk hsp Tv hAt gg MB hmt hp0 RF hd1 Gh hc4 hiA hxA hxW hvA hfA rA hrA;go_upto_region 7 with (fail);have CJ:=Za (HE.o.2.box (J7 p) 252);have hHr:Zj (wr.heap.size=wr.heap.size):=Za rfl;have Zll:Zj ((wr.alloc (.cells (J7 p) 252)).rangeAt gA (i*7) vA.row):=Za (World.rangeAt_alloc HR.o.2 _);go_upto_region 8 with (first | (refine Jt rfl 252 _ rfl gP (k*3) rfl p.row _ HR.o.1 underlying252 rfl wC ?_) | (refine Up wr.heap.size (J7 p) 252 (ZB wr _) wC (eO _) ?_; rw [Zq]));refine Jk ?_;clear HE HR hHr;generalize wr.heap.size=zp at*;generalize wr.alloc (.cells (J7 p) 252)=W1 at*;have kp0:W1.cell? ⟨zp,0,none⟩=some (.int .i64 (i:Int)):=by rw [<-HV.o]; exact (Uh CJ.o (r:=N+1+1+2) Yd Zd Zr).cell 0
    have kp1:W1.cell? ⟨zp,1,none⟩=some (.int .u64 p.am):=(Uh CJ.o (r:=N+1+1+2) Yd Zd Zr).cell 1;rw [HV.o] at tH;refine BU 12 ?_;refine BY ?_;iterate 9 (go_big_quiet_step ((intros; rfl)))
    refine Vv 68 _ gA (i*7) vA _ rfl rfl rfl (fun w' h=>by obtain ⟨m,rfl⟩:=h; exact Zll.o) underlying68 rfl Ya ?_;refine Jk ?_;refine BZ ?_;refine Yo ?_;intro _ JG;obtain ⟨nr,Xk⟩:=JG;subst Xk;have pF:=Za (tH.o _ (CJ.o.drewN nr));clear CJ tH kp0 kp1 Zll;go_wp2_with fail;refine pF.o.mono ?_;rintro e w6 ⟨rfl,h6a,h6b⟩;have H6:=Za (Zm h6a h6b);clear h6a h6b pF;go_wp2_with fail;go_roundw
    case rel=>exact ⟨k+1,W.set i vA,by omega,by go_num,H6⟩
    case measure=>exact KX
   ·obtain rfl:k=m:=Zd;clear XJ;have XJ: ¬k < k:=Zd;have H7:Zj (Eg (N+1) w0 wr c a q (ZK Z N (YU 252 3 (.slice ip k cp) Ps.length (YE V9 Ps))) { s with V:=A,P:=s.P+UY Ps,pt:=s.pt.drop n} L):=Za (by
     have h1:=HE.o;rw [ZV (by rw [HM.o.1]; exact Zh _)] at h1;have e:=h1.1.done HY.o.2.1 HY.o.2.2.2.2;have h2:=h1.2;rw [e] at h2;rw [HM.o.1];exact Eg.pick (m:=3) h2 HN.o (fun k h1 h2=>by rw [Zy Zd,Zy Zd,Zy Zd,Zy Zd]) Zr)
    clear HE;go_wp2_with fail;go_ret2;exact ⟨_,rfl,H7.o⟩
end
end
section
open Go Go.RowKit Go.Deep
def aY (V:List ZN)(mg:List (Int × Int)) :Prop:= ∀p ∈ mg,∃i j:Nat,p=((i:Int),(j:Int))/\i < V.length/\j < V.length
def prN (l:List (Int × Int)) :List Nat:=l.flatMap fun p=> [p.1.toNat,p.2.toNat]
theorem xp {l:List (Int × Int)}{k i j:Nat}(hk:l[k]?=some ((i:Int),(j:Int))) :prN (l.take (k+1))=prN (l.take k)++[i]++[j]:=by
 unfold prN;rw [Y8,hk,QA,List.flatMap_append];simp
section
variable {N:Nat} {w0:FP} {w w' w1:Zc} {c cf:Nat->Int} {a:Pl} {q:Ql} {X Z:Nat->Zc->(Nat->Prop)->Prop} {s s':Sg} {L L':List QZ} {k:Nat}
theorem ZkH (h:Eg N w0 w c a q Z s L){V A:List ZN}{F:List Nat}(hm:dQ V A F s.V){i:Nat}(hi:i < V.length)(hl:A.length=V.length)(hv: ∀v ∈ V,Yp v)(ha: ∀v ∈ A,Yp v)(ht:Zw V+Zw A<=18446744073709551615) :
  Zv Zb 175 #[.pointer (some ⟨a.r,0,none⟩),.int .i64 (i:Int),.agg (Ze (A.getD i ZU))] w fun e w'=>e= .returned (.int .i64 0)/\dQ V A (F++[i]) (s.V.set i (A.getD i ZU))/\Eg N w0 w' c a q Z { s with V:=s.V.set i (A.getD i ZU)} L:=by
 have h2:=hm.set (i:=i) hi;have h3:=h2.total hl hv ha;have hiA:i < A.length:=by rw [hl]; exact hi
 have hx:s.V[i]?=some (s.V.getD i ZU):=by rw [Zo,Zg (by rw [hm.1]; exact hi)]; rfl
 have hfa:Yp (A.getD i ZU):=ha _ (by rw [Zo,Zg hiA]; exact Gd hiA);rw [J4 hx] at h3;obtain ⟨X,hX,Uz,hh,hK,_⟩:=h.open;exact (hh.set hX Uz hx hfa Zd).mono fun e w' ⟨he,h1⟩=>⟨he,h2,hK _ _ _ h1 rfl rfl⟩
theorem oz {w:Zc}{g n cp i:Nat}{A:List ZN}(h:w.ownsRow 0 68 7 (.slice (some ⟨g,0,none⟩) n cp) n (XC A))(hi:i < A.length) :w.rangeAt g (i*7) (A.getD i ZU).row:=by
 have h0:=h.1;have hl:(XC A).length=A.length*7:=Ef (row:=ZN.row) (k:=7) (fun _=>rfl) A;have hx:A[i]?=some (A.getD i ZU):=ZfX
 obtain ⟨g2,e,h2⟩:=Ny (row:=ZN.row) (sz:=7) (l:=A) (fun _=>rfl) h Zd hx;injection e with e;injection e with e _ _;rw [e]; exact h2
theorem ZbH (hc:GE c)(h:Eg N w0 w c a q Z s L)(hf: ∀v ∈ s.V,Yp v)(ht:Zw s.V<=1152921504606846976)(hvl:s.V.length<=4096)(tx:s.mg.length<=4096)(vU:aY s.V s.mg) :
  Zv Zb 205 #[.pointer (some ⟨q.e,0,none⟩)] w fun e w'=>e= .returned (.tuple #[])/\Eg N w0 w' c a q Z { s with V:=Kb (c 6) s.V (s.mg.take (B9 c s.mg)),mg:=s.mg.drop (B9 c s.mg)} L:=by
 have hN:=h.low;obtain ⟨n,hn⟩:=ZR (B9 c s.mg);have hnk:min (c 17).toNat s.mg.length=n:=hn;obtain ⟨A,hA⟩:=ZR (Kb (c 6) s.V (s.mg.take n));have h17:=hc.m17;have nY:(s.mg.take n).length=n:=Fv;have HNx:=Za (fun m=>uO (h.drewN m) (mo:=c 17) h17 Zd hnk);have x17:=Eg.x17 h;have HX:=Za (Zm hnk (Zm hA (Zm nY (Zm tx (Zm hvl (Zm hf (Zm ht (Zm vU hc))))))));have HN:=Za hN;rw [hn,hA];clear hc h hf ht hvl tx vU hN hn hnk hA h17 nY;go_enter func205,ntmps205;go_wp2_with fail;refine BU 8 ?_;refine BY ?_;iterate 8 (go_big_quiet_step ((intros; rfl)))
 refine Yo ?_;intro _ JG;obtain ⟨nr,Xk⟩:=JG;subst Xk;go_wp2_with fail;refine (HNx.o nr).mono ?_;rintro e w2 ⟨vd,rfl,h2,_⟩;obtain ⟨id,cd,rfl⟩:=XK (h2.row (r:=N) HN.o Zd Zr);have H2:=Za h2;clear h2 HNx x17
 by_cases h0:n=0
 ·have d0:((n:Int)==0)=true:=by simp [h0]
  have Tv:s.V=A:=by rw [<-HX.o.2.1,h0,List.take_zero]; rfl
  have H3:Zj (Eg N w0 w2 c a q Z { s with V:=A,mg:=s.mg.drop n} L):=Za (by rw [<-Tv]; exact H2.o.drop HN.o);clear Tv h0 H2;go_wp2_with fail;refine yC ?_;exact ⟨rfl,H3.o⟩
 ·have d0:((n:Int)==0)=false:=by simp [h0]
  have hAl:A.length=s.V.length:=by rw [<-HX.o.2.1]; exact RY _ _ _
  have hAf: ∀v ∈ A,Yp v:=by rw [<-HX.o.2.1]; exact Ch _ _ _ HX.o.2.2.2.2.2.1
  have hAt:Zw s.V+Zw A<=18446744073709551615:=by
   have h1:=(Ci (c 6) (s.mg.take n) s.V).1;rw [HX.o.2.1] at h1;exact py
  have we: ∀j,j < s.V.length->j ∉ prN (s.mg.take n)->s.V.getD j ZU=A.getD j ZU:=fun j hj Ei=>by
   rw [<-HX.o.2.1];refine (aA (c 6) _ _ _ fun p hp=>⟨fun e=>Ei ?_,fun e=>Ei ?_⟩).symm
   ·unfold prN; exact List.mem_flatMap.2 ⟨p,hp,by simp [e]⟩
   ·unfold prN; exact List.mem_flatMap.2 ⟨p,hp,by simp [e]⟩
  have HY:=Za (Zm hAl (Zm hAf (Zm hAt we)));have hn5:n<=4096:=by have:=HX.o.1; have:=HX.o.2.2.2.1; omega
  clear h0 hAl hAf hAt we;go_wp2_with fail;refine Ti (fun w'=>Zu w' q.e 102 (UN c a q)) 7 [0,1,2,3,4,6,7,8,9,10] (?_) ?_
  ·exact H2.o.drew.blk
  refine JH ?_;refine mX ?_;refine Dw ?_;refine KY _ ⟨q.e,21,none⟩ (.pointer (some ⟨a.r,0,none⟩)) (fun w h=>h.cell 21) ?_;refine X7 ?_;refine Dw ?_;refine SV 30 _ q.e 0 (Zi c) _ rfl rfl rfl (fun w h=>TN h) underlying30 rfl Qk ?_;refine Yo ?_;have H3:=Za H2.o.drew;clear H2;generalize w2.drew=V3 at*;refine Ed ?_;refine JA #[.pointer (some ⟨a.r,0,none⟩)] call43 ((Eg.all H3.o).mono ?_);rintro e w4 ⟨va,rfl,h4,_⟩;have H4:=Za h4;refine ⟨_,rfl,h4.blk,?_⟩;clear h4 H3;have ni:Zj (Zv Zb 242 #[va,.slice id n cd,.agg (Zi c)] w4 fun e w'=> ∃v v2,e= .returned (.tuple #[v,v2])/\Eg (N+1+1+1) w0 w' c a q (ZK (ZK (ZK Z N (YU 116 2 (.slice id n cd) n (JF (s.mg.take n)))) (N+1) (YU 68 7 va s.V.length (XC s.V))) (N+1+1) (YU 68 7 v s.V.length (XC A))) { s with mg:=s.mg.drop n} L):=Za (by
   have r1:=H4.o.row (r:=N) HN.o Zd Uv;obtain ⟨ab,ac,rfl,hl⟩:=H4.o.lst (r:=N+1) Yd Zd Zr;have hq:Prs w4 (fun _=>False) id (s.mg.take n):=fun h0=>by
    rcases r1.2 with ⟨e1,e2⟩ | ⟨g1,cp1,cur,e1,_,e2,_⟩
    ·have:=HX.o.2.2.1; omega
    ·injection e1 with e1 _ _;refine ⟨g1,0,e1,fun h=>h,(Yj.1 e2).1,fun i v hi=>?_⟩;subst e1;intro j u hj;have Fc:=(Zk.1 hj).1;have:=r1.cells rfl (i*2+j) u (by unfold JF; rw [Mr (row:=Kc) (k:=2) (fun _=>rfl) hi Fc]; exact hj);exact Zf0
   have:=iS ab id ac cd s.V (s.mg.take n) c w4 hl hq HX.o.2.2.2.2.2.1 HX.o.2.2.2.2.2.2.2.2.m17 HX.o.2.2.2.2.1 (by rw [HX.o.2.2.1]; omega);have e1:B9 c (s.mg.take n)=n:=by unfold B9; rw [HX.o.2.2.1]; have:=HX.o.1; omega
   rw [e1,HX.o.2.2.1,ZV (by rw [HX.o.2.2.1]; exact Zh _),HX.o.2.1] at this;exact this.mono fun e w' ⟨v,g,he,g1,_,_,_,g3⟩=>⟨v,_,he,H4.o.fresh g1 g3⟩)
  refine JC (i:=11) ?_;refine Jk ?_;refine JA #[va,.slice id n cd,.agg (Zi c)] call242 ((ni.o).mono ?_);rintro e w5 ⟨vA,vB2,rfl,h5⟩;refine ⟨_,rfl,h5.blk,?_⟩;have HB5:=Za h5.blk;obtain ⟨iA,cA,rfl⟩:=XK (h5.row (r:=N+1+1) Yd Zd Zr);obtain ⟨nV,fZ⟩:=ZR (s.V.length);have HM:=Za fZ;rw [fZ] at h5;have H5:=Za h5;rw [fZ];clear ni H4 h5 fZ;refine Jk ?_;refine NL (fun w'=>Zu w' q.e 102 (UN c a q)) (m:=5) (f:=0) [12,13,14,15,16] (?_) ?_
  ·exact HB5.o
  refine JH ?_;refine OJ ?_;refine Sk ?_;refine Yo ?_;clear HB5;refine ⟨by kernel_rfl,YM ?_⟩;refine Jk ?_;go_wp2_with fail;go_loopw [38] (fun s38 wr=> ∃(k:Nat) (W:List ZN),k<=n/\s38= .int .i64 k/\Zj (dQ s.V A (prN ((s.mg.take n).take k)) W/\Eg (N+1+1+1) w0 wr c a q (ZK (ZK (ZK Z N (YU 116 2 (.slice id n cd) n (JF (s.mg.take n)))) (N+1) (YU 68 7 va nV (XC s.V))) (N+1+1) (YU 68 7 (.slice iA nV cA) nV (XC A))) { s with V:=W,mg:=s.mg.drop n} L)) (fun s38 _=>n -(intOf s38).toNat)
  case atStart=>exact ⟨0,s.V,by omega,rfl,Za ⟨dQ.refl _ _,H5.o⟩⟩
  case round=>
   obtain ⟨k,W,hk,rfl,HE⟩:=hrel
   by_cases XJ:k < n
   ·obtain ⟨p,hp⟩ : ∃p,(s.mg.take n)[k]?=some p:=⟨_,Zg (by rw [HX.o.2.2.1]; exact XJ)⟩;obtain ⟨i,j,rfl,hi,hj⟩:=HX.o.2.2.2.2.2.2.2.1 p (ZT (Zz hp));have Rf:wr.ownsRow 0 116 2 (.slice id n cd) n (YE Kc (s.mg.take n)):=HE.o.2.row (r:=N) HN.o Zd (by rw [Zy Zd,Zy Zd,Zr]; rfl);obtain ⟨gD,eid,My⟩:=Ny (row:=Kc) (sz:=2) (l:=s.mg.take n) (fun _=>rfl) Rf Zd hp;subst eid;clear Rf;have hps:=xp hp;have hAi:i < A.length:=by rw [HY.o.1]; exact hi
    have hAj:j < A.length:=by rw [HY.o.1]; exact hj
    have C9:(i:Int)< (nV:Int):=by have:=HM.o; omega
    have Ei:(j:Int)< (nV:Int):=by have:=HM.o; omega
    have Oi: ¬(i:Int)< 0:=Zd;have OP: ¬(j:Int)< 0:=Zd;have HI:=Za (Zm hi (Zm hAi C9));have HJ:=Za (Zm hj (Zm hAj Ei));have HPs:=Za hps;have HRg:=Za My;clear hp hi hj My hps hAi hAj;go_upto_region 5 with (fail);have CJ:=Za (HE.o.2.below ((Zn _ _).alloc (Zh _) (.cells (YJ ((i:Int),(j:Int))) 116)));have HMd:=Za HE.o.1;have HBx:Zj (Zu (wr.alloc (.cells (YJ ((i:Int),(j:Int))) 116)) wr.heap.size 116 (YJ ((i:Int),(j:Int)))):=Za (Zu.new _ _ _);go_upto_region 6 with (first | (refine Jt rfl 116 _ rfl gD (k*2) rfl (Kc ((i:Int),(j:Int))) _ HRg.o underlying116 rfl MD ?_) | (refine Up wr.heap.size (YJ ((i:Int),(j:Int))) 116 (ZB wr _) MD (UM _) ?_; rw [Zq]));refine Jk ?_;clear HE HRg;generalize wr.heap.size=zp at*;generalize wr.alloc (.cells (YJ ((i:Int),(j:Int))) 116)=W1 at*;go_wp2_with (first | (refine Kl 116 zp HBx.o underlying116 MD ?_));clear HBx;simp only [YJ,Kc];have kC: ∀W:Zc,(Yy 116 (.agg #[.int .i64 (i:Int),.int .i64 (j:Int)]) (.int .i64 0)).run Zb W= .ok (.int .i64 (i:Int)) W:=fun W=>by kernel_rfl
    have hx1: ∀W:Zc,(Yy 116 (.agg #[.int .i64 (i:Int),.int .i64 (j:Int)]) (.int .i64 1)).run Zb W= .ok (.int .i64 (j:Int)) W:=fun W=>by kernel_rfl
    obtain ⟨gA,rfl,HR1⟩ : ∃gA,iA=some ⟨gA,0,none⟩/\Zj (∀x,x < A.length->W1.rangeAt gA (x*7) (A.getD x ZU).row):=by
     have r0:W1.ownsRow 0 68 7 (.slice iA nV cA) nV (XC A):=CJ.o.row (r:=N+1+1) Yd Zd Zr
     rcases r0.2 with ⟨h1,_⟩ | ⟨g,Bg,cur,h1,_⟩
     ·injection h1 with _ h3 _; exact absurd C9 Zd
     ·injection h1 with h1 _ _;subst h1;exact ⟨g,rfl,Za fun x hx=>oz r0 hx⟩
    refine mY ?_;go_wp2_with fail;refine BU 10 ?_;refine BY ?_;refine Dw ?_;refine KY _ ⟨q.e,21,none⟩ (.pointer (some ⟨a.r,0,none⟩)) (fun w' h=>by obtain ⟨m,rfl⟩:=h; exact (CJ.o.blk.drewN _).cell 21) ?_;refine X7 ?_;refine Dw ?_;refine Vv 68 _ gA (i*7) (A.getD i ZU) _ rfl rfl rfl (fun w' h=>by obtain ⟨m,rfl⟩:=h; exact HR1.o i HI.o.2.1) underlying68 rfl Ya ?_;refine Jk ?_;refine Yo ?_;intro _ JG;obtain ⟨nr1,Xk⟩:=JG;subst Xk;go_wp2_with fail;refine (ZkH (CJ.o.drewN nr1) HMd.o HI.o.1 HY.o.1 HX.o.2.2.2.2.2.1 HY.o.2.1 HY.o.2.2.1).mono ?_;rintro e W2 ⟨rfl,jv,he2⟩;have Zkg:=Za jv;have Me:=Za he2;clear CJ HR1 HMd jv he2;have HR2:Zj (∀x,x < A.length->W2.rangeAt gA (x*7) (A.getD x ZU).row):=by
     have r0:W2.ownsRow 0 68 7 (.slice (some ⟨gA,0,none⟩) nV cA) nV (XC A):=Me.o.row (r:=N+1+1) Yd Zd Zr;exact Za fun x hx=>oz r0 hx
    go_wp2_with fail;rw [rounds_succ];go_wp2_with fail;refine BU 10 ?_;refine BY ?_;refine Dw ?_;refine KY _ ⟨q.e,21,none⟩ (.pointer (some ⟨a.r,0,none⟩)) (fun w' h=>by obtain ⟨m,rfl⟩:=h; exact (Me.o.blk.drewN _).cell 21) ?_;refine X7 ?_;refine Dw ?_;refine Vv 68 _ gA (j*7) (A.getD j ZU) _ rfl rfl rfl (fun w' h=>by obtain ⟨m,rfl⟩:=h; exact HR2.o j HJ.o.2.1) underlying68 rfl Ya ?_;refine Jk ?_;refine Yo ?_;intro _ JG;obtain ⟨nr2,Xk⟩:=JG;subst Xk;go_wp2_with fail;refine (ZkH (Me.o.drewN nr2) Zkg.o HJ.o.1 HY.o.1 HX.o.2.2.2.2.2.1 HY.o.2.1 HY.o.2.2.1).mono ?_;rintro e W3 ⟨rfl,hm3,he3⟩;have OM:=Za (Zm hm3 he3);clear Me HR2 Zkg hm3 he3;go_wp2_with fail;rw [rounds_succ];go_wp2_with fail;refine ⟨⟨k+1,_,by omega,by rfl,Za ⟨?_,OM.o.2⟩⟩,?_⟩
    ·rw [HPs.o]; exact OM.o.1
    ·show n -((k:Int)+1).toNat < n -((k:Int)).toNat;omega
   ·obtain rfl:k=n:=Zd;clear XJ;have XJ: ¬k < k:=Zd;have H7:Zj (Eg N w0 wr c a q Z { s with V:=A,mg:=s.mg.drop k} L):=Za (by
     have h1:=HE.o;rw [ZV (by rw [HX.o.2.2.1]; exact Zh _)] at h1;have e:=h1.1.done HY.o.1 HY.o.2.2.2;have h2:=h1.2;rw [e] at h2;exact (((h2.less Yd).less Yd).less HN.o).ext fun k h1 h2=>by rw [Zy Zd,Zy Zd,Zy Zd])
    exact pk
end
end
section
open Go Go.RowKit Go.Deep
theorem fN (e:Int)(i:Nat) : ∀(A:List Nat) (V:List ZN),Jd e V (A++[i])=(Jd e V A).set i (Mw e ((Jd e V A).getD i ZU)).2/\Qq e V (A++[i])=Qq e V A++[⟨i,IS e ((Jd e V A).getD i ZU),true⟩]
 | [],V=>⟨rfl,rfl⟩
 | j::A,V=>by
  obtain ⟨h1,h2⟩:=fN e i A (V.set j (Mw e (V.getD j ZU)).2);refine ⟨?_,?_⟩
  ·rw [Yf]; exact h1
  ·rw [Yf]; show _::_=_::_++_; rw [Yf]; exact congrArg _ h2
theorem qU {e:Int}{V:List ZN}{F:List Nat}{k i:Nat}(hk:F[k]?=some i) :Jd e V (F.take (k+1))=(Jd e V (F.take k)).set i (Mw e ((Jd e V (F.take k)).getD i ZU)).2/\Qq e V (F.take (k+1))=Qq e V (F.take k)++[⟨i,IS e ((Jd e V (F.take k)).getD i ZU),true⟩]:=by
 rw [Y8,hk,QA];exact fN e i _ V
theorem wZ {F:List Nat}(hn:F.Nodup){k i:Nat}(hk:F[k]?=some i) : ¬i ∈ F.take k:=fun h=>by
 obtain ⟨j,hj,e⟩:=List.getElem_of_mem h;rw [Xl] at hj;obtain ⟨TU,q9⟩:=Zk.1 hk;rw [List.getElem_take] at e;exact absurd ((List.getElem_inj hn).1 (e.trans q9.symm)) Zd
theorem Tf: ∀ {l:List Pm},(∀p ∈ l,0<=p.am)->0<=Vn l
 | [],_=>Int.le_refl _
 | p::l,h=>by
  have h1:=Tf (l:=l) (fun x hx=>h x Dp);have h2:=h p ZE;show 0<=p.am+Vn l;omega
section
variable {N:Nat} {w0:FP} {w w' w1:Zc} {c cf:Nat->Int} {a:Pl} {q:Ql} {X Z:Nat->Zc->(Nat->Prop)->Prop} {s s':Sg} {L L':List QZ} {k:Nat}
theorem Eg.readsI (h:Eg N w0 w c a q Z s L){r:Nat}(GM:11<=r)(hr:r < N){b:Option Addr}{l:List Int}(hx:Z r=VM NN 1 b l){k:Nat}{i:Int}(hk:l[k]?=some i) : ∃g off,b=some ⟨g,off,none⟩/\w.cell? ⟨g,off+k,none⟩=some (.int .i64 i):=by
 obtain ⟨X,hX,_,h,_,_,hz,_⟩:=h.open;obtain ⟨S,hp,_⟩:=h.part hr;rw [Js Zd,hz r GM hr,hx] at hp;obtain ⟨g,off,h1,_,_,h4⟩:=hp.1 (by have:=(Zk.1 hk).1; omega);refine ⟨g,off,h1,?_⟩;have:=h4 k i hk 0 _ rfl;rwa [Nat.mul_one,Nat.add_zero] at this
structure Wh (c:Nat->Int)(s:Sg) :Prop where
 vok: ∀v ∈ s.V,FM s.ep v
 sum:Zw s.V+s.P+s.B=s.D
 p0:0<=s.P
 b0:0<=s.B
 d1:s.D<=18446744073709551615
 cap:s.D - s.P - s.B<=c 4
 c4:c 4<=18446744073709551615
 cu:s.cu<=100
 len:s.V.length<=100
theorem ZbM (h:Eg N w0 w c a q Z s L)(t:Tm c s)(hw:Wh c s){vs p:Int}{m0:Nat}(hm0:LN (OS s.V) s.cu vs p=m0){F:List Nat}(hF:Kq (OS s.V) s.cu m0=F)(hn:F.Nodup)(hr: ∀i ∈ F,VU s.V (ME s.ep) ((i:Nat) :Int)) :
  Zv Zb 139 #[.pointer (some ⟨q.e,0,none⟩),.int .i64 vs,.int .i64 p] w fun e w'=> ∃v,e= .returned (.tuple #[v,.int .i64 (m0:Int)])/\
   Eg (N+1) w0 w' c a q (ZK Z N (YU 252 3 v F.length (YE J2 (Qq s.ep s.V F)))) { s with V:=Jd s.ep s.V F,P:=s.P+Vn (Qq s.ep s.V F),cu:=ER s.V.length s.cu m0} L:=by
 have hN:=h.low;obtain ⟨m,hm⟩:=ZR (F.length);have rf:m<=100:=by
  have h1:=List.Nodup.length_le_of_subset (l₂:=List.range s.V.length) hn (fun i hi=>List.mem_range.2 (by
   obtain ⟨j,v,e,hj,_⟩:=hr i hi;have:=(Zk.1 hj).1;omega))
  rw [List.length_range] at h1; have:=hw.len; omega
 have HSw:=Za (fun n:Nat=>Zg4 (vs:=vs) (p:=p) h hw.cu hw.len);rw [hm0] at HSw;have hz:KU (OS s.V) s.cu m0=F.map fun i:Nat=>(i:Int):=by unfold KU; rw [hF]
 rw [hz,Yt,hm] at HSw;have tF:Zj (∀k,js s.ep s.V (Jd s.ep s.V (F.take k))/\Zw (Jd s.ep s.V (F.take k))=Zw s.V - Vn (Qq s.ep s.V (F.take k))/\(∀p ∈ Qq s.ep s.V (F.take k),0<=p.am/\p.fl=true)/\ ∀i,F[k]?=some i-> ∃u,s.V[i]?=some u/\ME s.ep u/\(Jd s.ep s.V (F.take k))[i]?=some u):=Za fun k=>by
  have hnt:(F.take k).Nodup:=hn.sublist (List.take_sublist _ _);have hrt: ∀i ∈ F.take k,VU s.V (ME s.ep) ((i:Nat) :Int):=fun i hi=>hr i (ZT hi)
  obtain ⟨g1,g2,g3⟩:=Nq _ _ hw.vok hnt hrt;refine ⟨g1,g2,g3,fun i hi=>?_⟩;obtain ⟨j,u,e,hj,hu⟩:=hr i (Zz hi);obtain rfl:i=j:=Zd;exact ⟨u,hj,hu,((nI s.ep _ _ hnt hrt).2.1 i (wZ hn hi)).trans hj⟩
 have HX:=Za (Zm hw (Zm t hm));have HN:=Za hN;obtain ⟨e0,fU⟩:=ZR (ER s.V.length s.cu m0);rw [fU] at HSw;rw [hm,fU];clear fU;clear h t hw hF hn hr hN hm hz hm0;go_enter func139,ntmps139;go_wp2_with fail;refine ((HSw.o 0)).mono ?_;rintro e w2 ⟨b2,cp,rfl,h2,_⟩;have H2:=Za (h2.nil 252 3);clear h2 HSw;go_wp2_with fail;go_loopw [10,28] (fun s10 s28 wr=> ∃(k:Nat) (pa:Option Addr) (pc:Nat),k<=m/\s10= .slice pa k pc/\s28= .int .i64 k/\Zj (Eg (N+1+1) w0 wr c a q (ZK (ZK Z N (VM NN 1 b2 (F.map fun i:Nat=>(i:Int)))) (N+1) (YU 252 3 (.slice pa k pc) k (YE J2 (Qq s.ep s.V (F.take k))))) { s with V:=Jd s.ep s.V (F.take k),P:=s.P+Vn (Qq s.ep s.V (F.take k)),cu:=e0} L)) (fun _ s28 _=>m -(intOf s28).toNat)
 case atStart=>exact ⟨0,none,0,by omega,rfl,rfl,Za (by
  have e:s.P+Vn (Qq s.ep s.V (F.take 0))=s.P:=by simp [Qq,Vn]
  rw [e]; exact H2.o)⟩
 case round=>
  obtain ⟨k,pa,pc,hk,rfl,rfl,HE⟩:=hrel
  by_cases XJ:k < m
  ·obtain ⟨i,hi⟩ : ∃i,F[k]?=some i:=⟨_,Zg (by rw [HX.o.2.2]; exact XJ)⟩;obtain ⟨g,off,eb,hc⟩:=HE.o.readsI (r:=N) (k:=k) (i:=(i:Int)) HN.o Zd Uv (by rw [ZM,hi]; rfl);subst eb;obtain ⟨fV,gg,Ak,jt⟩:=tF.o k;obtain ⟨u,hus,hru,nZ⟩:=jt i hi;obtain ⟨Ff,hsp⟩:=qU (e:=s.ep) (V:=s.V) hi;have hpos1:=(tF.o (k+1)).2.2.1;have DD:(Jd s.ep s.V (F.take k)).getD i ZU=u:=VG nZ;obtain ⟨f1,f2⟩:=Po hru.1 hru.2;rw [DD,f1] at Ff;rw [DD,f2] at hsp;obtain ⟨v2,SJ⟩ : ∃v2,({ u with bal:=0,st:=6} :ZN)=v2:=⟨_,rfl⟩;rw [SJ] at Ff;have hvu:=fV.vok u (Xt nZ);have ju:=hvu.fit;have q6:=ju.bal;have HPy:Zj (∀wx,Z3 210 #[.agg (Ze u),.int .i64 s.ep] wx (.tuple #[.agg (Ze v2),.int .u64 u.bal,.int .i64 0])):=Za fun wx=>by
    have:=ZcL u s.ep wx ju.2 q6.1 q6.2;rw [show Ea [EG s.ep,QH 5] u.bal u= .tuple #[.agg (Ze (Mw s.ep u).2),.int .u64 (IS s.ep u),.int .i64 (Mw s.ep u).1] from rfl,f1,f2,SJ] at this;exact this
   have MB:=HX.o.1.sum;have h0P:=HX.o.1.p0;have h0B:=HX.o.1.b0;have hd1:=HX.o.1.d1;have Gh:=HX.o.1.cap;have hc4:=HX.o.1.c4;have hsp0:=Tf (fun p hp=>(Ak p hp).1);have htn:=JP (fun v hv=>(fV.vok v hv).fit);have hfv:Yp v2:=by rw [<-SJ]; exact ⟨mH ZE ZE,rfl⟩
   have hv20:v2.bal=0:=by rw [<-SJ]
   have htu:u.bal<=Zw (Jd s.ep s.V (F.take k)):=by
    have h1:=J4 nZ (v:=v2);have h2:=JP (l:=(Jd s.ep s.V (F.take k)).set i v2) (fun v hv=>by
     rcases List.mem_or_eq_of_mem_set hv with h | rfl
     ·exact (fV.vok v h).fit
     ·exact hfv)
    omega
   have tH:Zj (∀wx zb,Eg (N+2+1) w0 wx c a q (ZK (ZK (ZK Z N (VM NN 1 (some ⟨g,off,none⟩) (F.map fun i:Nat=>(i:Int)))) (N+1) (YU 252 3 (.slice pa k pc) k (YE J2 (Qq s.ep s.V (F.take k))))) (N+2) (Xm zb 68 (Ze v2))) { s with V:=Jd s.ep s.V (F.take k),P:=s.P+Vn (Qq s.ep s.V (F.take k)),cu:=e0} L->Zv Zb 208 #[.pointer (some ⟨q.e,21,none⟩),.int .i64 (i:Int),.agg (Ze v2),.int .u64 u.bal] wx fun e w'=>e= .returned (.tuple #[])/\Eg (N+1+1) w0 w' c a q (ZK (ZK Z N (VM NN 1 (some ⟨g,off,none⟩) (F.map fun i:Nat=>(i:Int)))) (N+1) (YU 252 3 (.slice pa k pc) k (YE J2 (Qq s.ep s.V (F.take k))))) { s with V:=Jd s.ep s.V (F.take (k+1)),P:=s.P+Vn (Qq s.ep s.V (F.take (k+1))),cu:=e0} L):=Za fun wx zb hx=>by
    have:=ZkJ hx (n:=i) (v:=u) (v':=v2) (x:=u.bal) nZ hfv (by show Zw (Jd s.ep s.V (F.take k)) - _+_<=_; omega) (by unfold JJ; simp only; omega) q6.1 Lu;refine this.mono fun e w' ⟨he,h1⟩=>⟨he,?_⟩
    have h2:=h1.drop Yd;have e1:s.P+Vn (Qq s.ep s.V (F.take (k+1)))=s.P+Vn (Qq s.ep s.V (F.take k))+u.bal:=by
     rw [hsp,M0]; simp only [Vn]; omega
    rw [e1,Ff];exact h2
   have HG:Zj (Z3 126 #[.pointer (some ⟨a.r,0,none⟩),.int .i64 (i:Int)] wr (.tuple #[.agg (Ze u),.bool true])):=Za (by
    have:=HE.o.get (n:=i) (show i < (Jd s.ep s.V (F.take k)).length from (Zk.1 nZ).1);rw [show ({ s with V:=Jd s.ep s.V (F.take k),P:=s.P+Vn (Qq s.ep s.V (F.take k)),cu:=e0} :Sg).V.getD i ZU=u from DD] at this;exact this)
   have y0:wr.cell? ⟨q.e,21,none⟩=some (.pointer (some ⟨a.r,0,none⟩)):=Eg.x21 HE.o;have HSp:=Za hsp;clear hi fV gg Ak jt hus hru nZ Ff hsp hpos1 DD f1 f2 SJ hvu ju q6 MB h0P h0B hd1 Gh hc4 hsp0 htn hfv hv20 htu;go_wp2_with fail;refine HG.o.mono ?_;rintro e w3 ⟨rfl,hb⟩;have E3:Zj (Eg (N+2+1) w0 (w3.alloc (.cells (Ze u) 68)) c a q (ZK (ZK (ZK Z N (VM NN 1 (some ⟨g,off,none⟩) (F.map fun i:Nat=>(i:Int)))) (N+1) (YU 252 3 (.slice pa k pc) k (YE J2 (Qq s.ep s.V (F.take k))))) (N+2) (Xm w3.heap.size 68 (Ze u))) { s with V:=Jd s.ep s.V (F.take k),P:=s.P+Vn (Qq s.ep s.V (F.take k)),cu:=e0} L):=Za ((HE.o.below hb).box (Ze u) 68);clear hb HE HG y0;go_upto_region 7 with (first | (refine Up w3.heap.size (Ze u) 68 (ZB w3 _) Ya (Yi _) ?_; rw [Zq]));generalize w3.heap.size=zb at*;generalize w3.alloc (.cells (Ze u) 68)=W3 at*;go_cut [15,16] from 42 to 51 (fun s15 s16 wx=>s15= .int .u64 u.bal/\s16= .int .i64 0/\Zj (Eg (N+2+1) w0 wx c a q (ZK (ZK (ZK Z N (VM NN 1 (some ⟨g,off,none⟩) (F.map fun i:Nat=>(i:Int)))) (N+1) (YU 252 3 (.slice pa k pc) k (YE J2 (Qq s.ep s.V (F.take k))))) (N+2) (Xm zb 68 (Ze v2))) { s with V:=Jd s.ep s.V (F.take k),P:=s.P+Vn (Qq s.ep s.V (F.take k)),cu:=e0} L))
   case first=>
    have kv:Eg (N+2) w0 W3.drew c a q (ZK (ZK Z N (VM NN 1 (some ⟨g,off,none⟩) (F.map fun i:Nat=>(i:Int)))) (N+1) (YU 252 3 (.slice pa k pc) k (YE J2 (Qq s.ep s.V (F.take k))))) { s with V:=Jd s.ep s.V (F.take k),P:=s.P+Vn (Qq s.ep s.V (F.take k)),cu:=e0} L:=E3.o.drew.drop Yd;refine Ti (fun w'=>Eg (N+2) w0 w' c a q (ZK (ZK Z N (VM NN 1 (some ⟨g,off,none⟩) (F.map fun i:Nat=>(i:Int)))) (N+1) (YU 252 3 (.slice pa k pc) k (YE J2 (Qq s.ep s.V (F.take k))))) { s with V:=Jd s.ep s.V (F.take k),P:=s.P+Vn (Qq s.ep s.V (F.take k)),cu:=e0} L) 10 [1,2,3] (?_) ?_
    ·exact kv
    refine JH ?_;refine Nh ?_;refine Ec ?_;refine Yo ?_;have E4:=Za E3.o.drew;clear E3 tH;generalize W3.drew=W4 at*;refine KC (i:=0) (k:=4) ZC ZE ZE ?_ ?_
    ·refine Yv rfl rfl (wp_load_row 68 _ rfl zb rfl 68 (Ze u) (0,0) _ (E4.o.blkAt (r:=N+2) Yd Zd Zr) underlying68 rfl Ya ?_);refine ⟨kv,?_⟩;refine Jk ?_;refine JC (i:=4) ?_;refine JA #[.pointer (some ⟨q.e,20,none⟩)] call42 ((BI (s:= { s with V:=Jd s.ep s.V (F.take k),P:=s.P+Vn (Qq s.ep s.V (F.take k)),cu:=e0}) E4.o HX.o.2.1.b0 HX.o.2.1.b1 HX.o.2.1.l HX.o.2.1.q).mono ?_);rintro e w5 ⟨rfl,m1,rfl⟩;have E5:=Za (E4.o.drewN m1);have hD5:=kv.drewN m1;refine ⟨_,rfl,hD5,?_⟩;clear E4 kv;generalize W4.drewN m1=W5 at*;exact zT8
    ·refine JA #[.pointer (some ⟨q.e,20,none⟩)] call42 ((BI (s:= { s with V:=Jd s.ep s.V (F.take k),P:=s.P+Vn (Qq s.ep s.V (F.take k)),cu:=e0}) E4.o HX.o.2.1.b0 HX.o.2.1.b1 HX.o.2.1.l HX.o.2.1.q).mono ?_);rintro e w5 ⟨rfl,m1,rfl⟩;have E5:=Za (E4.o.drewN m1);have hD5:=kv.drewN m1;refine ⟨_,rfl,hD5,?_⟩;clear E4 kv;generalize W4.drewN m1=W5 at*;refine Jk ?_;refine JC (i:=0) ?_;refine Yv rfl rfl (wp_load_row 68 _ rfl zb rfl 68 (Ze u) (0,0) _ (E5.o.blkAt (r:=N+2) Yd Zd Zr) underlying68 rfl Ya ?_);refine ⟨hD5,?_⟩;exact zT8
   case rest=>
    obtain ⟨rfl,rfl,E7⟩:=hcut;clear E3 HPy;generalize wc=W7 at*;go_wp2_with fail;have HB7:=Za (E7.o.blkAt (r:=N+2) Yd Zd Zr);refine BU 6 ?_;refine BY ?_;refine Dw ?_;refine Zl2 ?_;refine X7 ?_;refine U4 ?_;refine Yo ?_;intro _ JG;obtain ⟨nr,Xk⟩:=JG;subst Xk;have pF:=Za (tH.o _ _ (E7.o.drewN nr));clear E7 tH HB7;generalize W7.drewN nr=W8 at*;go_wp2_with fail;refine pF.o.mono ?_;rintro e w9 ⟨rfl,h9⟩;have H9:=Za h9;clear h9 pF;obtain ⟨j0,OP,GO,Ty,vy⟩:=np;go_wp2_with (first | (refine LQ rfl 252 _ rfl ⟨(i:Int),u.bal,true⟩ ZC ?_) | (refine P3 rfl _ ⟨(i:Int),u.bal,true⟩ rfl rfl ?_) | (at_builtin; refine Eg.grow H9.o (r:=N+1) Yd (Nat.lt_succ_self _) Zr rfl _ _ 51 rfl j0 _ 24 underlying51 OP GO Ty vy (Ht _) Y5 rfl 1 (J7 ⟨(i:Int),u.bal,true⟩) 252 _ rfl rfl rfl ?c1 ?c2 ?c3 ?_))
    case c1=>exact Py.row_one _
    case c2=>unfold maxLen; omega
    case c3=>omega
    intro v' w10 SG _;obtain ⟨a2,c2,rfl⟩:=XK (SG.row (r:=N+1) Yd (Nat.lt_succ_self _) Zr);rw [XB] at SG;have e10:YE J2 (Qq s.ep s.V (F.take k))++(J7 ⟨(i:Int),u.bal,true⟩).toList=YE J2 (Qq s.ep s.V (F.take (k+1))):=by
     rw [HSp.o,Ku,FV]; rfl
    rw [e10] at SG;have H10:=Za SG;clear SG e10 H9 HSp;go_wp2_with fail;go_roundw
    case rel=>exact ⟨k+1,a2,c2,by omega,rfl,by go_num,H10⟩
    case measure=>exact KX
  ·obtain rfl:k=m:=Zd;clear XJ;have XJ: ¬k < k:=Zd;have H7:=HE.o;rw [ZV (by rw [HX.o.2.2]; exact Zh _)] at H7;have H8:Zj (Eg (N+1) w0 wr c a q (ZK Z N (YU 252 3 (.slice pa k pc) k (YE J2 (Qq s.ep s.V F)))) { s with V:=Jd s.ep s.V F,P:=s.P+Vn (Qq s.ep s.V F),cu:=e0} L):=Za (Eg.pick (m:=1) H7 HN.o (fun k h1 h2=>by rw [Zy Zd,Zy Zd]) Zr);clear HE H7;go_wp2_with fail;go_ret2;exact ⟨_,rfl,H8.o⟩
end
end
section
open Go Go.RowKit Go.Deep
theorem pW {V:List ZN}(h: ∀v ∈ V,Yp v) :NI (Qj V):=fun j=>by
 unfold Qj;rw [Zo,ZM]
 cases hj:V[j]? with
 | none=>simp
 | some v=>exact (h v (Xt hj)).bal
theorem dn (V:List ZN) :mD V<=V.length:=List.countP_le_length
theorem Zdt (om:Int->Int)(F W:List Int)(B x:Int) :(He om F W B x).1.length<=F.length+W.length:=by
 have:=nw om F W (gr B x);show (EW om F W (gr B x)).1.length<=_;omega
theorem ZbC {e:Int}{V:List ZN}{L:List QZ}{t:Int}(h:XZ e V L) :Vr t L=((Vr t L).map Int.toNat).map Ic/\((Vr t L).map Int.toNat).Nodup/\ ∀i ∈ (Vr t L).map Int.toNat,i < V.length:=by
 have hm: ∀i ∈ Vr t L,∃n:Nat,i=(n:Int)/\n < V.length:=fun i hi=>by
  obtain ⟨m,u,e1,hu,_⟩:=(h.ub i).1 (Yc.2 ⟨_,Ez.1 hi,rfl⟩);exact ⟨m,e1,(Zk.1 hu).1⟩
 refine ⟨?_,?_,fun i hi=>?_⟩
 ·rw [Vf];refine (List.map_id _).symm.trans (Gy fun i hi=>?_);obtain ⟨n,rfl,_⟩:=hm i hi;rfl
 ·refine List.pairwise_map.2 (List.Pairwise.imp_of_mem (fun {i j} hi hj Kj e=>?_) (Oh h.nd));obtain ⟨n,rfl,_⟩:=hm i hi;obtain ⟨m,rfl,_⟩:=hm j hj;exact Kj (by rw [show n=m by simpa using e])
 ·obtain ⟨j,hj,rfl⟩:=Yc.1 hi;obtain ⟨n,rfl,hn⟩:=hm j hj;exact hn
def b1S (s:Sg) :Sg:= { XP s with V:=s.V.map (YB (s.ep+1))}
def tp (s:Sg) :Sg:= { XP s with V:=Dr (XP s)}
def b2L (s:Sg)(L:List QZ) :List QZ:=MP (s.ep+1) (s.V.map (YB (s.ep+1))) L
def b3S (c:Nat->Int)(s:Sg) :Sg:= { asS (tp s) (Nl c (XP s)) with V:=CO c (XP s)}
def b4S (c:Nat->Int)(s:Sg) :Sg:= { b3S c s with pd:=s.pd.drop (St c (XP s))}
def b5S (c:Nat->Int)(s:Sg) :Sg:= { b4S c s with V:=p5 c (XP s)}
section
variable {N:Nat} {w0:FP} {w w' w1:Zc} {c cf:Nat->Int} {a:Pl} {q:Ql} {X Z:Nat->Zc->(Nat->Prop)->Prop} {s s':Sg} {L L':List QZ} {k:Nat}
theorem Eg.activate (h:Eg N w0 w c a q Z s L){r:Nat}(GM:11<=r)(hr:r < N){wv:Zl}{U:List Int}{nu:Nat}{lim:Int}(hx8:Z r=YU 23 1 wv nu (U.map (ZG .u64)))(hl:U.length<=9223372036854775807)(hA:NI U)(Zhp:DU lim) :
  Zv Zb 204 #[.pointer (some ⟨a.p,0,none⟩),.int .u64 lim,wv] w fun e w'=> ∃v,e= .returned v/\
   Eg (N+1) w0 w' c a q (ZK Z N (YU 3 1 v (LC lim (s.pd.map (KK U))) ((s.pd.take (LC lim (s.pd.map (KK U)))).map (ZG .i64)))) { s with pd:=s.pd.drop (LC lim (s.pd.map (KK U)))} L:=by
 obtain ⟨X,hX,Uz,hh,_,hK,hz,_⟩:=h.open;refine (hh.activate hX Uz (r:=r) Zd hr (hz r GM hr |>.trans hx8) hl hA Zhp).mono fun e w' ⟨v,he,g1,_⟩=>⟨v,he,?_⟩
 exact hK _ _ _ _ g1 Jl rfl rfl
theorem Eg.active (h:Eg N w0 w c a q Z s L) :Y6 44 #[.pointer (some ⟨a.r,0,none⟩)] w (.int .u64 (Yh s.V)):=by
 obtain ⟨X,hX,Uz,hh,_⟩:=h.open;exact hh.active Uz
theorem qu (hc:GE c)(hq8:c 8<=18446744073709551615)(hi:Inv c k s)(hk:k<=1000000)(hr:XZ s.ep s.V L)(Zld:(s.bk+1)%c 13=0)(vU:aY s.V s.mg)(h:Eg N w0 w c a q Z (XP s) L) :
  Zv Zb 137 #[.pointer (some ⟨q.e,0,none⟩)] w fun e w'=> ∃v,e= .returned v/\
   Eg (N+1) w0 w' c a q (ZK Z N (YU 280 3 v (br c (XP s)).length (YE Qv (br c (XP s))))) (bdS c (XP s)) (bdL c (XP s) L):=by
 have hN:=h.low;have b:=uf hc hi hk;have ep0:=hi.ep0;have ep1:=hi.ep1;have bk1:=hi.bk1;have bk0:=hi.bk0;have hV:=hi.len;have Gh:=hc.g.cap1;have gg:=hi.total hc;have t:Tm c (XP s):=⟨by show 0<=s.bk+1; omega,by show s.bk+1<=_; omega,hc.g.len0,by show s.ep+1=(s.bk+1)/c 13; rw [j7 hc.g.len0,if_pos Zld,hi.epq]⟩;have hlv: ∀v ∈ s.V,FM s.ep v:=hi.vok;have wh:=ow hi.vok ep0 hr;have Zlo:=Ziz hi.vok ep0 hr;have oa:(Dr (XP s)).length=s.V.length:=b.l1;have vv:=Da (fun v hv=>(b.v1 v hv).fit);have htv:Zw (Dr (XP s))=Zw s.V:=by rw [UZ,b.b1,<-UZ]
 have hta:Zw (p5 c (XP s))=Zw s.V:=by rw [UZ,b.b3,<-UZ]
 have htA:Zw (CO c (XP s))=Zw s.V:=by rw [UZ,b.b2,<-UZ]
 have bO:L.length<=s.V.length:=by rw [hr.len]; exact dn _
 have hLb:(MP (s.ep+1) (s.V.map (YB (s.ep+1))) L).length<=s.V.length:=by rw [wh.len]; exact ZZ (dn _) (by rw [<-oa]; exact Zh _)
 have hlf: ∀v ∈ s.V.map (YB (s.ep+1)),Yp v/\v.wd<=1099511627776:=fun v hv=>by
  obtain ⟨u,hu,rfl⟩:=Yc.1 hv;refine ⟨?_,by rw [Ey]; exact (hi.vok u hu).w⟩;unfold YB
  split
  ·exact ⟨(hi.vok u hu).fit.1,rfl⟩
  ·exact (hi.vok u hu).fit
 have nY:Zw (s.V.map (YB (s.ep+1)))=Zw s.V:=aH fun v _=>by unfold YB; split <;> rfl
 have hA2:NI (Qj (Dr (XP s))):=pW fun v hv=>(b.v1 v hv).fit
 have Pq:(Qj (Dr (XP s))).length=s.V.length:=by rw [<-oa]; simp [Qj]
 have hX0:1<=Rr c (XP s):=Wx hc;have hX1:Rr c (XP s)<=18446744073709551615:=by
  have:=hc.g.chu1;have q8:=hc.q8;unfold Rr Fy;have:Yh (Dr (XP s))/c 8<=Yh (Dr (XP s)):=Int.ediv_le_self _ vv.1;exact aR
 have hRl:(Nl c (XP s)).1.length<=s.F.length+s.W.length:=Zdt _ _ _ _ _;have hfl:=hi.fl;have hwl:=hi.wl;have hpl:=hi.pdl;have tx:=hi.mgl;have tA:=hc.q1;have hwb:wV (Dr (XP s))=wV (CO c (XP s)):=by unfold wV; rw [b.b1,b.b2]
 have H1:Zj (∀wx,Eg N w0 wx c a q Z (XP s) L->Zv Zb 198 #[.pointer (some ⟨q.e,0,none⟩)] wx fun e w'=>e= .returned (.tuple #[])/\Eg N w0 w' c a q Z (b1S s) L):=Za fun wx hx=>
  ZgX hx t hi.fits (show Zw s.V<=_ by omega) (show s.V.length<=4096 by omega)
 have H2:Zj (∀wx,Eg N w0 wx c a q Z (b1S s) L->Zv Zb 199 #[.pointer (some ⟨q.e,0,none⟩)] wx fun e w'=>e= .returned (.tuple #[])/\Eg N w0 w' c a q Z (tp s) (b2L s L)):=Za fun wx hx=>by
  obtain ⟨d1,d2,d3⟩:=ZbC (t:=s.ep+1) hr;have:=ZoR (s:=b1S s) hx ⟨t.b0,t.b1,t.l,t.q⟩ d1 d2 (fun i hi=>by show i < (s.V.map (YB (s.ep+1))).length; rw [Yt]; exact d3 i hi) (by show s.ep+1<=_; omega) (by show 0<=s.ep+1; omega) (fun v hv=>(hlf v hv).2) Zd (fun v hv=>(hlf v hv).1) (by show Zw (s.V.map (YB (s.ep+1)))<=_; omega) (by show (s.V.map (YB (s.ep+1))).length<=_; rw [Yt]; omega);refine this.mono fun e w' ⟨he,h1⟩=>⟨he,?_⟩
  have e1:tp s= { b1S s with V:=RV (b1S s).ep (b1S s).V (Vr (b1S s).ep L)}:=by
   show tp s= { b1S s with V:=RV (s.ep+1) (s.V.map (YB (s.ep+1))) (Vr (s.ep+1) L)};rw [Zlo]; rfl
  rw [e1];exact h1
 have H3:Zj (∀wx,Eg N w0 wx c a q Z (tp s) (b2L s L)->Y6 44 #[.pointer (some ⟨a.r,0,none⟩)] wx (.int .u64 (Yh (Dr (XP s))))):=Za fun wx hx=>hx.active
 have H4:Zj (∀wx,Y6 200 #[.int .u64 (Yh (Dr (XP s))),.int .u64 (c 7),.int .u64 (c 8)] wx (.int .u64 (Rr c (XP s)))):=Za fun wx=>qj _ _ _ wx vv.1 Zd (by have:=hc.q8; omega) hq8
 have H5:Zj (∀wx,Eg N w0 wx c a q Z (tp s) (b2L s L)->Zv Zb 201 #[.pointer (some ⟨q.e,21,none⟩)] wx fun e w'=> ∃v,e= .returned v/\Eg (N+1) w0 w' c a q (ZK Z N (YU 23 1 v s.V.length ((Qj (Dr (XP s))).map FG))) (tp s) (b2L s L)):=Za fun wx hx=>by
  have:=Zd8 hx (by show (Dr (XP s)).length<=_; omega);refine this.mono fun e w' ⟨v,he,h1,_⟩=>⟨v,he,?_⟩
  rw [show (tp s).V.length=s.V.length from oa] at h1;exact h1
 have H6:Zj (∀wx wv,Eg (N+1) w0 wx c a q (ZK Z N (YU 23 1 wv s.V.length ((Qj (Dr (XP s))).map FG))) (tp s) (b2L s L)->Zv Zb 202 #[.pointer (some ⟨q.e,0,none⟩),.int .u64 (Rr c (XP s)),wv] wx fun e w'=> ∃v,e= .returned v/\Eg (N+1+1) w0 w' c a q (ZK (ZK Z N (YU 23 1 wv s.V.length ((Qj (Dr (XP s))).map FG))) (N+1) (YU 280 3 v (br c (XP s)).length (YE Qv (br c (XP s))))) (b3S c s) (bdL c (XP s) L)):=Za fun wx wv hx=>by
  have:=ZbG (s:=tp s) hx ⟨t.b0,t.b1,t.l,t.q⟩ (r:=N) hN Zd Zr Zd hA2 (x:=Rr c (XP s)) Zd (by show 0<=s.ep+1; omega) (by show s.ep+1<=_; omega) (R:=Nl c (XP s)) rfl b.nd b.qd b.lo hc.gc (fun v hv=>(b.v1 v hv).fit) (fun v hv=>(b.v1 v hv).w) (by show Zw (Dr (XP s))<=_; omega) (by show (b2L s L).length+_<=_; unfold b2L; omega);refine this.mono fun e w' ⟨v,he,h1⟩=>⟨v,he,?_⟩
  have e1:(br c (XP s)).length=(Nl c (XP s)).1.length:=by unfold br; rw [Yt]
  rw [e1];exact h1
 have H7:Zj (∀wx wv va,Eg (N+1+1) w0 wx c a q (ZK (ZK Z N (YU 23 1 wv s.V.length ((Qj (Dr (XP s))).map FG))) (N+1) (YU 280 3 va (br c (XP s)).length (YE Qv (br c (XP s))))) (b3S c s) (bdL c (XP s) L)->Zv Zb 204 #[.pointer (some ⟨a.p,0,none⟩),.int .u64 (Rr c (XP s)),wv] wx fun e w'=> ∃v,e= .returned v/\
   Eg (N+1+1+1) w0 w' c a q (ZK (ZK (ZK Z N (YU 23 1 wv s.V.length ((Qj (Dr (XP s))).map FG))) (N+1) (YU 280 3 va (br c (XP s)).length (YE Qv (br c (XP s))))) (N+1+1) (YU 3 1 v (s.pd.take (St c (XP s))).length ((s.pd.take (St c (XP s))).map (ZG .i64)))) (b4S c s) (bdL c (XP s) L)):=Za fun wx wv va hx=>by
  have:=Eg.activate (s:=b3S c s) hx (r:=N) (wv:=wv) (nu:=s.V.length) (U:=Qj (Dr (XP s))) hN Zd (by rw [Zy Zd,Zr]; rfl) Zd hA2 (lim:=Rr c (XP s)) ⟨by omega,hX1⟩;refine this.mono fun e w' ⟨v,he,h1⟩=>⟨v,he,?_⟩
  have e1:LC (Rr c (XP s)) ((b3S c s).pd.map (KK (Qj (Dr (XP s)))))=St c (XP s):=by
   show LC (Rr c (XP s)) (s.pd.map (wV (Dr (XP s))))=LC (Rr c (XP s)) (s.pd.map (wV (CO c (XP s))));rw [hwb]
  rw [e1] at h1;have e2:(s.pd.take (St c (XP s))).length=St c (XP s):=by
   rw [Xl];have:=bo (lim:=Rr c (XP s)) (s.pd.map (wV (CO c (XP s))));rw [Yt] at this;exact Nat.min_eq_left this
  rw [e2];exact h1
 have H8:Zj (∀wx wv va v,Eg (N+1+1+1) w0 wx c a q (ZK (ZK (ZK Z N (YU 23 1 wv s.V.length ((Qj (Dr (XP s))).map FG))) (N+1) (YU 280 3 va (br c (XP s)).length (YE Qv (br c (XP s))))) (N+1+1) (YU 3 1 v (s.pd.take (St c (XP s))).length ((s.pd.take (St c (XP s))).map (ZG .i64)))) (b4S c s) (bdL c (XP s) L)->Zv Zb 203 #[.pointer (some ⟨q.e,21,none⟩),.int .i64 1,v] wx fun e w'=>e= .returned (.tuple #[])/\
   Eg (N+1) w0 w' c a q (ZK Z N (YU 280 3 va (br c (XP s)).length (YE Qv (br c (XP s))))) (b5S c s) (bdL c (XP s) L)):=Za fun wx wv va v hx=>by
  have:=Zea (s:=b4S c s) hx (r:=N+1+1) Zd Zd Zr (ev:=1) rfl (fun i hi=>by
   obtain ⟨m,u,e1,hu,_⟩:=b.pd i (ZT hi);exact ⟨m,e1,(Zk.1 hu).1⟩) (fun v hv=>(b.v2 v hv).fit) (by show Zw (CO c (XP s))<=_; omega) Fv
  refine this.mono fun e w' ⟨he,h1⟩=>⟨he,?_⟩
  exact Eg.pick (m:=1) (h1.less Zd) hN (fun k h1 h2=>by rw [Zy Zd,Zy Zd,Zy Zd]) Uv
 have H9:Zj (∀wx va,Eg (N+1) w0 wx c a q (ZK Z N (YU 280 3 va (br c (XP s)).length (YE Qv (br c (XP s))))) (b5S c s) (bdL c (XP s) L)->Zv Zb 205 #[.pointer (some ⟨q.e,0,none⟩)] wx fun e w'=>e= .returned (.tuple #[])/\Eg (N+1) w0 w' c a q (ZK Z N (YU 280 3 va (br c (XP s)).length (YE Qv (br c (XP s))))) (bdS c (XP s)) (bdL c (XP s) L)):=Za fun wx va hx=>
  ZbH (s:=b5S c s) hc hx (fun v hv=>(b.v3 v hv).fit) (by show Zw (p5 c (XP s))<=_; omega) (by show (p5 c (XP s)).length<=_; rw [b.l3]; omega) (by show s.mg.length<=_; omega) (fun p hp=>by
   obtain ⟨i,j,e1,h1,h2⟩:=vU p hp;exact ⟨i,j,e1,by show i < (p5 c (XP s)).length; rw [b.l3]; exact h1,by show j < (p5 c (XP s)).length; rw [b.l3]; exact h2⟩)
 have HH:=Za h;have HN:=Za hN;obtain ⟨x,hx⟩:=ZR (Rr c (XP s));obtain ⟨ac,qY⟩:=ZR (Yh (Dr (XP s)));rw [hx] at H4 H6 H7;rw [qY] at H3 H4;clear h hc hq8 hi hk hr Zld vU hN b ep0 ep1 bk1 bk0 hV Gh gg t wh Zlo oa vv htv hta htA bO hLb hlf nY hA2 Pq hX0 hX1 hRl hfl hwl hpl tx tA hwb hx qY;go_enter func137,ntmps137;go_wp2_with fail;refine (H1.o _ HH.o).mono ?_;rintro e w1 ⟨rfl,h1⟩;have E1:=Za h1;clear h1 HH H1;go_wp2_with fail;refine (H2.o _ E1.o).mono ?_;rintro e w2 ⟨rfl,h2⟩;have E2:=Za h2;clear h2 E1 H2;go_wp2_with fail;refine Ti (fun w'=>Eg N w0 w' c a q Z (tp s) (b2L s L)) 3 [0,1,2,3,4,6,7,8,9,10,11,12,13,14,15] (?_) ?_
 ·exact E2.o.drew
 refine JH ?_;show Yl _ _ _ _ [_,_,_,_,_,_,_,_,_,_,_,_,_,_,_] _;refine Dw ?_;refine yB ?_;refine X7 ?_;refine Dw ?_;refine KY _ ⟨q.e,7,none⟩ (.int .u64 (c 7)) (fun w h=>(Eg.blk h).cell 7) ?_;refine X7 ?_;refine Dw ?_;refine KY _ ⟨q.e,8,none⟩ (.int .u64 (c 8)) (fun w h=>(Eg.blk h).cell 8) ?_;refine X7 ?_;refine Yo ?_;have E3:=Za E2.o.drew;clear E2;generalize w2.drew=W3 at*;refine Ed ?_;refine JA #[.pointer (some ⟨a.r,0,none⟩)] call44 ((H3.o _ E3.o).mono ?_);rintro e w4 ⟨rfl,rfl⟩;refine ⟨_,rfl,E3.o,?_⟩;refine JC (i:=16) ?_;refine Jk ?_;refine JA #[.int .u64 ac,.int .u64 (c 7),.int .u64 (c 8)] call200 ((H4.o _).mono ?_);rintro e w4 ⟨rfl,rfl⟩;refine ⟨_,rfl,E3.o,?_⟩;refine Jk ?_;refine NL (fun w'=>Eg N w0 w' c a q Z (tp s) (b2L s L)) (m:=1) (f:=0) [17] (?_) ?_
 ·exact E3.o
 refine JH ?_;refine Hh ?_;refine U4 ?_;refine Yo ?_;clear H3 H4;refine ⟨by kernel_rfl,YM ?_⟩;refine Jk ?_;go_wp2_with fail;refine (H5.o _ E3.o).mono ?_;rintro e w5 ⟨wv,rfl,h5⟩;have E5:=Za h5;clear h5 E3 H5;go_wp2_with fail;refine (H6.o _ _ E5.o).mono ?_;rintro e w6 ⟨va,rfl,h6⟩;have E6:=Za h6;clear h6 E5 H6;go_wp2_with fail;have hB6:=E6.o.drew.blk;refine Ti (fun w'=>Zu w' q.e 102 (UN c a q)) 2 [0,1,2,3,4,5,6,7,8,9] (?_) ?_
 ·exact hB6
 refine JH ?_;refine mX ?_;refine dN ?_;refine KY _ ⟨q.e,27,none⟩ (.pointer (some ⟨a.p,0,none⟩)) (fun w h=>h.cell 27) ?_;refine X7 ?_;refine BZ ?_;refine Yo ?_;clear hB6;have E7:=Za E6.o.drew;clear E6;generalize w6.drew=W7 at*;refine JC (i:=10) ?_;refine JA #[.pointer (some ⟨a.p,0,none⟩),.int .u64 x,wv] call204 ((H7.o _ _ _ E7.o).mono ?_);rintro e w8 ⟨v8,rfl,h8⟩;have E8:=Za h8;refine ⟨_,rfl,h8.blk,?_⟩;clear h8 E7 H7;refine Jk ?_;refine JC (i:=11) ?_;refine Jk ?_;refine JA #[.pointer (some ⟨q.e,21,none⟩),.int .i64 1,v8] call203 ((H8.o _ _ _ _ E8.o).mono ?_);rintro e w9 ⟨rfl,h9⟩;have E9:=Za h9;refine ⟨_,rfl,h9.blk,?_⟩;clear h9 E8 H8;refine ⟨by kernel_rfl,YM ?_⟩;refine Jk ?_;go_wp2_with fail;refine (H9.o _ _ E9.o).mono ?_;rintro e w10 ⟨rfl,SG⟩;have E10:=Za SG;clear SG E9 H9;go_wp2_with fail;go_ret;exact ⟨_,rfl,E10.o⟩
end
end
end Go.Proofs.YtobgbcdgffgdhaaGreat
