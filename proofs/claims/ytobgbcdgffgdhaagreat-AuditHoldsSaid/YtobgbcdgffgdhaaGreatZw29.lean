/- Part 29 of 31: Asn Mix Prt Mer Who RF. -/
import Derived.Test.YtobgbcdgffgdhaaGreatZw00
import Derived.Test.YtobgbcdgffgdhaaGreatZw28
namespace Go.Proofs.YtobgbcdgffgdhaaGreat
set_option linter.unusedVariables false
set_option linter.unusedSimpArgs false
set_option maxRecDepth 100000
set_option maxHeartbeats 8000000
open _root_.And renaming intro -> Zn
open _root_.Array renaming getElem?_eq_some_iff -> Ym
open _root_.Go.Proofs.YtobgbcdgffgdhaaGreat.As renaming row -> Qw
open _root_.Go.RowKit.Below renaming refl -> Zo
open _root_.Go renaming Calls -> Zv, Value -> Zk, World -> Zc, heap_alloc_new -> ZA, wpList_load_mid -> Je, wpQuiet -> ZZ, wp_store_row -> Qi
open _root_.Go.Proofs.YtobgbcdgffgdhaaGreat.Eg renaming blkAt -> VE
open _root_.Go.Instr renaming index -> Yn
open _root_.List renaming cons_append -> Yf, getD_eq_getElem?_getD -> Zm, getElem?_eq_getElem -> Zg, getElem?_eq_some_iff -> Zj, getElem?_map -> ZH, getElem_mem -> Kj, length_cons -> Yc, length_map -> YG, length_take -> Xr, map_congr_left -> UL, map_map -> KF, mem_map -> Z6, mem_of_getElem? -> Zy, mem_of_mem_take -> ZQ, take_add_one -> Xs, take_of_length_le -> Yp
open _root_.Nat renaming le_refl -> Zh, le_trans -> ZY
open _root_.Go.NoPanic renaming normal -> Yu
open _root_.Option renaming toList_some -> QL
open _root_.Go.Proofs.YtobgbcdgffgdhaaGreat.Pm renaming row -> J8
open _root_.Go.Proofs.YtobgbcdgffgdhaaGreat.Py renaming row -> Vw
open _root_.Go.Proofs.Tryz renaming prog -> Zb
open _root_.Go.Value renaming int -> ZI, ownBlock -> Y7
open _root_.Go.World renaming setRow_alloc_new -> Zr
open Go.Proofs.Tryz
theorem Zhn {G H:Prop} (k:H) (h:DE H->G:=by
  intro zk;refine QP 68 _ zb 68 (Zd v2) _ rfl rfl rfl (fun w' h=>by obtain ⟨m,rfl⟩:=h; exact HB7.o) underlying68 rfl Yb ?_;exact zk.o) :G:=h ⟨k⟩
theorem zT7 {G:Prop} (h:G:=by
  refine Q3 ?_;refine DM ?_;refine JC #[.agg (Zd u),.int .i64 s.ep] call210 ((HPy.o _).mono ?_);rintro e w6 ⟨rfl,hb6⟩;have E6:=Za (E5.o.below hb6);have hD6:Eg (N+2) w0 w6 c a q (ZG (ZG Z N (KA Ml 1 (some ⟨g,off,none⟩) (F.map fun i:Nat=>(i:Int)))) (N+1) (YI 252 3 (.slice pa k pc) k (YK Pm.row (X6 s.ep s.V (F.take k))))) { s with V:=QT s.ep s.V (F.take k),P:=s.P+KN (X6 s.ep s.V (F.take k)),cu:=e0} L:=E6.o.drop ZO;refine ⟨_,rfl,hD6,?_⟩;clear E5 hb6 HPy wU;refine Q3 ?_;refine Mj (fun w'=>Eg (N+2) w0 w' c a q (ZG (ZG Z N (KA Ml 1 (some ⟨g,off,none⟩) (F.map fun i:Nat=>(i:Int)))) (N+1) (YI 252 3 (.slice pa k pc) k (YK Pm.row (X6 s.ep s.V (F.take k))))) { s with V:=QT s.ep s.V (F.take k),P:=s.P+KN (X6 s.ep s.V (F.take k)),cu:=e0} L) (m:=7) (f:=3) [6,7,8,9] (?_) ?_
  ·exact hD6
  refine JL ?_;refine He ?_;refine Bi ?_;refine XK ?_;refine Jg (i:=10) ?_;have hB:=E6.o.blkAt (r:=N+2) ZO Ze Zq;refine Yz rfl rfl (wp_store_row _ _ _ rfl zb (Zd v2) rfl rfl 68 _ hB Yb rfl (Ys _) ?_);have h7:=E6.o.setr (r:=N+2) ZO Ze Zq (cs':=Zd v2) (Zu.setRow hB _) (Zx.setRow (S:=fun i=>i=zb) (Zx.refl _ _) (.inl rfl) _);rw [Xx] at h7;have E7:=Za h7;have hD7:=h7.drop ZO;refine ⟨hD7,?_⟩;clear E6 hD6 hB h7;generalize w6.setRow zb (Zd v2)=W7 at*;refine Q3 ?_;refine Mj (fun w'=>Eg (N+2) w0 w' c a q (ZG (ZG Z N (KA Ml 1 (some ⟨g,off,none⟩) (F.map fun i:Nat=>(i:Int)))) (N+1) (YI 252 3 (.slice pa k pc) k (YK Pm.row (X6 s.ep s.V (F.take k))))) { s with V:=QT s.ep s.V (F.take k),P:=s.P+KN (X6 s.ep s.V (F.take k)),cu:=e0} L) (m:=2) (f:=0) [11,12] (?_) ?_
  ·exact hD7
  refine JL ?_;show wpQuiet _ _ _ _ [_,_] _;refine B9 ?_;refine XK ?_;clear hD7;refine ⟨by kernel_rfl,NoPanic.normal ?_⟩;refine Q3 ?_;go_wp2_with fail;go_meet;exact ⟨rfl,rfl,E7⟩) :G:=h
theorem Zhs {G:Prop} (h:G:=by
  refine Q3 ?_;refine Mj (fun w'=>Eg (N+2) w0 w' c a q (ZG (ZG Z N (YI 280 3 (.slice (some ⟨g,0,none⟩) m cp) m (YK As.row (l.map (DI (s.ep+1)))))) (N+1) (Y5 za 280 (JF (DI (s.ep+1) p)))) sk Lk) (m:=1) (f:=0) [13] (?_) ?_
  ·exact h4
  refine JL ?_;refine Hf ?_;refine Gz ?_;refine XK ?_;refine ⟨by kernel_rfl,NoPanic.normal ?_⟩;refine Q3 ?_;go_wp2_with fail;go_meet;exact ⟨_,rfl,rfl,Za h3⟩) :G:=h
theorem Zbv {G:Prop} (h:G:=by
  rw [add_plain] at this;rw [Nat.zero_add] at this ⊢;exact this) :G:=h
theorem kZ {G:Prop} (h:G:=by
  have:=HX.o.2.2.2.2.2.2.1;omega) :G:=h
section
open Go Go.RowKit Go.Deep
def uT (c:Nat->Int)(e:Int)(v:ZN) :ZN:=(Qh [XA e,QO e (c 10)] v).2
def xH (p:Int × Int) :Nat:=p.1.toNat
theorem Sf (c:Nat->Int)(e:Int) : ∀(l:List (Int × Int)) (V:List ZN),Bu c e V l=Hg (uT c e) V (l.map xH)
 | [],_=>rfl
 | p::l,V=>Sf c e l _
theorem Se (c:Nat->Int)(e:Int) : ∀(A B:List (Int × Int)) (V:List ZN),Ex c e V (A++B)=Ex c e V A++Ex c e (Bu c e V A) B
 | [],_,_=>rfl
 | p::A,B,V=>by rw [Yf,Ex,Ex,Bu,Se c e A B,Yf]
theorem pk {c:Nat->Int}{e:Int}{V:List ZN}{l:List (Int × Int)}{k:Nat}{p:Int × Int}(hk:l[k]?=some p) :Ex c e V (l.take (k+1))=Ex c e V (l.take k)++[((uT c e (Vq (Bu c e V (l.take k)) p.1)).wd,p.1)]:=by
 rw [Xs,hk,QL,Se]; rfl
theorem jv (c:Nat->Int)(e:Int) : ∀(l:List (Int × Int)) (V:List ZN),(Ex c e V l).length=l.length
 | [],_=>rfl
 | p::l,V=>by rw [Ex,Yc,jv c e l,Yc]
theorem Af {f:ZN->ZN}{V:List ZN}{F:List Nat}(hv: ∀v ∈ V,Yh v)(hn:F.Nodup)(hF: ∀i ∈ F,i < V.length)(hf: ∀i ∈ F,Yh (f (V.getD i ZS))/\(f (V.getD i ZS)).bal=(V.getD i ZS).bal) : ∀k,Fa V (Hg f V (F.take k))
 | 0=>Fa.refl hv
 | k+1=>by
  have ih:=Af hv hn hF hf k
  cases hk:F[k]? with
  | none=>
   have h1:=List.getElem?_eq_none_iff.1 hk;have h2:F.take (k+1)=F.take k:=by rw [Yp Ze,Yp Ze]
   rw [h2]; exact ih
  | some i=>
   have hm:=Zy hk;have hi:i < (Hg f V (F.take k)).length:=by rw [ih.1]; exact hF i hm
   have hx:(Hg f V (F.take k))[i]?=some ((Hg f V (F.take k)).getD i ZS):=by rw [Zm,Zg hi]; rfl
   rw [Ns hk];have SW:=Nr (f:=f) hn hF hk;exact ih.set hx (by rw [SW]; exact (hf i hm).2) (by rw [SW]; exact (hf i hm).1)
def DI (e:Int)(p:Int × Int) :As:=⟨p.1,p.2,e⟩
theorem nE (e:Int)(l:List (Int × Int)) :Rx e l=YK Qw (l.map (DI e)):=by
 unfold Rx YK;rw [List.flatMap_map];rfl
theorem N0 {α:Type}{row:α->List Zk}{sz:Nat}{w:Zc}{e:TypeId}{n k:Nat}{ia:Option Addr}{cp:Nat}{l:List α}{v:α}(Bx: ∀v,(row v).length=sz)(h:w.ownsRow 0 e sz (.slice ia n cp) n (YK row l))(h0:0 < n)(hk:l[k]?=some v) : ∃g,ia=some ⟨g,0,none⟩/\w.rangeAt g (k*sz) (row v):=by
 rcases h.2 with ⟨h1,h2⟩ | ⟨g,GP,cur,h1,_⟩
 ·injection h1 with _ h3 _; omega
 ·injection h1 with h1 _ _;refine ⟨g,h1,fun j u hj=>?_⟩;subst h1;have EE:=(Zj.1 hj).1;rw [Bx] at EE;have:=h.cells rfl (k*sz+j) u (by rw [Hv Bx hk EE]; exact hj);rwa [add_plain,Nat.zero_add] at this
section
variable {N:Nat} {w0:Fb} {w w' w1:Zc} {c:Nat->Int} {a:Pl} {q:Ql} {Z:Nat->Zc->(Nat->Prop)->Prop} {s s':Sg} {L L':List QW} {k:Nat}
def zN (s:Sg)(R:List (Int × Int) × List Int × List Int × Int) :Sg:= { s with F:=R.2.1,W:=R.2.2.1,cy:=Ey R}
theorem Eg.assign (h:Eg N w0 w c a q Z s L){r:Nat}(UT:11<=r)(hr:r < N){wv:Zk}{U:List Int}{nu:Nat}{x ep:Int}(vg:Z r=YI 23 1 wv nu (U.map Ej))(hl:U.length<=9223372036854775807)(hA:Mi U)(hx:0<=x)(bJ:0<=ep)(xj:ep<=1099511627776) :
  Zv Zb 235 #[.int .i64 ep,.pointer (some ⟨a.n,0,none⟩),.pointer (some ⟨a.m,0,none⟩),.int .u64 x,wv] w fun e w'=> ∃v,e= .returned v/\
   Eg (N+1) w0 w' c a q (ZG Z N (YI 280 3 v (EP (Ks U) s.F s.W s.cy x).1.length (YK Qw ((EP (Ks U) s.F s.W s.cy x).1.map (DI (ep+1)))))) (zN s (EP (Ks U) s.F s.W s.cy x)) L:=by
 obtain ⟨X,hX,VV,hh,_,hK,hz,_⟩:=h.open;refine (hh.assign hX VV (r:=r) Ze hr (hz r UT hr |>.trans vg) hl hA hx bJ xj).mono fun e w' ⟨v,he,g1,_⟩=>⟨v,he,?_⟩
 rw [nE] at g1;exact hK _ _ _ _ g1 Q5 rfl rfl
theorem wH (h:Eg N w0 w c a q Z s L)(t:Tm c s){r:Nat}(UT:11<=r)(hr:r < N){wv:Zk}{U:List Int}{nu:Nat}{x:Int}(vg:Z r=YI 23 1 wv nu (U.map Ej))(hUl:U.length<=9223372036854775807)(hA:Mi U)(hx:0<=x)(bJ:0<=s.ep)(xj:s.ep<=1099511627776)
  {R:List (Int × Int) × List Int × List Int × Int} (hR:EP (Ks U) s.F s.W s.cy x=R) (hn:(R.1.map (·.1)).Nodup) (hq: ∀p ∈ R.1,Vn s.V V5 p.1) (I7:Nc (s.ep+1) (c 10)) (hg:ah c) (hf: ∀v ∈ s.V,Yh v) (Aw: ∀v ∈ s.V,v.wd<=1099511627776) (ht:Zw s.V<=18446744073709551615) (CM:L.length+R.1.length<=100000) :
  Zv Zb 202 #[.pointer (some ⟨q.e,0,none⟩),.int .u64 x,wv] w fun e w'=> ∃v,e= .returned v/\
   Eg (N+1) w0 w' c a q (ZG Z N (YI 280 3 v R.1.length (YK Qw (R.1.map (DI (s.ep+1)))))) { zN s R with V:=Bu c (s.ep+1) s.V R.1} (L++Ex c (s.ep+1) s.V R.1):=by
 have hN:=h.low;obtain ⟨l,hl⟩:=ZT (R.1);have hG:(l.map xH).Nodup/\(∀i ∈ l.map xH,i < s.V.length)/\(∀p ∈ l,∃n:Nat,p.1=(n:Int)/\n < s.V.length/\(s.V.getD n ZS).st=3/\(s.V.getD n ZS).ex= -1):=by
  rw [hl] at hn hq;have h3: ∀p ∈ l,∃n:Nat,p.1=(n:Int)/\n < s.V.length/\(s.V.getD n ZS).st=3/\(s.V.getD n ZS).ex= -1:=fun p hp=>by
   obtain ⟨n,v,e,hv,h1,h2⟩:=hq p hp;have:s.V.getD n ZS=v:=by rw [Zm,hv]; rfl
   exact ⟨n,e,(Zj.1 hv).1,by rw [this]; exact h1,by rw [this]; exact h2⟩
  refine ⟨?_,fun i hi=>?_,h3⟩
  ·have e:(l.map xH).map WI=l.map (·.1):=by
    rw [KF];refine UL fun p hp=>?_
    obtain ⟨n,e,_⟩:=h3 p hp;show ((p.1.toNat:Nat) :Int)=p.1;omega
   rw [<-e] at hn;exact List.Pairwise.of_map WI (fun a b h e=>h Er) hn
  ·obtain ⟨p,hp,rfl⟩:=Z6.1 hi;obtain ⟨n,e,hnl,_⟩:=h3 p hp;unfold xH; omega
 have hfi: ∀i ∈ l.map xH,Yh (uT c (s.ep+1) (s.V.getD i ZS))/\(uT c (s.ep+1) (s.V.getD i ZS)).bal=(s.V.getD i ZS).bal:=fun i hi=>by
  obtain ⟨p,hp,rfl⟩:=Z6.1 hi;obtain ⟨n,e,hnl,h1,h2⟩:=hG.2.2 p hp;have:xH p=n:=by unfold xH; omega
  rw [this];have hm:=hf (s.V.getD n ZS) (by rw [Zm,Zg hnl]; exact Kj hnl);unfold uT;rw [Cq ⟨h1,h2⟩ I7];exact ⟨hm,rfl⟩
 have oV:Zl (∀k,Fa s.V (Bu c (s.ep+1) s.V (l.take k))):=Za fun k=>by
  rw [Sf,List.map_take];exact Af hf hG.1 hG.2.1 hfi k
 have jr:Zl (∀wx,Eg N w0 wx c a q Z s L->Zv Zb 235 #[.int .i64 s.ep,.pointer (some ⟨a.n,0,none⟩),.pointer (some ⟨a.m,0,none⟩),.int .u64 x,wv] wx fun e w'=> ∃v,e= .returned v/\Eg (N+1) w0 w' c a q (ZG Z N (YI 280 3 v l.length (YK Qw (l.map (DI (s.ep+1)))))) (zN s R) L):=Za fun wx hw=>by
  have:=hw.assign UT hr vg hUl hA hx bJ xj;rw [hR,hl] at this;exact this
 have oO:l.length<=100000:=by rw [hl] at CM; omega
 rw [hl] at CM;have HX:=Za (Zn hG (Zn I7 (Zn hg (Zn hf (Zn Aw (Zn ht (Zn CM (Zn bJ t))))))));have HN:=Za hN;have HH:=Za h;rw [hl];clear h t vg hUl hA hx hn hq I7 hg hf Aw ht CM hN hG hfi bJ xj UT hr hR hl;go_enter func202,ntmps202;go_wp2_with fail;refine Ra (fun w'=>Zu w' q.e 102 (Uh c a q)) 3 [0,1,2,4,5,6,7,8,9,10,11,12,13,14,15] (?_) ?_
 ·exact HH.o.drew.blk
 refine JL ?_;show ZZ _ _ _ _ [_,_,_,_,_,_,_,_,_,_,_,_,_,_,_] _;refine I1 ?_;refine Vk _ ⟨q.e,24,none⟩ (.pointer (some ⟨a.n,0,none⟩)) (fun w h=>h.cell 24) ?_;refine X5 ?_;refine Bi ?_;refine Vk _ ⟨q.e,25,none⟩ (.pointer (some ⟨a.m,0,none⟩)) (fun w h=>h.cell 25) ?_;refine X5 ?_;refine B9 ?_;refine XK ?_;have H0:=Za HH.o.drew;clear HH;generalize w.drew=V0 at*;refine Jg (i:=3) ?_;refine JC #[.pointer (some ⟨q.e,20,none⟩)] call42 ((GG H0.o HX.o.2.2.2.2.2.2.2.2.b0 HX.o.2.2.2.2.2.2.2.2.b1 HX.o.2.2.2.2.2.2.2.2.l HX.o.2.2.2.2.2.2.2.2.q).mono ?_);rintro e w1 ⟨rfl,m1,rfl⟩;have H1:=Za (H0.o.drewN m1);refine ⟨_,rfl,H1.o.blk,?_⟩;clear H0;generalize V0.drewN m1=V1 at*;refine Jg (i:=16) ?_;refine Q3 ?_;refine JC #[.int .i64 s.ep,.pointer (some ⟨a.n,0,none⟩),.pointer (some ⟨a.m,0,none⟩),.int .u64 x,wv] call235 ((jr.o _ H1.o).mono ?_);rintro e w2 ⟨v,rfl,h2⟩;refine ⟨_,rfl,h2.blk,?_⟩;clear H1 jr;obtain ⟨ia,cp,rfl⟩:=Xy (h2.row (r:=N) HN.o Ze Zq);obtain ⟨m,hm⟩:=ZT (l.length);have HM:=Za hm;rw [hm] at h2 oO;have H2:=Za h2;rw [hm];have Gv:=Za h2.blk;clear h2 hm;refine Q3 ?_;refine Mj (fun w'=>Zu w' q.e 102 (Uh c a q)) (m:=1) (f:=0) [17] (?_) ?_
 ·exact Gv.o
 refine JL ?_;refine Hf ?_;refine Gz ?_;refine XK ?_;clear Gv;refine ⟨by kernel_rfl,Yu ?_⟩;refine Q3 ?_;go_wp2_with fail;go_loopw [31] (fun s31 wr=> ∃(k:Nat),k<=m/\s31= .int .i64 k/\Zl (Eg (N+1) w0 wr c a q (ZG Z N (YI 280 3 (.slice ia m cp) m (YK Qw (l.map (DI (s.ep+1)))))) { zN s R with V:=Bu c (s.ep+1) s.V (l.take k)} (L++Ex c (s.ep+1) s.V (l.take k)))) (fun s31 _=>m -(intOf s31).toNat)
 case atStart=>exact ⟨0,by omega,rfl,Za (by rw [show Ex c (s.ep+1) s.V (l.take 0)=[] from rfl,List.append_nil]; exact H2.o)⟩
 case round=>
  obtain ⟨k,hk,rfl,HE⟩:=hrel
  by_cases XV:k < m
  ·obtain ⟨p,hp⟩ : ∃p,l[k]?=some p:=⟨_,Zg RW⟩;obtain ⟨g,rfl,jU⟩:=N0 (row:=Qw) (v:=DI (s.ep+1) p) (k:=k) As.row_len (HE.o.row (r:=N) HN.o Ze Zq) Ze (by rw [ZH,hp]; rfl);obtain ⟨i,hip,Fo,GR,hex⟩:=HX.o.1.2.2 p (Zy hp);have NG:=oV.o k;have hlk1:=oV.o (k+1);have Zc4:(l.map xH)[k]?=some i:=by rw [ZH,hp]; show some p.1.toNat=_; rw [hip]; rfl
   have SW:=Nr (f:=uT c (s.ep+1)) HX.o.1.1 HX.o.1.2.1 Zc4;have DU:=Ns (f:=uT c (s.ep+1)) (V:=s.V) Zc4;rw [<-List.map_take,<-List.map_take,<-Sf,<-Sf] at DU;rw [<-List.map_take,<-Sf] at SW;have hks:=pk (c:=c) (e:=s.ep+1) (V:=s.V) hp;have oN:=jv c (s.ep+1) (l.take k) s.V;obtain ⟨W,hW⟩:=ZT (Bu c (s.ep+1) s.V (l.take k));rw [hW] at HE NG SW DU hks;obtain ⟨u,hu⟩:=ZT (W.getD i ZS);have xc:Vq W p.1=u:=by rw [hip]; exact hu
   rw [hu] at DU;rw [xc] at hks;rw [<-SW,hu] at GR hex;have oL:i < W.length:=by rw [NG.1]; exact Fo
   have huw:u.wd<=1099511627776:=by rw [<-hu,SW]; exact HX.o.2.2.2.2.1 _ kF
   have xb:uT c (s.ep+1) u= { u with ex:=s.ep+1,wd:=max u.wd (s.ep+1+c 10)}:=by unfold uT; rw [Cq ⟨GR,hex⟩ HX.o.2.1]
   have hLk:(L++Ex c (s.ep+1) s.V (l.take k)).length<=100000:=by
    rw [List.length_append,oN,Xr];exact kZ
   have ed:Yh u:=NG.2.2 u (by rw [<-hu,Zm,Zg oL]; exact Kj oL);obtain ⟨v2,PM⟩:=ZT (uT c (s.ep+1) u);have RM:Qh [XA (s.ep+1),QO (s.ep+1) (c 10)] u=(0,v2):=by rw [Cq ⟨GR,hex⟩ HX.o.2.1,<-PM,xb]
   have ZgS:v2.wd=max u.wd (s.ep+1+c 10):=by rw [<-PM,xb]
   have ZgR:v2.bal=u.bal/\Yh v2:=by rw [<-PM,xb]; exact ⟨rfl,ed⟩
   rw [PM] at DU hks;obtain ⟨sk,hsk⟩ : ∃sk,({ zN s R with V:=W} :Sg)=sk:=⟨_,rfl⟩;obtain ⟨Lk,bH⟩:=ZT (L++Ex c (s.ep+1) s.V (l.take k));have ZgM:sk.V=W:=by rw [<-hsk]
   rw [hsk,bH] at HE;rw [bH] at hLk;have HAs:Zl (∀wx,Z3 236 #[.agg (Zd u),.int .i64 (s.ep+1),.agg (Zi c)] wx (.tuple #[.agg (Zd v2),.int .i64 0])):=Za fun wx=>by
    have:=eF u (s.ep+1) c wx ed.2 HX.o.2.2.1.ub0 HX.o.2.2.1.ub1;unfold ans at this;rw [RM] at this;exact this
   have HU:=Za (Zn oL (Zn NG (Zn DU (Zn hks (Zn hu (Zn ZgM (Zn hsk (Zn bH (Zn hLk (Zn huw (Zn ZgS (Zn ZgR hip))))))))))));have zH:=Za jU;clear hp jU Fo GR hex NG hlk1 Zc4 SW DU hks oN hW hu xc oL huw xb hLk ed PM RM ZgS ZgR hsk bH ZgM hip;go_upto_region 4 with (fail);have I4:=Za (HE.o.box (JF (DI (s.ep+1) p)) 280);go_upto_region 5 with (first | (refine Je rfl 280 _ rfl g (k*3) rfl (DI (s.ep+1) p).row _ zH.o underlying280 rfl rz ?_) | (refine UP wr.heap.size (JF (DI (s.ep+1) p)) 280 (ZA wr _) rz (aK _) ?_; rw [Zr]));clear HE zH;generalize wr.heap.size=za at*;generalize wr.alloc (.cells (JF (DI (s.ep+1) p)) 280)=W1 at*;have vu:Zl (∀wx,Eg (N+2) w0 wx c a q (ZG (ZG Z N (YI 280 3 (.slice (some ⟨g,0,none⟩) m cp) m (YK Qw (l.map (DI (s.ep+1)))))) (N+1) (Y5 za 280 (JF (DI (s.ep+1) p)))) sk Lk->Z3 126 #[.pointer (some ⟨a.r,0,none⟩),.int .i64 p.1] wx (.tuple #[.agg (Zd u),.bool true])):=Za fun wx hw=>by
    have:=hw.get (n:=i) (by rw [HU.o.2.2.2.2.2.1]; exact HU.o.1);rw [HU.o.2.2.2.2.2.1,HU.o.2.2.2.2.1] at this;rw [HU.o.2.2.2.2.2.2.2.2.2.2.2.2];exact this
   refine Q3 ?_;go_cut [10,11] from 35 to 45 (fun s10 s11 wx=> ∃zb:Nat,s10= .pointer (some ⟨zb,0,none⟩)/\s11= .bool true/\Zl (Eg (N+2+1) w0 wx c a q (ZG (ZG (ZG Z N (YI 280 3 (.slice (some ⟨g,0,none⟩) m cp) m (YK Qw (l.map (DI (s.ep+1)))))) (N+1) (Y5 za 280 (JF (DI (s.ep+1) p)))) (N+2) (Y5 zb 68 (Zd u))) sk Lk))
   case first=>
    refine Ra (fun w'=>Eg (N+2) w0 w' c a q (ZG (ZG Z N (YI 280 3 (.slice (some ⟨g,0,none⟩) m cp) m (YK Qw (l.map (DI (s.ep+1)))))) (N+1) (Y5 za 280 (JF (DI (s.ep+1) p)))) sk Lk) 7 [0,1,2,3,4,5,6] (?_) ?_
    ·exact I4.o.drew
    refine JL ?_;show ZZ _ _ _ _ [_,_,_,_,_,_,_] _;refine Bi ?_;refine tF ?_;refine X5 ?_;refine Gz ?_;refine Vk _ ⟨za,0,none⟩ (.int .i64 p.1) (fun w h=>(VE h (r:=N+1) ZO Ze Zq).cell 0) ?_;refine X5 ?_;refine XK ?_;have hD:Eg (N+2) w0 W1.drew c a q (ZG (ZG Z N (YI 280 3 (.slice (some ⟨g,0,none⟩) m cp) m (YK Qw (l.map (DI (s.ep+1)))))) (N+1) (Y5 za 280 (JF (DI (s.ep+1) p)))) sk Lk:=I4.o.drew;clear I4;generalize W1.drew=V at*;refine Vh (i:=7) (k:=11) ZC ZE ZE ?_ ?_
    ·refine JC #[.pointer (some ⟨a.r,0,none⟩),.int .i64 p.1] call126 ((vu.o _ hD).mono ?_);rintro e w2 ⟨rfl,hb⟩;have h2:Eg (N+2) w0 w2 c a q (ZG (ZG Z N (YI 280 3 (.slice (some ⟨g,0,none⟩) m cp) m (YK Qw (l.map (DI (s.ep+1)))))) (N+1) (Y5 za 280 (JF (DI (s.ep+1) p)))) sk Lk:=hD.below hb;refine ⟨_,rfl,h2,?_⟩;clear hb;refine Q3 ?_;refine Mj (fun w'=>Eg (N+2) w0 w' c a q (ZG (ZG Z N (YI 280 3 (.slice (some ⟨g,0,none⟩) m cp) m (YK Qw (l.map (DI (s.ep+1)))))) (N+1) (Y5 za 280 (JF (DI (s.ep+1) p)))) sk Lk) (m:=6) (f:=3) [8,9,10] (?_) ?_
     ·exact h2
     refine JL ?_;refine Pw ?_;refine DL ?_;refine XK ?_;refine Jg (i:=11) ?_;refine Yz rfl rfl (Kc rfl ?_);refine ⟨h2.below ((Zo _ _).alloc (Zh _) _),?_⟩;refine Q3 ?_;refine Jg (i:=12) ?_;refine Yz rfl rfl (Qi _ _ _ rfl w2.heap.size (Zd u) rfl rfl 68 _ (ZA w2 _) Yb rfl (Ys _) ?_);rw [ko];have h3:=Eg.box h2 (Zd u) 68;have h4:Eg (N+2) w0 (w2.alloc (.cells (Zd u) 68)) c a q (ZG (ZG Z N (YI 280 3 (.slice (some ⟨g,0,none⟩) m cp) m (YK Qw (l.map (DI (s.ep+1)))))) (N+1) (Y5 za 280 (JF (DI (s.ep+1) p)))) sk Lk:=h2.below ((Zo _ _).alloc (Zh _) _);refine ⟨h4,?_⟩;generalize w2.alloc (.cells (Zd u) 68)=w4 at*;exact Zhs
    ·refine Yz rfl rfl (Kc rfl ?_);have h1:=Eg.box hD (Zd ZS) 68;have h1':Eg (N+2) w0 (V.alloc (.cells (Zd ZS) 68)) c a q (ZG (ZG Z N (YI 280 3 (.slice (some ⟨g,0,none⟩) m cp) m (YK Qw (l.map (DI (s.ep+1)))))) (N+1) (Y5 za 280 (JF (DI (s.ep+1) p)))) sk Lk:=hD.below ((Zo _ _).alloc (Zh _) _);refine ⟨h1',?_⟩;generalize V.heap.size=zb at*;generalize V.alloc (.cells (Zd ZS) 68)=V1 at*;refine Q3 ?_;refine Jg (i:=7) ?_;refine Q3 ?_;refine JC #[.pointer (some ⟨a.r,0,none⟩),.int .i64 p.1] call126 ((vu.o _ h1').mono ?_);rintro e w2 ⟨rfl,hb⟩;have h2:=h1.below hb;have h2':Eg (N+2) w0 w2 c a q (ZG (ZG Z N (YI 280 3 (.slice (some ⟨g,0,none⟩) m cp) m (YK Qw (l.map (DI (s.ep+1)))))) (N+1) (Y5 za 280 (JF (DI (s.ep+1) p)))) sk Lk:=h1'.below hb;refine ⟨_,rfl,h2',?_⟩;clear hb;refine Q3 ?_;refine Mj (fun w'=>Eg (N+2) w0 w' c a q (ZG (ZG Z N (YI 280 3 (.slice (some ⟨g,0,none⟩) m cp) m (YK Qw (l.map (DI (s.ep+1)))))) (N+1) (Y5 za 280 (JF (DI (s.ep+1) p)))) sk Lk) (m:=5) (f:=2) [8,9,10] (?_) ?_
     ·exact h2'
     refine JL ?_;refine Pw ?_;refine DL ?_;refine XK ?_;refine Jg (i:=12) ?_;have hB:=h2.blkAt (r:=N+2) ZO Ze Zq;refine Yz rfl rfl (Qi _ _ _ rfl zb (Zd u) rfl rfl 68 _ hB Yb rfl (Ys _) ?_);have h3:=h2.setr (r:=N+2) ZO Ze Zq (cs':=Zd u) (Zu.setRow hB _) (Zx.setRow (S:=fun i=>i=zb) (Zx.refl _ _) (.inl rfl) _);rw [Xx] at h3;have h4:Eg (N+2) w0 (w2.setRow zb (Zd u)) c a q (ZG (ZG Z N (YI 280 3 (.slice (some ⟨g,0,none⟩) m cp) m (YK Qw (l.map (DI (s.ep+1)))))) (N+1) (Y5 za 280 (JF (DI (s.ep+1) p)))) sk Lk:=h3.drop ZO;refine ⟨h4,?_⟩;generalize w2.setRow zb (Zd u)=w4 at*;exact Zhs
   case rest=>
    obtain ⟨zb,rfl,rfl,Hj⟩:=hcut;clear I4 vu;go_upto_region 6 with (fail);have fB:Eg (N+2) w0 wc.drew c a q (ZG (ZG Z N (YI 280 3 (.slice (some ⟨g,0,none⟩) m cp) m (YK Qw (l.map (DI (s.ep+1)))))) (N+1) (Y5 za 280 (JF (DI (s.ep+1) p)))) sk Lk:=(Hj.o.drew).drop ZO;refine Ra (fun w'=>Eg (N+2) w0 w' c a q (ZG (ZG Z N (YI 280 3 (.slice (some ⟨g,0,none⟩) m cp) m (YK Qw (l.map (DI (s.ep+1)))))) (N+1) (Y5 za 280 (JF (DI (s.ep+1) p)))) sk Lk) 6 [1,2,3,4,5,6] (?_) ?_
    ·exact fB
    refine JL ?_;refine I2 ?_;refine Gz ?_;refine Vk _ ⟨za,2,none⟩ (.int .i64 (s.ep+1)) (fun w h=>(VE h (r:=N+1) ZO Ze Zq).cell 2) ?_;refine X5 ?_;refine DL ?_;refine Zeg ?_;refine XK ?_;have M7:=Za Hj.o.drew;clear Hj;generalize wc.drew=V3 at*;refine Jg (i:=0) ?_;refine Yz rfl rfl (wp_load_row 68 _ rfl zb rfl 68 (Zd u) (0,0) _ (M7.o.blkAt (r:=N+2) ZO Ze Zq) underlying68 rfl Yb ?_);refine ⟨fB,?_⟩;refine Q3 ?_;refine Jg (i:=7) ?_;refine JC #[.agg (Zd u),.int .i64 (s.ep+1),.agg (Zi c)] call236 ((HAs.o _).mono ?_);rintro e w5 ⟨rfl,hb5⟩;have Ck:=Za (M7.o.below hb5);have wU:Eg (N+2) w0 w5 c a q (ZG (ZG Z N (YI 280 3 (.slice (some ⟨g,0,none⟩) m cp) m (YK Qw (l.map (DI (s.ep+1)))))) (N+1) (Y5 za 280 (JF (DI (s.ep+1) p)))) sk Lk:=Ck.o.drop ZO;refine ⟨_,rfl,wU,?_⟩;clear M7 hb5 HAs fB;refine Q3 ?_;refine Mj (fun w'=>Eg (N+2) w0 w' c a q (ZG (ZG Z N (YI 280 3 (.slice (some ⟨g,0,none⟩) m cp) m (YK Qw (l.map (DI (s.ep+1)))))) (N+1) (Y5 za 280 (JF (DI (s.ep+1) p)))) sk Lk) (m:=4) (f:=1) [8,9,10] (?_) ?_
    ·exact wU
    refine JL ?_;refine Pw ?_;refine DL ?_;refine XK ?_;refine Jg (i:=11) ?_;have hB:=Ck.o.blkAt (r:=N+2) ZO Ze Zq;refine Yz rfl rfl (Qi _ _ _ rfl zb (Zd v2) rfl rfl 68 _ hB Yb rfl (Ys _) ?_);have h7:=Ck.o.setr (r:=N+2) ZO Ze Zq (cs':=Zd v2) (Zu.setRow hB _) (Zx.setRow (S:=fun i=>i=zb) (Zx.refl _ _) (.inl rfl) _);rw [Xx] at h7;have ln:=Za h7;refine ⟨h7.drop ZO,?_⟩;clear Ck wU hB h7;generalize w5.setRow zb (Zd v2)=w7 at*;refine ⟨by kernel_rfl,Yu ?_⟩;refine Q3 ?_;go_wp2_with fail;have x21:=Eg.x21 ln.o;have k0:w7.cell? ⟨za,0,none⟩=some (.int .i64 p.1):=(VE ln.o (r:=N+1) ZO Ze Ut).cell 0;have HB7:=Za (ln.o.blkAt (r:=N+2) ZO Ze Zq);refine GL 8 ?_;refine GM ?_;refine I1 ?_;refine Zhn ?_;refine X5 ?_;refine XK ?_;intro _ Jq;obtain ⟨nr,Y9⟩:=Jq;subst Y9;have jr:Zl (Zv Zb 175 #[.pointer (some ⟨a.r,0,none⟩),.int .i64 p.1,.agg (Zd v2)] (w7.drewN nr) fun e w'=>e= .returned (.int .i64 0)/\Eg (N+2+1) w0 w' c a q (ZG (ZG (ZG Z N (YI 280 3 (.slice (some ⟨g,0,none⟩) m cp) m (YK Qw (l.map (DI (s.ep+1)))))) (N+1) (Y5 za 280 (JF (DI (s.ep+1) p)))) (N+2) (Y5 zb 68 (Zd v2))) { zN s R with V:=Bu c (s.ep+1) s.V (l.take (k+1))} Lk):=Za (by
     have hx:=ln.o.drewN nr;obtain ⟨X,hX,VV,hh,hK,_⟩:=hx.open;have hv:sk.V[i]?=some u:=by rw [HU.o.2.2.2.2.2.1,<-HU.o.2.2.2.2.1,Zm,Zg HU.o.1]; rfl
     have htt:Zw sk.V<=18446744073709551615:=by rw [HU.o.2.2.2.2.2.1,HU.o.2.1.2.1]; exact HX.o.2.2.2.2.2.1
     have hs:=hh.set hX VV (v':=v2) hv HU.o.2.2.2.2.2.2.2.2.2.2.2.1.2 (by rw [HU.o.2.2.2.2.2.2.2.2.2.2.2.1.1]; omega);rw [<-HU.o.2.2.2.2.2.2.2.2.2.2.2.2] at hs;refine hs.mono fun e w' ⟨he,h1⟩=>⟨he,?_⟩
     have h3:=hK _ _ _ h1 rfl rfl;rw [HU.o.2.2.1];rw [HU.o.2.2.2.2.2.1,<-HU.o.2.2.2.2.2.2.1] at h3;exact h3)
    clear ln x21 k0 HB7;generalize w7.drewN nr=W8 at*;go_wp2_with fail;refine jr.o.mono ?_;rintro e w9 ⟨rfl,h9⟩;have Wx:=Za h9;clear h9 jr;go_wp2_with fail;have k0:w9.cell? ⟨za,0,none⟩=some (.int .i64 p.1):=(VE Wx.o (r:=N+1) ZO Ze Ut).cell 0;have HB9:=Za (Wx.o.blkAt (r:=N+2) ZO Ze Zq);refine GL 6 ?_;refine GM ?_;refine Pv ?_;refine QP 68 _ zb 68 (Zd v2) _ rfl rfl rfl (fun w' h=>by obtain ⟨m,rfl⟩:=h; exact HB9.o) underlying68 rfl Yb ?_;refine X5 ?_;refine XK ?_;intro _ Jq;obtain ⟨nr,Y9⟩:=Jq;subst Y9;have zA:Zl (Zv Zb 131 #[.pointer (some ⟨q.e,24,none⟩),.int .i64 p.1,.agg (Zd v2)] (w9.drewN nr) fun e w'=>e= .returned (.tuple #[])/\Eg (N+1) w0 w' c a q (ZG Z N (YI 280 3 (.slice (some ⟨g,0,none⟩) m cp) m (YK Qw (l.map (DI (s.ep+1)))))) { zN s R with V:=Bu c (s.ep+1) s.V (l.take (k+1))} (L++Ex c (s.ep+1) s.V (l.take (k+1)))):=Za (by
     have h0:=HX.o.2.2.2.2.2.2.2.1;have PK:=HX.o.2.1.2;have UT:=HX.o.2.2.1.ub0;have Na:=HU.o.2.2.2.2.2.2.2.2.2.2.1;have huw:=HU.o.2.2.2.2.2.2.2.2.2.1;have:=p8 (Wx.o.drewN nr) (i:=p.1) (v:=v2) Ze Ze HU.o.2.2.2.2.2.2.2.2.1;refine this.mono fun e w' ⟨he,h5⟩=>⟨he,?_⟩
     rw [HU.o.2.2.2.1,<-List.append_assoc,HU.o.2.2.2.2.2.2.2.1];exact (h5.drop ZO).drop ZO)
    clear Wx k0 HB9 HU;generalize w9.drewN nr=W10 at*;go_wp2_with fail;refine zA.o.mono ?_;rintro e w11 ⟨rfl,UT⟩;have H6:=Za UT;clear UT zA;exact tI
  ·obtain rfl:k=m:=Ze;clear XV;have XV: ¬k < k:=Ze;have H7:=HE.o;rw [Yp RV] at H7;have H8:=Za H7;clear HE H7;go_wp2_with fail;go_ret;exact ⟨_,rfl,by rw [HM.o]; exact H8.o⟩
end
end
section
open Go Go.RowKit
def WZ (V A:List ZN)(F:List Nat)(W:List ZN) :Prop:=W.length=V.length/\ ∀j,j < V.length->W.getD j ZS=if j ∈ F then A.getD j ZS else V.getD j ZS
section
variable {V A W:List ZN} {F:List Nat} {i:Nat}
theorem WZ.refl (V A:List ZN) :WZ V A [] V:=⟨rfl,fun j _=>by simp⟩
theorem WZ.set (h:WZ V A F W)(hi:i < V.length) :WZ V A (F++[i]) (W.set i (A.getD i ZS)):=by
 refine ⟨by rw [List.length_set]; exact h.1,fun j hj=>?_⟩
 by_cases e:i=j
 ·subst e;rw [PJ (by rw [h.1]; exact hi),if_pos ZE]
 ·rw [getD_set_ne e,h.2 j hj];have Ka: ¬j=i:=fun h=>e h.symm
  by_cases hF:j ∈ F
  ·rw [if_pos hF,if_pos (by simp [hF])]
  ·rw [if_neg hF,if_neg (by simp [hF,Ka])]
theorem WZ.done (h:WZ V A F W)(hl:A.length=V.length)(ho: ∀j,j < V.length->j ∉ F->V.getD j ZS=A.getD j ZS) :W=A:=by
 refine bz (h.1.trans hl.symm) fun j hj=>?_
 have Ou:j < V.length:=by rw [<-h.1]; exact hj
 rw [h.2 j Ou]
 split
 ·rfl
 ·rename_i hF; exact ho j Ou hF
theorem AF: ∀(V A W:List ZN),A.length=V.length->W.length=V.length->(∀j,j < V.length->W.getD j ZS=V.getD j ZS\/W.getD j ZS=A.getD j ZS)->(∀v ∈ V,Yh v)->(∀v ∈ A,Yh v)->Zw W<=Zw V+Zw A
 | [],A,W,h1,h2,_,_,ha=>by
  rw [List.eq_nil_of_length_eq_zero h2];have:=Jz ha;show (0:Int)<=0+Zw A;omega
 | v::V,[],W,h1,_,_,_,_=>by simp at h1
 | v::V,a::A,[],_,h2,_,_,_=>by simp at h2
 | v::V,a::A,w::W,h1,h2,h,hv,ha=>by
  have ih:=AF V A W QQ (by simpa using h2) (fun j hj=>by
   have:=h (j+1) Xl;simpa using this) (fun x hx=>hv x DD) (fun x hx=>ha x DD)
  have h0:=h 0 ZE;have b1:=(bounds_u64 (hv v ZE).1).1;have b2:=(bounds_u64 (ha a ZE).1).1;have e1:Zw (w::W)=w.bal+Zw W:=rfl;have e2:Zw (v::V)=v.bal+Zw V:=rfl;have e3:Zw (a::A)=a.bal+Zw A:=rfl;have:w=v\/w=a:=by simpa using h0
  rcases this with rfl | rfl <;> omega
theorem WZ.or (h:WZ V A F W) : ∀j,j < V.length->W.getD j ZS=V.getD j ZS\/W.getD j ZS=A.getD j ZS:=fun j hj=>by
 rw [h.2 j hj]
 split
 ·exact .inr rfl
 ·exact .inl rfl
theorem WZ.total (h:WZ V A F W)(hl:A.length=V.length)(hv: ∀v ∈ V,Yh v)(ha: ∀v ∈ A,Yh v) :Zw W<=Zw V+Zw A:=AF V A W hl h.1 h.or hv ha
theorem WZ.fits (h:WZ V A F W)(hl:A.length=V.length)(hv: ∀v ∈ V,Yh v)(ha: ∀v ∈ A,Yh v) : ∀v ∈ W,Yh v:=fun v hw=>by
 obtain ⟨j,hj,rfl⟩:=List.mem_iff_getElem.1 hw;have Ou:j < V.length:=by rw [<-h.1]; exact hj
 have e:W[j]=W.getD j ZS:=by rw [Zm,Zg hj]; rfl
 rw [e]
 rcases h.or j Ou with h1 | h1 <;> rw [h1,Zm]
 ·rw [Zg Ou]; exact hv _ (Kj Ou)
 ·rw [Zg (by rw [hl]; exact Ou)]; exact ha _ (Kj _)
theorem dx {mb:Int}{p:Int × Int}{j:Nat}(h1:j≠p.1.toNat)(h2:j≠p.2.toNat)(V:List ZN) :(UE V p mb).getD j ZS=V.getD j ZS:=by
 unfold UE
 split
 ·unfold Te;rw [getD_set_ne (fun e=>h2 e.symm),getD_set_ne (fun e=>h1 e.symm)]
 ·rfl
theorem AW (mb:Int) : ∀(q:List (Int × Int)) (V:List ZN) (j:Nat),(∀p ∈ q,j≠p.1.toNat/\j≠p.2.toNat)->(JW mb V q).getD j ZS=V.getD j ZS
 | [],V,j,_=>rfl
 | p::q,V,j,h=>by
  show (JW mb (UE V p mb) q).getD j ZS=_;rw [AW mb q _ j (fun x hx=>h x DD),dx (h p ZE).1 (h p ZE).2]
theorem Tl {j:Nat} : ∀(l:List Py),(∀p ∈ l,p.ix≠(j:Int))->BC j l=0
 | [],_=>rfl
 | p::l,h=>by
  have:=Tl l (fun x hx=>h x DD);have h2:=h p ZE;simp only [BC,if_neg h2,this];rfl
theorem yb {mb:Int}(hm:0<=mb){q:List Rq}{V:List ZN}(hq: ∀r ∈ q,V8 r)(hv: ∀v ∈ V,Yh v){j:Nat}(hj:j < V.length)(h: ∀p ∈ Ky mb V q,p.ix≠(j:Int)) :(XC mb V q).getD j ZS=V.getD j ZS:=by
 have hx:V[j]?=some (V.getD j ZS):=by rw [Zm,Zg hj]; rfl
 obtain ⟨v',h1,h2⟩:=(EO mb hm q V hq hv).1 j _ hx;rw [Tl _ h] at h2;rw [Zm,h1,Option.getD_some,h2.1,Int.sub_zero]
end
end
section
open Go Go.RowKit Go.Deep
theorem ZdJ {w:Zc}{b1 b2 k1 k2 n1 n2:Nat}{e1 e2:TypeId}{v1 v2:Zk}{x1 x2:List Zk}(h1:w.ownsRow b1 e1 k1 v1 n1 x1)(h2:w.ownsRow b2 e2 k2 v2 n2 x2)(Ka:e1≠e2) : ∀i,v1.ownBlock=some i-> ¬v2.ownBlock=some i:=fun i hi hj=>by
 rcases h1.2 with ⟨rfl,_⟩ | ⟨g1,_,c1,rfl,_,a1,_⟩
 ·simp [Y7] at hi
 ·rcases h2.2 with ⟨rfl,_⟩ | ⟨g2,_,c2,rfl,_,a2,_⟩
  ·simp [Y7] at hj
  ·have e1:g1=i:=by simpa [Y7] using hi
   have e2:g2=i:=by simpa [Y7] using hj
   rw [e1] at a1;rw [e2,a1] at a2;injection a2 with a2;injection a2 with _ a2 _;exact Ka a2
theorem N9: ∀ {l:List Py},(∀p ∈ l,0 < p.am)->0<=Uq l
 | [],_=>Int.le_refl _
 | p::l,h=>by
  have h1:=N9 (l:=l) (fun x hx=>h x DD);have h2:=h p ZE;show 0<=p.am+Uq l;omega
theorem oe {l:List Py}{k:Nat}{p:Py}(hk:l[k]?=some p) :Uq (l.take (k+1))=Uq (l.take k)+p.am:=by
 rw [Xs,hk,QL,LH];show _=_;simp [Uq]
theorem yU {l:List Py}(h: ∀p ∈ l,0 < p.am)(k:Nat) :Uq (l.take k)<=Uq l:=by
 have e:=LH (l.take k) (l.drop k);rw [List.take_append_drop] at e;have:=N9 (l:=l.drop k) (fun x hx=>h x (List.mem_of_mem_drop hx));omega
def pyN (p:Py) :Nat:=p.ix.toNat
theorem nw (l:List Py) :YK J8 (WN l)=YK Vw l:=by
 unfold YK WN;rw [List.flatMap_map];rfl
section
variable {N:Nat} {w0:Fb} {w w' w1:Zc} {c cf:Nat->Int} {a:Pl} {q:Ql} {X Z:Nat->Zc->(Nat->Prop)->Prop} {s s':Sg} {L L':List QW} {k:Nat}
theorem En.more2 (h:En N w0 w cf a X s L)(hX: ∀k,8<=k->Y3 (X k))(hN:8<=N){Q1 Q2:Zc->(Nat->Prop)->Prop}(hQ1:Y3 Q1)(uY:Y3 Q2){S1 S2:Nat->Prop}(h1:Q1 w' S1)(h2:Q2 w' S2)(At: ∀i,S1 i->w.heap.size<=i)(qO: ∀i,S2 i->w.heap.size<=i)(hd: ∀i,S1 i-> ¬S2 i)(hb:Below w.heap.size w w') :En (N+2) w0 w' cf a (ZG (ZG X N Q1) (N+1) Q2) s L:=by
 obtain ⟨Φ,F,g1,g2⟩:=h;have F0:=F.below (fun j _=>Xp hX j) hb;have q1:Pt cf a (ZG X N Q1) s L N w' S1:=by rw [JQ hN,Zq]; exact h1
 have F1:=F0.put (P':=Pt cf a (ZG X N Q1) s L) (FA hN) q1 (fun i hi=>hQ1.1 w' S1 h1 i hi) (fun j hj i hi hv=>by
  have:=At i hv;have:=F.lt j hj i hi;omega)
 have q2:Pt cf a (ZG (ZG X N Q1) (N+1) Q2) s L (N+1) w' S2:=by rw [JQ Ze,Zq]; exact h2
 have F2:=F1.put (P':=Pt cf a (ZG (ZG X N Q1) (N+1) Q2) s L) (FA Ze) q2 (fun i hi=>uY.1 w' S2 h2 i hi) (fun j hj i hi hv=>by
  by_cases CP:j=N
  ·subst CP; rw [Xm] at hi; exact hd i hi hv
  ·rw [YP CP] at hi;have:=qO i hv;have:=F.lt j Ze i hi;omega)
 have g3:Zx w0.T w0.w w':=g2.trans (Zx.of_below (S:=fun _=>False) hb) (fun _ _ h=>h.elim);refine ⟨_,F2,fun j hj i hi=>?_,g3⟩
 by_cases hj1:j=N+1
 ·subst hj1; rw [Xm] at hi; exact .inr (ZY g2.size (qO i hi))
 ·rw [YP hj1] at hi
  by_cases CP:j=N
  ·subst CP; rw [Xm] at hi; exact .inr (ZY g2.size (At i hi))
  ·rw [YP CP] at hi; exact g1 j Ze i hi
theorem Eg.fresh2 (h:Eg N w0 w c a q Z s L){e1 e2:TypeId}{k1 k2 n1 n2:Nat}{v1 v2:Zk}{x1 x2:List Zk}(h1:w'.ownsRow w.heap.size e1 k1 v1 n1 x1)(h2:w'.ownsRow w.heap.size e2 k2 v2 n2 x2)(Ka:e1≠e2)(hb:Below w.heap.size w w') :
  Eg (N+2) w0 w' c a q (ZG (ZG Z N (YI e1 k1 v1 n1 x1)) (N+1) (YI e2 k2 v2 n2 x2)) s L:=by
 obtain ⟨X,hX,hZ,hN,h⟩:=h;refine ⟨ZG (ZG X N (YI e1 k1 v1 n1 x1)) (N+1) (YI e2 k2 v2 n2 x2),fun k hk=>?_,fun k g1 g2=>?_,by omega,?_⟩
 ·unfold ZG; split
  ·exact Q5
  ·split
   ·exact Q5
   ·exact hX k hk
 ·unfold ZG; split
  ·rfl
  ·split
   ·rfl
   ·exact hZ k g1 Ze
 ·have:=h.more2 (EV hX) Ze Q5 Q5 (GJ h1) (GJ h2) (fun i hi=>(VY h1 i hi).1) (fun i hi=>(VY h2 i hi).1) (ZdJ h1 h2 Ka) hb;rw [Wk hN,Wk Ze] at this;exact this
theorem Zcq (hc:GE c)(hi:Inv c k s)(h:Eg N w0 w c a q Z s L) :
  Zv Zb 138 #[.pointer (some ⟨q.e,0,none⟩)] w fun e w'=> ∃v,e= .returned (.tuple #[v,.int .i64 ((FZ c s:Nat) :Int)])/\
   Eg (N+1) w0 w' c a q (ZG Z N (YI 252 3 v (Ww c s).length (YK J8 (Ww c s)))) { s with V:=LI c s,P:=s.P+Uq (Ky (c 5) s.V (s.pt.take (FZ c s))),pt:=s.pt.drop (FZ c s)} L:=by
 have hN:=h.low;obtain ⟨n,hn⟩:=ZT (FZ c s);have u9:min (c 16).toNat s.pt.length=n:=hn;obtain ⟨A,hA⟩:=ZT (LI c s);obtain ⟨Ps,hPs⟩:=ZT (Ky (c 5) s.V (s.pt.take n));have hPP:Ww c s=WN Ps:=by unfold Ww; rw [hn,hPs]
 have z6:XC (c 5) s.V (s.pt.take n)=A:=by rw [<-hA]; unfold LI; rw [hn]
 have qK:0<=c 16:=hc.g.part;have hpl:s.pt.length<=4096:=by have:=hi.ptl; have:=hc.q1; omega
 have hvl:s.V.length<=4096:=by have:=hi.len; have:=hc.g.cap1; omega
 have h5:0<=c 5:=by have:=hc.m5; omega
 have jV:(s.pt.take n).length=n:=FN;have HNx:=Za (fun m=>qf (h.drewN m) (mo:=c 16) qK Ze u9);have x16:=Eg.x16 h;have HC:=Za (Zn hc hi);have HX:=Za (Zn u9 (Zn z6 (Zn hPs (Zn qK (Zn hpl (Zn hvl (Zn h5 jV)))))));have HN:=Za hN;rw [hn,hA,hPP,hPs,nw];have hlen:(WN Ps).length=Ps.length:=by simp [WN]
 rw [hlen];clear hc hi h hN hn u9 hA hPs hPP z6 qK hpl hvl h5 hlen jV;go_enter func138,ntmps138;go_wp2_with fail;refine GL 8 ?_;refine GM ?_;iterate 8 (go_big_quiet_step ((intros; rfl)))
 refine XK ?_;intro _ Jq;obtain ⟨nr,Y9⟩:=Jq;subst Y9;go_wp2_with fail;refine (HNx.o nr).mono ?_;rintro e w2 ⟨vd,rfl,h2,_⟩;obtain ⟨id,cd,rfl⟩:=Xy (h2.row (r:=N) HN.o Ze Zq);have H2:=Za h2;clear h2 HNx x16
 by_cases h0:n=0
 ·have d0:((n:Int)==0)=true:=by simp [h0]
  have hP0:Ps=[]:=by rw [<-HX.o.2.2.1,h0,List.take_zero]; rfl
  have Rn:s.V=A:=by rw [<-HX.o.2.1,h0,List.take_zero]; rfl
  have h3:=((H2.o.drop HN.o).nil 252 3);have H3:Zl (Eg (N+1) w0 w2 c a q (ZG Z N (YI 252 3 (.slice none 0 0) Ps.length (YK Vw Ps))) { s with V:=A,P:=s.P+Uq Ps,pt:=s.pt.drop n} L):=Za (by
   rw [hP0,<-Rn];have e:s.P+Uq []=s.P:=by simp [Uq]
   rw [e];exact h3)
  have HNe:=Za h0;clear h3 hP0 Rn h0 H2;go_wp2_with fail;go_ret2;exact ⟨_,by rw [HNe.o]; rfl,H3.o⟩
 ·have d0:((n:Int)==0)=false:=by simp [h0]
  have hPp: ∀p ∈ Ps,0 < p.am/\ ∃i:Nat,p.ix=(i:Int)/\i < s.V.length:=fun p hp=>by
   rw [<-HX.o.2.2.1] at hp;obtain ⟨g1,_,i,v,g2,g3,_⟩:=(EO (c 5) HX.o.2.2.2.2.2.2.1 _ s.V (fun r hr=>HC.o.2.ptf r (ZQ hr)) HC.o.2.fits).2 p hp;exact ⟨g1,i,g2,(Zj.1 g3).1⟩
  have z8:A.length=s.V.length:=by rw [<-HX.o.2.1]; exact BU _ _ _
  have hAf: ∀v ∈ A,Yh v:=by
   rw [<-HX.o.2.1];exact Ei (c 5) HX.o.2.2.2.2.2.2.1 _ _ (fun r hr=>HC.o.2.ptf r (ZQ hr)) HC.o.2.fits
  have hAt:Zw A=Zw s.V - Uq Ps:=by rw [<-HX.o.2.1,<-HX.o.2.2.1]; exact FD _ _ _
  have rj: ∀j,j < s.V.length->j ∉ Ps.map pyN->s.V.getD j ZS=A.getD j ZS:=fun j hj Dc=>by
   rw [<-HX.o.2.1];refine (yb HX.o.2.2.2.2.2.2.1 (fun r hr=>HC.o.2.ptf r (ZQ hr)) HC.o.2.fits hj fun p hp e=>?_).symm;rw [HX.o.2.2.1] at hp;exact Dc (Z6.2 ⟨p,hp,by unfold pyN; omega⟩)
  have hPl:Ps.length<=4096:=by
   have h1:=Pe (c 5) (s.pt.take n) s.V;rw [HX.o.2.2.1,HX.o.2.2.2.2.2.2.2] at h1;have:=HX.o.1; have:=HX.o.2.2.2.2.1; omega
  have HY:=Za (Zn hPp (Zn z8 (Zn hAf (Zn hAt rj))));have hn5:n<=4096:=by have:=HX.o.1; have:=HX.o.2.2.2.2.1; omega
  clear h0 hPp z8 hAf hAt rj;go_wp2_with fail;refine Ra (fun w'=>Zu w' q.e 102 (Uh c a q)) 9 [0,1,2,3,4,6,7,8,9,10] (?_) ?_
  ·exact H2.o.drew.blk
  refine JL ?_;refine jk ?_;refine Bi ?_;refine Vk _ ⟨q.e,21,none⟩ (.pointer (some ⟨a.r,0,none⟩)) (fun w h=>h.cell 21) ?_;refine X5 ?_;refine Bi ?_;refine PW 30 _ q.e 0 (Zi c) _ rfl rfl rfl (fun w h=>RK h) underlying30 rfl X7 ?_;refine XK ?_;have H3:=Za H2.o.drew;clear H2;generalize w2.drew=V3 at*;refine DM ?_;refine JC #[.pointer (some ⟨a.r,0,none⟩)] call43 ((Eg.all H3.o).mono ?_);rintro e w4 ⟨va,rfl,h4,_⟩;have H4:=Za h4;refine ⟨_,rfl,h4.blk,?_⟩;clear h4 H3;have jr:Zl (Zv Zb 207 #[va,.slice id n cd,.agg (Zi c)] w4 fun e w'=> ∃v p,e= .returned (.tuple #[v,p,.int .i64 (n:Int)])/\Eg (N+1+1+2) w0 w' c a q (ZG (ZG (ZG (ZG Z N (YI 119 2 (.slice id n cd) n (Ja (s.pt.take n)))) (N+1) (YI 68 7 va s.V.length (Xz s.V))) (N+1+1) (YI 68 7 v s.V.length (Xz A))) (N+1+1+1) (YI 252 3 p Ps.length (YK Vw Ps))) { s with pt:=s.pt.drop n} L):=Za (by
   have r1:=H4.o.row (r:=N) HN.o Ze Ut;obtain ⟨ab,ac,rfl,hl⟩:=H4.o.lst (r:=N+1) ZO Ze Zq;have hcd:n<=cd:=by
    rcases r1.2 with ⟨e1,e2⟩ | ⟨g1,cp1,cur,e1,_,_,e3,_⟩
    ·omega
    ·injection e1 with _ _ e4; omega
   have hq:VM Rq.row 2 w4 (fun _=>False) id (s.pt.take n):=fun h0=>by
    rcases r1.2 with ⟨e1,e2⟩ | ⟨g1,cp1,cur,e1,_,e2,_⟩
    ·have:=HX.o.2.2.2.2.2.2.2; omega
    ·injection e1 with e1 _ _;refine ⟨g1,0,e1,fun h=>h,(Ym.1 e2).1,fun i v hi=>?_⟩;subst e1;intro j u hj;have EE:=(Zj.1 hj).1;have:=r1.cells rfl (i*2+j) u (by unfold Ja; rw [Hv (row:=Rq.row) (k:=2) (fun _=>rfl) hi EE]; exact hj);exact Zbv
   have:=dA ab id ac cd s.V (s.pt.take n) c w4 hl hq HC.o.2.fits (fun r hr=>HC.o.2.ptf r (ZQ hr)) HX.o.2.2.2.2.2.2.1 HX.o.2.2.2.1 HX.o.2.2.2.2.2.1 (by rw [HX.o.2.2.2.2.2.2.2]; omega) (by rw [HX.o.2.2.2.2.2.2.2]; exact hcd);have e1:Up c (s.pt.take n)=n:=by unfold Up; rw [HX.o.2.2.2.2.2.2.2]; have:=HX.o.1; omega
   rw [e1,HX.o.2.2.2.2.2.2.2,Yp (by rw [HX.o.2.2.2.2.2.2.2]; exact Zh _),HX.o.2.1,HX.o.2.2.1] at this;refine this.mono fun e w' ⟨v,p,he,g1,g2,g3⟩=>⟨v,p,he,H4.o.fresh2 g1 g2 YW g3⟩)
  refine Jg (i:=11) ?_;refine Q3 ?_;refine JC #[va,.slice id n cd,.agg (Zi c)] call207 ((jr.o).mono ?_);rintro e w5 ⟨vA,vP,rfl,h5⟩;refine ⟨_,rfl,h5.blk,?_⟩;have zx:=Za h5.blk;have rA:=h5.row (r:=N+1+1) ZO Ze Ut;obtain ⟨iA,cA,rfl⟩:=Xy rA;obtain ⟨ip,cp,rfl⟩:=Xy (h5.row (r:=N+1+1+1) ZO Ze Zq);obtain ⟨m,hm⟩:=ZT (Ps.length);obtain ⟨nV,bP⟩:=ZT (s.V.length);have HM:=Za (Zn hm bP);rw [hm,bP] at h5;rw [hm] at hPl;have H5:=Za h5;rw [hm,bP];clear jr H4 h5 rA hm bP;refine Q3 ?_;refine Mj (fun w'=>Zu w' q.e 102 (Uh c a q)) (m:=7) (f:=0) [12,13,14,15,16,17,18] (?_) ?_
  ·exact zx.o
  refine JL ?_;show ZZ _ _ _ _ [_,_,_,_,_,_,_] _;refine I1 ?_;refine XK ?_;clear zx;refine ⟨by kernel_rfl,Yu ?_⟩;refine Q3 ?_;go_wp2_with fail;go_loopw [40] (fun s40 wr=> ∃(k:Nat) (W:List ZN),k<=m/\s40= .int .i64 k/\Zl (WZ s.V A ((Ps.take k).map pyN) W/\Eg (N+1+1+2) w0 wr c a q (ZG (ZG (ZG (ZG Z N (YI 119 2 (.slice id n cd) n (Ja (s.pt.take n)))) (N+1) (YI 68 7 va nV (Xz s.V))) (N+1+1) (YI 68 7 (.slice iA nV cA) nV (Xz A))) (N+1+1+1) (YI 252 3 (.slice ip m cp) m (YK Vw Ps))) { s with V:=W,P:=s.P+Uq (Ps.take k),pt:=s.pt.drop n} L)) (fun s40 _=>m -(intOf s40).toNat)
  case atStart=>exact ⟨0,s.V,by omega,rfl,Za ⟨WZ.refl _ _,by
   have e:s.P+Uq (Ps.take 0)=s.P:=by simp [Uq]
   rw [e]; exact H5.o⟩⟩
  case round=>
   obtain ⟨k,W,hk,rfl,HE⟩:=hrel
   by_cases XV:k < m
   ·obtain ⟨p,hp⟩ : ∃p,Ps[k]?=some p:=⟨_,Zg (by rw [HM.o.1]; exact XV)⟩;have rP:=HE.o.2.row (r:=N+1+1+1) ZO Ze Zq;obtain ⟨gP,rfl,jU⟩:=N0 (row:=Vw) Py.row_len rP Ze hp;obtain ⟨hpa,i,hip,Fo⟩:=HY.o.1 p (Zy hp);have ra:=HE.o.1.set (i:=i) Fo;have Zgx:(Ps.take k).map pyN++[i]=(Ps.take (k+1)).map pyN:=by
     rw [Xs,hp,QL,List.map_append];show _=_++[p.ix.toNat];rw [hip]; rfl
    rw [Zgx] at ra;have hsm:=oe hp;have mH:=yU (fun p hp=>(HY.o.1 p hp).1) (k+1);have hsp:=N9 (l:=Ps.take k) (fun p hp=>(HY.o.1 p (ZQ hp)).1);have Rn:=Jz HY.o.2.2.1;have hAt:=HY.o.2.2.2.1;have bT:=HC.o.2.total HC.o.1;have MJ:=HC.o.2.sum;have hmt:=ra.total HY.o.2.1 HC.o.2.fits HY.o.2.2.1;have hp0:=HC.o.2.p0;have Ro:=HC.o.2.b0;have xi:=HC.o.2.d1;have Uz:=HC.o.2.cap;have xh:=HC.o.1.a4;have hiA:i < A.length:=by rw [HY.o.2.1]; exact Fo
    have hxA:A[i]?=some (A.getD i ZS):=by rw [Zm,Zg hiA]; rfl
    have hxW:W[i]?=some (W.getD i ZS):=by rw [Zm,Zg (by rw [HE.o.1.1]; exact Fo)]; rfl
    rw [JK hxW] at hmt;obtain ⟨vA,hvA⟩:=ZT (A.getD i ZS);rw [hvA] at ra hmt hxA;have hfA:Yh vA:=HY.o.2.2.1 vA (Xi hxA);have rA:=HE.o.2.row (r:=N+1+1) ZO Ze Ut;obtain ⟨gA,rfl,hrA⟩:=N0 (row:=ZN.row) (sz:=7) (l:=A) (fun _=>rfl) rA (by have:=HM.o.2; omega) hxA;have WG:(i:Int)< (nV:Int):=by have:=HM.o.2; omega
    have MH: ¬(i:Int)< 0:=Ze;have oX:Zl (∀wx,Eg (N+1+1+2+1) w0 wx c a q (ZG (ZG (ZG (ZG (ZG Z N (YI 119 2 (.slice id n cd) n (Ja (s.pt.take n)))) (N+1) (YI 68 7 va nV (Xz s.V))) (N+1+1) (YI 68 7 (.slice (some ⟨gA,0,none⟩) nV cA) nV (Xz A))) (N+1+1+1) (YI 252 3 (.slice (some ⟨gP,0,none⟩) m cp) m (YK Vw Ps))) (N+1+1+2) (Y5 wr.heap.size 252 (JP p))) { s with V:=W,P:=s.P+Uq (Ps.take k),pt:=s.pt.drop n} L->Zv Zb 208 #[.pointer (some ⟨q.e,21,none⟩),.int .i64 p.ix,.agg (Zd vA),.int .u64 p.am] wx fun e w'=>e= .returned (.tuple #[])/\WZ s.V A ((Ps.take (k+1)).map pyN) (W.set i vA)/\Eg (N+1+1+2) w0 w' c a q (ZG (ZG (ZG (ZG Z N (YI 119 2 (.slice id n cd) n (Ja (s.pt.take n)))) (N+1) (YI 68 7 va nV (Xz s.V))) (N+1+1) (YI 68 7 (.slice (some ⟨gA,0,none⟩) nV cA) nV (Xz A))) (N+1+1+1) (YI 252 3 (.slice (some ⟨gP,0,none⟩) m cp) m (YK Vw Ps))) { s with V:=W.set i vA,P:=s.P+Uq (Ps.take (k+1)),pt:=s.pt.drop n} L):=Za fun wx hx=>by
     have:=Zf4 hx (n:=i) (v:=W.getD i ZS) (v':=vA) (x:=p.am) hxW hfA (by show Zw W - _+_<=_; omega) (by unfold Jt; simp only; omega) Ze FK;rw [<-hip] at this;refine this.mono fun e w' ⟨he,h1⟩=>⟨he,ra,?_⟩
     rw [hsm,<-Int.add_assoc];exact h1.drop ZO
    have HR:=Za (Zn jU hrA);have HV:=Za hip;clear hp rP jU hpa Fo ra Zgx hsm mH hsp Rn hAt bT MJ hmt hp0 Ro xi Uz xh hiA hxA hxW hvA hfA rA hrA;go_upto_region 7 with (fail);have I4:=Za (HE.o.2.box (JP p) 252);have hHr:Zl (wr.heap.size=wr.heap.size):=Za rfl;have ZgH:Zl ((wr.alloc (.cells (JP p) 252)).rangeAt gA (i*7) vA.row):=Za (World.rangeAt_alloc HR.o.2 _);go_upto_region 8 with (first | (refine Je rfl 252 _ rfl gP (k*3) rfl p.row _ HR.o.1 underlying252 rfl rD ?_) | (refine UP wr.heap.size (JP p) 252 (ZA wr _) rD (aM _) ?_; rw [Zr]));refine Q3 ?_;clear HE HR hHr;generalize wr.heap.size=zp at*;generalize wr.alloc (.cells (JP p) 252)=W1 at*;have kp0:W1.cell? ⟨zp,0,none⟩=some (.int .i64 (i:Int)):=by rw [<-HV.o]; exact (VE I4.o (r:=N+1+1+2) ZO Ze Zq).cell 0
    have kp1:W1.cell? ⟨zp,1,none⟩=some (.int .u64 p.am):=(VE I4.o (r:=N+1+1+2) ZO Ze Zq).cell 1;rw [HV.o] at oX;refine GL 12 ?_;refine GM ?_;iterate 9 (go_big_quiet_step ((intros; rfl)))
    refine KU 68 _ gA (i*7) vA _ rfl rfl rfl (fun w' h=>by obtain ⟨m,rfl⟩:=h; exact ZgH.o) underlying68 rfl Yb ?_;refine Q3 ?_;refine B9 ?_;refine XK ?_;intro _ Jq;obtain ⟨nr,Y9⟩:=Jq;subst Y9;have ll:=Za (oX.o _ (I4.o.drewN nr));clear I4 oX kp0 kp1 ZgH;go_wp2_with fail;refine ll.o.mono ?_;rintro e w6 ⟨rfl,h6a,h6b⟩;have H6:=Za (Zn h6a h6b);clear h6a h6b ll;go_wp2_with fail;go_roundw
    case rel=>exact ⟨k+1,W.set i vA,by omega,by go_num,H6⟩
    case measure=>exact VL
   ·obtain rfl:k=m:=Ze;clear XV;have XV: ¬k < k:=Ze;have H7:Zl (Eg (N+1) w0 wr c a q (ZG Z N (YI 252 3 (.slice ip k cp) Ps.length (YK Vw Ps))) { s with V:=A,P:=s.P+Uq Ps,pt:=s.pt.drop n} L):=Za (by
     have h1:=HE.o;rw [Yp (by rw [HM.o.1]; exact Zh _)] at h1;have e:=h1.1.done HY.o.2.1 HY.o.2.2.2.2;have h2:=h1.2;rw [e] at h2;rw [HM.o.1];exact Eg.pick (m:=3) h2 HN.o (fun k h1 h2=>by rw [Zz Ze,Zz Ze,Zz Ze,Zz Ze]) Zq)
    clear HE;go_wp2_with fail;go_ret2;exact ⟨_,rfl,H7.o⟩
end
end
section
open Go Go.RowKit Go.Deep
def Cm (V:List ZN)(mg:List (Int × Int)) :Prop:= ∀p ∈ mg,∃i j:Nat,p=((i:Int),(j:Int))/\i < V.length/\j < V.length
def prN (l:List (Int × Int)) :List Nat:=l.flatMap fun p=> [p.1.toNat,p.2.toNat]
theorem sh {l:List (Int × Int)}{k i j:Nat}(hk:l[k]?=some ((i:Int),(j:Int))) :prN (l.take (k+1))=prN (l.take k)++[i]++[j]:=by
 unfold prN;rw [Xs,hk,QL,List.flatMap_append];simp
section
variable {N:Nat} {w0:Fb} {w w' w1:Zc} {c cf:Nat->Int} {a:Pl} {q:Ql} {X Z:Nat->Zc->(Nat->Prop)->Prop} {s s':Sg} {L L':List QW} {k:Nat}
theorem Zf2 (h:Eg N w0 w c a q Z s L){V A:List ZN}{F:List Nat}(hm:WZ V A F s.V){i:Nat}(hi:i < V.length)(hl:A.length=V.length)(hv: ∀v ∈ V,Yh v)(ha: ∀v ∈ A,Yh v)(ht:Zw V+Zw A<=18446744073709551615) :
  Zv Zb 175 #[.pointer (some ⟨a.r,0,none⟩),.int .i64 (i:Int),.agg (Zd (A.getD i ZS))] w fun e w'=>e= .returned (.int .i64 0)/\WZ V A (F++[i]) (s.V.set i (A.getD i ZS))/\Eg N w0 w' c a q Z { s with V:=s.V.set i (A.getD i ZS)} L:=by
 have h2:=hm.set (i:=i) hi;have h3:=h2.total hl hv ha;have hiA:i < A.length:=by rw [hl]; exact hi
 have hx:s.V[i]?=some (s.V.getD i ZS):=by rw [Zm,Zg (by rw [hm.1]; exact hi)]; rfl
 have hfa:Yh (A.getD i ZS):=ha _ (by rw [Zm,Zg hiA]; exact Kj hiA);rw [JK hx] at h3;obtain ⟨X,hX,VV,hh,hK,_⟩:=h.open;exact (hh.set hX VV hx hfa Ze).mono fun e w' ⟨he,h1⟩=>⟨he,h2,hK _ _ _ h1 rfl rfl⟩
theorem kg {w:Zc}{g n cp i:Nat}{A:List ZN}(h:w.ownsRow 0 68 7 (.slice (some ⟨g,0,none⟩) n cp) n (Xz A))(hi:i < A.length) :w.rangeAt g (i*7) (A.getD i ZS).row:=by
 have h0:=h.1;have hl:(Xz A).length=A.length*7:=EB (row:=ZN.row) (k:=7) (fun _=>rfl) A;have hx:A[i]?=some (A.getD i ZS):=Zbt
 obtain ⟨g2,e,h2⟩:=N0 (row:=ZN.row) (sz:=7) (l:=A) (fun _=>rfl) h Ze hx;injection e with e;injection e with e _ _;rw [e]; exact h2
theorem wI (hc:GE c)(h:Eg N w0 w c a q Z s L)(hf: ∀v ∈ s.V,Yh v)(ht:Zw s.V<=1152921504606846976)(hvl:s.V.length<=4096)(oO:s.mg.length<=4096)(q9:Cm s.V s.mg) :
  Zv Zb 205 #[.pointer (some ⟨q.e,0,none⟩)] w fun e w'=>e= .returned (.tuple #[])/\Eg N w0 w' c a q Z { s with V:=JW (c 6) s.V (s.mg.take (GS c s.mg)),mg:=s.mg.drop (GS c s.mg)} L:=by
 have hN:=h.low;obtain ⟨n,hn⟩:=ZT (GS c s.mg);have u9:min (c 17).toNat s.mg.length=n:=hn;obtain ⟨A,hA⟩:=ZT (JW (c 6) s.V (s.mg.take n));have h17:=hc.m17;have jV:(s.mg.take n).length=n:=FN;have HNx:=Za (fun m=>qe (h.drewN m) (mo:=c 17) h17 Ze u9);have x17:=Eg.x17 h;have HX:=Za (Zn u9 (Zn hA (Zn jV (Zn oO (Zn hvl (Zn hf (Zn ht (Zn q9 hc))))))));have HN:=Za hN;rw [hn,hA];clear hc h hf ht hvl oO q9 hN hn u9 hA h17 jV;go_enter func205,ntmps205;go_wp2_with fail;refine GL 8 ?_;refine GM ?_;iterate 8 (go_big_quiet_step ((intros; rfl)))
 refine XK ?_;intro _ Jq;obtain ⟨nr,Y9⟩:=Jq;subst Y9;go_wp2_with fail;refine (HNx.o nr).mono ?_;rintro e w2 ⟨vd,rfl,h2,_⟩;obtain ⟨id,cd,rfl⟩:=Xy (h2.row (r:=N) HN.o Ze Zq);have H2:=Za h2;clear h2 HNx x17
 by_cases h0:n=0
 ·have d0:((n:Int)==0)=true:=by simp [h0]
  have Rn:s.V=A:=by rw [<-HX.o.2.1,h0,List.take_zero]; rfl
  have H3:Zl (Eg N w0 w2 c a q Z { s with V:=A,mg:=s.mg.drop n} L):=Za (by rw [<-Rn]; exact H2.o.drop HN.o);clear Rn h0 H2;go_wp2_with fail;refine tG ?_;exact ⟨rfl,H3.o⟩
 ·have d0:((n:Int)==0)=false:=by simp [h0]
  have z8:A.length=s.V.length:=by rw [<-HX.o.2.1]; exact Pd _ _ _
  have hAf: ∀v ∈ A,Yh v:=by rw [<-HX.o.2.1]; exact TQ _ _ _ HX.o.2.2.2.2.2.1
  have hAt:Zw s.V+Zw A<=18446744073709551615:=by
   have h1:=(TR (c 6) (s.mg.take n) s.V).1;rw [HX.o.2.1] at h1;exact kZ
  have rj: ∀j,j < s.V.length->j ∉ prN (s.mg.take n)->s.V.getD j ZS=A.getD j ZS:=fun j hj Dc=>by
   rw [<-HX.o.2.1];refine (AW (c 6) _ _ _ fun p hp=>⟨fun e=>Dc ?_,fun e=>Dc ?_⟩).symm
   ·unfold prN; exact List.mem_flatMap.2 ⟨p,hp,by simp [e]⟩
   ·unfold prN; exact List.mem_flatMap.2 ⟨p,hp,by simp [e]⟩
  have HY:=Za (Zn z8 (Zn hAf (Zn hAt rj)));have hn5:n<=4096:=by have:=HX.o.1; have:=HX.o.2.2.2.1; omega
  clear h0 z8 hAf hAt rj;go_wp2_with fail;refine Ra (fun w'=>Zu w' q.e 102 (Uh c a q)) 7 [0,1,2,3,4,6,7,8,9,10] (?_) ?_
  ·exact H2.o.drew.blk
  refine JL ?_;refine jk ?_;refine Bi ?_;refine Vk _ ⟨q.e,21,none⟩ (.pointer (some ⟨a.r,0,none⟩)) (fun w h=>h.cell 21) ?_;refine X5 ?_;refine Bi ?_;refine PW 30 _ q.e 0 (Zi c) _ rfl rfl rfl (fun w h=>RK h) underlying30 rfl X7 ?_;refine XK ?_;have H3:=Za H2.o.drew;clear H2;generalize w2.drew=V3 at*;refine DM ?_;refine JC #[.pointer (some ⟨a.r,0,none⟩)] call43 ((Eg.all H3.o).mono ?_);rintro e w4 ⟨va,rfl,h4,_⟩;have H4:=Za h4;refine ⟨_,rfl,h4.blk,?_⟩;clear h4 H3;have jr:Zl (Zv Zb 242 #[va,.slice id n cd,.agg (Zi c)] w4 fun e w'=> ∃v v2,e= .returned (.tuple #[v,v2])/\Eg (N+1+1+1) w0 w' c a q (ZG (ZG (ZG Z N (YI 116 2 (.slice id n cd) n (Jo (s.mg.take n)))) (N+1) (YI 68 7 va s.V.length (Xz s.V))) (N+1+1) (YI 68 7 v s.V.length (Xz A))) { s with mg:=s.mg.drop n} L):=Za (by
   have r1:=H4.o.row (r:=N) HN.o Ze Ut;obtain ⟨ab,ac,rfl,hl⟩:=H4.o.lst (r:=N+1) ZO Ze Zq;have hq:eo w4 (fun _=>False) id (s.mg.take n):=fun h0=>by
    rcases r1.2 with ⟨e1,e2⟩ | ⟨g1,cp1,cur,e1,_,e2,_⟩
    ·have:=HX.o.2.2.1; omega
    ·injection e1 with e1 _ _;refine ⟨g1,0,e1,fun h=>h,(Ym.1 e2).1,fun i v hi=>?_⟩;subst e1;intro j u hj;have EE:=(Zj.1 hj).1;have:=r1.cells rfl (i*2+j) u (by unfold Jo; rw [Hv (row:=JX) (k:=2) (fun _=>rfl) hi EE]; exact hj);exact Zbv
   have:=dz ab id ac cd s.V (s.mg.take n) c w4 hl hq HX.o.2.2.2.2.2.1 HX.o.2.2.2.2.2.2.2.2.m17 HX.o.2.2.2.2.1 (by rw [HX.o.2.2.1]; omega);have e1:GS c (s.mg.take n)=n:=by unfold GS; rw [HX.o.2.2.1]; have:=HX.o.1; omega
   rw [e1,HX.o.2.2.1,Yp (by rw [HX.o.2.2.1]; exact Zh _),HX.o.2.1] at this;exact this.mono fun e w' ⟨v,g,he,g1,_,_,_,g3⟩=>⟨v,_,he,H4.o.fresh g1 g3⟩)
  refine Jg (i:=11) ?_;refine Q3 ?_;refine JC #[va,.slice id n cd,.agg (Zi c)] call242 ((jr.o).mono ?_);rintro e w5 ⟨vA,vB2,rfl,h5⟩;refine ⟨_,rfl,h5.blk,?_⟩;have zx:=Za h5.blk;obtain ⟨iA,cA,rfl⟩:=Xy (h5.row (r:=N+1+1) ZO Ze Zq);obtain ⟨nV,bP⟩:=ZT (s.V.length);have HM:=Za bP;rw [bP] at h5;have H5:=Za h5;rw [bP];clear jr H4 h5 bP;refine Q3 ?_;refine Mj (fun w'=>Zu w' q.e 102 (Uh c a q)) (m:=5) (f:=0) [12,13,14,15,16] (?_) ?_
  ·exact zx.o
  refine JL ?_;refine Ol ?_;refine Pv ?_;refine XK ?_;clear zx;refine ⟨by kernel_rfl,Yu ?_⟩;refine Q3 ?_;go_wp2_with fail;go_loopw [38] (fun s38 wr=> ∃(k:Nat) (W:List ZN),k<=n/\s38= .int .i64 k/\Zl (WZ s.V A (prN ((s.mg.take n).take k)) W/\Eg (N+1+1+1) w0 wr c a q (ZG (ZG (ZG Z N (YI 116 2 (.slice id n cd) n (Jo (s.mg.take n)))) (N+1) (YI 68 7 va nV (Xz s.V))) (N+1+1) (YI 68 7 (.slice iA nV cA) nV (Xz A))) { s with V:=W,mg:=s.mg.drop n} L)) (fun s38 _=>n -(intOf s38).toNat)
  case atStart=>exact ⟨0,s.V,by omega,rfl,Za ⟨WZ.refl _ _,H5.o⟩⟩
  case round=>
   obtain ⟨k,W,hk,rfl,HE⟩:=hrel
   by_cases XV:k < n
   ·obtain ⟨p,hp⟩ : ∃p,(s.mg.take n)[k]?=some p:=⟨_,Zg (by rw [HX.o.2.2.1]; exact XV)⟩;obtain ⟨i,j,rfl,hi,hj⟩:=HX.o.2.2.2.2.2.2.2.1 p (ZQ (Zy hp));have Ov:wr.ownsRow 0 116 2 (.slice id n cd) n (YK JX (s.mg.take n)):=HE.o.2.row (r:=N) HN.o Ze (by rw [Zz Ze,Zz Ze,Zq]; rfl);obtain ⟨gD,eid,jU⟩:=N0 (row:=JX) (sz:=2) (l:=s.mg.take n) (fun _=>rfl) Ov Ze hp;subst eid;clear Ov;have hps:=sh hp;have hAi:i < A.length:=by rw [HY.o.1]; exact hi
    have hAj:j < A.length:=by rw [HY.o.1]; exact hj
    have WG:(i:Int)< (nV:Int):=by have:=HM.o; omega
    have Dc:(j:Int)< (nV:Int):=by have:=HM.o; omega
    have MH: ¬(i:Int)< 0:=Ze;have fF: ¬(j:Int)< 0:=Ze;have HI:=Za (Zn hi (Zn hAi WG));have HJ:=Za (Zn hj (Zn hAj Dc));have HPs:=Za hps;have zH:=Za jU;clear hp hi hj jU hps hAi hAj;go_upto_region 5 with (fail);have I4:=Za (HE.o.2.below ((Zo _ _).alloc (Zh _) (.cells (Yx ((i:Int),(j:Int))) 116)));have HMd:=Za HE.o.1;have HBx:Zl (Zu (wr.alloc (.cells (Yx ((i:Int),(j:Int))) 116)) wr.heap.size 116 (Yx ((i:Int),(j:Int)))):=Za (Zu.new _ _ _);go_upto_region 6 with (first | (refine Je rfl 116 _ rfl gD (k*2) rfl (JX ((i:Int),(j:Int))) _ zH.o underlying116 rfl Le ?_) | (refine UP wr.heap.size (Yx ((i:Int),(j:Int))) 116 (ZA wr _) Le (Ug _) ?_; rw [Zr]));refine Q3 ?_;clear HE zH;generalize wr.heap.size=zp at*;generalize wr.alloc (.cells (Yx ((i:Int),(j:Int))) 116)=W1 at*;go_wp2_with (first | (refine Kz 116 zp HBx.o underlying116 Le ?_));clear HBx;simp only [Yx,JX];have oR: ∀W:Zc,(Yn 116 (.agg #[.int .i64 (i:Int),.int .i64 (j:Int)]) (.int .i64 0)).run Zb W= .ok (.int .i64 (i:Int)) W:=fun W=>by kernel_rfl
    have hx1: ∀W:Zc,(Yn 116 (.agg #[.int .i64 (i:Int),.int .i64 (j:Int)]) (.int .i64 1)).run Zb W= .ok (.int .i64 (j:Int)) W:=fun W=>by kernel_rfl
    obtain ⟨gA,rfl,HR1⟩ : ∃gA,iA=some ⟨gA,0,none⟩/\Zl (∀x,x < A.length->W1.rangeAt gA (x*7) (A.getD x ZS).row):=by
     have r0:W1.ownsRow 0 68 7 (.slice iA nV cA) nV (Xz A):=I4.o.row (r:=N+1+1) ZO Ze Zq
     rcases r0.2 with ⟨h1,_⟩ | ⟨g,GP,cur,h1,_⟩
     ·injection h1 with _ h3 _; exact absurd WG Ze
     ·injection h1 with h1 _ _;subst h1;exact ⟨g,rfl,Za fun x hx=>kg r0 hx⟩
    refine jl ?_;go_wp2_with fail;refine GL 10 ?_;refine GM ?_;refine Bi ?_;refine Vk _ ⟨q.e,21,none⟩ (.pointer (some ⟨a.r,0,none⟩)) (fun w' h=>by obtain ⟨m,rfl⟩:=h; exact (I4.o.blk.drewN _).cell 21) ?_;refine X5 ?_;refine Bi ?_;refine KU 68 _ gA (i*7) (A.getD i ZS) _ rfl rfl rfl (fun w' h=>by obtain ⟨m,rfl⟩:=h; exact HR1.o i HI.o.2.1) underlying68 rfl Yb ?_;refine Q3 ?_;refine XK ?_;intro _ Jq;obtain ⟨nr1,Y9⟩:=Jq;subst Y9;go_wp2_with fail;refine (Zf2 (I4.o.drewN nr1) HMd.o HI.o.1 HY.o.1 HX.o.2.2.2.2.2.1 HY.o.2.1 HY.o.2.2.1).mono ?_;rintro e W2 ⟨rfl,ee,he2⟩;have ZfB:=Za ee;have Hj:=Za he2;clear I4 HR1 HMd ee he2;have HR2:Zl (∀x,x < A.length->W2.rangeAt gA (x*7) (A.getD x ZS).row):=by
     have r0:W2.ownsRow 0 68 7 (.slice (some ⟨gA,0,none⟩) nV cA) nV (Xz A):=Hj.o.row (r:=N+1+1) ZO Ze Zq;exact Za fun x hx=>kg r0 hx
    go_wp2_with fail;rw [rounds_succ];go_wp2_with fail;refine GL 10 ?_;refine GM ?_;refine Bi ?_;refine Vk _ ⟨q.e,21,none⟩ (.pointer (some ⟨a.r,0,none⟩)) (fun w' h=>by obtain ⟨m,rfl⟩:=h; exact (Hj.o.blk.drewN _).cell 21) ?_;refine X5 ?_;refine Bi ?_;refine KU 68 _ gA (j*7) (A.getD j ZS) _ rfl rfl rfl (fun w' h=>by obtain ⟨m,rfl⟩:=h; exact HR2.o j HJ.o.2.1) underlying68 rfl Yb ?_;refine Q3 ?_;refine XK ?_;intro _ Jq;obtain ⟨nr2,Y9⟩:=Jq;subst Y9;go_wp2_with fail;refine (Zf2 (Hj.o.drewN nr2) ZfB.o HJ.o.1 HY.o.1 HX.o.2.2.2.2.2.1 HY.o.2.1 HY.o.2.2.1).mono ?_;rintro e W3 ⟨rfl,hm3,he3⟩;have M7:=Za (Zn hm3 he3);clear Hj HR2 ZfB hm3 he3;go_wp2_with fail;rw [rounds_succ];go_wp2_with fail;refine ⟨⟨k+1,_,by omega,by rfl,Za ⟨?_,M7.o.2⟩⟩,?_⟩
    ·rw [HPs.o]; exact M7.o.1
    ·show n -((k:Int)+1).toNat < n -((k:Int)).toNat;omega
   ·obtain rfl:k=n:=Ze;clear XV;have XV: ¬k < k:=Ze;have H7:Zl (Eg N w0 wr c a q Z { s with V:=A,mg:=s.mg.drop k} L):=Za (by
     have h1:=HE.o;rw [Yp (by rw [HX.o.2.2.1]; exact Zh _)] at h1;have e:=h1.1.done HY.o.1 HY.o.2.2.2;have h2:=h1.2;rw [e] at h2;exact (((h2.less ZO).less ZO).less HN.o).ext fun k h1 h2=>by rw [Zz Ze,Zz Ze,Zz Ze])
    exact kV
end
end
section
open Go Go.RowKit Go.Deep
theorem bC (e:Int)(i:Nat) : ∀(A:List Nat) (V:List ZN),QT e V (A++[i])=(QT e V A).set i (La e ((QT e V A).getD i ZS)).2/\X6 e V (A++[i])=X6 e V A++[⟨i,Ao e ((QT e V A).getD i ZS),true⟩]
 | [],V=>⟨rfl,rfl⟩
 | j::A,V=>by
  obtain ⟨h1,h2⟩:=bC e i A (V.set j (La e (V.getD j ZS)).2);refine ⟨?_,?_⟩
  ·rw [Yf]; exact h1
  ·rw [Yf]; show _::_=_::_++_; rw [Yf]; exact congrArg _ h2
theorem mu {e:Int}{V:List ZN}{F:List Nat}{k i:Nat}(hk:F[k]?=some i) :QT e V (F.take (k+1))=(QT e V (F.take k)).set i (La e ((QT e V (F.take k)).getD i ZS)).2/\X6 e V (F.take (k+1))=X6 e V (F.take k)++[⟨i,Ao e ((QT e V (F.take k)).getD i ZS),true⟩]:=by
 rw [Xs,hk,QL];exact bC e i _ V
theorem rW {F:List Nat}(hn:F.Nodup){k i:Nat}(hk:F[k]?=some i) : ¬i ∈ F.take k:=fun h=>by
 obtain ⟨j,hj,e⟩:=List.getElem_of_mem h;rw [Xr] at hj;obtain ⟨WH,mC⟩:=Zj.1 hk;rw [List.getElem_take] at e;exact absurd ((List.getElem_inj hn).1 (e.trans mC.symm)) Ze
theorem P8: ∀ {l:List Pm},(∀p ∈ l,0<=p.am)->0<=KN l
 | [],_=>Int.le_refl _
 | p::l,h=>by
  have h1:=P8 (l:=l) (fun x hx=>h x DD);have h2:=h p ZE;show 0<=p.am+KN l;omega
section
variable {N:Nat} {w0:Fb} {w w' w1:Zc} {c cf:Nat->Int} {a:Pl} {q:Ql} {X Z:Nat->Zc->(Nat->Prop)->Prop} {s s':Sg} {L L':List QW} {k:Nat}
theorem Eg.readsI (h:Eg N w0 w c a q Z s L){r:Nat}(UT:11<=r)(hr:r < N){b:Option Addr}{l:List Int}(hx:Z r=KA Ml 1 b l){k:Nat}{i:Int}(hk:l[k]?=some i) : ∃g off,b=some ⟨g,off,none⟩/\w.cell? ⟨g,off+k,none⟩=some (.int .i64 i):=by
 obtain ⟨X,hX,_,h,_,_,hz,_⟩:=h.open;obtain ⟨S,hp,_⟩:=h.part hr;rw [JQ Ze,hz r UT hr,hx] at hp;obtain ⟨g,off,h1,_,_,h4⟩:=hp.1 (by have:=(Zj.1 hk).1; omega);refine ⟨g,off,h1,?_⟩;have:=h4 k i hk 0 _ rfl;rwa [Nat.mul_one,Nat.add_zero] at this
structure Wh (c:Nat->Int)(s:Sg) :Prop where
 vok: ∀v ∈ s.V,Es s.ep v
 sum:Zw s.V+s.P+s.B=s.D
 p0:0<=s.P
 b0:0<=s.B
 d1:s.D<=18446744073709551615
 cap:s.D - s.P - s.B<=c 4
 c4:c 4<=18446744073709551615
 cu:s.cu<=100
 len:s.V.length<=100
theorem wN (h:Eg N w0 w c a q Z s L)(t:Tm c s)(hw:Wh c s){vs p:Int}{m0:Nat}(hm0:FY (Nd s.V) s.cu vs p=m0){F:List Nat}(hF:JM (Nd s.V) s.cu m0=F)(hn:F.Nodup)(hr: ∀i ∈ F,Vn s.V (Lg s.ep) ((i:Nat) :Int)) :
  Zv Zb 139 #[.pointer (some ⟨q.e,0,none⟩),.int .i64 vs,.int .i64 p] w fun e w'=> ∃v,e= .returned (.tuple #[v,.int .i64 (m0:Int)])/\
   Eg (N+1) w0 w' c a q (ZG Z N (YI 252 3 v F.length (YK J8 (X6 s.ep s.V F)))) { s with V:=QT s.ep s.V F,P:=s.P+KN (X6 s.ep s.V F),cu:=DJ s.V.length s.cu m0} L:=by
 have hN:=h.low;obtain ⟨m,hm⟩:=ZT (F.length);have mD:m<=100:=by
  have h1:=List.Nodup.length_le_of_subset (l₂:=List.range s.V.length) hn (fun i hi=>List.mem_range.2 (by
   obtain ⟨j,v,e,hj,_⟩:=hr i hi;have:=(Zj.1 hj).1;omega))
  rw [List.length_range] at h1; have:=hw.len; omega
 have HSw:=Za (fun n:Nat=>Zct (vs:=vs) (p:=p) h hw.cu hw.len);rw [hm0] at HSw;have hz:Kx (Nd s.V) s.cu m0=F.map fun i:Nat=>(i:Int):=by unfold Kx; rw [hF]
 rw [hz,YG,hm] at HSw;have oV:Zl (∀k,ec s.ep s.V (QT s.ep s.V (F.take k))/\Zw (QT s.ep s.V (F.take k))=Zw s.V - KN (X6 s.ep s.V (F.take k))/\(∀p ∈ X6 s.ep s.V (F.take k),0<=p.am/\p.fl=true)/\ ∀i,F[k]?=some i-> ∃u,s.V[i]?=some u/\Lg s.ep u/\(QT s.ep s.V (F.take k))[i]?=some u):=Za fun k=>by
  have hnt:(F.take k).Nodup:=hn.sublist (List.take_sublist _ _);have hrt: ∀i ∈ F.take k,Vn s.V (Lg s.ep) ((i:Nat) :Int):=fun i hi=>hr i (ZQ hi)
  obtain ⟨g1,g2,g3⟩:=LZ _ _ hw.vok hnt hrt;refine ⟨g1,g2,g3,fun i hi=>?_⟩;obtain ⟨j,u,e,hj,hu⟩:=hr i (Zy hi);obtain rfl:i=j:=Ze;exact ⟨u,hj,hu,((jH s.ep _ _ hnt hrt).2.1 i (rW hn hi)).trans hj⟩
 have HX:=Za (Zn hw (Zn t hm));have HN:=Za hN;obtain ⟨e0,bJ⟩:=ZT (DJ s.V.length s.cu m0);rw [bJ] at HSw;rw [hm,bJ];clear bJ;clear h t hw hF hn hr hN hm hz hm0;go_enter func139,ntmps139;go_wp2_with fail;refine ((HSw.o 0)).mono ?_;rintro e w2 ⟨b2,cp,rfl,h2,_⟩;have H2:=Za (h2.nil 252 3);clear h2 HSw;go_wp2_with fail;go_loopw [10,28] (fun s10 s28 wr=> ∃(k:Nat) (pa:Option Addr) (pc:Nat),k<=m/\s10= .slice pa k pc/\s28= .int .i64 k/\Zl (Eg (N+1+1) w0 wr c a q (ZG (ZG Z N (KA Ml 1 b2 (F.map fun i:Nat=>(i:Int)))) (N+1) (YI 252 3 (.slice pa k pc) k (YK J8 (X6 s.ep s.V (F.take k))))) { s with V:=QT s.ep s.V (F.take k),P:=s.P+KN (X6 s.ep s.V (F.take k)),cu:=e0} L)) (fun _ s28 _=>m -(intOf s28).toNat)
 case atStart=>exact ⟨0,none,0,by omega,rfl,rfl,Za (by
  have e:s.P+KN (X6 s.ep s.V (F.take 0))=s.P:=by simp [X6,KN]
  rw [e]; exact H2.o)⟩
 case round=>
  obtain ⟨k,pa,pc,hk,rfl,rfl,HE⟩:=hrel
  by_cases XV:k < m
  ·obtain ⟨i,hi⟩ : ∃i,F[k]?=some i:=⟨_,Zg (by rw [HX.o.2.2]; exact XV)⟩;obtain ⟨g,off,eb,hc⟩:=HE.o.readsI (r:=N) (k:=k) (i:=(i:Int)) HN.o Ze Ut (by rw [ZH,hi]; rfl);subst eb;obtain ⟨bK,bT,S8,jN⟩:=oV.o k;obtain ⟨u,hus,hru,jW⟩:=jN i hi;obtain ⟨DU,hsp⟩:=mu (e:=s.ep) (V:=s.V) hi;have hpos1:=(oV.o (k+1)).2.2.1;have BJ:(QT s.ep s.V (F.take k)).getD i ZS=u:=K8 jW;obtain ⟨f1,f2⟩:=NA hru.1 hru.2;rw [BJ,f1] at DU;rw [BJ,f2] at hsp;obtain ⟨v2,PM⟩ : ∃v2,({ u with bal:=0,st:=6} :ZN)=v2:=⟨_,rfl⟩;rw [PM] at DU;have hvu:=bK.vok u (Xi jW);have ed:=hvu.fit;have mA:=ed.bal;have HPy:Zl (∀wx,Z3 210 #[.agg (Zd u),.int .i64 s.ep] wx (.tuple #[.agg (Zd v2),.int .u64 u.bal,.int .i64 0])):=Za fun wx=>by
    have:=xY u s.ep wx ed.2 mA.1 mA.2;rw [show BT [Dy s.ep,Qj 5] u.bal u= .tuple #[.agg (Zd (La s.ep u).2),.int .u64 (Ao s.ep u),.int .i64 (La s.ep u).1] from rfl,f1,f2,PM] at this;exact this
   have MJ:=HX.o.1.sum;have h0P:=HX.o.1.p0;have h0B:=HX.o.1.b0;have xi:=HX.o.1.d1;have Uz:=HX.o.1.cap;have xh:=HX.o.1.c4;have hsp0:=P8 (fun p hp=>(S8 p hp).1);have htn:=Jz (fun v hv=>(bK.vok v hv).fit);have xk:Yh v2:=by rw [<-PM]; exact ⟨iS ZE ZE,rfl⟩
   have hv20:v2.bal=0:=by rw [<-PM]
   have htu:u.bal<=Zw (QT s.ep s.V (F.take k)):=by
    have h1:=JK jW (v:=v2);have h2:=Jz (l:=(QT s.ep s.V (F.take k)).set i v2) (fun v hv=>by
     rcases List.mem_or_eq_of_mem_set hv with h | rfl
     ·exact (bK.vok v h).fit
     ·exact xk)
    omega
   have oX:Zl (∀wx zb,Eg (N+2+1) w0 wx c a q (ZG (ZG (ZG Z N (KA Ml 1 (some ⟨g,off,none⟩) (F.map fun i:Nat=>(i:Int)))) (N+1) (YI 252 3 (.slice pa k pc) k (YK J8 (X6 s.ep s.V (F.take k))))) (N+2) (Y5 zb 68 (Zd v2))) { s with V:=QT s.ep s.V (F.take k),P:=s.P+KN (X6 s.ep s.V (F.take k)),cu:=e0} L->Zv Zb 208 #[.pointer (some ⟨q.e,21,none⟩),.int .i64 (i:Int),.agg (Zd v2),.int .u64 u.bal] wx fun e w'=>e= .returned (.tuple #[])/\Eg (N+1+1) w0 w' c a q (ZG (ZG Z N (KA Ml 1 (some ⟨g,off,none⟩) (F.map fun i:Nat=>(i:Int)))) (N+1) (YI 252 3 (.slice pa k pc) k (YK J8 (X6 s.ep s.V (F.take k))))) { s with V:=QT s.ep s.V (F.take (k+1)),P:=s.P+KN (X6 s.ep s.V (F.take (k+1))),cu:=e0} L):=Za fun wx zb hx=>by
    have:=Zf4 hx (n:=i) (v:=u) (v':=v2) (x:=u.bal) jW xk (by show Zw (QT s.ep s.V (F.take k)) - _+_<=_; omega) (by unfold Jt; simp only; omega) mA.1 FK;refine this.mono fun e w' ⟨he,h1⟩=>⟨he,?_⟩
    have h2:=h1.drop ZO;have e1:s.P+KN (X6 s.ep s.V (F.take (k+1)))=s.P+KN (X6 s.ep s.V (F.take k))+u.bal:=by
     rw [hsp,LG]; simp only [KN]; omega
    rw [e1,DU];exact h2
   have HG:Zl (Z3 126 #[.pointer (some ⟨a.r,0,none⟩),.int .i64 (i:Int)] wr (.tuple #[.agg (Zd u),.bool true])):=Za (by
    have:=HE.o.get (n:=i) (show i < (QT s.ep s.V (F.take k)).length from (Zj.1 jW).1);rw [show ({ s with V:=QT s.ep s.V (F.take k),P:=s.P+KN (X6 s.ep s.V (F.take k)),cu:=e0} :Sg).V.getD i ZS=u from BJ] at this;exact this)
   have y0:wr.cell? ⟨q.e,21,none⟩=some (.pointer (some ⟨a.r,0,none⟩)):=Eg.x21 HE.o;have HSp:=Za hsp;clear hi bK bT S8 jN hus hru jW DU hsp hpos1 BJ f1 f2 PM hvu ed mA MJ h0P h0B xi Uz xh hsp0 htn xk hv20 htu;go_wp2_with fail;refine HG.o.mono ?_;rintro e w3 ⟨rfl,hb⟩;have E3:Zl (Eg (N+2+1) w0 (w3.alloc (.cells (Zd u) 68)) c a q (ZG (ZG (ZG Z N (KA Ml 1 (some ⟨g,off,none⟩) (F.map fun i:Nat=>(i:Int)))) (N+1) (YI 252 3 (.slice pa k pc) k (YK J8 (X6 s.ep s.V (F.take k))))) (N+2) (Y5 w3.heap.size 68 (Zd u))) { s with V:=QT s.ep s.V (F.take k),P:=s.P+KN (X6 s.ep s.V (F.take k)),cu:=e0} L):=Za ((HE.o.below hb).box (Zd u) 68);clear hb HE HG y0;go_upto_region 7 with (first | (refine UP w3.heap.size (Zd u) 68 (ZA w3 _) Yb (Ys _) ?_; rw [Zr]));generalize w3.heap.size=zb at*;generalize w3.alloc (.cells (Zd u) 68)=W3 at*;go_cut [15,16] from 42 to 51 (fun s15 s16 wx=>s15= .int .u64 u.bal/\s16= .int .i64 0/\Zl (Eg (N+2+1) w0 wx c a q (ZG (ZG (ZG Z N (KA Ml 1 (some ⟨g,off,none⟩) (F.map fun i:Nat=>(i:Int)))) (N+1) (YI 252 3 (.slice pa k pc) k (YK J8 (X6 s.ep s.V (F.take k))))) (N+2) (Y5 zb 68 (Zd v2))) { s with V:=QT s.ep s.V (F.take k),P:=s.P+KN (X6 s.ep s.V (F.take k)),cu:=e0} L))
   case first=>
    have fB:Eg (N+2) w0 W3.drew c a q (ZG (ZG Z N (KA Ml 1 (some ⟨g,off,none⟩) (F.map fun i:Nat=>(i:Int)))) (N+1) (YI 252 3 (.slice pa k pc) k (YK J8 (X6 s.ep s.V (F.take k))))) { s with V:=QT s.ep s.V (F.take k),P:=s.P+KN (X6 s.ep s.V (F.take k)),cu:=e0} L:=E3.o.drew.drop ZO;refine Ra (fun w'=>Eg (N+2) w0 w' c a q (ZG (ZG Z N (KA Ml 1 (some ⟨g,off,none⟩) (F.map fun i:Nat=>(i:Int)))) (N+1) (YI 252 3 (.slice pa k pc) k (YK J8 (X6 s.ep s.V (F.take k))))) { s with V:=QT s.ep s.V (F.take k),P:=s.P+KN (X6 s.ep s.V (F.take k)),cu:=e0} L) 10 [1,2,3] (?_) ?_
    ·exact fB
    refine JL ?_;refine Pw ?_;refine DL ?_;refine XK ?_;have E4:=Za E3.o.drew;clear E3 oX;generalize W3.drew=W4 at*;refine Vh (i:=0) (k:=4) ZC ZE ZE ?_ ?_
    ·refine Yz rfl rfl (wp_load_row 68 _ rfl zb rfl 68 (Zd u) (0,0) _ (E4.o.blkAt (r:=N+2) ZO Ze Zq) underlying68 rfl Yb ?_);refine ⟨fB,?_⟩;refine Q3 ?_;refine Jg (i:=4) ?_;refine JC #[.pointer (some ⟨q.e,20,none⟩)] call42 ((GG (s:= { s with V:=QT s.ep s.V (F.take k),P:=s.P+KN (X6 s.ep s.V (F.take k)),cu:=e0}) E4.o HX.o.2.1.b0 HX.o.2.1.b1 HX.o.2.1.l HX.o.2.1.q).mono ?_);rintro e w5 ⟨rfl,m1,rfl⟩;have E5:=Za (E4.o.drewN m1);have wU:=fB.drewN m1;refine ⟨_,rfl,wU,?_⟩;clear E4 fB;generalize W4.drewN m1=W5 at*;exact zT7
    ·refine JC #[.pointer (some ⟨q.e,20,none⟩)] call42 ((GG (s:= { s with V:=QT s.ep s.V (F.take k),P:=s.P+KN (X6 s.ep s.V (F.take k)),cu:=e0}) E4.o HX.o.2.1.b0 HX.o.2.1.b1 HX.o.2.1.l HX.o.2.1.q).mono ?_);rintro e w5 ⟨rfl,m1,rfl⟩;have E5:=Za (E4.o.drewN m1);have wU:=fB.drewN m1;refine ⟨_,rfl,wU,?_⟩;clear E4 fB;generalize W4.drewN m1=W5 at*;refine Q3 ?_;refine Jg (i:=0) ?_;refine Yz rfl rfl (wp_load_row 68 _ rfl zb rfl 68 (Zd u) (0,0) _ (E5.o.blkAt (r:=N+2) ZO Ze Zq) underlying68 rfl Yb ?_);refine ⟨wU,?_⟩;exact zT7
   case rest=>
    obtain ⟨rfl,rfl,E7⟩:=hcut;clear E3 HPy;generalize wc=W7 at*;go_wp2_with fail;have HB7:=Za (E7.o.blkAt (r:=N+2) ZO Ze Zq);refine GL 6 ?_;refine GM ?_;refine Bi ?_;refine Zhn ?_;refine X5 ?_;refine Gz ?_;refine XK ?_;intro _ Jq;obtain ⟨nr,Y9⟩:=Jq;subst Y9;have ll:=Za (oX.o _ _ (E7.o.drewN nr));clear E7 oX HB7;generalize W7.drewN nr=W8 at*;go_wp2_with fail;refine ll.o.mono ?_;rintro e w9 ⟨rfl,h9⟩;have H9:=Za h9;clear h9 ll;obtain ⟨j0,fF,BK,Rt,qR⟩:=ju;go_wp2_with (first | (refine F6 rfl 252 _ rfl ⟨(i:Int),u.bal,true⟩ ZC ?_) | (refine Oh rfl _ ⟨(i:Int),u.bal,true⟩ rfl rfl ?_) | (at_builtin; refine Eg.grow H9.o (r:=N+1) ZO (Nat.lt_succ_self _) Zq rfl _ _ 51 rfl j0 _ 24 underlying51 fF BK Rt qR (Fi _) YW rfl 1 (JP ⟨(i:Int),u.bal,true⟩) 252 _ rfl rfl rfl ?c1 ?c2 ?c3 ?_))
    case c1=>exact Py.row_one _
    case c2=>unfold maxLen; omega
    case c3=>omega
    intro v' w10 PK _;obtain ⟨a2,c2,rfl⟩:=Xy (PK.row (r:=N+1) ZO (Nat.lt_succ_self _) Zq);rw [Xx] at PK;have e10:YK J8 (X6 s.ep s.V (F.take k))++(JP ⟨(i:Int),u.bal,true⟩).toList=YK J8 (X6 s.ep s.V (F.take (k+1))):=by
     rw [HSp.o,Uy,LY]; rfl
    rw [e10] at PK;have H10:=Za PK;clear PK e10 H9 HSp;go_wp2_with fail;go_roundw
    case rel=>exact ⟨k+1,a2,c2,by omega,rfl,by go_num,H10⟩
    case measure=>exact VL
  ·obtain rfl:k=m:=Ze;clear XV;have XV: ¬k < k:=Ze;have H7:=HE.o;rw [Yp (by rw [HX.o.2.2]; exact Zh _)] at H7;have H8:Zl (Eg (N+1) w0 wr c a q (ZG Z N (YI 252 3 (.slice pa k pc) k (YK J8 (X6 s.ep s.V F)))) { s with V:=QT s.ep s.V F,P:=s.P+KN (X6 s.ep s.V F),cu:=e0} L):=Za (Eg.pick (m:=1) H7 HN.o (fun k h1 h2=>by rw [Zz Ze,Zz Ze]) Zq);clear HE H7;go_wp2_with fail;go_ret2;exact ⟨_,rfl,H8.o⟩
end
end
section
open Go Go.RowKit Go.Deep
theorem lB {V:List ZN}(h: ∀v ∈ V,Yh v) :Mi (QN V):=fun j=>by
 unfold QN;rw [Zm,ZH]
 cases hj:V[j]? with
 | none=>simp
 | some v=>exact (h v (Xi hj)).bal
theorem IK (V:List ZN) :iO V<=V.length:=List.countP_le_length
theorem yS (om:Int->Int)(F W:List Int)(B x:Int) :(EP om F W B x).1.length<=F.length+W.length:=by
 have:=jw om F W (gr B x);show (DQ om F W (gr B x)).1.length<=_;omega
theorem wD {e:Int}{V:List ZN}{L:List QW}{t:Int}(h:XI e V L) :KS t L=((KS t L).map Int.toNat).map WI/\((KS t L).map Int.toNat).Nodup/\ ∀i ∈ (KS t L).map Int.toNat,i < V.length:=by
 have hm: ∀i ∈ KS t L,∃n:Nat,i=(n:Int)/\n < V.length:=fun i hi=>by
  obtain ⟨m,u,e1,hu,_⟩:=(h.ub i).1 (Z6.2 ⟨_,Dr.1 hi,rfl⟩);exact ⟨m,e1,(Zj.1 hu).1⟩
 refine ⟨?_,?_,fun i hi=>?_⟩
 ·rw [KF];refine (List.map_id _).symm.trans (UL fun i hi=>?_);obtain ⟨n,rfl,_⟩:=hm i hi;rfl
 ·refine List.pairwise_map.2 (List.Pairwise.imp_of_mem (fun {i j} hi hj Ka e=>?_) (MF h.nd));obtain ⟨n,rfl,_⟩:=hm i hi;obtain ⟨m,rfl,_⟩:=hm j hj;exact Ka (by rw [show n=m by simpa using e])
 ·obtain ⟨j,hj,rfl⟩:=Z6.1 hi;obtain ⟨n,rfl,hn⟩:=hm j hj;exact hn
def zO (s:Sg) :Sg:= { XF s with V:=s.V.map (Yt (s.ep+1))}
def oJ (s:Sg) :Sg:= { XF s with V:=Bf (XF s)}
def vV (s:Sg)(L:List QW) :List QW:=Ls (s.ep+1) (s.V.map (Yt (s.ep+1))) L
def b3S (c:Nat->Int)(s:Sg) :Sg:= { zN (oJ s) (LW c (XF s)) with V:=Wr c (XF s)}
def b4S (c:Nat->Int)(s:Sg) :Sg:= { b3S c s with pd:=s.pd.drop (PC c (XF s))}
def b5S (c:Nat->Int)(s:Sg) :Sg:= { b4S c s with V:=lG c (XF s)}
section
variable {N:Nat} {w0:Fb} {w w' w1:Zc} {c cf:Nat->Int} {a:Pl} {q:Ql} {X Z:Nat->Zc->(Nat->Prop)->Prop} {s s':Sg} {L L':List QW} {k:Nat}
theorem Eg.activate (h:Eg N w0 w c a q Z s L){r:Nat}(UT:11<=r)(hr:r < N){wv:Zk}{U:List Int}{nu:Nat}{lim:Int}(vg:Z r=YI 23 1 wv nu (U.map (ZI .u64)))(hl:U.length<=9223372036854775807)(hA:Mi U)(ZcP:BH lim) :
  Zv Zb 204 #[.pointer (some ⟨a.p,0,none⟩),.int .u64 lim,wv] w fun e w'=> ∃v,e= .returned v/\
   Eg (N+1) w0 w' c a q (ZG Z N (YI 3 1 v (FP lim (s.pd.map (Ks U))) ((s.pd.take (FP lim (s.pd.map (Ks U)))).map (ZI .i64)))) { s with pd:=s.pd.drop (FP lim (s.pd.map (Ks U)))} L:=by
 obtain ⟨X,hX,VV,hh,_,hK,hz,_⟩:=h.open;refine (hh.activate hX VV (r:=r) Ze hr (hz r UT hr |>.trans vg) hl hA ZcP).mono fun e w' ⟨v,he,g1,_⟩=>⟨v,he,?_⟩
 exact hK _ _ _ _ g1 Q5 rfl rfl
theorem Eg.active (h:Eg N w0 w c a q Z s L) :YV 44 #[.pointer (some ⟨a.r,0,none⟩)] w (.int .u64 (Ye s.V)):=by
 obtain ⟨X,hX,VV,hh,_⟩:=h.open;exact hh.active VV
theorem lX (hc:GE c)(hq8:c 8<=18446744073709551615)(hi:Inv c k s)(hk:k<=1000000)(hr:XI s.ep s.V L)(Zgy:(s.bk+1)%c 13=0)(q9:Cm s.V s.mg)(h:Eg N w0 w c a q Z (XF s) L) :
  Zv Zb 137 #[.pointer (some ⟨q.e,0,none⟩)] w fun e w'=> ∃v,e= .returned v/\
   Eg (N+1) w0 w' c a q (ZG Z N (YI 280 3 v (Cu c (XF s)).length (YK Qw (Cu c (XF s))))) (zR c (XF s)) (uU c (XF s) L):=by
 have hN:=h.low;have b:=py hc hi hk;have ep0:=hi.ep0;have ep1:=hi.ep1;have bk1:=hi.bk1;have bk0:=hi.bk0;have hV:=hi.len;have Uz:=hc.g.cap1;have bT:=hi.total hc;have t:Tm c (XF s):=⟨by show 0<=s.bk+1; omega,by show s.bk+1<=_; omega,hc.g.len0,by show s.ep+1=(s.bk+1)/c 13; rw [fh hc.g.len0,if_pos Zgy,hi.epq]⟩;have hlv: ∀v ∈ s.V,Es s.ep v:=hi.vok;have rl:=ka hi.vok ep0 hr;have ZgK:=ZdZ hi.vok ep0 hr;have jX:(Bf (XF s)).length=s.V.length:=b.l1;have qP:=GV (fun v hv=>(b.v1 v hv).fit);have htv:Zw (Bf (XF s))=Zw s.V:=by rw [Ur,b.b1,<-Ur]
 have hta:Zw (lG c (XF s))=Zw s.V:=by rw [Ur,b.b3,<-Ur]
 have htA:Zw (Wr c (XF s))=Zw s.V:=by rw [Ur,b.b2,<-Ur]
 have CM:L.length<=s.V.length:=by rw [hr.len]; exact IK _
 have hLb:(Ls (s.ep+1) (s.V.map (Yt (s.ep+1))) L).length<=s.V.length:=by rw [rl.len]; exact ZY (IK _) (by rw [<-jX]; exact Zh _)
 have hlf: ∀v ∈ s.V.map (Yt (s.ep+1)),Yh v/\v.wd<=1099511627776:=fun v hv=>by
  obtain ⟨u,hu,rfl⟩:=Z6.1 hv;refine ⟨?_,by rw [Dq]; exact (hi.vok u hu).w⟩;unfold Yt
  split
  ·exact ⟨(hi.vok u hu).fit.1,rfl⟩
  ·exact (hi.vok u hu).fit
 have jV:Zw (s.V.map (Yt (s.ep+1)))=Zw s.V:=A6 fun v _=>by unfold Yt; split <;> rfl
 have z6:Mi (QN (Bf (XF s))):=lB fun v hv=>(b.v1 v hv).fit
 have NC:(QN (Bf (XF s))).length=s.V.length:=by rw [<-jX]; simp [QN]
 have hX0:1<=OG c (XF s):=Sm hc;have hX1:OG c (XF s)<=18446744073709551615:=by
  have:=hc.g.chu1;have q8:=hc.q8;unfold OG Ea;have:Ye (Bf (XF s))/c 8<=Ye (Bf (XF s)):=Int.ediv_le_self _ qP.1;exact Cf
 have hRl:(LW c (XF s)).1.length<=s.F.length+s.W.length:=yS _ _ _ _ _;have hfl:=hi.fl;have hwl:=hi.wl;have hpl:=hi.pdl;have oO:=hi.mgl;have oQ:=hc.q1;have hwb:wV (Bf (XF s))=wV (Wr c (XF s)):=by unfold wV; rw [b.b1,b.b2]
 have H1:Zl (∀wx,Eg N w0 wx c a q Z (XF s) L->Zv Zb 198 #[.pointer (some ⟨q.e,0,none⟩)] wx fun e w'=>e= .returned (.tuple #[])/\Eg N w0 w' c a q Z (zO s) L):=Za fun wx hx=>
  Zcm hx t hi.fits (show Zw s.V<=_ by omega) (show s.V.length<=4096 by omega)
 have H2:Zl (∀wx,Eg N w0 wx c a q Z (zO s) L->Zv Zb 199 #[.pointer (some ⟨q.e,0,none⟩)] wx fun e w'=>e= .returned (.tuple #[])/\Eg N w0 w' c a q Z (oJ s) (vV s L)):=Za fun wx hx=>by
  obtain ⟨d1,d2,d3⟩:=wD (t:=s.ep+1) hr;have:=Zj5 (s:=zO s) hx ⟨t.b0,t.b1,t.l,t.q⟩ d1 d2 (fun i hi=>by show i < (s.V.map (Yt (s.ep+1))).length; rw [YG]; exact d3 i hi) (by show s.ep+1<=_; omega) (by show 0<=s.ep+1; omega) (fun v hv=>(hlf v hv).2) Ze (fun v hv=>(hlf v hv).1) (by show Zw (s.V.map (Yt (s.ep+1)))<=_; omega) (by show (s.V.map (Yt (s.ep+1))).length<=_; rw [YG]; omega);refine this.mono fun e w' ⟨he,h1⟩=>⟨he,?_⟩
  have e1:oJ s= { zO s with V:=Pa (zO s).ep (zO s).V (KS (zO s).ep L)}:=by
   show oJ s= { zO s with V:=Pa (s.ep+1) (s.V.map (Yt (s.ep+1))) (KS (s.ep+1) L)};rw [ZgK]; rfl
  rw [e1];exact h1
 have H3:Zl (∀wx,Eg N w0 wx c a q Z (oJ s) (vV s L)->YV 44 #[.pointer (some ⟨a.r,0,none⟩)] wx (.int .u64 (Ye (Bf (XF s))))):=Za fun wx hx=>hx.active
 have H4:Zl (∀wx,YV 200 #[.int .u64 (Ye (Bf (XF s))),.int .u64 (c 7),.int .u64 (c 8)] wx (.int .u64 (OG c (XF s)))):=Za fun wx=>lQ _ _ _ wx qP.1 Ze (by have:=hc.q8; omega) hq8
 have H5:Zl (∀wx,Eg N w0 wx c a q Z (oJ s) (vV s L)->Zv Zb 201 #[.pointer (some ⟨q.e,21,none⟩)] wx fun e w'=> ∃v,e= .returned v/\Eg (N+1) w0 w' c a q (ZG Z N (YI 23 1 v s.V.length ((QN (Bf (XF s))).map Ej))) (oJ s) (vV s L)):=Za fun wx hx=>by
  have:=zT hx (by show (Bf (XF s)).length<=_; omega);refine this.mono fun e w' ⟨v,he,h1,_⟩=>⟨v,he,?_⟩
  rw [show (oJ s).V.length=s.V.length from jX] at h1;exact h1
 have H6:Zl (∀wx wv,Eg (N+1) w0 wx c a q (ZG Z N (YI 23 1 wv s.V.length ((QN (Bf (XF s))).map Ej))) (oJ s) (vV s L)->Zv Zb 202 #[.pointer (some ⟨q.e,0,none⟩),.int .u64 (OG c (XF s)),wv] wx fun e w'=> ∃v,e= .returned v/\Eg (N+1+1) w0 w' c a q (ZG (ZG Z N (YI 23 1 wv s.V.length ((QN (Bf (XF s))).map Ej))) (N+1) (YI 280 3 v (Cu c (XF s)).length (YK Qw (Cu c (XF s))))) (b3S c s) (uU c (XF s) L)):=Za fun wx wv hx=>by
  have:=wH (s:=oJ s) hx ⟨t.b0,t.b1,t.l,t.q⟩ (r:=N) hN Ze Zq Ze z6 (x:=OG c (XF s)) Ze (by show 0<=s.ep+1; omega) (by show s.ep+1<=_; omega) (R:=LW c (XF s)) rfl b.nd b.qd b.lo hc.gc (fun v hv=>(b.v1 v hv).fit) (fun v hv=>(b.v1 v hv).w) (by show Zw (Bf (XF s))<=_; omega) (by show (vV s L).length+_<=_; unfold vV; omega);refine this.mono fun e w' ⟨v,he,h1⟩=>⟨v,he,?_⟩
  have e1:(Cu c (XF s)).length=(LW c (XF s)).1.length:=by unfold Cu; rw [YG]
  rw [e1];exact h1
 have H7:Zl (∀wx wv va,Eg (N+1+1) w0 wx c a q (ZG (ZG Z N (YI 23 1 wv s.V.length ((QN (Bf (XF s))).map Ej))) (N+1) (YI 280 3 va (Cu c (XF s)).length (YK Qw (Cu c (XF s))))) (b3S c s) (uU c (XF s) L)->Zv Zb 204 #[.pointer (some ⟨a.p,0,none⟩),.int .u64 (OG c (XF s)),wv] wx fun e w'=> ∃v,e= .returned v/\
   Eg (N+1+1+1) w0 w' c a q (ZG (ZG (ZG Z N (YI 23 1 wv s.V.length ((QN (Bf (XF s))).map Ej))) (N+1) (YI 280 3 va (Cu c (XF s)).length (YK Qw (Cu c (XF s))))) (N+1+1) (YI 3 1 v (s.pd.take (PC c (XF s))).length ((s.pd.take (PC c (XF s))).map (ZI .i64)))) (b4S c s) (uU c (XF s) L)):=Za fun wx wv va hx=>by
  have:=Eg.activate (s:=b3S c s) hx (r:=N) (wv:=wv) (nu:=s.V.length) (U:=QN (Bf (XF s))) hN Ze (by rw [Zz Ze,Zq]; rfl) Ze z6 (lim:=OG c (XF s)) ⟨by omega,hX1⟩;refine this.mono fun e w' ⟨v,he,h1⟩=>⟨v,he,?_⟩
  have e1:FP (OG c (XF s)) ((b3S c s).pd.map (Ks (QN (Bf (XF s)))))=PC c (XF s):=by
   show FP (OG c (XF s)) (s.pd.map (wV (Bf (XF s))))=FP (OG c (XF s)) (s.pd.map (wV (Wr c (XF s))));rw [hwb]
  rw [e1] at h1;have e2:(s.pd.take (PC c (XF s))).length=PC c (XF s):=by
   rw [Xr];have:=Ct (lim:=OG c (XF s)) (s.pd.map (wV (Wr c (XF s))));rw [YG] at this;exact Nat.min_eq_left this
  rw [e2];exact h1
 have H8:Zl (∀wx wv va v,Eg (N+1+1+1) w0 wx c a q (ZG (ZG (ZG Z N (YI 23 1 wv s.V.length ((QN (Bf (XF s))).map Ej))) (N+1) (YI 280 3 va (Cu c (XF s)).length (YK Qw (Cu c (XF s))))) (N+1+1) (YI 3 1 v (s.pd.take (PC c (XF s))).length ((s.pd.take (PC c (XF s))).map (ZI .i64)))) (b4S c s) (uU c (XF s) L)->Zv Zb 203 #[.pointer (some ⟨q.e,21,none⟩),.int .i64 1,v] wx fun e w'=>e= .returned (.tuple #[])/\
   Eg (N+1) w0 w' c a q (ZG Z N (YI 280 3 va (Cu c (XF s)).length (YK Qw (Cu c (XF s))))) (b5S c s) (uU c (XF s) L)):=Za fun wx wv va v hx=>by
  have:=zV (s:=b4S c s) hx (r:=N+1+1) Ze Ze Zq (ev:=1) rfl (fun i hi=>by
   obtain ⟨m,u,e1,hu,_⟩:=b.pd i (ZQ hi);exact ⟨m,e1,(Zj.1 hu).1⟩) (fun v hv=>(b.v2 v hv).fit) (by show Zw (Wr c (XF s))<=_; omega) FN
  refine this.mono fun e w' ⟨he,h1⟩=>⟨he,?_⟩
  exact Eg.pick (m:=1) (h1.less Ze) hN (fun k h1 h2=>by rw [Zz Ze,Zz Ze,Zz Ze]) Ut
 have H9:Zl (∀wx va,Eg (N+1) w0 wx c a q (ZG Z N (YI 280 3 va (Cu c (XF s)).length (YK Qw (Cu c (XF s))))) (b5S c s) (uU c (XF s) L)->Zv Zb 205 #[.pointer (some ⟨q.e,0,none⟩)] wx fun e w'=>e= .returned (.tuple #[])/\Eg (N+1) w0 w' c a q (ZG Z N (YI 280 3 va (Cu c (XF s)).length (YK Qw (Cu c (XF s))))) (zR c (XF s)) (uU c (XF s) L)):=Za fun wx va hx=>
  wI (s:=b5S c s) hc hx (fun v hv=>(b.v3 v hv).fit) (by show Zw (lG c (XF s))<=_; omega) (by show (lG c (XF s)).length<=_; rw [b.l3]; omega) (by show s.mg.length<=_; omega) (fun p hp=>by
   obtain ⟨i,j,e1,h1,h2⟩:=q9 p hp;exact ⟨i,j,e1,by show i < (lG c (XF s)).length; rw [b.l3]; exact h1,by show j < (lG c (XF s)).length; rw [b.l3]; exact h2⟩)
 have HH:=Za h;have HN:=Za hN;obtain ⟨x,hx⟩:=ZT (OG c (XF s));obtain ⟨ac,mz⟩:=ZT (Ye (Bf (XF s)));rw [hx] at H4 H6 H7;rw [mz] at H3 H4;clear h hc hq8 hi hk hr Zgy q9 hN b ep0 ep1 bk1 bk0 hV Uz bT t rl ZgK jX qP htv hta htA CM hLb hlf jV z6 NC hX0 hX1 hRl hfl hwl hpl oO oQ hwb hx mz;go_enter func137,ntmps137;go_wp2_with fail;refine (H1.o _ HH.o).mono ?_;rintro e w1 ⟨rfl,h1⟩;have E1:=Za h1;clear h1 HH H1;go_wp2_with fail;refine (H2.o _ E1.o).mono ?_;rintro e w2 ⟨rfl,h2⟩;have E2:=Za h2;clear h2 E1 H2;go_wp2_with fail;refine Ra (fun w'=>Eg N w0 w' c a q Z (oJ s) (vV s L)) 3 [0,1,2,3,4,6,7,8,9,10,11,12,13,14,15] (?_) ?_
 ·exact E2.o.drew
 refine JL ?_;show ZZ _ _ _ _ [_,_,_,_,_,_,_,_,_,_,_,_,_,_,_] _;refine Bi ?_;refine tF ?_;refine X5 ?_;refine Bi ?_;refine Vk _ ⟨q.e,7,none⟩ (.int .u64 (c 7)) (fun w h=>(Eg.blk h).cell 7) ?_;refine X5 ?_;refine Bi ?_;refine Vk _ ⟨q.e,8,none⟩ (.int .u64 (c 8)) (fun w h=>(Eg.blk h).cell 8) ?_;refine X5 ?_;refine XK ?_;have E3:=Za E2.o.drew;clear E2;generalize w2.drew=W3 at*;refine DM ?_;refine JC #[.pointer (some ⟨a.r,0,none⟩)] call44 ((H3.o _ E3.o).mono ?_);rintro e w4 ⟨rfl,rfl⟩;refine ⟨_,rfl,E3.o,?_⟩;refine Jg (i:=16) ?_;refine Q3 ?_;refine JC #[.int .u64 ac,.int .u64 (c 7),.int .u64 (c 8)] call200 ((H4.o _).mono ?_);rintro e w4 ⟨rfl,rfl⟩;refine ⟨_,rfl,E3.o,?_⟩;refine Q3 ?_;refine Mj (fun w'=>Eg N w0 w' c a q Z (oJ s) (vV s L)) (m:=1) (f:=0) [17] (?_) ?_
 ·exact E3.o
 refine JL ?_;refine Hf ?_;refine Gz ?_;refine XK ?_;clear H3 H4;refine ⟨by kernel_rfl,Yu ?_⟩;refine Q3 ?_;go_wp2_with fail;refine (H5.o _ E3.o).mono ?_;rintro e w5 ⟨wv,rfl,h5⟩;have E5:=Za h5;clear h5 E3 H5;go_wp2_with fail;refine (H6.o _ _ E5.o).mono ?_;rintro e w6 ⟨va,rfl,h6⟩;have E6:=Za h6;clear h6 E5 H6;go_wp2_with fail;have hB6:=E6.o.drew.blk;refine Ra (fun w'=>Zu w' q.e 102 (Uh c a q)) 2 [0,1,2,3,4,5,6,7,8,9] (?_) ?_
 ·exact hB6
 refine JL ?_;refine jk ?_;refine I1 ?_;refine Vk _ ⟨q.e,27,none⟩ (.pointer (some ⟨a.p,0,none⟩)) (fun w h=>h.cell 27) ?_;refine X5 ?_;refine B9 ?_;refine XK ?_;clear hB6;have E7:=Za E6.o.drew;clear E6;generalize w6.drew=W7 at*;refine Jg (i:=10) ?_;refine JC #[.pointer (some ⟨a.p,0,none⟩),.int .u64 x,wv] call204 ((H7.o _ _ _ E7.o).mono ?_);rintro e w8 ⟨v8,rfl,h8⟩;have E8:=Za h8;refine ⟨_,rfl,h8.blk,?_⟩;clear h8 E7 H7;refine Q3 ?_;refine Jg (i:=11) ?_;refine Q3 ?_;refine JC #[.pointer (some ⟨q.e,21,none⟩),.int .i64 1,v8] call203 ((H8.o _ _ _ _ E8.o).mono ?_);rintro e w9 ⟨rfl,h9⟩;have E9:=Za h9;refine ⟨_,rfl,h9.blk,?_⟩;clear h9 E8 H8;refine ⟨by kernel_rfl,Yu ?_⟩;refine Q3 ?_;go_wp2_with fail;refine (H9.o _ _ E9.o).mono ?_;rintro e w10 ⟨rfl,PK⟩;have E10:=Za PK;clear PK E9 H9;go_wp2_with fail;go_ret;exact ⟨_,rfl,E10.o⟩
end
end
end Go.Proofs.YtobgbcdgffgdhaaGreat
