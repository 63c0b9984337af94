/- Part 26 of 29: Asn Mix Prt Mer Who PV. -/
import Derived.Test.YtianiiijaopdpaaGreatZy00
import Derived.Test.YtianiiijaopdpaaGreatZy25
namespace Go.Proofs.YtianiiijaopdpaaGreat
set_option linter.unusedVariables false
set_option linter.unusedSimpArgs false
set_option maxRecDepth 100000
set_option maxHeartbeats 8000000
open _root_.And renaming intro → Zh
open _root_.Array renaming getElem?_eq_some_iff → Yu
open _root_.Go.Proofs.YtianiiijaopdpaaGreat.As renaming row → Qf
open _root_.Go.RowKit renaming Below → Zs
open _root_.Go.RowKit.Below renaming refl → Zp
open _root_.Go renaming Calls → Zj, Value → Zl, World → Zc, heap_alloc_new → ZG, rounds_succ → YT, wpList_load_mid → Jt, wpList_store_row → Zo, wpQuiet → ZW, wp_store_row → X9
open _root_.Go.Proofs.YtianiiijaopdpaaGreat.Eg renaming blkAt → VZ
open _root_.Go.Instr renaming index → Xi
open _root_.Go.Lib renaming hid → Za
open _root_.List renaming cons_append → Yh, getD_eq_getElem?_getD → Zq, getElem?_eq_getElem → Zf, getElem?_eq_some_iff → Zi, getElem?_map → ZP, getElem_mem → KD, length_cons → Yp, length_map → YE, length_take → Xl, map_congr_left → Gb, map_map → VP, mem_flatMap → UK, mem_map → Yk, mem_of_getElem? → ZB, mem_of_mem_take → ZK, take_add_one → YR, take_of_length_le → Yv
open _root_.Nat renaming le_refl → Zg, le_trans → Z9, zero_add → ZX
open _root_.Go.NoPanic renaming normal → Yr
open _root_.Option renaming toList_some → Qt
open _root_.Go.Proofs.YtianiiijaopdpaaGreat.Pm renaming row → Jb
open _root_.Go.Proofs.YtianiiijaopdpaaGreat.Py renaming row → VS
open _root_.Go.Proofs.Tryz renaming call54 → Ke, prog → Zb, underlying24 → ZC, underlying63 → Zr, underlying73 → XW
open _root_.Go.Value renaming int → ZR, ownBlock → Y4
open _root_.Go.World renaming setRow_alloc_new → Zu
theorem Zfy {G H:Prop} (k:H) (h:BZ H→G:=by
  intro zk;refine YJ _ _ ⟨q.e,21,none⟩ (.pointer (some ⟨a.r,0,none⟩)) rfl rfl rfl (fun w h=>by simp [go_sem,h]) (fun w h=>h.cell 21) ?_;exact zk.out) :G:=h ⟨k⟩
theorem ZfA {G H:Prop} (k:H) (h:BZ H→G:=by
  intro zk;refine Jw 63 _ zb 63 (Zd v2) _ rfl rfl rfl (fun w' h=>by obtain ⟨m,rfl⟩:=h; exact HB7.out) Tryz.underlying63 rfl Ym ?_;exact zk.out) :G:=h ⟨k⟩
theorem zT6 {G:Prop} (h:G:=by
  refine JG ?_;refine EE ?_;refine JZ #[.agg (Zd u),.int .i64 s.ep] Tryz.call221 ((HPy.out _).mono ?_);rintro e w6 ⟨rfl,hb6⟩;have E6:=Lib.hid (E5.out.below hb6);have hD6:Eg (N+2) w0 w6 c a q (ZD (ZD Z N (Kt L6 1 (some ⟨g,off,none⟩) (F.map fun i:Nat=>(i:Int)))) (N+1) (YK 61 3 (.slice pa k pc) k (Yl Pm.row (Qi s.ep s.V (F.take k))))) { s with V:=Jl s.ep s.V (F.take k),P:=s.P+Vk (Qi s.ep s.V (F.take k)),cu:=e0} L:=E6.out.drop ZJ;refine ⟨_,rfl,hD6,?_⟩;clear E5 hb6 HPy uZ;refine JG ?_;refine FX (fun w'=>Eg (N+2) w0 w' c a q (ZD (ZD Z N (Kt L6 1 (some ⟨g,off,none⟩) (F.map fun i:Nat=>(i:Int)))) (N+1) (YK 61 3 (.slice pa k pc) k (Yl Pm.row (Qi s.ep s.V (F.take k))))) { s with V:=Jl s.ep s.V (F.take k),P:=s.P+Vk (Qi s.ep s.V (F.take k)),cu:=e0} L) (m:=7) (f:=3) [6,7,8,9] (?_) ?_
  ·exact hD6
  refine Kg ?_;refine Ma ?_;refine BN ?_;refine Qc ?_;refine hfO (i:=10) ?_;have hB:=E6.out.blkAt (r:=N+2) ZJ Ze xput_same;refine YD rfl rfl (wp_store_row _ _ _ rfl zb (Zd v2) rfl rfl 63 _ hB Ym rfl (Yx _) ?_);have h7:=E6.out.setr (r:=N+2) ZJ Ze xput_same (cs':=Zd v2) (Blk.setRow hB _) (Kept.setRow (S:=fun i=>i=zb) (Kept.refl _ _) (.inl rfl) _);rw [Xk] at h7;have E7:=Lib.hid h7;have hD7:=h7.drop ZJ;refine ⟨hD7,?_⟩;clear E6 hD6 hB h7;generalize w6.setRow zb (Zd v2)=W7 at*;refine JG ?_;refine FX (fun w'=>Eg (N+2) w0 w' c a q (ZD (ZD Z N (Kt L6 1 (some ⟨g,off,none⟩) (F.map fun i:Nat=>(i:Int)))) (N+1) (YK 61 3 (.slice pa k pc) k (Yl Pm.row (Qi s.ep s.V (F.take k))))) { s with V:=Jl s.ep s.V (F.take k),P:=s.P+Vk (Qi s.ep s.V (F.take k)),cu:=e0} L) (m:=2) (f:=0) [11,12] (?_) ?_
  ·exact hD7
  refine Kg ?_;show wpQuiet _ _ _ _ [_,_] _;refine BL ?_;refine Qc ?_;clear hD7;refine ⟨by kernel_rfl,NoPanic.normal ?_⟩;refine JG ?_;go_wp2_with fail;go_meet;exact ⟨rfl,rfl,E7⟩) :G:=h
theorem ZfE {G:Prop} (h:G:=by
  refine JG ?_;refine FX (fun w'=>Eg (N+2) w0 w' c a q (ZD (ZD Z N (YK 71 3 (.slice (some ⟨g,0,none⟩) m cp) m (Yl As.row (l.map (asA (s.ep+1)))))) (N+1) (YW za 71 (Qm (asA (s.ep+1) p)))) sk Lk) (m:=1) (f:=0) [13] (?_) ?_
  ·exact h4
  refine Kg ?_;refine FV ?_;refine GN ?_;refine Qc ?_;refine ⟨by kernel_rfl,NoPanic.normal ?_⟩;refine JG ?_;go_wp2_with fail;go_meet;exact ⟨_,rfl,rfl,Lib.hid h3⟩) :G:=h
theorem jE {G:Prop} (h:G:=by
  have:=HX.out.2.2.2.2.2.2.1;omega) :G:=h
section
open Go Go.RowKit Go.Deep
def sM (c:Nat→Int)(e:Int)(v:Yd) :Yd:=(QA [XN e,Q9 e (c 10)] v).2
def vG (p:Int × Int) :Nat:=p.1.toNat
theorem RG (c:Nat→Int)(e:Int) : ∀(l:List (Int × Int)) (V:List Yd),DL c e V l=Hf (sM c e) V (l.map vG)
 | [],_=>rfl
 | p::l,V=>RG c e l _
theorem RF (c:Nat→Int)(e:Int) : ∀(A B:List (Int × Int)) (V:List Yd),EJ c e V (A++B)=EJ c e V A++EJ c e (DL c e V A) B
 | [],_,_=>rfl
 | p::A,B,V=>by rw [Yh,EJ,EJ,DL,RF c e A B,Yh]
theorem nI {c:Nat→Int}{e:Int}{V:List Yd}{l:List (Int × Int)}{k:Nat}{p:Int × Int}(hk:l[k]?=some p) :EJ c e V (l.take (k+1))=EJ c e V (l.take k)++[((sM c e (Ub (DL c e V (l.take k)) p.1)).wd,p.1)]:=by
 rw [YR,hk,Qt,RF]; rfl
theorem gU (c:Nat→Int)(e:Int) : ∀(l:List (Int × Int)) (V:List Yd),(EJ c e V l).length=l.length
 | [],_=>rfl
 | p::l,V=>by rw [EJ,Yp,gU c e l,Yp]
theorem WI {f:Yd→Yd}{V:List Yd}{F:List Nat}(hv: ∀v ∈ V,Yo v)(hn:F.Nodup)(hF: ∀i ∈ F,i < V.length)(hf: ∀i ∈ F,Yo (f (V.getD i ZZ))∧(f (V.getD i ZZ)).bal=(V.getD i ZZ).bal) : ∀k,Fl V (Hf f V (F.take k))
 | 0=>Fl.refl hv
 | k+1=>by
  have ih:=WI hv hn hF hf k
  cases hk:F[k]? with
  | none=>
   have h1:=List.getElem?_eq_none_iff.1 hk;have h2:F.take (k+1)=F.take k:=by rw [Yv Ze,Yv Ze]
   rw [h2]; exact ih
  | some i=>
   have hm:=ZB hk;have hi:i < (Hf f V (F.take k)).length:=by rw [ih.1]; exact hF i hm
   have hx:(Hf f V (F.take k))[i]?=some ((Hf f V (F.take k)).getD i ZZ):=by rw [Zq,Zf hi]; rfl
   rw [Nd hk];have WV:=Nc (f:=f) hn hF hk;exact ih.set hx (by rw [WV]; exact (hf i hm).2) (by rw [WV]; exact (hf i hm).1)
def asA (e:Int)(p:Int × Int) :As:=⟨p.1,p.2,e⟩
theorem lS (e:Int)(l:List (Int × Int)) :PO e l=Yl Qf (l.map (asA e)):=by
 unfold PO Yl;rw [List.flatMap_map];rfl
theorem LR {α:Type}{row:α→List Zl}{sz:Nat}{w:Zc}{e:TypeId}{n k:Nat}{ia:Option Addr}{cp:Nat}{l:List α}{v:α}(Er: ∀v,(row v).length=sz)(h:w.ownsRow 0 e sz (.slice ia n cp) n (Yl row l))(h0:0 < n)(hk:l[k]?=some v) : ∃g,ia=some ⟨g,0,none⟩∧w.rangeAt g (k*sz) (row v):=by
 rcases h.2 with ⟨h1,h2⟩ | ⟨g,BB,cur,h1,_⟩
 ·injection h1 with _ h3 _; omega
 ·injection h1 with h1 _ _;refine ⟨g,h1,fun j u hj=>?_⟩;subst h1;have DW:=(Zi.1 hj).1;rw [Er] at DW;have:=h.cells rfl (k*sz+j) u (by rw [EN Er hk DW]; exact hj);rwa [add_plain,ZX] at this
section
variable {N:Nat} {w0:DR} {w w' w1:Zc} {c:Nat→Int} {a:Pl} {q:Ql} {Z:Nat→Zc→(Nat→Prop)→Prop} {s s':Sg} {L L':List QT} {k:Nat}
def yn (s:Sg)(R:List (Int × Int) × List Int × List Int × Int) :Sg:= { s with F:=R.2.1,W:=R.2.2.1,cy:=EK R}
theorem Eg.assign (h:Eg N w0 w c a q Z s L){r:Nat}(UP:11≤r)(hr:r < N){wv:Zl}{U:List Int}{nu:Nat}{x ep:Int}(tc:Z r=YK 22 1 wv nu (U.map Ey))(hl:U.length≤9223372036854775807)(hA:LZ U)(hx:0≤x)(aG:0≤ep)(vf:ep≤1099511627776) :
  Zj Zb 257 #[.int .i64 ep,.pointer (some ⟨a.n,0,none⟩),.pointer (some ⟨a.m,0,none⟩),.int .u64 x,wv] w fun e w'=> ∃v,e= .returned v∧
   Eg (N+1) w0 w' c a q (ZD Z N (YK 71 3 v (Fc (KM U) s.F s.W s.cy x).1.length (Yl Qf ((Fc (KM U) s.F s.W s.cy x).1.map (asA (ep+1)))))) (yn s (Fc (KM U) s.F s.W s.cy x)) L:=by
 obtain ⟨X,hX,Uf,hh,_,hK,hz,_⟩:=h.open;refine (hh.assign hX Uf (r:=r) Ze hr (hz r UP hr |>.trans tc) hl hA hx aG vf).mono fun e w' ⟨v,he,g1,_⟩=>⟨v,he,?_⟩
 rw [lS] at g1;exact hK _ _ _ _ g1 stays_row rfl rfl
theorem uL (h:Eg N w0 w c a q Z s L)(t:Tm c s){r:Nat}(UP:11≤r)(hr:r < N){wv:Zl}{U:List Int}{nu:Nat}{x:Int}(tc:Z r=YK 22 1 wv nu (U.map Ey))(hUl:U.length≤9223372036854775807)(hA:LZ U)(hx:0≤x)(aG:0≤s.ep)(vf:s.ep≤1099511627776)
  {R:List (Int × Int) × List Int × List Int × Int} (hR:Fc (KM U) s.F s.W s.cy x=R) (hn:(R.1.map (·.1)).Nodup) (hq: ∀p ∈ R.1,Bm s.V DM p.1) (mT:O8 (s.ep+1) (c 10)) (hg:IB c) (hf: ∀v ∈ s.V,Yo v) (ei: ∀v ∈ s.V,v.wd≤1099511627776) (ht:Zz s.V≤18446744073709551615) (Cq:L.length+R.1.length≤100000) :
  Zj Zb 213 #[.pointer (some ⟨q.e,0,none⟩),.int .u64 x,wv] w fun e w'=> ∃v,e= .returned v∧
   Eg (N+1) w0 w' c a q (ZD Z N (YK 71 3 v R.1.length (Yl Qf (R.1.map (asA (s.ep+1)))))) { yn s R with V:=DL c (s.ep+1) s.V R.1} (L++EJ c (s.ep+1) s.V R.1):=by
 have hN:=h.low;obtain ⟨l,hl⟩ : ∃l,R.1=l:=⟨_,rfl⟩;have hG:(l.map vG).Nodup∧(∀i ∈ l.map vG,i < s.V.length)∧(∀p ∈ l,∃n:Nat,p.1=(n:Int)∧n < s.V.length∧(s.V.getD n ZZ).st=3∧(s.V.getD n ZZ).ex= -1):=by
  rw [hl] at hn hq;have h3: ∀p ∈ l,∃n:Nat,p.1=(n:Int)∧n < s.V.length∧(s.V.getD n ZZ).st=3∧(s.V.getD n ZZ).ex= -1:=fun p hp=>by
   obtain ⟨n,v,e,hv,h1,h2⟩:=hq p hp;have:s.V.getD n ZZ=v:=by rw [Zq,hv]; rfl
   exact ⟨n,e,(Zi.1 hv).1,by rw [this]; exact h1,by rw [this]; exact h2⟩
  refine ⟨?_,fun i hi=>?_,h3⟩
  ·have e:(l.map vG).map We=l.map (·.1):=by
    rw [VP];refine Gb fun p hp=>?_
    obtain ⟨n,e,_⟩:=h3 p hp;show ((p.1.toNat:Nat) :Int)=p.1;omega
   rw [←e] at hn;exact List.Pairwise.of_map We (fun a b h e=>h ED) hn
  ·obtain ⟨p,hp,rfl⟩:=Yk.1 hi;obtain ⟨n,e,hnl,_⟩:=h3 p hp;unfold vG; omega
 have hfi: ∀i ∈ l.map vG,Yo (sM c (s.ep+1) (s.V.getD i ZZ))∧(sM c (s.ep+1) (s.V.getD i ZZ)).bal=(s.V.getD i ZZ).bal:=fun i hi=>by
  obtain ⟨p,hp,rfl⟩:=Yk.1 hi;obtain ⟨n,e,hnl,h1,h2⟩:=hG.2.2 p hp;have:vG p=n:=by unfold vG; omega
  rw [this];have hm:=hf (s.V.getD n ZZ) (by rw [Zq,Zf hnl]; exact KD hnl);unfold sM;rw [A4 ⟨h1,h2⟩ mT];exact ⟨hm,rfl⟩
 have ni:Hid (∀k,Fl s.V (DL c (s.ep+1) s.V (l.take k))):=Za fun k=>by
  rw [RG,List.map_take];exact WI hf hG.1 hG.2.1 hfi k
 have gO:Hid (∀wx,Eg N w0 wx c a q Z s L→Zj Zb 257 #[.int .i64 s.ep,.pointer (some ⟨a.n,0,none⟩),.pointer (some ⟨a.m,0,none⟩),.int .u64 x,wv] wx fun e w'=> ∃v,e= .returned v∧Eg (N+1) w0 w' c a q (ZD Z N (YK 71 3 v l.length (Yl Qf (l.map (asA (s.ep+1)))))) (yn s R) L):=Za fun wx hw=>by
  have:=hw.assign UP hr tc hUl hA hx aG vf;rw [hR,hl] at this;exact this
 have mU:l.length≤100000:=by rw [hl] at Cq; omega
 rw [hl] at Cq;have HX:=Za (Zh hG (Zh mT (Zh hg (Zh hf (Zh ei (Zh ht (Zh Cq (Zh aG t))))))));have HN:=Za hN;have HH:=Za h;rw [hl];clear h t tc hUl hA hx hn hq mT hg hf ei ht Cq hN hG hfi aG vf UP hr hR hl;go_enter Tryz.func213,Tryz.ntmps213;go_wp2_with fail;refine Pu (fun w'=>Blk w' q.e 107 (Uw c a q)) 3 [0,1,2,4,5,6,7,8,9,10,11,12,13,14,15] (?_) ?_
 ·exact HH.out.drew.blk
 refine Kg ?_;show ZW _ _ _ _ [_,_,_,_,_,_,_,_,_,_,_,_,_,_,_] _;refine gL ?_;refine Zfx ?_;refine Qe ?_;refine BN ?_;refine YJ _ _ ⟨q.e,25,none⟩ (.pointer (some ⟨a.m,0,none⟩)) rfl rfl rfl (fun w h=>by simp [go_sem,h]) (fun w h=>h.cell 25) ?_;refine Qe ?_;refine BL ?_;refine Qc ?_;have H0:=Za HH.out.drew;clear HH;generalize w.drew=V0 at*;refine hfO (i:=3) ?_;refine JZ #[.pointer (some ⟨q.e,20,none⟩)] Ke ((Bd H0.out HX.out.2.2.2.2.2.2.2.2.b0 HX.out.2.2.2.2.2.2.2.2.b1 HX.out.2.2.2.2.2.2.2.2.l HX.out.2.2.2.2.2.2.2.2.q).mono ?_);rintro e w1 ⟨rfl,m1,rfl⟩;have H1:=Za (H0.out.drewN m1);refine ⟨_,rfl,H1.out.blk,?_⟩;clear H0;generalize V0.drewN m1=V1 at*;refine hfO (i:=16) ?_;refine JG ?_;refine JZ #[.int .i64 s.ep,.pointer (some ⟨a.n,0,none⟩),.pointer (some ⟨a.m,0,none⟩),.int .u64 x,wv] Tryz.call257 ((gO.out _ H1.out).mono ?_);rintro e w2 ⟨v,rfl,h2⟩;refine ⟨_,rfl,h2.blk,?_⟩;clear H1 gO;obtain ⟨ia,cp,rfl⟩:=XC (h2.row (r:=N) HN.out Ze xput_same);obtain ⟨m,hm⟩ : ∃m,l.length=m:=⟨_,rfl⟩;have HM:=Za hm;rw [hm] at h2 mU;have H2:=Za h2;rw [hm];have UJ:=Za h2.blk;clear h2 hm;refine JG ?_;refine FX (fun w'=>Blk w' q.e 107 (Uw c a q)) (m:=1) (f:=0) [17] (?_) ?_
 ·exact UJ.out
 refine Kg ?_;refine FV ?_;refine GN ?_;refine Qc ?_;clear UJ;refine ⟨by kernel_rfl,Yr ?_⟩;refine JG ?_;go_wp2_with fail;go_loopw [31] (fun s31 wr=> ∃(k:Nat),k≤m∧s31= .int .i64 k∧Hid (Eg (N+1) w0 wr c a q (ZD Z N (YK 71 3 (.slice ia m cp) m (Yl Qf (l.map (asA (s.ep+1)))))) { yn s R with V:=DL c (s.ep+1) s.V (l.take k)} (L++EJ c (s.ep+1) s.V (l.take k)))) (fun s31 _=>m -(intOf s31).toNat)
 case atStart=>exact ⟨0,by omega,rfl,Za (by rw [show EJ c (s.ep+1) s.V (l.take 0)=[] from rfl,List.append_nil]; exact H2.out)⟩
 case round=>
  obtain ⟨k,hk,rfl,HE⟩:=hrel
  by_cases XP:k < m
  ·obtain ⟨p,hp⟩ : ∃p,l[k]?=some p:=⟨_,Zf Ri⟩;obtain ⟨g,rfl,iD⟩:=LR (row:=Qf) (v:=asA (s.ep+1) p) (k:=k) As.row_len (HE.out.row (r:=N) HN.out Ze xput_same) Ze (by rw [ZP,hp]; rfl);obtain ⟨i,yM,Fz,Um,hex⟩:=HX.out.1.2.2 p (ZB hp);have Ml:=ni.out k;have hlk1:=ni.out (k+1);have Zbd:(l.map vG)[k]?=some i:=by rw [ZP,hp]; show some p.1.toNat=_; rw [yM]; rfl
   have WV:=Nc (f:=sM c (s.ep+1)) HX.out.1.1 HX.out.1.2.1 Zbd;have DY:=Nd (f:=sM c (s.ep+1)) (V:=s.V) Zbd;rw [←List.map_take,←List.map_take,←RG,←RG] at DY;rw [←List.map_take,←RG] at WV;have hks:=nI (c:=c) (e:=s.ep+1) (V:=s.V) hp;have mS:=gU c (s.ep+1) (l.take k) s.V;obtain ⟨W,hW⟩ : ∃W,DL c (s.ep+1) s.V (l.take k)=W:=⟨_,rfl⟩;rw [hW] at HE Ml WV DY hks;obtain ⟨u,hu⟩ : ∃u,W.getD i ZZ=u:=⟨_,rfl⟩;have hau:Ub W p.1=u:=by rw [yM]; exact hu
   rw [hu] at DY;rw [hau] at hks;rw [←WV,hu] at Um hex;have mP:i < W.length:=by rw [Ml.1]; exact Fz
   have huw:u.wd≤1099511627776:=by rw [←hu,WV]; exact HX.out.2.2.2.2.1 _ jg
   have u9:sM c (s.ep+1) u= { u with ex:=s.ep+1,wd:=max u.wd (s.ep+1+c 10)}:=by unfold sM; rw [A4 ⟨Um,hex⟩ HX.out.2.1]
   have hLk:(L++EJ c (s.ep+1) s.V (l.take k)).length≤100000:=by
    rw [List.length_append,mS,Xl];exact jE
   have cW:Yo u:=Ml.2.2 u (by rw [←hu,Zq,Zf mP]; exact KD mP);obtain ⟨v2,O5⟩ : ∃v2,sM c (s.ep+1) u=v2:=⟨_,rfl⟩;have P6:QA [XN (s.ep+1),Q9 (s.ep+1) (c 10)] u=(0,v2):=by rw [A4 ⟨Um,hex⟩ HX.out.2.1,←O5,u9]
   have Ze5:v2.wd=max u.wd (s.ep+1+c 10):=by rw [←O5,u9]
   have Ze4:v2.bal=u.bal∧Yo v2:=by rw [←O5,u9]; exact ⟨rfl,cW⟩
   rw [O5] at DY hks;obtain ⟨sk,hsk⟩ : ∃sk,({ yn s R with V:=W} :Sg)=sk:=⟨_,rfl⟩;obtain ⟨Lk,aD⟩ : ∃Lk,L++EJ c (s.ep+1) s.V (l.take k)=Lk:=⟨_,rfl⟩;have ZeW:sk.V=W:=by rw [←hsk]
   rw [hsk,aD] at HE;rw [aD] at hLk;have HAs:Hid (∀wx,Zj Zb 258 #[.agg (Zd u),.int .i64 (s.ep+1),.agg (Zk c)] wx fun e w'=>e= .returned (.tuple #[.agg (Zd v2),.int .i64 0])∧Zs wx.heap.size wx w'):=Za fun wx=>by
    have:=du u (s.ep+1) c wx cW.2 HX.out.2.2.1.ub0 HX.out.2.2.1.ub1;unfold ans at this;rw [P6] at this;exact this
   have HU:=Za (Zh mP (Zh Ml (Zh DY (Zh hks (Zh hu (Zh ZeW (Zh hsk (Zh aD (Zh hLk (Zh huw (Zh Ze5 (Zh Ze4 yM))))))))))));have HRg:=Za iD;clear hp iD Fz Um hex Ml hlk1 Zbd WV DY hks mS hW hu hau mP huw u9 hLk cW O5 P6 Ze5 Ze4 hsk aD ZeW yM;go_upto_region 4 with (fail);have TO:=Za (HE.out.box (Qm (asA (s.ep+1) p)) 71);go_upto_region 5 with (first | (refine Jt rfl 71 _ rfl g (k*3) rfl (asA (s.ep+1) p).row _ HRg.out Tryz.underlying71 rfl Cu ?_) | (refine Zo rfl _ _ _ rfl wr.heap.size (Qm (asA (s.ep+1) p)) rfl rfl 71 _ (ZG wr _) Cu rfl (IZ _) ?_; rw [Zu]));clear HE HRg;generalize wr.heap.size=za at*;generalize wr.alloc (.cells (Qm (asA (s.ep+1) p)) 71)=W1 at*;have tJ:Hid (∀wx,Eg (N+2) w0 wx c a q (ZD (ZD Z N (YK 71 3 (.slice (some ⟨g,0,none⟩) m cp) m (Yl Qf (l.map (asA (s.ep+1)))))) (N+1) (YW za 71 (Qm (asA (s.ep+1) p)))) sk Lk→Zj Zb 70 #[.pointer (some ⟨a.r,0,none⟩),.int .i64 p.1] wx fun e w'=>e= .returned (.tuple #[.agg (Zd u),.bool true])∧Zs wx.heap.size wx w'):=Za fun wx hw=>by
    have:=hw.get (n:=i) (by rw [HU.out.2.2.2.2.2.1]; exact HU.out.1);rw [HU.out.2.2.2.2.2.1,HU.out.2.2.2.2.1] at this;rw [HU.out.2.2.2.2.2.2.2.2.2.2.2.2];exact this
   refine JG ?_;go_cut [10,11] from 35 to 45 (fun s10 s11 wx=> ∃zb:Nat,s10= .pointer (some ⟨zb,0,none⟩)∧s11= .bool true∧Hid (Eg (N+2+1) w0 wx c a q (ZD (ZD (ZD Z N (YK 71 3 (.slice (some ⟨g,0,none⟩) m cp) m (Yl Qf (l.map (asA (s.ep+1)))))) (N+1) (YW za 71 (Qm (asA (s.ep+1) p)))) (N+2) (YW zb 63 (Zd u))) sk Lk))
   case first=>
    refine Pu (fun w'=>Eg (N+2) w0 w' c a q (ZD (ZD Z N (YK 71 3 (.slice (some ⟨g,0,none⟩) m cp) m (Yl Qf (l.map (asA (s.ep+1)))))) (N+1) (YW za 71 (Qm (asA (s.ep+1) p)))) sk Lk) 7 [0,1,2,3,4,5,6] (?_) ?_
    ·exact TO.out.drew
    refine Kg ?_;show ZW _ _ _ _ [_,_,_,_,_,_,_] _;refine BN ?_;refine rI ?_;refine Qe ?_;refine GN ?_;refine YJ _ _ ⟨za,0,none⟩ (.int .i64 p.1) rfl rfl rfl (fun w h=>by simp [go_sem,h]) (fun w h=>(VZ h (r:=N+1) ZJ Ze xput_same).cell 0) ?_;refine Qe ?_;refine Qc ?_;have hD:Eg (N+2) w0 W1.drew c a q (ZD (ZD Z N (YK 71 3 (.slice (some ⟨g,0,none⟩) m cp) m (Yl Qf (l.map (asA (s.ep+1)))))) (N+1) (YW za 71 (Qm (asA (s.ep+1) p)))) sk Lk:=TO.out.drew;clear TO;generalize W1.drew=V at*;refine UQ (i:=7) (k:=11) Ye ZI ZI ?_ ?_
    ·refine JZ #[.pointer (some ⟨a.r,0,none⟩),.int .i64 p.1] Tryz.call70 ((tJ.out _ hD).mono ?_);rintro e w2 ⟨rfl,hb⟩;have h2:Eg (N+2) w0 w2 c a q (ZD (ZD Z N (YK 71 3 (.slice (some ⟨g,0,none⟩) m cp) m (Yl Qf (l.map (asA (s.ep+1)))))) (N+1) (YW za 71 (Qm (asA (s.ep+1) p)))) sk Lk:=hD.below hb;refine ⟨_,rfl,h2,?_⟩;clear hb;refine JG ?_;refine FX (fun w'=>Eg (N+2) w0 w' c a q (ZD (ZD Z N (YK 71 3 (.slice (some ⟨g,0,none⟩) m cp) m (Yl Qf (l.map (asA (s.ep+1)))))) (N+1) (YW za 71 (Qm (asA (s.ep+1) p)))) sk Lk) (m:=6) (f:=3) [8,9,10] (?_) ?_
     ·exact h2
     refine Kg ?_;refine TK ?_;refine DP ?_;refine Qc ?_;refine hfO (i:=11) ?_;refine YD rfl rfl (Kv rfl ?_);refine ⟨h2.below ((Zp _ _).alloc (Zg _) _),?_⟩;refine JG ?_;refine hfO (i:=12) ?_;refine YD rfl rfl (X9 _ _ _ rfl w2.heap.size (Zd u) rfl rfl 63 _ (ZG w2 _) Ym rfl (Yx _) ?_);rw [iX];have h3:=Eg.box h2 (Zd u) 63;have h4:Eg (N+2) w0 (w2.alloc (.cells (Zd u) 63)) c a q (ZD (ZD Z N (YK 71 3 (.slice (some ⟨g,0,none⟩) m cp) m (Yl Qf (l.map (asA (s.ep+1)))))) (N+1) (YW za 71 (Qm (asA (s.ep+1) p)))) sk Lk:=h2.below ((Zp _ _).alloc (Zg _) _);refine ⟨h4,?_⟩;generalize w2.alloc (.cells (Zd u) 63)=w4 at*;exact ZfE
    ·refine YD rfl rfl (Kv rfl ?_);have h1:=Eg.box hD (Zd ZZ) 63;have h1':Eg (N+2) w0 (V.alloc (.cells (Zd ZZ) 63)) c a q (ZD (ZD Z N (YK 71 3 (.slice (some ⟨g,0,none⟩) m cp) m (Yl Qf (l.map (asA (s.ep+1)))))) (N+1) (YW za 71 (Qm (asA (s.ep+1) p)))) sk Lk:=hD.below ((Zp _ _).alloc (Zg _) _);refine ⟨h1',?_⟩;generalize V.heap.size=zb at*;generalize V.alloc (.cells (Zd ZZ) 63)=V1 at*;refine JG ?_;refine hfO (i:=7) ?_;refine JG ?_;refine JZ #[.pointer (some ⟨a.r,0,none⟩),.int .i64 p.1] Tryz.call70 ((tJ.out _ h1').mono ?_);rintro e w2 ⟨rfl,hb⟩;have h2:=h1.below hb;have h2':Eg (N+2) w0 w2 c a q (ZD (ZD Z N (YK 71 3 (.slice (some ⟨g,0,none⟩) m cp) m (Yl Qf (l.map (asA (s.ep+1)))))) (N+1) (YW za 71 (Qm (asA (s.ep+1) p)))) sk Lk:=h1'.below hb;refine ⟨_,rfl,h2',?_⟩;clear hb;refine JG ?_;refine FX (fun w'=>Eg (N+2) w0 w' c a q (ZD (ZD Z N (YK 71 3 (.slice (some ⟨g,0,none⟩) m cp) m (Yl Qf (l.map (asA (s.ep+1)))))) (N+1) (YW za 71 (Qm (asA (s.ep+1) p)))) sk Lk) (m:=5) (f:=2) [8,9,10] (?_) ?_
     ·exact h2'
     refine Kg ?_;refine TK ?_;refine DP ?_;refine Qc ?_;refine hfO (i:=12) ?_;have hB:=h2.blkAt (r:=N+2) ZJ Ze xput_same;refine YD rfl rfl (X9 _ _ _ rfl zb (Zd u) rfl rfl 63 _ hB Ym rfl (Yx _) ?_);have h3:=h2.setr (r:=N+2) ZJ Ze xput_same (cs':=Zd u) (Blk.setRow hB _) (Kept.setRow (S:=fun i=>i=zb) (Kept.refl _ _) (.inl rfl) _);rw [Xk] at h3;have h4:Eg (N+2) w0 (w2.setRow zb (Zd u)) c a q (ZD (ZD Z N (YK 71 3 (.slice (some ⟨g,0,none⟩) m cp) m (Yl Qf (l.map (asA (s.ep+1)))))) (N+1) (YW za 71 (Qm (asA (s.ep+1) p)))) sk Lk:=h3.drop ZJ;refine ⟨h4,?_⟩;generalize w2.setRow zb (Zd u)=w4 at*;exact ZfE
   case rest=>
    obtain ⟨zb,rfl,rfl,Hh⟩:=hcut;clear TO tJ;go_upto_region 6 with (fail);have dZ:Eg (N+2) w0 wc.drew c a q (ZD (ZD Z N (YK 71 3 (.slice (some ⟨g,0,none⟩) m cp) m (Yl Qf (l.map (asA (s.ep+1)))))) (N+1) (YW za 71 (Qm (asA (s.ep+1) p)))) sk Lk:=(Hh.out.drew).drop ZJ;refine Pu (fun w'=>Eg (N+2) w0 w' c a q (ZD (ZD Z N (YK 71 3 (.slice (some ⟨g,0,none⟩) m cp) m (Yl Qf (l.map (asA (s.ep+1)))))) (N+1) (YW za 71 (Qm (asA (s.ep+1) p)))) sk Lk) 6 [1,2,3,4,5,6] (?_) ?_
    ·exact dZ
    refine Kg ?_;refine Is ?_;refine GN ?_;refine YJ _ _ ⟨za,2,none⟩ (.int .i64 (s.ep+1)) rfl rfl rfl (fun w h=>by simp [go_sem,h]) (fun w h=>(VZ h (r:=N+1) ZJ Ze xput_same).cell 2) ?_;refine Qe ?_;refine DP ?_;refine ZfC ?_;refine Qc ?_;have MX:=Za Hh.out.drew;clear Hh;generalize wc.drew=V3 at*;refine hfO (i:=0) ?_;refine YD rfl rfl (wp_load_row 63 _ rfl zb rfl 63 (Zd u) (0,0) _ (MX.out.blkAt (r:=N+2) ZJ Ze xput_same) Zr rfl Ym ?_);refine ⟨dZ,?_⟩;refine JG ?_;refine hfO (i:=7) ?_;refine JZ #[.agg (Zd u),.int .i64 (s.ep+1),.agg (Zk c)] Tryz.call258 ((HAs.out _).mono ?_);rintro e w5 ⟨rfl,hb5⟩;have TV:=Za (MX.out.below hb5);have uZ:Eg (N+2) w0 w5 c a q (ZD (ZD Z N (YK 71 3 (.slice (some ⟨g,0,none⟩) m cp) m (Yl Qf (l.map (asA (s.ep+1)))))) (N+1) (YW za 71 (Qm (asA (s.ep+1) p)))) sk Lk:=TV.out.drop ZJ;refine ⟨_,rfl,uZ,?_⟩;clear MX hb5 HAs dZ;refine JG ?_;refine FX (fun w'=>Eg (N+2) w0 w' c a q (ZD (ZD Z N (YK 71 3 (.slice (some ⟨g,0,none⟩) m cp) m (Yl Qf (l.map (asA (s.ep+1)))))) (N+1) (YW za 71 (Qm (asA (s.ep+1) p)))) sk Lk) (m:=4) (f:=1) [8,9,10] (?_) ?_
    ·exact uZ
    refine Kg ?_;refine TK ?_;refine DP ?_;refine Qc ?_;refine hfO (i:=11) ?_;have hB:=TV.out.blkAt (r:=N+2) ZJ Ze xput_same;refine YD rfl rfl (X9 _ _ _ rfl zb (Zd v2) rfl rfl 63 _ hB Ym rfl (Yx _) ?_);have h7:=TV.out.setr (r:=N+2) ZJ Ze xput_same (cs':=Zd v2) (Blk.setRow hB _) (Kept.setRow (S:=fun i=>i=zb) (Kept.refl _ _) (.inl rfl) _);rw [Xk] at h7;have db:=Za h7;refine ⟨h7.drop ZJ,?_⟩;clear TV uZ hB h7;generalize w5.setRow zb (Zd v2)=w7 at*;refine ⟨by kernel_rfl,Yr ?_⟩;refine JG ?_;go_wp2_with fail;have x21:=Eg.x21 db.out;have k0:w7.cell? ⟨za,0,none⟩=some (.int .i64 p.1):=(VZ db.out (r:=N+1) ZJ Ze Ug).cell 0;have HB7:=Za (db.out.blkAt (r:=N+2) ZJ Ze xput_same);refine wqT 8 ?_;refine BA ?_;refine gL ?_;refine ZfA ?_;refine Qe ?_;refine Qc ?_;intro _ JB;obtain ⟨nr,Xh⟩:=JB;subst Xh;have gO:Hid (Zj Zb 187 #[.pointer (some ⟨a.r,0,none⟩),.int .i64 p.1,.agg (Zd v2)] (w7.drewN nr) fun e w'=>e= .returned (.int .i64 0)∧Eg (N+2+1) w0 w' c a q (ZD (ZD (ZD Z N (YK 71 3 (.slice (some ⟨g,0,none⟩) m cp) m (Yl Qf (l.map (asA (s.ep+1)))))) (N+1) (YW za 71 (Qm (asA (s.ep+1) p)))) (N+2) (YW zb 63 (Zd v2))) { yn s R with V:=DL c (s.ep+1) s.V (l.take (k+1))} Lk):=Za (by
     have hx:=db.out.drewN nr;obtain ⟨X,hX,Uf,hh,hK,_⟩:=hx.open;have hv:sk.V[i]?=some u:=by rw [HU.out.2.2.2.2.2.1,←HU.out.2.2.2.2.1,Zq,Zf HU.out.1]; rfl
     have htt:Zz sk.V≤18446744073709551615:=by rw [HU.out.2.2.2.2.2.1,HU.out.2.1.2.1]; exact HX.out.2.2.2.2.2.1
     have hs:=hh.set hX Uf (v':=v2) hv HU.out.2.2.2.2.2.2.2.2.2.2.2.1.2 (by rw [HU.out.2.2.2.2.2.2.2.2.2.2.2.1.1]; omega);rw [←HU.out.2.2.2.2.2.2.2.2.2.2.2.2] at hs;refine hs.mono fun e w' ⟨he,h1⟩=>⟨he,?_⟩
     have h3:=hK _ _ _ h1 rfl rfl;rw [HU.out.2.2.1];rw [HU.out.2.2.2.2.2.1,←HU.out.2.2.2.2.2.2.1] at h3;exact h3)
    clear db x21 k0 HB7;generalize w7.drewN nr=W8 at*;go_wp2_with fail;refine gO.out.mono ?_;rintro e w9 ⟨rfl,h9⟩;have TW:=Za h9;clear h9 gO;go_wp2_with fail;have k0:w9.cell? ⟨za,0,none⟩=some (.int .i64 p.1):=(VZ TW.out (r:=N+1) ZJ Ze Ug).cell 0;have HB9:=Za (TW.out.blkAt (r:=N+2) ZJ Ze xput_same);refine wqT 6 ?_;refine BA ?_;refine TJ ?_;refine Jw 63 _ zb 63 (Zd v2) _ rfl rfl rfl (fun w' h=>by obtain ⟨m,rfl⟩:=h; exact HB9.out) Zr rfl Ym ?_;refine Qe ?_;refine Qc ?_;intro _ JB;obtain ⟨nr,Xh⟩:=JB;subst Xh;have yd:Hid (Zj Zb 129 #[.pointer (some ⟨q.e,24,none⟩),.int .i64 p.1,.agg (Zd v2)] (w9.drewN nr) fun e w'=>e= .returned (.tuple #[])∧Eg (N+1) w0 w' c a q (ZD Z N (YK 71 3 (.slice (some ⟨g,0,none⟩) m cp) m (Yl Qf (l.map (asA (s.ep+1)))))) { yn s R with V:=DL c (s.ep+1) s.V (l.take (k+1))} (L++EJ c (s.ep+1) s.V (l.take (k+1)))):=Za (by
     have h0:=HX.out.2.2.2.2.2.2.2.1;have TQ:=HX.out.2.1.2;have UP:=HX.out.2.2.1.ub0;have Np:=HU.out.2.2.2.2.2.2.2.2.2.2.1;have huw:=HU.out.2.2.2.2.2.2.2.2.2.1;have:=oA (TW.out.drewN nr) (i:=p.1) (v:=v2) Ze Ze HU.out.2.2.2.2.2.2.2.2.1;refine this.mono fun e w' ⟨he,h5⟩=>⟨he,?_⟩
     rw [HU.out.2.2.2.1,←List.append_assoc,HU.out.2.2.2.2.2.2.2.1];exact (h5.drop ZJ).drop ZJ)
    clear TW k0 HB9 HU;generalize w9.drewN nr=W10 at*;go_wp2_with fail;refine yd.out.mono ?_;rintro e zj ⟨rfl,UP⟩;have H6:=Za UP;clear UP yd;exact ZcH
  ·obtain rfl:k=m:=by omega
   clear XP;have XP: ¬k < k:=by omega
   have H7:=HE.out;rw [Yv Rf] at H7;have H8:=Za H7;clear HE H7;go_wp2_with fail;go_ret;exact ⟨_,rfl,by rw [HM.out]; exact H8.out⟩
end
end
section
open Go Go.RowKit
def Wx (V A:List Yd)(F:List Nat)(W:List Yd) :Prop:=W.length=V.length∧ ∀j,j < V.length→W.getD j ZZ=if j ∈ F then A.getD j ZZ else V.getD j ZZ
section
variable {V A W:List Yd} {F:List Nat} {i:Nat}
theorem Wx.refl (V A:List Yd) :Wx V A [] V:=⟨rfl,fun j _=>by simp⟩
theorem Wx.set (h:Wx V A F W)(hi:i < V.length) :Wx V A (F++[i]) (W.set i (A.getD i ZZ)):=by
 refine ⟨by rw [List.length_set]; exact h.1,fun j hj=>?_⟩
 by_cases e:i=j
 ·subst e;rw [OY (by rw [h.1]; exact hi),if_pos ZI]
 ·rw [getD_set_ne e,h.2 j hj];have KF: ¬j=i:=fun h=>e h.symm
  by_cases hF:j ∈ F
  ·rw [if_pos hF,if_pos (by simp [hF])]
  ·rw [if_neg hF,if_neg (by simp [hF,KF])]
theorem Wx.done (h:Wx V A F W)(hl:A.length=V.length)(ho: ∀j,j < V.length→j ∉ F→V.getD j ZZ=A.getD j ZZ) :W=A:=by
 refine aw (h.1.trans hl.symm) fun j hj=>?_
 have O3:j < V.length:=by rw [←h.1]; exact hj
 rw [h.2 j O3]
 split
 ·rfl
 ·rename_i hF; exact ho j O3 hF
theorem Ad: ∀(V A W:List Yd),A.length=V.length→W.length=V.length→(∀j,j < V.length→W.getD j ZZ=V.getD j ZZ∨W.getD j ZZ=A.getD j ZZ)→(∀v ∈ V,Yo v)→(∀v ∈ A,Yo v)→Zz W≤Zz V+Zz A
 | [],A,W,h1,h2,_,_,ha=>by
  rw [List.eq_nil_of_length_eq_zero h2];have:=Ka ha;show (0:Int)≤0+Zz A;omega
 | v::V,[],W,h1,_,_,_,_=>by simp at h1
 | v::V,a::A,[],_,h2,_,_,_=>by simp at h2
 | v::V,a::A,w::W,h1,h2,h,hv,ha=>by
  have ih:=Ad V A W Iq (by simpa using h2) (fun j hj=>by
   have:=h (j+1) zB13_2;simpa using this) (fun x hx=>hv x Bj) (fun x hx=>ha x Bj)
  have h0:=h 0 ZI;have b1:=(bounds_u64 (hv v ZI).1).1;have b2:=(bounds_u64 (ha a ZI).1).1;have e1:Zz (w::W)=w.bal+Zz W:=rfl;have e2:Zz (v::V)=v.bal+Zz V:=rfl;have e3:Zz (a::A)=a.bal+Zz A:=rfl;have:w=v∨w=a:=by simpa using h0
  rcases this with rfl | rfl <;> omega
theorem Wx.or (h:Wx V A F W) : ∀j,j < V.length→W.getD j ZZ=V.getD j ZZ∨W.getD j ZZ=A.getD j ZZ:=fun j hj=>by
 rw [h.2 j hj]
 split
 ·exact .inr rfl
 ·exact .inl rfl
theorem Wx.total (h:Wx V A F W)(hl:A.length=V.length)(hv: ∀v ∈ V,Yo v)(ha: ∀v ∈ A,Yo v) :Zz W≤Zz V+Zz A:=Ad V A W hl h.1 h.or hv ha
theorem Wx.fits (h:Wx V A F W)(hl:A.length=V.length)(hv: ∀v ∈ V,Yo v)(ha: ∀v ∈ A,Yo v) : ∀v ∈ W,Yo v:=fun v hw=>by
 obtain ⟨j,hj,rfl⟩:=List.mem_iff_getElem.1 hw;have O3:j < V.length:=by rw [←h.1]; exact hj
 have e:W[j]=W.getD j ZZ:=by rw [Zq,Zf hj]; rfl
 rw [e]
 rcases h.or j O3 with h1 | h1 <;> rw [h1,Zq]
 ·rw [Zf O3]; exact hv _ (KD O3)
 ·rw [Zf (by rw [hl]; exact O3)]; exact ha _ (KD _)
theorem cz {mb:Int}{p:Int × Int}{j:Nat}(h1:j≠p.1.toNat)(h2:j≠p.2.toNat)(V:List Yd) :(UX V p mb).getD j ZZ=V.getD j ZZ:=by
 unfold UX
 split
 ·unfold Sz;rw [getD_set_ne (fun e=>h2 e.symm),getD_set_ne (fun e=>h1 e.symm)]
 ·rfl
theorem Aw (mb:Int) : ∀(q:List (Int × Int)) (V:List Yd) (j:Nat),(∀p ∈ q,j≠p.1.toNat∧j≠p.2.toNat)→(Ki mb V q).getD j ZZ=V.getD j ZZ
 | [],V,j,_=>rfl
 | p::q,V,j,h=>by
  show (Ki mb (UX V p mb) q).getD j ZZ=_;rw [Aw mb q _ j (fun x hx=>h x Bj),cz (h p ZI).1 (h p ZI).2]
theorem SJ {j:Nat} : ∀(l:List Py),(∀p ∈ l,p.ix≠(j:Int))→KT j l=0
 | [],_=>rfl
 | p::l,h=>by
  have:=SJ l (fun x hx=>h x Bj);have h2:=h p ZI;simp only [KT,if_neg h2,this];rfl
theorem vZ {mb:Int}(hm:0≤mb){q:List Rq}{V:List Yd}(hq: ∀r ∈ q,Ga r)(hv: ∀v ∈ V,Yo v){j:Nat}(hj:j < V.length)(h: ∀p ∈ Ks mb V q,p.ix≠(j:Int)) :(XQ mb V q).getD j ZZ=V.getD j ZZ:=by
 have hx:V[j]?=some (V.getD j ZZ):=by rw [Zq,Zf hj]; rfl
 obtain ⟨v',h1,h2⟩:=(DH mb hm q V hq hv).1 j _ hx;rw [SJ _ h] at h2;rw [Zq,h1,Option.getD_some,h2.1,Int.sub_zero]
end
end
section
open Go Go.RowKit Go.Deep
theorem ZbS {w:Zc}{b1 b2 k1 k2 n1 n2:Nat}{e1 e2:TypeId}{v1 v2:Zl}{x1 x2:List Zl}(h1:w.ownsRow b1 e1 k1 v1 n1 x1)(h2:w.ownsRow b2 e2 k2 v2 n2 x2)(KF:e1≠e2) : ∀i,v1.ownBlock=some i→ ¬v2.ownBlock=some i:=fun i hi hj=>by
 rcases h1.2 with ⟨rfl,_⟩ | ⟨g1,_,c1,rfl,_,a1,_⟩
 ·simp [Y4] at hi
 ·rcases h2.2 with ⟨rfl,_⟩ | ⟨g2,_,c2,rfl,_,a2,_⟩
  ·simp [Y4] at hj
  ·have e1:g1=i:=by simpa [Y4] using hi
   have e2:g2=i:=by simpa [Y4] using hj
   rw [e1] at a1;rw [e2,a1] at a2;injection a2 with a2;injection a2 with _ a2 _;exact KF a2
theorem NL: ∀ {l:List Py},(∀p ∈ l,0 < p.am)→0≤UF l
 | [],_=>Int.le_refl _
 | p::l,h=>by
  have h1:=NL (l:=l) (fun x hx=>h x Bj);have h2:=h p ZI;show 0≤p.am+UF l;omega
theorem mn {l:List Py}{k:Nat}{p:Py}(hk:l[k]?=some p) :UF (l.take (k+1))=UF (l.take k)+p.am:=by
 rw [YR,hk,Qt,Lu];show _=_;simp [UF]
theorem xj {l:List Py}(h: ∀p ∈ l,0 < p.am)(k:Nat) :UF (l.take k)≤UF l:=by
 have e:=Lu (l.take k) (l.drop k);rw [List.take_append_drop] at e;have:=NL (l:=l.drop k) (fun x hx=>h x (List.mem_of_mem_drop hx));omega
def pyN (p:Py) :Nat:=p.ix.toNat
theorem lJ (l:List Py) :Yl Jb (pmOf l)=Yl VS l:=by
 unfold Yl pmOf;rw [List.flatMap_map];rfl
section
variable {N:Nat} {w0:DR} {w w' w1:Zc} {c cf:Nat→Int} {a:Pl} {q:Ql} {X Z:Nat→Zc→(Nat→Prop)→Prop} {s s':Sg} {L L':List QT} {k:Nat}
theorem En.more2 (h:En N w0 w cf a X s L)(hX: ∀k,8≤k→Xa (X k))(hN:8≤N){Q1 Q2:Zc→(Nat→Prop)→Prop}(hQ1:Xa Q1)(sQ:Xa Q2){S1 S2:Nat→Prop}(h1:Q1 w' S1)(h2:Q2 w' S2)(Se: ∀i,S1 i→w.heap.size≤i)(o7: ∀i,S2 i→w.heap.size≤i)(hd: ∀i,S1 i→ ¬S2 i)(hb:Zs w.heap.size w w') :En (N+2) w0 w' cf a (ZD (ZD X N Q1) (N+1) Q2) s L:=by
 obtain ⟨Φ,F,g1,g2⟩:=h;have F0:=F.below (fun j _=>Xo hX j) hb;have q1:Pt cf a (ZD X N Q1) s L N w' S1:=by rw [pt_high hN,xput_same]; exact h1
 have F1:=F0.put (P':=Pt cf a (ZD X N Q1) s L) (Eb hN) q1 (fun i hi=>hQ1.1 w' S1 h1 i hi) (fun j hj i hi hv=>by
  have:=Se i hv;have:=F.lt j hj i hi;omega)
 have q2:Pt cf a (ZD (ZD X N Q1) (N+1) Q2) s L (N+1) w' S2:=by rw [pt_high Ze,xput_same]; exact h2
 have F2:=F1.put (P':=Pt cf a (ZD (ZD X N Q1) (N+1) Q2) s L) (Eb Ze) q2 (fun i hi=>sQ.1 w' S2 h2 i hi) (fun j hj i hi hv=>by
  by_cases Mi:j=N
  ·subst Mi; rw [Xf] at hi; exact hd i hi hv
  ·rw [fput_other Mi] at hi;have:=o7 i hv;have:=F.lt j Ze i hi;omega)
 have g3:Kept w0.T w0.w w':=g2.trans (Kept.of_below (S:=fun _=>False) hb) (fun _ _ h=>h.elim);refine ⟨_,F2,fun j hj i hi=>?_,g3⟩
 by_cases hj1:j=N+1
 ·subst hj1; rw [Xf] at hi; exact .inr (Z9 g2.size (o7 i hi))
 ·rw [fput_other hj1] at hi
  by_cases Mi:j=N
  ·subst Mi; rw [Xf] at hi; exact .inr (Z9 g2.size (Se i hi))
  ·exact so
theorem Eg.fresh2 (h:Eg N w0 w c a q Z s L){e1 e2:TypeId}{k1 k2 n1 n2:Nat}{v1 v2:Zl}{x1 x2:List Zl}(h1:w'.ownsRow w.heap.size e1 k1 v1 n1 x1)(h2:w'.ownsRow w.heap.size e2 k2 v2 n2 x2)(KF:e1≠e2)(hb:Zs w.heap.size w w') :
  Eg (N+2) w0 w' c a q (ZD (ZD Z N (YK e1 k1 v1 n1 x1)) (N+1) (YK e2 k2 v2 n2 x2)) s L:=by
 obtain ⟨X,hX,hZ,hN,h⟩:=h;refine ⟨ZD (ZD X N (YK e1 k1 v1 n1 x1)) (N+1) (YK e2 k2 v2 n2 x2),fun k hk=>?_,fun k g1 g2=>?_,by omega,?_⟩
 ·unfold ZD; split
  ·exact stays_row
  ·split
   ·exact stays_row
   ·exact hX k hk
 ·unfold ZD; split
  ·rfl
  ·split
   ·rfl
   ·exact hZ k g1 Ze
 ·have:=h.more2 (BK hX) Ze stays_row stays_row (row_zero h1) (row_zero h2) (fun i hi=>(owns_lt h1 i hi).1) (fun i hi=>(owns_lt h2 i hi).1) (ZbS h1 h2 KF) hb;rw [OJ hN,OJ Ze] at this;exact this
theorem ZaB (hc:GE c)(hi:Inv c k s)(h:Eg N w0 w c a q Z s L) :
  Zj Zb 136 #[.pointer (some ⟨q.e,0,none⟩)] w fun e w'=> ∃v,e= .returned (.tuple #[v,.int .i64 ((EH c s:Nat) :Int)])∧
   Eg (N+1) w0 w' c a q (ZD Z N (YK 61 3 v (tkP c s).length (Yl Jb (tkP c s)))) { s with V:=He c s,P:=s.P+UF (Ks (c 5) s.V (s.pt.take (EH c s))),pt:=s.pt.drop (EH c s)} L:=by
 have hN:=h.low;obtain ⟨n,hn⟩ : ∃n,EH c s=n:=⟨_,rfl⟩;have sX:min (c 16).toNat s.pt.length=n:=hn;obtain ⟨A,hA⟩ : ∃A,He c s=A:=⟨_,rfl⟩;obtain ⟨Ps,hPs⟩ : ∃Ps,Ks (c 5) s.V (s.pt.take n)=Ps:=⟨_,rfl⟩;have hPP:tkP c s=pmOf Ps:=by unfold tkP; rw [hn,hPs]
 have yA:XQ (c 5) s.V (s.pt.take n)=A:=by rw [←hA]; unfold He; rw [hn]
 have oY:0≤c 16:=hc.g.part;have hpl:s.pt.length≤4096:=by have:=hi.ptl; have:=hc.q1; omega
 have sZ:s.V.length≤4096:=by have:=hi.len; have:=hc.g.cap1; omega
 have h5:0≤c 5:=by have:=hc.m5; omega
 have iE:(s.pt.take n).length=n:=by rw [Xl]; omega
 have HNx:=Za (fun m=>oD (h.drewN m) (mo:=c 16) oY Ze sX);have x16:=Eg.x16 h;have HC:=Za (Zh hc hi);have HX:=Za (Zh sX (Zh yA (Zh hPs (Zh oY (Zh hpl (Zh sZ (Zh h5 iE)))))));have HN:=Za hN;rw [hn,hA,hPP,hPs,lJ];have hlen:(pmOf Ps).length=Ps.length:=by simp [pmOf]
 rw [hlen];clear hc hi h hN hn sX hA hPs hPP yA oY hpl sZ h5 hlen iE;go_enter Tryz.func136,Tryz.ntmps136;go_wp2_with fail;refine wqT 8 ?_;refine BA ?_;iterate 8 (go_big_quiet_step ((intros; rfl)))
 refine Qc ?_;intro _ JB;obtain ⟨nr,Xh⟩:=JB;subst Xh;go_wp2_with fail;refine (HNx.out nr).mono ?_;rintro e w2 ⟨vd,rfl,h2,_⟩;obtain ⟨id,cd,rfl⟩:=XC (h2.row (r:=N) HN.out Ze xput_same);have H2:=Za h2;clear h2 HNx x16
 by_cases h0:n=0
 ·have d0:((n:Int)==0)=true:=by simp [h0]
  have hP0:Ps=[]:=by rw [←HX.out.2.2.1,h0,List.take_zero]; rfl
  have PG:s.V=A:=by rw [←HX.out.2.1,h0,List.take_zero]; rfl
  have h3:=((H2.out.drop HN.out).nil 61 3);have H3:Hid (Eg (N+1) w0 w2 c a q (ZD Z N (YK 61 3 (.slice none 0 0) Ps.length (Yl VS Ps))) { s with V:=A,P:=s.P+UF Ps,pt:=s.pt.drop n} L):=Za (by
   rw [hP0,←PG];have e:s.P+UF []=s.P:=by simp [UF]
   rw [e];exact h3)
  have HNe:=Za h0;clear h3 hP0 PG h0 H2;go_wp2_with fail;go_ret2;exact ⟨_,by rw [HNe.out]; rfl,H3.out⟩
 ·have d0:((n:Int)==0)=false:=by simp [h0]
  have hPp: ∀p ∈ Ps,0 < p.am∧ ∃i:Nat,p.ix=(i:Int)∧i < s.V.length:=fun p hp=>by
   rw [←HX.out.2.2.1] at hp;obtain ⟨g1,_,i,v,g2,g3,_⟩:=(DH (c 5) HX.out.2.2.2.2.2.2.1 _ s.V (fun r hr=>HC.out.2.ptf r (ZK hr)) HC.out.2.fits).2 p hp;exact ⟨g1,i,g2,(Zi.1 g3).1⟩
  have yB:A.length=s.V.length:=by rw [←HX.out.2.1]; exact De _ _ _
  have hAf: ∀v ∈ A,Yo v:=by
   rw [←HX.out.2.1];exact Ex (c 5) HX.out.2.2.2.2.2.2.1 _ _ (fun r hr=>HC.out.2.ptf r (ZK hr)) HC.out.2.fits
  have hAt:Zz A=Zz s.V - UF Ps:=by rw [←HX.out.2.1,←HX.out.2.2.1]; exact FM _ _ _
  have pC: ∀j,j < s.V.length→j ∉ Ps.map pyN→s.V.getD j ZZ=A.getD j ZZ:=fun j hj Dj=>by
   rw [←HX.out.2.1];refine (vZ HX.out.2.2.2.2.2.2.1 (fun r hr=>HC.out.2.ptf r (ZK hr)) HC.out.2.fits hj fun p hp e=>?_).symm;rw [HX.out.2.2.1] at hp;exact Dj (Yk.2 ⟨p,hp,by unfold pyN; omega⟩)
  have hPl:Ps.length≤4096:=by
   have h1:=OD (c 5) (s.pt.take n) s.V;rw [HX.out.2.2.1,HX.out.2.2.2.2.2.2.2] at h1;have:=HX.out.1; have:=HX.out.2.2.2.2.1; omega
  have HY:=Za (Zh hPp (Zh yB (Zh hAf (Zh hAt pC))));have hn5:n≤4096:=by have:=HX.out.1; have:=HX.out.2.2.2.2.1; omega
  clear h0 hPp yB hAf hAt pC;go_wp2_with fail;refine Pu (fun w'=>Blk w' q.e 107 (Uw c a q)) 9 [0,1,2,3,4,6,7,8,9,10] (?_) ?_
  ·exact H2.out.drew.blk
  refine Kg ?_;refine gK ?_;refine BN ?_;refine Zfy ?_;refine Qe ?_;refine BN ?_;refine Pf 24 _ q.e 0 (Zk c) _ rfl rfl rfl (fun w h=>Nh h) ZC rfl XG ?_;refine Qc ?_;have H3:=Za H2.out.drew;clear H2;generalize w2.drew=V3 at*;refine EE ?_;refine JZ #[.pointer (some ⟨a.r,0,none⟩)] Tryz.call55 ((Eg.all H3.out).mono ?_);rintro e w4 ⟨va,rfl,h4,_⟩;have H4:=Za h4;refine ⟨_,rfl,h4.blk,?_⟩;clear h4 H3;have gO:Hid (Zj Zb 218 #[va,.slice id n cd,.agg (Zk c)] w4 fun e w'=> ∃v p,e= .returned (.tuple #[v,p,.int .i64 (n:Int)])∧Eg (N+1+1+2) w0 w' c a q (ZD (ZD (ZD (ZD Z N (YK 75 2 (.slice id n cd) n (Jo (s.pt.take n)))) (N+1) (YK 63 7 va s.V.length (XD s.V))) (N+1+1) (YK 63 7 v s.V.length (XD A))) (N+1+1+1) (YK 61 3 p Ps.length (Yl VS Ps))) { s with pt:=s.pt.drop n} L):=Za (by
   have r1:=H4.out.row (r:=N) HN.out Ze Ug;obtain ⟨ab,ac,rfl,hl⟩:=H4.out.lst (r:=N+1) ZJ Ze xput_same;have hcd:n≤cd:=by
    rcases r1.2 with ⟨e1,e2⟩ | ⟨g1,cp1,cur,e1,_,_,e3,_⟩
    ·omega
    ·injection e1 with _ _ e4; omega
   have hq:Kc Rq.row 2 w4 (fun _=>False) id (s.pt.take n):=fun h0=>by
    rcases r1.2 with ⟨e1,e2⟩ | ⟨g1,cp1,cur,e1,_,e2,_⟩
    ·have:=HX.out.2.2.2.2.2.2.2; omega
    ·injection e1 with e1 _ _;refine ⟨g1,0,e1,fun h=>h,(Yu.1 e2).1,fun i v hi=>?_⟩;subst e1;intro j u hj;have DW:=(Zi.1 hj).1;have:=r1.cells rfl (i*2+j) u (by unfold Jo; rw [EN (row:=Rq.row) (k:=2) (fun _=>rfl) hi DW]; exact hj);rw [add_plain] at this;rw [ZX] at this ⊢;exact this
   have:=cD ab id ac cd s.V (s.pt.take n) c w4 hl hq HC.out.2.fits (fun r hr=>HC.out.2.ptf r (ZK hr)) HX.out.2.2.2.2.2.2.1 HX.out.2.2.2.1 HX.out.2.2.2.2.2.1 (by rw [HX.out.2.2.2.2.2.2.2]; omega) (by rw [HX.out.2.2.2.2.2.2.2]; exact hcd);have e1:UE c (s.pt.take n)=n:=by unfold UE; rw [HX.out.2.2.2.2.2.2.2]; have:=HX.out.1; omega
   rw [e1,HX.out.2.2.2.2.2.2.2,Yv (by rw [HX.out.2.2.2.2.2.2.2]; exact Zg _),HX.out.2.1,HX.out.2.2.1] at this;refine this.mono fun e w' ⟨v,p,he,g1,g2,g3⟩=>⟨v,p,he,H4.out.fresh2 g1 g2 YU g3⟩)
  refine hfO (i:=11) ?_;refine JG ?_;refine JZ #[va,.slice id n cd,.agg (Zk c)] Tryz.call218 ((gO.out).mono ?_);rintro e w5 ⟨vA,vP,rfl,h5⟩;refine ⟨_,rfl,h5.blk,?_⟩;have xX:=Za h5.blk;have rA:=h5.row (r:=N+1+1) ZJ Ze Ug;obtain ⟨iA,cA,rfl⟩:=XC rA;obtain ⟨ip,cp,rfl⟩:=XC (h5.row (r:=N+1+1+1) ZJ Ze xput_same);obtain ⟨m,hm⟩ : ∃m,Ps.length=m:=⟨_,rfl⟩;obtain ⟨nV,aN⟩ : ∃nV,s.V.length=nV:=⟨_,rfl⟩;have HM:=Za (Zh hm aN);rw [hm,aN] at h5;rw [hm] at hPl;have H5:=Za h5;rw [hm,aN];clear gO H4 h5 rA hm aN;refine JG ?_;refine FX (fun w'=>Blk w' q.e 107 (Uw c a q)) (m:=7) (f:=0) [12,13,14,15,16,17,18] (?_) ?_
  ·exact xX.out
  refine Kg ?_;show ZW _ _ _ _ [_,_,_,_,_,_,_] _;refine gL ?_;refine Qc ?_;clear xX;refine ⟨by kernel_rfl,Yr ?_⟩;refine JG ?_;go_wp2_with fail;go_loopw [40] (fun s40 wr=> ∃(k:Nat) (W:List Yd),k≤m∧s40= .int .i64 k∧Hid (Wx s.V A ((Ps.take k).map pyN) W∧Eg (N+1+1+2) w0 wr c a q (ZD (ZD (ZD (ZD Z N (YK 75 2 (.slice id n cd) n (Jo (s.pt.take n)))) (N+1) (YK 63 7 va nV (XD s.V))) (N+1+1) (YK 63 7 (.slice iA nV cA) nV (XD A))) (N+1+1+1) (YK 61 3 (.slice ip m cp) m (Yl VS Ps))) { s with V:=W,P:=s.P+UF (Ps.take k),pt:=s.pt.drop n} L)) (fun s40 _=>m -(intOf s40).toNat)
  case atStart=>exact ⟨0,s.V,by omega,rfl,Za ⟨Wx.refl _ _,by
   have e:s.P+UF (Ps.take 0)=s.P:=by simp [UF]
   rw [e]; exact H5.out⟩⟩
  case round=>
   obtain ⟨k,W,hk,rfl,HE⟩:=hrel
   by_cases XP:k < m
   ·obtain ⟨p,hp⟩ : ∃p,Ps[k]?=some p:=⟨_,Zf (by rw [HM.out.1]; exact XP)⟩;have rP:=HE.out.2.row (r:=N+1+1+1) ZJ Ze xput_same;obtain ⟨gP,rfl,iD⟩:=LR (row:=VS) Py.row_len rP Ze hp;obtain ⟨hpa,i,yM,Fz⟩:=HY.out.1 p (ZB hp);have px:=HE.out.1.set (i:=i) Fz;have ZeI:(Ps.take k).map pyN++[i]=(Ps.take (k+1)).map pyN:=by
     rw [YR,hp,Qt,List.map_append];show _=_++[p.ix.toNat];rw [yM]; rfl
    rw [ZeI] at px;have hsm:=mn hp;have mY:=xj (fun p hp=>(HY.out.1 p hp).1) (k+1);have hsp:=NL (l:=Ps.take k) (fun p hp=>(HY.out.1 p (ZK hp)).1);have PG:=Ka HY.out.2.2.1;have hAt:=HY.out.2.2.2.1;have aP:=HC.out.2.total HC.out.1;have ME:=HC.out.2.sum;have hmt:=px.total HY.out.2.1 HC.out.2.fits HY.out.2.2.1;have hp0:=HC.out.2.p0;have Wc:=HC.out.2.b0;have vc:=HC.out.2.d1;have Gl:=HC.out.2.cap;have hc4:=HC.out.1.a4;have hiA:i < A.length:=by rw [HY.out.2.1]; exact Fz
    have hxA:A[i]?=some (A.getD i ZZ):=by rw [Zq,Zf hiA]; rfl
    have hxW:W[i]?=some (W.getD i ZZ):=by rw [Zq,Zf (by rw [HE.out.1.1]; exact Fz)]; rfl
    rw [J3 hxW] at hmt;obtain ⟨vA,hvA⟩ : ∃vA,A.getD i ZZ=vA:=⟨_,rfl⟩;rw [hvA] at px hmt hxA;have hfA:Yo vA:=HY.out.2.2.1 vA (QM hxA);have rA:=HE.out.2.row (r:=N+1+1) ZJ Ze Ug;obtain ⟨gA,rfl,hrA⟩:=LR (row:=Yd.row) (sz:=7) (l:=A) (fun _=>rfl) rA (by have:=HM.out.2; omega) hxA;have WU:(i:Int)< (nV:Int):=by have:=HM.out.2; omega
    have MD: ¬(i:Int)< 0:=by omega
    have np:Hid (∀wx,Eg (N+1+1+2+1) w0 wx c a q (ZD (ZD (ZD (ZD (ZD Z N (YK 75 2 (.slice id n cd) n (Jo (s.pt.take n)))) (N+1) (YK 63 7 va nV (XD s.V))) (N+1+1) (YK 63 7 (.slice (some ⟨gA,0,none⟩) nV cA) nV (XD A))) (N+1+1+1) (YK 61 3 (.slice (some ⟨gP,0,none⟩) m cp) m (Yl VS Ps))) (N+1+1+2) (YW wr.heap.size 61 (J8 p))) { s with V:=W,P:=s.P+UF (Ps.take k),pt:=s.pt.drop n} L→Zj Zb 219 #[.pointer (some ⟨q.e,21,none⟩),.int .i64 p.ix,.agg (Zd vA),.int .u64 p.am] wx fun e w'=>e= .returned (.tuple #[])∧Wx s.V A ((Ps.take (k+1)).map pyN) (W.set i vA)∧Eg (N+1+1+2) w0 w' c a q (ZD (ZD (ZD (ZD Z N (YK 75 2 (.slice id n cd) n (Jo (s.pt.take n)))) (N+1) (YK 63 7 va nV (XD s.V))) (N+1+1) (YK 63 7 (.slice (some ⟨gA,0,none⟩) nV cA) nV (XD A))) (N+1+1+1) (YK 61 3 (.slice (some ⟨gP,0,none⟩) m cp) m (Yl VS Ps))) { s with V:=W.set i vA,P:=s.P+UF (Ps.take (k+1)),pt:=s.pt.drop n} L):=Za fun wx hx=>by
     have:=Zed hx (n:=i) (v:=W.getD i ZZ) (v':=vA) (x:=p.am) hxW hfA (by show Zz W - _+_≤_; omega) (by unfold JJ; simp only; omega) Ze LD;rw [←yM] at this;refine this.mono fun e w' ⟨he,h1⟩=>⟨he,px,?_⟩
     rw [hsm,←Int.add_assoc];exact h1.drop ZJ
    have HR:=Za (Zh iD hrA);have HV:=Za yM;clear hp rP iD hpa Fz px ZeI hsm mY hsp PG hAt aP ME hmt hp0 Wc vc Gl hc4 hiA hxA hxW hvA hfA rA hrA;go_upto_region 7 with (fail);have TO:=Za (HE.out.2.box (J8 p) 61);have hHr:Hid (wr.heap.size=wr.heap.size):=Za rfl;have ZeR:Hid ((wr.alloc (.cells (J8 p) 61)).rangeAt gA (i*7) vA.row):=Za (World.rangeAt_alloc HR.out.2 _);go_upto_region 8 with (first | (refine Jt rfl 61 _ rfl gP (k*3) rfl p.row _ HR.out.1 Tryz.underlying61 rfl pP ?_) | (refine Zo rfl _ _ _ rfl wr.heap.size (J8 p) rfl rfl 61 _ (ZG wr _) pP rfl (I0 _) ?_; rw [Zu]));refine JG ?_;clear HE HR hHr;generalize wr.heap.size=zp at*;generalize wr.alloc (.cells (J8 p) 61)=W1 at*;have kp0:W1.cell? ⟨zp,0,none⟩=some (.int .i64 (i:Int)):=by rw [←HV.out]; exact (VZ TO.out (r:=N+1+1+2) ZJ Ze xput_same).cell 0
    have kp1:W1.cell? ⟨zp,1,none⟩=some (.int .u64 p.am):=(VZ TO.out (r:=N+1+1+2) ZJ Ze xput_same).cell 1;rw [HV.out] at np;refine wqT 12 ?_;refine BA ?_;iterate 9 (go_big_quiet_step ((intros; rfl)))
    refine JQ 63 _ gA (i*7) vA _ rfl rfl rfl (fun w' h=>by obtain ⟨m,rfl⟩:=h; exact ZeR.out) Zr rfl Ym ?_;refine JG ?_;refine BL ?_;refine Qc ?_;intro _ JB;obtain ⟨nr,Xh⟩:=JB;subst Xh;have sH:=Za (np.out _ (TO.out.drewN nr));clear TO np kp0 kp1 ZeR;go_wp2_with fail;refine sH.out.mono ?_;rintro e w6 ⟨rfl,h6a,h6b⟩;have H6:=Za (Zh h6a h6b);clear h6a h6b sH;go_wp2_with fail;go_roundw
    case rel=>exact ⟨k+1,W.set i vA,by omega,by go_num,H6⟩
    case measure=>exact Bl
   ·obtain rfl:k=m:=by omega
    clear XP;have XP: ¬k < k:=by omega
    have H7:Hid (Eg (N+1) w0 wr c a q (ZD Z N (YK 61 3 (.slice ip k cp) Ps.length (Yl VS Ps))) { s with V:=A,P:=s.P+UF Ps,pt:=s.pt.drop n} L):=Za (by
     have h1:=HE.out;rw [Yv (by rw [HM.out.1]; exact Zg _)] at h1;have e:=h1.1.done HY.out.2.1 HY.out.2.2.2.2;have h2:=h1.2;rw [e] at h2;rw [HM.out.1];exact Eg.pick (m:=3) h2 HN.out (fun k h1 h2=>by rw [xput_ne Ze,xput_ne Ze,xput_ne Ze,xput_ne Ze]) xput_same)
    clear HE;go_wp2_with fail;go_ret2;exact ⟨_,rfl,H7.out⟩
end
end
section
open Go Go.RowKit Go.Deep
def AV (V:List Yd)(mg:List (Int × Int)) :Prop:= ∀p ∈ mg,∃i j:Nat,p=((i:Int),(j:Int))∧i < V.length∧j < V.length
def prN (l:List (Int × Int)) :List Nat:=l.flatMap fun p=> [p.1.toNat,p.2.toNat]
theorem qJ {l:List (Int × Int)}{k i j:Nat}(hk:l[k]?=some ((i:Int),(j:Int))) :prN (l.take (k+1))=prN (l.take k)++[i]++[j]:=by
 unfold prN;rw [YR,hk,Qt,List.flatMap_append];simp
section
variable {N:Nat} {w0:DR} {w w' w1:Zc} {c cf:Nat→Int} {a:Pl} {q:Ql} {X Z:Nat→Zc→(Nat→Prop)→Prop} {s s':Sg} {L L':List QT} {k:Nat}
theorem Zec (h:Eg N w0 w c a q Z s L){V A:List Yd}{F:List Nat}(hm:Wx V A F s.V){i:Nat}(hi:i < V.length)(hl:A.length=V.length)(hv: ∀v ∈ V,Yo v)(ha: ∀v ∈ A,Yo v)(ht:Zz V+Zz A≤18446744073709551615) :
  Zj Zb 187 #[.pointer (some ⟨a.r,0,none⟩),.int .i64 (i:Int),.agg (Zd (A.getD i ZZ))] w fun e w'=>e= .returned (.int .i64 0)∧Wx V A (F++[i]) (s.V.set i (A.getD i ZZ))∧Eg N w0 w' c a q Z { s with V:=s.V.set i (A.getD i ZZ)} L:=by
 have h2:=hm.set (i:=i) hi;have h3:=h2.total hl hv ha;have hiA:i < A.length:=by rw [hl]; exact hi
 have hx:s.V[i]?=some (s.V.getD i ZZ):=by rw [Zq,Zf (by rw [hm.1]; exact hi)]; rfl
 have hfa:Yo (A.getD i ZZ):=ha _ (by rw [Zq,Zf hiA]; exact KD hiA);rw [J3 hx] at h3;obtain ⟨X,hX,Uf,hh,hK,_⟩:=h.open;exact (hh.set hX Uf hx hfa Ze).mono fun e w' ⟨he,h1⟩=>⟨he,h2,hK _ _ _ h1 rfl rfl⟩
theorem iW {w:Zc}{g n cp i:Nat}{A:List Yd}(h:w.ownsRow 0 63 7 (.slice (some ⟨g,0,none⟩) n cp) n (XD A))(hi:i < A.length) :w.rangeAt g (i*7) (A.getD i ZZ).row:=by
 have h0:=h.1;have hl:(XD A).length=A.length*7:=UO (row:=Yd.row) (k:=7) (fun _=>rfl) A;have hx:A[i]?=some (A.getD i ZZ):=by rw [Zq,Zf hi]; rfl
 obtain ⟨g2,e,h2⟩:=LR (row:=Yd.row) (sz:=7) (l:=A) (fun _=>rfl) h Ze hx;injection e with e;injection e with e _ _;rw [e]; exact h2
theorem uM (hc:GE c)(h:Eg N w0 w c a q Z s L)(hf: ∀v ∈ s.V,Yo v)(ht:Zz s.V≤1152921504606846976)(sZ:s.V.length≤4096)(mU:s.mg.length≤4096)(pw:AV s.V s.mg) :
  Zj Zb 216 #[.pointer (some ⟨q.e,0,none⟩)] w fun e w'=>e= .returned (.tuple #[])∧Eg N w0 w' c a q Z { s with V:=Ki (c 6) s.V (s.mg.take (BJ c s.mg)),mg:=s.mg.drop (BJ c s.mg)} L:=by
 have hN:=h.low;obtain ⟨n,hn⟩ : ∃n,BJ c s.mg=n:=⟨_,rfl⟩;have sX:min (c 17).toNat s.mg.length=n:=hn;obtain ⟨A,hA⟩ : ∃A,Ki (c 6) s.V (s.mg.take n)=A:=⟨_,rfl⟩;have h17:=hc.m17;have iE:(s.mg.take n).length=n:=by rw [Xl]; omega
 have HNx:=Za (fun m=>oC (h.drewN m) (mo:=c 17) h17 Ze sX);have x17:=Eg.x17 h;have HX:=Za (Zh sX (Zh hA (Zh iE (Zh mU (Zh sZ (Zh hf (Zh ht (Zh pw hc))))))));have HN:=Za hN;rw [hn,hA];clear hc h hf ht sZ mU pw hN hn sX hA h17 iE;go_enter Tryz.func216,Tryz.ntmps216;go_wp2_with fail;refine wqT 8 ?_;refine BA ?_;iterate 8 (go_big_quiet_step ((intros; rfl)))
 refine Qc ?_;intro _ JB;obtain ⟨nr,Xh⟩:=JB;subst Xh;go_wp2_with fail;refine (HNx.out nr).mono ?_;rintro e w2 ⟨vd,rfl,h2,_⟩;obtain ⟨id,cd,rfl⟩:=XC (h2.row (r:=N) HN.out Ze xput_same);have H2:=Za h2;clear h2 HNx x17
 by_cases h0:n=0
 ·have d0:((n:Int)==0)=true:=by simp [h0]
  have PG:s.V=A:=by rw [←HX.out.2.1,h0,List.take_zero]; rfl
  have H3:Hid (Eg N w0 w2 c a q Z { s with V:=A,mg:=s.mg.drop n} L):=Za (by rw [←PG]; exact H2.out.drop HN.out);clear PG h0 H2;go_wp2_with fail;refine rK ?_;exact ⟨rfl,H3.out⟩
 ·have d0:((n:Int)==0)=false:=by simp [h0]
  have yB:A.length=s.V.length:=by rw [←HX.out.2.1]; exact OC _ _ _
  have hAf: ∀v ∈ A,Yo v:=by rw [←HX.out.2.1]; exact Tp _ _ _ HX.out.2.2.2.2.2.1
  have hAt:Zz s.V+Zz A≤18446744073709551615:=by
   have h1:=(Tq (c 6) (s.mg.take n) s.V).1;rw [HX.out.2.1] at h1;exact jE
  have pC: ∀j,j < s.V.length→j ∉ prN (s.mg.take n)→s.V.getD j ZZ=A.getD j ZZ:=fun j hj Dj=>by
   rw [←HX.out.2.1];refine (Aw (c 6) _ _ _ fun p hp=>⟨fun e=>Dj ?_,fun e=>Dj ?_⟩).symm
   ·unfold prN; exact UK.2 ⟨p,hp,by simp [e]⟩
   ·unfold prN; exact UK.2 ⟨p,hp,by simp [e]⟩
  have HY:=Za (Zh yB (Zh hAf (Zh hAt pC)));have hn5:n≤4096:=by have:=HX.out.1; have:=HX.out.2.2.2.1; omega
  clear h0 yB hAf hAt pC;go_wp2_with fail;refine Pu (fun w'=>Blk w' q.e 107 (Uw c a q)) 7 [0,1,2,3,4,6,7,8,9,10] (?_) ?_
  ·exact H2.out.drew.blk
  refine Kg ?_;refine gK ?_;refine BN ?_;refine Zfy ?_;refine Qe ?_;refine BN ?_;refine Pf 24 _ q.e 0 (Zk c) _ rfl rfl rfl (fun w h=>Nh h) ZC rfl XG ?_;refine Qc ?_;have H3:=Za H2.out.drew;clear H2;generalize w2.drew=V3 at*;refine EE ?_;refine JZ #[.pointer (some ⟨a.r,0,none⟩)] Tryz.call55 ((Eg.all H3.out).mono ?_);rintro e w4 ⟨va,rfl,h4,_⟩;have H4:=Za h4;refine ⟨_,rfl,h4.blk,?_⟩;clear h4 H3;have gO:Hid (Zj Zb 264 #[va,.slice id n cd,.agg (Zk c)] w4 fun e w'=> ∃v v2,e= .returned (.tuple #[v,v2])∧Eg (N+1+1+1) w0 w' c a q (ZD (ZD (ZD Z N (YK 73 2 (.slice id n cd) n (JA (s.mg.take n)))) (N+1) (YK 63 7 va s.V.length (XD s.V))) (N+1+1) (YK 63 7 v s.V.length (XD A))) { s with mg:=s.mg.drop n} L):=Za (by
   have r1:=H4.out.row (r:=N) HN.out Ze Ug;obtain ⟨ab,ac,rfl,hl⟩:=H4.out.lst (r:=N+1) ZJ Ze xput_same;have hq:dh w4 (fun _=>False) id (s.mg.take n):=fun h0=>by
    rcases r1.2 with ⟨e1,e2⟩ | ⟨g1,cp1,cur,e1,_,e2,_⟩
    ·have:=HX.out.2.2.1; omega
    ·injection e1 with e1 _ _;refine ⟨g1,0,e1,fun h=>h,(Yu.1 e2).1,fun i v hi=>?_⟩;subst e1;intro j u hj;have DW:=(Zi.1 hj).1;have:=r1.cells rfl (i*2+j) u (by unfold JA; rw [EN (row:=JE) (k:=2) (fun _=>rfl) hi DW]; exact hj);rw [add_plain] at this;rw [ZX] at this ⊢;exact this
   have:=cC ab id ac cd s.V (s.mg.take n) c w4 hl hq HX.out.2.2.2.2.2.1 HX.out.2.2.2.2.2.2.2.2.m17 HX.out.2.2.2.2.1 (by rw [HX.out.2.2.1]; omega);have e1:BJ c (s.mg.take n)=n:=by unfold BJ; rw [HX.out.2.2.1]; have:=HX.out.1; omega
   rw [e1,HX.out.2.2.1,Yv (by rw [HX.out.2.2.1]; exact Zg _),HX.out.2.1] at this;exact this.mono fun e w' ⟨v,g,he,g1,_,_,_,g3⟩=>⟨v,_,he,H4.out.fresh g1 g3⟩)
  refine hfO (i:=11) ?_;refine JG ?_;refine JZ #[va,.slice id n cd,.agg (Zk c)] Tryz.call264 ((gO.out).mono ?_);rintro e w5 ⟨vA,vB2,rfl,h5⟩;refine ⟨_,rfl,h5.blk,?_⟩;have xX:=Za h5.blk;obtain ⟨iA,cA,rfl⟩:=XC (h5.row (r:=N+1+1) ZJ Ze xput_same);obtain ⟨nV,aN⟩ : ∃nV,s.V.length=nV:=⟨_,rfl⟩;have HM:=Za aN;rw [aN] at h5;have H5:=Za h5;rw [aN];clear gO H4 h5 aN;refine JG ?_;refine FX (fun w'=>Blk w' q.e 107 (Uw c a q)) (m:=5) (f:=0) [12,13,14,15,16] (?_) ?_
  ·exact xX.out
  refine Kg ?_;refine NX ?_;refine TJ ?_;refine Qc ?_;clear xX;refine ⟨by kernel_rfl,Yr ?_⟩;refine JG ?_;go_wp2_with fail;go_loopw [38] (fun s38 wr=> ∃(k:Nat) (W:List Yd),k≤n∧s38= .int .i64 k∧Hid (Wx s.V A (prN ((s.mg.take n).take k)) W∧Eg (N+1+1+1) w0 wr c a q (ZD (ZD (ZD Z N (YK 73 2 (.slice id n cd) n (JA (s.mg.take n)))) (N+1) (YK 63 7 va nV (XD s.V))) (N+1+1) (YK 63 7 (.slice iA nV cA) nV (XD A))) { s with V:=W,mg:=s.mg.drop n} L)) (fun s38 _=>n -(intOf s38).toNat)
  case atStart=>exact ⟨0,s.V,by omega,rfl,Za ⟨Wx.refl _ _,H5.out⟩⟩
  case round=>
   obtain ⟨k,W,hk,rfl,HE⟩:=hrel
   by_cases XP:k < n
   ·obtain ⟨p,hp⟩ : ∃p,(s.mg.take n)[k]?=some p:=⟨_,Zf (by rw [HX.out.2.2.1]; exact XP)⟩;obtain ⟨i,j,rfl,hi,hj⟩:=HX.out.2.2.2.2.2.2.2.1 p (ZK (ZB hp));have O4:wr.ownsRow 0 73 2 (.slice id n cd) n (Yl JE (s.mg.take n)):=HE.out.2.row (r:=N) HN.out Ze (by rw [xput_ne Ze,xput_ne Ze,xput_same]; rfl);obtain ⟨gD,eid,iD⟩:=LR (row:=JE) (sz:=2) (l:=s.mg.take n) (fun _=>rfl) O4 Ze hp;subst eid;clear O4;have hps:=qJ hp;have hAi:i < A.length:=by rw [HY.out.1]; exact hi
    have hAj:j < A.length:=by rw [HY.out.1]; exact hj
    have WU:(i:Int)< (nV:Int):=by have:=HM.out; omega
    have Dj:(j:Int)< (nV:Int):=by have:=HM.out; omega
    have MD: ¬(i:Int)< 0:=by omega
    have aI: ¬(j:Int)< 0:=by omega
    have HI:=Za (Zh hi (Zh hAi WU));have HJ:=Za (Zh hj (Zh hAj Dj));have HPs:=Za hps;have HRg:=Za iD;clear hp hi hj iD hps hAi hAj;go_upto_region 5 with (fail);have TO:=Za (HE.out.2.below ((Zp _ _).alloc (Zg _) (.cells (cellsP ((i:Int),(j:Int))) 73)));have HMd:=Za HE.out.1;have Wu:Hid (Blk (wr.alloc (.cells (cellsP ((i:Int),(j:Int))) 73)) wr.heap.size 73 (cellsP ((i:Int),(j:Int)))):=Za (Blk.new _ _ _);go_upto_region 6 with (first | (refine Jt rfl 73 _ rfl gD (k*2) rfl (JE ((i:Int),(j:Int))) _ HRg.out XW rfl Bf ?_) | (refine Zo rfl _ _ _ rfl wr.heap.size (cellsP ((i:Int),(j:Int))) rfl rfl 73 _ (ZG wr _) Bf rfl (Uv _) ?_; rw [Zu]));refine JG ?_;clear HE HRg;generalize wr.heap.size=zp at*;generalize wr.alloc (.cells (cellsP ((i:Int),(j:Int))) 73)=W1 at*;go_wp2_with (first | (refine wpList_load_row rfl 73 _ rfl zp rfl 73 _ (0,0) _ Wu.out XW rfl Bf ?_));clear Wu;simp only [cellsP,JE];have ej: ∀W:Zc,(Xi 73 (.agg #[.int .i64 (i:Int),.int .i64 (j:Int)]) (.int .i64 0)).run Zb W= .ok (.int .i64 (i:Int)) W:=fun W=>by kernel_rfl
    have iH: ∀W:Zc,(Xi 73 (.agg #[.int .i64 (i:Int),.int .i64 (j:Int)]) (.int .i64 1)).run Zb W= .ok (.int .i64 (j:Int)) W:=fun W=>by kernel_rfl
    obtain ⟨gA,rfl,Iu⟩ : ∃gA,iA=some ⟨gA,0,none⟩∧Hid (∀x,x < A.length→W1.rangeAt gA (x*7) (A.getD x ZZ).row):=by
     have r0:W1.ownsRow 0 63 7 (.slice iA nV cA) nV (XD A):=TO.out.row (r:=N+1+1) ZJ Ze xput_same
     rcases r0.2 with ⟨h1,_⟩ | ⟨g,BB,cur,h1,_⟩
     ·injection h1 with _ h3 _; exact absurd WU Ze
     ·injection h1 with h1 _ _;subst h1;exact ⟨g,rfl,Za fun x hx=>iW r0 hx⟩
    refine wp_loop_rounds 3 ?_;rw [YT];go_wp2_with fail;refine wqT 10 ?_;refine BA ?_;refine BN ?_;refine YJ _ _ ⟨q.e,21,none⟩ (.pointer (some ⟨a.r,0,none⟩)) rfl rfl rfl (fun w h=>by simp [go_sem,h]) (fun w' h=>by obtain ⟨m,rfl⟩:=h; exact (TO.out.blk.drewN _).cell 21) ?_;refine Qe ?_;refine BN ?_;refine JQ 63 _ gA (i*7) (A.getD i ZZ) _ rfl rfl rfl (fun w' h=>by obtain ⟨m,rfl⟩:=h; exact Iu.out i HI.out.2.1) Zr rfl Ym ?_;refine JG ?_;refine Qc ?_;intro _ JB;obtain ⟨nr1,Xh⟩:=JB;subst Xh;go_wp2_with fail;refine (Zec (TO.out.drewN nr1) HMd.out HI.out.1 HY.out.1 HX.out.2.2.2.2.2.1 HY.out.2.1 HY.out.2.2.1).mono ?_;rintro e W2 ⟨rfl,cX,he2⟩;have ZdA:=Za cX;have Hh:=Za he2;clear TO Iu HMd cX he2;have HR2:Hid (∀x,x < A.length→W2.rangeAt gA (x*7) (A.getD x ZZ).row):=by
     have r0:W2.ownsRow 0 63 7 (.slice (some ⟨gA,0,none⟩) nV cA) nV (XD A):=Hh.out.row (r:=N+1+1) ZJ Ze xput_same;exact Za fun x hx=>iW r0 hx
    go_wp2_with fail;rw [YT];go_wp2_with fail;refine wqT 10 ?_;refine BA ?_;refine BN ?_;refine YJ _ _ ⟨q.e,21,none⟩ (.pointer (some ⟨a.r,0,none⟩)) rfl rfl rfl (fun w h=>by simp [go_sem,h]) (fun w' h=>by obtain ⟨m,rfl⟩:=h; exact (Hh.out.blk.drewN _).cell 21) ?_;refine Qe ?_;refine BN ?_;refine JQ 63 _ gA (j*7) (A.getD j ZZ) _ rfl rfl rfl (fun w' h=>by obtain ⟨m,rfl⟩:=h; exact HR2.out j HJ.out.2.1) Zr rfl Ym ?_;refine JG ?_;refine Qc ?_;intro _ JB;obtain ⟨nr2,Xh⟩:=JB;subst Xh;go_wp2_with fail;refine (Zec (Hh.out.drewN nr2) ZdA.out HJ.out.1 HY.out.1 HX.out.2.2.2.2.2.1 HY.out.2.1 HY.out.2.2.1).mono ?_;rintro e W3 ⟨rfl,hm3,he3⟩;have MX:=Za (Zh hm3 he3);clear Hh HR2 ZdA hm3 he3;go_wp2_with fail;rw [YT];go_wp2_with fail;refine ⟨⟨k+1,_,by omega,by rfl,Za ⟨?_,MX.out.2⟩⟩,?_⟩
    ·rw [HPs.out]; exact MX.out.1
    ·show n -((k:Int)+1).toNat < n -((k:Int)).toNat;omega
   ·obtain rfl:k=n:=by omega
    clear XP;have XP: ¬k < k:=by omega
    have H7:Hid (Eg N w0 wr c a q Z { s with V:=A,mg:=s.mg.drop k} L):=Za (by
     have h1:=HE.out;rw [Yv (by rw [HX.out.2.2.1]; exact Zg _)] at h1;have e:=h1.1.done HY.out.1 HY.out.2.2.2;have h2:=h1.2;rw [e] at h2;exact (((h2.less ZJ).less ZJ).less HN.out).ext fun k h1 h2=>by rw [xput_ne Ze,xput_ne Ze,xput_ne Ze])
    exact jx
end
end
section
open Go Go.RowKit Go.Deep
theorem ay (e:Int)(i:Nat) : ∀(A:List Nat) (V:List Yd),Jl e V (A++[i])=(Jl e V A).set i (Hx e ((Jl e V A).getD i ZZ)).2∧Qi e V (A++[i])=Qi e V A++[⟨i,WR e ((Jl e V A).getD i ZZ),true⟩]
 | [],V=>⟨rfl,rfl⟩
 | j::A,V=>by
  obtain ⟨h1,h2⟩:=ay e i A (V.set j (Hx e (V.getD j ZZ)).2);refine ⟨?_,?_⟩
  ·rw [Yh]; exact h1
  ·rw [Yh]; show _::_=_::_++_; rw [Yh]; exact congrArg _ h2
theorem kJ {e:Int}{V:List Yd}{F:List Nat}{k i:Nat}(hk:F[k]?=some i) :Jl e V (F.take (k+1))=(Jl e V (F.take k)).set i (Hx e ((Jl e V (F.take k)).getD i ZZ)).2∧Qi e V (F.take (k+1))=Qi e V (F.take k)++[⟨i,WR e ((Jl e V (F.take k)).getD i ZZ),true⟩]:=by
 rw [YR,hk,Qt];exact ay e i _ V
theorem ql {F:List Nat}(hn:F.Nodup){k i:Nat}(hk:F[k]?=some i) : ¬i ∈ F.take k:=fun h=>by
 obtain ⟨j,hj,e⟩:=List.getElem_of_mem h;rw [Xl] at hj;obtain ⟨P7,kQ⟩:=Zi.1 hk;rw [List.getElem_take] at e;exact absurd ((List.getElem_inj hn).1 (e.trans kQ.symm)) Ze
theorem Pr: ∀ {l:List Pm},(∀p ∈ l,0≤p.am)→0≤Vk l
 | [],_=>Int.le_refl _
 | p::l,h=>by
  have h1:=Pr (l:=l) (fun x hx=>h x Bj);have h2:=h p ZI;show 0≤p.am+Vk l;omega
section
variable {N:Nat} {w0:DR} {w w' w1:Zc} {c cf:Nat→Int} {a:Pl} {q:Ql} {X Z:Nat→Zc→(Nat→Prop)→Prop} {s s':Sg} {L L':List QT} {k:Nat}
theorem Eg.readsI (h:Eg N w0 w c a q Z s L){r:Nat}(UP:11≤r)(hr:r < N){b:Option Addr}{l:List Int}(hx:Z r=Kt L6 1 b l){k:Nat}{i:Int}(hk:l[k]?=some i) : ∃g off,b=some ⟨g,off,none⟩∧w.cell? ⟨g,off+k,none⟩=some (.int .i64 i):=by
 obtain ⟨X,hX,_,h,_,_,hz,_⟩:=h.open;obtain ⟨S,hp,_⟩:=h.part hr;rw [pt_high Ze,hz r UP hr,hx] at hp;obtain ⟨g,off,h1,_,_,h4⟩:=hp.1 (by have:=(Zi.1 hk).1; omega);refine ⟨g,off,h1,?_⟩;have:=h4 k i hk 0 _ rfl;rwa [Nat.mul_one,Nat.add_zero] at this
structure Wh (c:Nat→Int)(s:Sg) :Prop where
 vok: ∀v ∈ s.V,Vok s.ep v
 sum:Zz s.V+s.P+s.B=s.D
 p0:0≤s.P
 b0:0≤s.B
 d1:s.D≤18446744073709551615
 cap:s.D - s.P - s.B≤c 4
 c4:c 4≤18446744073709551615
 cu:s.cu≤100
 len:s.V.length≤100
theorem uS (h:Eg N w0 w c a q Z s L)(t:Tm c s)(hw:Wh c s){vs p:Int}{m0:Nat}(hm0:F8 (MY s.V) s.cu vs p=m0){F:List Nat}(hF:J4 (MY s.V) s.cu m0=F)(hn:F.Nodup)(hr: ∀i ∈ F,Bm s.V (MF s.ep) ((i:Nat) :Int)) :
  Zj Zb 137 #[.pointer (some ⟨q.e,0,none⟩),.int .i64 vs,.int .i64 p] w fun e w'=> ∃v,e= .returned (.tuple #[v,.int .i64 (m0:Int)])∧
   Eg (N+1) w0 w' c a q (ZD Z N (YK 61 3 v F.length (Yl Jb (Qi s.ep s.V F)))) { s with V:=Jl s.ep s.V F,P:=s.P+Vk (Qi s.ep s.V F),cu:=DN s.V.length s.cu m0} L:=by
 have hN:=h.low;obtain ⟨m,hm⟩ : ∃m,F.length=m:=⟨_,rfl⟩;have kR:m≤100:=by
  have h1:=List.Nodup.length_le_of_subset (l₂:=List.range s.V.length) hn (fun i hi=>List.mem_range.2 (by
   obtain ⟨j,v,e,hj,_⟩:=hr i hi;have:=(Zi.1 hj).1;omega))
  rw [List.length_range] at h1; have:=hw.len; omega
 have HSw:=Za (fun n:Nat=>ZaE (vs:=vs) (p:=p) h hw.cu hw.len);rw [hm0] at HSw;have hz:KS (MY s.V) s.cu m0=F.map fun i:Nat=>(i:Int):=by unfold KS; rw [hF]
 rw [hz,YE,hm] at HSw;have ni:Hid (∀k,cS s.ep s.V (Jl s.ep s.V (F.take k))∧Zz (Jl s.ep s.V (F.take k))=Zz s.V - Vk (Qi s.ep s.V (F.take k))∧(∀p ∈ Qi s.ep s.V (F.take k),0≤p.am∧p.fl=true)∧ ∀i,F[k]?=some i→ ∃u,s.V[i]?=some u∧MF s.ep u∧(Jl s.ep s.V (F.take k))[i]?=some u):=Za fun k=>by
  have hnt:(F.take k).Nodup:=hn.sublist (List.take_sublist _ _);have hrt: ∀i ∈ F.take k,Bm s.V (MF s.ep) ((i:Nat) :Int):=fun i hi=>hr i (ZK hi)
  obtain ⟨g1,g2,g3⟩:=EP _ _ hw.vok hnt hrt;refine ⟨g1,g2,g3,fun i hi=>?_⟩;obtain ⟨j,u,e,hj,hu⟩:=hr i (ZB hi);obtain rfl:i=j:=by omega
  exact ⟨u,hj,hu,((Co s.ep _ _ hnt hrt).2.1 i (ql hn hi)).trans hj⟩
 have HX:=Za (Zh hw (Zh t hm));have HN:=Za hN;obtain ⟨e0,aG⟩ : ∃e0,DN s.V.length s.cu m0=e0:=⟨_,rfl⟩;rw [aG] at HSw;rw [hm,aG];clear aG;clear h t hw hF hn hr hN hm hz hm0;go_enter Tryz.func137,Tryz.ntmps137;go_wp2_with fail;refine ((HSw.out 0)).mono ?_;rintro e w2 ⟨b2,cp,rfl,h2,_⟩;have H2:=Za (h2.nil 61 3);clear h2 HSw;go_wp2_with fail;go_loopw [10,28] (fun s10 s28 wr=> ∃(k:Nat) (pa:Option Addr) (pc:Nat),k≤m∧s10= .slice pa k pc∧s28= .int .i64 k∧Hid (Eg (N+1+1) w0 wr c a q (ZD (ZD Z N (Kt L6 1 b2 (F.map fun i:Nat=>(i:Int)))) (N+1) (YK 61 3 (.slice pa k pc) k (Yl Jb (Qi s.ep s.V (F.take k))))) { s with V:=Jl s.ep s.V (F.take k),P:=s.P+Vk (Qi s.ep s.V (F.take k)),cu:=e0} L)) (fun _ s28 _=>m -(intOf s28).toNat)
 case atStart=>exact ⟨0,none,0,by omega,rfl,rfl,Za (by
  have e:s.P+Vk (Qi s.ep s.V (F.take 0))=s.P:=by simp [Qi,Vk]
  rw [e]; exact H2.out)⟩
 case round=>
  obtain ⟨k,pa,pc,hk,rfl,rfl,HE⟩:=hrel
  by_cases XP:k < m
  ·obtain ⟨i,hi⟩ : ∃i,F[k]?=some i:=⟨_,Zf (by rw [HX.out.2.2]; exact XP)⟩;obtain ⟨g,off,eb,hc⟩:=HE.out.readsI (r:=N) (k:=k) (i:=(i:Int)) HN.out Ze Ug (by rw [ZP,hi]; rfl);subst eb;obtain ⟨aH,aP,So,cU⟩:=ni.out k;obtain ⟨u,hus,hru,iF⟩:=cU i hi;obtain ⟨DY,hsp⟩:=kJ (e:=s.ep) (V:=s.V) hi;have hpos1:=(ni.out (k+1)).2.2.1;have DV:(Jl s.ep s.V (F.take k)).getD i ZZ=u:=VT iF;obtain ⟨f1,f2⟩:=P5 hru.1 hru.2;rw [DV,f1] at DY;rw [DV,f2] at hsp;obtain ⟨v2,O5⟩ : ∃v2,({ u with bal:=0,st:=6} :Yd)=v2:=⟨_,rfl⟩;rw [O5] at DY;have hvu:=aH.vok u (QM iF);have cW:=hvu.fit;have kN:=cW.bal;have HPy:Hid (∀wx,Zj Zb 221 #[.agg (Zd u),.int .i64 s.ep] wx fun e w'=>e= .returned (.tuple #[.agg (Zd v2),.int .u64 u.bal,.int .i64 0])∧Zs wx.heap.size wx w'):=Za fun wx=>by
    have:=vX u s.ep wx cW.2 kN.1 kN.2;rw [show Dd [DF s.ep,Qu 5] u.bal u= .tuple #[.agg (Zd (Hx s.ep u).2),.int .u64 (WR s.ep u),.int .i64 (Hx s.ep u).1] from rfl,f1,f2,O5] at this;exact this
   have ME:=HX.out.1.sum;have h0P:=HX.out.1.p0;have h0B:=HX.out.1.b0;have vc:=HX.out.1.d1;have Gl:=HX.out.1.cap;have hc4:=HX.out.1.c4;have hsp0:=Pr (fun p hp=>(So p hp).1);have htn:=Ka (fun v hv=>(aH.vok v hv).fit);have vg:Yo v2:=by rw [←O5]; exact ⟨gh ZI ZI,rfl⟩
   have hv20:v2.bal=0:=by rw [←O5]
   have htu:u.bal≤Zz (Jl s.ep s.V (F.take k)):=by
    have h1:=J3 iF (v:=v2);have h2:=Ka (l:=(Jl s.ep s.V (F.take k)).set i v2) (fun v hv=>by
     rcases List.mem_or_eq_of_mem_set hv with h | rfl
     ·exact (aH.vok v h).fit
     ·exact vg)
    omega
   have np:Hid (∀wx zb,Eg (N+2+1) w0 wx c a q (ZD (ZD (ZD Z N (Kt L6 1 (some ⟨g,off,none⟩) (F.map fun i:Nat=>(i:Int)))) (N+1) (YK 61 3 (.slice pa k pc) k (Yl Jb (Qi s.ep s.V (F.take k))))) (N+2) (YW zb 63 (Zd v2))) { s with V:=Jl s.ep s.V (F.take k),P:=s.P+Vk (Qi s.ep s.V (F.take k)),cu:=e0} L→Zj Zb 219 #[.pointer (some ⟨q.e,21,none⟩),.int .i64 (i:Int),.agg (Zd v2),.int .u64 u.bal] wx fun e w'=>e= .returned (.tuple #[])∧Eg (N+1+1) w0 w' c a q (ZD (ZD Z N (Kt L6 1 (some ⟨g,off,none⟩) (F.map fun i:Nat=>(i:Int)))) (N+1) (YK 61 3 (.slice pa k pc) k (Yl Jb (Qi s.ep s.V (F.take k))))) { s with V:=Jl s.ep s.V (F.take (k+1)),P:=s.P+Vk (Qi s.ep s.V (F.take (k+1))),cu:=e0} L):=Za fun wx zb hx=>by
    have:=Zed hx (n:=i) (v:=u) (v':=v2) (x:=u.bal) iF vg (by show Zz (Jl s.ep s.V (F.take k)) - _+_≤_; omega) (by unfold JJ; simp only; omega) kN.1 LD;refine this.mono fun e w' ⟨he,h1⟩=>⟨he,?_⟩
    have h2:=h1.drop ZJ;have e1:s.P+Vk (Qi s.ep s.V (F.take (k+1)))=s.P+Vk (Qi s.ep s.V (F.take k))+u.bal:=by
     rw [hsp,Ls]; simp only [Vk]; omega
    rw [e1,DY];exact h2
   have HG:Hid (Zj Zb 70 #[.pointer (some ⟨a.r,0,none⟩),.int .i64 (i:Int)] wr fun e w'=>e= .returned (.tuple #[.agg (Zd u),.bool true])∧Zs wr.heap.size wr w'):=Za (by
    have:=HE.out.get (n:=i) (show i < (Jl s.ep s.V (F.take k)).length from (Zi.1 iF).1);rw [show ({ s with V:=Jl s.ep s.V (F.take k),P:=s.P+Vk (Qi s.ep s.V (F.take k)),cu:=e0} :Sg).V.getD i ZZ=u from DV] at this;exact this)
   have y0:wr.cell? ⟨q.e,21,none⟩=some (.pointer (some ⟨a.r,0,none⟩)):=Eg.x21 HE.out;have HSp:=Za hsp;clear hi aH aP So cU hus hru iF DY hsp hpos1 DV f1 f2 O5 hvu cW kN ME h0P h0B vc Gl hc4 hsp0 htn vg hv20 htu;go_wp2_with fail;refine HG.out.mono ?_;rintro e w3 ⟨rfl,hb⟩;have E3:Hid (Eg (N+2+1) w0 (w3.alloc (.cells (Zd u) 63)) c a q (ZD (ZD (ZD Z N (Kt L6 1 (some ⟨g,off,none⟩) (F.map fun i:Nat=>(i:Int)))) (N+1) (YK 61 3 (.slice pa k pc) k (Yl Jb (Qi s.ep s.V (F.take k))))) (N+2) (YW w3.heap.size 63 (Zd u))) { s with V:=Jl s.ep s.V (F.take k),P:=s.P+Vk (Qi s.ep s.V (F.take k)),cu:=e0} L):=Za ((HE.out.below hb).box (Zd u) 63);clear hb HE HG y0;go_upto_region 7 with (first | (refine Zo rfl _ _ _ rfl w3.heap.size (Zd u) rfl rfl 63 _ (ZG w3 _) Ym rfl (Yx _) ?_; rw [Zu]));generalize w3.heap.size=zb at*;generalize w3.alloc (.cells (Zd u) 63)=W3 at*;go_cut [15,16] from 42 to 51 (fun s15 s16 wx=>s15= .int .u64 u.bal∧s16= .int .i64 0∧Hid (Eg (N+2+1) w0 wx c a q (ZD (ZD (ZD Z N (Kt L6 1 (some ⟨g,off,none⟩) (F.map fun i:Nat=>(i:Int)))) (N+1) (YK 61 3 (.slice pa k pc) k (Yl Jb (Qi s.ep s.V (F.take k))))) (N+2) (YW zb 63 (Zd v2))) { s with V:=Jl s.ep s.V (F.take k),P:=s.P+Vk (Qi s.ep s.V (F.take k)),cu:=e0} L))
   case first=>
    have dZ:Eg (N+2) w0 W3.drew c a q (ZD (ZD Z N (Kt L6 1 (some ⟨g,off,none⟩) (F.map fun i:Nat=>(i:Int)))) (N+1) (YK 61 3 (.slice pa k pc) k (Yl Jb (Qi s.ep s.V (F.take k))))) { s with V:=Jl s.ep s.V (F.take k),P:=s.P+Vk (Qi s.ep s.V (F.take k)),cu:=e0} L:=E3.out.drew.drop ZJ;refine Pu (fun w'=>Eg (N+2) w0 w' c a q (ZD (ZD Z N (Kt L6 1 (some ⟨g,off,none⟩) (F.map fun i:Nat=>(i:Int)))) (N+1) (YK 61 3 (.slice pa k pc) k (Yl Jb (Qi s.ep s.V (F.take k))))) { s with V:=Jl s.ep s.V (F.take k),P:=s.P+Vk (Qi s.ep s.V (F.take k)),cu:=e0} L) 10 [1,2,3] (?_) ?_
    ·exact dZ
    refine Kg ?_;refine TK ?_;refine DP ?_;refine Qc ?_;have E4:=Za E3.out.drew;clear E3 np;generalize W3.drew=W4 at*;refine UQ (i:=0) (k:=4) Ye ZI ZI ?_ ?_
    ·refine YD rfl rfl (wp_load_row 63 _ rfl zb rfl 63 (Zd u) (0,0) _ (E4.out.blkAt (r:=N+2) ZJ Ze xput_same) Zr rfl Ym ?_);refine ⟨dZ,?_⟩;refine JG ?_;refine hfO (i:=4) ?_;refine JZ #[.pointer (some ⟨q.e,20,none⟩)] Ke ((Bd (s:= { s with V:=Jl s.ep s.V (F.take k),P:=s.P+Vk (Qi s.ep s.V (F.take k)),cu:=e0}) E4.out HX.out.2.1.b0 HX.out.2.1.b1 HX.out.2.1.l HX.out.2.1.q).mono ?_);rintro e w5 ⟨rfl,m1,rfl⟩;have E5:=Za (E4.out.drewN m1);have uZ:=dZ.drewN m1;refine ⟨_,rfl,uZ,?_⟩;clear E4 dZ;generalize W4.drewN m1=W5 at*;exact zT6
    ·refine JZ #[.pointer (some ⟨q.e,20,none⟩)] Ke ((Bd (s:= { s with V:=Jl s.ep s.V (F.take k),P:=s.P+Vk (Qi s.ep s.V (F.take k)),cu:=e0}) E4.out HX.out.2.1.b0 HX.out.2.1.b1 HX.out.2.1.l HX.out.2.1.q).mono ?_);rintro e w5 ⟨rfl,m1,rfl⟩;have E5:=Za (E4.out.drewN m1);have uZ:=dZ.drewN m1;refine ⟨_,rfl,uZ,?_⟩;clear E4 dZ;generalize W4.drewN m1=W5 at*;refine JG ?_;refine hfO (i:=0) ?_;refine YD rfl rfl (wp_load_row 63 _ rfl zb rfl 63 (Zd u) (0,0) _ (E5.out.blkAt (r:=N+2) ZJ Ze xput_same) Zr rfl Ym ?_);refine ⟨uZ,?_⟩;exact zT6
   case rest=>
    obtain ⟨rfl,rfl,E7⟩:=hcut;clear E3 HPy;generalize wc=W7 at*;go_wp2_with fail;have HB7:=Za (E7.out.blkAt (r:=N+2) ZJ Ze xput_same);refine wqT 6 ?_;refine BA ?_;refine BN ?_;refine ZfA ?_;refine Qe ?_;refine GN ?_;refine Qc ?_;intro _ JB;obtain ⟨nr,Xh⟩:=JB;subst Xh;have sH:=Za (np.out _ _ (E7.out.drewN nr));clear E7 np HB7;generalize W7.drewN nr=W8 at*;go_wp2_with fail;refine sH.out.mono ?_;rintro e w9 ⟨rfl,h9⟩;have H9:=Za h9;clear h9 sH;obtain ⟨j0,aI,BM,Wd,pb⟩:=gT;go_wp2_with (first | (refine Ha rfl 61 _ rfl ⟨(i:Int),u.bal,true⟩ Ye ?_) | (refine NS rfl _ ⟨(i:Int),u.bal,true⟩ rfl rfl ?_) | (at_builtin; refine Eg.grow H9.out (r:=N+1) ZJ (Nat.lt_succ_self _) xput_same rfl _ _ 40 rfl j0 _ 24 Tryz.underlying40 aI BM Wd pb (Fu _) YU rfl 1 (J8 ⟨(i:Int),u.bal,true⟩) 61 _ rfl rfl rfl ?c1 ?c2 ?c3 ?_))
    case c1=>exact Py.row_one _
    case c2=>unfold maxLen; omega
    case c3=>omega
    intro v' zi TQ _;obtain ⟨a2,c2,rfl⟩:=XC (TQ.row (r:=N+1) ZJ (Nat.lt_succ_self _) xput_same);rw [Xk] at TQ;have e10:Yl Jb (Qi s.ep s.V (F.take k))++(J8 ⟨(i:Int),u.bal,true⟩).toList=Yl Jb (Qi s.ep s.V (F.take (k+1))):=by
     rw [HSp.out,JP,EO]; rfl
    rw [e10] at TQ;have H10:=Za TQ;clear TQ e10 H9 HSp;go_wp2_with fail;go_roundw
    case rel=>exact ⟨k+1,a2,c2,by omega,rfl,by go_num,H10⟩
    case measure=>exact Bl
  ·obtain rfl:k=m:=by omega
   clear XP;have XP: ¬k < k:=by omega
   have H7:=HE.out;rw [Yv (by rw [HX.out.2.2]; exact Zg _)] at H7;have H8:Hid (Eg (N+1) w0 wr c a q (ZD Z N (YK 61 3 (.slice pa k pc) k (Yl Jb (Qi s.ep s.V F)))) { s with V:=Jl s.ep s.V F,P:=s.P+Vk (Qi s.ep s.V F),cu:=e0} L):=Za (Eg.pick (m:=1) H7 HN.out (fun k h1 h2=>by rw [xput_ne Ze,xput_ne Ze]) xput_same);clear HE H7;go_wp2_with fail;go_ret2;exact ⟨_,rfl,H8.out⟩
end
end
section
open Go Go.RowKit Go.Deep
theorem jO {V:List Yd}(h: ∀v ∈ V,Yo v) :LZ (Jz V):=fun j=>by
 unfold Jz;rw [Zq,ZP]
 cases hj:V[j]? with
 | none=>simp
 | some v=>exact (h v (QM hj)).bal
theorem Ic (V:List Yd) :ga V≤V.length:=List.countP_le_length
theorem xh (om:Int→Int)(F W:List Int)(B x:Int) :(Fc om F W B x).1.length≤F.length+W.length:=by
 have:=gV om F W (gr B x);show (DK om F W (gr B x)).1.length≤_;omega
theorem uH {e:Int}{V:List Yd}{L:List QT}{t:Int}(h:XO e V L) :Vq t L=((Vq t L).map Int.toNat).map We∧((Vq t L).map Int.toNat).Nodup∧ ∀i ∈ (Vq t L).map Int.toNat,i < V.length:=by
 have hm: ∀i ∈ Vq t L,∃n:Nat,i=(n:Int)∧n < V.length:=fun i hi=>by
  obtain ⟨m,u,e1,hu,_⟩:=(h.ub i).1 (Yk.2 ⟨_,Dz.1 hi,rfl⟩);exact ⟨m,e1,(Zi.1 hu).1⟩
 refine ⟨?_,?_,fun i hi=>?_⟩
 ·rw [VP];refine (List.map_id _).symm.trans (Gb fun i hi=>?_);obtain ⟨n,rfl,_⟩:=hm i hi;rfl
 ·refine List.pairwise_map.2 (List.Pairwise.imp_of_mem (fun {i j} hi hj KF e=>?_) (MC h.nd));obtain ⟨n,rfl,_⟩:=hm i hi;obtain ⟨m,rfl,_⟩:=hm j hj;exact KF (by rw [show n=m by simpa using e])
 ·obtain ⟨j,hj,rfl⟩:=Yk.1 hi;obtain ⟨n,rfl,hn⟩:=hm j hj;exact hn
def yo (s:Sg) :Sg:= { Qb s with V:=s.V.map (leaveV (s.ep+1))}
def mL (s:Sg) :Sg:= { Qb s with V:=BO (Qb s)}
def uj (s:Sg)(L:List QT) :List QT:=Lh (s.ep+1) (s.V.map (leaveV (s.ep+1))) L
def b3S (c:Nat→Int)(s:Sg) :Sg:= { yn (mL s) (M9 c (Qb s)) with V:=A7 c (Qb s)}
def b4S (c:Nat→Int)(s:Sg) :Sg:= { b3S c s with pd:=s.pd.drop (WA c (Qb s))}
def b5S (c:Nat→Int)(s:Sg) :Sg:= { b4S c s with V:=jT c (Qb s)}
section
variable {N:Nat} {w0:DR} {w w' w1:Zc} {c cf:Nat→Int} {a:Pl} {q:Ql} {X Z:Nat→Zc→(Nat→Prop)→Prop} {s s':Sg} {L L':List QT} {k:Nat}
theorem Eg.activate (h:Eg N w0 w c a q Z s L){r:Nat}(UP:11≤r)(hr:r < N){wv:Zl}{U:List Int}{nu:Nat}{lim:Int}(tc:Z r=YK 22 1 wv nu (U.map (ZR .u64)))(hl:U.length≤9223372036854775807)(hA:LZ U)(ZaX:BU lim) :
  Zj Zb 215 #[.pointer (some ⟨a.p,0,none⟩),.int .u64 lim,wv] w fun e w'=> ∃v,e= .returned v∧
   Eg (N+1) w0 w' c a q (ZD Z N (YK 3 1 v (FW lim (s.pd.map (KM U))) ((s.pd.take (FW lim (s.pd.map (KM U)))).map (ZR .i64)))) { s with pd:=s.pd.drop (FW lim (s.pd.map (KM U)))} L:=by
 obtain ⟨X,hX,Uf,hh,_,hK,hz,_⟩:=h.open;refine (hh.activate hX Uf (r:=r) Ze hr (hz r UP hr |>.trans tc) hl hA ZaX).mono fun e w' ⟨v,he,g1,_⟩=>⟨v,he,?_⟩
 exact hK _ _ _ _ g1 stays_row rfl rfl
theorem Eg.active (h:Eg N w0 w c a q Z s L) :Zj Zb 56 #[.pointer (some ⟨a.r,0,none⟩)] w fun e w'=>e= .returned (.int .u64 (Yy s.V))∧w=w':=by
 obtain ⟨X,hX,Uf,hh,_⟩:=h.open;exact hh.active Uf
theorem kb (hc:GE c)(hq8:c 8≤18446744073709551615)(hi:Inv c k s)(hk:k≤1000000)(hr:XO s.ep s.V L)(ZeK:(s.bk+1)%c 13=0)(pw:AV s.V s.mg)(h:Eg N w0 w c a q Z (Qb s) L) :
  Zj Zb 135 #[.pointer (some ⟨q.e,0,none⟩)] w fun e w'=> ∃v,e= .returned v∧
   Eg (N+1) w0 w' c a q (ZD Z N (YK 71 3 v (WB c (Qb s)).length (Yl Qf (WB c (Qb s))))) (bdS c (Qb s)) (sN c (Qb s) L):=by
 have hN:=h.low;have b:=nP hc hi hk;have ep0:=hi.ep0;have ep1:=hi.ep1;have bk1:=hi.bk1;have bk0:=hi.bk0;have hV:=hi.len;have Gl:=hc.g.cap1;have aP:=hi.total hc;have t:Tm c (Qb s):=⟨by show 0≤s.bk+1; omega,by show s.bk+1≤_; omega,hc.g.len0,by show s.ep+1=(s.bk+1)/c 13; rw [dQ hc.g.len0,if_pos ZeK,hi.epq]⟩;have hlv: ∀v ∈ s.V,Vok s.ep v:=hi.vok;have pG:=iT hi.vok ep0 hr;have ZeU:=Zb8 hi.vok ep0 hr;have iG:(BO (Qb s)).length=s.V.length:=b.l1;have o9:=Dh (fun v hv=>(b.v1 v hv).fit);have htv:Zz (BO (Qb s))=Zz s.V:=by rw [UG,b.b1,←UG]
 have hta:Zz (jT c (Qb s))=Zz s.V:=by rw [UG,b.b3,←UG]
 have htA:Zz (A7 c (Qb s))=Zz s.V:=by rw [UG,b.b2,←UG]
 have Cq:L.length≤s.V.length:=by rw [hr.len]; exact Ic _
 have hLb:(Lh (s.ep+1) (s.V.map (leaveV (s.ep+1))) L).length≤s.V.length:=by rw [pG.len]; exact Z9 (Ic _) (by rw [←iG]; exact Zg _)
 have hlf: ∀v ∈ s.V.map (leaveV (s.ep+1)),Yo v∧v.wd≤1099511627776:=fun v hv=>by
  obtain ⟨u,hu,rfl⟩:=Yk.1 hv;refine ⟨?_,by rw [Dy]; exact (hi.vok u hu).w⟩;unfold leaveV
  split
  ·exact ⟨(hi.vok u hu).fit.1,rfl⟩
  ·exact (hi.vok u hu).fit
 have iE:Zz (s.V.map (leaveV (s.ep+1)))=Zz s.V:=AE fun v _=>by unfold leaveV; split <;> rfl
 have yA:LZ (Jz (BO (Qb s))):=jO fun v hv=>(b.v1 v hv).fit
 have O0:(Jz (BO (Qb s))).length=s.V.length:=by rw [←iG]; simp [Jz]
 have hX0:1≤N8 c (Qb s):=RK hc;have hX1:N8 c (Qb s)≤18446744073709551615:=by
  have:=hc.g.chu1;have q8:=hc.q8;unfold N8 Em;have:Yy (BO (Qb s))/c 8≤Yy (BO (Qb s)):=Int.ediv_le_self _ o9.1;exact AO
 have hRl:(M9 c (Qb s)).1.length≤s.F.length+s.W.length:=xh _ _ _ _ _;have hfl:=hi.fl;have hwl:=hi.wl;have hpl:=hi.pdl;have mU:=hi.mgl;have mW:=hc.q1;have hwb:wV (BO (Qb s))=wV (A7 c (Qb s)):=by unfold wV; rw [b.b1,b.b2]
 have H1:Hid (∀wx,Eg N w0 wx c a q Z (Qb s) L→Zj Zb 209 #[.pointer (some ⟨q.e,0,none⟩)] wx fun e w'=>e= .returned (.tuple #[])∧Eg N w0 w' c a q Z (yo s) L):=Za fun wx hx=>
  Zaw hx t hi.fits (show Zz s.V≤_ by omega) (show s.V.length≤4096 by omega)
 have H2:Hid (∀wx,Eg N w0 wx c a q Z (yo s) L→Zj Zb 210 #[.pointer (some ⟨q.e,0,none⟩)] wx fun e w'=>e= .returned (.tuple #[])∧Eg N w0 w' c a q Z (mL s) (uj s L)):=Za fun wx hx=>by
  obtain ⟨d1,d2,d3⟩:=uH (t:=s.ep+1) hr;have:=Zik (s:=yo s) hx ⟨t.b0,t.b1,t.l,t.q⟩ d1 d2 (fun i hi=>by show i < (s.V.map (leaveV (s.ep+1))).length; rw [YE]; exact d3 i hi) (by show s.ep+1≤_; omega) (by show 0≤s.ep+1; omega) (fun v hv=>(hlf v hv).2) Ze (fun v hv=>(hlf v hv).1) (by show Zz (s.V.map (leaveV (s.ep+1)))≤_; omega) (by show (s.V.map (leaveV (s.ep+1))).length≤_; rw [YE]; omega);refine this.mono fun e w' ⟨he,h1⟩=>⟨he,?_⟩
  have e1:mL s= { yo s with V:=Oz (yo s).ep (yo s).V (Vq (yo s).ep L)}:=by
   show mL s= { yo s with V:=Oz (s.ep+1) (s.V.map (leaveV (s.ep+1))) (Vq (s.ep+1) L)};rw [ZeU]; rfl
  rw [e1];exact h1
 have H3:Hid (∀wx,Eg N w0 wx c a q Z (mL s) (uj s L)→Zj Zb 56 #[.pointer (some ⟨a.r,0,none⟩)] wx fun e w'=>e= .returned (.int .u64 (Yy (BO (Qb s))))∧wx=w'):=Za fun wx hx=>hx.active
 have H4:Hid (∀wx,Zj Zb 211 #[.int .u64 (Yy (BO (Qb s))),.int .u64 (c 7),.int .u64 (c 8)] wx fun e w'=>e= .returned (.int .u64 (N8 c (Qb s)))∧wx=w'):=Za fun wx=>j6 _ _ _ wx o9.1 Ze (by have:=hc.q8; omega) hq8
 have H5:Hid (∀wx,Eg N w0 wx c a q Z (mL s) (uj s L)→Zj Zb 212 #[.pointer (some ⟨q.e,21,none⟩)] wx fun e w'=> ∃v,e= .returned v∧Eg (N+1) w0 w' c a q (ZD Z N (YK 22 1 v s.V.length ((Jz (BO (Qb s))).map Ey))) (mL s) (uj s L)):=Za fun wx hx=>by
  have:=yr hx (by show (BO (Qb s)).length≤_; omega);refine this.mono fun e w' ⟨v,he,h1,_⟩=>⟨v,he,?_⟩
  rw [show (mL s).V.length=s.V.length from iG] at h1;exact h1
 have H6:Hid (∀wx wv,Eg (N+1) w0 wx c a q (ZD Z N (YK 22 1 wv s.V.length ((Jz (BO (Qb s))).map Ey))) (mL s) (uj s L)→Zj Zb 213 #[.pointer (some ⟨q.e,0,none⟩),.int .u64 (N8 c (Qb s)),wv] wx fun e w'=> ∃v,e= .returned v∧Eg (N+1+1) w0 w' c a q (ZD (ZD Z N (YK 22 1 wv s.V.length ((Jz (BO (Qb s))).map Ey))) (N+1) (YK 71 3 v (WB c (Qb s)).length (Yl Qf (WB c (Qb s))))) (b3S c s) (sN c (Qb s) L)):=Za fun wx wv hx=>by
  have:=uL (s:=mL s) hx ⟨t.b0,t.b1,t.l,t.q⟩ (r:=N) hN Ze xput_same Ze yA (x:=N8 c (Qb s)) Ze (by show 0≤s.ep+1; omega) (by show s.ep+1≤_; omega) (R:=M9 c (Qb s)) rfl b.nd b.qd b.lo hc.gc (fun v hv=>(b.v1 v hv).fit) (fun v hv=>(b.v1 v hv).w) (by show Zz (BO (Qb s))≤_; omega) (by show (uj s L).length+_≤_; unfold uj; omega);refine this.mono fun e w' ⟨v,he,h1⟩=>⟨v,he,?_⟩
  have e1:(WB c (Qb s)).length=(M9 c (Qb s)).1.length:=by unfold WB; rw [YE]
  rw [e1];exact h1
 have H7:Hid (∀wx wv va,Eg (N+1+1) w0 wx c a q (ZD (ZD Z N (YK 22 1 wv s.V.length ((Jz (BO (Qb s))).map Ey))) (N+1) (YK 71 3 va (WB c (Qb s)).length (Yl Qf (WB c (Qb s))))) (b3S c s) (sN c (Qb s) L)→Zj Zb 215 #[.pointer (some ⟨a.p,0,none⟩),.int .u64 (N8 c (Qb s)),wv] wx fun e w'=> ∃v,e= .returned v∧
   Eg (N+1+1+1) w0 w' c a q (ZD (ZD (ZD Z N (YK 22 1 wv s.V.length ((Jz (BO (Qb s))).map Ey))) (N+1) (YK 71 3 va (WB c (Qb s)).length (Yl Qf (WB c (Qb s))))) (N+1+1) (YK 3 1 v (s.pd.take (WA c (Qb s))).length ((s.pd.take (WA c (Qb s))).map (ZR .i64)))) (b4S c s) (sN c (Qb s) L)):=Za fun wx wv va hx=>by
  have:=Eg.activate (s:=b3S c s) hx (r:=N) (wv:=wv) (nu:=s.V.length) (U:=Jz (BO (Qb s))) hN Ze (by rw [xput_ne Ze,xput_same]; rfl) Ze yA (lim:=N8 c (Qb s)) ⟨by omega,hX1⟩;refine this.mono fun e w' ⟨v,he,h1⟩=>⟨v,he,?_⟩
  have e1:FW (N8 c (Qb s)) ((b3S c s).pd.map (KM (Jz (BO (Qb s)))))=WA c (Qb s):=by
   show FW (N8 c (Qb s)) (s.pd.map (wV (BO (Qb s))))=FW (N8 c (Qb s)) (s.pd.map (wV (A7 c (Qb s))));rw [hwb]
  rw [e1] at h1;have e2:(s.pd.take (WA c (Qb s))).length=WA c (Qb s):=by
   rw [Xl];have:=A6 (lim:=N8 c (Qb s)) (s.pd.map (wV (A7 c (Qb s))));rw [YE] at this;exact Nat.min_eq_left this
  rw [e2];exact h1
 have H8:Hid (∀wx wv va v,Eg (N+1+1+1) w0 wx c a q (ZD (ZD (ZD Z N (YK 22 1 wv s.V.length ((Jz (BO (Qb s))).map Ey))) (N+1) (YK 71 3 va (WB c (Qb s)).length (Yl Qf (WB c (Qb s))))) (N+1+1) (YK 3 1 v (s.pd.take (WA c (Qb s))).length ((s.pd.take (WA c (Qb s))).map (ZR .i64)))) (b4S c s) (sN c (Qb s) L)→Zj Zb 214 #[.pointer (some ⟨q.e,21,none⟩),.int .i64 1,v] wx fun e w'=>e= .returned (.tuple #[])∧
   Eg (N+1) w0 w' c a q (ZD Z N (YK 71 3 va (WB c (Qb s)).length (Yl Qf (WB c (Qb s))))) (b5S c s) (sN c (Qb s) L)):=Za fun wx wv va v hx=>by
  have:=yv (s:=b4S c s) hx (r:=N+1+1) Ze Ze xput_same (ev:=1) rfl (fun i hi=>by
   obtain ⟨m,u,e1,hu,_⟩:=b.pd i (ZK hi);exact ⟨m,e1,(Zi.1 hu).1⟩) (fun v hv=>(b.v2 v hv).fit) (by show Zz (A7 c (Qb s))≤_; omega) NV
  refine this.mono fun e w' ⟨he,h1⟩=>⟨he,?_⟩
  exact Eg.pick (m:=1) (h1.less Ze) hN (fun k h1 h2=>by rw [xput_ne Ze,xput_ne Ze,xput_ne Ze]) Ug
 have H9:Hid (∀wx va,Eg (N+1) w0 wx c a q (ZD Z N (YK 71 3 va (WB c (Qb s)).length (Yl Qf (WB c (Qb s))))) (b5S c s) (sN c (Qb s) L)→Zj Zb 216 #[.pointer (some ⟨q.e,0,none⟩)] wx fun e w'=>e= .returned (.tuple #[])∧Eg (N+1) w0 w' c a q (ZD Z N (YK 71 3 va (WB c (Qb s)).length (Yl Qf (WB c (Qb s))))) (bdS c (Qb s)) (sN c (Qb s) L)):=Za fun wx va hx=>
  uM (s:=b5S c s) hc hx (fun v hv=>(b.v3 v hv).fit) (by show Zz (jT c (Qb s))≤_; omega) (by show (jT c (Qb s)).length≤_; rw [b.l3]; omega) (by show s.mg.length≤_; omega) (fun p hp=>by
   obtain ⟨i,j,e1,h1,h2⟩:=pw p hp;exact ⟨i,j,e1,by show i < (jT c (Qb s)).length; rw [b.l3]; exact h1,by show j < (jT c (Qb s)).length; rw [b.l3]; exact h2⟩)
 have HH:=Za h;have HN:=Za hN;obtain ⟨x,hx⟩ : ∃x,N8 c (Qb s)=x:=⟨_,rfl⟩;obtain ⟨ac,o8⟩ : ∃ac,Yy (BO (Qb s))=ac:=⟨_,rfl⟩;rw [hx] at H4 H6 H7;rw [o8] at H3 H4;clear h hc hq8 hi hk hr ZeK pw hN b ep0 ep1 bk1 bk0 hV Gl aP t pG ZeU iG o9 htv hta htA Cq hLb hlf iE yA O0 hX0 hX1 hRl hfl hwl hpl mU mW hwb hx o8;go_enter Tryz.func135,Tryz.ntmps135;go_wp2_with fail;refine (H1.out _ HH.out).mono ?_;rintro e w1 ⟨rfl,h1⟩;have E1:=Za h1;clear h1 HH H1;go_wp2_with fail;refine (H2.out _ E1.out).mono ?_;rintro e w2 ⟨rfl,h2⟩;have E2:=Za h2;clear h2 E1 H2;go_wp2_with fail;refine Pu (fun w'=>Eg N w0 w' c a q Z (mL s) (uj s L)) 3 [0,1,2,3,4,6,7,8,9,10,11,12,13,14,15] (?_) ?_
 ·exact E2.out.drew
 refine Kg ?_;show ZW _ _ _ _ [_,_,_,_,_,_,_,_,_,_,_,_,_,_,_] _;refine BN ?_;refine rI ?_;refine Qe ?_;refine BN ?_;refine YJ _ _ ⟨q.e,7,none⟩ (.int .u64 (c 7)) rfl rfl rfl (fun w h=>by simp [go_sem,h]) (fun w h=>(Eg.blk h).cell 7) ?_;refine Qe ?_;refine BN ?_;refine YJ _ _ ⟨q.e,8,none⟩ (.int .u64 (c 8)) rfl rfl rfl (fun w h=>by simp [go_sem,h]) (fun w h=>(Eg.blk h).cell 8) ?_;refine Qe ?_;refine Qc ?_;have E3:=Za E2.out.drew;clear E2;generalize w2.drew=W3 at*;refine EE ?_;refine JZ #[.pointer (some ⟨a.r,0,none⟩)] Tryz.call56 ((H3.out _ E3.out).mono ?_);rintro e w4 ⟨rfl,rfl⟩;refine ⟨_,rfl,E3.out,?_⟩;refine hfO (i:=16) ?_;refine JG ?_;refine JZ #[.int .u64 ac,.int .u64 (c 7),.int .u64 (c 8)] Tryz.call211 ((H4.out _).mono ?_);rintro e w4 ⟨rfl,rfl⟩;refine ⟨_,rfl,E3.out,?_⟩;refine JG ?_;refine FX (fun w'=>Eg N w0 w' c a q Z (mL s) (uj s L)) (m:=1) (f:=0) [17] (?_) ?_
 ·exact E3.out
 refine Kg ?_;refine FV ?_;refine GN ?_;refine Qc ?_;clear H3 H4;refine ⟨by kernel_rfl,Yr ?_⟩;refine JG ?_;go_wp2_with fail;refine (H5.out _ E3.out).mono ?_;rintro e w5 ⟨wv,rfl,h5⟩;have E5:=Za h5;clear h5 E3 H5;go_wp2_with fail;refine (H6.out _ _ E5.out).mono ?_;rintro e w6 ⟨va,rfl,h6⟩;have E6:=Za h6;clear h6 E5 H6;go_wp2_with fail;have hB6:=E6.out.drew.blk;refine Pu (fun w'=>Blk w' q.e 107 (Uw c a q)) 2 [0,1,2,3,4,5,6,7,8,9] (?_) ?_
 ·exact hB6
 refine Kg ?_;refine gK ?_;refine gL ?_;refine YJ _ _ ⟨q.e,27,none⟩ (.pointer (some ⟨a.p,0,none⟩)) rfl rfl rfl (fun w h=>by simp [go_sem,h]) (fun w h=>h.cell 27) ?_;refine Qe ?_;refine BL ?_;refine Qc ?_;clear hB6;have E7:=Za E6.out.drew;clear E6;generalize w6.drew=W7 at*;refine hfO (i:=10) ?_;refine JZ #[.pointer (some ⟨a.p,0,none⟩),.int .u64 x,wv] Tryz.call215 ((H7.out _ _ _ E7.out).mono ?_);rintro e w8 ⟨v8,rfl,h8⟩;have E8:=Za h8;refine ⟨_,rfl,h8.blk,?_⟩;clear h8 E7 H7;refine JG ?_;refine hfO (i:=11) ?_;refine JG ?_;refine JZ #[.pointer (some ⟨q.e,21,none⟩),.int .i64 1,v8] Tryz.call214 ((H8.out _ _ _ _ E8.out).mono ?_);rintro e w9 ⟨rfl,h9⟩;have E9:=Za h9;refine ⟨_,rfl,h9.blk,?_⟩;clear h9 E8 H8;refine ⟨by kernel_rfl,Yr ?_⟩;refine JG ?_;go_wp2_with fail;refine (H9.out _ _ E9.out).mono ?_;rintro e zi ⟨rfl,TQ⟩;have E10:=Za TQ;clear TQ E9 H9;go_wp2_with fail;go_ret;exact ⟨_,rfl,E10.out⟩
end
end
end Go.Proofs.YtianiiijaopdpaaGreat
