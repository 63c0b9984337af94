/- Part 49 of 58: Asn Mix Prt Mer Who P0. -/
import Derived.Test.YtianiiijaopdpaaGreatZu00
import Derived.Test.YtianiiijaopdpaaGreatZu48
namespace Go.Proofs.YtianiiijaopdpaaGreat
set_option linter.unusedVariables false
set_option linter.unusedSimpArgs false
set_option maxRecDepth 100000
set_option maxHeartbeats 8000000
open _root_.And renaming intro → Zl
open _root_.Array renaming getElem?_eq_some_iff → Ys
open _root_.Go.Proofs.YtianiiijaopdpaaGreat.As renaming row → Qc
open _root_.Go.RowKit renaming Below → Zt
open _root_.Go.RowKit.Below renaming refl → Zr
open _root_.Go renaming Calls → Zi, Value → Zo, World → Zc, heap_alloc_new → ZD, rounds_succ → Y2, wpList_load_mid → XG, wpList_store_row → Zm, wpQuiet → ZB, wpQuiet_nil → Zj, wp_store_row → X8
open _root_.Go.Proofs.YtianiiijaopdpaaGreat.Eg renaming blkAt → VQ
open _root_.Go.Instr renaming index → Xi
open _root_.Go.Lib renaming hid → Za
open _root_.List renaming cons_append → Ym, getD_eq_getElem?_getD → Zq, getElem?_eq_getElem → Zf, getElem?_eq_some_iff → Zh, getElem?_map → ZR, getElem_mem → Kr, length_cons → Yu, length_map → YM, length_take → Xm, map_congr_left → UZ, map_map → KN, mem_flatMap → UB, mem_map → Yj, mem_of_getElem? → ZE, mem_of_mem_take → ZP, take_add_one → YN, take_of_length_le → Yn
open _root_.Nat renaming le_refl → Zg, le_trans → Yk, zero_add → Yb
open _root_.Go.NoPanic renaming normal → ZH
open _root_.Option renaming toList_some → Qr
open _root_.Go.Proofs.YtianiiijaopdpaaGreat.Pm renaming row → QW
open _root_.Go.Proofs.YtianiiijaopdpaaGreat.Py renaming row → VJ
open _root_.Go.Proofs.Tryz renaming call54 → J5, prog → Zb, underlying24 → ZC, underlying63 → Zs, underlying73 → X5
open _root_.Go.Value renaming int → ZX, ownBlock → Xq
open _root_.Go.World renaming setRow_alloc_new → Zu
theorem zT7 {G:Prop} (h:G:=by
  try simp only [qA]
  refine Qt (i:=5) ?_;refine JM #[.agg (Zd u),.int .i64 s.ep] Tryz.call221 ((HPy.out _).mono ?_);rintro e w6 ⟨rfl,hb6⟩;have E6:=Lib.hid (E5.out.below hb6);have hD6:Eg (N+2) w0 w6 c a q (ZI (ZI Z N (Kh L6 1 (some ⟨g,off,none⟩) (F.map fun i:Nat=>(i:Int)))) (N+1) (YP 61 3 (.slice pa k pc) k (Yx Pm.row (Qf s.ep s.V (F.take k))))) { s with V:=Ji s.ep s.V (F.take k),P:=s.P+JJ (Qf s.ep s.V (F.take k)),cu:=e0} L:=E6.out.drop ZQ;refine ⟨_,rfl,hD6,?_⟩;clear E5 hb6 HPy vN;try simp only [qA]
  refine FR (fun w'=>Eg (N+2) w0 w' c a q (ZI (ZI Z N (Kh L6 1 (some ⟨g,off,none⟩) (F.map fun i:Nat=>(i:Int)))) (N+1) (YP 61 3 (.slice pa k pc) k (Yx Pm.row (Qf s.ep s.V (F.take k))))) { s with V:=Ji s.ep s.V (F.take k),P:=s.P+JJ (Qf s.ep s.V (F.take k)),cu:=e0} L) (m:=7) (f:=3) [6,7,8,9] (?_) ?_
  ·exact hD6
  simp only [qF,qH];show wpQuiet _ _ _ _ [_,_,_,_] _;iterate 4 (go_big_quiet_step ((intros; rfl)))
  refine wpQuiet_nil ?_;refine Qt (i:=10) ?_;have hB:=E6.out.blkAt (r:=N+2) ZQ Ze xput_same;refine YE rfl rfl (wp_store_row _ _ _ rfl zb (Zd v2) rfl rfl 63 _ hB Yo rfl (Yy _) ?_);have h7:=E6.out.setr (r:=N+2) ZQ Ze xput_same (cs':=Zd v2) (Zy.setRow hB _) (Kept.setRow (S:=fun i=>i=zb) (Kept.refl _ _) (.inl rfl) _);rw [Xg] at h7;have E7:=Lib.hid h7;have hD7:=h7.drop ZQ;refine ⟨hD7,?_⟩;clear E6 hD6 hB h7;generalize w6.setRow zb (Zd v2)=W7 at*;try simp only [qA]
  refine FR (fun w'=>Eg (N+2) w0 w' c a q (ZI (ZI Z N (Kh L6 1 (some ⟨g,off,none⟩) (F.map fun i:Nat=>(i:Int)))) (N+1) (YP 61 3 (.slice pa k pc) k (Yx Pm.row (Qf s.ep s.V (F.take k))))) { s with V:=Ji s.ep s.V (F.take k),P:=s.P+JJ (Qf s.ep s.V (F.take k)),cu:=e0} L) (m:=2) (f:=0) [11,12] (?_) ?_
  ·exact hD7
  simp only [qF,qH];show wpQuiet _ _ _ _ [_,_] _;iterate 2 (go_big_quiet_step ((intros; rfl)))
  refine wpQuiet_nil ?_;clear hD7;refine ⟨by kernel_rfl,NoPanic.normal ?_⟩;try simp only [qA]
  go_wp2_with fail;go_meet;exact ⟨rfl,rfl,E7⟩) :G:=h
theorem Zf3 {G:Prop} (h:G:=by
  try simp only [qA]
  refine FR (fun w'=>Eg (N+2) w0 w' c a q (ZI (ZI Z N (YP 71 3 (.slice (some ⟨g,0,none⟩) m cp) m (Yx As.row (l.map (asA (s.ep+1)))))) (N+1) (YR za 71 (JO (asA (s.ep+1) p)))) sk Lk) (m:=1) (f:=0) [13] (?_) ?_
  ·exact h4
  simp only [qF,qH];show wpQuiet _ _ _ _ [_] _;iterate 1 (go_big_quiet_step ((intros; rfl)))
  refine wpQuiet_nil ?_;refine ⟨by kernel_rfl,NoPanic.normal ?_⟩;try simp only [qA]
  go_wp2_with fail;go_meet;exact ⟨_,rfl,rfl,Lib.hid h3⟩) :G:=h
theorem kv {G:Prop} (h:G:=by
  have:=HX.out.2.2.2.2.2.2.1;omega) :G:=h
section
open Go Go.RowKit Go.Deep
def tG (c:Nat→Int)(e:Int)(v:Yd) :Yd:=(Qn [XS e,Q3 e (c 10)] v).2
def wK (p:Int × Int) :Nat:=p.1.toNat
theorem RO (c:Nat→Int)(e:Int) : ∀(l:List (Int × Int)) (V:List Yd),DP c e V l=F9 (tG c e) V (l.map wK)
 | [],_=>rfl
 | p::l,V=>RO c e l _
theorem RN (c:Nat→Int)(e:Int) : ∀(A B:List (Int × Int)) (V:List Yd),EH c e V (A++B)=EH c e V A++EH c e (DP c e V A) B
 | [],_,_=>rfl
 | p::A,B,V=>by rw [Ym,EH,EH,DP,RN c e A B,Ym]
theorem oE {c:Nat→Int}{e:Int}{V:List Yd}{l:List (Int × Int)}{k:Nat}{p:Int × Int}(hk:l[k]?=some p) :EH c e V (l.take (k+1))=EH c e V (l.take k)++[((tG c e (Vy (DP c e V (l.take k)) p.1)).wd,p.1)]:=by
 rw [YN,hk,Qr,RN]; rfl
theorem iN (c:Nat→Int)(e:Int) : ∀(l:List (Int × Int)) (V:List Yd),(EH c e V l).length=l.length
 | [],_=>rfl
 | p::l,V=>by rw [EH,Yu,iN c e l,Yu]
theorem WZ {f:Yd→Yd}{V:List Yd}{F:List Nat}(hv: ∀v ∈ V,Yq v)(hn:F.Nodup)(hF: ∀i ∈ F,i < V.length)(hf: ∀i ∈ F,Yq (f (V.getD i Z9))∧(f (V.getD i Z9)).bal=(V.getD i Z9).bal) : ∀k,Fi V (F9 f V (F.take k))
 | 0=>Fi.refl hv
 | k+1=>by
  have ih:=WZ hv hn hF hf k
  cases hk:F[k]? with
  | none=>
   have h1:=List.getElem?_eq_none_iff.1 hk;have h2:F.take (k+1)=F.take k:=by rw [Yn Ze,Yn Ze]
   rw [h2]; exact ih
  | some i=>
   have hm:=ZE hk;have hi:i < (F9 f V (F.take k)).length:=by rw [ih.1]; exact hF i hm
   have hx:(F9 f V (F.take k))[i]?=some ((F9 f V (F.take k)).getD i Z9):=by rw [Zq,Zf hi]; rfl
   rw [Nj hk];have Al:=Ni (f:=f) hn hF hk;exact ih.set hx (by rw [Al]; exact (hf i hm).2) (by rw [Al]; exact (hf i hm).1)
def asA (e:Int)(p:Int × Int) :As:=⟨p.1,p.2,e⟩
theorem mK (e:Int)(l:List (Int × Int)) :PU e l=Yx Qc (l.map (asA e)):=by
 unfold PU Yx;rw [List.flatMap_map];rfl
theorem FF {α:Type}{row:α→List Zo}{sz:Nat}{w:Zc}{e:TypeId}{n k:Nat}{ia:Option Addr}{cp:Nat}{l:List α}{v:α}(Du: ∀v,(row v).length=sz)(h:w.ownsRow 0 e sz (.slice ia n cp) n (Yx row l))(h0:0 < n)(hk:l[k]?=some v) : ∃g,ia=some ⟨g,0,none⟩∧w.rangeAt g (k*sz) (row v):=by
 rcases h.2 with ⟨h1,h2⟩ | ⟨g,Bp,cur,h1,_⟩
 ·injection h1 with _ h3 _; omega
 ·injection h1 with h1 _ _;refine ⟨g,h1,fun j u hj=>?_⟩;subst h1;have Df:=(Zh.1 hj).1;rw [Du] at Df;have:=h.cells rfl (k*sz+j) u (by rw [EL Du hk Df]; exact hj);rwa [add_plain,Yb] at this
section
variable {N:Nat} {w0:Ez} {w w' w1:Zc} {c:Nat→Int} {a:Pl} {q:Ql} {Z:Nat→Zc→(Nat→Prop)→Prop} {s s':Sg} {L L':List QO} {k:Nat}
def zi (s:Sg)(R:List (Int × Int) × List Int × List Int × Int) :Sg:= { s with F:=R.2.1,W:=R.2.2.1,cy:=EI R}
theorem Eg.assign (h:Eg N w0 w c a q Z s L){r:Nat}(Gj:11≤r)(hr:r < N){wv:Zo}{U:List Int}{nu:Nat}{x ep:Int}(tU:Z r=YP 22 1 wv nu (U.map Eu))(hl:U.length≤9223372036854775807)(hA:LX U)(hx:0≤x)(bq:0≤ep)(vW:ep≤1099511627776) :
  Zi Zb 257 #[.int .i64 ep,.pointer (some ⟨a.n,0,none⟩),.pointer (some ⟨a.m,0,none⟩),.int .u64 x,wv] w fun e w'=> ∃v,e= .returned v∧
   Eg (N+1) w0 w' c a q (ZI Z N (YP 71 3 v (Fa (Kz U) s.F s.W s.cy x).1.length (Yx Qc ((Fa (Kz U) s.F s.W s.cy x).1.map (asA (ep+1)))))) (zi s (Fa (Kz U) s.F s.W s.cy x)) L:=by
 obtain ⟨X,hX,VP,hh,_,hK,hz,_⟩:=h.open;refine (hh.assign hX VP (r:=r) Ze hr (hz r Gj hr |>.trans tU) hl hA hx bq vW).mono fun e w' ⟨v,he,g1,_⟩=>⟨v,he,?_⟩
 rw [mK] at g1;exact hK _ _ _ _ g1 stays_row rfl rfl
theorem vz (h:Eg N w0 w c a q Z s L)(t:Tm c s){r:Nat}(Gj:11≤r)(hr:r < N){wv:Zo}{U:List Int}{nu:Nat}{x:Int}(tU:Z r=YP 22 1 wv nu (U.map Eu))(hUl:U.length≤9223372036854775807)(hA:LX U)(hx:0≤x)(bq:0≤s.ep)(vW:s.ep≤1099511627776)
  {R:List (Int × Int) × List Int × List Int × Int} (hR:Fa (Kz U) s.F s.W s.cy x=R) (hn:(R.1.map (·.1)).Nodup) (hq: ∀p ∈ R.1,Bl s.V Dv p.1) (nS:Pn (s.ep+1) (c 10)) (hg:I4 c) (hf: ∀v ∈ s.V,Yq v) (fc: ∀v ∈ s.V,v.wd≤1099511627776) (ht:ZA s.V≤18446744073709551615) (CL:L.length+R.1.length≤100000) :
  Zi Zb 213 #[.pointer (some ⟨q.e,0,none⟩),.int .u64 x,wv] w fun e w'=> ∃v,e= .returned v∧
   Eg (N+1) w0 w' c a q (ZI Z N (YP 71 3 v R.1.length (Yx Qc (R.1.map (asA (s.ep+1)))))) { zi s R with V:=DP c (s.ep+1) s.V R.1} (L++EH c (s.ep+1) s.V R.1):=by
 have hN:=h.low;obtain ⟨l,hl⟩ : ∃l,R.1=l:=⟨_,rfl⟩;have hG:(l.map wK).Nodup∧(∀i ∈ l.map wK,i < s.V.length)∧(∀p ∈ l,∃n:Nat,p.1=(n:Int)∧n < s.V.length∧(s.V.getD n Z9).st=3∧(s.V.getD n Z9).ex= -1):=by
  rw [hl] at hn hq;have h3: ∀p ∈ l,∃n:Nat,p.1=(n:Int)∧n < s.V.length∧(s.V.getD n Z9).st=3∧(s.V.getD n Z9).ex= -1:=fun p hp=>by
   obtain ⟨n,v,e,hv,h1,h2⟩:=hq p hp;have:s.V.getD n Z9=v:=by rw [Zq,hv]; rfl
   exact ⟨n,e,(Zh.1 hv).1,by rw [this]; exact h1,by rw [this]; exact h2⟩
  refine ⟨?_,fun i hi=>?_,h3⟩
  ·have e:(l.map wK).map Ww=l.map (·.1):=by
    rw [KN];refine UZ fun p hp=>?_
    obtain ⟨n,e,_⟩:=h3 p hp;show ((p.1.toNat:Nat) :Int)=p.1;omega
   rw [←e] at hn;exact List.Pairwise.of_map Ww (fun a b h e=>h (by rw [e])) hn
  ·obtain ⟨p,hp,rfl⟩:=Yj.1 hi;obtain ⟨n,e,hnl,_⟩:=h3 p hp;unfold wK; omega
 have hfi: ∀i ∈ l.map wK,Yq (tG c (s.ep+1) (s.V.getD i Z9))∧(tG c (s.ep+1) (s.V.getD i Z9)).bal=(s.V.getD i Z9).bal:=fun i hi=>by
  obtain ⟨p,hp,rfl⟩:=Yj.1 hi;obtain ⟨n,e,hnl,h1,h2⟩:=hG.2.2 p hp;have:wK p=n:=by unfold wK; omega
  rw [this];have hm:=hf (s.V.getD n Z9) (by rw [Zq,Zf hnl]; exact Kr hnl);unfold tG;rw [Cj ⟨h1,h2⟩ nS];exact ⟨hm,rfl⟩
 have oh:Hid (∀k,Fi s.V (DP c (s.ep+1) s.V (l.take k))):=Za fun k=>by
  rw [RO,List.map_take];exact WZ hf hG.1 hG.2.1 hfi k
 have iG:Hid (∀wx,Eg N w0 wx c a q Z s L→Zi Zb 257 #[.int .i64 s.ep,.pointer (some ⟨a.n,0,none⟩),.pointer (some ⟨a.m,0,none⟩),.int .u64 x,wv] wx fun e w'=> ∃v,e= .returned v∧Eg (N+1) w0 w' c a q (ZI Z N (YP 71 3 v l.length (Yx Qc (l.map (asA (s.ep+1)))))) (zi s R) L):=Za fun wx hw=>by
  have:=hw.assign Gj hr tU hUl hA hx bq vW;rw [hR,hl] at this;exact this
 have lS:l.length≤100000:=by rw [hl] at CL; omega
 rw [hl] at CL;have HX:=Za (Zl hG (Zl nS (Zl hg (Zl hf (Zl fc (Zl ht (Zl CL (Zl bq t))))))));have HN:=Za hN;have HH:=Za h;rw [hl];clear h t tU hUl hA hx hn hq nS hg hf fc ht CL hN hG hfi bq vW Gj hr hR hl;go_enter Tryz.func213,Tryz.ntmps213;go_wp2_with fail;refine PG (fun w'=>Zy w' q.e 107 (Un c a q)) 3 [0,1,2,4,5,6,7,8,9,10,11,12,13,14,15] (?_) ?_
 ·exact HH.out.drew.blk
 simp only [qF,qH];show ZB _ _ _ _ [_,_,_,_,_,_,_,_,_,_,_,_,_,_,_] _;iterate 7 (go_big_quiet_step ((intros; rfl)))
 refine Yw _ _ ⟨q.e,24,none⟩ (.pointer (some ⟨a.n,0,none⟩)) rfl rfl rfl (fun w h=>by simp [go_sem,h]) (fun w h=>h.cell 24) ?_;simp only [qB];iterate 4 (go_big_quiet_step ((intros; rfl)))
 refine Yw _ _ ⟨q.e,25,none⟩ (.pointer (some ⟨a.m,0,none⟩)) rfl rfl rfl (fun w h=>by simp [go_sem,h]) (fun w h=>h.cell 25) ?_;simp only [qB];iterate 2 (go_big_quiet_step ((intros; rfl)))
 refine Zj ?_;have H0:=Za HH.out.drew;clear HH;generalize w.drew=V0 at*;refine Qt (i:=3) ?_;refine JM #[.pointer (some ⟨q.e,20,none⟩)] J5 ((Bc H0.out HX.out.2.2.2.2.2.2.2.2.b0 HX.out.2.2.2.2.2.2.2.2.b1 HX.out.2.2.2.2.2.2.2.2.l HX.out.2.2.2.2.2.2.2.2.q).mono ?_);rintro e w1 ⟨rfl,m1,rfl⟩;have H1:=Za (H0.out.drewN m1);refine ⟨_,rfl,H1.out.blk,?_⟩;clear H0;generalize V0.drewN m1=V1 at*;refine Qt (i:=16) ?_;try simp only [qA]
 refine JM #[.int .i64 s.ep,.pointer (some ⟨a.n,0,none⟩),.pointer (some ⟨a.m,0,none⟩),.int .u64 x,wv] Tryz.call257 ((iG.out _ H1.out).mono ?_);rintro e w2 ⟨v,rfl,h2⟩;refine ⟨_,rfl,h2.blk,?_⟩;clear H1 iG;obtain ⟨ia,cp,rfl⟩:=XH (h2.row (r:=N) HN.out Ze xput_same);obtain ⟨m,hm⟩ : ∃m,l.length=m:=⟨_,rfl⟩;have HM:=Za hm;rw [hm] at h2 lS;have H2:=Za h2;rw [hm];have VW:=Za h2.blk;clear h2 hm;try simp only [qA]
 refine FR (fun w'=>Zy w' q.e 107 (Un c a q)) (m:=1) (f:=0) [17] (?_) ?_
 ·exact VW.out
 simp only [qF,qH];show ZB _ _ _ _ [_] _;iterate 1 (go_big_quiet_step ((intros; rfl)))
 refine Zj ?_;clear VW;refine ⟨by kernel_rfl,ZH ?_⟩;try simp only [qA]
 go_wp2_with fail;go_loopw [31] (fun s31 wr=> ∃(k:Nat),k≤m∧s31= .int .i64 k∧Hid (Eg (N+1) w0 wr c a q (ZI Z N (YP 71 3 (.slice ia m cp) m (Yx Qc (l.map (asA (s.ep+1)))))) { zi s R with V:=DP c (s.ep+1) s.V (l.take k)} (L++EH c (s.ep+1) s.V (l.take k)))) (fun s31 _=>m -(intOf s31).toNat)
 case atStart=>exact ⟨0,by omega,rfl,Za (by rw [show EH c (s.ep+1) s.V (l.take 0)=[] from rfl,List.append_nil]; exact H2.out)⟩
 case round=>
  obtain ⟨k,hk,rfl,HE⟩:=hrel
  by_cases XJ:k < m
  ·obtain ⟨p,hp⟩ : ∃p,l[k]?=some p:=⟨_,Zf Rs⟩;obtain ⟨g,rfl,Mn⟩:=FF (row:=Qc) (v:=asA (s.ep+1) p) (k:=k) As.row_len (HE.out.row (r:=N) HN.out Ze xput_same) Ze (by rw [ZR,hp]; rfl);obtain ⟨i,zG,EB,Gm,hex⟩:=HX.out.1.2.2 p (ZE hp);have Ml:=oh.out k;have hlk1:=oh.out (k+1);have Zb6:(l.map wK)[k]?=some i:=by rw [ZR,hp]; show some p.1.toNat=_; rw [zG]; rfl
   have Al:=Ni (f:=tG c (s.ep+1)) HX.out.1.1 HX.out.1.2.1 Zb6;have DY:=Nj (f:=tG c (s.ep+1)) (V:=s.V) Zb6;rw [←List.map_take,←List.map_take,←RO,←RO] at DY;rw [←List.map_take,←RO] at Al;have hks:=oE (c:=c) (e:=s.ep+1) (V:=s.V) hp;have nP:=iN c (s.ep+1) (l.take k) s.V;obtain ⟨W,hW⟩ : ∃W,DP c (s.ep+1) s.V (l.take k)=W:=⟨_,rfl⟩;rw [hW] at HE Ml Al DY hks;obtain ⟨u,hu⟩ : ∃u,W.getD i Z9=u:=⟨_,rfl⟩;have hau:Vy W p.1=u:=by rw [zG]; exact hu
   rw [hu] at DY;rw [hau] at hks;rw [←Al,hu] at Gm hex;have nM:i < W.length:=by rw [Ml.1]; exact EB
   have huw:u.wd≤1099511627776:=by rw [←hu,Al]; exact HX.out.2.2.2.2.1 _ jT
   have vT:tG c (s.ep+1) u= { u with ex:=s.ep+1,wd:=max u.wd (s.ep+1+c 10)}:=by unfold tG; rw [Cj ⟨Gm,hex⟩ HX.out.2.1]
   have hLk:(L++EH c (s.ep+1) s.V (l.take k)).length≤100000:=by
    rw [List.length_append,nP,Xm];exact kv
   have dG:Yq u:=Ml.2.2 u (by rw [←hu,Zq,Zf nM]; exact Kr nM);obtain ⟨v2,Ph⟩ : ∃v2,tG c (s.ep+1) u=v2:=⟨_,rfl⟩;have Rb:Qn [XS (s.ep+1),Q3 (s.ep+1) (c 10)] u=(0,v2):=by rw [Cj ⟨Gm,hex⟩ HX.out.2.1,←Ph,vT]
   have ZfJ:v2.wd=max u.wd (s.ep+1+c 10):=by rw [←Ph,vT]
   have ZfI:v2.bal=u.bal∧Yq v2:=by rw [←Ph,vT]; exact ⟨rfl,dG⟩
   rw [Ph] at DY hks;obtain ⟨sk,hsk⟩ : ∃sk,({ zi s R with V:=W} :Sg)=sk:=⟨_,rfl⟩;obtain ⟨Lk,bh⟩ : ∃Lk,L++EH c (s.ep+1) s.V (l.take k)=Lk:=⟨_,rfl⟩;have ZfB:sk.V=W:=by rw [←hsk]
   rw [hsk,bh] at HE;rw [bh] at hLk;have HAs:Hid (∀wx,Zi Zb 258 #[.agg (Zd u),.int .i64 (s.ep+1),.agg (Zk c)] wx fun e w'=>e= .returned (.tuple #[.agg (Zd v2),.int .i64 0])∧Zt wx.heap.size wx w'):=Za fun wx=>by
    have:=ed u (s.ep+1) c wx dG.2 HX.out.2.2.1.ub0 HX.out.2.2.1.ub1;unfold ans at this;rw [Rb] at this;exact this
   have HU:=Za (Zl nM (Zl Ml (Zl DY (Zl hks (Zl hu (Zl ZfB (Zl hsk (Zl bh (Zl hLk (Zl huw (Zl ZfJ (Zl ZfI zG))))))))))));have iF:=Za Mn;clear hp Mn EB Gm hex Ml hlk1 Zb6 Al DY hks nP hW hu hau nM huw vT hLk dG Ph Rb ZfJ ZfI hsk bh ZfB zG;go_upto_region 4 with (fail);have TZ:=Za (HE.out.box (JO (asA (s.ep+1) p)) 71);go_upto_region 5 with (first | (refine XG rfl 71 _ rfl g (k*3) rfl (asA (s.ep+1) p).row _ iF.out Tryz.underlying71 rfl qM ?_) | (refine Zm rfl _ _ _ rfl wr.heap.size (JO (asA (s.ep+1) p)) rfl rfl 71 _ (ZD wr _) qM rfl (aB _) ?_; rw [Zu]));clear HE iF;generalize wr.heap.size=za at*;generalize wr.alloc (.cells (JO (asA (s.ep+1) p)) 71)=W1 at*;have uF:Hid (∀wx,Eg (N+2) w0 wx c a q (ZI (ZI Z N (YP 71 3 (.slice (some ⟨g,0,none⟩) m cp) m (Yx Qc (l.map (asA (s.ep+1)))))) (N+1) (YR za 71 (JO (asA (s.ep+1) p)))) sk Lk→Zi Zb 70 #[.pointer (some ⟨a.r,0,none⟩),.int .i64 p.1] wx fun e w'=>e= .returned (.tuple #[.agg (Zd u),.bool true])∧Zt wx.heap.size wx w'):=Za fun wx hw=>by
    have:=hw.get (n:=i) (by rw [HU.out.2.2.2.2.2.1]; exact HU.out.1);rw [HU.out.2.2.2.2.2.1,HU.out.2.2.2.2.1] at this;rw [HU.out.2.2.2.2.2.2.2.2.2.2.2.2];exact this
   try simp only [qA]
   go_cut [10,11] from 35 to 45 (fun s10 s11 wx=> ∃zb:Nat,s10= .pointer (some ⟨zb,0,none⟩)∧s11= .bool true∧Hid (Eg (N+2+1) w0 wx c a q (ZI (ZI (ZI Z N (YP 71 3 (.slice (some ⟨g,0,none⟩) m cp) m (Yx Qc (l.map (asA (s.ep+1)))))) (N+1) (YR za 71 (JO (asA (s.ep+1) p)))) (N+2) (YR zb 63 (Zd u))) sk Lk))
   case first=>
    refine PG (fun w'=>Eg (N+2) w0 w' c a q (ZI (ZI Z N (YP 71 3 (.slice (some ⟨g,0,none⟩) m cp) m (Yx Qc (l.map (asA (s.ep+1)))))) (N+1) (YR za 71 (JO (asA (s.ep+1) p)))) sk Lk) 7 [0,1,2,3,4,5,6] (?_) ?_
    ·exact TZ.out.drew
    simp only [qF,qH];show ZB _ _ _ _ [_,_,_,_,_,_,_] _;iterate 4 (go_big_quiet_step ((intros; rfl)))
    refine Yw _ _ ⟨q.e,21,none⟩ (.pointer (some ⟨a.r,0,none⟩)) rfl rfl rfl (fun w h=>by simp [go_sem,h]) (fun w h=>Eg.x21 h) ?_;simp only [qB];iterate 1 (go_big_quiet_step ((intros; rfl)))
    refine Yw _ _ ⟨za,0,none⟩ (.int .i64 p.1) rfl rfl rfl (fun w h=>by simp [go_sem,h]) (fun w h=>(VQ h (r:=N+1) ZQ Ze xput_same).cell 0) ?_;simp only [qB];refine Zj ?_;have hD:Eg (N+2) w0 W1.drew c a q (ZI (ZI Z N (YP 71 3 (.slice (some ⟨g,0,none⟩) m cp) m (Yx Qc (l.map (asA (s.ep+1)))))) (N+1) (YR za 71 (JO (asA (s.ep+1) p)))) sk Lk:=TZ.out.drew;clear TZ;generalize W1.drew=V at*;refine UI (i:=7) (k:=11) Yi ZO ZO ?_ ?_
    ·refine JM #[.pointer (some ⟨a.r,0,none⟩),.int .i64 p.1] Tryz.call70 ((uF.out _ hD).mono ?_);rintro e w2 ⟨rfl,hb⟩;have h2:Eg (N+2) w0 w2 c a q (ZI (ZI Z N (YP 71 3 (.slice (some ⟨g,0,none⟩) m cp) m (Yx Qc (l.map (asA (s.ep+1)))))) (N+1) (YR za 71 (JO (asA (s.ep+1) p)))) sk Lk:=hD.below hb;refine ⟨_,rfl,h2,?_⟩;clear hb;try simp only [qA]
     refine FR (fun w'=>Eg (N+2) w0 w' c a q (ZI (ZI Z N (YP 71 3 (.slice (some ⟨g,0,none⟩) m cp) m (Yx Qc (l.map (asA (s.ep+1)))))) (N+1) (YR za 71 (JO (asA (s.ep+1) p)))) sk Lk) (m:=6) (f:=3) [8,9,10] (?_) ?_
     ·exact h2
     simp only [qF,qH];show ZB _ _ _ _ [_,_,_] _;iterate 3 (go_big_quiet_step ((intros; rfl)))
     refine Zj ?_;refine Qt (i:=11) ?_;refine YE rfl rfl (Kk rfl ?_);refine ⟨h2.below ((Zr _ _).alloc (Zg _) _),?_⟩;try simp only [qA]
     refine Qt (i:=12) ?_;refine YE rfl rfl (X8 _ _ _ rfl w2.heap.size (Zd u) rfl rfl 63 _ (ZD w2 _) Yo rfl (Yy _) ?_);rw [jJ];have h3:=Eg.box h2 (Zd u) 63;have h4:Eg (N+2) w0 (w2.alloc (.cells (Zd u) 63)) c a q (ZI (ZI Z N (YP 71 3 (.slice (some ⟨g,0,none⟩) m cp) m (Yx Qc (l.map (asA (s.ep+1)))))) (N+1) (YR za 71 (JO (asA (s.ep+1) p)))) sk Lk:=h2.below ((Zr _ _).alloc (Zg _) _);refine ⟨h4,?_⟩;generalize w2.alloc (.cells (Zd u) 63)=w4 at*;exact Zf3
    ·refine YE rfl rfl (Kk rfl ?_);have h1:=Eg.box hD (Zd Z9) 63;have h1':Eg (N+2) w0 (V.alloc (.cells (Zd Z9) 63)) c a q (ZI (ZI Z N (YP 71 3 (.slice (some ⟨g,0,none⟩) m cp) m (Yx Qc (l.map (asA (s.ep+1)))))) (N+1) (YR za 71 (JO (asA (s.ep+1) p)))) sk Lk:=hD.below ((Zr _ _).alloc (Zg _) _);refine ⟨h1',?_⟩;generalize V.heap.size=zb at*;generalize V.alloc (.cells (Zd Z9) 63)=V1 at*;try simp only [qA]
     refine Qt (i:=7) ?_;try simp only [qA]
     refine JM #[.pointer (some ⟨a.r,0,none⟩),.int .i64 p.1] Tryz.call70 ((uF.out _ h1').mono ?_);rintro e w2 ⟨rfl,hb⟩;have h2:=h1.below hb;have h2':Eg (N+2) w0 w2 c a q (ZI (ZI Z N (YP 71 3 (.slice (some ⟨g,0,none⟩) m cp) m (Yx Qc (l.map (asA (s.ep+1)))))) (N+1) (YR za 71 (JO (asA (s.ep+1) p)))) sk Lk:=h1'.below hb;refine ⟨_,rfl,h2',?_⟩;clear hb;try simp only [qA]
     refine FR (fun w'=>Eg (N+2) w0 w' c a q (ZI (ZI Z N (YP 71 3 (.slice (some ⟨g,0,none⟩) m cp) m (Yx Qc (l.map (asA (s.ep+1)))))) (N+1) (YR za 71 (JO (asA (s.ep+1) p)))) sk Lk) (m:=5) (f:=2) [8,9,10] (?_) ?_
     ·exact h2'
     simp only [qF,qH];show ZB _ _ _ _ [_,_,_] _;iterate 3 (go_big_quiet_step ((intros; rfl)))
     refine Zj ?_;refine Qt (i:=12) ?_;have hB:=h2.blkAt (r:=N+2) ZQ Ze xput_same;refine YE rfl rfl (X8 _ _ _ rfl zb (Zd u) rfl rfl 63 _ hB Yo rfl (Yy _) ?_);have h3:=h2.setr (r:=N+2) ZQ Ze xput_same (cs':=Zd u) (Zy.setRow hB _) (Kept.setRow (S:=fun i=>i=zb) (Kept.refl _ _) (.inl rfl) _);rw [Xg] at h3;have h4:Eg (N+2) w0 (w2.setRow zb (Zd u)) c a q (ZI (ZI Z N (YP 71 3 (.slice (some ⟨g,0,none⟩) m cp) m (Yx Qc (l.map (asA (s.ep+1)))))) (N+1) (YR za 71 (JO (asA (s.ep+1) p)))) sk Lk:=h3.drop ZQ;refine ⟨h4,?_⟩;generalize w2.setRow zb (Zd u)=w4 at*;exact Zf3
   case rest=>
    obtain ⟨zb,rfl,rfl,Hd⟩:=hcut;clear TZ uF;go_upto_region 6 with (fail);have eU:Eg (N+2) w0 wc.drew c a q (ZI (ZI Z N (YP 71 3 (.slice (some ⟨g,0,none⟩) m cp) m (Yx Qc (l.map (asA (s.ep+1)))))) (N+1) (YR za 71 (JO (asA (s.ep+1) p)))) sk Lk:=(Hd.out.drew).drop ZQ;refine PG (fun w'=>Eg (N+2) w0 w' c a q (ZI (ZI Z N (YP 71 3 (.slice (some ⟨g,0,none⟩) m cp) m (Yx Qc (l.map (asA (s.ep+1)))))) (N+1) (YR za 71 (JO (asA (s.ep+1) p)))) sk Lk) 6 [1,2,3,4,5,6] (?_) ?_
    ·exact eU
    simp only [qF,qH];show ZB _ _ _ _ [_,_,_,_,_,_] _;iterate 1 (go_big_quiet_step ((intros; rfl)))
    refine Yw _ _ ⟨za,2,none⟩ (.int .i64 (s.ep+1)) rfl rfl rfl (fun w h=>by simp [go_sem,h]) (fun w h=>(VQ h (r:=N+1) ZQ Ze xput_same).cell 2) ?_;simp only [qB];iterate 3 (go_big_quiet_step ((intros; rfl)))
    refine DE 24 _ q.e 0 (Zk c).toList _ rfl rfl rfl (fun w h=>LF (Eg.blk h)) ZC rfl Xn ?_;refine Zj ?_;have LY:=Za Hd.out.drew;clear Hd;generalize wc.drew=V3 at*;refine Qt (i:=0) ?_;refine YE rfl rfl (wp_load_row 63 _ rfl zb rfl 63 (Zd u) (0,0) _ (LY.out.blkAt (r:=N+2) ZQ Ze xput_same) Zs rfl Yo ?_);refine ⟨eU,?_⟩;try simp only [qA]
    refine Qt (i:=7) ?_;refine JM #[.agg (Zd u),.int .i64 (s.ep+1),.agg (Zk c)] Tryz.call258 ((HAs.out _).mono ?_);rintro e w5 ⟨rfl,hb5⟩;have Wk:=Za (LY.out.below hb5);have vN:Eg (N+2) w0 w5 c a q (ZI (ZI Z N (YP 71 3 (.slice (some ⟨g,0,none⟩) m cp) m (Yx Qc (l.map (asA (s.ep+1)))))) (N+1) (YR za 71 (JO (asA (s.ep+1) p)))) sk Lk:=Wk.out.drop ZQ;refine ⟨_,rfl,vN,?_⟩;clear LY hb5 HAs eU;try simp only [qA]
    refine FR (fun w'=>Eg (N+2) w0 w' c a q (ZI (ZI Z N (YP 71 3 (.slice (some ⟨g,0,none⟩) m cp) m (Yx Qc (l.map (asA (s.ep+1)))))) (N+1) (YR za 71 (JO (asA (s.ep+1) p)))) sk Lk) (m:=4) (f:=1) [8,9,10] (?_) ?_
    ·exact vN
    simp only [qF,qH];show ZB _ _ _ _ [_,_,_] _;iterate 3 (go_big_quiet_step ((intros; rfl)))
    refine Zj ?_;refine Qt (i:=11) ?_;have hB:=Wk.out.blkAt (r:=N+2) ZQ Ze xput_same;refine YE rfl rfl (X8 _ _ _ rfl zb (Zd v2) rfl rfl 63 _ hB Yo rfl (Yy _) ?_);have h7:=Wk.out.setr (r:=N+2) ZQ Ze xput_same (cs':=Zd v2) (Zy.setRow hB _) (Kept.setRow (S:=fun i=>i=zb) (Kept.refl _ _) (.inl rfl) _);rw [Xg] at h7;have dL:=Za h7;refine ⟨h7.drop ZQ,?_⟩;clear Wk vN hB h7;generalize w5.setRow zb (Zd v2)=w7 at*;refine ⟨by kernel_rfl,ZH ?_⟩;try simp only [qA]
    go_wp2_with fail;have x21:=Eg.x21 dL.out;have k0:w7.cell? ⟨za,0,none⟩=some (.int .i64 p.1):=(VQ dL.out (r:=N+1) ZQ Ze Ua).cell 0;have HB7:=Za (dL.out.blkAt (r:=N+2) ZQ Ze xput_same);refine Bj 8 ?_;simp only [qT,qD];iterate 7 (go_big_quiet_step ((intros; rfl)))
    refine Qg 63 _ zb 63 (Zd v2) _ rfl rfl rfl (fun w' h=>by obtain ⟨m,rfl⟩:=h; exact HB7.out) Zs rfl Yo ?_;simp only [qB];refine Zj ?_;intro _ Jw;obtain ⟨nr,Xl⟩:=Jw;subst Xl;have iG:Hid (Zi Zb 187 #[.pointer (some ⟨a.r,0,none⟩),.int .i64 p.1,.agg (Zd v2)] (w7.drewN nr) fun e w'=>e= .returned (.int .i64 0)∧Eg (N+2+1) w0 w' c a q (ZI (ZI (ZI Z N (YP 71 3 (.slice (some ⟨g,0,none⟩) m cp) m (Yx Qc (l.map (asA (s.ep+1)))))) (N+1) (YR za 71 (JO (asA (s.ep+1) p)))) (N+2) (YR zb 63 (Zd v2))) { zi s R with V:=DP c (s.ep+1) s.V (l.take (k+1))} Lk):=Za (by
     have hx:=dL.out.drewN nr;obtain ⟨X,hX,VP,hh,hK,_⟩:=hx.open;have hv:sk.V[i]?=some u:=by rw [HU.out.2.2.2.2.2.1,←HU.out.2.2.2.2.1,Zq,Zf HU.out.1]; rfl
     have htt:ZA sk.V≤18446744073709551615:=by rw [HU.out.2.2.2.2.2.1,HU.out.2.1.2.1]; exact HX.out.2.2.2.2.2.1
     have hs:=hh.set hX VP (v':=v2) hv HU.out.2.2.2.2.2.2.2.2.2.2.2.1.2 (by rw [HU.out.2.2.2.2.2.2.2.2.2.2.2.1.1]; omega);rw [←HU.out.2.2.2.2.2.2.2.2.2.2.2.2] at hs;refine hs.mono fun e w' ⟨he,h1⟩=>⟨he,?_⟩
     have h3:=hK _ _ _ h1 rfl rfl;rw [HU.out.2.2.1];rw [HU.out.2.2.2.2.2.1,←HU.out.2.2.2.2.2.2.1] at h3;exact h3)
    clear dL x21 k0 HB7;generalize w7.drewN nr=W8 at*;go_wp2_with fail;refine iG.out.mono ?_;rintro e w9 ⟨rfl,h9⟩;have Wl:=Za h9;clear h9 iG;go_wp2_with fail;have k0:w9.cell? ⟨za,0,none⟩=some (.int .i64 p.1):=(VQ Wl.out (r:=N+1) ZQ Ze Ua).cell 0;have HB9:=Za (Wl.out.blkAt (r:=N+2) ZQ Ze xput_same);refine Bj 6 ?_;simp only [qT,qD];iterate 5 (go_big_quiet_step ((intros; rfl)))
    refine Qg 63 _ zb 63 (Zd v2) _ rfl rfl rfl (fun w' h=>by obtain ⟨m,rfl⟩:=h; exact HB9.out) Zs rfl Yo ?_;simp only [qB];refine Zj ?_;intro _ Jw;obtain ⟨nr,Xl⟩:=Jw;subst Xl;have yX:Hid (Zi Zb 129 #[.pointer (some ⟨q.e,24,none⟩),.int .i64 p.1,.agg (Zd v2)] (w9.drewN nr) fun e w'=>e= .returned (.tuple #[])∧Eg (N+1) w0 w' c a q (ZI Z N (YP 71 3 (.slice (some ⟨g,0,none⟩) m cp) m (Yx Qc (l.map (asA (s.ep+1)))))) { zi s R with V:=DP c (s.ep+1) s.V (l.take (k+1))} (L++EH c (s.ep+1) s.V (l.take (k+1)))):=Za (by
     have h0:=HX.out.2.2.2.2.2.2.2.1;have Wd:=HX.out.2.1.2;have Gj:=HX.out.2.2.1.ub0;have MG:=HU.out.2.2.2.2.2.2.2.2.2.2.1;have huw:=HU.out.2.2.2.2.2.2.2.2.2.1;have:=pf (Wl.out.drewN nr) (i:=p.1) (v:=v2) Ze Ze HU.out.2.2.2.2.2.2.2.2.1;refine this.mono fun e w' ⟨he,h5⟩=>⟨he,?_⟩
     rw [HU.out.2.2.2.1,←List.append_assoc,HU.out.2.2.2.2.2.2.2.1];exact (h5.drop ZQ).drop ZQ)
    clear Wl k0 HB9 HU;generalize w9.drewN nr=W10 at*;go_wp2_with fail;refine yX.out.mono ?_;rintro e w11 ⟨rfl,Gj⟩;have H6:=Za Gj;clear Gj yX;exact Zdv
  ·obtain rfl:k=m:=by omega
   clear XJ;have XJ: ¬k < k:=by omega
   have H7:=HE.out;rw [Yn Ro] at H7;have H8:=Za H7;clear HE H7;go_wp2_with fail;go_ret;exact ⟨_,rfl,by rw [HM.out]; exact H8.out⟩
end
end
section
open Go Go.RowKit
def WO (V A:List Yd)(F:List Nat)(W:List Yd) :Prop:=W.length=V.length∧ ∀j,j < V.length→W.getD j Z9=if j ∈ F then A.getD j Z9 else V.getD j Z9
section
variable {V A W:List Yd} {F:List Nat} {i:Nat}
theorem WO.refl (V A:List Yd) :WO V A [] V:=⟨rfl,fun j _=>by simp⟩
theorem WO.set (h:WO V A F W)(hi:i < V.length) :WO V A (F++[i]) (W.set i (A.getD i Z9)):=by
 refine ⟨by rw [List.length_set]; exact h.1,fun j hj=>?_⟩
 by_cases e:i=j
 ·subst e;rw [Pc (by rw [h.1]; exact hi),if_pos ZO]
 ·rw [getD_set_ne e,h.2 j hj];have Kt: ¬j=i:=fun h=>e h.symm
  by_cases hF:j ∈ F
  ·rw [if_pos hF,if_pos (by simp [hF])]
  ·rw [if_neg hF,if_neg (by simp [hF,Kt])]
theorem WO.done (h:WO V A F W)(hl:A.length=V.length)(ho: ∀j,j < V.length→j ∉ F→V.getD j Z9=A.getD j Z9) :W=A:=by
 refine aY (h.1.trans hl.symm) fun j hj=>?_
 have Pe:j < V.length:=by rw [←h.1]; exact hj
 rw [h.2 j Pe]
 split
 ·rfl
 ·rename_i hF; exact ho j Pe hF
theorem Au: ∀(V A W:List Yd),A.length=V.length→W.length=V.length→(∀j,j < V.length→W.getD j Z9=V.getD j Z9∨W.getD j Z9=A.getD j Z9)→(∀v ∈ V,Yq v)→(∀v ∈ A,Yq v)→ZA W≤ZA V+ZA A
 | [],A,W,h1,h2,_,_,ha=>by
  rw [List.eq_nil_of_length_eq_zero h2];have:=total_nonneg ha;show (0:Int)≤0+ZA A;omega
 | v::V,[],W,h1,_,_,_,_=>by simp at h1
 | v::V,a::A,[],_,h2,_,_,_=>by simp at h2
 | v::V,a::A,w::W,h1,h2,h,hv,ha=>by
  have ih:=Au V A W IS (by simpa using h2) (fun j hj=>by
   have:=h (j+1) Vq;simpa using this) (fun x hx=>hv x UT) (fun x hx=>ha x UT)
  have h0:=h 0 ZO;have b1:=(bounds_u64 (hv v ZO).1).1;have b2:=(bounds_u64 (ha a ZO).1).1;have e1:ZA (w::W)=w.bal+ZA W:=rfl;have e2:ZA (v::V)=v.bal+ZA V:=rfl;have e3:ZA (a::A)=a.bal+ZA A:=rfl;have:w=v∨w=a:=by simpa using h0
  rcases this with rfl | rfl <;> omega
theorem WO.or (h:WO V A F W) : ∀j,j < V.length→W.getD j Z9=V.getD j Z9∨W.getD j Z9=A.getD j Z9:=fun j hj=>by
 rw [h.2 j hj]
 split
 ·exact .inr rfl
 ·exact .inl rfl
theorem WO.total (h:WO V A F W)(hl:A.length=V.length)(hv: ∀v ∈ V,Yq v)(ha: ∀v ∈ A,Yq v) :ZA W≤ZA V+ZA A:=Au V A W hl h.1 h.or hv ha
theorem WO.fits (h:WO V A F W)(hl:A.length=V.length)(hv: ∀v ∈ V,Yq v)(ha: ∀v ∈ A,Yq v) : ∀v ∈ W,Yq v:=fun v hw=>by
 obtain ⟨j,hj,rfl⟩:=List.mem_iff_getElem.1 hw;have Pe:j < V.length:=by rw [←h.1]; exact hj
 have e:W[j]=W.getD j Z9:=by rw [Zq,Zf hj]; rfl
 rw [e]
 rcases h.or j Pe with h1 | h1 <;> rw [h1,Zq]
 ·rw [Zf Pe]; exact hv _ (Kr Pe)
 ·rw [Zf (by rw [hl]; exact Pe)]; exact ha _ (Kr _)
theorem dc {mb:Int}{p:Int × Int}{j:Nat}(h1:j≠p.1.toNat)(h2:j≠p.2.toNat)(V:List Yd) :(UO V p mb).getD j Z9=V.getD j Z9:=by
 unfold UO
 split
 ·unfold SR;rw [getD_set_ne (fun e=>h2 e.symm),getD_set_ne (fun e=>h1 e.symm)]
 ·rfl
theorem AN (mb:Int) : ∀(q:List (Int × Int)) (V:List Yd) (j:Nat),(∀p ∈ q,j≠p.1.toNat∧j≠p.2.toNat)→(J8 mb V q).getD j Z9=V.getD j Z9
 | [],V,j,_=>rfl
 | p::q,V,j,h=>by
  show (J8 mb (UO V p mb) q).getD j Z9=_;rw [AN mb q _ j (fun x hx=>h x UT),dc (h p ZO).1 (h p ZO).2]
theorem SY {j:Nat} : ∀(l:List Py),(∀p ∈ l,p.ix≠(j:Int))→KF j l=0
 | [],_=>rfl
 | p::l,h=>by
  have:=SY l (fun x hx=>h x UT);have h2:=h p ZO;simp only [KF,if_neg h2,this];rfl
theorem xl {mb:Int}(hm:0≤mb){q:List Rq}{V:List Yd}(hq: ∀r ∈ q,UY r)(hv: ∀v ∈ V,Yq v){j:Nat}(hj:j < V.length)(h: ∀p ∈ Kf mb V q,p.ix≠(j:Int)) :(XX mb V q).getD j Z9=V.getD j Z9:=by
 have hx:V[j]?=some (V.getD j Z9):=by rw [Zq,Zf hj]; rfl
 obtain ⟨v',h1,h2⟩:=(DJ mb hm q V hq hv).1 j _ hx;rw [SY _ h] at h2;rw [Zq,h1,Option.getD_some,h2.1,Int.sub_zero]
end
end
section
open Go Go.RowKit Go.Deep
theorem ZcK {w:Zc}{b1 b2 k1 k2 n1 n2:Nat}{e1 e2:TypeId}{v1 v2:Zo}{x1 x2:List Zo}(h1:w.ownsRow b1 e1 k1 v1 n1 x1)(h2:w.ownsRow b2 e2 k2 v2 n2 x2)(Kt:e1≠e2) : ∀i,v1.ownBlock=some i→ ¬v2.ownBlock=some i:=fun i hi hj=>by
 rcases h1.2 with ⟨rfl,_⟩ | ⟨g1,_,c1,rfl,_,a1,_⟩
 ·simp [Xq] at hi
 ·rcases h2.2 with ⟨rfl,_⟩ | ⟨g2,_,c2,rfl,_,a2,_⟩
  ·simp [Xq] at hj
  ·have e1:g1=i:=by simpa [Xq] using hi
   have e2:g2=i:=by simpa [Xq] using hj
   rw [e1] at a1;rw [e2,a1] at a2;injection a2 with a2;injection a2 with _ a2 _;exact Kt a2
theorem NS: ∀ {l:List Py},(∀p ∈ l,0 < p.am)→0≤Ux l
 | [],_=>Int.le_refl _
 | p::l,h=>by
  have h1:=NS (l:=l) (fun x hx=>h x UT);have h2:=h p ZO;show 0≤p.am+Ux l;omega
theorem nj {l:List Py}{k:Nat}{p:Py}(hk:l[k]?=some p) :Ux (l.take (k+1))=Ux (l.take k)+p.am:=by
 rw [YN,hk,Qr,Ls];show _=_;simp [Ux]
theorem yg {l:List Py}(h: ∀p ∈ l,0 < p.am)(k:Nat) :Ux (l.take k)≤Ux l:=by
 have e:=Ls (l.take k) (l.drop k);rw [List.take_append_drop] at e;have:=NS (l:=l.drop k) (fun x hx=>h x (List.mem_of_mem_drop hx));omega
def pyN (p:Py) :Nat:=p.ix.toNat
theorem mD (l:List Py) :Yx QW (pmOf l)=Yx VJ l:=by
 unfold Yx pmOf;rw [List.flatMap_map];rfl
section
variable {N:Nat} {w0:Ez} {w w' w1:Zc} {c cf:Nat→Int} {a:Pl} {q:Ql} {X Z:Nat→Zc→(Nat→Prop)→Prop} {s s':Sg} {L L':List QO} {k:Nat}
theorem En.more2 (h:En N w0 w cf a X s L)(hX: ∀k,8≤k→Xa (X k))(hN:8≤N){Q1 Q2:Zc→(Nat→Prop)→Prop}(hQ1:Xa Q1)(tK:Xa Q2){S1 S2:Nat→Prop}(h1:Q1 w' S1)(h2:Q2 w' S2)(Sz: ∀i,S1 i→w.heap.size≤i)(pY: ∀i,S2 i→w.heap.size≤i)(hd: ∀i,S1 i→ ¬S2 i)(hb:Zt w.heap.size w w') :En (N+2) w0 w' cf a (ZI (ZI X N Q1) (N+1) Q2) s L:=by
 obtain ⟨Φ,F,g1,g2⟩:=h;have F0:=F.below (fun j _=>Xv hX j) hb;have q1:Pt cf a (ZI X N Q1) s L N w' S1:=by rw [pt_high hN,xput_same]; exact h1
 have F1:=F0.put (P':=Pt cf a (ZI X N Q1) s L) (D7 hN) q1 (fun i hi=>hQ1.1 w' S1 h1 i hi) (fun j hj i hi hv=>by
  have:=Sz i hv;have:=F.lt j hj i hi;omega)
 have q2:Pt cf a (ZI (ZI X N Q1) (N+1) Q2) s L (N+1) w' S2:=by rw [pt_high Ze,xput_same]; exact h2
 have F2:=F1.put (P':=Pt cf a (ZI (ZI X N Q1) (N+1) Q2) s L) (D7 Ze) q2 (fun i hi=>tK.1 w' S2 h2 i hi) (fun j hj i hi hv=>by
  by_cases Mi:j=N
  ·subst Mi; rw [Xe] at hi; exact hd i hi hv
  ·rw [fput_other Mi] at hi;have:=pY i hv;have:=F.lt j Ze i hi;omega)
 have g3:Kept w0.T w0.w w':=g2.trans (Kept.of_below (S:=fun _=>False) hb) (fun _ _ h=>h.elim);refine ⟨_,F2,fun j hj i hi=>?_,g3⟩
 by_cases hj1:j=N+1
 ·subst hj1; rw [Xe] at hi; exact .inr (Yk g2.size (pY i hi))
 ·rw [fput_other hj1] at hi
  by_cases Mi:j=N
  ·subst Mi; rw [Xe] at hi; exact .inr (Yk g2.size (Sz i hi))
  ·exact tn
theorem Eg.fresh2 (h:Eg N w0 w c a q Z s L){e1 e2:TypeId}{k1 k2 n1 n2:Nat}{v1 v2:Zo}{x1 x2:List Zo}(h1:w'.ownsRow w.heap.size e1 k1 v1 n1 x1)(h2:w'.ownsRow w.heap.size e2 k2 v2 n2 x2)(Kt:e1≠e2)(hb:Zt w.heap.size w w') :
  Eg (N+2) w0 w' c a q (ZI (ZI Z N (YP e1 k1 v1 n1 x1)) (N+1) (YP e2 k2 v2 n2 x2)) s L:=by
 obtain ⟨X,hX,hZ,hN,h⟩:=h;refine ⟨ZI (ZI X N (YP e1 k1 v1 n1 x1)) (N+1) (YP e2 k2 v2 n2 x2),fun k hk=>?_,fun k g1 g2=>?_,by omega,?_⟩
 ·unfold ZI; split
  ·exact stays_row
  ·split
   ·exact stays_row
   ·exact hX k hk
 ·unfold ZI; split
  ·rfl
  ·split
   ·rfl
   ·exact hZ k g1 Ze
 ·have:=h.more2 (DN hX) Ze stays_row stays_row (row_zero h1) (row_zero h2) (fun i hi=>(owns_lt h1 i hi).1) (fun i hi=>(owns_lt h2 i hi).1) (ZcK h1 h2 Kt) hb;rw [OW hN,OW Ze] at this;exact this
theorem Zbs (hc:GE c)(hi:Inv c k s)(h:Eg N w0 w c a q Z s L) :
  Zi Zb 136 #[.pointer (some ⟨q.e,0,none⟩)] w fun e w'=> ∃v,e= .returned (.tuple #[v,.int .i64 ((EC c s:Nat) :Int)])∧
   Eg (N+1) w0 w' c a q (ZI Z N (YP 61 3 v (tkP c s).length (Yx QW (tkP c s)))) { s with V:=F8 c s,P:=s.P+Ux (Kf (c 5) s.V (s.pt.take (EC c s))),pt:=s.pt.drop (EC c s)} L:=by
 have hN:=h.low;obtain ⟨n,hn⟩ : ∃n,EC c s=n:=⟨_,rfl⟩;have tR:min (c 16).toNat s.pt.length=n:=hn;obtain ⟨A,hA⟩ : ∃A,F8 c s=A:=⟨_,rfl⟩;obtain ⟨Ps,hPs⟩ : ∃Ps,Kf (c 5) s.V (s.pt.take n)=Ps:=⟨_,rfl⟩;have hPP:tkP c s=pmOf Ps:=by unfold tkP; rw [hn,hPs]
 have zu:XX (c 5) s.V (s.pt.take n)=A:=by rw [←hA]; unfold F8; rw [hn]
 have pQ:0≤c 16:=hc.g.part;have zO:s.pt.length≤4096:=by have:=hi.ptl; have:=hc.q1; omega
 have tT:s.V.length≤4096:=by have:=hi.len; have:=hc.g.cap1; omega
 have h5:0≤c 5:=by have:=hc.m5; omega
 have jn:(s.pt.take n).length=n:=by rw [Xm]; omega
 have HNx:=Za (fun m=>pj (h.drewN m) (mo:=c 16) pQ Ze tR);have x16:=Eg.x16 h;have HC:=Za (Zl hc hi);have HX:=Za (Zl tR (Zl zu (Zl hPs (Zl pQ (Zl zO (Zl tT (Zl h5 jn)))))));have HN:=Za hN;rw [hn,hA,hPP,hPs,mD];have hlen:(pmOf Ps).length=Ps.length:=by simp [pmOf]
 rw [hlen];clear hc hi h hN hn tR hA hPs hPP zu pQ zO tT h5 hlen jn;go_enter Tryz.func136,Tryz.ntmps136;go_wp2_with fail;refine Bj 8 ?_;simp only [qT,qD];iterate 8 (go_big_quiet_step ((intros; rfl)))
 refine Zj ?_;intro _ Jw;obtain ⟨nr,Xl⟩:=Jw;subst Xl;go_wp2_with fail;refine (HNx.out nr).mono ?_;rintro e w2 ⟨vd,rfl,h2,_⟩;obtain ⟨id,cd,rfl⟩:=XH (h2.row (r:=N) HN.out Ze xput_same);have H2:=Za h2;clear h2 HNx x16
 by_cases h0:n=0
 ·have d0:((n:Int)==0)=true:=by simp [h0]
  have hP0:Ps=[]:=by rw [←HX.out.2.2.1,h0,List.take_zero]; rfl
  have MD:s.V=A:=by rw [←HX.out.2.1,h0,List.take_zero]; rfl
  have h3:=((H2.out.drop HN.out).nil 61 3);have H3:Hid (Eg (N+1) w0 w2 c a q (ZI Z N (YP 61 3 (.slice none 0 0) Ps.length (Yx VJ Ps))) { s with V:=A,P:=s.P+Ux Ps,pt:=s.pt.drop n} L):=Za (by
   rw [hP0,←MD];have e:s.P+Ux []=s.P:=by simp [Ux]
   rw [e];exact h3)
  have HNe:=Za h0;clear h3 hP0 MD h0 H2;go_wp2_with fail;go_ret2;exact ⟨_,by rw [HNe.out]; rfl,H3.out⟩
 ·have d0:((n:Int)==0)=false:=by simp [h0]
  have hPp: ∀p ∈ Ps,0 < p.am∧ ∃i:Nat,p.ix=(i:Int)∧i < s.V.length:=fun p hp=>by
   rw [←HX.out.2.2.1] at hp;obtain ⟨g1,_,i,v,g2,g3,_⟩:=(DJ (c 5) HX.out.2.2.2.2.2.2.1 _ s.V (fun r hr=>HC.out.2.ptf r (ZP hr)) HC.out.2.fits).2 p hp;exact ⟨g1,i,g2,(Zh.1 g3).1⟩
  have zv:A.length=s.V.length:=by rw [←HX.out.2.1]; exact Dd _ _ _
  have hAf: ∀v ∈ A,Yq v:=by
   rw [←HX.out.2.1];exact Et (c 5) HX.out.2.2.2.2.2.2.1 _ _ (fun r hr=>HC.out.2.ptf r (ZP hr)) HC.out.2.fits
  have hAt:ZA A=ZA s.V - Ux Ps:=by rw [←HX.out.2.1,←HX.out.2.2.1]; exact FH _ _ _
  have qq: ∀j,j < s.V.length→j ∉ Ps.map pyN→s.V.getD j Z9=A.getD j Z9:=fun j hj Da=>by
   rw [←HX.out.2.1];refine (xl HX.out.2.2.2.2.2.2.1 (fun r hr=>HC.out.2.ptf r (ZP hr)) HC.out.2.fits hj fun p hp e=>?_).symm;rw [HX.out.2.2.1] at hp;exact Da (Yj.2 ⟨p,hp,by unfold pyN; omega⟩)
  have hPl:Ps.length≤4096:=by
   have h1:=OQ (c 5) (s.pt.take n) s.V;rw [HX.out.2.2.1,HX.out.2.2.2.2.2.2.2] at h1;have:=HX.out.1; have:=HX.out.2.2.2.2.1; omega
  have HY:=Za (Zl hPp (Zl zv (Zl hAf (Zl hAt qq))));have hn5:n≤4096:=by have:=HX.out.1; have:=HX.out.2.2.2.2.1; omega
  clear h0 hPp zv hAf hAt qq;go_wp2_with fail;refine PG (fun w'=>Zy w' q.e 107 (Un c a q)) 9 [0,1,2,3,4,6,7,8,9,10] (?_) ?_
  ·exact H2.out.drew.blk
  simp only [qF,qH];show ZB _ _ _ _ [_,_,_,_,_,_,_,_,_,_] _;iterate 4 (go_big_quiet_step ((intros; rfl)))
  refine Yw _ _ ⟨q.e,21,none⟩ (.pointer (some ⟨a.r,0,none⟩)) rfl rfl rfl (fun w h=>by simp [go_sem,h]) (fun w h=>h.cell 21) ?_;simp only [qB];iterate 4 (go_big_quiet_step ((intros; rfl)))
  refine Pu 24 _ q.e 0 (Zk c) _ rfl rfl rfl (fun w h=>LF h) ZC rfl Xn ?_;refine Zj ?_;have H3:=Za H2.out.drew;clear H2;generalize w2.drew=V3 at*;refine Qt (i:=5) ?_;refine JM #[.pointer (some ⟨a.r,0,none⟩)] Tryz.call55 ((Eg.all H3.out).mono ?_);rintro e w4 ⟨va,rfl,h4,_⟩;have H4:=Za h4;refine ⟨_,rfl,h4.blk,?_⟩;clear h4 H3;have iG:Hid (Zi Zb 218 #[va,.slice id n cd,.agg (Zk c)] w4 fun e w'=> ∃v p,e= .returned (.tuple #[v,p,.int .i64 (n:Int)])∧Eg (N+1+1+2) w0 w' c a q (ZI (ZI (ZI (ZI Z N (YP 75 2 (.slice id n cd) n (Jl (s.pt.take n)))) (N+1) (YP 63 7 va s.V.length (XC s.V))) (N+1+1) (YP 63 7 v s.V.length (XC A))) (N+1+1+1) (YP 61 3 p Ps.length (Yx VJ Ps))) { s with pt:=s.pt.drop n} L):=Za (by
   have r1:=H4.out.row (r:=N) HN.out Ze Ua;obtain ⟨ab,ac,rfl,hl⟩:=H4.out.lst (r:=N+1) ZQ Ze xput_same;have p7:n≤cd:=by
    rcases r1.2 with ⟨e1,e2⟩ | ⟨g1,cp1,cur,e1,_,_,e3,_⟩
    ·omega
    ·injection e1 with _ _ e4; omega
   have hq:J6 Rq.row 2 w4 (fun _=>False) id (s.pt.take n):=fun h0=>by
    rcases r1.2 with ⟨e1,e2⟩ | ⟨g1,cp1,cur,e1,_,e2,_⟩
    ·have:=HX.out.2.2.2.2.2.2.2; omega
    ·injection e1 with e1 _ _;refine ⟨g1,0,e1,fun h=>h,(Ys.1 e2).1,fun i v hi=>?_⟩;subst e1;intro j u hj;have Df:=(Zh.1 hj).1;have:=r1.cells rfl (i*2+j) u (by unfold Jl; rw [EL (row:=Rq.row) (k:=2) (fun _=>rfl) hi Df]; exact hj);rw [add_plain] at this;rw [Yb] at this ⊢;exact this
   have:=df ab id ac cd s.V (s.pt.take n) c w4 hl hq HC.out.2.fits (fun r hr=>HC.out.2.ptf r (ZP hr)) HX.out.2.2.2.2.2.2.1 HX.out.2.2.2.1 HX.out.2.2.2.2.2.1 (by rw [HX.out.2.2.2.2.2.2.2]; omega) (by rw [HX.out.2.2.2.2.2.2.2]; exact p7);have e1:Uw c (s.pt.take n)=n:=by unfold Uw; rw [HX.out.2.2.2.2.2.2.2]; have:=HX.out.1; omega
   rw [e1,HX.out.2.2.2.2.2.2.2,Yn (by rw [HX.out.2.2.2.2.2.2.2]; exact Zg _),HX.out.2.1,HX.out.2.2.1] at this;refine this.mono fun e w' ⟨v,p,he,g1,g2,g3⟩=>⟨v,p,he,H4.out.fresh2 g1 g2 Xh g3⟩)
  refine Qt (i:=11) ?_;try simp only [qA]
  refine JM #[va,.slice id n cd,.agg (Zk c)] Tryz.call218 ((iG.out).mono ?_);rintro e w5 ⟨vA,vP,rfl,h5⟩;refine ⟨_,rfl,h5.blk,?_⟩;have yT:=Za h5.blk;have rA:=h5.row (r:=N+1+1) ZQ Ze Ua;obtain ⟨iA,cA,rfl⟩:=XH rA;obtain ⟨ip,cp,rfl⟩:=XH (h5.row (r:=N+1+1+1) ZQ Ze xput_same);obtain ⟨m,hm⟩ : ∃m,Ps.length=m:=⟨_,rfl⟩;obtain ⟨nV,bA⟩ : ∃nV,s.V.length=nV:=⟨_,rfl⟩;have HM:=Za (Zl hm bA);rw [hm,bA] at h5;rw [hm] at hPl;have H5:=Za h5;rw [hm,bA];clear iG H4 h5 rA hm bA;try simp only [qA]
  refine FR (fun w'=>Zy w' q.e 107 (Un c a q)) (m:=7) (f:=0) [12,13,14,15,16,17,18] (?_) ?_
  ·exact yT.out
  simp only [qF,qH];show ZB _ _ _ _ [_,_,_,_,_,_,_] _;iterate 7 (go_big_quiet_step ((intros; rfl)))
  refine Zj ?_;clear yT;refine ⟨by kernel_rfl,ZH ?_⟩;try simp only [qA]
  go_wp2_with fail;go_loopw [40] (fun s40 wr=> ∃(k:Nat) (W:List Yd),k≤m∧s40= .int .i64 k∧Hid (WO s.V A ((Ps.take k).map pyN) W∧Eg (N+1+1+2) w0 wr c a q (ZI (ZI (ZI (ZI Z N (YP 75 2 (.slice id n cd) n (Jl (s.pt.take n)))) (N+1) (YP 63 7 va nV (XC s.V))) (N+1+1) (YP 63 7 (.slice iA nV cA) nV (XC A))) (N+1+1+1) (YP 61 3 (.slice ip m cp) m (Yx VJ Ps))) { s with V:=W,P:=s.P+Ux (Ps.take k),pt:=s.pt.drop n} L)) (fun s40 _=>m -(intOf s40).toNat)
  case atStart=>exact ⟨0,s.V,by omega,rfl,Za ⟨WO.refl _ _,by
   have e:s.P+Ux (Ps.take 0)=s.P:=by simp [Ux]
   rw [e]; exact H5.out⟩⟩
  case round=>
   obtain ⟨k,W,hk,rfl,HE⟩:=hrel
   by_cases XJ:k < m
   ·obtain ⟨p,hp⟩ : ∃p,Ps[k]?=some p:=⟨_,Zf (by rw [HM.out.1]; exact XJ)⟩;have rP:=HE.out.2.row (r:=N+1+1+1) ZQ Ze xput_same;obtain ⟨gP,rfl,Mn⟩:=FF (row:=VJ) Py.row_len rP Ze hp;obtain ⟨hpa,i,zG,EB⟩:=HY.out.1 p (ZE hp);have qj:=HE.out.1.set (i:=i) EB;have Zfo:(Ps.take k).map pyN++[i]=(Ps.take (k+1)).map pyN:=by
     rw [YN,hp,Qr,List.map_append];show _=_++[p.ix.toNat];rw [zG]; rfl
    rw [Zfo] at qj;have hsm:=nj hp;have nX:=yg (fun p hp=>(HY.out.1 p hp).1) (k+1);have hsp:=NS (l:=Ps.take k) (fun p hp=>(HY.out.1 p (ZP hp)).1);have MD:=total_nonneg HY.out.2.2.1;have hAt:=HY.out.2.2.2.1;have bB:=HC.out.2.total HC.out.1;have EU:=HC.out.2.sum;have hmt:=qj.total HY.out.2.1 HC.out.2.fits HY.out.2.2.1;have hp0:=HC.out.2.p0;have Ai:=HC.out.2.b0;have vU:=HC.out.2.d1;have VU:=HC.out.2.cap;have hc4:=HC.out.1.a4;have hiA:i < A.length:=by rw [HY.out.2.1]; exact EB
    have hxA:A[i]?=some (A.getD i Z9):=by rw [Zq,Zf hiA]; rfl
    have hxW:W[i]?=some (W.getD i Z9):=by rw [Zq,Zf (by rw [HE.out.1.1]; exact EB)]; rfl
    rw [total_set hxW] at hmt;obtain ⟨vA,hvA⟩ : ∃vA,A.getD i Z9=vA:=⟨_,rfl⟩;rw [hvA] at qj hmt hxA;have hfA:Yq vA:=HY.out.2.2.1 vA (QI hxA);have rA:=HE.out.2.row (r:=N+1+1) ZQ Ze Ua;obtain ⟨gA,rfl,hrA⟩:=FF (row:=Yd.row) (sz:=7) (l:=A) (fun _=>rfl) rA (by have:=HM.out.2; omega) hxA;have Ak:(i:Int)< (nV:Int):=by have:=HM.out.2; omega
    have Oe: ¬(i:Int)< 0:=by omega
    have ot:Hid (∀wx,Eg (N+1+1+2+1) w0 wx c a q (ZI (ZI (ZI (ZI (ZI Z N (YP 75 2 (.slice id n cd) n (Jl (s.pt.take n)))) (N+1) (YP 63 7 va nV (XC s.V))) (N+1+1) (YP 63 7 (.slice (some ⟨gA,0,none⟩) nV cA) nV (XC A))) (N+1+1+1) (YP 61 3 (.slice (some ⟨gP,0,none⟩) m cp) m (Yx VJ Ps))) (N+1+1+2) (YR wr.heap.size 61 (J0 p))) { s with V:=W,P:=s.P+Ux (Ps.take k),pt:=s.pt.drop n} L→Zi Zb 219 #[.pointer (some ⟨q.e,21,none⟩),.int .i64 p.ix,.agg (Zd vA),.int .u64 p.am] wx fun e w'=>e= .returned (.tuple #[])∧WO s.V A ((Ps.take (k+1)).map pyN) (W.set i vA)∧Eg (N+1+1+2) w0 w' c a q (ZI (ZI (ZI (ZI Z N (YP 75 2 (.slice id n cd) n (Jl (s.pt.take n)))) (N+1) (YP 63 7 va nV (XC s.V))) (N+1+1) (YP 63 7 (.slice (some ⟨gA,0,none⟩) nV cA) nV (XC A))) (N+1+1+1) (YP 61 3 (.slice (some ⟨gP,0,none⟩) m cp) m (Yx VJ Ps))) { s with V:=W.set i vA,P:=s.P+Ux (Ps.take (k+1)),pt:=s.pt.drop n} L):=Za fun wx hx=>by
     have:=ZeS hx (n:=i) (v:=W.getD i Z9) (v':=vA) (x:=p.am) hxW hfA (by show ZA W - _+_≤_; omega) (by unfold JA; simp only; omega) Ze Ef;rw [←zG] at this;refine this.mono fun e w' ⟨he,h1⟩=>⟨he,qj,?_⟩
     rw [hsm,←Int.add_assoc];exact h1.drop ZQ
    have HR:=Za (Zl Mn hrA);have HV:=Za zG;clear hp rP Mn hpa EB qj Zfo hsm nX hsp MD hAt bB EU hmt hp0 Ai vU VU hc4 hiA hxA hxW hvA hfA rA hrA;go_upto_region 7 with (fail);have TZ:=Za (HE.out.2.box (J0 p) 61);have hHr:Hid (wr.heap.size=wr.heap.size):=Za rfl;have Zfx:Hid ((wr.alloc (.cells (J0 p) 61)).rangeAt gA (i*7) vA.row):=Za (World.rangeAt_alloc HR.out.2 _);go_upto_region 8 with (first | (refine XG rfl 61 _ rfl gP (k*3) rfl p.row _ HR.out.1 Tryz.underlying61 rfl qO ?_) | (refine Zm rfl _ _ _ rfl wr.heap.size (J0 p) rfl rfl 61 _ (ZD wr _) qO rfl (aC _) ?_; rw [Zu]));try simp only [qA]
    clear HE HR hHr;generalize wr.heap.size=zp at*;generalize wr.alloc (.cells (J0 p) 61)=W1 at*;have kp0:W1.cell? ⟨zp,0,none⟩=some (.int .i64 (i:Int)):=by rw [←HV.out]; exact (VQ TZ.out (r:=N+1+1+2) ZQ Ze xput_same).cell 0
    have kp1:W1.cell? ⟨zp,1,none⟩=some (.int .u64 p.am):=(VQ TZ.out (r:=N+1+1+2) ZQ Ze xput_same).cell 1;rw [HV.out] at ot;refine Bj 12 ?_;simp only [qT,qD];iterate 9 (go_big_quiet_step ((intros; rfl)))
    refine JG 63 _ gA (i*7) vA _ rfl rfl rfl (fun w' h=>by obtain ⟨m,rfl⟩:=h; exact Zfx.out) Zs rfl Yo ?_;try simp only [qA]
    iterate 2 (go_big_quiet_step ((intros; rfl)))
    refine Zj ?_;intro _ Jw;obtain ⟨nr,Xl⟩:=Jw;subst Xl;have tB:=Za (ot.out _ (TZ.out.drewN nr));clear TZ ot kp0 kp1 Zfx;go_wp2_with fail;refine tB.out.mono ?_;rintro e w6 ⟨rfl,h6a,h6b⟩;have H6:=Za (Zl h6a h6b);clear h6a h6b tB;go_wp2_with fail;go_roundw
    case rel=>exact ⟨k+1,W.set i vA,by omega,by go_num,H6⟩
    case measure=>exact Uz
   ·obtain rfl:k=m:=by omega
    clear XJ;have XJ: ¬k < k:=by omega
    have H7:Hid (Eg (N+1) w0 wr c a q (ZI Z N (YP 61 3 (.slice ip k cp) Ps.length (Yx VJ Ps))) { s with V:=A,P:=s.P+Ux Ps,pt:=s.pt.drop n} L):=Za (by
     have h1:=HE.out;rw [Yn (by rw [HM.out.1]; exact Zg _)] at h1;have e:=h1.1.done HY.out.2.1 HY.out.2.2.2.2;have h2:=h1.2;rw [e] at h2;rw [HM.out.1];exact Eg.pick (m:=3) h2 HN.out (fun k h1 h2=>by rw [xput_ne Ze,xput_ne Ze,xput_ne Ze,xput_ne Ze]) xput_same)
    clear HE;go_wp2_with fail;go_ret2;exact ⟨_,rfl,H7.out⟩
end
end
section
open Go Go.RowKit Go.Deep
def Cd (V:List Yd)(mg:List (Int × Int)) :Prop:= ∀p ∈ mg,∃i j:Nat,p=((i:Int),(j:Int))∧i < V.length∧j < V.length
def prN (l:List (Int × Int)) :List Nat:=l.flatMap fun p=> [p.1.toNat,p.2.toNat]
theorem rF {l:List (Int × Int)}{k i j:Nat}(hk:l[k]?=some ((i:Int),(j:Int))) :prN (l.take (k+1))=prN (l.take k)++[i]++[j]:=by
 unfold prN;rw [YN,hk,Qr,List.flatMap_append];simp
section
variable {N:Nat} {w0:Ez} {w w' w1:Zc} {c cf:Nat→Int} {a:Pl} {q:Ql} {X Z:Nat→Zc→(Nat→Prop)→Prop} {s s':Sg} {L L':List QO} {k:Nat}
theorem ZeR (h:Eg N w0 w c a q Z s L){V A:List Yd}{F:List Nat}(hm:WO V A F s.V){i:Nat}(hi:i < V.length)(hl:A.length=V.length)(hv: ∀v ∈ V,Yq v)(ha: ∀v ∈ A,Yq v)(ht:ZA V+ZA A≤18446744073709551615) :
  Zi Zb 187 #[.pointer (some ⟨a.r,0,none⟩),.int .i64 (i:Int),.agg (Zd (A.getD i Z9))] w fun e w'=>e= .returned (.int .i64 0)∧WO V A (F++[i]) (s.V.set i (A.getD i Z9))∧Eg N w0 w' c a q Z { s with V:=s.V.set i (A.getD i Z9)} L:=by
 have h2:=hm.set (i:=i) hi;have h3:=h2.total hl hv ha;have hiA:i < A.length:=by rw [hl]; exact hi
 have hx:s.V[i]?=some (s.V.getD i Z9):=by rw [Zq,Zf (by rw [hm.1]; exact hi)]; rfl
 have hfa:Yq (A.getD i Z9):=ha _ (by rw [Zq,Zf hiA]; exact Kr hiA);rw [total_set hx] at h3;obtain ⟨X,hX,VP,hh,hK,_⟩:=h.open;exact (hh.set hX VP hx hfa Ze).mono fun e w' ⟨he,h1⟩=>⟨he,h2,hK _ _ _ h1 rfl rfl⟩
theorem jI {w:Zc}{g n cp i:Nat}{A:List Yd}(h:w.ownsRow 0 63 7 (.slice (some ⟨g,0,none⟩) n cp) n (XC A))(hi:i < A.length) :w.rangeAt g (i*7) (A.getD i Z9).row:=by
 have h0:=h.1;have hl:(XC A).length=A.length*7:=Bt (row:=Yd.row) (k:=7) (fun _=>rfl) A;have hx:A[i]?=some (A.getD i Z9):=by rw [Zq,Zf hi]; rfl
 obtain ⟨g2,e,h2⟩:=FF (row:=Yd.row) (sz:=7) (l:=A) (fun _=>rfl) h Ze hx;injection e with e;injection e with e _ _;rw [e]; exact h2
theorem vC (hc:GE c)(h:Eg N w0 w c a q Z s L)(hf: ∀v ∈ s.V,Yq v)(ht:ZA s.V≤1152921504606846976)(tT:s.V.length≤4096)(lS:s.mg.length≤4096)(qi:Cd s.V s.mg) :
  Zi Zb 216 #[.pointer (some ⟨q.e,0,none⟩)] w fun e w'=>e= .returned (.tuple #[])∧Eg N w0 w' c a q Z { s with V:=J8 (c 6) s.V (s.mg.take (BI c s.mg)),mg:=s.mg.drop (BI c s.mg)} L:=by
 have hN:=h.low;obtain ⟨n,hn⟩ : ∃n,BI c s.mg=n:=⟨_,rfl⟩;have tR:min (c 17).toNat s.mg.length=n:=hn;obtain ⟨A,hA⟩ : ∃A,J8 (c 6) s.V (s.mg.take n)=A:=⟨_,rfl⟩;have h17:=hc.m17;have jn:(s.mg.take n).length=n:=by rw [Xm]; omega
 have HNx:=Za (fun m=>ph (h.drewN m) (mo:=c 17) h17 Ze tR);have x17:=Eg.x17 h;have HX:=Za (Zl tR (Zl hA (Zl jn (Zl lS (Zl tT (Zl hf (Zl ht (Zl qi hc))))))));have HN:=Za hN;rw [hn,hA];clear hc h hf ht tT lS qi hN hn tR hA h17 jn;go_enter Tryz.func216,Tryz.ntmps216;go_wp2_with fail;refine Bj 8 ?_;simp only [qT,qD];iterate 8 (go_big_quiet_step ((intros; rfl)))
 refine Zj ?_;intro _ Jw;obtain ⟨nr,Xl⟩:=Jw;subst Xl;go_wp2_with fail;refine (HNx.out nr).mono ?_;rintro e w2 ⟨vd,rfl,h2,_⟩;obtain ⟨id,cd,rfl⟩:=XH (h2.row (r:=N) HN.out Ze xput_same);have H2:=Za h2;clear h2 HNx x17
 by_cases h0:n=0
 ·have d0:((n:Int)==0)=true:=by simp [h0]
  have MD:s.V=A:=by rw [←HX.out.2.1,h0,List.take_zero]; rfl
  have H3:Hid (Eg N w0 w2 c a q Z { s with V:=A,mg:=s.mg.drop n} L):=Za (by rw [←MD]; exact H2.out.drop HN.out);clear MD h0 H2;go_wp2_with fail;refine bodyPost_ret (results_none rfl _ _ _) rfl ?_;exact ⟨rfl,H3.out⟩
 ·have d0:((n:Int)==0)=false:=by simp [h0]
  have zv:A.length=s.V.length:=by rw [←HX.out.2.1]; exact OP _ _ _
  have hAf: ∀v ∈ A,Yq v:=by rw [←HX.out.2.1]; exact TD _ _ _ HX.out.2.2.2.2.2.1
  have hAt:ZA s.V+ZA A≤18446744073709551615:=by
   have h1:=(TE (c 6) (s.mg.take n) s.V).1;rw [HX.out.2.1] at h1;exact kv
  have qq: ∀j,j < s.V.length→j ∉ prN (s.mg.take n)→s.V.getD j Z9=A.getD j Z9:=fun j hj Da=>by
   rw [←HX.out.2.1];refine (AN (c 6) _ _ _ fun p hp=>⟨fun e=>Da ?_,fun e=>Da ?_⟩).symm
   ·unfold prN; exact UB.2 ⟨p,hp,by simp [e]⟩
   ·unfold prN; exact UB.2 ⟨p,hp,by simp [e]⟩
  have HY:=Za (Zl zv (Zl hAf (Zl hAt qq)));have hn5:n≤4096:=by have:=HX.out.1; have:=HX.out.2.2.2.1; omega
  clear h0 zv hAf hAt qq;go_wp2_with fail;refine PG (fun w'=>Zy w' q.e 107 (Un c a q)) 7 [0,1,2,3,4,6,7,8,9,10] (?_) ?_
  ·exact H2.out.drew.blk
  simp only [qF,qH];show ZB _ _ _ _ [_,_,_,_,_,_,_,_,_,_] _;iterate 4 (go_big_quiet_step ((intros; rfl)))
  refine Yw _ _ ⟨q.e,21,none⟩ (.pointer (some ⟨a.r,0,none⟩)) rfl rfl rfl (fun w h=>by simp [go_sem,h]) (fun w h=>h.cell 21) ?_;simp only [qB];iterate 4 (go_big_quiet_step ((intros; rfl)))
  refine Pu 24 _ q.e 0 (Zk c) _ rfl rfl rfl (fun w h=>LF h) ZC rfl Xn ?_;refine Zj ?_;have H3:=Za H2.out.drew;clear H2;generalize w2.drew=V3 at*;refine Qt (i:=5) ?_;refine JM #[.pointer (some ⟨a.r,0,none⟩)] Tryz.call55 ((Eg.all H3.out).mono ?_);rintro e w4 ⟨va,rfl,h4,_⟩;have H4:=Za h4;refine ⟨_,rfl,h4.blk,?_⟩;clear h4 H3;have iG:Hid (Zi Zb 264 #[va,.slice id n cd,.agg (Zk c)] w4 fun e w'=> ∃v v2,e= .returned (.tuple #[v,v2])∧Eg (N+1+1+1) w0 w' c a q (ZI (ZI (ZI Z N (YP 73 2 (.slice id n cd) n (Js (s.mg.take n)))) (N+1) (YP 63 7 va s.V.length (XC s.V))) (N+1+1) (YP 63 7 v s.V.length (XC A))) { s with mg:=s.mg.drop n} L):=Za (by
   have r1:=H4.out.row (r:=N) HN.out Ze Ua;obtain ⟨ab,ac,rfl,hl⟩:=H4.out.lst (r:=N+1) ZQ Ze xput_same;have hq:dQ w4 (fun _=>False) id (s.mg.take n):=fun h0=>by
    rcases r1.2 with ⟨e1,e2⟩ | ⟨g1,cp1,cur,e1,_,e2,_⟩
    ·have:=HX.out.2.2.1; omega
    ·injection e1 with e1 _ _;refine ⟨g1,0,e1,fun h=>h,(Ys.1 e2).1,fun i v hi=>?_⟩;subst e1;intro j u hj;have Df:=(Zh.1 hj).1;have:=r1.cells rfl (i*2+j) u (by unfold Js; rw [EL (row:=Jv) (k:=2) (fun _=>rfl) hi Df]; exact hj);rw [add_plain] at this;rw [Yb] at this ⊢;exact this
   have:=de ab id ac cd s.V (s.mg.take n) c w4 hl hq HX.out.2.2.2.2.2.1 HX.out.2.2.2.2.2.2.2.2.m17 HX.out.2.2.2.2.1 (by rw [HX.out.2.2.1]; omega);have e1:BI c (s.mg.take n)=n:=by unfold BI; rw [HX.out.2.2.1]; have:=HX.out.1; omega
   rw [e1,HX.out.2.2.1,Yn (by rw [HX.out.2.2.1]; exact Zg _),HX.out.2.1] at this;exact this.mono fun e w' ⟨v,g,he,g1,_,_,_,g3⟩=>⟨v,_,he,H4.out.fresh g1 g3⟩)
  refine Qt (i:=11) ?_;try simp only [qA]
  refine JM #[va,.slice id n cd,.agg (Zk c)] Tryz.call264 ((iG.out).mono ?_);rintro e w5 ⟨vA,vB2,rfl,h5⟩;refine ⟨_,rfl,h5.blk,?_⟩;have yT:=Za h5.blk;obtain ⟨iA,cA,rfl⟩:=XH (h5.row (r:=N+1+1) ZQ Ze xput_same);obtain ⟨nV,bA⟩ : ∃nV,s.V.length=nV:=⟨_,rfl⟩;have HM:=Za bA;rw [bA] at h5;have H5:=Za h5;rw [bA];clear iG H4 h5 bA;try simp only [qA]
  refine FR (fun w'=>Zy w' q.e 107 (Un c a q)) (m:=5) (f:=0) [12,13,14,15,16] (?_) ?_
  ·exact yT.out
  simp only [qF,qH];show ZB _ _ _ _ [_,_,_,_,_] _;iterate 5 (go_big_quiet_step ((intros; rfl)))
  refine Zj ?_;clear yT;refine ⟨by kernel_rfl,ZH ?_⟩;try simp only [qA]
  go_wp2_with fail;go_loopw [38] (fun s38 wr=> ∃(k:Nat) (W:List Yd),k≤n∧s38= .int .i64 k∧Hid (WO s.V A (prN ((s.mg.take n).take k)) W∧Eg (N+1+1+1) w0 wr c a q (ZI (ZI (ZI Z N (YP 73 2 (.slice id n cd) n (Js (s.mg.take n)))) (N+1) (YP 63 7 va nV (XC s.V))) (N+1+1) (YP 63 7 (.slice iA nV cA) nV (XC A))) { s with V:=W,mg:=s.mg.drop n} L)) (fun s38 _=>n -(intOf s38).toNat)
  case atStart=>exact ⟨0,s.V,by omega,rfl,Za ⟨WO.refl _ _,H5.out⟩⟩
  case round=>
   obtain ⟨k,W,hk,rfl,HE⟩:=hrel
   by_cases XJ:k < n
   ·obtain ⟨p,hp⟩ : ∃p,(s.mg.take n)[k]?=some p:=⟨_,Zf (by rw [HX.out.2.2.1]; exact XJ)⟩;obtain ⟨i,j,rfl,hi,hj⟩:=HX.out.2.2.2.2.2.2.2.1 p (ZP (ZE hp));have Pf:wr.ownsRow 0 73 2 (.slice id n cd) n (Yx Jv (s.mg.take n)):=HE.out.2.row (r:=N) HN.out Ze (by rw [xput_ne Ze,xput_ne Ze,xput_same]; rfl);obtain ⟨gD,eid,Mn⟩:=FF (row:=Jv) (sz:=2) (l:=s.mg.take n) (fun _=>rfl) Pf Ze hp;subst eid;clear Pf;have hps:=rF hp;have hAi:i < A.length:=by rw [HY.out.1]; exact hi
    have hAj:j < A.length:=by rw [HY.out.1]; exact hj
    have Ak:(i:Int)< (nV:Int):=by have:=HM.out; omega
    have Da:(j:Int)< (nV:Int):=by have:=HM.out; omega
    have Oe: ¬(i:Int)< 0:=by omega
    have eZ: ¬(j:Int)< 0:=by omega
    have HI:=Za (Zl hi (Zl hAi Ak));have HJ:=Za (Zl hj (Zl hAj Da));have HPs:=Za hps;have iF:=Za Mn;clear hp hi hj Mn hps hAi hAj;go_upto_region 5 with (fail);have TZ:=Za (HE.out.2.below ((Zr _ _).alloc (Zg _) (.cells (cellsP ((i:Int),(j:Int))) 73)));have HMd:=Za HE.out.1;have WM:Hid (Zy (wr.alloc (.cells (cellsP ((i:Int),(j:Int))) 73)) wr.heap.size 73 (cellsP ((i:Int),(j:Int)))):=Za (Zy.new _ _ _);go_upto_region 6 with (first | (refine XG rfl 73 _ rfl gD (k*2) rfl (Jv ((i:Int),(j:Int))) _ iF.out X5 rfl Be ?_) | (refine Zm rfl _ _ _ rfl wr.heap.size (cellsP ((i:Int),(j:Int))) rfl rfl 73 _ (ZD wr _) Be rfl (Um _) ?_; rw [Zu]));try simp only [qA]
    clear HE iF;generalize wr.heap.size=zp at*;generalize wr.alloc (.cells (cellsP ((i:Int),(j:Int))) 73)=W1 at*;go_wp2_with (first | (refine wpList_load_row rfl 73 _ rfl zp rfl 73 _ (0,0) _ WM.out X5 rfl Be ?_));clear WM;simp only [cellsP,Jv];have bC: ∀W:Zc,(Xi 73 (.agg #[.int .i64 (i:Int),.int .i64 (j:Int)]) (.int .i64 0)).run Zb W= .ok (.int .i64 (i:Int)) W:=fun W=>by kernel_rfl
    have jr: ∀W:Zc,(Xi 73 (.agg #[.int .i64 (i:Int),.int .i64 (j:Int)]) (.int .i64 1)).run Zb W= .ok (.int .i64 (j:Int)) W:=fun W=>by kernel_rfl
    obtain ⟨gA,rfl,uK⟩ : ∃gA,iA=some ⟨gA,0,none⟩∧Hid (∀x,x < A.length→W1.rangeAt gA (x*7) (A.getD x Z9).row):=by
     have r0:W1.ownsRow 0 63 7 (.slice iA nV cA) nV (XC A):=TZ.out.row (r:=N+1+1) ZQ Ze xput_same
     rcases r0.2 with ⟨h1,_⟩ | ⟨g,Bp,cur,h1,_⟩
     ·injection h1 with _ h3 _; exact absurd Ak Ze
     ·injection h1 with h1 _ _;subst h1;exact ⟨g,rfl,Za fun x hx=>jI r0 hx⟩
    refine wp_loop_rounds 3 ?_;rw [Y2];go_wp2_with fail;refine Bj 10 ?_;simp only [qT,qD];iterate 4 (go_big_quiet_step ((intros; rfl)))
    refine Yw _ _ ⟨q.e,21,none⟩ (.pointer (some ⟨a.r,0,none⟩)) rfl rfl rfl (fun w h=>by simp [go_sem,h]) (fun w' h=>by obtain ⟨m,rfl⟩:=h; exact (TZ.out.blk.drewN _).cell 21) ?_;simp only [qB];iterate 4 (go_big_quiet_step ((intros; rfl)))
    refine JG 63 _ gA (i*7) (A.getD i Z9) _ rfl rfl rfl (fun w' h=>by obtain ⟨m,rfl⟩:=h; exact uK.out i HI.out.2.1) Zs rfl Yo ?_;try simp only [qA]
    refine Zj ?_;intro _ Jw;obtain ⟨nr1,Xl⟩:=Jw;subst Xl;go_wp2_with fail;refine (ZeR (TZ.out.drewN nr1) HMd.out HI.out.1 HY.out.1 HX.out.2.2.2.2.2.1 HY.out.2.1 HY.out.2.2.1).mono ?_;rintro e W2 ⟨rfl,dI,he2⟩;have Zer:=Za dI;have Hd:=Za he2;clear TZ uK HMd dI he2;have Wc:Hid (∀x,x < A.length→W2.rangeAt gA (x*7) (A.getD x Z9).row):=by
     have r0:W2.ownsRow 0 63 7 (.slice (some ⟨gA,0,none⟩) nV cA) nV (XC A):=Hd.out.row (r:=N+1+1) ZQ Ze xput_same;exact Za fun x hx=>jI r0 hx
    go_wp2_with fail;rw [Y2];go_wp2_with fail;refine Bj 10 ?_;simp only [qT,qD];iterate 4 (go_big_quiet_step ((intros; rfl)))
    refine Yw _ _ ⟨q.e,21,none⟩ (.pointer (some ⟨a.r,0,none⟩)) rfl rfl rfl (fun w h=>by simp [go_sem,h]) (fun w' h=>by obtain ⟨m,rfl⟩:=h; exact (Hd.out.blk.drewN _).cell 21) ?_;simp only [qB];iterate 4 (go_big_quiet_step ((intros; rfl)))
    refine JG 63 _ gA (j*7) (A.getD j Z9) _ rfl rfl rfl (fun w' h=>by obtain ⟨m,rfl⟩:=h; exact Wc.out j HJ.out.2.1) Zs rfl Yo ?_;try simp only [qA]
    refine Zj ?_;intro _ Jw;obtain ⟨nr2,Xl⟩:=Jw;subst Xl;go_wp2_with fail;refine (ZeR (Hd.out.drewN nr2) Zer.out HJ.out.1 HY.out.1 HX.out.2.2.2.2.2.1 HY.out.2.1 HY.out.2.2.1).mono ?_;rintro e W3 ⟨rfl,hm3,he3⟩;have LY:=Za (Zl hm3 he3);clear Hd Wc Zer hm3 he3;go_wp2_with fail;rw [Y2];go_wp2_with fail;refine ⟨⟨k+1,_,by omega,by rfl,Za ⟨?_,LY.out.2⟩⟩,?_⟩
    ·rw [HPs.out]; exact LY.out.1
    ·show n -((k:Int)+1).toNat < n -((k:Int)).toNat;omega
   ·obtain rfl:k=n:=by omega
    clear XJ;have XJ: ¬k < k:=by omega
    have H7:Hid (Eg N w0 wr c a q Z { s with V:=A,mg:=s.mg.drop k} L):=Za (by
     have h1:=HE.out;rw [Yn (by rw [HX.out.2.2.1]; exact Zg _)] at h1;have e:=h1.1.done HY.out.1 HY.out.2.2.2;have h2:=h1.2;rw [e] at h2;exact (((h2.less ZQ).less ZQ).less HN.out).ext fun k h1 h2=>by rw [xput_ne Ze,xput_ne Ze,xput_ne Ze])
    exact kf
end
end
section
open Go Go.RowKit Go.Deep
theorem a8 (e:Int)(i:Nat) : ∀(A:List Nat) (V:List Yd),Ji e V (A++[i])=(Ji e V A).set i (Ht e ((Ji e V A).getD i Z9)).2∧Qf e V (A++[i])=Qf e V A++[⟨i,Ag e ((Ji e V A).getD i Z9),true⟩]
 | [],V=>⟨rfl,rfl⟩
 | j::A,V=>by
  obtain ⟨h1,h2⟩:=a8 e i A (V.set j (Ht e (V.getD j Z9)).2);refine ⟨?_,?_⟩
  ·rw [Ym]; exact h1
  ·rw [Ym]; show _::_=_::_++_; rw [Ym]; exact congrArg _ h2
theorem lJ {e:Int}{V:List Yd}{F:List Nat}{k i:Nat}(hk:F[k]?=some i) :Ji e V (F.take (k+1))=(Ji e V (F.take k)).set i (Ht e ((Ji e V (F.take k)).getD i Z9)).2∧Qf e V (F.take (k+1))=Qf e V (F.take k)++[⟨i,Ag e ((Ji e V (F.take k)).getD i Z9),true⟩]:=by
 rw [YN,hk,Qr];exact a8 e i _ V
theorem rh {F:List Nat}(hn:F.Nodup){k i:Nat}(hk:F[k]?=some i) : ¬i ∈ F.take k:=fun h=>by
 obtain ⟨j,hj,e⟩:=List.getElem_of_mem h;rw [Xm] at hj;obtain ⟨Rd,lQ⟩:=Zh.1 hk;rw [List.getElem_take] at e;exact absurd ((List.getElem_inj hn).1 (e.trans lQ.symm)) Ze
theorem PF: ∀ {l:List Pm},(∀p ∈ l,0≤p.am)→0≤JJ l
 | [],_=>Int.le_refl _
 | p::l,h=>by
  have h1:=PF (l:=l) (fun x hx=>h x UT);have h2:=h p ZO;show 0≤p.am+JJ l;omega
section
variable {N:Nat} {w0:Ez} {w w' w1:Zc} {c cf:Nat→Int} {a:Pl} {q:Ql} {X Z:Nat→Zc→(Nat→Prop)→Prop} {s s':Sg} {L L':List QO} {k:Nat}
theorem Eg.readsI (h:Eg N w0 w c a q Z s L){r:Nat}(Gj:11≤r)(hr:r < N){b:Option Addr}{l:List Int}(hx:Z r=Kh L6 1 b l){k:Nat}{i:Int}(hk:l[k]?=some i) : ∃g off,b=some ⟨g,off,none⟩∧w.cell? ⟨g,off+k,none⟩=some (.int .i64 i):=by
 obtain ⟨X,hX,_,h,_,_,hz,_⟩:=h.open;obtain ⟨S,hp,_⟩:=h.part hr;rw [pt_high Ze,hz r Gj hr,hx] at hp;obtain ⟨g,off,h1,_,_,h4⟩:=hp.1 (by have:=(Zh.1 hk).1; omega);refine ⟨g,off,h1,?_⟩;have:=h4 k i hk 0 _ rfl;rwa [Nat.mul_one,Nat.add_zero] at this
structure Wh (c:Nat→Int)(s:Sg) :Prop where
 vok: ∀v ∈ s.V,Vok s.ep v
 sum:ZA s.V+s.P+s.B=s.D
 p0:0≤s.P
 b0:0≤s.B
 d1:s.D≤18446744073709551615
 cap:s.D - s.P - s.B≤c 4
 c4:c 4≤18446744073709551615
 cu:s.cu≤100
 len:s.V.length≤100
theorem vG (h:Eg N w0 w c a q Z s L)(t:Tm c s)(hw:Wh c s){vs p:Int}{m0:Nat}(hm0:FZ (M7 s.V) s.cu vs p=m0){F:List Nat}(hF:JW (M7 s.V) s.cu m0=F)(hn:F.Nodup)(hr: ∀i ∈ F,Bl s.V (MH s.ep) ((i:Nat) :Int)) :
  Zi Zb 137 #[.pointer (some ⟨q.e,0,none⟩),.int .i64 vs,.int .i64 p] w fun e w'=> ∃v,e= .returned (.tuple #[v,.int .i64 (m0:Int)])∧
   Eg (N+1) w0 w' c a q (ZI Z N (YP 61 3 v F.length (Yx QW (Qf s.ep s.V F)))) { s with V:=Ji s.ep s.V F,P:=s.P+JJ (Qf s.ep s.V F),cu:=DS s.V.length s.cu m0} L:=by
 have hN:=h.low;obtain ⟨m,hm⟩ : ∃m,F.length=m:=⟨_,rfl⟩;have lR:m≤100:=by
  have h1:=List.Nodup.length_le_of_subset (l₂:=List.range s.V.length) hn (fun i hi=>List.mem_range.2 (by
   obtain ⟨j,v,e,hj,_⟩:=hr i hi;have:=(Zh.1 hj).1;omega))
  rw [List.length_range] at h1; have:=hw.len; omega
 have HSw:=Za (fun n:Nat=>Zbv (vs:=vs) (p:=p) h hw.cu hw.len);rw [hm0] at HSw;have hz:KD (M7 s.V) s.cu m0=F.map fun i:Nat=>(i:Int):=by unfold KD; rw [hF]
 rw [hz,YM,hm] at HSw;have oh:Hid (∀k,dE s.ep s.V (Ji s.ep s.V (F.take k))∧ZA (Ji s.ep s.V (F.take k))=ZA s.V - JJ (Qf s.ep s.V (F.take k))∧(∀p ∈ Qf s.ep s.V (F.take k),0≤p.am∧p.fl=true)∧ ∀i,F[k]?=some i→ ∃u,s.V[i]?=some u∧MH s.ep u∧(Ji s.ep s.V (F.take k))[i]?=some u):=Za fun k=>by
  have hnt:(F.take k).Nodup:=hn.sublist (List.take_sublist _ _);have hrt: ∀i ∈ F.take k,Bl s.V (MH s.ep) ((i:Nat) :Int):=fun i hi=>hr i (ZP hi)
  obtain ⟨g1,g2,g3⟩:=EN _ _ hw.vok hnt hrt;refine ⟨g1,g2,g3,fun i hi=>?_⟩;obtain ⟨j,u,e,hj,hu⟩:=hr i (ZE hi);obtain rfl:i=j:=by omega
  exact ⟨u,hj,hu,((CJ s.ep _ _ hnt hrt).2.1 i (rh hn hi)).trans hj⟩
 have HX:=Za (Zl hw (Zl t hm));have HN:=Za hN;obtain ⟨e0,bq⟩ : ∃e0,DS s.V.length s.cu m0=e0:=⟨_,rfl⟩;rw [bq] at HSw;rw [hm,bq];clear bq;clear h t hw hF hn hr hN hm hz hm0;go_enter Tryz.func137,Tryz.ntmps137;go_wp2_with fail;refine ((HSw.out 0)).mono ?_;rintro e w2 ⟨b2,cp,rfl,h2,_⟩;have H2:=Za (h2.nil 61 3);clear h2 HSw;go_wp2_with fail;go_loopw [10,28] (fun s10 s28 wr=> ∃(k:Nat) (pa:Option Addr) (pc:Nat),k≤m∧s10= .slice pa k pc∧s28= .int .i64 k∧Hid (Eg (N+1+1) w0 wr c a q (ZI (ZI Z N (Kh L6 1 b2 (F.map fun i:Nat=>(i:Int)))) (N+1) (YP 61 3 (.slice pa k pc) k (Yx QW (Qf s.ep s.V (F.take k))))) { s with V:=Ji s.ep s.V (F.take k),P:=s.P+JJ (Qf s.ep s.V (F.take k)),cu:=e0} L)) (fun _ s28 _=>m -(intOf s28).toNat)
 case atStart=>exact ⟨0,none,0,by omega,rfl,rfl,Za (by
  have e:s.P+JJ (Qf s.ep s.V (F.take 0))=s.P:=by simp [Qf,JJ]
  rw [e]; exact H2.out)⟩
 case round=>
  obtain ⟨k,pa,pc,hk,rfl,rfl,HE⟩:=hrel
  by_cases XJ:k < m
  ·obtain ⟨i,hi⟩ : ∃i,F[k]?=some i:=⟨_,Zf (by rw [HX.out.2.2]; exact XJ)⟩;obtain ⟨g,off,eb,hc⟩:=HE.out.readsI (r:=N) (k:=k) (i:=(i:Int)) HN.out Ze Ua (by rw [ZR,hi]; rfl);subst eb;obtain ⟨br,bB,SI,dF⟩:=oh.out k;obtain ⟨u,hus,hru,jo⟩:=dF i hi;obtain ⟨DY,hsp⟩:=lJ (e:=s.ep) (V:=s.V) hi;have hpos1:=(oh.out (k+1)).2.2.1;have BU:(Ji s.ep s.V (F.take k)).getD i Z9=u:=Vg jo;obtain ⟨f1,f2⟩:=Ra hru.1 hru.2;rw [BU,f1] at DY;rw [BU,f2] at hsp;obtain ⟨v2,Ph⟩ : ∃v2,({ u with bal:=0,st:=6} :Yd)=v2:=⟨_,rfl⟩;rw [Ph] at DY;have hvu:=br.vok u (QI jo);have dG:=hvu.fit;have lM:=dG.bal;have HPy:Hid (∀wx,Zi Zb 221 #[.agg (Zd u),.int .i64 s.ep] wx fun e w'=>e= .returned (.tuple #[.agg (Zd v2),.int .u64 u.bal,.int .i64 0])∧Zt wx.heap.size wx w'):=Za fun wx=>by
    have:=xj u s.ep wx dG.2 lM.1 lM.2;rw [show Dc [DH s.ep,Qm 5] u.bal u= .tuple #[.agg (Zd (Ht s.ep u).2),.int .u64 (Ag s.ep u),.int .i64 (Ht s.ep u).1] from rfl,f1,f2,Ph] at this;exact this
   have EU:=HX.out.1.sum;have h0P:=HX.out.1.p0;have h0B:=HX.out.1.b0;have vU:=HX.out.1.d1;have VU:=HX.out.1.cap;have hc4:=HX.out.1.c4;have hsp0:=PF (fun p hp=>(SI p hp).1);have htn:=total_nonneg (fun v hv=>(br.vok v hv).fit);have vX:Yq v2:=by rw [←Ph]; exact ⟨gZ ZO ZO,rfl⟩
   have hv20:v2.bal=0:=by rw [←Ph]
   have htu:u.bal≤ZA (Ji s.ep s.V (F.take k)):=by
    have h1:=total_set jo (v:=v2);have h2:=total_nonneg (l:=(Ji s.ep s.V (F.take k)).set i v2) (fun v hv=>by
     rcases List.mem_or_eq_of_mem_set hv with h | rfl
     ·exact (br.vok v h).fit
     ·exact vX)
    omega
   have ot:Hid (∀wx zb,Eg (N+2+1) w0 wx c a q (ZI (ZI (ZI Z N (Kh L6 1 (some ⟨g,off,none⟩) (F.map fun i:Nat=>(i:Int)))) (N+1) (YP 61 3 (.slice pa k pc) k (Yx QW (Qf s.ep s.V (F.take k))))) (N+2) (YR zb 63 (Zd v2))) { s with V:=Ji s.ep s.V (F.take k),P:=s.P+JJ (Qf s.ep s.V (F.take k)),cu:=e0} L→Zi Zb 219 #[.pointer (some ⟨q.e,21,none⟩),.int .i64 (i:Int),.agg (Zd v2),.int .u64 u.bal] wx fun e w'=>e= .returned (.tuple #[])∧Eg (N+1+1) w0 w' c a q (ZI (ZI Z N (Kh L6 1 (some ⟨g,off,none⟩) (F.map fun i:Nat=>(i:Int)))) (N+1) (YP 61 3 (.slice pa k pc) k (Yx QW (Qf s.ep s.V (F.take k))))) { s with V:=Ji s.ep s.V (F.take (k+1)),P:=s.P+JJ (Qf s.ep s.V (F.take (k+1))),cu:=e0} L):=Za fun wx zb hx=>by
    have:=ZeS hx (n:=i) (v:=u) (v':=v2) (x:=u.bal) jo vX (by show ZA (Ji s.ep s.V (F.take k)) - _+_≤_; omega) (by unfold JA; simp only; omega) lM.1 Ef;refine this.mono fun e w' ⟨he,h1⟩=>⟨he,?_⟩
    have h2:=h1.drop ZQ;have e1:s.P+JJ (Qf s.ep s.V (F.take (k+1)))=s.P+JJ (Qf s.ep s.V (F.take k))+u.bal:=by
     rw [hsp,Lr]; simp only [JJ]; omega
    rw [e1,DY];exact h2
   have HG:Hid (Zi Zb 70 #[.pointer (some ⟨a.r,0,none⟩),.int .i64 (i:Int)] wr fun e w'=>e= .returned (.tuple #[.agg (Zd u),.bool true])∧Zt wr.heap.size wr w'):=Za (by
    have:=HE.out.get (n:=i) (show i < (Ji s.ep s.V (F.take k)).length from (Zh.1 jo).1);rw [show ({ s with V:=Ji s.ep s.V (F.take k),P:=s.P+JJ (Qf s.ep s.V (F.take k)),cu:=e0} :Sg).V.getD i Z9=u from BU] at this;exact this)
   have y0:wr.cell? ⟨q.e,21,none⟩=some (.pointer (some ⟨a.r,0,none⟩)):=Eg.x21 HE.out;have HSp:=Za hsp;clear hi br bB SI dF hus hru jo DY hsp hpos1 BU f1 f2 Ph hvu dG lM EU h0P h0B vU VU hc4 hsp0 htn vX hv20 htu;go_wp2_with fail;refine HG.out.mono ?_;rintro e w3 ⟨rfl,hb⟩;have E3:Hid (Eg (N+2+1) w0 (w3.alloc (.cells (Zd u) 63)) c a q (ZI (ZI (ZI Z N (Kh L6 1 (some ⟨g,off,none⟩) (F.map fun i:Nat=>(i:Int)))) (N+1) (YP 61 3 (.slice pa k pc) k (Yx QW (Qf s.ep s.V (F.take k))))) (N+2) (YR w3.heap.size 63 (Zd u))) { s with V:=Ji s.ep s.V (F.take k),P:=s.P+JJ (Qf s.ep s.V (F.take k)),cu:=e0} L):=Za ((HE.out.below hb).box (Zd u) 63);clear hb HE HG y0;go_upto_region 7 with (first | (refine Zm rfl _ _ _ rfl w3.heap.size (Zd u) rfl rfl 63 _ (ZD w3 _) Yo rfl (Yy _) ?_; rw [Zu]));generalize w3.heap.size=zb at*;generalize w3.alloc (.cells (Zd u) 63)=W3 at*;go_cut [15,16] from 42 to 51 (fun s15 s16 wx=>s15= .int .u64 u.bal∧s16= .int .i64 0∧Hid (Eg (N+2+1) w0 wx c a q (ZI (ZI (ZI Z N (Kh L6 1 (some ⟨g,off,none⟩) (F.map fun i:Nat=>(i:Int)))) (N+1) (YP 61 3 (.slice pa k pc) k (Yx QW (Qf s.ep s.V (F.take k))))) (N+2) (YR zb 63 (Zd v2))) { s with V:=Ji s.ep s.V (F.take k),P:=s.P+JJ (Qf s.ep s.V (F.take k)),cu:=e0} L))
   case first=>
    have eU:Eg (N+2) w0 W3.drew c a q (ZI (ZI Z N (Kh L6 1 (some ⟨g,off,none⟩) (F.map fun i:Nat=>(i:Int)))) (N+1) (YP 61 3 (.slice pa k pc) k (Yx QW (Qf s.ep s.V (F.take k))))) { s with V:=Ji s.ep s.V (F.take k),P:=s.P+JJ (Qf s.ep s.V (F.take k)),cu:=e0} L:=E3.out.drew.drop ZQ;refine PG (fun w'=>Eg (N+2) w0 w' c a q (ZI (ZI Z N (Kh L6 1 (some ⟨g,off,none⟩) (F.map fun i:Nat=>(i:Int)))) (N+1) (YP 61 3 (.slice pa k pc) k (Yx QW (Qf s.ep s.V (F.take k))))) { s with V:=Ji s.ep s.V (F.take k),P:=s.P+JJ (Qf s.ep s.V (F.take k)),cu:=e0} L) 10 [1,2,3] (?_) ?_
    ·exact eU
    simp only [qF,qH];show ZB _ _ _ _ [_,_,_] _;iterate 3 (go_big_quiet_step ((intros; rfl)))
    refine Zj ?_;have E4:=Za E3.out.drew;clear E3 ot;generalize W3.drew=W4 at*;refine UI (i:=0) (k:=4) Yi ZO ZO ?_ ?_
    ·refine YE rfl rfl (wp_load_row 63 _ rfl zb rfl 63 (Zd u) (0,0) _ (E4.out.blkAt (r:=N+2) ZQ Ze xput_same) Zs rfl Yo ?_);refine ⟨eU,?_⟩;try simp only [qA]
     refine Qt (i:=4) ?_;refine JM #[.pointer (some ⟨q.e,20,none⟩)] J5 ((Bc (s:= { s with V:=Ji s.ep s.V (F.take k),P:=s.P+JJ (Qf s.ep s.V (F.take k)),cu:=e0}) E4.out HX.out.2.1.b0 HX.out.2.1.b1 HX.out.2.1.l HX.out.2.1.q).mono ?_);rintro e w5 ⟨rfl,m1,rfl⟩;have E5:=Za (E4.out.drewN m1);have vN:=eU.drewN m1;refine ⟨_,rfl,vN,?_⟩;clear E4 eU;generalize W4.drewN m1=W5 at*;exact zT7
    ·refine JM #[.pointer (some ⟨q.e,20,none⟩)] J5 ((Bc (s:= { s with V:=Ji s.ep s.V (F.take k),P:=s.P+JJ (Qf s.ep s.V (F.take k)),cu:=e0}) E4.out HX.out.2.1.b0 HX.out.2.1.b1 HX.out.2.1.l HX.out.2.1.q).mono ?_);rintro e w5 ⟨rfl,m1,rfl⟩;have E5:=Za (E4.out.drewN m1);have vN:=eU.drewN m1;refine ⟨_,rfl,vN,?_⟩;clear E4 eU;generalize W4.drewN m1=W5 at*;try simp only [qA]
     refine Qt (i:=0) ?_;refine YE rfl rfl (wp_load_row 63 _ rfl zb rfl 63 (Zd u) (0,0) _ (E5.out.blkAt (r:=N+2) ZQ Ze xput_same) Zs rfl Yo ?_);refine ⟨vN,?_⟩;exact zT7
   case rest=>
    obtain ⟨rfl,rfl,E7⟩:=hcut;clear E3 HPy;generalize wc=W7 at*;go_wp2_with fail;have HB7:=Za (E7.out.blkAt (r:=N+2) ZQ Ze xput_same);refine Bj 6 ?_;simp only [qT,qD];iterate 4 (go_big_quiet_step ((intros; rfl)))
    refine Qg 63 _ zb 63 (Zd v2) _ rfl rfl rfl (fun w' h=>by obtain ⟨m,rfl⟩:=h; exact HB7.out) Zs rfl Yo ?_;simp only [qB];iterate 1 (go_big_quiet_step ((intros; rfl)))
    refine Zj ?_;intro _ Jw;obtain ⟨nr,Xl⟩:=Jw;subst Xl;have tB:=Za (ot.out _ _ (E7.out.drewN nr));clear E7 ot HB7;generalize W7.drewN nr=W8 at*;go_wp2_with fail;refine tB.out.mono ?_;rintro e w9 ⟨rfl,h9⟩;have H9:=Za h9;clear h9 tB;obtain ⟨j0,eZ,BM,Pg,p5⟩:=iM;go_wp2_with (first | (refine F6 rfl 61 _ rfl ⟨(i:Int),u.bal,true⟩ Yi ?_) | (refine NZ rfl _ ⟨(i:Int),u.bal,true⟩ rfl rfl ?_) | (at_builtin; refine Eg.grow H9.out (r:=N+1) ZQ (Nat.lt_succ_self _) xput_same rfl _ _ 40 rfl j0 _ 24 Tryz.underlying40 eZ BM Pg p5 (Fq _) Xh rfl 1 (J0 ⟨(i:Int),u.bal,true⟩) 61 _ rfl rfl rfl ?c1 ?c2 ?c3 ?_))
    case c1=>exact Py.row_one _
    case c2=>unfold maxLen; omega
    case c3=>omega
    intro v' w10 Wd _;obtain ⟨a2,c2,rfl⟩:=XH (Wd.row (r:=N+1) ZQ (Nat.lt_succ_self _) xput_same);rw [Xg] at Wd;have e10:Yx QW (Qf s.ep s.V (F.take k))++(J0 ⟨(i:Int),u.bal,true⟩).toList=Yx QW (Qf s.ep s.V (F.take (k+1))):=by
     rw [HSp.out,Ki,EM]; rfl
    rw [e10] at Wd;have H10:=Za Wd;clear Wd e10 H9 HSp;go_wp2_with fail;go_roundw
    case rel=>exact ⟨k+1,a2,c2,by omega,rfl,by go_num,H10⟩
    case measure=>exact Uz
  ·obtain rfl:k=m:=by omega
   clear XJ;have XJ: ¬k < k:=by omega
   have H7:=HE.out;rw [Yn (by rw [HX.out.2.2]; exact Zg _)] at H7;have H8:Hid (Eg (N+1) w0 wr c a q (ZI Z N (YP 61 3 (.slice pa k pc) k (Yx QW (Qf s.ep s.V F)))) { s with V:=Ji s.ep s.V F,P:=s.P+JJ (Qf s.ep s.V F),cu:=e0} L):=Za (Eg.pick (m:=1) H7 HN.out (fun k h1 h2=>by rw [xput_ne Ze,xput_ne Ze]) xput_same);clear HE H7;go_wp2_with fail;go_ret2;exact ⟨_,rfl,H8.out⟩
end
end
section
open Go Go.RowKit Go.Deep
theorem kI {V:List Yd}(h: ∀v ∈ V,Yq v) :LX (Q0 V):=fun j=>by
 unfold Q0;rw [Zq,ZR]
 cases hj:V[j]? with
 | none=>simp
 | some v=>exact (h v (QI hj)).bal
theorem IC (V:List Yd) :gV V≤V.length:=List.countP_le_length
theorem ye (om:Int→Int)(F W:List Int)(B x:Int) :(Fa om F W B x).1.length≤F.length+W.length:=by
 have:=iO om F W (gr B x);show (asg om F W (gr B x)).1.length≤_;omega
theorem vv {e:Int}{V:List Yd}{L:List QO}{t:Int}(h:XU e V L) :Vb t L=((Vb t L).map Int.toNat).map Ww∧((Vb t L).map Int.toNat).Nodup∧ ∀i ∈ (Vb t L).map Int.toNat,i < V.length:=by
 have hm: ∀i ∈ Vb t L,∃n:Nat,i=(n:Int)∧n < V.length:=fun i hi=>by
  obtain ⟨m,u,e1,hu,_⟩:=(h.ub i).1 (Yj.2 ⟨_,Dy.1 hi,rfl⟩);exact ⟨m,e1,(Zh.1 hu).1⟩
 refine ⟨?_,?_,fun i hi=>?_⟩
 ·rw [KN];refine (List.map_id _).symm.trans (UZ fun i hi=>?_);obtain ⟨n,rfl,_⟩:=hm i hi;rfl
 ·refine List.pairwise_map.2 (List.Pairwise.imp_of_mem (fun {i j} hi hj Kt e=>?_) (MC h.nd));obtain ⟨n,rfl,_⟩:=hm i hi;obtain ⟨m,rfl,_⟩:=hm j hj;exact Kt (by rw [show n=m by simpa using e])
 ·obtain ⟨j,hj,rfl⟩:=Yj.1 hi;obtain ⟨n,rfl,hn⟩:=hm j hj;exact hn
def zj (s:Sg) :Sg:= { X9 s with V:=s.V.map (leaveV (s.ep+1))}
def nI (s:Sg) :Sg:= { X9 s with V:=BJ (X9 s)}
def vc (s:Sg)(L:List QO) :List QO:=Lf (s.ep+1) (s.V.map (leaveV (s.ep+1))) L
def b3S (c:Nat→Int)(s:Sg) :Sg:= { zi (nI s) (Oa c (X9 s)) with V:=Cm c (X9 s)}
def b4S (c:Nat→Int)(s:Sg) :Sg:= { b3S c s with pd:=s.pd.drop (WT c (X9 s))}
def b5S (c:Nat→Int)(s:Sg) :Sg:= { b4S c s with V:=kP c (X9 s)}
section
variable {N:Nat} {w0:Ez} {w w' w1:Zc} {c cf:Nat→Int} {a:Pl} {q:Ql} {X Z:Nat→Zc→(Nat→Prop)→Prop} {s s':Sg} {L L':List QO} {k:Nat}
theorem Eg.activate (h:Eg N w0 w c a q Z s L){r:Nat}(Gj:11≤r)(hr:r < N){wv:Zo}{U:List Int}{nu:Nat}{lim:Int}(tU:Z r=YP 22 1 wv nu (U.map (ZX .u64)))(hl:U.length≤9223372036854775807)(hA:LX U)(ZbO:BQ lim) :
  Zi Zb 215 #[.pointer (some ⟨a.p,0,none⟩),.int .u64 lim,wv] w fun e w'=> ∃v,e= .returned v∧
   Eg (N+1) w0 w' c a q (ZI Z N (YP 3 1 v (FQ lim (s.pd.map (Kz U))) ((s.pd.take (FQ lim (s.pd.map (Kz U)))).map (ZX .i64)))) { s with pd:=s.pd.drop (FQ lim (s.pd.map (Kz U)))} L:=by
 obtain ⟨X,hX,VP,hh,_,hK,hz,_⟩:=h.open;refine (hh.activate hX VP (r:=r) Ze hr (hz r Gj hr |>.trans tU) hl hA ZbO).mono fun e w' ⟨v,he,g1,_⟩=>⟨v,he,?_⟩
 exact hK _ _ _ _ g1 stays_row rfl rfl
theorem Eg.active (h:Eg N w0 w c a q Z s L) :Zi Zb 56 #[.pointer (some ⟨a.r,0,none⟩)] w fun e w'=>e= .returned (.int .u64 (ZY s.V))∧w=w':=by
 obtain ⟨X,hX,VP,hh,_⟩:=h.open;exact hh.active VP
theorem lj (hc:GE c)(hq8:c 8≤18446744073709551615)(hi:Inv c k s)(hk:k≤1000000)(hr:XU s.ep s.V L)(Zfq:(s.bk+1)%c 13=0)(qi:Cd s.V s.mg)(h:Eg N w0 w c a q Z (X9 s) L) :
  Zi Zb 135 #[.pointer (some ⟨q.e,0,none⟩)] w fun e w'=> ∃v,e= .returned v∧
   Eg (N+1) w0 w' c a q (ZI Z N (YP 71 3 v (Wp c (X9 s)).length (Yx Qc (Wp c (X9 s))))) (bdS c (X9 s)) (tH c (X9 s) L):=by
 have hN:=h.low;have b:=oL hc hi hk;have ep0:=hi.ep0;have ep1:=hi.ep1;have bk1:=hi.bk1;have bk0:=hi.bk0;have hV:=hi.len;have VU:=hc.g.cap1;have bB:=hi.total hc;have t:Tm c (X9 s):=⟨by show 0≤s.bk+1; omega,by show s.bk+1≤_; omega,hc.g.len0,by show s.ep+1=(s.bk+1)/c 13; rw [eJ hc.g.len0,if_pos Zfq,hi.epq]⟩;have hlv: ∀v ∈ s.V,Vok s.ep v:=hi.vok;have qx:=jF hi.vok ep0 hr;have ZfA:=Zc1 hi.vok ep0 hr;have jq:(BJ (X9 s)).length=s.V.length:=b.l1;have pZ:=active_le (fun v hv=>(b.v1 v hv).fit);have htv:ZA (BJ (X9 s))=ZA s.V:=by rw [Uy,b.b1,←Uy]
 have hta:ZA (kP c (X9 s))=ZA s.V:=by rw [Uy,b.b3,←Uy]
 have htA:ZA (Cm c (X9 s))=ZA s.V:=by rw [Uy,b.b2,←Uy]
 have CL:L.length≤s.V.length:=by rw [hr.len]; exact IC _
 have hLb:(Lf (s.ep+1) (s.V.map (leaveV (s.ep+1))) L).length≤s.V.length:=by rw [qx.len]; exact Yk (IC _) (by rw [←jq]; exact Zg _)
 have nQ: ∀v ∈ s.V.map (leaveV (s.ep+1)),Yq v∧v.wd≤1099511627776:=fun v hv=>by
  obtain ⟨u,hu,rfl⟩:=Yj.1 hv;refine ⟨?_,by rw [Dx]; exact (hi.vok u hu).w⟩;unfold leaveV
  split
  ·exact ⟨(hi.vok u hu).fit.1,rfl⟩
  ·exact (hi.vok u hu).fit
 have jn:ZA (s.V.map (leaveV (s.ep+1)))=ZA s.V:=AT fun v _=>by unfold leaveV; split <;> rfl
 have zu:LX (Q0 (BJ (X9 s))):=kI fun v hv=>(b.v1 v hv).fit
 have Mf:(Q0 (BJ (X9 s))).length=s.V.length:=by rw [←jq]; simp [Q0]
 have hX0:1≤Ob c (X9 s):=RW hc;have hX1:Ob c (X9 s)≤18446744073709551615:=by
  have:=hc.g.chu1;have q8:=hc.q8;unfold Ob Ej;have:ZY (BJ (X9 s))/c 8≤ZY (BJ (X9 s)):=Int.ediv_le_self _ pZ.1;exact A5
 have hRl:(Oa c (X9 s)).1.length≤s.F.length+s.W.length:=ye _ _ _ _ _;have zD:=hi.fl;have hwl:=hi.wl;have zO:=hi.pdl;have lS:=hi.mgl;have nW:=hc.q1;have hwb:wV (BJ (X9 s))=wV (Cm c (X9 s)):=by unfold wV; rw [b.b1,b.b2]
 have H1:Hid (∀wx,Eg N w0 wx c a q Z (X9 s) L→Zi Zb 209 #[.pointer (some ⟨q.e,0,none⟩)] wx fun e w'=>e= .returned (.tuple #[])∧Eg N w0 w' c a q Z (zj s) L):=Za fun wx hx=>
  Zbo hx t hi.fits (show ZA s.V≤_ by omega) (show s.V.length≤4096 by omega)
 have H2:Hid (∀wx,Eg N w0 wx c a q Z (zj s) L→Zi Zb 210 #[.pointer (some ⟨q.e,0,none⟩)] wx fun e w'=>e= .returned (.tuple #[])∧Eg N w0 w' c a q Z (nI s) (vc s L)):=Za fun wx hx=>by
  obtain ⟨d1,d2,d3⟩:=vv (t:=s.ep+1) hr;have:=Ziu (s:=zj s) hx ⟨t.b0,t.b1,t.l,t.q⟩ d1 d2 (fun i hi=>by show i < (s.V.map (leaveV (s.ep+1))).length; rw [YM]; exact d3 i hi) (by show s.ep+1≤_; omega) (by show 0≤s.ep+1; omega) (fun v hv=>(nQ v hv).2) Ze (fun v hv=>(nQ v hv).1) (by show ZA (s.V.map (leaveV (s.ep+1)))≤_; omega) (by show (s.V.map (leaveV (s.ep+1))).length≤_; rw [YM]; omega);refine this.mono fun e w' ⟨he,h1⟩=>⟨he,?_⟩
  have e1:nI s= { zj s with V:=OK (zj s).ep (zj s).V (Vb (zj s).ep L)}:=by
   show nI s= { zj s with V:=OK (s.ep+1) (s.V.map (leaveV (s.ep+1))) (Vb (s.ep+1) L)};rw [ZfA]; rfl
  rw [e1];exact h1
 have H3:Hid (∀wx,Eg N w0 wx c a q Z (nI s) (vc s L)→Zi Zb 56 #[.pointer (some ⟨a.r,0,none⟩)] wx fun e w'=>e= .returned (.int .u64 (ZY (BJ (X9 s))))∧wx=w'):=Za fun wx hx=>hx.active
 have H4:Hid (∀wx,Zi Zb 211 #[.int .u64 (ZY (BJ (X9 s))),.int .u64 (c 7),.int .u64 (c 8)] wx fun e w'=>e= .returned (.int .u64 (Ob c (X9 s)))∧wx=w'):=Za fun wx=>kZ _ _ _ wx pZ.1 Ze (by have:=hc.q8; omega) hq8
 have H5:Hid (∀wx,Eg N w0 wx c a q Z (nI s) (vc s L)→Zi Zb 212 #[.pointer (some ⟨q.e,21,none⟩)] wx fun e w'=> ∃v,e= .returned v∧Eg (N+1) w0 w' c a q (ZI Z N (YP 22 1 v s.V.length ((Q0 (BJ (X9 s))).map Eu))) (nI s) (vc s L)):=Za fun wx hx=>by
  have:=zm hx (by show (BJ (X9 s)).length≤_; omega);refine this.mono fun e w' ⟨v,he,h1,_⟩=>⟨v,he,?_⟩
  rw [show (nI s).V.length=s.V.length from jq] at h1;exact h1
 have H6:Hid (∀wx wv,Eg (N+1) w0 wx c a q (ZI Z N (YP 22 1 wv s.V.length ((Q0 (BJ (X9 s))).map Eu))) (nI s) (vc s L)→Zi Zb 213 #[.pointer (some ⟨q.e,0,none⟩),.int .u64 (Ob c (X9 s)),wv] wx fun e w'=> ∃v,e= .returned v∧Eg (N+1+1) w0 w' c a q (ZI (ZI Z N (YP 22 1 wv s.V.length ((Q0 (BJ (X9 s))).map Eu))) (N+1) (YP 71 3 v (Wp c (X9 s)).length (Yx Qc (Wp c (X9 s))))) (b3S c s) (tH c (X9 s) L)):=Za fun wx wv hx=>by
  have:=vz (s:=nI s) hx ⟨t.b0,t.b1,t.l,t.q⟩ (r:=N) hN Ze xput_same Ze zu (x:=Ob c (X9 s)) Ze (by show 0≤s.ep+1; omega) (by show s.ep+1≤_; omega) (R:=Oa c (X9 s)) rfl b.nd b.qd b.lo hc.gc (fun v hv=>(b.v1 v hv).fit) (fun v hv=>(b.v1 v hv).w) (by show ZA (BJ (X9 s))≤_; omega) (by show (vc s L).length+_≤_; unfold vc; omega);refine this.mono fun e w' ⟨v,he,h1⟩=>⟨v,he,?_⟩
  have e1:(Wp c (X9 s)).length=(Oa c (X9 s)).1.length:=by unfold Wp; rw [YM]
  rw [e1];exact h1
 have H7:Hid (∀wx wv va,Eg (N+1+1) w0 wx c a q (ZI (ZI Z N (YP 22 1 wv s.V.length ((Q0 (BJ (X9 s))).map Eu))) (N+1) (YP 71 3 va (Wp c (X9 s)).length (Yx Qc (Wp c (X9 s))))) (b3S c s) (tH c (X9 s) L)→Zi Zb 215 #[.pointer (some ⟨a.p,0,none⟩),.int .u64 (Ob c (X9 s)),wv] wx fun e w'=> ∃v,e= .returned v∧
   Eg (N+1+1+1) w0 w' c a q (ZI (ZI (ZI Z N (YP 22 1 wv s.V.length ((Q0 (BJ (X9 s))).map Eu))) (N+1) (YP 71 3 va (Wp c (X9 s)).length (Yx Qc (Wp c (X9 s))))) (N+1+1) (YP 3 1 v (s.pd.take (WT c (X9 s))).length ((s.pd.take (WT c (X9 s))).map (ZX .i64)))) (b4S c s) (tH c (X9 s) L)):=Za fun wx wv va hx=>by
  have:=Eg.activate (s:=b3S c s) hx (r:=N) (wv:=wv) (nu:=s.V.length) (U:=Q0 (BJ (X9 s))) hN Ze (by rw [xput_ne Ze,xput_same]; rfl) Ze zu (lim:=Ob c (X9 s)) ⟨by omega,hX1⟩;refine this.mono fun e w' ⟨v,he,h1⟩=>⟨v,he,?_⟩
  have e1:FQ (Ob c (X9 s)) ((b3S c s).pd.map (Kz (Q0 (BJ (X9 s)))))=WT c (X9 s):=by
   show FQ (Ob c (X9 s)) (s.pd.map (wV (BJ (X9 s))))=FQ (Ob c (X9 s)) (s.pd.map (wV (Cm c (X9 s))));rw [hwb]
  rw [e1] at h1;have e2:(s.pd.take (WT c (X9 s))).length=WT c (X9 s):=by
   rw [Xm];have:=Cl (lim:=Ob c (X9 s)) (s.pd.map (wV (Cm c (X9 s))));rw [YM] at this;exact Nat.min_eq_left this
  rw [e2];exact h1
 have H8:Hid (∀wx wv va v,Eg (N+1+1+1) w0 wx c a q (ZI (ZI (ZI Z N (YP 22 1 wv s.V.length ((Q0 (BJ (X9 s))).map Eu))) (N+1) (YP 71 3 va (Wp c (X9 s)).length (Yx Qc (Wp c (X9 s))))) (N+1+1) (YP 3 1 v (s.pd.take (WT c (X9 s))).length ((s.pd.take (WT c (X9 s))).map (ZX .i64)))) (b4S c s) (tH c (X9 s) L)→Zi Zb 214 #[.pointer (some ⟨q.e,21,none⟩),.int .i64 1,v] wx fun e w'=>e= .returned (.tuple #[])∧
   Eg (N+1) w0 w' c a q (ZI Z N (YP 71 3 va (Wp c (X9 s)).length (Yx Qc (Wp c (X9 s))))) (b5S c s) (tH c (X9 s) L)):=Za fun wx wv va v hx=>by
  have:=zo (s:=b4S c s) hx (r:=N+1+1) Ze Ze xput_same (ev:=1) rfl (fun i hi=>by
   obtain ⟨m,u,e1,hu,_⟩:=b.pd i (ZP hi);exact ⟨m,e1,(Zh.1 hu).1⟩) (fun v hv=>(b.v2 v hv).fit) (by show ZA (Cm c (X9 s))≤_; omega) N5
  refine this.mono fun e w' ⟨he,h1⟩=>⟨he,?_⟩
  exact Eg.pick (m:=1) (h1.less Ze) hN (fun k h1 h2=>by rw [xput_ne Ze,xput_ne Ze,xput_ne Ze]) Ua
 have H9:Hid (∀wx va,Eg (N+1) w0 wx c a q (ZI Z N (YP 71 3 va (Wp c (X9 s)).length (Yx Qc (Wp c (X9 s))))) (b5S c s) (tH c (X9 s) L)→Zi Zb 216 #[.pointer (some ⟨q.e,0,none⟩)] wx fun e w'=>e= .returned (.tuple #[])∧Eg (N+1) w0 w' c a q (ZI Z N (YP 71 3 va (Wp c (X9 s)).length (Yx Qc (Wp c (X9 s))))) (bdS c (X9 s)) (tH c (X9 s) L)):=Za fun wx va hx=>
  vC (s:=b5S c s) hc hx (fun v hv=>(b.v3 v hv).fit) (by show ZA (kP c (X9 s))≤_; omega) (by show (kP c (X9 s)).length≤_; rw [b.l3]; omega) (by show s.mg.length≤_; omega) (fun p hp=>by
   obtain ⟨i,j,e1,h1,h2⟩:=qi p hp;exact ⟨i,j,e1,by show i < (kP c (X9 s)).length; rw [b.l3]; exact h1,by show j < (kP c (X9 s)).length; rw [b.l3]; exact h2⟩)
 have HH:=Za h;have HN:=Za hN;obtain ⟨x,hx⟩ : ∃x,Ob c (X9 s)=x:=⟨_,rfl⟩;obtain ⟨ac,je⟩ : ∃ac,ZY (BJ (X9 s))=ac:=⟨_,rfl⟩;rw [hx] at H4 H6 H7;rw [je] at H3 H4;clear h hc hq8 hi hk hr Zfq qi hN b ep0 ep1 bk1 bk0 hV VU bB t qx ZfA jq pZ htv hta htA CL hLb nQ jn zu Mf hX0 hX1 hRl zD hwl zO lS nW hwb hx je;go_enter Tryz.func135,Tryz.ntmps135;go_wp2_with fail;refine (H1.out _ HH.out).mono ?_;rintro e w1 ⟨rfl,h1⟩;have E1:=Za h1;clear h1 HH H1;go_wp2_with fail;refine (H2.out _ E1.out).mono ?_;rintro e w2 ⟨rfl,h2⟩;have E2:=Za h2;clear h2 E1 H2;go_wp2_with fail;refine PG (fun w'=>Eg N w0 w' c a q Z (nI s) (vc s L)) 3 [0,1,2,3,4,6,7,8,9,10,11,12,13,14,15] (?_) ?_
 ·exact E2.out.drew
 simp only [qF,qH];show ZB _ _ _ _ [_,_,_,_,_,_,_,_,_,_,_,_,_,_,_] _;iterate 4 (go_big_quiet_step ((intros; rfl)))
 refine Yw _ _ ⟨q.e,21,none⟩ (.pointer (some ⟨a.r,0,none⟩)) rfl rfl rfl (fun w h=>by simp [go_sem,h]) (fun w h=>Eg.x21 h) ?_;simp only [qB];iterate 4 (go_big_quiet_step ((intros; rfl)))
 refine Yw _ _ ⟨q.e,7,none⟩ (.int .u64 (c 7)) rfl rfl rfl (fun w h=>by simp [go_sem,h]) (fun w h=>(Eg.blk h).cell 7) ?_;simp only [qB];iterate 4 (go_big_quiet_step ((intros; rfl)))
 refine Yw _ _ ⟨q.e,8,none⟩ (.int .u64 (c 8)) rfl rfl rfl (fun w h=>by simp [go_sem,h]) (fun w h=>(Eg.blk h).cell 8) ?_;simp only [qB];refine Zj ?_;have E3:=Za E2.out.drew;clear E2;generalize w2.drew=W3 at*;refine Qt (i:=5) ?_;refine JM #[.pointer (some ⟨a.r,0,none⟩)] Tryz.call56 ((H3.out _ E3.out).mono ?_);rintro e w4 ⟨rfl,rfl⟩;refine ⟨_,rfl,E3.out,?_⟩;refine Qt (i:=16) ?_;try simp only [qA]
 refine JM #[.int .u64 ac,.int .u64 (c 7),.int .u64 (c 8)] Tryz.call211 ((H4.out _).mono ?_);rintro e w4 ⟨rfl,rfl⟩;refine ⟨_,rfl,E3.out,?_⟩;try simp only [qA]
 refine FR (fun w'=>Eg N w0 w' c a q Z (nI s) (vc s L)) (m:=1) (f:=0) [17] (?_) ?_
 ·exact E3.out
 simp only [qF,qH];show ZB _ _ _ _ [_] _;iterate 1 (go_big_quiet_step ((intros; rfl)))
 refine Zj ?_;clear H3 H4;refine ⟨by kernel_rfl,ZH ?_⟩;try simp only [qA]
 go_wp2_with fail;refine (H5.out _ E3.out).mono ?_;rintro e w5 ⟨wv,rfl,h5⟩;have E5:=Za h5;clear h5 E3 H5;go_wp2_with fail;refine (H6.out _ _ E5.out).mono ?_;rintro e w6 ⟨va,rfl,h6⟩;have E6:=Za h6;clear h6 E5 H6;go_wp2_with fail;have hB6:=E6.out.drew.blk;refine PG (fun w'=>Zy w' q.e 107 (Un c a q)) 2 [0,1,2,3,4,5,6,7,8,9] (?_) ?_
 ·exact hB6
 simp only [qF,qH];show ZB _ _ _ _ [_,_,_,_,_,_,_,_,_,_] _;iterate 7 (go_big_quiet_step ((intros; rfl)))
 refine Yw _ _ ⟨q.e,27,none⟩ (.pointer (some ⟨a.p,0,none⟩)) rfl rfl rfl (fun w h=>by simp [go_sem,h]) (fun w h=>h.cell 27) ?_;simp only [qB];iterate 2 (go_big_quiet_step ((intros; rfl)))
 refine Zj ?_;clear hB6;have E7:=Za E6.out.drew;clear E6;generalize w6.drew=W7 at*;refine Qt (i:=10) ?_;refine JM #[.pointer (some ⟨a.p,0,none⟩),.int .u64 x,wv] Tryz.call215 ((H7.out _ _ _ E7.out).mono ?_);rintro e w8 ⟨v8,rfl,h8⟩;have E8:=Za h8;refine ⟨_,rfl,h8.blk,?_⟩;clear h8 E7 H7;try simp only [qA]
 refine Qt (i:=11) ?_;try simp only [qA]
 refine JM #[.pointer (some ⟨q.e,21,none⟩),.int .i64 1,v8] Tryz.call214 ((H8.out _ _ _ _ E8.out).mono ?_);rintro e w9 ⟨rfl,h9⟩;have E9:=Za h9;refine ⟨_,rfl,h9.blk,?_⟩;clear h9 E8 H8;refine ⟨by kernel_rfl,ZH ?_⟩;try simp only [qA]
 go_wp2_with fail;refine (H9.out _ _ E9.out).mono ?_;rintro e w10 ⟨rfl,Wd⟩;have yS:=Za Wd;clear Wd E9 H9;go_wp2_with fail;go_ret;exact ⟨_,rfl,yS.out⟩
end
end
end Go.Proofs.YtianiiijaopdpaaGreat
