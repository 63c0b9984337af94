/- Part 30 of 34: Sla Con Wdr Beg End. -/
import Derived.Test.YtobgbcdgffgdhaaGreatZx00
import Derived.Test.YtobgbcdgffgdhaaGreatZx29
namespace Go.Proofs.YtobgbcdgffgdhaaGreat
set_option linter.unusedVariables false
set_option linter.unusedSimpArgs false
set_option maxRecDepth 100000
set_option maxHeartbeats 8000000
open _root_.And renaming intro -> Zm
open _root_.Go renaming Calls -> Zv, World -> Zc, heap_alloc_new -> ZB
open _root_.Go.Calls renaming quiet_of -> QJ
open _root_.Go.Proofs.YtobgbcdgffgdhaaGreat.Eg renaming blkAt -> Uh, drew -> VA
open _root_.List renaming append_nil -> X8, filter_cons -> JZ, getD_eq_getElem?_getD -> Zo, getElem?_eq_getElem -> Zg, getElem?_map -> ZM, length_filter_le -> XW, length_map -> Yt, length_set -> Xb, map_map -> Vf, mem_of_getElem? -> Zz, mem_of_mem_take -> ZT, take_add_one -> Y8, take_of_length_le -> ZV
open _root_.Go.NoPanic renaming normal -> YM
open _root_.Option renaming toList_some -> QA
open _root_.Go.Proofs.Tryz renaming prog -> Zb
open _root_.Go.Value renaming int -> ZG
open _root_.Go.World renaming setRow_alloc_new -> Zq
open Go.Proofs.Tryz
theorem oY {G:Prop}(h:G:=by show Zw W<=_; rw [NX.2.1]; exact HX.o.2.2.2.1) :G:=h
theorem oT {G:Prop}(h:G:=by rw [List.getD_eq_getElem?_getD,List.getElem?_eq_getElem FX]; exact List.getElem_mem FX) :G:=h
theorem ZiR {G H:Prop} (k:H) (h:Dq H->G:=by
  intro zk;refine Ot 30 _ q.e 0 (Zi c).toList _ rfl rfl rfl (fun w h=>TN (Eg.blk h)) underlying30 rfl Qk ?_;exact zk.o) :G:=h ⟨k⟩
theorem ZiU {G H:Prop} (k:H) (h:Dq H->G:=by
  intro zk;refine KY _ ⟨q.e,29,none⟩ (.pointer (some ⟨q.q,0,none⟩)) (fun w h=>h.1.cell 29) ?_;exact zk.o) :G:=h ⟨k⟩
theorem ZiV {G H:Prop} (k:H) (h:Dq H->G:=by
  intro zk;refine KY _ ⟨q.e,28,none⟩ (.pointer (some ⟨q.d,0,none⟩)) (fun w h=>h.1.cell 28) ?_;exact zk.o) :G:=h ⟨k⟩
theorem Zf6 {G:Prop} (h:G:=by
  refine Jk ?_;refine NL (fun w'=>Eg (N+2+1) w0 w' c a q (ZK (ZK (ZK Z N (Xm b 49 (Z6 o))) (N+1) (Xm (b+1) 53 (Z9 Bi))) (N+2) (Xm zb 68 (Ze u))) s L) (m:=2) (f:=0) [16,17] (?_) ?_
  ·exact h8
  refine JH ?_;refine je ?_;refine BZ ?_;refine Yo ?_;refine ⟨by kernel_rfl,NoPanic.normal ?_⟩;refine Jk ?_;go_wp2_with fail;go_meet;exact ⟨_,rfl,rfl,rfl,Za h7⟩) :G:=h
theorem Zgh {G:Prop} (h:G:=by
  go_wp2_with fail;go_roundw
  case rel=>exact ⟨k+1,by omega,by go_num,H6⟩
  case measure=>simp [intOf]; omega) :G:=h
theorem Zl4 {G:Prop} (h:G:=by
  refine Jk ?_;refine JC (i:=9) ?_;refine JA #[.agg (Ze u),.int .i64 s.ep,.agg (Zi c)] call128 ((HSl.o _).mono ?_);rintro e w5 ⟨rfl,hb5⟩;replace HX:=Za (HX.o.below hb5);refine ⟨_,rfl,HX.o.drop Yd,?_⟩;clear hb5;refine Jk ?_;refine NL (fun w'=>Eg (N+2+1) w0 w' c a q (ZK (ZK (ZK Z N (Xm b 49 (Z6 o))) (N+1) (Xm (b+1) 53 (Z9 Bi))) (N+2) (Xm zb 68 (Ze u))) s L) (m:=7) (f:=3) [10,11,12,13] (?_) ?_
  ·exact HX.o.drop Yd
  refine JH ?_;refine Hg ?_;refine Dw ?_;refine Yo ?_;refine JC (i:=15) ?_;have hB:=HX.o.blkAt (r:=N+2+1) Yd Zd Zr;refine Yv rfl rfl (wp_store_row _ _ _ rfl zs (Ze r2) rfl rfl 68 _ hB Ya rfl (Yi _) ?_);have h7:=HX.o.setr (r:=N+2+1) Yd Zd Zr (cs':=Ze r2) (Zu.setRow hB _) (ZA.setRow (S:=fun i=>i=zs) (ZA.refl _ _) (.inl rfl) _);rw [XB] at h7;have h8:=h7.drop Yd;refine ⟨h8,?_⟩;clear HX hB;generalize w5.setRow zs (Ze r2)=w7 at*;exact Zf6) :G:=h
theorem ZmC {G:Prop} (h:G:=by
  generalize W3.drewN nq=W4 at*;go_wp2_with fail;refine tH.o.mono ?_;rintro e w6 ⟨rfl,h6⟩;have H6:=Za h6;clear h6 tH;exact Zgh) :G:=h
theorem yK {G:Prop} (h:G:=by
  exact Zgh) :G:=h
theorem Ze7 {G:Prop} (h:G:=by
  exact ⟨OM.o.drew.blk,OM.o.drew.blkAt (r:=N+2) Yd Zd Zr⟩) :G:=h
theorem Zfg {G:Prop} (h:G:=by
  exact ⟨aW.o.blk,aW.o.blkAt (r:=N+2) Yd Zd Zr⟩) :G:=h
theorem ZfZ {G:Prop} (h:G:=by
  exact ⟨(Eg.drew CM.o).blk,Of.op (Eg.drew CM.o) HN.o⟩) :G:=h
section
open Go Go.RowKit Go.Deep
theorem pY {V:List ZN}{n:Nat}{v:ZN}(hf: ∀v ∈ V,Yp v)(hv:V[n]?=some v) :v.bal<=Zw V:=by
 have h1: ∀x ∈ V.set n { v with bal:=0},Yp x:=Kt hf ⟨rfl,(hf v (Xt hv)).2⟩;have h2:=JP h1;rw [J4 hv] at h2;simp only at h2;omega
def iL (c:Nat->Int)(s:Sg)(o:Oq)(L:List QZ) :List QZ:=if da c s o.ix=0 then L++slL c s o.ix else L
section
variable {N:Nat} {w0:FP} {w w' w1:Zc} {c:Nat->Int} {a:Pl} {q:Ql} {Z:Nat->Zc->(Nat->Prop)->Prop} {s s':Sg} {L L':List QZ} {k:Nat}
theorem ml {o:Oq}{kk:Int}(h:da c s o.ix=kk)(hk:kk≠0) :av c s o=(BN s o.kd kk,s):=by unfold av; rw [h,if_neg hk]
theorem Zdn {o:Oq}(h:da c s o.ix=0) :av c s o=(LW s o.kd o.ix (-1),MW c s o.ix):=by unfold av; rw [if_pos h]
theorem Zg3 (hc:GE c)(hi:Inv c k s)(hk:k<=1000000)(h:Eg N w0 w c a q Z s L)(o:Oq)(ho:UG o)(hL:L.length<=100000) :Zv Zb 87 #[.pointer (some ⟨q.e,0,none⟩),.agg (Z6 o)] w (OpP N w0 c a q Z (av c s o) (iL c s o L)):=by
 have hN:=h.low;have hO:=EA h o;have HT:=Za (hi.tm hc hk);have HN:=Za hN;have HC:=Za (Zm hc (Zm hi (Zm hk (Zm ho hL))));have hex:=ZlP hc hi hk o.ix;have HEX:=Za hex;obtain ⟨u,hu⟩ : ∃u,(if F6 s.V o.ix=true then ZU else VW s.V o.ix)=u:=⟨_,rfl⟩;obtain ⟨ok,Ag⟩:=ZR ((!F6 s.V o.ix));have HU:=Za (Zm hu Ag);have HGt:Zj (∀wx,Of N w0 wx c a q Z s L w.heap.size o->Z3 126 #[.pointer (some ⟨a.r,0,none⟩),.int .i64 o.ix] wx (.tuple #[.agg (Ze u),.bool ok])):=Za (fun wx hx=>by
  obtain ⟨X,hX,Uz,hh,_⟩:=Eg.open hx
  cases hb:F6 s.V o.ix with
  | true=>
   exact Zfq
  | false=>
   rw [hb] at hu Ag;obtain ⟨n,e,hn⟩:=UK hb;rw [<-hu,<-Ag];have:=hh.get_in Uz hn;rw [<-e] at this;exact this)
 clear hc hi hk ho hL hN h hex hu Ag;go_enter func87,ntmps87;go_upto_region 1 with (fail);generalize hW:(w.alloc (.cells (Z6 o) 49)).alloc (.cells _ 53)=W;have eW:(w.alloc (.cells (Z6 o) 49)).alloc (.cells (Z9 Bi) 53)=W:=hW;rw [eW] at hO;generalize w.heap.size=b at*;have HO:=Za hO;clear hW eW hO;go_cut [5,6] from 10 to 20 (fun s5 s6 wx=> ∃zb:Nat,s5= .pointer (some ⟨zb,0,none⟩)/\s6= .bool ok/\Zj (Eg (N+2+1) w0 wx c a q (ZK (ZK (ZK Z N (Xm b 49 (Z6 o))) (N+1) (Xm (b+1) 53 (Z9 Bi))) (N+2) (Xm zb 68 (Ze u))) s L))
 case first=>
  exact zT1
 case rest=>
  obtain ⟨zb,rfl,rfl,HE⟩:=hcut;clear HGt HO
  cases hb:F6 s.V o.ix with
  | true=>
   have hs7:da c s o.ix=7:=by rw [HEX.o,if_pos hb]
   have pG:Zj (av c s o=(BN s o.kd 7,s)/\iL c s o L=L):=Za ⟨ml hs7 Y5,by unfold iL; rw [hs7]; rfl⟩;obtain rfl:ok=false:=by rw [<-HU.o.2,hb]; rfl
   have HD:Zj (Of N w0 wc c a q Z s L b o):=Za (HE.o.drop Yd);have HE:=pG;clear pG HEX HU HC hb hs7;exact P9
  | false=>
   obtain rfl:ok=true:=by rw [<-HU.o.2,hb]; rfl
   have hu:=HU.o.1;rw [hb] at hu;replace hu:VW s.V o.ix=u:=hu;obtain ⟨n,hn,fZ⟩:=UK hb;have hex:=HEX.o;rw [hb,hu] at hex;replace hex:da c s o.ix=if u.st=2/\c 1<=s.F.length then 6 else(Fl u s.ep c).1:=hex
   rw [hu] at fZ;have HV:=Za (Zm hn (Zm fZ hu));have IA:=Za hex;have y1:wc.cell? ⟨zb,1,none⟩=some (.int .i64 u.st):=(HE.o.blkAt (r:=N+2) Yd Zd Zr).cell 1;have HF:Zj (Zv Zb 127 #[.pointer (some ⟨q.e,24,none⟩),.int .i64 0] wc fun e w'=>e= .returned (.bool (((Mv (c 1).toNat s.F s.W 0:Nat) :Int)==0))/\ ∃m,w'=wc.drewN m):=Za (Zd9 HE.o 0);obtain ⟨f,hf⟩:=ZR (Mv (c 1).toNat s.F s.W 0);rw [hf] at HF;rw [Og (.inl rfl)] at hf;replace hf:(c 1).toNat - s.F.length=f:=hf;have hll:(s.F.length:Int)<=c 1:=HC.o.2.1.fl;clear HEX HU hb hex hu hn fZ
   by_cases h6:u.st=2/\c 1<=(s.F.length:Int)
   ·have hs6:da c s o.ix=6:=by rw [IA.o,if_pos h6]
    have HE6:Zj (av c s o=(BN s o.kd 6,s)/\iL c s o L=L):=Za ⟨ml hs6 Y5,by unfold iL; rw [hs6]; rfl⟩;have d2:(u.st==2)=true:=by simp [h6.1]
    obtain rfl:f=0:=Zd;clear h6 hll hf IA HV HC hs6;exact Zmc
   ·go_upto_region 4 with (fail);go_cut [27] from 28 to 36 (fun s27 wx=>s27= .bool false/\Zj (Eg (N+2+1) w0 wx c a q (ZK (ZK (ZK Z N (Xm b 49 (Z6 o))) (N+1) (Xm (b+1) 53 (Z9 Bi))) (N+2) (Xm zb 68 (Ze u))) s L))
    case first=>
     by_cases h2:u.st=2
     ·have d2:(u.st==2)=true:=by simp [h2]
      have hfp:((f:Int)==0)=false:=Xo;clear h6 h2;go_wp2_with fail;refine HF.o.mono ?_;rintro e w2 ⟨rfl,m,rfl⟩;have Me:=Za (HE.o.drewN m);go_wp2_with fail;go_meet;exact ⟨rfl,Me⟩
     ·have d2:(u.st==2)=false:=by simp [h2]
      go_wp2_with fail;go_meet;exact ⟨rfl,HE⟩
    case rest=>
     obtain ⟨rfl,Me⟩:=hcut;clear HF HE y1;generalize wc=W2 at*;have Pw: ∃r2 cd am,(Fl u s.ep c).2=r2/\(Fl u s.ep c).1=cd/\slN u s.ep c=am:=⟨_,_,_,rfl,rfl,rfl⟩;obtain ⟨r2,cd,am,Pw,hcd,ham⟩:=Pw;have HSl:Zj (∀wx,Z3 128 #[.agg (Ze u),.int .i64 s.ep,.agg (Zi c)] wx (.tuple #[.agg (Ze r2),.int .u64 am,.int .i64 cd])):=Za (fun wx=>by
      have h0:=sC s.ep wx (HC.o.2.1.fits u (Xt HV.o.2.1)) HC.o.1.gc;unfold Wq at h0;rw [Pw,hcd,ham] at h0;exact h0)
     have HSC:Zj (da c s o.ix=cd):=Za (by rw [IA.o,if_neg Zd,hcd]);have HR:=Za (Zm Pw (Zm hcd ham));have HF6:Zj (u.st=2->(s.F.length:Int)< c 1):=Za (fun e=>by omega);clear Pw hcd ham h6 hll hf IA;go_upto_region 6 with (fail);go_cut [7,8,9] from 40 to 53 (fun s7 s8 s9 wx=> ∃zs:Nat,s7= .pointer (some ⟨zs,0,none⟩)/\s8= .int .u64 am/\s9= .int .i64 cd/\Zj (Eg (N+2+1+1) w0 wx c a q (ZK (ZK (ZK (ZK Z N (Xm b 49 (Z6 o))) (N+1) (Xm (b+1) 53 (Z9 Bi))) (N+2) (Xm zb 68 (Ze u))) (N+3) (Xm zs 68 (Ze r2))) s L))
     case first=>
      refine Ti (fun w'=>Eg (N+2+1) w0 w' c a q (ZK (ZK (ZK Z N (Xm b 49 (Z6 o))) (N+1) (Xm (b+1) 53 (Z9 Bi))) (N+2) (Xm zb 68 (Ze u))) s L) 10 [0,1,2,3,5,6,7,8] (?_) ?_
      ·exact Me.o.drew
      refine JH ?_;show wpQuiet _ _ _ _ [_,_,_,_,_,_,_,_] _;refine Jb 68 _ zb 68 (Ze u) _ rfl rfl rfl (fun w h=>Uh (r:=N+2) h Yd Zd Zr) underlying68 rfl Ya ?_;refine X7 ?_;iterate 6 (go_big_quiet_step ((intros; rfl)))
      refine ZiR ?_;refine Yo ?_;have HX:=Za Me.o.drew;clear Me;generalize W2.drew=V0 at*;refine KC (i:=4) (k:=14) ZC ZE ZE ?_ ?_
      ·refine JA #[.pointer (some ⟨q.e,20,none⟩)] call42 ((BI HX.o HT.o.b0 HT.o.b1 HT.o.l HT.o.q).mono ?_);rintro e w4 ⟨rfl,m4,rfl⟩;replace HX:=Za (HX.o.drewN m4);refine ⟨_,rfl,HX.o,?_⟩;generalize V0.drewN m4=V1 at*;refine Jk ?_;refine KC (i:=9) (k:=14) ZC ZE ZE ?_ ?_
       ·refine JA #[.agg (Ze u),.int .i64 s.ep,.agg (Zi c)] call128 ((HSl.o _).mono ?_);rintro e w5 ⟨rfl,hb5⟩;replace HX:=Za (HX.o.below hb5);refine ⟨_,rfl,HX.o,?_⟩;clear hb5;refine Jk ?_;refine NL (fun w'=>Eg (N+2+1) w0 w' c a q (ZK (ZK (ZK Z N (Xm b 49 (Z6 o))) (N+1) (Xm (b+1) 53 (Z9 Bi))) (N+2) (Xm zb 68 (Ze u))) s L) (m:=8) (f:=4) [10,11,12,13] (?_) ?_
        ·exact HX.o
        refine JH ?_;refine Hg ?_;refine Dw ?_;refine Yo ?_;refine JC (i:=14) ?_;refine Yv rfl rfl (Kv rfl ?_);replace HX:=Za (Eg.box HX.o (Ze ZU) 68);refine ⟨HX.o.drop Yd,?_⟩;generalize w5.heap.size=zs at*;generalize w5.alloc (.cells (Ze ZU) 68)=V3 at*;refine Jk ?_;refine JC (i:=15) ?_;have hB:=HX.o.blkAt (r:=N+2+1) Yd Zd Zr;refine Yv rfl rfl (wp_store_row _ _ _ rfl zs (Ze r2) rfl rfl 68 _ hB Ya rfl (Yi _) ?_);have h7:=HX.o.setr (r:=N+2+1) Yd Zd Zr (cs':=Ze r2) (Zu.setRow hB _) (ZA.setRow (S:=fun i=>i=zs) (ZA.refl _ _) (.inl rfl) _);rw [XB] at h7;have h8:=h7.drop Yd;refine ⟨h8,?_⟩;clear HX hB;generalize V3.setRow zs (Ze r2)=w7 at*;exact Zf6
       ·refine Yv rfl rfl (Kv rfl ?_);replace HX:=Za (Eg.box HX.o (Ze ZU) 68);refine ⟨HX.o.drop Yd,?_⟩;generalize V1.heap.size=zs at*;generalize V1.alloc (.cells (Ze ZU) 68)=V2 at*;exact Zl4
      ·refine Yv rfl rfl (Kv rfl ?_);replace HX:=Za (Eg.box HX.o (Ze ZU) 68);refine ⟨HX.o.drop Yd,?_⟩;generalize V0.heap.size=zs at*;generalize V0.alloc (.cells (Ze ZU) 68)=V1 at*;refine Jk ?_;refine JC (i:=4) ?_;refine JA #[.pointer (some ⟨q.e,20,none⟩)] call42 ((BI HX.o HT.o.b0 HT.o.b1 HT.o.l HT.o.q).mono ?_);rintro e w4 ⟨rfl,m4,rfl⟩;replace HX:=Za (HX.o.drewN m4);refine ⟨_,rfl,HX.o.drop Yd,?_⟩;generalize V1.drewN m4=V2 at*;exact Zl4
     case rest=>
      obtain ⟨zs,rfl,rfl,rfl,OM⟩:=hcut;clear HSl Me
      by_cases h0:cd=0
      ·subst h0;have d0:((0:Int) != 0)=false:=rfl;have CM:Zj (Of N w0 wc c a q Z s L b o):=Za ((OM.o.drop Yd).drop Yd);have k1:=Of.k1 CM.o HN.o;have Mc:=Za (OM.o.blkAt (r:=N+3) Yd Zd Zr);have hu:=HC.o.2.1.fits u (Xt HV.o.2.1);have hsb:=aw (v:=u) s.ep c HR.o.2.1;rw [HR.o.1,HR.o.2.2] at hsb;have DB:=Cf (v:=u) (e:=s.ep) (c:=c) hu HR.o.2.1;rw [HR.o.1] at DB;have ham:0<=am:=by
        have h1:=Nv c hu;have h2:=HR.o.2.2;unfold slN at h2;rw [if_pos HR.o.2.1] at h2;omega
       have hr2b:=(bounds_u64 DB.1).1;have hbt:=pY HC.o.2.1.fits HV.o.2.1;have gg:=HC.o.2.1.total HC.o.1;have MB:=HC.o.2.1.sum;have HBu:Zj (∀m,Zv Zb 129 #[.pointer (some ⟨q.e,21,none⟩),.int .i64 o.ix,.agg (Ze r2),.int .u64 am] (wc.drewN m) fun e w'=>e= .returned (.tuple #[])/\Eg (N+2+1+1) w0 w' c a q (ZK (ZK (ZK (ZK Z N (Xm b 49 (Z6 o))) (N+1) (Xm (b+1) 53 (Z9 Bi))) (N+2) (Xm zb 68 (Ze u))) (N+3) (Xm zs 68 (Ze r2))) { s with V:=s.V.set n r2,B:=s.B+am} L):=Za (fun m=>by
        have:=ZkE (OM.o.drewN m) HV.o.2.1 DB Zd (Inv.fits06 HC.o.1 HC.o.2.1) ham (x:=am) Zd;rw [<-HV.o.1] at this;exact this)
       have hS:MW c s o.ix= { s with V:=s.V.set n r2,B:=s.B+am,F:=if u.st=2 then s.F++[o.ix] else s.F}:=by
        unfold MW;rw [HV.o.2.2,HR.o.1,HR.o.2.2,HV.o.1];rfl
       have HS:=Za hS;have tj:Zj (av c s o=(LW s o.kd o.ix (-1),MW c s o.ix)/\iL c s o L=L++slL c s o.ix):=Za ⟨Zdn HSC.o,by unfold iL; rw [if_pos HSC.o]⟩;have HT2:Zj (Tm c (MW c s o.ix)):=Za ⟨HT.o.b0,HT.o.b1,HT.o.l,HT.o.q⟩;clear hu hsb DB ham hr2b hbt gg MB hS CM OM;go_wp2_with fail;refine BU 7 ?_;refine BY ?_;refine Sk ?_;refine Jb 68 _ zs 68 (Ze r2) _ rfl rfl rfl (fun w' h=>by obtain ⟨m,rfl⟩:=h; exact Mc.o) underlying68 rfl Ya ?_;refine X7 ?_;refine U4 ?_;refine Yo ?_;intro _ JG;obtain ⟨nr,Xk⟩:=JG;subst Xk;clear Mc k1;go_wp2_with fail;refine (HBu.o nr).mono ?_;rintro e w4 ⟨rfl,h4⟩;have Tn:=Za h4;clear h4 HBu;have To:Zj (Of N w0 w4 c a q Z { s with V:=s.V.set n r2,B:=s.B+am} L b o):=Za ((Tn.o.drop Yd).drop Yd);have y1:w4.cell? ⟨zb,1,none⟩=some (.int .i64 u.st):=(Tn.o.blkAt (r:=N+2) Yd Zd Uv).cell 1;have k1:=Of.k1 To.o HN.o
       by_cases h2:u.st=2
       ·have d2:(u.st==2)=true:=by simp [h2]
        have x24:=Eg.x24 Tn.o;have rk:iL c s o L=L:=by rw [tj.o.2]; unfold slL; rw [HV.o.2.2,if_neg Zd,X8]
        have CT:Zj (av c s o=(LW s o.kd o.ix (-1),MW c s o.ix)/\iL c s o L=L):=Za ⟨tj.o.1,rk⟩;have Hi:Zj (MW c s o.ix= { s with V:=s.V.set n r2,B:=s.B+am,F:=s.F++[o.ix]}):=Za (by rw [HS.o,if_pos h2]);have HFl:=Za (HF6.o h2);clear rk h2 HS HF6 tj Tn;go_wp2_with fail;refine BU 7 ?_;refine BY ?_;refine dN ?_;refine Yo ?_;intro _ JG;obtain ⟨nr,Xk⟩:=JG;subst Xk;clear k1 x24 y1;have Iy:Zj (Zv Zb 130 #[.pointer (some ⟨a.n,0,none⟩),.int .i64 0,.int .i64 o.ix] (w4.drewN nr) fun e w'=>(∃r,e= .returned (.int .i64 r))/\Of N w0 w' c a q Z (MW c s o.ix) L b o):=Za (by
         have hx:=Eg.drewN To.o nr;obtain ⟨X,hX,Uz,hh,hK,_⟩:=Eg.open hx;refine (hh.lpush hX Uz 0 o.ix).mono fun e w' ⟨he,h1⟩=>⟨⟨_,he⟩,?_⟩
         have h2:=hK _ _ _ h1 rfl rfl;have e1:LH (c 1).toNat s.F 0 o.ix=s.F++[o.ix]:=if_pos ⟨rfl,by have:=HFl.o; omega⟩;have e2:LI (c 1).toNat s.W 0 o.ix=s.W:=if_neg ZE;rw [Hi.o];simp only [e1,e2] at h2;exact h2)
        clear To;go_wp2_with fail;refine Iy.o.mono ?_;rintro e w13 ⟨⟨r13,rfl⟩,kt⟩;have HD:=Za kt;have HE:=CT;clear kt Iy CT Hi HV HC HFl HR HSC;exact mZ
       ·have d2:(u.st==2)=false:=by simp [h2]
        have Hi:Zj (MW c s o.ix= { s with V:=s.V.set n r2,B:=s.B+am}):=Za (by rw [HS.o,if_neg h2]);clear HS
        by_cases h5:u.st=5
        ·have d5:(u.st==5)=true:=by simp [h5]
         have rk:iL c s o L=L++[(r2.wd,o.ix)]:=by rw [tj.o.2]; unfold slL; rw [HV.o.2.2,if_pos h5,HR.o.1]
         have CT:Zj (av c s o=(LW s o.kd o.ix (-1),MW c s o.ix)/\iL c s o L=L++[(r2.wd,o.ix)]):=Za ⟨tj.o.1,rk⟩;have hvk:=HC.o.2.1.vok u (Xt HV.o.2.1);have hsi:=MY (v:=u) (e:=s.ep) (c:=c) HR.o.2.1;have IY:r2.wd=max u.wd (s.ep+c 11):=by rw [<-HR.o.1]; exact hsi.2.2.2.1
         have hw5:=hvk.s5 h5;have fU:=HC.o.2.1.ep0;have he1:=HC.o.2.1.ep1;have he2:=HC.o.2.1.bk1;have fX:=HC.o.2.2.1;have Ty:=HC.o.1.gc.sd0;have gd:=HC.o.1.gc.sd1;have HHo:Zj (∀m,Zv Zb 131 #[.pointer (some ⟨q.e,24,none⟩),.int .i64 o.ix,.agg (Ze r2)] (w4.drewN m) fun e w'=>e= .returned (.tuple #[])/\Of N w0 w' c a q Z (MW c s o.ix) (L++[(r2.wd,o.ix)]) b o):=Za (fun m=>by
          have:=uM (Eg.drewN To.o m) (i:=o.ix) (v:=r2) Zd Zd HC.o.2.2.2.2;rw [Hi.o];exact this)
         have HB4:=Za (Tn.o.blkAt (r:=N+3) Yd Zd Zr);clear rk hvk hsi IY hw5 fU he1 he2 fX Ty gd Hi tj Tn To h5 h2;go_wp2_with fail;refine BU 6 ?_;refine BY ?_;refine Sk ?_;refine Jb 68 _ zs 68 (Ze r2) _ rfl rfl rfl (fun w' h=>by obtain ⟨m,rfl⟩:=h; exact HB4.o) underlying68 rfl Ya ?_;refine X7 ?_;refine Yo ?_;intro _ JG;obtain ⟨nr,Xk⟩:=JG;subst Xk;clear k1 y1 HB4;go_wp2_with fail;refine (HHo.o nr).mono ?_;rintro e w13 ⟨rfl,kt⟩;have HD:=Za kt;have HE:=CT;clear kt HHo CT HV HC HR HSC HF6;exact mZ
        ·have d5:(u.st==5)=false:=by simp [h5]
         have rk:iL c s o L=L:=by rw [tj.o.2]; unfold slL; rw [HV.o.2.2,if_neg h5,X8]
         have CT:Zj (av c s o=(LW s o.kd o.ix (-1),MW c s o.ix)/\iL c s o L=L):=Za ⟨tj.o.1,rk⟩;have HD:Zj (Of N w0 w4 c a q Z (MW c s o.ix) L b o):=Za (by rw [Hi.o]; exact To.o);clear rk Hi tj Tn To h5 h2;have HE:=CT;clear CT HV HC HR HSC HF6;exact mZ
      ·have dk:(cd != 0)=true:=by simp [h0]
       have CT:Zj (av c s o=(BN s o.kd cd,s)/\iL c s o L=L):=Za ⟨ml HSC.o h0,by unfold iL; rw [HSC.o,if_neg h0]⟩;have HD:Zj (Of N w0 wc c a q Z s L b o):=Za ((OM.o.drop Yd).drop Yd);have HE:=CT;clear CT HV HC HR HSC HF6 OM h0;exact P9
end
end
section
open Go Go.RowKit Go.Deep
section
variable {N:Nat} {w0:FP} {w w' w1:Zc} {c:Nat->Int} {a:Pl} {q:Ql} {Z:Nat->Zc->(Nat->Prop)->Prop} {s s':Sg} {L L':List QZ} {k:Nat}
theorem uB {o:Oq}{kk:Int}(h:cnC c s (o.ix,o.tg)=kk)(hk:kk≠0) :jR c s o=(BN s o.kd kk,s):=by unfold jR; rw [h,if_neg hk]
theorem Zbw {o:Oq}(h:cnC c s (o.ix,o.tg)=0) :jR c s o=(LW s o.kd o.ix (-1),{ s with mg:=s.mg++[(o.ix,o.tg)]}):=by unfold jR; rw [if_pos h]
theorem xk {o:Oq}{kk:Int}(h:paC c s ⟨o.ix,o.am⟩=kk)(hk:kk≠0) :lC c s o=(BN s o.kd kk,s):=by unfold lC; rw [h,if_neg hk]
theorem ZcJ {o:Oq}(h:paC c s ⟨o.ix,o.am⟩=0) :lC c s o=(LW s o.kd o.ix (-1),{ s with pt:=s.pt++[⟨o.ix,o.am⟩]}):=by unfold lC; rw [if_pos h]
theorem Eg.all (h:Eg N w0 w c a q Z s L) :Zv Zb 43 #[.pointer (some ⟨a.r,0,none⟩)] w fun e w'=> ∃v,e= .returned v/\Eg (N+1) w0 w' c a q (ZK Z N (YU 68 7 v s.V.length (XC s.V))) s L/\Below w.heap.size w w':=by
 obtain ⟨X,hX,Uz,hh,_,hK,_⟩:=h.open;refine (hh.all hX Uz).mono fun e w' ⟨v,he,h1,h2⟩=>⟨v,he,hK _ _ _ _ h1 Jl rfl rfl,h2⟩
theorem Eg.lst (h:Eg N w0 w c a q Z s L){r:Nat}(GM:11<=r)(hr:r < N){v:Value}{V:List ZN}(hx:Z r=YU 68 7 v V.length (XC V)) : ∃b cp,v= .slice b V.length cp/\FL w (fun _=>False) b V:=by
 have ho:=h.row GM hr hx;obtain ⟨b,cp,rfl,_⟩:=UT ho;exact ⟨b,cp,rfl,F8 ho (fun _ _ h=>h)⟩
theorem bG (hc:GE c)(hi:Inv c k s)(hk:k<=1000000)(h:Eg N w0 w c a q Z s L)(o:Oq)(ho:UG o) :Zv Zb 88 #[.pointer (some ⟨q.e,0,none⟩),.agg (Z6 o)] w (OpP N w0 c a q Z (jR c s o) L):=by
 have hN:=h.low;have hO:=EA h o;have HT:=Za (hi.tm hc hk);have HN:=Za hN;have HC:=Za (Zm hc (Zm hi (Zm hk ho)));clear hc hi hk ho hN h;go_enter func88,ntmps88;go_upto_region 1 with (fail);generalize hW:(w.alloc (.cells (Z6 o) 49)).alloc (.cells _ 53)=W;have eW:(w.alloc (.cells (Z6 o) 49)).alloc (.cells (Z9 Bi) 53)=W:=hW;rw [eW] at hO;generalize w.heap.size=b at*;have HO:=Za hO;clear hW eW hO;obtain ⟨kk,vG⟩:=ZR (ES s.V (o.ix,o.tg) (c 6));have HK:=Za vG;clear vG;refine Ti (fun w'=>Of N w0 w' c a q Z s L b o) 3 [0,1,2,3,4,6,7,8,9,10,11,12,13] (?_) ?_
 ·exact VA HO.o
 refine JH ?_;show wpQuiet _ _ _ _ [_,_,_,_,_,_,_,_,_,_,_,_,_] _;refine Dw ?_;refine yB ?_;refine X7 ?_;refine U4 ?_;refine KY _ ⟨b,1,none⟩ (.int .i64 o.ix) (fun w h=>Of.k1 h HN.o) ?_;refine X7 ?_;refine U4 ?_;refine KY _ ⟨b,2,none⟩ (.int .i64 o.tg) (fun w h=>Of.k2 h HN.o) ?_;refine X7 ?_;refine Ec ?_;refine ZiR ?_;refine Yo ?_;have CL:Zj (Of N w0 W.drew c a q Z s L b o):=Za (VA HO.o);clear HO;generalize W.drew=V at*;refine Ed ?_;refine JA #[.pointer (some ⟨a.r,0,none⟩)] call43 ((Eg.all CL.o).mono ?_);rintro e w2 ⟨v,rfl,h2,Dg⟩;have Rh:Zj (Of N w0 w2 c a q Z s L b o):=Za (Eg.below CL.o Dg);have HRq:Zj (Z3 132 #[v,.int .i64 o.ix,.int .i64 o.tg,.agg (Zi c)] w2 (.int .i64 kk)):=Za (by
  obtain ⟨ab,cp,rfl,hl⟩:=h2.lst (r:=N+2) Yd Zd Zr;have:=EE (fun _=>False) ab s.V cp (o.ix,o.tg) c w2 hl HC.o.2.1.fits;rw [HK.o] at this;exact this)
 refine ⟨_,rfl,Rh.o,?_⟩;clear h2 Dg CL;refine JC (i:=14) ?_;refine Jk ?_;refine JA #[v,.int .i64 o.ix,.int .i64 o.tg,.agg (Zi c)] call132 ((HRq.o).mono ?_);rintro e w3 ⟨rfl,hb3⟩;have CM:Zj (Of N w0 w3 c a q Z s L b o):=Za (Eg.below Rh.o hb3);refine ⟨_,rfl,CM.o,?_⟩;clear HRq Rh hb3;refine Jk ?_;refine NL (fun w'=>Of N w0 w' c a q Z s L b o) (m:=1) (f:=0) [15] (?_) ?_
 ·exact CM.o
 refine JH ?_;refine Hh ?_;refine U4 ?_;refine Yo ?_;refine ⟨by kernel_rfl,YM ?_⟩;refine Jk ?_
 by_cases h0:kk=0
 ·subst h0;have d0:((0:Int) != 0)=false:=rfl;go_wp2_with fail
  by_cases h6:c 1<=(s.mg.length:Int)
  ·have HE:Zj (jR c s o=(BN s o.kd 6,s)):=Za (uB (by unfold cnC; rw [HK.o,if_neg ZE,if_pos h6]) Y5);have Iy:Zj (∀wx,Of N w0 wx c a q Z s L b o->Zv Zb 133 #[.pointer (some ⟨q.d,0,none⟩),.slice (some ⟨wx.heap.size,0,none⟩) 1 1] (wx.alloc (.cells (YJ (o.ix,o.tg)) 116)) fun e w'=>e= .returned (.int .i64 0)/\Of N w0 w' c a q Z s L b o):=Za (fun wx hx=>Eg.mfull hx (o.ix,o.tg) h6);clear h6 HC HK;refine Ti (fun w'=>Zu w' q.e 102 (UN c a q)/\Zu w' b 49 (Z6 o)) 3 [0,1,2,3,4,5,6,7,8,9] (?_) ?_
   ·exact ZfZ
   refine JH ?_;refine mX ?_;refine Dw ?_;refine ZiV ?_;refine X7 ?_;refine U4 ?_;refine KY _ ⟨b,1,none⟩ (.int .i64 o.ix) (fun w h=>h.2.cell 1) ?_;refine X7 ?_;refine U4 ?_;refine KY _ ⟨b,2,none⟩ (.int .i64 o.tg) (fun w h=>h.2.cell 2) ?_;refine X7 ?_;refine U4 ?_;refine Yo ?_;have To:Zj (Of N w0 w3.drew c a q Z s L b o):=Za (VA CM.o);clear CM;generalize w3.drew=V4 at*;refine JC (i:=10) ?_;refine Yv rfl rfl (JB 25 116 _ (.agg #[.int .i64 0,.int .i64 0]) (.int .i64 o.ix) (.int .i64 o.tg) rfl rfl underlying25 ZC ?_);refine ⟨⟨(Eg.blk To.o).alloc _,(Of.op To.o HN.o).alloc _⟩,?_⟩;refine JC (i:=11) ?_;refine Jk ?_;refine JA #[.pointer (some ⟨q.d,0,none⟩),.slice (some ⟨V4.heap.size,0,none⟩) 1 1] call133 ((Iy.o V4 To.o).mono ?_);rintro e w5 ⟨rfl,h5⟩;refine ⟨_,rfl,⟨Eg.blk h5,Of.op h5 HN.o⟩,?_⟩;have HD:=Za h5;clear h5 Iy To;refine Jk ?_;refine NL (fun w'=>Zu w' q.e 102 (UN c a q)/\Zu w' b 49 (Z6 o)) (m:=1) (f:=0) [12] (?_) ?_
   ·exact ⟨Eg.blk HD.o,Of.op HD.o HN.o⟩
   refine JH ?_;refine Hh ?_;refine U4 ?_;refine Yo ?_;refine ⟨by kernel_rfl,YM ?_⟩;refine Jk ?_;exact P9
  ·have HE:Zj (jR c s o=(LW s o.kd o.ix (-1),{ s with mg:=s.mg++[(o.ix,o.tg)]})):=Za (Zbw (by unfold cnC; rw [HK.o,if_neg ZE,if_neg h6]));have Iy:Zj (∀wx,Of N w0 wx c a q Z s L b o->Zv Zb 133 #[.pointer (some ⟨q.d,0,none⟩),.slice (some ⟨wx.heap.size,0,none⟩) 1 1] (wx.alloc (.cells (YJ (o.ix,o.tg)) 116)) fun e w'=>e= .returned (.int .i64 1)/\Of N w0 w' c a q Z { s with mg:=s.mg++[(o.ix,o.tg)]} L b o):=Za (fun wx hx=>Eg.mpush hx (o.ix,o.tg) Zd);have HT2:Zj (Tm c { s with mg:=s.mg++[(o.ix,o.tg)]}):=Za ⟨HT.o.b0,HT.o.b1,HT.o.l,HT.o.q⟩;clear h6 HC HK;refine Ti (fun w'=>Zu w' q.e 102 (UN c a q)/\Zu w' b 49 (Z6 o)) 3 [0,1,2,3,4,5,6,7,8,9] (?_) ?_
   ·exact ZfZ
   refine JH ?_;refine mX ?_;refine Dw ?_;refine ZiV ?_;refine X7 ?_;refine U4 ?_;refine KY _ ⟨b,1,none⟩ (.int .i64 o.ix) (fun w h=>h.2.cell 1) ?_;refine X7 ?_;refine U4 ?_;refine KY _ ⟨b,2,none⟩ (.int .i64 o.tg) (fun w h=>h.2.cell 2) ?_;refine X7 ?_;refine U4 ?_;refine Yo ?_;have To:Zj (Of N w0 w3.drew c a q Z s L b o):=Za (VA CM.o);clear CM;generalize w3.drew=V4 at*;refine JC (i:=10) ?_;refine Yv rfl rfl (JB 25 116 _ (.agg #[.int .i64 0,.int .i64 0]) (.int .i64 o.ix) (.int .i64 o.tg) rfl rfl underlying25 ZC ?_);refine ⟨⟨(Eg.blk To.o).alloc _,(Of.op To.o HN.o).alloc _⟩,?_⟩;refine JC (i:=11) ?_;refine Jk ?_;refine JA #[.pointer (some ⟨q.d,0,none⟩),.slice (some ⟨V4.heap.size,0,none⟩) 1 1] call133 ((Iy.o V4 To.o).mono ?_);rintro e w5 ⟨rfl,h5⟩;refine ⟨_,rfl,⟨Eg.blk h5,Of.op h5 HN.o⟩,?_⟩;have HD:=Za h5;clear h5 Iy To;refine Jk ?_;refine NL (fun w'=>Zu w' q.e 102 (UN c a q)/\Zu w' b 49 (Z6 o)) (m:=1) (f:=0) [12] (?_) ?_
   ·exact ⟨Eg.blk HD.o,Of.op HD.o HN.o⟩
   refine JH ?_;refine Hh ?_;refine U4 ?_;refine Yo ?_;refine ⟨by kernel_rfl,YM ?_⟩;refine Jk ?_;exact mZ
 ·have HE:Zj (jR c s o=(BN s o.kd kk,s)):=Za (uB (by unfold cnC; rw [HK.o,if_pos h0]) h0);have d0:(kk != 0)=true:=by simp [h0]
  clear HC HK h0;have HD:=CM;clear CM;exact P9
end
end
section
open Go Go.RowKit Go.Deep
section
variable {N:Nat} {w0:FP} {w w' w1:Zc} {c:Nat->Int} {a:Pl} {q:Ql} {Z:Nat->Zc->(Nat->Prop)->Prop} {s s':Sg} {L L':List QZ} {k:Nat}
theorem qI (hc:GE c)(hi:Inv c k s)(hk:k<=1000000)(h:Eg N w0 w c a q Z s L)(o:Oq)(ho:UG o) :Zv Zb 89 #[.pointer (some ⟨q.e,0,none⟩),.agg (Z6 o)] w (OpP N w0 c a q Z (lC c s o) L):=by
 have hN:=h.low;have hO:=EA h o;have HT:=Za (hi.tm hc hk);have HN:=Za hN;have HC:=Za (Zm hc (Zm hi (Zm hk ho)));clear hc hi hk ho hN h;go_enter func89,ntmps89;go_upto_region 1 with (fail);generalize hW:(w.alloc (.cells (Z6 o) 49)).alloc (.cells _ 53)=W;have eW:(w.alloc (.cells (Z6 o) 49)).alloc (.cells (Z9 Bi) 53)=W:=hW;rw [eW] at hO;generalize w.heap.size=b at*;have HO:=Za hO;clear hW eW hO;obtain ⟨r,hr⟩ : ∃r:Rq,(⟨o.ix,o.am⟩ :Rq)=r:=⟨_,rfl⟩;have hrc: #[ZG .i64 o.ix,ZG .u64 o.am]=ZF r:=by rw [<-hr]; rfl
 obtain ⟨kk,vG⟩:=ZR (Ru s.V r);have HK:=Za (Zm vG hr);have k1:=Of.k1 HO.o HN.o;have k3:=Of.k3 HO.o HN.o;have HB:=Za (Eg.box HO.o (ZF r) 119);have HRC:=Za hrc;clear vG hr hrc;go_wp2_with (first | (refine wpList_store_row rfl _ _ _ rfl W.heap.size (ZF r) rfl (by rw [<-HRC.o]; rfl) 119 _ (ZB W _) Jq rfl (Ky _) ?_; rw [Zq]));clear k1 k3 HO HRC;generalize W.heap.size=rb at*;generalize W.alloc (.cells (ZF r) 119)=W1 at*;refine Jk ?_;refine Ti (fun w'=>Eg (N+2+1) w0 w' c a q (ZK (ZK (ZK Z N (Xm b 49 (Z6 o))) (N+1) (Xm (b+1) 53 (Z9 Bi))) (N+2) (Xm rb 119 (ZF r))) s L) 3 [0,1,2,3,4,6] (?_) ?_
 ·exact HB.o.drew
 refine JH ?_;refine dO ?_;refine Dw ?_;refine yB ?_;refine X7 ?_;refine Jb 119 _ rb 119 (ZF r) _ rfl rfl rfl (fun w h=>Uh h (r:=N+2) Yd Zd Zr) underlying119 rfl Jq ?_;refine X7 ?_;refine Yo ?_;have CJ:=Za HB.o.drew;clear HB;generalize W1.drew=V at*;refine Ed ?_;refine JA #[.pointer (some ⟨a.r,0,none⟩)] call43 ((Eg.all CJ.o).mono ?_);rintro e w2 ⟨v,rfl,h2,Dg⟩;have Me:=Za (CJ.o.below Dg);have HRq:Zj (Z3 134 #[v,.agg (ZF r)] w2 (.int .i64 kk)):=Za (by
  obtain ⟨ab,cp,rfl,hl⟩:=h2.lst (r:=N+2+1) Yd Zd Zr;have:=bD (fun _=>False) ab cp s.V r w2 hl;rw [HK.o.1] at this;exact this)
 refine ⟨_,rfl,Me.o,?_⟩;clear h2 Dg CJ;refine P8 ?_;refine Jk ?_;refine JA #[v,.agg (ZF r)] call134 ((HRq.o).mono ?_);rintro e w3 ⟨rfl,hb3⟩;have OM:=Za (Me.o.below hb3);refine ⟨_,rfl,OM.o,?_⟩;clear HRq Me hb3;refine Jk ?_;refine NL (fun w'=>Eg (N+2+1) w0 w' c a q (ZK (ZK (ZK Z N (Xm b 49 (Z6 o))) (N+1) (Xm (b+1) 53 (Z9 Bi))) (N+2) (Xm rb 119 (ZF r))) s L) (m:=1) (f:=0) [8] (?_) ?_
 ·exact OM.o
 refine JH ?_;refine Hh ?_;refine U4 ?_;refine Yo ?_;refine ⟨by kernel_rfl,YM ?_⟩;refine Jk ?_
 by_cases h0:kk=0
 ·subst h0;have d0:((0:Int) != 0)=false:=rfl;go_wp2_with fail
  by_cases h6:c 1<=(s.pt.length:Int)
  ·have HE:Zj (lC c s o=(BN s o.kd 6,s)):=Za (xk (by unfold paC; rw [HK.o.2,HK.o.1,if_neg ZE,if_pos h6]) Y5);have Iy:Zj (∀wx,Eg (N+2+1) w0 wx c a q (ZK (ZK (ZK Z N (Xm b 49 (Z6 o))) (N+1) (Xm (b+1) 53 (Z9 Bi))) (N+2) (Xm rb 119 (ZF r))) s L->Zv Zb 135 #[.pointer (some ⟨q.q,0,none⟩),.slice (some ⟨wx.heap.size,0,none⟩) 1 1] (wx.alloc (.cells (ZF r) 119)) fun e w'=>e= .returned (.int .i64 0)/\Eg (N+2+1) w0 w' c a q (ZK (ZK (ZK Z N (Xm b 49 (Z6 o))) (N+1) (Xm (b+1) 53 (Z9 Bi))) (N+2) (Xm rb 119 (ZF r))) s L):=Za (fun wx hx=>Eg.tfull hx r h6);clear h6 HC HK;refine Ti (fun w'=>Zu w' q.e 102 (UN c a q)/\Zu w' rb 119 (ZF r)) 3 [0,1,2,3,4,5] (?_) ?_
   ·exact Ze7
   refine JH ?_;refine dO ?_;refine Dw ?_;refine ZiU ?_;refine X7 ?_;refine Jb 119 _ rb 119 (ZF r) _ rfl rfl rfl (fun w h=>h.2) underlying119 rfl Jq ?_;refine X7 ?_;refine Yo ?_;have Tn:=Za OM.o.drew;clear OM;generalize w3.drew=V4 at*;refine Lz ?_;refine Yv rfl rfl (JB 26 119 _ (.agg #[.int .i64 0,.int .u64 0]) (.int .i64 r.ix) (.int .u64 r.am) rfl rfl underlying26 ZC ?_);refine ⟨⟨Tn.o.blk.alloc _,(Tn.o.blkAt (r:=N+2) Yd Zd Zr).alloc _⟩,?_⟩;refine P8 ?_;refine Jk ?_;refine JA #[.pointer (some ⟨q.q,0,none⟩),.slice (some ⟨V4.heap.size,0,none⟩) 1 1] call135 ((Iy.o V4 Tn.o).mono ?_);rintro e w5 ⟨rfl,h5⟩;refine ⟨_,rfl,⟨Eg.blk h5,Uh h5 (r:=N+2) Yd Zd Zr⟩,?_⟩;have aW:=Za h5;clear h5 Iy Tn;refine Jk ?_;refine NL (fun w'=>Zu w' q.e 102 (UN c a q)/\Zu w' rb 119 (ZF r)) (m:=1) (f:=0) [8] (?_) ?_
   ·exact Zfg
   refine JH ?_;refine Hh ?_;refine U4 ?_;refine Yo ?_;refine ⟨by kernel_rfl,YM ?_⟩;refine Jk ?_;have HD:Zj (Of N w0 w5 c a q Z s L b o):=Za (aW.o.drop Yd);clear aW;exact P9
  ·have HE:Zj (lC c s o=(LW s o.kd o.ix (-1),{ s with pt:=s.pt++[r]})):=Za (by rw [<-HK.o.2]; exact ZcJ (by unfold paC; rw [HK.o.2,HK.o.1,if_neg ZE,if_neg h6]));have Iy:Zj (∀wx,Eg (N+2+1) w0 wx c a q (ZK (ZK (ZK Z N (Xm b 49 (Z6 o))) (N+1) (Xm (b+1) 53 (Z9 Bi))) (N+2) (Xm rb 119 (ZF r))) s L->Zv Zb 135 #[.pointer (some ⟨q.q,0,none⟩),.slice (some ⟨wx.heap.size,0,none⟩) 1 1] (wx.alloc (.cells (ZF r) 119)) fun e w'=>e= .returned (.int .i64 1)/\Eg (N+2+1) w0 w' c a q (ZK (ZK (ZK Z N (Xm b 49 (Z6 o))) (N+1) (Xm (b+1) 53 (Z9 Bi))) (N+2) (Xm rb 119 (ZF r))) { s with pt:=s.pt++[r]} L):=Za (fun wx hx=>Eg.tpush hx r Zd);have HT2:Zj (Tm c { s with pt:=s.pt++[r]}):=Za ⟨HT.o.b0,HT.o.b1,HT.o.l,HT.o.q⟩;clear h6 HC HK;refine Ti (fun w'=>Zu w' q.e 102 (UN c a q)/\Zu w' rb 119 (ZF r)) 3 [0,1,2,3,4,5] (?_) ?_
   ·exact Ze7
   refine JH ?_;refine dO ?_;refine Dw ?_;refine ZiU ?_;refine X7 ?_;refine Jb 119 _ rb 119 (ZF r) _ rfl rfl rfl (fun w h=>h.2) underlying119 rfl Jq ?_;refine X7 ?_;refine Yo ?_;have Tn:=Za OM.o.drew;clear OM;generalize w3.drew=V4 at*;refine Lz ?_;refine Yv rfl rfl (JB 26 119 _ (.agg #[.int .i64 0,.int .u64 0]) (.int .i64 r.ix) (.int .u64 r.am) rfl rfl underlying26 ZC ?_);refine ⟨⟨Tn.o.blk.alloc _,(Tn.o.blkAt (r:=N+2) Yd Zd Zr).alloc _⟩,?_⟩;refine P8 ?_;refine Jk ?_;refine JA #[.pointer (some ⟨q.q,0,none⟩),.slice (some ⟨V4.heap.size,0,none⟩) 1 1] call135 ((Iy.o V4 Tn.o).mono ?_);rintro e w5 ⟨rfl,h5⟩;refine ⟨_,rfl,⟨Eg.blk h5,Uh h5 (r:=N+2) Yd Zd Zr⟩,?_⟩;have aW:=Za h5;clear h5 Iy Tn;refine Jk ?_;refine NL (fun w'=>Zu w' q.e 102 (UN c a q)/\Zu w' rb 119 (ZF r)) (m:=1) (f:=0) [8] (?_) ?_
   ·exact Zfg
   refine JH ?_;refine Hh ?_;refine U4 ?_;refine Yo ?_;refine ⟨by kernel_rfl,YM ?_⟩;refine Jk ?_;have HD:Zj (Of N w0 w5 c a q Z { s with pt:=s.pt++[r]} L b o):=Za (aW.o.drop Yd);clear aW;exact mZ
 ·have HE:Zj (lC c s o=(BN s o.kd kk,s)):=Za (xk (by unfold paC; rw [HK.o.2,HK.o.1,if_pos h0]) h0);have d0:(kk != 0)=true:=by simp [h0]
  have HD:Zj (Of N w0 w3 c a q Z s L b o):=Za (OM.o.drop Yd);clear HC HK h0 OM;exact P9
end
end
section
open Go Go.RowKit Go.Deep
theorem WE (f:ZN->ZN) : ∀(A B:List Nat) (V:List ZN),L6 f V (A++B)=L6 f (L6 f V A) B
 | [],_,_=>rfl
 | i::A,B,V=>WE f A B _
theorem Pd {f:ZN->ZN}{V:List ZN}{F:List Nat}{k i:Nat}(hk:F[k]?=some i) :L6 f V (F.take (k+1))=(L6 f V (F.take k)).set i (f ((L6 f V (F.take k)).getD i ZU)):=by
 rw [Y8,hk,QA,WE]; rfl
theorem rG {F:List Nat}(hn:F.Nodup){k i:Nat}(hk:F[k]?=some i) :i ∉ F.take k:=fun h=>by
 have hd:F.drop k=i::F.drop (k+1):=List.drop_eq_getElem?_toList_append .. |>.trans (by rw [hk]; rfl);rw [<-List.take_append_drop k F,List.nodup_append] at hn;exact hn.2.2 i h i (by rw [hd]; simp) rfl
theorem Pc {f:ZN->ZN}{V:List ZN}{F:List Nat}(hn:F.Nodup)(hF: ∀i ∈ F,i < V.length){k i:Nat}(hk:F[k]?=some i) :(L6 f V (F.take k)).getD i ZU=V.getD i ZU:=by
 rw [jP f _ _ (hn.sublist (List.take_sublist _ _)) (fun j hj=>hF j (ZT hj)),if_neg (rG hn hk)]
theorem WG {f:ZN->ZN}(hf: ∀v,Yp v->Yp (f v)/\(f v).bal=v.bal) : ∀(F:List Nat) (V:List ZN),(∀v ∈ V,Yp v)->(∀i ∈ F,i < V.length)->Hm V (L6 f V F)
 | [],V,h,_=>Hm.refl h
 | i::F,V,h,hF=>by
  have hi:=hF i ZE;have hv:V[i]?=some (V.getD i ZU):=by rw [Zo,Zg hi]; rfl
  have h0:=hf _ (h _ (Xt hv));have h1:Hm V (V.set i (f (V.getD i ZU))):=(Hm.refl h).set hv h0.2 h0.1;have h2:=WG hf F (V.set i (f (V.getD i ZU))) h1.2.2 (fun j hj=>by rw [Xb]; exact hF j Ng);exact ⟨h2.1.trans h1.1,h2.2.1.trans h1.2.1,h2.2.2⟩
theorem Ce {V:List ZN}{i:Nat}(h:i < V.length) :V.set i (V.getD i ZU)=V:=by
 rw [Zo,Zg h];exact List.set_getElem_self h
theorem rp (e:Int)(v:ZN)(h:Yp v) :Yp (YB e v)/\(YB e v).bal=v.bal:=by
 unfold YB; split
 ·exact ⟨⟨h.1,rfl⟩,rfl⟩
 ·exact ⟨h,rfl⟩
theorem wN (e:Int)(v:ZN)(h:v.st≠3) :YB e v=v:=if_neg fun hh=>h hh.1
theorem wM {e:Int}{v:ZN}(h:v.st=3)(he:v.ex=e) :YB e v=ON 3 v:=by
 unfold YB ON;rw [if_pos ⟨h,he⟩,h]; rfl
section
variable {N:Nat} {w0:FP} {w w' w1:Zc} {c:Nat->Int} {a:Pl} {q:Ql} {Z:Nat->Zc->(Nat->Prop)->Prop} {s s':Sg} {L L':List QZ} {k:Nat}
theorem uR (h:Eg N w0 w c a q Z s L){i:Nat}{ev:Int}(hev:(Lit.int .i64 ev).wf=true)(hi:i < s.V.length)(hf: ∀v ∈ s.V,Yp v)(ht:Zw s.V<=18446744073709551615) :
  Zv Zb 203 #[.pointer (some ⟨q.e,21,none⟩),.int .i64 ev,.slice (some ⟨w.heap.size,0,none⟩) 1 1] (w.alloc (.cells #[.int .i64 (i:Int)] 3)) fun e w'=>e= .returned (.tuple #[])/\Eg N w0 w' c a q Z { s with V:=s.V.set i (ON ev (s.V.getD i ZU))} L:=by
 have hN:=h.low;have h1:=h.box #[.int .i64 (i:Int)] 3;have h2:=h1.torow (r:=N) (k:=1) (n:=1) (xs:= [.int .i64 (i:Int)]) hN Zd Zr rfl Vx;rw [XB] at h2;refine (Zea h2 (r:=N) (I:= [(i:Int)]) hN Zd Zr hev (fun j hj=>?_) hf ht ZE).mono fun e w' ⟨he,h3⟩=>⟨he,h3.drop hN⟩
 rw [List.mem_singleton] at hj;exact ⟨i,hj,hi⟩
theorem Eg.get (h:Eg N w0 w c a q Z s L){n:Nat}(hn:n < s.V.length) :Z3 126 #[.pointer (some ⟨a.r,0,none⟩),.int .i64 (n:Int)] w (.tuple #[.agg (Ze (s.V.getD n ZU)),.bool true]):=by
 obtain ⟨X,hX,Uz,hh,_⟩:=h.open;exact hh.get_in Uz (by rw [Zo,Zg hn]; rfl)
theorem ZgX (h:Eg N w0 w c a q Z s L)(t:Tm c s)(hf: ∀v ∈ s.V,Yp v)(ht:Zw s.V<=18446744073709551615)(hl:s.V.length<=4096) :
  Zv Zb 198 #[.pointer (some ⟨q.e,0,none⟩)] w fun e w'=>e= .returned (.tuple #[])/\Eg N w0 w' c a q Z { s with V:=s.V.map (YB s.ep)} L:=by
 have hN:=h.low;obtain ⟨F,hF⟩:=ZR (M8 s.V 3 s.V.length);have HWi:=Za (Zed h (st:=3) rfl Zd);rw [hF] at HWi;have hFn:F.Nodup:=by rw [<-hF]; exact aK _ _ _
 have hFm: ∀i ∈ F,i < s.V.length/\(s.V.getD i ZU).st=3:=fun i hi=>by rw [<-hF] at hi; exact PE.1 hi
 have SH:F.length<=4096:=by
  rw [<-hF]; unfold M8; exact Nat.le_trans (XW _ _) dM
 have Ub:L6 (YB s.ep) s.V F=s.V.map (YB s.ep):=by rw [<-hF]; exact Zbv _ _ _ (wN s.ep)
 have tF:Zj (∀k,Hm s.V (L6 (YB s.ep) s.V (F.take k))):=Za fun k=>WG (rp s.ep) _ _ hf fun i hi=>(hFm i (ZT hi)).1
 have HX:=Za (Zm hFn (Zm hFm (Zm Ub (Zm ht t))));have HN:=Za hN;clear h hf ht hl hN hF hFn hFm Ub t;go_enter func198,ntmps198;go_wp2_with fail;refine HWi.o.mono ?_;rintro e w2 ⟨v,rfl,h2,_⟩;obtain ⟨ia,cp,rfl⟩:=XK (h2.row (r:=N) HN.o Zd Zr);obtain ⟨m,hm⟩:=ZR (F.length);have HM:=Za hm;rw [hm] at h2 SH;have H2:=Za h2;rw [hm];clear HWi h2 hm;go_wp2_with fail;go_loopw [11] (fun s11 wr=> ∃(k:Nat),k<=m/\s11= .int .i64 k/\Zj (Eg (N+1) w0 wr c a q (ZK Z N (YU 3 1 (.slice ia m cp) m (F.map M7))) { s with V:=L6 (YB s.ep) s.V (F.take k)} L)) (fun s11 _=>m -(intOf s11).toNat)
 case atStart=>exact ⟨0,by omega,rfl,H2⟩
 case round=>
  obtain ⟨k,hk,rfl,HE⟩:=hrel
  by_cases XJ:k < m
  ·obtain ⟨i,hi⟩ : ∃i,F[k]?=some i:=⟨_,Zg Wc⟩;obtain ⟨g,rfl,hc⟩:=cV (HE.o.row (r:=N) HN.o Zd Zr) (show (F.map M7)[k]?=some (.int .i64 (i:Int)) by rw [ZM,hi]; rfl);have Ff:=Pd (f:=YB s.ep) (V:=s.V) hi;have Af:=Pc (f:=YB s.ep) HX.o.1 (fun j hj=>(HX.o.2.1 j hj).1) hi;have NX:=tF.o k;have FX:=(HX.o.2.1 i (Zz hi)).1;have GN:=(HX.o.2.1 i (Zz hi)).2;obtain ⟨W,hW⟩:=ZR (L6 (YB s.ep) s.V (F.take k));rw [hW] at HE Ff Af NX;obtain ⟨u,hu⟩:=ZR (W.getD i ZU);rw [hu] at Ff;rw [<-Af,hu] at GN;have tu:i < W.length:=by rw [NX.1]; exact FX
   have y0:wr.cell? ⟨q.e,21,none⟩=some (.pointer (some ⟨a.r,0,none⟩)):=Eg.x21 HE.o;have HG:=Za (HE.o.get (n:=i) (show i < W.length from tu));rw [show ({ s with V:=W} :Sg).V.getD i ZU=u from hu] at HG;have HU:=Za (Zm tu (Zm GN (Zm NX (Zm Ff hu))));clear hi Ff Af NX FX GN hW hu tu;go_wp2_with fail;refine HG.o.mono ?_;rintro e w3 ⟨rfl,hb⟩;have Dg:Below wr.heap.size wr (w3.alloc (.cells (Ze u) 68)):=hb.alloc hb.size _;have E3:=Za (HE.o.below Dg);have y4:(w3.alloc (.cells (Ze u) 68)).cell? ⟨w3.heap.size,4,none⟩=some (.int .i64 u.ex):=(Zu.new w3 68 (Ze u)).cell 4;clear hb Dg HE HG y0;go_wp2_with (first | (refine Up w3.heap.size (Ze u) 68 (ZB w3 _) Ya (Yi _) ?_; rw [Zq]));generalize w3.heap.size=zb at*;generalize w3.alloc (.cells (Ze u) 68)=W3 at*;have HEp:Zj (∀n,Xc 42 #[.pointer (some ⟨q.e,20,none⟩)] (W3.drewN n) (.int .i64 s.ep)):=Za fun n=>BI (s:= { s with V:=W}) (E3.o.drewN n) HX.o.2.2.2.2.b0 HX.o.2.2.2.2.b1 HX.o.2.2.2.2.l HX.o.2.2.2.2.q
   by_cases hex:u.ex=s.ep
   ·have d:(u.ex==s.ep)=true:=by simp [hex]
    go_quiet ((go_at_call 42; exact QJ (HEp.o _)));have E4:=Za (E3.o.drewN nq);have tH:Zj (Zv Zb 203 #[.pointer (some ⟨q.e,21,none⟩),.int .i64 3,.slice (some ⟨(W3.drewN nq).heap.size,0,none⟩) 1 1] ((W3.drewN nq).alloc (.cells #[.int .i64 (i:Int)] 3)) fun e w'=>e= .returned (.tuple #[])/\Eg (N+1) w0 w' c a q (ZK Z N (YU 3 1 (.slice (some ⟨g,0,none⟩) m cp) m (F.map M7))) { s with V:=L6 (YB s.ep) s.V (F.take (k+1))} L):=Za (by
     have NX:=HU.o.2.2.1;have:=uR E4.o (i:=i) (ev:=3) rfl HU.o.1 NX.2.2 oY;refine this.mono fun e w' ⟨he,h5⟩=>⟨he,?_⟩
     rw [HU.o.2.2.2.1,wM HU.o.2.1 hex,<-HU.o.2.2.2.2];exact h5)
    clear E4 E3 y4 HU d;exact ZmC
   ·have d:(u.ex==s.ep)=false:=by simp [hex]
    go_quiet ((go_at_call 42; exact QJ (HEp.o _)));have H6:Zj (Eg (N+1) w0 (W3.drewN nq) c a q (ZK Z N (YU 3 1 (.slice (some ⟨g,0,none⟩) m cp) m (F.map M7))) { s with V:=L6 (YB s.ep) s.V (F.take (k+1))} L):=Za (by
     have e4:=E3.o.drewN nq;have e5:L6 (YB s.ep) s.V (F.take (k+1))=W:=by
      rw [HU.o.2.2.2.1,show YB s.ep u=u from if_neg fun hh=>hex hh.2,<-HU.o.2.2.2.2,Ce HU.o.1]
     rw [e5]; exact e4)
    clear E3 y4 HU;generalize W3.drewN nq=W4 at*;exact yK
  ·obtain rfl:k=m:=Zd;clear XJ;have XJ: ¬k < k:=Zd;have H7:Zj (Eg N w0 wr c a q Z { s with V:=s.V.map (YB s.ep)} L):=Za (by
    have:=HE.o;rw [ZV Wb,HX.o.2.2.1] at this;exact this.drop HN.o)
   exact pk
end
end
section
open Go Go.RowKit Go.Deep
def MQ (e:Int)(v:ZN) :ZN:=if v.wd<=e then ON 4 v else v
theorem xF (e:Int)(v:ZN)(h:Yp v) :Yp (MQ e v)/\(MQ e v).bal=v.bal:=by
 unfold MQ; split
 ·exact ⟨WS h,rfl⟩
 ·exact ⟨h,rfl⟩
def Ic (i:Nat) :Int:=(i:Int)
def nz (e:Int)(V:List ZN)(G:List Nat) :List QZ:=(G.filter fun i=>decide (e < (V.getD i ZU).wd)).map fun i=>((V.getD i ZU).wd,(i:Int))
theorem xG (e:Int) : ∀(G:List Nat) (V:List ZN),(∀i ∈ G,i < V.length)->RV e V (G.map Ic)=L6 (MQ e) V G
 | [],_,_=>rfl
 | i::G,V,h=>by
  have hi:=h i ZE;rw [List.map_cons,RV,L6];have e1:(if(VW V (Ic i)).wd<=e then V.set (Ic i).toNat (ON 4 (VW V (Ic i))) else V)=V.set i (MQ e (V.getD i ZU)):=by
   show (if(V.getD i ZU).wd<=e then V.set i (ON 4 (V.getD i ZU)) else V)=_;unfold MQ
   split
   ·rfl
   ·exact (Ce hi).symm
  rw [e1];exact xG e G _ fun j hj=>by rw [Xb]; exact h j Ng
theorem Zbj (e:Int)(V:List ZN)(G:List Nat) :eF e V (G.map Ic)=nz e V G:=by
 unfold eF nz;rw [List.filter_map,Vf];rfl
theorem um {e:Int}{V:List ZN}{G:List Nat}{k i:Nat}(hk:G[k]?=some i) :nz e V (G.take (k+1))=nz e V (G.take k)++if e < (V.getD i ZU).wd then [((V.getD i ZU).wd,(i:Int))] else []:=by
 unfold nz;rw [Y8,hk,QA,List.filter_append,List.map_append]
 congr 1
 by_cases h:e < (V.getD i ZU).wd
 ·rw [if_pos h,JZ,if_pos (decide_eq_true h)]; rfl
 ·rw [if_neg h,JZ,if_neg (by rw [decide_eq_false h]; simp)]; rfl
theorem Zbp (e:Int)(V:List ZN)(G:List Nat) :(nz e V G).length<=G.length:=by
 unfold nz; rw [Yt]; exact XW _ _
section
variable {N:Nat} {w0:FP} {w w' w1:Zc} {c:Nat->Int} {a:Pl} {q:Ql} {Z:Nat->Zc->(Nat->Prop)->Prop} {s s':Sg} {L L':List QZ} {k:Nat}
theorem Eg.due (h:Eg N w0 w c a q Z s L){ep:Int}(h0:0<=ep)(h1:ep<=1099511627776)(hL:L.length<=100000) :
  Zv Zb 234 #[.pointer (some ⟨a.u,0,none⟩),.int .i64 ep] w fun e w'=> ∃v,e= .returned v/\Eg (N+1) w0 w' c a q (ZK Z N (YU 3 1 v (Vr ep L).length ((Vr ep L).map (ZG .i64)))) s (GB ep L):=by
 obtain ⟨X,hX,Uz,hh,_,hK,_⟩:=h.open;refine (hh.due hX Uz h0 h1 hL).mono fun e w' ⟨v,he,g1,_⟩=>⟨v,he,hK _ _ _ _ g1 Jl rfl rfl⟩
theorem ZoR (h:Eg N w0 w c a q Z s L)(t:Tm c s){F:List Nat}(hF:Vr s.ep L=F.map Ic)(hFn:F.Nodup)(hFm: ∀i ∈ F,i < s.V.length)(hep:s.ep<=1099511627776)(fU:0<=s.ep)(IY: ∀v ∈ s.V,v.wd<=1099511627776)(bO:L.length<=90000)(hf: ∀v ∈ s.V,Yp v)(ht:Zw s.V<=18446744073709551615)(hl:s.V.length<=4096) :
  Zv Zb 199 #[.pointer (some ⟨q.e,0,none⟩)] w fun e w'=>e= .returned (.tuple #[])/\Eg N w0 w' c a q Z { s with V:=RV s.ep s.V (Vr s.ep L)} (MP s.ep s.V L):=by
 have hN:=h.low;have SH:F.length<=4096:=by
  have h1:=List.Nodup.length_le_of_subset (l₂:=List.range s.V.length) hFn (fun i hi=>List.mem_range.2 (hFm i hi));rw [List.length_range] at h1; omega
 have Ub:L6 (MQ s.ep) s.V F=RV s.ep s.V (Vr s.ep L):=by rw [hF]; exact (xG _ _ _ hFm).symm
 have Zen:GB s.ep L++nz s.ep s.V F=MP s.ep s.V L:=by unfold MP; rw [hF,Zbj]
 have Zlr:(GB s.ep L).length<=L.length:=by unfold GB; exact XW _ _
 have tF:Zj (∀k,Hm s.V (L6 (MQ s.ep) s.V (F.take k))):=Za fun k=>WG (xF s.ep) _ _ hf fun i hi=>hFm i (ZT hi)
 have HX:=Za (Zm hFn (Zm hFm (Zm Ub (Zm ht (Zm t (Zm Zen (Zm IY (Zm fU (Zm (Nat.le_trans Zlr bO) (Zm hF (Zm hep bO)))))))))));have HN:=Za hN;have HH:=Za h;clear h hf ht hl hN hF hFn hFm Ub t Zen Zlr IY hep fU bO;go_enter func199,ntmps199;go_wp2_with fail;refine Ti (fun w'=>Zu w' q.e 102 (UN c a q)) 3 [0,1,2,3,4,5,6,7,11] (?_) ?_
 ·exact HH.o.drew.blk
 refine JH ?_;refine td ?_;refine Dw ?_;refine KY _ ⟨q.e,26,none⟩ (.pointer (some ⟨a.u,0,none⟩)) (fun w h=>h.cell 26) ?_;refine X7 ?_;refine Dw ?_;refine Yo ?_;have H0:=Za HH.o.drew;clear HH;generalize w.drew=V0 at*;refine JC (i:=8) ?_;refine JA #[.pointer (some ⟨q.e,20,none⟩)] call42 ((BI H0.o HX.o.2.2.2.2.1.b0 HX.o.2.2.2.2.1.b1 HX.o.2.2.2.2.1.l HX.o.2.2.2.2.1.q).mono ?_);rintro e w1 ⟨rfl,m1,rfl⟩;have H1:=Za (H0.o.drewN m1);refine ⟨_,rfl,H1.o.blk,?_⟩;clear H0;generalize V0.drewN m1=V1 at*;refine JC (i:=9) ?_;refine Jk ?_;refine JA #[.pointer (some ⟨a.u,0,none⟩),.int .i64 s.ep] call234 ((H1.o.due HX.o.2.2.2.2.2.2.2.1 HX.o.2.2.2.2.2.2.2.2.2.2.1 (by have:=HX.o.2.2.2.2.2.2.2.2.2.2.2; omega)).mono ?_);rintro e w2 ⟨v,rfl,h2⟩;refine ⟨_,rfl,h2.blk,?_⟩;clear H1;rw [HX.o.2.2.2.2.2.2.2.2.2.1,Yt,Vf,show (ZG .i64 ∘ Ic)=M7 from rfl] at h2;obtain ⟨ia,cp,rfl⟩:=XK (h2.row (r:=N) HN.o Zd Zr);obtain ⟨m,hm⟩:=ZR (F.length);have HM:=Za hm;rw [hm] at h2 SH;have H2:=Za h2;rw [hm];have GI:=Za h2.blk;clear h2 hm;refine Jk ?_;refine NL (fun w'=>Zu w' q.e 102 (UN c a q)) (m:=1) (f:=0) [10] (?_) ?_
 ·exact GI.o
 refine JH ?_;refine Hh ?_;refine U4 ?_;refine Yo ?_;clear GI;refine ⟨by kernel_rfl,YM ?_⟩;refine Jk ?_;go_wp2_with fail;go_loopw [17] (fun s17 wr=> ∃(k:Nat),k<=m/\s17= .int .i64 k/\Zj (Eg (N+1) w0 wr c a q (ZK Z N (YU 3 1 (.slice ia m cp) m (F.map M7))) { s with V:=L6 (MQ s.ep) s.V (F.take k)} (GB s.ep L++nz s.ep s.V (F.take k)))) (fun s17 _=>m -(intOf s17).toNat)
 case atStart=>exact ⟨0,by omega,rfl,Za (by rw [show nz s.ep s.V (F.take 0)=[] from rfl,X8]; exact H2.o)⟩
 case round=>
  obtain ⟨k,hk,rfl,HE⟩:=hrel
  by_cases XJ:k < m
  ·obtain ⟨i,hi⟩ : ∃i,F[k]?=some i:=⟨_,Zg Wc⟩;obtain ⟨g,rfl,hc⟩:=cV (HE.o.row (r:=N) HN.o Zd Zr) (show (F.map M7)[k]?=some (.int .i64 (i:Int)) by rw [ZM,hi]; rfl);have Ff:=Pd (f:=MQ s.ep) (V:=s.V) hi;have Af:=Pc (f:=MQ s.ep) HX.o.1 HX.o.2.1 hi;have hbk:=um (e:=s.ep) (V:=s.V) hi;have NX:=tF.o k;have FX:=HX.o.2.1 i (Zz hi);have tw:=Zbp s.ep s.V (F.take k);obtain ⟨W,hW⟩:=ZR (L6 (MQ s.ep) s.V (F.take k));rw [hW] at HE Ff Af NX;obtain ⟨u,hu⟩:=ZR (W.getD i ZU);rw [hu] at Ff;rw [<-Af,hu] at hbk;have huw:u.wd<=1099511627776:=by rw [<-hu,Af]; exact HX.o.2.2.2.2.2.2.1 _ oT
   have hLk:(GB s.ep L++nz s.ep s.V (F.take k)).length<=100000:=by
    rw [List.length_append];have h1:=HX.o.2.2.2.2.2.2.2.2.1;rw [List.length_take] at tw;omega
   have tu:i < W.length:=by rw [NX.1]; exact FX
   have y0:wr.cell? ⟨q.e,21,none⟩=some (.pointer (some ⟨a.r,0,none⟩)):=Eg.x21 HE.o;have HG:=Za (HE.o.get (n:=i) (show i < W.length from tu));rw [show ({ s with V:=W} :Sg).V.getD i ZU=u from hu] at HG;have HU:=Za (Zm tu (Zm (Zm huw hLk) (Zm NX (Zm Ff (Zm hu hbk)))));obtain ⟨Lk,fS⟩:=ZR (GB s.ep L++nz s.ep s.V (F.take k));have HLK:=Za fS;rw [fS] at HE;clear hi Ff Af NX FX hW hu tu hbk tw huw hLk fS;go_wp2_with fail;refine HG.o.mono ?_;rintro e w3 ⟨rfl,hb⟩;have Dg:Below wr.heap.size wr (w3.alloc (.cells (Ze u) 68)):=hb.alloc hb.size _;have E3:=Za (HE.o.below Dg);have y4:(w3.alloc (.cells (Ze u) 68)).cell? ⟨w3.heap.size,5,none⟩=some (.int .i64 u.wd):=(Zu.new w3 68 (Ze u)).cell 5;have Mc:Zj (Zu (w3.alloc (.cells (Ze u) 68)) w3.heap.size 68 (Ze u)):=Za (Zu.new _ _ _);clear hb Dg HE HG y0;go_wp2_with (first | (refine Up w3.heap.size (Ze u) 68 (ZB w3 _) Ya (Yi _) ?_; rw [Zq]));generalize w3.heap.size=zb at*;generalize w3.alloc (.cells (Ze u) 68)=W3 at*;have HEp:Zj (∀n,Xc 42 #[.pointer (some ⟨q.e,20,none⟩)] (W3.drewN n) (.int .i64 s.ep)):=Za fun n=>BI (s:= { s with V:=W}) (E3.o.drewN n) HX.o.2.2.2.2.1.b0 HX.o.2.2.2.2.1.b1 HX.o.2.2.2.2.1.l HX.o.2.2.2.2.1.q
   by_cases hex:s.ep < u.wd
   ·have d:decide (s.ep < u.wd)=true:=decide_eq_true hex;go_quiet ((go_at_call 42; exact QJ (HEp.o _)));have E4:=Za (E3.o.drewN nq);have HB4:Zj (Zu (W3.drewN nq) zb 68 (Ze u)):=Za (Mc.o.drewN nq);clear E3 Mc y4 d HEp;generalize W3.drewN nq=W4 at*;go_wp2_with fail;refine BU 5 ?_;refine BY ?_;refine Dw ?_;refine Jb 68 _ zb 68 (Ze u) _ rfl rfl rfl (fun w' h=>by obtain ⟨m,rfl⟩:=h; exact HB4.o) underlying68 rfl Ya ?_;refine X7 ?_;refine Yo ?_;intro _ JG;obtain ⟨nr,Xk⟩:=JG;subst Xk;have HHo:Zj (Zv Zb 131 #[.pointer (some ⟨q.e,24,none⟩),.int .i64 (i:Int),.agg (Ze u)] (W4.drewN nr) fun e w'=>e= .returned (.tuple #[])/\Eg (N+1) w0 w' c a q (ZK Z N (YU 3 1 (.slice (some ⟨g,0,none⟩) m cp) m (F.map M7))) { s with V:=L6 (MQ s.ep) s.V (F.take (k+1))} (GB s.ep L++nz s.ep s.V (F.take (k+1)))):=Za (by
     have h0:=HX.o.2.2.2.2.2.2.2.1;have:=uM (E4.o.drewN nr) (i:=(i:Int)) (v:=u) Zd HU.o.2.1.1 (by rw [<-HLK.o]; exact HU.o.2.1.2);refine this.mono fun e w' ⟨he,h5⟩=>⟨he,?_⟩
     rw [HU.o.2.2.2.2.2,if_pos hex,<-List.append_assoc,HLK.o];have e5:L6 (MQ s.ep) s.V (F.take (k+1))=W:=by
      rw [HU.o.2.2.2.1,show MQ s.ep u=u from if_neg Zd,<-HU.o.2.2.2.2.1,Ce HU.o.1]
     rw [e5];exact h5)
    clear E4 HB4 HU HLK;generalize W4.drewN nr=W5 at*;go_wp2_with fail;refine HHo.o.mono ?_;rintro e w6 ⟨rfl,h6⟩;have H6:=Za h6;clear h6 HHo;exact yK
   ·have d:decide (s.ep < u.wd)=false:=decide_eq_false hex;go_quiet ((go_at_call 42; exact QJ (HEp.o _)));have E4:=Za (E3.o.drewN nq);have tH:Zj (Zv Zb 203 #[.pointer (some ⟨q.e,21,none⟩),.int .i64 4,.slice (some ⟨(W3.drewN nq).heap.size,0,none⟩) 1 1] ((W3.drewN nq).alloc (.cells #[.int .i64 (i:Int)] 3)) fun e w'=>e= .returned (.tuple #[])/\Eg (N+1) w0 w' c a q (ZK Z N (YU 3 1 (.slice (some ⟨g,0,none⟩) m cp) m (F.map M7))) { s with V:=L6 (MQ s.ep) s.V (F.take (k+1))} (GB s.ep L++nz s.ep s.V (F.take (k+1)))):=Za (by
     have NX:=HU.o.2.2.1;have:=uR E4.o (i:=i) (ev:=4) rfl HU.o.1 NX.2.2 oY;refine this.mono fun e w' ⟨he,h5⟩=>⟨he,?_⟩
     rw [HU.o.2.2.2.2.2,if_neg hex,X8,HLK.o,HU.o.2.2.2.1,show MQ s.ep u=ON 4 u from if_pos Zd,<-HU.o.2.2.2.2.1];exact h5)
    clear E4 E3 y4 HU d HLK Mc;exact ZmC
  ·obtain rfl:k=m:=Zd;clear XJ;have XJ: ¬k < k:=Zd;have H7:Zj (Eg N w0 wr c a q Z { s with V:=RV s.ep s.V (Vr s.ep L)} (MP s.ep s.V L)):=Za (by
    have:=HE.o;rw [ZV Wb,HX.o.2.2.1,HX.o.2.2.2.2.2.1] at this;exact this.drop HN.o)
   exact pk
end
end
end Go.Proofs.YtobgbcdgffgdhaaGreat
