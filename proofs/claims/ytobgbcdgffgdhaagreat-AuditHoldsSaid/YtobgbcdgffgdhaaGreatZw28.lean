/- Part 28 of 31: Sla Con Wdr Beg End. -/
import Derived.Test.YtobgbcdgffgdhaaGreatZw00
import Derived.Test.YtobgbcdgffgdhaaGreatZw27
namespace Go.Proofs.YtobgbcdgffgdhaaGreat
set_option linter.unusedVariables false
set_option linter.unusedSimpArgs false
set_option maxRecDepth 100000
set_option maxHeartbeats 8000000
open _root_.And renaming intro -> Zn
open _root_.Go renaming Calls -> Zv, World -> Zc, heap_alloc_new -> ZA
open _root_.Go.Calls renaming quiet_of -> Qm
open _root_.Go.Proofs.YtobgbcdgffgdhaaGreat.Eg renaming blkAt -> VE, drew -> KX
open _root_.List renaming append_nil -> XM, filter_cons -> JH, getD_eq_getElem?_getD -> Zm, getElem?_eq_getElem -> Zg, getElem?_map -> ZH, length_filter_le -> Qy, length_map -> YG, length_set -> Xj, map_map -> KF, mem_of_getElem? -> Zy, mem_of_mem_take -> ZQ, take_add_one -> Xs, take_of_length_le -> Yp
open _root_.Go.NoPanic renaming normal -> Yu
open _root_.Option renaming toList_some -> QL
open _root_.Go.Proofs.Tryz renaming prog -> Zb
open _root_.Go.Value renaming int -> ZI
open _root_.Go.World renaming setRow_alloc_new -> Zr
open Go.Proofs.Tryz
theorem kJ {G:Prop}(h:G:=by show Zw W<=_; rw [NG.2.1]; exact HX.o.2.2.2.1) :G:=h
theorem kF {G:Prop}(h:G:=by rw [List.getD_eq_getElem?_getD,List.getElem?_eq_getElem Fo]; exact List.getElem_mem Fo) :G:=h
theorem Zeg {G H:Prop} (k:H) (h:DE H->G:=by
  intro zk;refine MO 30 _ q.e 0 (Zi c).toList _ rfl rfl rfl (fun w h=>RK (Eg.blk h)) underlying30 rfl X7 ?_;exact zk.o) :G:=h ⟨k⟩
theorem Zei {G H:Prop} (k:H) (h:DE H->G:=by
  intro zk;refine Vk _ ⟨q.e,29,none⟩ (.pointer (some ⟨q.q,0,none⟩)) (fun w h=>h.1.cell 29) ?_;exact zk.o) :G:=h ⟨k⟩
theorem Zej {G H:Prop} (k:H) (h:DE H->G:=by
  intro zk;refine Vk _ ⟨q.e,28,none⟩ (.pointer (some ⟨q.d,0,none⟩)) (fun w h=>h.1.cell 28) ?_;exact zk.o) :G:=h ⟨k⟩
theorem Zbz {G:Prop} (h:G:=by
  refine Q3 ?_;refine Mj (fun w'=>Eg (N+2+1) w0 w' c a q (ZG (ZG (ZG Z N (Y5 b 49 (ZX o))) (N+1) (Y5 (b+1) 53 (Z9 Dd))) (N+2) (Y5 zb 68 (Zd u))) s L) (m:=2) (f:=0) [16,17] (?_) ?_
  ·exact h8
  refine JL ?_;show wpQuiet _ _ _ _ [_,_] _;refine B9 ?_;refine XK ?_;refine ⟨by kernel_rfl,NoPanic.normal ?_⟩;refine Q3 ?_;go_wp2_with fail;go_meet;exact ⟨_,rfl,rfl,rfl,Za h7⟩) :G:=h
theorem ZbI {G:Prop} (h:G:=by
  go_wp2_with fail;go_roundw
  case rel=>exact ⟨k+1,by omega,by go_num,H6⟩
  case measure=>simp [intOf]; omega) :G:=h
theorem zT9 {G:Prop} (h:G:=by
  refine Q3 ?_;refine Jg (i:=9) ?_;refine JC #[.agg (Zd u),.int .i64 s.ep,.agg (Zi c)] call128 ((HSl.o _).mono ?_);rintro e w5 ⟨rfl,hb5⟩;replace HX:=Za (HX.o.below hb5);refine ⟨_,rfl,HX.o.drop ZO,?_⟩;clear hb5;refine Q3 ?_;refine Mj (fun w'=>Eg (N+2+1) w0 w' c a q (ZG (ZG (ZG Z N (Y5 b 49 (ZX o))) (N+1) (Y5 (b+1) 53 (Z9 Dd))) (N+2) (Y5 zb 68 (Zd u))) s L) (m:=7) (f:=3) [10,11,12,13] (?_) ?_
  ·exact HX.o.drop ZO
  refine JL ?_;refine He ?_;refine Bi ?_;refine XK ?_;refine Jg (i:=15) ?_;have hB:=HX.o.blkAt (r:=N+2+1) ZO Ze Zq;refine Yz rfl rfl (wp_store_row _ _ _ rfl zs (Zd r2) rfl rfl 68 _ hB Yb rfl (Ys _) ?_);have h7:=HX.o.setr (r:=N+2+1) ZO Ze Zq (cs':=Zd r2) (Zu.setRow hB _) (Zx.setRow (S:=fun i=>i=zs) (Zx.refl _ _) (.inl rfl) _);rw [Xx] at h7;have h8:=h7.drop ZO;refine ⟨h8,?_⟩;clear HX hB;generalize w5.setRow zs (Zd r2)=w7 at*;exact Zbz) :G:=h
theorem ZhP {G:Prop} (h:G:=by
  generalize W3.drewN nq=W4 at*;go_wp2_with fail;refine oX.o.mono ?_;rintro e w6 ⟨rfl,h6⟩;have H6:=Za h6;clear h6 oX;exact ZbI) :G:=h
theorem tI {G:Prop} (h:G:=by
  exact ZbI) :G:=h
theorem ZaK {G:Prop} (h:G:=by
  exact ⟨M7.o.drew.blk,M7.o.drew.blkAt (r:=N+2) ZO Ze Zq⟩) :G:=h
theorem ZaS {G:Prop} (h:G:=by
  exact ⟨Ck.o.blk,Ck.o.blkAt (r:=N+2) ZO Ze Zq⟩) :G:=h
theorem Zbu {G:Prop} (h:G:=by
  exact ⟨(Eg.drew Wp.o).blk,Of.op (Eg.drew Wp.o) HN.o⟩) :G:=h
section
open Go Go.RowKit Go.Deep
theorem lD {V:List ZN}{n:Nat}{v:ZN}(hf: ∀v ∈ V,Yh v)(hv:V[n]?=some v) :v.bal<=Zw V:=by
 have h1: ∀x ∈ V.set n { v with bal:=0},Yh x:=J9 hf ⟨rfl,(hf v (Xi hv)).2⟩;have h2:=Jz h1;rw [JK hv] at h2;simp only at h2;omega
def dq (c:Nat->Int)(s:Sg)(o:Oq)(L:List QW) :List QW:=if IA c s o.ix=0 then L++yM c s o.ix else L
section
variable {N:Nat} {w0:Fb} {w w' w1:Zc} {c:Nat->Int} {a:Pl} {q:Ql} {Z:Nat->Zc->(Nat->Prop)->Prop} {s s':Sg} {L L':List QW} {k:Nat}
theorem iC {o:Oq}{kk:Int}(h:IA c s o.ix=kk)(hk:kk≠0) :AS c s o=(GI s o.kd kk,s):=by unfold AS; rw [h,if_neg hk]
theorem yN {o:Oq}(h:IA c s o.ix=0) :AS c s o=(F8 s o.kd o.ix (-1),LA c s o.ix):=by unfold AS; rw [if_pos h]
theorem Zcs (hc:GE c)(hi:Inv c k s)(hk:k<=1000000)(h:Eg N w0 w c a q Z s L)(o:Oq)(ho:GB o)(hL:L.length<=100000) :Zv Zb 87 #[.pointer (some ⟨q.e,0,none⟩),.agg (ZX o)] w (vH N w0 c a q Z (AS c s o) (dq c s o L)):=by
 have hN:=h.low;have hO:=Ds h o;have HT:=Za (hi.tm hc hk);have HN:=Za hN;have HC:=Za (Zn hc (Zn hi (Zn hk (Zn ho hL))));have hex:=Zhb hc hi hk o.ix;have vr:=Za hex;obtain ⟨u,hu⟩ : ∃u,(if EI s.V o.ix=true then ZS else Vq s.V o.ix)=u:=⟨_,rfl⟩;obtain ⟨ok,SX⟩:=ZT ((!EI s.V o.ix));have HU:=Za (Zn hu SX);have vu:Zl (∀wx,Of N w0 wx c a q Z s L w.heap.size o->Z3 126 #[.pointer (some ⟨a.r,0,none⟩),.int .i64 o.ix] wx (.tuple #[.agg (Zd u),.bool ok])):=Za (fun wx hx=>by
  obtain ⟨X,hX,VV,hh,_⟩:=Eg.open hx
  cases hb:EI s.V o.ix with
  | true=>
   exact Za1
  | false=>
   rw [hb] at hu SX;obtain ⟨n,e,hn⟩:=Ue hb;rw [<-hu,<-SX];have:=hh.get_in VV hn;rw [<-e] at this;exact this)
 clear hc hi hk ho hL hN h hex hu SX;go_enter func87,ntmps87;go_upto_region 1 with (fail);generalize hW:(w.alloc (.cells (ZX o) 49)).alloc (.cells _ 53)=W;have eW:(w.alloc (.cells (ZX o) 49)).alloc (.cells (Z9 Dd) 53)=W:=hW;rw [eW] at hO;generalize w.heap.size=b at*;have HO:=Za hO;clear hW eW hO;go_cut [5,6] from 10 to 20 (fun s5 s6 wx=> ∃zb:Nat,s5= .pointer (some ⟨zb,0,none⟩)/\s6= .bool ok/\Zl (Eg (N+2+1) w0 wx c a q (ZG (ZG (ZG Z N (Y5 b 49 (ZX o))) (N+1) (Y5 (b+1) 53 (Z9 Dd))) (N+2) (Y5 zb 68 (Zd u))) s L))
 case first=>
  exact zT1
 case rest=>
  obtain ⟨zb,rfl,rfl,HE⟩:=hcut;clear vu HO
  cases hb:EI s.V o.ix with
  | true=>
   have xB:IA c s o.ix=7:=by rw [vr.o,if_pos hb]
   have ln:Zl (AS c s o=(GI s o.kd 7,s)/\dq c s o L=L):=Za ⟨iC xB YW,by unfold dq; rw [xB]; rfl⟩;obtain rfl:ok=false:=by rw [<-HU.o.2,hb]; rfl
   have HD:Zl (Of N w0 wc c a q Z s L b o):=Za (HE.o.drop ZO);have HE:=ln;clear ln vr HU HC hb xB;exact Om
  | false=>
   obtain rfl:ok=true:=by rw [<-HU.o.2,hb]; rfl
   have hu:=HU.o.1;rw [hb] at hu;replace hu:Vq s.V o.ix=u:=hu;obtain ⟨n,hn,bP⟩:=Ue hb;have hex:=vr.o;rw [hb,hu] at hex;replace hex:IA c s o.ix=if u.st=2/\c 1<=s.F.length then 6 else(DZ u s.ep c).1:=hex
   rw [hu] at bP;have HV:=Za (Zn hn (Zn bP hu));have HX0:=Za hex;have y1:wc.cell? ⟨zb,1,none⟩=some (.int .i64 u.st):=(HE.o.blkAt (r:=N+2) ZO Ze Zq).cell 1;have HF:Zl (Zv Zb 127 #[.pointer (some ⟨q.e,24,none⟩),.int .i64 0] wc fun e w'=>e= .returned (.bool (((Hz (c 1).toNat s.F s.W 0:Nat) :Int)==0))/\ ∃m,w'=wc.drewN m):=Za (zU HE.o 0);obtain ⟨f,hf⟩:=ZT (Hz (c 1).toNat s.F s.W 0);rw [hf] at HF;rw [ME (.inl rfl)] at hf;replace hf:(c 1).toNat - s.F.length=f:=hf;have hll:(s.F.length:Int)<=c 1:=HC.o.2.1.fl;clear vr HU hb hex hu hn bP
   by_cases h6:u.st=2/\c 1<=(s.F.length:Int)
   ·have hs6:IA c s o.ix=6:=by rw [HX0.o,if_pos h6]
    have zy:Zl (AS c s o=(GI s o.kd 6,s)/\dq c s o L=L):=Za ⟨iC hs6 YW,by unfold dq; rw [hs6]; rfl⟩;have d2:(u.st==2)=true:=by simp [h6.1]
    obtain rfl:f=0:=Ze;clear h6 hll hf HX0 HV HC hs6;exact Zhv
   ·go_upto_region 4 with (fail);go_cut [27] from 28 to 36 (fun s27 wx=>s27= .bool false/\Zl (Eg (N+2+1) w0 wx c a q (ZG (ZG (ZG Z N (Y5 b 49 (ZX o))) (N+1) (Y5 (b+1) 53 (Z9 Dd))) (N+2) (Y5 zb 68 (Zd u))) s L))
    case first=>
     by_cases h2:u.st=2
     ·have d2:(u.st==2)=true:=by simp [h2]
      have hfp:((f:Int)==0)=false:=Xl;clear h6 h2;go_wp2_with fail;refine HF.o.mono ?_;rintro e w2 ⟨rfl,m,rfl⟩;have Hj:=Za (HE.o.drewN m);go_wp2_with fail;go_meet;exact ⟨rfl,Hj⟩
     ·have d2:(u.st==2)=false:=by simp [h2]
      go_wp2_with fail;go_meet;exact ⟨rfl,HE⟩
    case rest=>
     obtain ⟨rfl,Hj⟩:=hcut;clear HF HE y1;generalize wc=W2 at*;have NH: ∃r2 cd am,(DZ u s.ep c).2=r2/\(DZ u s.ep c).1=cd/\vj u s.ep c=am:=⟨_,_,_,rfl,rfl,rfl⟩;obtain ⟨r2,cd,am,NH,hcd,ham⟩:=NH;have HSl:Zl (∀wx,Z3 128 #[.agg (Zd u),.int .i64 s.ep,.agg (Zi c)] wx (.tuple #[.agg (Zd r2),.int .u64 am,.int .i64 cd])):=Za (fun wx=>by
      have h0:=nW s.ep wx (HC.o.2.1.fits u (Xi HV.o.2.1)) HC.o.1.gc;unfold Sc at h0;rw [NH,hcd,ham] at h0;exact h0)
     have zJ:Zl (IA c s o.ix=cd):=Za (by rw [HX0.o,if_neg Ze,hcd]);have HR:=Za (Zn NH (Zn hcd ham));have HF6:Zl (u.st=2->(s.F.length:Int)< c 1):=Za (fun e=>by omega);clear NH hcd ham h6 hll hf HX0;go_upto_region 6 with (fail);go_cut [7,8,9] from 40 to 53 (fun s7 s8 s9 wx=> ∃zs:Nat,s7= .pointer (some ⟨zs,0,none⟩)/\s8= .int .u64 am/\s9= .int .i64 cd/\Zl (Eg (N+2+1+1) w0 wx c a q (ZG (ZG (ZG (ZG Z N (Y5 b 49 (ZX o))) (N+1) (Y5 (b+1) 53 (Z9 Dd))) (N+2) (Y5 zb 68 (Zd u))) (N+3) (Y5 zs 68 (Zd r2))) s L))
     case first=>
      refine Ra (fun w'=>Eg (N+2+1) w0 w' c a q (ZG (ZG (ZG Z N (Y5 b 49 (ZX o))) (N+1) (Y5 (b+1) 53 (Z9 Dd))) (N+2) (Y5 zb 68 (Zd u))) s L) 10 [0,1,2,3,5,6,7,8] (?_) ?_
      ·exact Hj.o.drew
      refine JL ?_;show wpQuiet _ _ _ _ [_,_,_,_,_,_,_,_] _;refine QP 68 _ zb 68 (Zd u) _ rfl rfl rfl (fun w h=>VE (r:=N+2) h ZO Ze Zq) underlying68 rfl Yb ?_;refine X5 ?_;iterate 6 (go_big_quiet_step ((intros; rfl)))
      refine Zeg ?_;refine XK ?_;have HX:=Za Hj.o.drew;clear Hj;generalize W2.drew=V0 at*;refine Vh (i:=4) (k:=14) ZC ZE ZE ?_ ?_
      ·refine JC #[.pointer (some ⟨q.e,20,none⟩)] call42 ((GG HX.o HT.o.b0 HT.o.b1 HT.o.l HT.o.q).mono ?_);rintro e w4 ⟨rfl,m4,rfl⟩;replace HX:=Za (HX.o.drewN m4);refine ⟨_,rfl,HX.o,?_⟩;generalize V0.drewN m4=V1 at*;refine Q3 ?_;refine Vh (i:=9) (k:=14) ZC ZE ZE ?_ ?_
       ·refine JC #[.agg (Zd u),.int .i64 s.ep,.agg (Zi c)] call128 ((HSl.o _).mono ?_);rintro e w5 ⟨rfl,hb5⟩;replace HX:=Za (HX.o.below hb5);refine ⟨_,rfl,HX.o,?_⟩;clear hb5;refine Q3 ?_;refine Mj (fun w'=>Eg (N+2+1) w0 w' c a q (ZG (ZG (ZG Z N (Y5 b 49 (ZX o))) (N+1) (Y5 (b+1) 53 (Z9 Dd))) (N+2) (Y5 zb 68 (Zd u))) s L) (m:=8) (f:=4) [10,11,12,13] (?_) ?_
        ·exact HX.o
        refine JL ?_;refine He ?_;refine Bi ?_;refine XK ?_;refine Jg (i:=14) ?_;refine Yz rfl rfl (Kc rfl ?_);replace HX:=Za (Eg.box HX.o (Zd ZS) 68);refine ⟨HX.o.drop ZO,?_⟩;generalize w5.heap.size=zs at*;generalize w5.alloc (.cells (Zd ZS) 68)=V3 at*;refine Q3 ?_;refine Jg (i:=15) ?_;have hB:=HX.o.blkAt (r:=N+2+1) ZO Ze Zq;refine Yz rfl rfl (wp_store_row _ _ _ rfl zs (Zd r2) rfl rfl 68 _ hB Yb rfl (Ys _) ?_);have h7:=HX.o.setr (r:=N+2+1) ZO Ze Zq (cs':=Zd r2) (Zu.setRow hB _) (Zx.setRow (S:=fun i=>i=zs) (Zx.refl _ _) (.inl rfl) _);rw [Xx] at h7;have h8:=h7.drop ZO;refine ⟨h8,?_⟩;clear HX hB;generalize V3.setRow zs (Zd r2)=w7 at*;exact Zbz
       ·refine Yz rfl rfl (Kc rfl ?_);replace HX:=Za (Eg.box HX.o (Zd ZS) 68);refine ⟨HX.o.drop ZO,?_⟩;generalize V1.heap.size=zs at*;generalize V1.alloc (.cells (Zd ZS) 68)=V2 at*;exact zT9
      ·refine Yz rfl rfl (Kc rfl ?_);replace HX:=Za (Eg.box HX.o (Zd ZS) 68);refine ⟨HX.o.drop ZO,?_⟩;generalize V0.heap.size=zs at*;generalize V0.alloc (.cells (Zd ZS) 68)=V1 at*;refine Q3 ?_;refine Jg (i:=4) ?_;refine JC #[.pointer (some ⟨q.e,20,none⟩)] call42 ((GG HX.o HT.o.b0 HT.o.b1 HT.o.l HT.o.q).mono ?_);rintro e w4 ⟨rfl,m4,rfl⟩;replace HX:=Za (HX.o.drewN m4);refine ⟨_,rfl,HX.o.drop ZO,?_⟩;generalize V1.drewN m4=V2 at*;exact zT9
     case rest=>
      obtain ⟨zs,rfl,rfl,rfl,M7⟩:=hcut;clear HSl Hj
      by_cases h0:cd=0
      ·subst h0;have d0:((0:Int) != 0)=false:=rfl;have Wp:Zl (Of N w0 wc c a q Z s L b o):=Za ((M7.o.drop ZO).drop ZO);have k1:=Of.k1 Wp.o HN.o;have I3:=Za (M7.o.blkAt (r:=N+3) ZO Ze Zq);have hu:=HC.o.2.1.fits u (Xi HV.o.2.1);have hsb:=AT (v:=u) s.ep c HR.o.2.1;rw [HR.o.1,HR.o.2.2] at hsb;have Bo:=TO (v:=u) (e:=s.ep) (c:=c) hu HR.o.2.1;rw [HR.o.1] at Bo;have ham:0<=am:=by
        have h1:=L8 c hu;have h2:=HR.o.2.2;unfold vj at h2;rw [if_pos HR.o.2.1] at h2;omega
       have hr2b:=(bounds_u64 Bo.1).1;have hbt:=lD HC.o.2.1.fits HV.o.2.1;have bT:=HC.o.2.1.total HC.o.1;have MJ:=HC.o.2.1.sum;have HBu:Zl (∀m,Zv Zb 129 #[.pointer (some ⟨q.e,21,none⟩),.int .i64 o.ix,.agg (Zd r2),.int .u64 am] (wc.drewN m) fun e w'=>e= .returned (.tuple #[])/\Eg (N+2+1+1) w0 w' c a q (ZG (ZG (ZG (ZG Z N (Y5 b 49 (ZX o))) (N+1) (Y5 (b+1) 53 (Z9 Dd))) (N+2) (Y5 zb 68 (Zd u))) (N+3) (Y5 zs 68 (Zd r2))) { s with V:=s.V.set n r2,B:=s.B+am} L):=Za (fun m=>by
        have:=ZfZ (M7.o.drewN m) HV.o.2.1 Bo Ze (Inv.fits06 HC.o.1 HC.o.2.1) ham (x:=am) Ze;rw [<-HV.o.1] at this;exact this)
       have hS:LA c s o.ix= { s with V:=s.V.set n r2,B:=s.B+am,F:=if u.st=2 then s.F++[o.ix] else s.F}:=by
        unfold LA;rw [HV.o.2.2,HR.o.1,HR.o.2.2,HV.o.1];rfl
       have HS:=Za hS;have oF:Zl (AS c s o=(F8 s o.kd o.ix (-1),LA c s o.ix)/\dq c s o L=L++yM c s o.ix):=Za ⟨yN zJ.o,by unfold dq; rw [if_pos zJ.o]⟩;have HT2:Zl (Tm c (LA c s o.ix)):=Za ⟨HT.o.b0,HT.o.b1,HT.o.l,HT.o.q⟩;clear hu hsb Bo ham hr2b hbt bT MJ hS Wp M7;go_wp2_with fail;refine GL 7 ?_;refine GM ?_;refine Pv ?_;refine QP 68 _ zs 68 (Zd r2) _ rfl rfl rfl (fun w' h=>by obtain ⟨m,rfl⟩:=h; exact I3.o) underlying68 rfl Yb ?_;refine X5 ?_;refine Gz ?_;refine XK ?_;intro _ Jq;obtain ⟨nr,Y9⟩:=Jq;subst Y9;clear I3 k1;go_wp2_with fail;refine (HBu.o nr).mono ?_;rintro e w4 ⟨rfl,h4⟩;have Rh:=Za h4;clear h4 HBu;have Ri:Zl (Of N w0 w4 c a q Z { s with V:=s.V.set n r2,B:=s.B+am} L b o):=Za ((Rh.o.drop ZO).drop ZO);have y1:w4.cell? ⟨zb,1,none⟩=some (.int .i64 u.st):=(Rh.o.blkAt (r:=N+2) ZO Ze Ut).cell 1;have k1:=Of.k1 Ri.o HN.o
       by_cases h2:u.st=2
       ·have d2:(u.st==2)=true:=by simp [h2]
        have x24:=Eg.x24 Rh.o;have mH:dq c s o L=L:=by rw [oF.o.2]; unfold yM; rw [HV.o.2.2,if_neg Ze,XM]
        have Wx:Zl (AS c s o=(F8 s o.kd o.ix (-1),LA c s o.ix)/\dq c s o L=L):=Za ⟨oF.o.1,mH⟩;have Oo:Zl (LA c s o.ix= { s with V:=s.V.set n r2,B:=s.B+am,F:=s.F++[o.ix]}):=Za (by rw [HS.o,if_pos h2]);have uO:=Za (HF6.o h2);clear mH h2 HS HF6 oF Rh;go_wp2_with fail;refine GL 7 ?_;refine GM ?_;refine I1 ?_;refine XK ?_;intro _ Jq;obtain ⟨nr,Y9⟩:=Jq;subst Y9;clear k1 x24 y1;have WY:Zl (Zv Zb 130 #[.pointer (some ⟨a.n,0,none⟩),.int .i64 0,.int .i64 o.ix] (w4.drewN nr) fun e w'=>(∃r,e= .returned (.int .i64 r))/\Of N w0 w' c a q Z (LA c s o.ix) L b o):=Za (by
         have hx:=Eg.drewN Ri.o nr;obtain ⟨X,hX,VV,hh,hK,_⟩:=Eg.open hx;refine (hh.lpush hX VV 0 o.ix).mono fun e w' ⟨he,h1⟩=>⟨⟨_,he⟩,?_⟩
         have h2:=hK _ _ _ h1 rfl rfl;have e1:FR (c 1).toNat s.F 0 o.ix=s.F++[o.ix]:=if_pos ⟨rfl,by have:=uO.o; omega⟩;have e2:FT (c 1).toNat s.W 0 o.ix=s.W:=if_neg ZE;rw [Oo.o];simp only [e1,e2] at h2;exact h2)
        clear Ri;go_wp2_with fail;refine WY.o.mono ?_;rintro e w13 ⟨⟨r13,rfl⟩,fA⟩;have HD:=Za fA;have HE:=Wx;clear fA WY Wx Oo HV HC uO HR zJ;exact jm
       ·have d2:(u.st==2)=false:=by simp [h2]
        have Oo:Zl (LA c s o.ix= { s with V:=s.V.set n r2,B:=s.B+am}):=Za (by rw [HS.o,if_neg h2]);clear HS
        by_cases h5:u.st=5
        ·have d5:(u.st==5)=true:=by simp [h5]
         have mH:dq c s o L=L++[(r2.wd,o.ix)]:=by rw [oF.o.2]; unfold yM; rw [HV.o.2.2,if_pos h5,HR.o.1]
         have Wx:Zl (AS c s o=(F8 s o.kd o.ix (-1),LA c s o.ix)/\dq c s o L=L++[(r2.wd,o.ix)]):=Za ⟨oF.o.1,mH⟩;have hvk:=HC.o.2.1.vok u (Xi HV.o.2.1);have hsi:=LD (v:=u) (e:=s.ep) (c:=c) HR.o.2.1;have Aw:r2.wd=max u.wd (s.ep+c 11):=by rw [<-HR.o.1]; exact hsi.2.2.2.1
         have hw5:=hvk.s5 h5;have bJ:=HC.o.2.1.ep0;have xj:=HC.o.2.1.ep1;have he2:=HC.o.2.1.bk1;have fG:=HC.o.2.2.1;have Rt:=HC.o.1.gc.sd0;have bR:=HC.o.1.gc.sd1;have zA:Zl (∀m,Zv Zb 131 #[.pointer (some ⟨q.e,24,none⟩),.int .i64 o.ix,.agg (Zd r2)] (w4.drewN m) fun e w'=>e= .returned (.tuple #[])/\Of N w0 w' c a q Z (LA c s o.ix) (L++[(r2.wd,o.ix)]) b o):=Za (fun m=>by
          have:=p8 (Eg.drewN Ri.o m) (i:=o.ix) (v:=r2) Ze Ze HC.o.2.2.2.2;rw [Oo.o];exact this)
         have HB4:=Za (Rh.o.blkAt (r:=N+3) ZO Ze Zq);clear mH hvk hsi Aw hw5 bJ xj he2 fG Rt bR Oo oF Rh Ri h5 h2;go_wp2_with fail;refine GL 6 ?_;refine GM ?_;refine Pv ?_;refine QP 68 _ zs 68 (Zd r2) _ rfl rfl rfl (fun w' h=>by obtain ⟨m,rfl⟩:=h; exact HB4.o) underlying68 rfl Yb ?_;refine X5 ?_;refine XK ?_;intro _ Jq;obtain ⟨nr,Y9⟩:=Jq;subst Y9;clear k1 y1 HB4;go_wp2_with fail;refine (zA.o nr).mono ?_;rintro e w13 ⟨rfl,fA⟩;have HD:=Za fA;have HE:=Wx;clear fA zA Wx HV HC HR zJ HF6;exact jm
        ·have d5:(u.st==5)=false:=by simp [h5]
         have mH:dq c s o L=L:=by rw [oF.o.2]; unfold yM; rw [HV.o.2.2,if_neg h5,XM]
         have Wx:Zl (AS c s o=(F8 s o.kd o.ix (-1),LA c s o.ix)/\dq c s o L=L):=Za ⟨oF.o.1,mH⟩;have HD:Zl (Of N w0 w4 c a q Z (LA c s o.ix) L b o):=Za (by rw [Oo.o]; exact Ri.o);clear mH Oo oF Rh Ri h5 h2;have HE:=Wx;clear Wx HV HC HR zJ HF6;exact jm
      ·have dk:(cd != 0)=true:=by simp [h0]
       have Wx:Zl (AS c s o=(GI s o.kd cd,s)/\dq c s o L=L):=Za ⟨iC zJ.o h0,by unfold dq; rw [zJ.o,if_neg h0]⟩;have HD:Zl (Of N w0 wc c a q Z s L b o):=Za ((M7.o.drop ZO).drop ZO);have HE:=Wx;clear Wx HV HC HR zJ HF6 M7 h0;exact Om
end
end
section
open Go Go.RowKit Go.Deep
section
variable {N:Nat} {w0:Fb} {w w' w1:Zc} {c:Nat->Int} {a:Pl} {q:Ql} {Z:Nat->Zc->(Nat->Prop)->Prop} {s s':Sg} {L L':List QW} {k:Nat}
theorem pP {o:Oq}{kk:Int}(h:uV c s (o.ix,o.tg)=kk)(hk:kk≠0) :eO c s o=(GI s o.kd kk,s):=by unfold eO; rw [h,if_neg hk]
theorem wu {o:Oq}(h:uV c s (o.ix,o.tg)=0) :eO c s o=(F8 s o.kd o.ix (-1),{ s with mg:=s.mg++[(o.ix,o.tg)]}):=by unfold eO; rw [if_pos h]
theorem sc {o:Oq}{kk:Int}(h:xV c s ⟨o.ix,o.am⟩=kk)(hk:kk≠0) :gJ c s o=(GI s o.kd kk,s):=by unfold gJ; rw [h,if_neg hk]
theorem xW {o:Oq}(h:xV c s ⟨o.ix,o.am⟩=0) :gJ c s o=(F8 s o.kd o.ix (-1),{ s with pt:=s.pt++[⟨o.ix,o.am⟩]}):=by unfold gJ; rw [if_pos h]
theorem Eg.all (h:Eg N w0 w c a q Z s L) :Zv Zb 43 #[.pointer (some ⟨a.r,0,none⟩)] w fun e w'=> ∃v,e= .returned v/\Eg (N+1) w0 w' c a q (ZG Z N (YI 68 7 v s.V.length (Xz s.V))) s L/\Below w.heap.size w w':=by
 obtain ⟨X,hX,VV,hh,_,hK,_⟩:=h.open;refine (hh.all hX VV).mono fun e w' ⟨v,he,h1,h2⟩=>⟨v,he,hK _ _ _ _ h1 Q5 rfl rfl,h2⟩
theorem Eg.lst (h:Eg N w0 w c a q Z s L){r:Nat}(UT:11<=r)(hr:r < N){v:Value}{V:List ZN}(hx:Z r=YI 68 7 v V.length (Xz V)) : ∃b cp,v= .slice b V.length cp/\DH w (fun _=>False) b V:=by
 have ho:=h.row UT hr hx;obtain ⟨b,cp,rfl,_⟩:=Um ho;exact ⟨b,cp,rfl,EK ho (fun _ _ h=>h)⟩
theorem CD (hc:GE c)(hi:Inv c k s)(hk:k<=1000000)(h:Eg N w0 w c a q Z s L)(o:Oq)(ho:GB o) :Zv Zb 88 #[.pointer (some ⟨q.e,0,none⟩),.agg (ZX o)] w (vH N w0 c a q Z (eO c s o) L):=by
 have hN:=h.low;have hO:=Ds h o;have HT:=Za (hi.tm hc hk);have HN:=Za hN;have HC:=Za (Zn hc (Zn hi (Zn hk ho)));clear hc hi hk ho hN h;go_enter func88,ntmps88;go_upto_region 1 with (fail);generalize hW:(w.alloc (.cells (ZX o) 49)).alloc (.cells _ 53)=W;have eW:(w.alloc (.cells (ZX o) 49)).alloc (.cells (Z9 Dd) 53)=W:=hW;rw [eW] at hO;generalize w.heap.size=b at*;have HO:=Za hO;clear hW eW hO;obtain ⟨kk,qZ⟩:=ZT (DK s.V (o.ix,o.tg) (c 6));have HK:=Za qZ;clear qZ;refine Ra (fun w'=>Of N w0 w' c a q Z s L b o) 3 [0,1,2,3,4,6,7,8,9,10,11,12,13] (?_) ?_
 ·exact KX HO.o
 refine JL ?_;show wpQuiet _ _ _ _ [_,_,_,_,_,_,_,_,_,_,_,_,_] _;refine Bi ?_;refine tF ?_;refine X5 ?_;refine Gz ?_;refine Vk _ ⟨b,1,none⟩ (.int .i64 o.ix) (fun w h=>Of.k1 h HN.o) ?_;refine X5 ?_;refine Gz ?_;refine Vk _ ⟨b,2,none⟩ (.int .i64 o.tg) (fun w h=>Of.k2 h HN.o) ?_;refine X5 ?_;refine DL ?_;refine Zeg ?_;refine XK ?_;have Wo:Zl (Of N w0 W.drew c a q Z s L b o):=Za (KX HO.o);clear HO;generalize W.drew=V at*;refine DM ?_;refine JC #[.pointer (some ⟨a.r,0,none⟩)] call43 ((Eg.all Wo.o).mono ?_);rintro e w2 ⟨v,rfl,h2,GN⟩;have Ox:Zl (Of N w0 w2 c a q Z s L b o):=Za (Eg.below Wo.o GN);have HRq:Zl (Z3 132 #[v,.int .i64 o.ix,.int .i64 o.tg,.agg (Zi c)] w2 (.int .i64 kk)):=Za (by
  obtain ⟨ab,cp,rfl,hl⟩:=h2.lst (r:=N+2) ZO Ze Zq;have:=Dw (fun _=>False) ab s.V cp (o.ix,o.tg) c w2 hl HC.o.2.1.fits;rw [HK.o] at this;exact this)
 refine ⟨_,rfl,Ox.o,?_⟩;clear h2 GN Wo;refine Jg (i:=14) ?_;refine Q3 ?_;refine JC #[v,.int .i64 o.ix,.int .i64 o.tg,.agg (Zi c)] call132 ((HRq.o).mono ?_);rintro e w3 ⟨rfl,hb3⟩;have Wp:Zl (Of N w0 w3 c a q Z s L b o):=Za (Eg.below Ox.o hb3);refine ⟨_,rfl,Wp.o,?_⟩;clear HRq Ox hb3;refine Q3 ?_;refine Mj (fun w'=>Of N w0 w' c a q Z s L b o) (m:=1) (f:=0) [15] (?_) ?_
 ·exact Wp.o
 refine JL ?_;refine Hf ?_;refine Gz ?_;refine XK ?_;refine ⟨by kernel_rfl,Yu ?_⟩;refine Q3 ?_
 by_cases h0:kk=0
 ·subst h0;have d0:((0:Int) != 0)=false:=rfl;go_wp2_with fail
  by_cases h6:c 1<=(s.mg.length:Int)
  ·have HE:Zl (eO c s o=(GI s o.kd 6,s)):=Za (pP (by unfold uV; rw [HK.o,if_neg ZE,if_pos h6]) YW);have WY:Zl (∀wx,Of N w0 wx c a q Z s L b o->Zv Zb 133 #[.pointer (some ⟨q.d,0,none⟩),.slice (some ⟨wx.heap.size,0,none⟩) 1 1] (wx.alloc (.cells (Yx (o.ix,o.tg)) 116)) fun e w'=>e= .returned (.int .i64 0)/\Of N w0 w' c a q Z s L b o):=Za (fun wx hx=>Eg.mfull hx (o.ix,o.tg) h6);clear h6 HC HK;refine Ra (fun w'=>Zu w' q.e 102 (Uh c a q)/\Zu w' b 49 (ZX o)) 3 [0,1,2,3,4,5,6,7,8,9] (?_) ?_
   ·exact Zbu
   refine JL ?_;refine jk ?_;refine Bi ?_;refine Zej ?_;refine X5 ?_;refine Gz ?_;refine Vk _ ⟨b,1,none⟩ (.int .i64 o.ix) (fun w h=>h.2.cell 1) ?_;refine X5 ?_;refine Gz ?_;refine Vk _ ⟨b,2,none⟩ (.int .i64 o.tg) (fun w h=>h.2.cell 2) ?_;refine X5 ?_;refine Gz ?_;refine XK ?_;have Ri:Zl (Of N w0 w3.drew c a q Z s L b o):=Za (KX Wp.o);clear Wp;generalize w3.drew=V4 at*;refine Jg (i:=10) ?_;refine Yz rfl rfl (Jl 25 116 _ (.agg #[.int .i64 0,.int .i64 0]) (.int .i64 o.ix) (.int .i64 o.tg) rfl rfl underlying25 ZC ?_);refine ⟨⟨(Eg.blk Ri.o).alloc _,(Of.op Ri.o HN.o).alloc _⟩,?_⟩;refine Jg (i:=11) ?_;refine Q3 ?_;refine JC #[.pointer (some ⟨q.d,0,none⟩),.slice (some ⟨V4.heap.size,0,none⟩) 1 1] call133 ((WY.o V4 Ri.o).mono ?_);rintro e w5 ⟨rfl,h5⟩;refine ⟨_,rfl,⟨Eg.blk h5,Of.op h5 HN.o⟩,?_⟩;have HD:=Za h5;clear h5 WY Ri;refine Q3 ?_;refine Mj (fun w'=>Zu w' q.e 102 (Uh c a q)/\Zu w' b 49 (ZX o)) (m:=1) (f:=0) [12] (?_) ?_
   ·exact ⟨Eg.blk HD.o,Of.op HD.o HN.o⟩
   refine JL ?_;refine Hf ?_;refine Gz ?_;refine XK ?_;refine ⟨by kernel_rfl,Yu ?_⟩;refine Q3 ?_;exact Om
  ·have HE:Zl (eO c s o=(F8 s o.kd o.ix (-1),{ s with mg:=s.mg++[(o.ix,o.tg)]})):=Za (wu (by unfold uV; rw [HK.o,if_neg ZE,if_neg h6]));have WY:Zl (∀wx,Of N w0 wx c a q Z s L b o->Zv Zb 133 #[.pointer (some ⟨q.d,0,none⟩),.slice (some ⟨wx.heap.size,0,none⟩) 1 1] (wx.alloc (.cells (Yx (o.ix,o.tg)) 116)) fun e w'=>e= .returned (.int .i64 1)/\Of N w0 w' c a q Z { s with mg:=s.mg++[(o.ix,o.tg)]} L b o):=Za (fun wx hx=>Eg.mpush hx (o.ix,o.tg) Ze);have HT2:Zl (Tm c { s with mg:=s.mg++[(o.ix,o.tg)]}):=Za ⟨HT.o.b0,HT.o.b1,HT.o.l,HT.o.q⟩;clear h6 HC HK;refine Ra (fun w'=>Zu w' q.e 102 (Uh c a q)/\Zu w' b 49 (ZX o)) 3 [0,1,2,3,4,5,6,7,8,9] (?_) ?_
   ·exact Zbu
   refine JL ?_;refine jk ?_;refine Bi ?_;refine Zej ?_;refine X5 ?_;refine Gz ?_;refine Vk _ ⟨b,1,none⟩ (.int .i64 o.ix) (fun w h=>h.2.cell 1) ?_;refine X5 ?_;refine Gz ?_;refine Vk _ ⟨b,2,none⟩ (.int .i64 o.tg) (fun w h=>h.2.cell 2) ?_;refine X5 ?_;refine Gz ?_;refine XK ?_;have Ri:Zl (Of N w0 w3.drew c a q Z s L b o):=Za (KX Wp.o);clear Wp;generalize w3.drew=V4 at*;refine Jg (i:=10) ?_;refine Yz rfl rfl (Jl 25 116 _ (.agg #[.int .i64 0,.int .i64 0]) (.int .i64 o.ix) (.int .i64 o.tg) rfl rfl underlying25 ZC ?_);refine ⟨⟨(Eg.blk Ri.o).alloc _,(Of.op Ri.o HN.o).alloc _⟩,?_⟩;refine Jg (i:=11) ?_;refine Q3 ?_;refine JC #[.pointer (some ⟨q.d,0,none⟩),.slice (some ⟨V4.heap.size,0,none⟩) 1 1] call133 ((WY.o V4 Ri.o).mono ?_);rintro e w5 ⟨rfl,h5⟩;refine ⟨_,rfl,⟨Eg.blk h5,Of.op h5 HN.o⟩,?_⟩;have HD:=Za h5;clear h5 WY Ri;refine Q3 ?_;refine Mj (fun w'=>Zu w' q.e 102 (Uh c a q)/\Zu w' b 49 (ZX o)) (m:=1) (f:=0) [12] (?_) ?_
   ·exact ⟨Eg.blk HD.o,Of.op HD.o HN.o⟩
   refine JL ?_;refine Hf ?_;refine Gz ?_;refine XK ?_;refine ⟨by kernel_rfl,Yu ?_⟩;refine Q3 ?_;exact jm
 ·have HE:Zl (eO c s o=(GI s o.kd kk,s)):=Za (pP (by unfold uV; rw [HK.o,if_pos h0]) h0);have d0:(kk != 0)=true:=by simp [h0]
  clear HC HK h0;have HD:=Wp;clear Wp;exact Om
end
end
section
open Go Go.RowKit Go.Deep
section
variable {N:Nat} {w0:Fb} {w w' w1:Zc} {c:Nat->Int} {a:Pl} {q:Ql} {Z:Nat->Zc->(Nat->Prop)->Prop} {s s':Sg} {L L':List QW} {k:Nat}
theorem l9 (hc:GE c)(hi:Inv c k s)(hk:k<=1000000)(h:Eg N w0 w c a q Z s L)(o:Oq)(ho:GB o) :Zv Zb 89 #[.pointer (some ⟨q.e,0,none⟩),.agg (ZX o)] w (vH N w0 c a q Z (gJ c s o) L):=by
 have hN:=h.low;have hO:=Ds h o;have HT:=Za (hi.tm hc hk);have HN:=Za hN;have HC:=Za (Zn hc (Zn hi (Zn hk ho)));clear hc hi hk ho hN h;go_enter func89,ntmps89;go_upto_region 1 with (fail);generalize hW:(w.alloc (.cells (ZX o) 49)).alloc (.cells _ 53)=W;have eW:(w.alloc (.cells (ZX o) 49)).alloc (.cells (Z9 Dd) 53)=W:=hW;rw [eW] at hO;generalize w.heap.size=b at*;have HO:=Za hO;clear hW eW hO;obtain ⟨r,hr⟩ : ∃r:Rq,(⟨o.ix,o.am⟩ :Rq)=r:=⟨_,rfl⟩;have hrc: #[ZI .i64 o.ix,ZI .u64 o.am]=ZB r:=by rw [<-hr]; rfl
 obtain ⟨kk,qZ⟩:=ZT (OJ s.V r);have HK:=Za (Zn qZ hr);have k1:=Of.k1 HO.o HN.o;have k3:=Of.k3 HO.o HN.o;have HB:=Za (Eg.box HO.o (ZB r) 119);have HRC:=Za hrc;clear qZ hr hrc;go_wp2_with (first | (refine wpList_store_row rfl _ _ _ rfl W.heap.size (ZB r) rfl (by rw [<-HRC.o]; rfl) 119 _ (ZA W _) Jb rfl (Kf _) ?_; rw [Zr]));clear k1 k3 HO HRC;generalize W.heap.size=rb at*;generalize W.alloc (.cells (ZB r) 119)=W1 at*;refine Q3 ?_;refine Ra (fun w'=>Eg (N+2+1) w0 w' c a q (ZG (ZG (ZG Z N (Y5 b 49 (ZX o))) (N+1) (Y5 (b+1) 53 (Z9 Dd))) (N+2) (Y5 rb 119 (ZB r))) s L) 3 [0,1,2,3,4,6] (?_) ?_
 ·exact HB.o.drew
 refine JL ?_;refine I2 ?_;refine Bi ?_;refine tF ?_;refine X5 ?_;refine QP 119 _ rb 119 (ZB r) _ rfl rfl rfl (fun w h=>VE h (r:=N+2) ZO Ze Zq) underlying119 rfl Jb ?_;refine X5 ?_;refine XK ?_;have I4:=Za HB.o.drew;clear HB;generalize W1.drew=V at*;refine DM ?_;refine JC #[.pointer (some ⟨a.r,0,none⟩)] call43 ((Eg.all I4.o).mono ?_);rintro e w2 ⟨v,rfl,h2,GN⟩;have Hj:=Za (I4.o.below GN);have HRq:Zl (Z3 134 #[v,.agg (ZB r)] w2 (.int .i64 kk)):=Za (by
  obtain ⟨ab,cp,rfl,hl⟩:=h2.lst (r:=N+2+1) ZO Ze Zq;have:=CA (fun _=>False) ab cp s.V r w2 hl;rw [HK.o.1] at this;exact this)
 refine ⟨_,rfl,Hj.o,?_⟩;clear h2 GN I4;refine Jg (i:=7) ?_;refine Q3 ?_;refine JC #[v,.agg (ZB r)] call134 ((HRq.o).mono ?_);rintro e w3 ⟨rfl,hb3⟩;have M7:=Za (Hj.o.below hb3);refine ⟨_,rfl,M7.o,?_⟩;clear HRq Hj hb3;refine Q3 ?_;refine Mj (fun w'=>Eg (N+2+1) w0 w' c a q (ZG (ZG (ZG Z N (Y5 b 49 (ZX o))) (N+1) (Y5 (b+1) 53 (Z9 Dd))) (N+2) (Y5 rb 119 (ZB r))) s L) (m:=1) (f:=0) [8] (?_) ?_
 ·exact M7.o
 refine JL ?_;refine Hf ?_;refine Gz ?_;refine XK ?_;refine ⟨by kernel_rfl,Yu ?_⟩;refine Q3 ?_
 by_cases h0:kk=0
 ·subst h0;have d0:((0:Int) != 0)=false:=rfl;go_wp2_with fail
  by_cases h6:c 1<=(s.pt.length:Int)
  ·have HE:Zl (gJ c s o=(GI s o.kd 6,s)):=Za (sc (by unfold xV; rw [HK.o.2,HK.o.1,if_neg ZE,if_pos h6]) YW);have WY:Zl (∀wx,Eg (N+2+1) w0 wx c a q (ZG (ZG (ZG Z N (Y5 b 49 (ZX o))) (N+1) (Y5 (b+1) 53 (Z9 Dd))) (N+2) (Y5 rb 119 (ZB r))) s L->Zv Zb 135 #[.pointer (some ⟨q.q,0,none⟩),.slice (some ⟨wx.heap.size,0,none⟩) 1 1] (wx.alloc (.cells (ZB r) 119)) fun e w'=>e= .returned (.int .i64 0)/\Eg (N+2+1) w0 w' c a q (ZG (ZG (ZG Z N (Y5 b 49 (ZX o))) (N+1) (Y5 (b+1) 53 (Z9 Dd))) (N+2) (Y5 rb 119 (ZB r))) s L):=Za (fun wx hx=>Eg.tfull hx r h6);clear h6 HC HK;refine Ra (fun w'=>Zu w' q.e 102 (Uh c a q)/\Zu w' rb 119 (ZB r)) 3 [0,1,2,3,4,5] (?_) ?_
   ·exact ZaK
   refine JL ?_;refine I2 ?_;refine Bi ?_;refine Zei ?_;refine X5 ?_;refine QP 119 _ rb 119 (ZB r) _ rfl rfl rfl (fun w h=>h.2) underlying119 rfl Jb ?_;refine X5 ?_;refine XK ?_;have Rh:=Za M7.o.drew;clear M7;generalize w3.drew=V4 at*;refine Mo ?_;refine Yz rfl rfl (Jl 26 119 _ (.agg #[.int .i64 0,.int .u64 0]) (.int .i64 r.ix) (.int .u64 r.am) rfl rfl underlying26 ZC ?_);refine ⟨⟨Rh.o.blk.alloc _,(Rh.o.blkAt (r:=N+2) ZO Ze Zq).alloc _⟩,?_⟩;refine Jg (i:=7) ?_;refine Q3 ?_;refine JC #[.pointer (some ⟨q.q,0,none⟩),.slice (some ⟨V4.heap.size,0,none⟩) 1 1] call135 ((WY.o V4 Rh.o).mono ?_);rintro e w5 ⟨rfl,h5⟩;refine ⟨_,rfl,⟨Eg.blk h5,VE h5 (r:=N+2) ZO Ze Zq⟩,?_⟩;have Ck:=Za h5;clear h5 WY Rh;refine Q3 ?_;refine Mj (fun w'=>Zu w' q.e 102 (Uh c a q)/\Zu w' rb 119 (ZB r)) (m:=1) (f:=0) [8] (?_) ?_
   ·exact ZaS
   refine JL ?_;refine Hf ?_;refine Gz ?_;refine XK ?_;refine ⟨by kernel_rfl,Yu ?_⟩;refine Q3 ?_;have HD:Zl (Of N w0 w5 c a q Z s L b o):=Za (Ck.o.drop ZO);clear Ck;exact Om
  ·have HE:Zl (gJ c s o=(F8 s o.kd o.ix (-1),{ s with pt:=s.pt++[r]})):=Za (by rw [<-HK.o.2]; exact xW (by unfold xV; rw [HK.o.2,HK.o.1,if_neg ZE,if_neg h6]));have WY:Zl (∀wx,Eg (N+2+1) w0 wx c a q (ZG (ZG (ZG Z N (Y5 b 49 (ZX o))) (N+1) (Y5 (b+1) 53 (Z9 Dd))) (N+2) (Y5 rb 119 (ZB r))) s L->Zv Zb 135 #[.pointer (some ⟨q.q,0,none⟩),.slice (some ⟨wx.heap.size,0,none⟩) 1 1] (wx.alloc (.cells (ZB r) 119)) fun e w'=>e= .returned (.int .i64 1)/\Eg (N+2+1) w0 w' c a q (ZG (ZG (ZG Z N (Y5 b 49 (ZX o))) (N+1) (Y5 (b+1) 53 (Z9 Dd))) (N+2) (Y5 rb 119 (ZB r))) { s with pt:=s.pt++[r]} L):=Za (fun wx hx=>Eg.tpush hx r Ze);have HT2:Zl (Tm c { s with pt:=s.pt++[r]}):=Za ⟨HT.o.b0,HT.o.b1,HT.o.l,HT.o.q⟩;clear h6 HC HK;refine Ra (fun w'=>Zu w' q.e 102 (Uh c a q)/\Zu w' rb 119 (ZB r)) 3 [0,1,2,3,4,5] (?_) ?_
   ·exact ZaK
   refine JL ?_;refine I2 ?_;refine Bi ?_;refine Zei ?_;refine X5 ?_;refine QP 119 _ rb 119 (ZB r) _ rfl rfl rfl (fun w h=>h.2) underlying119 rfl Jb ?_;refine X5 ?_;refine XK ?_;have Rh:=Za M7.o.drew;clear M7;generalize w3.drew=V4 at*;refine Mo ?_;refine Yz rfl rfl (Jl 26 119 _ (.agg #[.int .i64 0,.int .u64 0]) (.int .i64 r.ix) (.int .u64 r.am) rfl rfl underlying26 ZC ?_);refine ⟨⟨Rh.o.blk.alloc _,(Rh.o.blkAt (r:=N+2) ZO Ze Zq).alloc _⟩,?_⟩;refine Jg (i:=7) ?_;refine Q3 ?_;refine JC #[.pointer (some ⟨q.q,0,none⟩),.slice (some ⟨V4.heap.size,0,none⟩) 1 1] call135 ((WY.o V4 Rh.o).mono ?_);rintro e w5 ⟨rfl,h5⟩;refine ⟨_,rfl,⟨Eg.blk h5,VE h5 (r:=N+2) ZO Ze Zq⟩,?_⟩;have Ck:=Za h5;clear h5 WY Rh;refine Q3 ?_;refine Mj (fun w'=>Zu w' q.e 102 (Uh c a q)/\Zu w' rb 119 (ZB r)) (m:=1) (f:=0) [8] (?_) ?_
   ·exact ZaS
   refine JL ?_;refine Hf ?_;refine Gz ?_;refine XK ?_;refine ⟨by kernel_rfl,Yu ?_⟩;refine Q3 ?_;have HD:Zl (Of N w0 w5 c a q Z { s with pt:=s.pt++[r]} L b o):=Za (Ck.o.drop ZO);clear Ck;exact jm
 ·have HE:Zl (gJ c s o=(GI s o.kd kk,s)):=Za (sc (by unfold xV; rw [HK.o.2,HK.o.1,if_pos h0]) h0);have d0:(kk != 0)=true:=by simp [h0]
  have HD:Zl (Of N w0 w3 c a q Z s L b o):=Za (M7.o.drop ZO);clear HC HK h0 M7;exact Om
end
end
section
open Go Go.RowKit Go.Deep
theorem Su (f:ZN->ZN) : ∀(A B:List Nat) (V:List ZN),Hg f V (A++B)=Hg f (Hg f V A) B
 | [],_,_=>rfl
 | i::A,B,V=>Su f A B _
theorem Ns {f:ZN->ZN}{V:List ZN}{F:List Nat}{k i:Nat}(hk:F[k]?=some i) :Hg f V (F.take (k+1))=(Hg f V (F.take k)).set i (f ((Hg f V (F.take k)).getD i ZS)):=by
 rw [Xs,hk,QL,Su]; rfl
theorem mW {F:List Nat}(hn:F.Nodup){k i:Nat}(hk:F[k]?=some i) :i ∉ F.take k:=fun h=>by
 have hd:F.drop k=i::F.drop (k+1):=List.drop_eq_getElem?_toList_append .. |>.trans (by rw [hk]; rfl);rw [<-List.take_append_drop k F,List.nodup_append] at hn;exact hn.2.2 i h i (by rw [hd]; simp) rfl
theorem Nr {f:ZN->ZN}{V:List ZN}{F:List Nat}(hn:F.Nodup)(hF: ∀i ∈ F,i < V.length){k i:Nat}(hk:F[k]?=some i) :(Hg f V (F.take k)).getD i ZS=V.getD i ZS:=by
 rw [eM f _ _ (hn.sublist (List.take_sublist _ _)) (fun j hj=>hF j (ZQ hj)),if_neg (mW hn hk)]
theorem Sw {f:ZN->ZN}(hf: ∀v,Yh v->Yh (f v)/\(f v).bal=v.bal) : ∀(F:List Nat) (V:List ZN),(∀v ∈ V,Yh v)->(∀i ∈ F,i < V.length)->Fa V (Hg f V F)
 | [],V,h,_=>Fa.refl h
 | i::F,V,h,hF=>by
  have hi:=hF i ZE;have hv:V[i]?=some (V.getD i ZS):=by rw [Zm,Zg hi]; rfl
  have h0:=hf _ (h _ (Xi hv));have h1:Fa V (V.set i (f (V.getD i ZS))):=(Fa.refl h).set hv h0.2 h0.1;have h2:=Sw hf F (V.set i (f (V.getD i ZS))) h1.2.2 (fun j hj=>by rw [Xj]; exact hF j LS);exact ⟨h2.1.trans h1.1,h2.2.1.trans h1.2.1,h2.2.2⟩
theorem TN {V:List ZN}{i:Nat}(h:i < V.length) :V.set i (V.getD i ZS)=V:=by
 rw [Zm,Zg h];exact List.set_getElem_self h
theorem mL (e:Int)(v:ZN)(h:Yh v) :Yh (Yt e v)/\(Yt e v).bal=v.bal:=by
 unfold Yt; split
 ·exact ⟨⟨h.1,rfl⟩,rfl⟩
 ·exact ⟨h,rfl⟩
theorem rM (e:Int)(v:ZN)(h:v.st≠3) :Yt e v=v:=if_neg fun hh=>h hh.1
theorem rL {e:Int}{v:ZN}(h:v.st=3)(he:v.ex=e) :Yt e v=M8 3 v:=by
 unfold Yt M8;rw [if_pos ⟨h,he⟩,h]; rfl
section
variable {N:Nat} {w0:Fb} {w w' w1:Zc} {c:Nat->Int} {a:Pl} {q:Ql} {Z:Nat->Zc->(Nat->Prop)->Prop} {s s':Sg} {L L':List QW} {k:Nat}
theorem qh (h:Eg N w0 w c a q Z s L){i:Nat}{ev:Int}(hev:(Lit.int .i64 ev).wf=true)(hi:i < s.V.length)(hf: ∀v ∈ s.V,Yh v)(ht:Zw s.V<=18446744073709551615) :
  Zv Zb 203 #[.pointer (some ⟨q.e,21,none⟩),.int .i64 ev,.slice (some ⟨w.heap.size,0,none⟩) 1 1] (w.alloc (.cells #[.int .i64 (i:Int)] 3)) fun e w'=>e= .returned (.tuple #[])/\Eg N w0 w' c a q Z { s with V:=s.V.set i (M8 ev (s.V.getD i ZS))} L:=by
 have hN:=h.low;have h1:=h.box #[.int .i64 (i:Int)] 3;have h2:=h1.torow (r:=N) (k:=1) (n:=1) (xs:= [.int .i64 (i:Int)]) hN Ze Zq rfl GU;rw [Xx] at h2;refine (zV h2 (r:=N) (I:= [(i:Int)]) hN Ze Zq hev (fun j hj=>?_) hf ht ZE).mono fun e w' ⟨he,h3⟩=>⟨he,h3.drop hN⟩
 rw [List.mem_singleton] at hj;exact ⟨i,hj,hi⟩
theorem Eg.get (h:Eg N w0 w c a q Z s L){n:Nat}(hn:n < s.V.length) :Z3 126 #[.pointer (some ⟨a.r,0,none⟩),.int .i64 (n:Int)] w (.tuple #[.agg (Zd (s.V.getD n ZS)),.bool true]):=by
 obtain ⟨X,hX,VV,hh,_⟩:=h.open;exact hh.get_in VV (by rw [Zm,Zg hn]; rfl)
theorem Zcm (h:Eg N w0 w c a q Z s L)(t:Tm c s)(hf: ∀v ∈ s.V,Yh v)(ht:Zw s.V<=18446744073709551615)(hl:s.V.length<=4096) :
  Zv Zb 198 #[.pointer (some ⟨q.e,0,none⟩)] w fun e w'=>e= .returned (.tuple #[])/\Eg N w0 w' c a q Z { s with V:=s.V.map (Yt s.ep)} L:=by
 have hN:=h.low;obtain ⟨F,hF⟩:=ZT (LM s.V 3 s.V.length);have HWi:=Za (zY h (st:=3) rfl Ze);rw [hF] at HWi;have hFn:F.Nodup:=by rw [<-hF]; exact Cb _ _ _
 have wW: ∀i ∈ F,i < s.V.length/\(s.V.getD i ZS).st=3:=fun i hi=>by rw [<-hF] at hi; exact NP.1 hi
 have PL:F.length<=4096:=by
  rw [<-hF]; unfold LM; exact Nat.le_trans (Qy _ _) IZ
 have Vx:Hg (Yt s.ep) s.V F=s.V.map (Yt s.ep):=by rw [<-hF]; exact wq _ _ _ (rM s.ep)
 have oV:Zl (∀k,Fa s.V (Hg (Yt s.ep) s.V (F.take k))):=Za fun k=>Sw (mL s.ep) _ _ hf fun i hi=>(wW i (ZQ hi)).1
 have HX:=Za (Zn hFn (Zn wW (Zn Vx (Zn ht t))));have HN:=Za hN;clear h hf ht hl hN hF hFn wW Vx t;go_enter func198,ntmps198;go_wp2_with fail;refine HWi.o.mono ?_;rintro e w2 ⟨v,rfl,h2,_⟩;obtain ⟨ia,cp,rfl⟩:=Xy (h2.row (r:=N) HN.o Ze Zq);obtain ⟨m,hm⟩:=ZT (F.length);have HM:=Za hm;rw [hm] at h2 PL;have H2:=Za h2;rw [hm];clear HWi h2 hm;go_wp2_with fail;go_loopw [11] (fun s11 wr=> ∃(k:Nat),k<=m/\s11= .int .i64 k/\Zl (Eg (N+1) w0 wr c a q (ZG Z N (YI 3 1 (.slice ia m cp) m (F.map LL))) { s with V:=Hg (Yt s.ep) s.V (F.take k)} L)) (fun s11 _=>m -(intOf s11).toNat)
 case atStart=>exact ⟨0,by omega,rfl,H2⟩
 case round=>
  obtain ⟨k,hk,rfl,HE⟩:=hrel
  by_cases XV:k < m
  ·obtain ⟨i,hi⟩ : ∃i,F[k]?=some i:=⟨_,Zg RW⟩;obtain ⟨g,rfl,hc⟩:=Iw (HE.o.row (r:=N) HN.o Ze Zq) (show (F.map LL)[k]?=some (.int .i64 (i:Int)) by rw [ZH,hi]; rfl);have DU:=Ns (f:=Yt s.ep) (V:=s.V) hi;have SW:=Nr (f:=Yt s.ep) HX.o.1 (fun j hj=>(HX.o.2.1 j hj).1) hi;have NG:=oV.o k;have Fo:=(HX.o.2.1 i (Zy hi)).1;have GR:=(HX.o.2.1 i (Zy hi)).2;obtain ⟨W,hW⟩:=ZT (Hg (Yt s.ep) s.V (F.take k));rw [hW] at HE DU SW NG;obtain ⟨u,hu⟩:=ZT (W.getD i ZS);rw [hu] at DU;rw [<-SW,hu] at GR;have oL:i < W.length:=by rw [NG.1]; exact Fo
   have y0:wr.cell? ⟨q.e,21,none⟩=some (.pointer (some ⟨a.r,0,none⟩)):=Eg.x21 HE.o;have HG:=Za (HE.o.get (n:=i) (show i < W.length from oL));rw [show ({ s with V:=W} :Sg).V.getD i ZS=u from hu] at HG;have HU:=Za (Zn oL (Zn GR (Zn NG (Zn DU hu))));clear hi DU SW NG Fo GR hW hu oL;go_wp2_with fail;refine HG.o.mono ?_;rintro e w3 ⟨rfl,hb⟩;have GN:Below wr.heap.size wr (w3.alloc (.cells (Zd u) 68)):=hb.alloc hb.size _;have E3:=Za (HE.o.below GN);have y4:(w3.alloc (.cells (Zd u) 68)).cell? ⟨w3.heap.size,4,none⟩=some (.int .i64 u.ex):=(Zu.new w3 68 (Zd u)).cell 4;clear hb GN HE HG y0;go_wp2_with (first | (refine UP w3.heap.size (Zd u) 68 (ZA w3 _) Yb (Ys _) ?_; rw [Zr]));generalize w3.heap.size=zb at*;generalize w3.alloc (.cells (Zd u) 68)=W3 at*;have vt:Zl (∀n,Xb 42 #[.pointer (some ⟨q.e,20,none⟩)] (W3.drewN n) (.int .i64 s.ep)):=Za fun n=>GG (s:= { s with V:=W}) (E3.o.drewN n) HX.o.2.2.2.2.b0 HX.o.2.2.2.2.b1 HX.o.2.2.2.2.l HX.o.2.2.2.2.q
   by_cases hex:u.ex=s.ep
   ·have d:(u.ex==s.ep)=true:=by simp [hex]
    go_quiet ((go_at_call 42; exact Qm (vt.o _)));have E4:=Za (E3.o.drewN nq);have oX:Zl (Zv Zb 203 #[.pointer (some ⟨q.e,21,none⟩),.int .i64 3,.slice (some ⟨(W3.drewN nq).heap.size,0,none⟩) 1 1] ((W3.drewN nq).alloc (.cells #[.int .i64 (i:Int)] 3)) fun e w'=>e= .returned (.tuple #[])/\Eg (N+1) w0 w' c a q (ZG Z N (YI 3 1 (.slice (some ⟨g,0,none⟩) m cp) m (F.map LL))) { s with V:=Hg (Yt s.ep) s.V (F.take (k+1))} L):=Za (by
     have NG:=HU.o.2.2.1;have:=qh E4.o (i:=i) (ev:=3) rfl HU.o.1 NG.2.2 kJ;refine this.mono fun e w' ⟨he,h5⟩=>⟨he,?_⟩
     rw [HU.o.2.2.2.1,rL HU.o.2.1 hex,<-HU.o.2.2.2.2];exact h5)
    clear E4 E3 y4 HU d;exact ZhP
   ·have d:(u.ex==s.ep)=false:=by simp [hex]
    go_quiet ((go_at_call 42; exact Qm (vt.o _)));have H6:Zl (Eg (N+1) w0 (W3.drewN nq) c a q (ZG Z N (YI 3 1 (.slice (some ⟨g,0,none⟩) m cp) m (F.map LL))) { s with V:=Hg (Yt s.ep) s.V (F.take (k+1))} L):=Za (by
     have e4:=E3.o.drewN nq;have e5:Hg (Yt s.ep) s.V (F.take (k+1))=W:=by
      rw [HU.o.2.2.2.1,show Yt s.ep u=u from if_neg fun hh=>hex hh.2,<-HU.o.2.2.2.2,TN HU.o.1]
     rw [e5]; exact e4)
    clear E3 y4 HU;generalize W3.drewN nq=W4 at*;exact tI
  ·obtain rfl:k=m:=Ze;clear XV;have XV: ¬k < k:=Ze;have H7:Zl (Eg N w0 wr c a q Z { s with V:=s.V.map (Yt s.ep)} L):=Za (by
    have:=HE.o;rw [Yp RV,HX.o.2.2.1] at this;exact this.drop HN.o)
   exact kV
end
end
section
open Go Go.RowKit Go.Deep
def Lu (e:Int)(v:ZN) :ZN:=if v.wd<=e then M8 4 v else v
theorem sD (e:Int)(v:ZN)(h:Yh v) :Yh (Lu e v)/\(Lu e v).bal=v.bal:=by
 unfold Lu; split
 ·exact ⟨SH h,rfl⟩
 ·exact ⟨h,rfl⟩
def WI (i:Nat) :Int:=(i:Int)
def jz (e:Int)(V:List ZN)(G:List Nat) :List QW:=(G.filter fun i=>decide (e < (V.getD i ZS).wd)).map fun i=>((V.getD i ZS).wd,(i:Int))
theorem sE (e:Int) : ∀(G:List Nat) (V:List ZN),(∀i ∈ G,i < V.length)->Pa e V (G.map WI)=Hg (Lu e) V G
 | [],_,_=>rfl
 | i::G,V,h=>by
  have hi:=h i ZE;rw [List.map_cons,Pa,Hg];have e1:(if(Vq V (WI i)).wd<=e then V.set (WI i).toNat (M8 4 (Vq V (WI i))) else V)=V.set i (Lu e (V.getD i ZS)):=by
   show (if(V.getD i ZS).wd<=e then V.set i (M8 4 (V.getD i ZS)) else V)=_;unfold Lu
   split
   ·rfl
   ·exact (TN hi).symm
  rw [e1];exact sE e G _ fun j hj=>by rw [Xj]; exact h j LS
theorem vW (e:Int)(V:List ZN)(G:List Nat) :aE e V (G.map WI)=jz e V G:=by
 unfold aE jz;rw [List.filter_map,KF];rfl
theorem pE {e:Int}{V:List ZN}{G:List Nat}{k i:Nat}(hk:G[k]?=some i) :jz e V (G.take (k+1))=jz e V (G.take k)++if e < (V.getD i ZS).wd then [((V.getD i ZS).wd,(i:Int))] else []:=by
 unfold jz;rw [Xs,hk,QL,List.filter_append,List.map_append]
 congr 1
 by_cases h:e < (V.getD i ZS).wd
 ·rw [if_pos h,JH,if_pos (decide_eq_true h)]; rfl
 ·rw [if_neg h,JH,if_neg (by rw [decide_eq_false h]; simp)]; rfl
theorem wh (e:Int)(V:List ZN)(G:List Nat) :(jz e V G).length<=G.length:=by
 unfold jz; rw [YG]; exact Qy _ _
section
variable {N:Nat} {w0:Fb} {w w' w1:Zc} {c:Nat->Int} {a:Pl} {q:Ql} {Z:Nat->Zc->(Nat->Prop)->Prop} {s s':Sg} {L L':List QW} {k:Nat}
theorem Eg.due (h:Eg N w0 w c a q Z s L){ep:Int}(h0:0<=ep)(h1:ep<=1099511627776)(hL:L.length<=100000) :
  Zv Zb 234 #[.pointer (some ⟨a.u,0,none⟩),.int .i64 ep] w fun e w'=> ∃v,e= .returned v/\Eg (N+1) w0 w' c a q (ZG Z N (YI 3 1 v (KS ep L).length ((KS ep L).map (ZI .i64)))) s (UO ep L):=by
 obtain ⟨X,hX,VV,hh,_,hK,_⟩:=h.open;refine (hh.due hX VV h0 h1 hL).mono fun e w' ⟨v,he,g1,_⟩=>⟨v,he,hK _ _ _ _ g1 Q5 rfl rfl⟩
theorem Zj5 (h:Eg N w0 w c a q Z s L)(t:Tm c s){F:List Nat}(hF:KS s.ep L=F.map WI)(hFn:F.Nodup)(wW: ∀i ∈ F,i < s.V.length)(hep:s.ep<=1099511627776)(bJ:0<=s.ep)(Aw: ∀v ∈ s.V,v.wd<=1099511627776)(CM:L.length<=90000)(hf: ∀v ∈ s.V,Yh v)(ht:Zw s.V<=18446744073709551615)(hl:s.V.length<=4096) :
  Zv Zb 199 #[.pointer (some ⟨q.e,0,none⟩)] w fun e w'=>e= .returned (.tuple #[])/\Eg N w0 w' c a q Z { s with V:=Pa s.ep s.V (KS s.ep L)} (Ls s.ep s.V L):=by
 have hN:=h.low;have PL:F.length<=4096:=by
  have h1:=List.Nodup.length_le_of_subset (l₂:=List.range s.V.length) hFn (fun i hi=>List.mem_range.2 (wW i hi));rw [List.length_range] at h1; omega
 have Vx:Hg (Lu s.ep) s.V F=Pa s.ep s.V (KS s.ep L):=by rw [hF]; exact (sE _ _ _ wW).symm
 have Zaf:UO s.ep L++jz s.ep s.V F=Ls s.ep s.V L:=by unfold Ls; rw [hF,vW]
 have ZgN:(UO s.ep L).length<=L.length:=by unfold UO; exact Qy _ _
 have oV:Zl (∀k,Fa s.V (Hg (Lu s.ep) s.V (F.take k))):=Za fun k=>Sw (sD s.ep) _ _ hf fun i hi=>wW i (ZQ hi)
 have HX:=Za (Zn hFn (Zn wW (Zn Vx (Zn ht (Zn t (Zn Zaf (Zn Aw (Zn bJ (Zn (Nat.le_trans ZgN CM) (Zn hF (Zn hep CM)))))))))));have HN:=Za hN;have HH:=Za h;clear h hf ht hl hN hF hFn wW Vx t Zaf ZgN Aw hep bJ CM;go_enter func199,ntmps199;go_wp2_with fail;refine Ra (fun w'=>Zu w' q.e 102 (Uh c a q)) 3 [0,1,2,3,4,5,6,7,11] (?_) ?_
 ·exact HH.o.drew.blk
 refine JL ?_;refine oB ?_;refine Bi ?_;refine Vk _ ⟨q.e,26,none⟩ (.pointer (some ⟨a.u,0,none⟩)) (fun w h=>h.cell 26) ?_;refine X5 ?_;refine Bi ?_;refine XK ?_;have H0:=Za HH.o.drew;clear HH;generalize w.drew=V0 at*;refine Jg (i:=8) ?_;refine JC #[.pointer (some ⟨q.e,20,none⟩)] call42 ((GG H0.o HX.o.2.2.2.2.1.b0 HX.o.2.2.2.2.1.b1 HX.o.2.2.2.2.1.l HX.o.2.2.2.2.1.q).mono ?_);rintro e w1 ⟨rfl,m1,rfl⟩;have H1:=Za (H0.o.drewN m1);refine ⟨_,rfl,H1.o.blk,?_⟩;clear H0;generalize V0.drewN m1=V1 at*;refine Jg (i:=9) ?_;refine Q3 ?_;refine JC #[.pointer (some ⟨a.u,0,none⟩),.int .i64 s.ep] call234 ((H1.o.due HX.o.2.2.2.2.2.2.2.1 HX.o.2.2.2.2.2.2.2.2.2.2.1 (by have:=HX.o.2.2.2.2.2.2.2.2.2.2.2; omega)).mono ?_);rintro e w2 ⟨v,rfl,h2⟩;refine ⟨_,rfl,h2.blk,?_⟩;clear H1;rw [HX.o.2.2.2.2.2.2.2.2.2.1,YG,KF,show (ZI .i64 ∘ WI)=LL from rfl] at h2;obtain ⟨ia,cp,rfl⟩:=Xy (h2.row (r:=N) HN.o Ze Zq);obtain ⟨m,hm⟩:=ZT (F.length);have HM:=Za hm;rw [hm] at h2 PL;have H2:=Za h2;rw [hm];have Gv:=Za h2.blk;clear h2 hm;refine Q3 ?_;refine Mj (fun w'=>Zu w' q.e 102 (Uh c a q)) (m:=1) (f:=0) [10] (?_) ?_
 ·exact Gv.o
 refine JL ?_;refine Hf ?_;refine Gz ?_;refine XK ?_;clear Gv;refine ⟨by kernel_rfl,Yu ?_⟩;refine Q3 ?_;go_wp2_with fail;go_loopw [17] (fun s17 wr=> ∃(k:Nat),k<=m/\s17= .int .i64 k/\Zl (Eg (N+1) w0 wr c a q (ZG Z N (YI 3 1 (.slice ia m cp) m (F.map LL))) { s with V:=Hg (Lu s.ep) s.V (F.take k)} (UO s.ep L++jz s.ep s.V (F.take k)))) (fun s17 _=>m -(intOf s17).toNat)
 case atStart=>exact ⟨0,by omega,rfl,Za (by rw [show jz s.ep s.V (F.take 0)=[] from rfl,XM]; exact H2.o)⟩
 case round=>
  obtain ⟨k,hk,rfl,HE⟩:=hrel
  by_cases XV:k < m
  ·obtain ⟨i,hi⟩ : ∃i,F[k]?=some i:=⟨_,Zg RW⟩;obtain ⟨g,rfl,hc⟩:=Iw (HE.o.row (r:=N) HN.o Ze Zq) (show (F.map LL)[k]?=some (.int .i64 (i:Int)) by rw [ZH,hi]; rfl);have DU:=Ns (f:=Lu s.ep) (V:=s.V) hi;have SW:=Nr (f:=Lu s.ep) HX.o.1 HX.o.2.1 hi;have hbk:=pE (e:=s.ep) (V:=s.V) hi;have NG:=oV.o k;have Fo:=HX.o.2.1 i (Zy hi);have oN:=wh s.ep s.V (F.take k);obtain ⟨W,hW⟩:=ZT (Hg (Lu s.ep) s.V (F.take k));rw [hW] at HE DU SW NG;obtain ⟨u,hu⟩:=ZT (W.getD i ZS);rw [hu] at DU;rw [<-SW,hu] at hbk;have huw:u.wd<=1099511627776:=by rw [<-hu,SW]; exact HX.o.2.2.2.2.2.2.1 _ kF
   have hLk:(UO s.ep L++jz s.ep s.V (F.take k)).length<=100000:=by
    rw [List.length_append];have h1:=HX.o.2.2.2.2.2.2.2.2.1;rw [List.length_take] at oN;omega
   have oL:i < W.length:=by rw [NG.1]; exact Fo
   have y0:wr.cell? ⟨q.e,21,none⟩=some (.pointer (some ⟨a.r,0,none⟩)):=Eg.x21 HE.o;have HG:=Za (HE.o.get (n:=i) (show i < W.length from oL));rw [show ({ s with V:=W} :Sg).V.getD i ZS=u from hu] at HG;have HU:=Za (Zn oL (Zn (Zn huw hLk) (Zn NG (Zn DU (Zn hu hbk)))));obtain ⟨Lk,bH⟩:=ZT (UO s.ep L++jz s.ep s.V (F.take k));have HLK:=Za bH;rw [bH] at HE;clear hi DU SW NG Fo hW hu oL hbk oN huw hLk bH;go_wp2_with fail;refine HG.o.mono ?_;rintro e w3 ⟨rfl,hb⟩;have GN:Below wr.heap.size wr (w3.alloc (.cells (Zd u) 68)):=hb.alloc hb.size _;have E3:=Za (HE.o.below GN);have y4:(w3.alloc (.cells (Zd u) 68)).cell? ⟨w3.heap.size,5,none⟩=some (.int .i64 u.wd):=(Zu.new w3 68 (Zd u)).cell 5;have I3:Zl (Zu (w3.alloc (.cells (Zd u) 68)) w3.heap.size 68 (Zd u)):=Za (Zu.new _ _ _);clear hb GN HE HG y0;go_wp2_with (first | (refine UP w3.heap.size (Zd u) 68 (ZA w3 _) Yb (Ys _) ?_; rw [Zr]));generalize w3.heap.size=zb at*;generalize w3.alloc (.cells (Zd u) 68)=W3 at*;have vt:Zl (∀n,Xb 42 #[.pointer (some ⟨q.e,20,none⟩)] (W3.drewN n) (.int .i64 s.ep)):=Za fun n=>GG (s:= { s with V:=W}) (E3.o.drewN n) HX.o.2.2.2.2.1.b0 HX.o.2.2.2.2.1.b1 HX.o.2.2.2.2.1.l HX.o.2.2.2.2.1.q
   by_cases hex:s.ep < u.wd
   ·have d:decide (s.ep < u.wd)=true:=decide_eq_true hex;go_quiet ((go_at_call 42; exact Qm (vt.o _)));have E4:=Za (E3.o.drewN nq);have HB4:Zl (Zu (W3.drewN nq) zb 68 (Zd u)):=Za (I3.o.drewN nq);clear E3 I3 y4 d vt;generalize W3.drewN nq=W4 at*;go_wp2_with fail;refine GL 5 ?_;refine GM ?_;refine Bi ?_;refine QP 68 _ zb 68 (Zd u) _ rfl rfl rfl (fun w' h=>by obtain ⟨m,rfl⟩:=h; exact HB4.o) underlying68 rfl Yb ?_;refine X5 ?_;refine XK ?_;intro _ Jq;obtain ⟨nr,Y9⟩:=Jq;subst Y9;have zA:Zl (Zv Zb 131 #[.pointer (some ⟨q.e,24,none⟩),.int .i64 (i:Int),.agg (Zd u)] (W4.drewN nr) fun e w'=>e= .returned (.tuple #[])/\Eg (N+1) w0 w' c a q (ZG Z N (YI 3 1 (.slice (some ⟨g,0,none⟩) m cp) m (F.map LL))) { s with V:=Hg (Lu s.ep) s.V (F.take (k+1))} (UO s.ep L++jz s.ep s.V (F.take (k+1)))):=Za (by
     have h0:=HX.o.2.2.2.2.2.2.2.1;have:=p8 (E4.o.drewN nr) (i:=(i:Int)) (v:=u) Ze HU.o.2.1.1 (by rw [<-HLK.o]; exact HU.o.2.1.2);refine this.mono fun e w' ⟨he,h5⟩=>⟨he,?_⟩
     rw [HU.o.2.2.2.2.2,if_pos hex,<-List.append_assoc,HLK.o];have e5:Hg (Lu s.ep) s.V (F.take (k+1))=W:=by
      rw [HU.o.2.2.2.1,show Lu s.ep u=u from if_neg Ze,<-HU.o.2.2.2.2.1,TN HU.o.1]
     rw [e5];exact h5)
    clear E4 HB4 HU HLK;generalize W4.drewN nr=W5 at*;go_wp2_with fail;refine zA.o.mono ?_;rintro e w6 ⟨rfl,h6⟩;have H6:=Za h6;clear h6 zA;exact tI
   ·have d:decide (s.ep < u.wd)=false:=decide_eq_false hex;go_quiet ((go_at_call 42; exact Qm (vt.o _)));have E4:=Za (E3.o.drewN nq);have oX:Zl (Zv Zb 203 #[.pointer (some ⟨q.e,21,none⟩),.int .i64 4,.slice (some ⟨(W3.drewN nq).heap.size,0,none⟩) 1 1] ((W3.drewN nq).alloc (.cells #[.int .i64 (i:Int)] 3)) fun e w'=>e= .returned (.tuple #[])/\Eg (N+1) w0 w' c a q (ZG Z N (YI 3 1 (.slice (some ⟨g,0,none⟩) m cp) m (F.map LL))) { s with V:=Hg (Lu s.ep) s.V (F.take (k+1))} (UO s.ep L++jz s.ep s.V (F.take (k+1)))):=Za (by
     have NG:=HU.o.2.2.1;have:=qh E4.o (i:=i) (ev:=4) rfl HU.o.1 NG.2.2 kJ;refine this.mono fun e w' ⟨he,h5⟩=>⟨he,?_⟩
     rw [HU.o.2.2.2.2.2,if_neg hex,XM,HLK.o,HU.o.2.2.2.1,show Lu s.ep u=M8 4 u from if_pos Ze,<-HU.o.2.2.2.2.1];exact h5)
    clear E4 E3 y4 HU d HLK I3;exact ZhP
  ·obtain rfl:k=m:=Ze;clear XV;have XV: ¬k < k:=Ze;have H7:Zl (Eg N w0 wr c a q Z { s with V:=Pa s.ep s.V (KS s.ep L)} (Ls s.ep s.V L)):=Za (by
    have:=HE.o;rw [Yp RV,HX.o.2.2.1,HX.o.2.2.2.2.2.1] at this;exact this.drop HN.o)
   exact kV
end
end
end Go.Proofs.YtobgbcdgffgdhaaGreat
