/- Part 57 of 58: WEngineRejects. -/
import Derived.Test.YtianiiijaopdpaaGreatZu00
import Derived.Test.YtianiiijaopdpaaGreatZu51
namespace Go.Proofs.YtianiiijaopdpaaGreat
set_option linter.unusedVariables false
set_option linter.unusedSimpArgs false
set_option maxRecDepth 100000
set_option maxHeartbeats 8000000
open _root_.Go.Lib renaming hid → Za
open _root_.Nat renaming le_of_lt → JY
open _root_.Go.Proofs.Tryz renaming underlying24 → ZC, underlying37 → ZS, underlying51 → Ue
open _root_.Go.World renaming setRow_alloc_new → Zu
open _root_.Go renaming heap_alloc_new → ZD, wpList_load_row → Zn, wpList_store_row → Zm
theorem Zgk {G:Prop} (h:G:=by
  have e:(if j < 11 then j else if j < 17 then j+11 else j)=(if k < 11 then k else if k < 17 then k+11 else k):=e
  split at e
  ·split at e
   ·omega
   ·split at e <;> omega
  ·split at e
   ·split at e
    ·omega
    ·split at e <;> omega
   ·split at e
    ·omega
    ·split at e <;> omega) :G:=h
theorem ZgF {G:Prop} (h:G:=by
  go_wp2_with fail;go_roundw
  case rel=>exact ⟨k+1,s2,L2,y1,y2,y3,y4,y5,y6,by omega,by go_num,DU,H7⟩
  case measure=>simp [intOf]; omega) :G:=h
theorem Zau {G:Prop} (h:G:=by
  show 11≤(if k < 11 then k else if k < 17 then k+11 else k)
  split
  ·omega
  ·split <;> omega) :G:=h
theorem Zav {G:Prop} (h:G:=by
  show (if k < 11 then k else if k < 17 then k+11 else k)< 29
  split
  ·omega
  ·split <;> omega) :G:=h
section
open Go Go.RowKit Go.Deep
theorem MX (c:Nat→Int)(a1:Option Addr)(Vd cap1:Nat)(w:World)(f0:Wj c)(o1:iH w a1 Vd cap1) :Calls Tryz.prog 4 #[.agg (Zk c),.slice a1 Vd cap1] w fun e w'=>e= .returned (.bool true)∧Below w.heap.size w w':=by
 have B0:Zy (w.alloc (.cells (Zk c) 24)) w.heap.size 24 (Zk c):=Zy.new _ _ _;have b0:Below w.heap.size w (w.alloc (.cells (Zk c) 24)):=(Below.refl _ _).alloc (Nat.le_refl _) _;obtain ⟨VU,qh,l,hl,nQ,nT⟩:=o1;have HLs:=Za (nT.below b0);have HLf:=Za nQ;have Wa:=Za hl;have N7:=Za B0;have uM:=Za b0;have HA:=Za (fun w=>Ch w);have T8:=Za (fun w=>Hz c a1 Vd cap1 w);clear VU qh nQ nT B0 b0 hl
 by_cases hf:Wi c Vd
 ·have LH:Sw c Vd=1:=if_pos hf;rw [LH] at T8;have hn4:Vd≤400:=by unfold Wi at hf; omega
  have HN:=Za (fun w=>ln (c:=c) w (Bu f0 hf.1) hf.1);have nG:=Za (yb f0 hf.1 hf.2.1);clear hf LH f0;go_enter Tryz.func4,Tryz.ntmps4;go_upto_region 1 with (fail);generalize w.alloc (.cells (Zk c) 24)=W1 at*;generalize SA:w.heap.size=b at*;have kx:=Za SA;clear SA;go_wp2_with (first | (refine Zn rfl 24 _ rfl b rfl 24 _ (0,0) _ N7.out ZC rfl Xn ?_));refine (HN.out W1).mono ?_;rintro e w2 ⟨a,q,rfl,h2⟩;have E2:=Za (h2 M6);have VW:=Za (E2.out.kblk N7.out);clear h2 HN;go_wp2_with (first | (refine Zn rfl 24 _ rfl b rfl 24 _ (0,0) _ VW.out ZC rfl Xn ?_));refine (T8.out w2).mono ?_;rintro e w3 ⟨rfl,b3⟩;have E3:=Za (E2.out.below b3);clear b3 E2 VW T8;obtain ⟨s0,Pg⟩ : ∃s0,cW=s0:=⟨_,rfl⟩;obtain ⟨L0,hL0⟩ : ∃L0,([] :List QO)=L0:=⟨_,rfl⟩;rw [Pg,hL0] at nG E3;clear Pg hL0;go_wp2_with fail;refine (nG.out.snap Ze E3.out).mono ?_;rintro e w4 ⟨x1,x2,x3,x4,x5,x6,rfl,h4⟩;have E4:=Za h4;clear h4 E3;go_upto_region 7 with (first | (refine Zm rfl _ _ _ rfl w4.heap.size (Y7 s0 (ZY s0.V) L0.length x1.v x2.v x3.v x4.v x5.v x6.v) rfl rfl 51 _ (ZD w4 _) Gn rfl (OO s0 _ _ x1.a x2.a x3.a x4.a x5.a x6.a x1.n x2.n x3.n x4.n x5.n x6.n x1.c x2.c x3.c x4.c x5.c x6.c) ?_; rw [Zu]));have E5:Hid (Eg 18 ⟨fun _=>False,W1⟩ (w4.alloc (.cells (Y7 s0 (ZY s0.V) L0.length x1.v x2.v x3.v x4.v x5.v x6.v) 51)) c a q (ZI (xX M6 11 s0 x1.v x2.v x3.v x4.v x5.v x6.v) 17 (YR w4.heap.size 51 (Y7 s0 (ZY s0.V) L0.length x1.v x2.v x3.v x4.v x5.v x6.v))) s0 L0):=Za (E4.out.box (Y7 s0 (ZY s0.V) L0.length x1.v x2.v x3.v x4.v x5.v x6.v) 51);clear E4;generalize w4.alloc (.cells (Y7 s0 (ZY s0.V) L0.length x1.v x2.v x3.v x4.v x5.v x6.v) 51)=W5 at*;generalize w4.heap.size=g at*;try simp only [Act.put]
  go_wp2_with fail;go_loopw [28] (fun s28 wr=> ∃(k:Nat) (s:Sg) (L:List QO) (x1 x2 x3 x4 x5 x6:Sv),k≤Vd∧s28= .int .i64 k∧Hid (N8 c k s L)∧Hid (Eg 18 ⟨fun _=>False,W1⟩ wr c a q (ZI (xX M6 11 s x1.v x2.v x3.v x4.v x5.v x6.v) 17 (YR g 51 (Y7 s (ZY s.V) L.length x1.v x2.v x3.v x4.v x5.v x6.v))) s L)) (fun s28 _=>Vd -(intOf s28).toNat)
  case atStart=>exact ⟨0,s0,L0,x1,x2,x3,x4,x5,x6,by omega,rfl,nG,E5⟩
  case round=>
   clear E5 nG;obtain ⟨k,s,L,z1,z2,z3,z4,z5,z6,hk,rfl,HS,HE⟩:=hrel
   by_cases XJ:k < Vd
   ·obtain ⟨o,ho⟩ : ∃o,l[k]?=some o:=⟨_,List.getElem?_eq_getElem (by rw [Wa.out]; exact XJ)⟩;have dM:=Za (HLf.out o (List.mem_of_getElem? ho));obtain ⟨ga,off,rfl,Mn⟩:=RE.at (N:=18) (.inl HLs.out) HE.out (Nat.le_refl _) (fun _ _ _=>rfl) ho;have iF:=Za Mn;clear Mn ho;go_upto_region 10 with (first | (refine wpList_load_mid rfl 37 _ rfl ga (off+k*4) rfl o.row _ iF.out ZS rfl XV ?_) | (refine Zm rfl _ _ _ rfl wr.heap.size (ZJ o) rfl rfl 37 _ (ZD wr _) XV rfl (BD _) ?_; rw [Zu]));have E1:Hid (Eg 19 ⟨fun _=>False,W1⟩ (wr.alloc (.cells (ZJ o) 37)) c a q (ZI (ZI (xX M6 11 s z1.v z2.v z3.v z4.v z5.v z6.v) 17 (YR g 51 (Y7 s (ZY s.V) L.length z1.v z2.v z3.v z4.v z5.v z6.v))) 18 (YR wr.heap.size 37 (ZJ o))) s L):=Za (HE.out.box (ZJ o) 37);clear HE iF;generalize wr.alloc (.cells (ZJ o) 37)=V1 at*;generalize wr.heap.size=go at*;have dA:=Za (E1.out.blkAt (r:=18) Ze Ze xput_same);have oc:=Za (Ov HS.out Ze E1.out o dM.out);have DU:=Za (HS.out.op Ze o dM.out);have HSm:=Za (wZ (c:=c) (s:=s) (L:=L) o);obtain ⟨R,hR⟩ : ∃R,(opO c s o).1=R:=⟨_,rfl⟩;obtain ⟨s2,M4⟩ : ∃s2,(opO c s o).2=s2:=⟨_,rfl⟩;obtain ⟨L2,hL2⟩ : ∃L2,VA c s L o=L2:=⟨_,rfl⟩;rw [M4,hL2] at DU;rw [hR,M4,hL2] at HSm;rw [show opO c s o=(R,s2) from Prod.ext hR M4,hL2] at oc;clear hR M4 hL2 E1 dM;go_wp2_with (first | (refine Zn rfl 37 _ rfl go rfl 37 _ (0,0) _ dA.out ZS rfl XV ?_));refine oc.out.mono ?_;rintro e V2 ⟨ia,ca,ip,cp,rfl,h2⟩;have E2:=Za h2;clear h2 oc;obtain ⟨R2,hR2⟩ : ∃R2,AF (R,s2).1 ia ca ip cp=R2:=⟨_,rfl⟩;have Wc:=Za (show R2.cd=R.cd∧R2.ix=R.ix∧R2.dl=R.dl∧R2.an=R.la.length∧R2.pn=R.lp.length by rw [←hR2]; exact ⟨rfl,rfl,rfl,rfl,rfl⟩);rw [hR2];clear hR2;go_upto_region 11 with (first | (refine Zm rfl _ _ _ rfl V2.heap.size (Zz R2) rfl rfl 42 _ (ZD V2 _) YS rfl (YC _) ?_; rw [Zu]));have E3:=Za (E2.out.box (Zz R2) 42);clear E2 dA;generalize V2.alloc (.cells (Zz R2) 42)=V3 at*;generalize V2.heap.size=gr at*;go_wp2_with fail;refine (DU.out.snap Ze E3.out).mono ?_;rintro e V4 ⟨y1,y2,y3,y4,y5,y6,rfl,h4⟩;have E4:=Za h4;clear h4 E3;go_upto_region 12 with (first | (refine Zm rfl _ _ _ rfl V4.heap.size (Y7 s2 (ZY s2.V) L2.length y1.v y2.v y3.v y4.v y5.v y6.v) rfl rfl 51 _ (ZD V4 _) Gn rfl (OO s2 _ _ y1.a y2.a y3.a y4.a y5.a y6.a y1.n y2.n y3.n y4.n y5.n y6.n y1.c y2.c y3.c y4.c y5.c y6.c) ?_; rw [Zu]));have E5:=Za (E4.out.box (Y7 s2 (ZY s2.V) L2.length y1.v y2.v y3.v y4.v y5.v y6.v) 51);clear E4;generalize V4.alloc (.cells (Y7 s2 (ZY s2.V) L2.length y1.v y2.v y3.v y4.v y5.v y6.v) 51)=V5 at*;generalize V4.heap.size=gn at*;have uB:=Za (E5.out.blkAt (r:=28) Ze Ze xput_same);have dB:=Za (E5.out.blkAt (r:=21) (g:=gr) (t:=42) (cs:=Zz R2) Ze Ze rfl);have iE:=Za (E5.out.blkAt (r:=17) (g:=g) (t:=51) (cs:=Y7 s (ZY s.V) L.length z1.v z2.v z3.v z4.v z5.v z6.v) Ze Ze rfl)
    by_cases p7:R.cd=0
    ·have c1:V5.cell? ⟨gr,1,none⟩=some (.int .i64 0):=by rw [←p7,←Wc.out.1]; exact dB.out.cell 1
     have H7:Hid (Eg 18 ⟨fun _=>False,W1⟩ (V5.setRow g (Y7 s2 (ZY s2.V) L2.length y1.v y2.v y3.v y4.v y5.v y6.v)) c a q (ZI (xX M6 11 s2 y1.v y2.v y3.v y4.v y5.v y6.v) 17 (YR g 51 (Y7 s2 (ZY s2.V) L2.length y1.v y2.v y3.v y4.v y5.v y6.v))) s2 L2):=Za (by
      have h:=E5.out.setr (r:=17) (g:=g) (t:=51) (cs:=Y7 s (ZY s.V) L.length z1.v z2.v z3.v z4.v z5.v z6.v) (cs':=Y7 s2 (ZY s2.V) L2.length y1.v y2.v y3.v y4.v y5.v y6.v) Ze Ze rfl (iE.out.setRow _) (Kept.setRow (S:=fun i=>i=g) (Kept.refl _ _) (.inl rfl) _);refine h.remap Ze (fun k=>if k < 11 then k else if k < 17 then k+11 else k) (fun k hk=>if_pos hk) (fun k hk=>?_) (fun k hk=>?_) (fun j k hj hk e=>?_) (fun k h1 h2=>?_)
      ·exact Zau
      ·exact Zav
      ·exact Zgk
      ·obtain rfl | rfl | rfl | rfl | rfl | rfl | rfl:k=11∨k=12∨k=13∨k=14∨k=15∨k=16∨k=17:=by omega
       all_goals rfl)
     clear E5;go_upto_region 14 with (fail);go_wp2_with (first | (refine Zn rfl 51 _ rfl gn rfl 51 _ (0,0) _ uB.out Ue rfl Gn ?_) | (refine Zm rfl _ _ _ rfl g (Y7 s2 (ZY s2.V) L2.length y1.v y2.v y3.v y4.v y5.v y6.v) rfl rfl 51 _ iE.out Gn (zZ _ _ _ _ _ _ _ _ _ _ _ _ _ _ _ _ _ _) (OO s2 _ _ y1.a y2.a y3.a y4.a y5.a y6.a y1.n y2.n y3.n y4.n y5.n y6.n y1.c y2.c y3.c y4.c y5.c y6.c) ?_));clear uB iE;generalize V5.setRow g (Y7 s2 (ZY s2.V) L2.length y1.v y2.v y3.v y4.v y5.v y6.v)=V7 at*;exact ZgF
    ·obtain ⟨e1,e2,e3,e4,e5,e6⟩:=HSm.out p7;subst e1 e2;have f:=DU.out.few;have HQ:=Za (Wx s2 (ZY s2.V) L2.length z1.a z2.a z3.a z4.a z5.a z6.a z1.n z2.n z3.n z4.n z5.n z6.n z1.c z2.c z3.c z4.c z5.c z6.c y1.a y2.a y3.a y4.a y5.a y6.a y1.n y2.n y3.n y4.n y5.n y6.n y1.c y2.c y3.c y4.c y5.c y6.c V5 (px (by have:=f.v; omega) f.p f.f f.w f.m f.t
      (E5.out.row (r:=11) Ze Ze rfl) (E5.out.row (r:=12) Ze Ze rfl) (E5.out.row (r:=13) Ze Ze rfl) (E5.out.row (r:=14) Ze Ze rfl) (E5.out.row (r:=15) Ze Ze rfl) (E5.out.row (r:=16) Ze Ze rfl)
      (E5.out.row (r:=22) Ze Ze rfl) (E5.out.row (r:=23) Ze Ze rfl) (E5.out.row (r:=24) Ze Ze rfl) (E5.out.row (r:=25) Ze Ze rfl) (E5.out.row (r:=26) Ze Ze rfl) (E5.out.row (r:=27) Ze Ze rfl)))
     have c1:V5.cell? ⟨gr,1,none⟩=some (.int .i64 R2.cd):=dB.out.cell 1;have Od:(R2.cd==0)=false:=by rw [Wc.out.1]; simpa using p7
     have Ns:(R2.cd != 0)=true:=by rw [Wc.out.1]; simpa using p7
     have g2:R2.ix= -1∧R2.dl= -1∧R2.an=0∧R2.pn=0:=by
      obtain ⟨_,h2,h3,h4,h5⟩:=Wc.out;exact ⟨h2.trans e3,h3.trans e4,by rw [h4,e5]; rfl,by rw [h5,e6]; rfl⟩
     have G2:=Za g2;clear g2 e3 e4 e5 e6 f;go_wp2_with (first | (refine Fc rfl 51 _ rfl g rfl 51 _ (0,0) _ iE.out Ue rfl Gn ?_) | (refine Fc rfl 51 _ rfl gn rfl 51 _ (0,0) _ uB.out Ue rfl Gn ?_));refine HQ.out.mono ?_;rintro e V6 ⟨rfl,hb6⟩;have E6:=Za (E5.out.below hb6);have Zec:=Za (uB.out.below hb6 uB.out.lt);have Za0:=Za (iE.out.below hb6 iE.out.lt);have uC:=Za (dB.out.below hb6 dB.out.lt);clear hb6 HQ c1 E5 uB iE dB;have c2:V6.cell? ⟨gr,2,none⟩=some (.int .i64 (-1)):=by rw [←G2.out.1]; exact uC.out.cell 2
     have c5:V6.cell? ⟨gr,5,none⟩=some (.int .i64 (-1)):=by rw [←G2.out.2.1]; exact uC.out.cell 5
     have c6:V6.cell? ⟨gr,6,none⟩=some (.slice R2.aa 0 R2.ac):=by rw [←G2.out.2.2.1]; exact uC.out.cell 6
     have c7:V6.cell? ⟨gr,7,none⟩=some (.slice R2.pa 0 R2.pc):=by rw [←G2.out.2.2.2]; exact uC.out.cell 7
     have H7:Hid (Eg 18 ⟨fun _=>False,W1⟩ (V6.setRow g (Y7 s2 (ZY s2.V) L2.length y1.v y2.v y3.v y4.v y5.v y6.v)) c a q (ZI (xX M6 11 s2 y1.v y2.v y3.v y4.v y5.v y6.v) 17 (YR g 51 (Y7 s2 (ZY s2.V) L2.length y1.v y2.v y3.v y4.v y5.v y6.v))) s2 L2):=Za (by
      have h:=E6.out.setr (r:=17) (g:=g) (t:=51) (cs:=Y7 s2 (ZY s2.V) L2.length z1.v z2.v z3.v z4.v z5.v z6.v) (cs':=Y7 s2 (ZY s2.V) L2.length y1.v y2.v y3.v y4.v y5.v y6.v) Ze Ze rfl (Za0.out.setRow _) (Kept.setRow (S:=fun i=>i=g) (Kept.refl _ _) (.inl rfl) _);refine h.remap Ze (fun k=>if k < 11 then k else if k < 17 then k+11 else k) (fun k hk=>if_pos hk) (fun k hk=>?_) (fun k hk=>?_) (fun j k hj hk e=>?_) (fun k h1 h2=>?_)
      ·exact Zau
      ·exact Zav
      ·exact Zgk
      ·obtain rfl | rfl | rfl | rfl | rfl | rfl | rfl:k=11∨k=12∨k=13∨k=14∨k=15∨k=16∨k=17:=by omega
       all_goals rfl)
     clear E6;go_upto_region 14 with (fail);go_wp2_with (first | (refine Zn rfl 51 _ rfl gn rfl 51 _ (0,0) _ Zec.out Ue rfl Gn ?_) | (refine Zm rfl _ _ _ rfl g (Y7 s2 (ZY s2.V) L2.length y1.v y2.v y3.v y4.v y5.v y6.v) rfl rfl 51 _ Za0.out Gn (zZ _ _ _ _ _ _ _ _ _ _ _ _ _ _ _ _ _ _) (OO s2 _ _ y1.a y2.a y3.a y4.a y5.a y6.a y1.n y2.n y3.n y4.n y5.n y6.n y1.c y2.c y3.c y4.c y5.c y6.c) ?_));clear Zec Za0;generalize V6.setRow g (Y7 s2 (ZY s2.V) L2.length y1.v y2.v y3.v y4.v y5.v y6.v)=V7 at*;exact ZgF
   ·obtain rfl:k=Vd:=by omega
    clear XJ;have XJ: ¬k < k:=by omega
    have H8:=Za (HE.out.down);clear HE;go_wp2_with fail;refine (HA.out wr).mono ?_;rintro e w9 ⟨rfl,b9⟩;have H9:=Za b9;clear b9;go_wp2_with fail;go_ret;exact ⟨rfl,kx.out▸uM.out.trans ((H8.out.trans (H9.out.mono H8.out.size)).mono (JY N7.out.lt))⟩
 ·have LH:Sw c Vd=0:=if_neg hf;rw [LH] at T8;clear LH hf
  by_cases p8:P6 c=0
  ·have HN:=Za (fun w=>ln (c:=c) w (Bu f0 p8) p8);clear p8 f0;go_enter Tryz.func4,Tryz.ntmps4;go_upto_region 1 with (fail);generalize w.alloc (.cells (Zk c) 24)=W1 at*;generalize SA:w.heap.size=b at*;have kx:=Za SA;clear SA;go_wp2_with (first | (refine Zn rfl 24 _ rfl b rfl 24 _ (0,0) _ N7.out ZC rfl Xn ?_));refine (HN.out W1).mono ?_;rintro e w2 ⟨a,q,rfl,h2⟩;have E2:=Za (h2 M6);have VW:=Za (E2.out.kblk N7.out);clear h2 HN;go_wp2_with (first | (refine Zn rfl 24 _ rfl b rfl 24 _ (0,0) _ VW.out ZC rfl Xn ?_));refine (T8.out w2).mono ?_;rintro e w3 ⟨rfl,b3⟩;have H3:=Za ((E2.out.below b3).down);clear b3 E2 VW T8;go_wp2_with fail;refine (HA.out w3).mono ?_;rintro e w4 ⟨rfl,b4⟩;have H4:=Za b4;clear b4;go_wp2_with fail;go_ret;exact ⟨rfl,kx.out▸uM.out.trans ((H3.out.trans (H4.out.mono H3.out.size)).mono (JY N7.out.lt))⟩
  ·have HN:=Za (fun w=>iT (c:=c) w p8);clear p8 f0;go_enter Tryz.func4,Tryz.ntmps4;go_upto_region 1 with (fail);generalize w.alloc (.cells (Zk c) 24)=W1 at*;generalize SA:w.heap.size=b at*;have kx:=Za SA;clear SA;go_wp2_with (first | (refine Zn rfl 24 _ rfl b rfl 24 _ (0,0) _ N7.out ZC rfl Xn ?_));refine (HN.out W1).mono ?_;rintro e w2 ⟨rfl,h2⟩;have H2:=Za h2;have VW:=Za (N7.out.below h2 N7.out.lt);clear h2 HN;go_wp2_with (first | (refine Zn rfl 24 _ rfl b rfl 24 _ (0,0) _ VW.out ZC rfl Xn ?_));refine (T8.out w2).mono ?_;rintro e w3 ⟨rfl,b3⟩;have H3:=Za (H2.out.trans (b3.mono H2.out.size));clear b3 H2 VW T8;go_wp2_with fail;refine (HA.out w3).mono ?_;rintro e w4 ⟨rfl,b4⟩;have H4:=Za b4;clear b4;go_wp2_with fail;go_ret;exact ⟨rfl,kx.out▸uM.out.trans ((H3.out.trans (H4.out.mono H3.out.size)).mono (JY N7.out.lt))⟩
end
end Go.Proofs.YtianiiijaopdpaaGreat
