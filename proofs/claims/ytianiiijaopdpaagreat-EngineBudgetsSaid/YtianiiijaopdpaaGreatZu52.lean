/- Part 52 of 58: WEngineBudgets. -/
import Derived.Test.YtianiiijaopdpaaGreatZu00
import Derived.Test.YtianiiijaopdpaaGreatZu51
namespace Go.Proofs.YtianiiijaopdpaaGreat
set_option linter.unusedVariables false
set_option linter.unusedSimpArgs false
set_option maxRecDepth 100000
set_option maxHeartbeats 8000000
open _root_.Go.Lib renaming hid → Za
open _root_.Go.Proofs.Tryz renaming underlying24 → ZC, underlying37 → ZS
open _root_.Go.World renaming setRow_alloc_new → Zu
open _root_.Go renaming wpList_load_row → Zn
theorem zT5 {G:Prop} (h:G:=by
  have r7:V3.cell? ⟨gr,7,none⟩=some (.slice ip R2.pn R2.pc):=by rw [←Wc.out.2.2.2]; exact dB.out.cell 7
  have HX:=Lib.hid (And.intro HBg.out.1.2.2.2 Wc.out.2.2.1);clear dB dA HBc HBg Wc;go_wp2_with fail;clear r7;go_loopw [74] (fun s74 wr2=> ∃(j:Nat),j≤R2.pn∧s74= .int .i64 j∧Hid (Eg 15 ⟨fun _=>False,W1⟩ wr2 c a q (ZI (rowsX (ZI M6 11 (YR go 37 (ZJ o))) 12 R ia ca ip cp) 14 (YR gr 42 (Zz R2))) s2 L2)) (fun s74 _=>R2.pn -(intOf s74).toNat)
  case atStart=>exact ⟨0,by omega,rfl,E3⟩
  case round=>
   clear E3;obtain ⟨j,hj,rfl,HE⟩:=hrel
   by_cases hjt:j < R2.pn
   ·obtain ⟨p,hp⟩ : ∃p,R.lp[j]?=some p:=⟨_,List.getElem?_eq_getElem (by have:=HX.out.2; omega)⟩;obtain ⟨gp,rfl,Mn⟩:=FF Pm.row_len (HE.out.row (r:=13) Ze Ze rfl) (by have:=HX.out.2; omega) hp;obtain ⟨i,v,hi,hv,tM,hf2⟩:=HX.out.1 p (List.mem_of_getElem? hp);have HRp:=Lib.hid Mn;have HF:=Lib.hid (And.intro tM hf2);have HGe:eS s2.V p.ix=v∧GI s2.V p.ix=false:=by
     have hl:=(List.getElem?_eq_some_iff.1 hv).1;have ho:GI s2.V p.ix=false:=by unfold GI; rw [hi]; exact decide_eq_false Ze
     refine ⟨?_,ho⟩;unfold eS;rw [if_neg (by rw [ho]; exact Bool.false_ne_true),hi];unfold Vy;rw [Int.toNat_natCast];exact Vg hv
    have HGv:=Lib.hid HGe;clear Mn hp hi hv tM hf2 HGe;go_upto_region 15 with (first | (refine wpList_load_mid rfl 61 _ rfl gp (j*3) rfl p.row _ HRp.out Tryz.underlying61 rfl Hy ?_) | (refine wpList_store_row rfl _ _ _ rfl wr.heap.size (XP p) rfl rfl 61 _ (heap_alloc_new wr _) Hy rfl (O8 _) ?_; rw [World.setRow_alloc_new]));have E4:=Lib.hid (HE.out.box (XP p) 61);clear HE HRp;generalize wr.alloc (.cells (XP p) 61)=V4 at*;generalize wr.heap.size=gx at*;have HG:=Lib.hid (Ziv E4.out p.ix);rw [HGv.out.1,HGv.out.2] at HG;have HBp:=Lib.hid (E4.out.blkAt (r:=15) Ze Ze xput_same);have p0:V4.cell? ⟨gx,0,none⟩=some (.int .i64 p.ix):=HBp.out.cell 0;clear HBp HGv E4;go_wp2_with fail;refine HG.out.mono ?_;rintro e V5 ⟨rfl,h5⟩;have E5:=Lib.hid h5;clear h5 HG p0;go_upto_region 16 with (first | (refine wpList_store_row rfl _ _ _ rfl V5.heap.size (Zd v) rfl rfl 63 _ (heap_alloc_new V5 _) Yo rfl (Yy v) ?_; rw [World.setRow_alloc_new]));have E6:=Lib.hid (E5.out.box (Zd v) 63);clear E5;generalize V5.alloc (.cells (Zd v) 63)=V6 at*;generalize V5.heap.size=gv at*;have HBp:=Lib.hid (E6.out.blkAt (r:=15) (g:=gx) (t:=61) (cs:=XP p) Ze Ze rfl);have HBv:=Lib.hid (E6.out.blkAt (r:=16) (g:=gv) (t:=63) (cs:=Zd v) Ze Ze rfl);have HBc:=Lib.hid (E6.out.kblk N7.out);have E7:Hid (Eg 15 ⟨fun _=>False,W1⟩ V6 c a q (ZI (rowsX (ZI M6 11 (YR go 37 (ZJ o))) 12 R ia ca (some ⟨gp,0,none⟩) cp) 14 (YR gr 42 (Zz R2))) s2 L2):=Lib.hid ((E6.out.drop Ze).drop Ze);clear E6
    rcases zD:p.fl with _ | _
    ·obtain ⟨f1,f2⟩:=HF.out.2 zD;have p2:V6.cell? ⟨gx,2,none⟩=some (.bool false):=by rw [←zD]; exact HBp.out.cell 2
     have v0:V6.cell? ⟨gv,0,none⟩=some (.int .u64 v.bal):=HBv.out.cell 0;have v1:V6.cell? ⟨gv,1,none⟩=some (.int .i64 2):=by rw [←f1]; exact HBv.out.cell 1
     have c5:V6.cell? ⟨b,5,none⟩=some (.int .u64 (c 5)):=HBc.out.cell 5;have hlt5: ¬v.bal < c 5:=by omega
     clear zD f1 f2 HF HBp HBv HBc;go_wp2_with fail;go_roundw
     case rel=>exact ⟨j+1,by omega,by go_num,E7⟩
     case measure=>simp [intOf]; omega
    ·obtain ⟨f1,f2⟩:=HF.out.1 zD;have p2:V6.cell? ⟨gx,2,none⟩=some (.bool true):=by rw [←zD]; exact HBp.out.cell 2
     have v0:V6.cell? ⟨gv,0,none⟩=some (.int .u64 0):=by rw [←f2]; exact HBv.out.cell 0
     have v1:V6.cell? ⟨gv,1,none⟩=some (.int .i64 6):=by rw [←f1]; exact HBv.out.cell 1
     clear zD f1 f2 HF HBp HBv HBc;go_wp2_with fail;go_roundw
     case rel=>exact ⟨j+1,by omega,by go_num,E7⟩
     case measure=>simp [intOf]; omega
   ·obtain rfl:j=R2.pn:=by omega
    have Da: ¬R2.pn < R2.pn:=by omega
    have E7:Hid (Eg 11 ⟨fun _=>False,W1⟩ wr c a q M6 s2 L2):=Lib.hid (((((HE.out.less Ze).less Ze).less Ze).less Ze).ext fun k h1 h2=>by omega);clear HE hjt;go_wp2_with fail;go_roundw
    case rel=>exact ⟨k+1,s2,L2,by omega,by go_num,DU,E7⟩
    case measure=>simp [intOf]; omega) :G:=h
section
open Go Go.RowKit Go.Deep
theorem MW (c:Nat→Int)(a1:Option Addr)(Vd cap1:Nat)(w:World)(f0:Wj c)(o1:iH w a1 Vd cap1) :Calls Tryz.prog 6 #[.agg (Zk c),.slice a1 Vd cap1] w fun e w'=>e= .returned (.bool true)∧Below w.heap.size w w':=by
 have B0:Zy (w.alloc (.cells (Zk c) 24)) w.heap.size 24 (Zk c):=Zy.new _ _ _;have b0:Below w.heap.size w (w.alloc (.cells (Zk c) 24)):=(Below.refl _ _).alloc (Nat.le_refl _) _;obtain ⟨VU,qh,l,hl,nQ,nT⟩:=o1;have HLs:=Za (nT.below b0);have HLf:=Za nQ;have Wa:=Za hl;have N7:=Za B0;have uM:=Za b0;have HA:=Za (fun w=>Ch w);have T8:=Za (fun w=>Hz c a1 Vd cap1 w);clear VU qh nQ nT B0 b0 hl
 by_cases hf:Wi c Vd
 ·have LH:Sw c Vd=1:=if_pos hf;rw [LH] at T8;have hn4:Vd≤400:=by unfold Wi at hf; omega
  have HN:=Za (fun w=>ln (c:=c) w (Bu f0 hf.1) hf.1);have nG:=Za (yb f0 hf.1 hf.2.1);have HfB:=Za hf;clear hf LH f0;go_enter Tryz.func6,Tryz.ntmps6;go_upto_region 1 with (fail);generalize w.alloc (.cells (Zk c) 24)=W1 at*;generalize SA:w.heap.size=b at*;have kx:=Za SA;clear SA;go_wp2_with (first | (refine Zn rfl 24 _ rfl b rfl 24 _ (0,0) _ N7.out ZC rfl Xn ?_));refine (HN.out W1).mono ?_;rintro e w2 ⟨a,q,rfl,h2⟩;have E2:=Za (h2 M6);have VW:=Za (E2.out.kblk N7.out);clear h2 HN;go_wp2_with (first | (refine Zn rfl 24 _ rfl b rfl 24 _ (0,0) _ VW.out ZC rfl Xn ?_));refine (T8.out w2).mono ?_;rintro e w3 ⟨rfl,b3⟩;have E3:=Za (E2.out.below b3);clear b3 E2 VW T8;obtain ⟨s0,Pg⟩ : ∃s0,cW=s0:=⟨_,rfl⟩;obtain ⟨L0,hL0⟩ : ∃L0,([] :List QO)=L0:=⟨_,rfl⟩;rw [Pg,hL0] at nG E3;clear Pg hL0;go_wp2_with fail;go_loopw [28] (fun s28 wr=> ∃(k:Nat) (s:Sg) (L:List QO),k≤Vd∧s28= .int .i64 k∧Hid (N8 c k s L)∧Hid (Eg 11 ⟨fun _=>False,W1⟩ wr c a q M6 s L)) (fun s28 _=>Vd -(intOf s28).toNat)
  case atStart=>exact ⟨0,s0,L0,by omega,rfl,nG,E3⟩
  case round=>
   clear E3 nG;obtain ⟨k,s,L,hk,rfl,HS,HE⟩:=hrel
   by_cases XJ:k < Vd
   ·obtain ⟨o,ho⟩ : ∃o,l[k]?=some o:=⟨_,List.getElem?_eq_getElem (by rw [Wa.out]; exact XJ)⟩;have dM:=Za (HLf.out o (List.mem_of_getElem? ho));obtain ⟨ga,off,rfl,Mn⟩:=RE.at (N:=11) (.inl HLs.out) HE.out (Nat.le_refl _) (fun _ _ _=>rfl) ho;have iF:=Za Mn;clear Mn ho;go_upto_region 9 with (first | (refine wpList_load_mid rfl 37 _ rfl ga (off+k*4) rfl o.row _ iF.out ZS rfl XV ?_) | (refine wpList_store_row rfl _ _ _ rfl wr.heap.size (ZJ o) rfl rfl 37 _ (heap_alloc_new wr _) XV rfl (BD _) ?_; rw [Zu]));have E1:=Za (HE.out.box (ZJ o) 37);clear HE iF;generalize wr.alloc (.cells (ZJ o) 37)=V1 at*;generalize wr.heap.size=go at*;have dA:=Za (E1.out.blkAt (r:=11) Ze Ze xput_same);have oc:=Za (Ov HS.out Ze E1.out o dM.out);have DU:=Za (HS.out.op Ze o dM.out);have HBg:=Za (And.intro (OG HS.out.ge HS.out.inv Ze o) (fun h=>NF (c:=c) (s:=s) o h));obtain ⟨R,hR⟩ : ∃R,(opO c s o).1=R:=⟨_,rfl⟩;obtain ⟨s2,M4⟩ : ∃s2,(opO c s o).2=s2:=⟨_,rfl⟩;obtain ⟨L2,hL2⟩ : ∃L2,VA c s L o=L2:=⟨_,rfl⟩;rw [M4,hL2] at DU;rw [hR,M4] at HBg;rw [show opO c s o=(R,s2) from Prod.ext hR M4,hL2] at oc;clear hR M4 hL2 E1 dM;go_wp2_with (first | (refine Zn rfl 37 _ rfl go rfl 37 _ (0,0) _ dA.out ZS rfl XV ?_));refine oc.out.mono ?_;rintro e V2 ⟨ia,ca,ip,cp,rfl,h2⟩;have E2:=Za h2;clear h2 oc;obtain ⟨R2,hR2⟩ : ∃R2,AF (R,s2).1 ia ca ip cp=R2:=⟨_,rfl⟩;have Wc:=Za (show R2.vs=R.vs∧R2.an=R.la.length∧R2.pn=R.lp.length∧R2.pa=ip by rw [←hR2]; exact ⟨rfl,rfl,rfl,rfl⟩);rw [hR2];clear hR2;go_upto_region 10 with (first | (refine wpList_store_row rfl _ _ _ rfl V2.heap.size (Zz R2) rfl rfl 42 _ (heap_alloc_new V2 _) YS rfl (YC _) ?_; rw [Zu]));have E3:Hid (Eg 15 ⟨fun _=>False,W1⟩ (V2.alloc (.cells (Zz R2) 42)) c a q (ZI (rowsX (ZI M6 11 (YR go 37 (ZJ o))) 12 R ia ca ip cp) 14 (YR V2.heap.size 42 (Zz R2))) s2 L2):=Za (E2.out.box (Zz R2) 42);clear E2 dA;generalize V2.alloc (.cells (Zz R2) 42)=V3 at*;generalize V2.heap.size=gr at*;have dA:=Za (E3.out.blkAt (r:=11) (g:=go) (t:=37) (cs:=ZJ o) Ze Ze rfl);have dB:=Za (E3.out.blkAt (r:=14) (g:=gr) (t:=42) (cs:=Zz R2) Ze Ze rfl);have HBc:=Za (E3.out.kblk N7.out);have r8:V3.cell? ⟨gr,8,none⟩=some (.int .i64 R2.vs):=dB.out.cell 8;have r7:V3.cell? ⟨gr,7,none⟩=some (.slice R2.pa R2.pn R2.pc):=dB.out.cell 7;have r6:V3.cell? ⟨gr,6,none⟩=some (.slice R2.aa R2.an R2.ac):=dB.out.cell 6;have k0:V3.cell? ⟨go,0,none⟩=some (.int .i64 o.kd):=dA.out.cell 0;have c14:V3.cell? ⟨b,14,none⟩=some (.int .i64 (c 14)):=HBc.out.cell 14;have c15:V3.cell? ⟨b,15,none⟩=some (.int .i64 (c 15)):=HBc.out.cell 15;have hv:=HBg.out.1;have h0: ¬R2.vs < 0:=by rw [Wc.out.1]; omega
    have h1: ¬c 14 < R2.vs:=by rw [Wc.out.1]; omega
    have h2: ¬c 15 < (R2.pn:Int):=by rw [Wc.out.2.2.1]; omega
    have h4:R2.pn≤100000:=by
     have:=DU.out.ge.g.pay1;omega
    clear hv
    by_cases h7:o.kd=7
    ·have d7:(o.kd != 7)=false:=by simpa using h7
     clear h7;go_upto_region 12 with (fail);clear r8 r7 r6 k0 c14 c15 h0 h1 h2 d7;exact zT5
    ·have d7:(o.kd != 7)=true:=by simpa using h7
     obtain ⟨e1,e2,e3,_⟩:=HBg.out.2 h7;have zR:R2.vs=0:=by rw [Wc.out.1]; exact e3
     have han:R2.an=0:=by rw [Wc.out.2.1,e1]; rfl
     have Nv:R2.pn=0:=by rw [Wc.out.2.2.1,e2]; rfl
     rw [zR] at r8;rw [han] at r6;rw [Nv] at r7;have g14: ¬c 14 < 0:=by have:=DU.out.ge.g.part; have:=DU.out.ge.g.vis0; omega
     have g15: ¬c 15 < 0:=by have:=DU.out.ge.g.part; have:=DU.out.ge.g.pay0; omega
     clear h7 e1 e2 e3 zR han Nv h0 h1 h2;go_upto_region 12 with (fail);clear r8 r7 r6 k0 c14 c15 d7 g14 g15;exact zT5
   ·obtain rfl:k=Vd:=by omega
    clear XJ;have XJ: ¬k < k:=by omega
    have H8:=Za (HE.out.down);clear HE;go_wp2_with fail;refine (HA.out wr).mono ?_;rintro e w9 ⟨rfl,b9⟩;have H9:=Za b9;clear b9;go_wp2_with fail;go_ret;exact ⟨rfl,kx.out▸uM.out.trans ((H8.out.trans (H9.out.mono H8.out.size)).mono (Nat.le_of_lt N7.out.lt))⟩
 ·have LH:Sw c Vd=0:=if_neg hf;rw [LH] at T8;have HN:=Za (fun w=>Sn f0 w);clear LH hf f0;go_enter Tryz.func6,Tryz.ntmps6;go_upto_region 1 with (fail);generalize w.alloc (.cells (Zk c) 24)=W1 at*;generalize SA:w.heap.size=b at*;have kx:=Za SA;clear SA;go_wp2_with (first | (refine Zn rfl 24 _ rfl b rfl 24 _ (0,0) _ N7.out ZC rfl Xn ?_));refine (HN.out W1).mono ?_;rintro e w2 ⟨v0,u0,rfl,h2⟩;have H2:=Za h2;have VW:=Za (N7.out.below h2 N7.out.lt);clear h2 HN;go_wp2_with (first | (refine Zn rfl 24 _ rfl b rfl 24 _ (0,0) _ VW.out ZC rfl Xn ?_));refine (T8.out w2).mono ?_;rintro e w3 ⟨rfl,b3⟩;have H3:=Za (H2.out.trans (b3.mono H2.out.size));clear b3 H2 VW T8;go_wp2_with fail;refine (HA.out w3).mono ?_;rintro e w4 ⟨rfl,b4⟩;have H4:=Za b4;clear b4;go_wp2_with fail;go_ret;exact ⟨rfl,kx.out▸uM.out.trans ((H3.out.trans (H4.out.mono H3.out.size)).mono (Nat.le_of_lt N7.out.lt))⟩
end
end Go.Proofs.YtianiiijaopdpaaGreat
