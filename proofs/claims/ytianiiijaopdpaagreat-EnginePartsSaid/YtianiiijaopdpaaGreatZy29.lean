/- The Go function egress/egresslaw22.EngineParts returns true for every input, and leaves its arguments as they were. Conditions: none but the statement's own. -/
import Derived.Test.YtianiiijaopdpaaGreatZy00
import Derived.Test.YtianiiijaopdpaaGreatZy02
import Derived.Test.YtianiiijaopdpaaGreatZy28
import Derived.ShutString
namespace Go.Proofs.YtianiiijaopdpaaGreat
set_option linter.unusedVariables false
set_option linter.unusedSimpArgs false
set_option maxRecDepth 100000
set_option maxHeartbeats 8000000
open _root_.Go.RowKit renaming Below → Zs
open _root_.Go.RowKit.Below renaming refl → Zp
open _root_.Go.Lib renaming hid → Za
open _root_.Nat renaming le_refl → Zg, le_trans → Z9, lt_of_lt_of_le → Ya
open _root_.Go.Proofs.YtianiiijaopdpaaGreat.Oq renaming row → Ud, row_len → GG
open _root_.Go.Proofs.YtianiiijaopdpaaGreat.Rc renaming row → Jc
open _root_.Go.Proofs.Tryz renaming prog → Zb, underlying24 → ZC
open _root_.Go.Value renaming ownBlock → Y4, slice → Yj
open _root_.Go renaming World → Zc, wpList_load_row → Zn
theorem Zf0 {G:Prop} (h:G:=by
  go_wp2_with fail;refine (HA.out w5).mono ?_;rintro e w6 ⟨rfl,b6⟩;have H6:=Lib.hid b6;clear b6;go_wp2_with fail;go_ret;exact ⟨rfl,HBB.out▸Hb0.out.trans ((H5.out.trans (H6.out.mono H5.out.size)).mono (Nat.le_of_lt mH.out.lt))⟩) :G:=h
section
open Go Go.RowKit Go.Deep
theorem lC (c:Nat→Int)(a1:Option Addr)(Vu cap1:Nat)(a2:Option Addr)(V9 PD:Nat)(w:Zc)(f0:AQ c)(hf: ¬(Ru c Vu∧Ru c V9)) :Calls Zb 7 #[.agg (Zk c),.slice a1 Vu cap1,.slice a2 V9 PD] w fun e w'=>e= .returned (.bool true)∧Zs w.heap.size w w':=by
 have mH:Hid (Blk (w.alloc (.cells (Zk c) 24)) w.heap.size 24 (Zk c)):=Za (Blk.new _ _ _);have Hb0:Hid (Zs w.heap.size w (w.alloc (.cells (Zk c) 24))):=Za ((Zp _ _).alloc (Zg _) _);have HA:=Za (fun w=>gS w);have sI:=Za (fun w=>DZ c a1 Vu cap1 w);have yb:=Za (fun w=>DZ c a2 V9 PD w);have HN:=Za (fun w=>dK f0 w);clear f0
 by_cases h1:Ru c Vu
 ·have h2:T9 c V9=0:=if_neg fun h=>hf ⟨h1,h⟩
  have h3:T9 c Vu=1:=if_pos h1;rw [h3] at sI;rw [h2] at yb;clear h1 h2 h3 hf;go_enter Tryz.func7,Tryz.ntmps7;go_upto_region 1 with (fail);generalize w.alloc (.cells (Zk c) 24)=W1 at*;generalize yG:w.heap.size=b at*;have HBB:=Za yG;clear yG;go_wp2_with (first | (refine Zn rfl 24 _ rfl b rfl 24 _ (0,0) _ mH.out ZC rfl XG ?_));refine (HN.out W1).mono ?_;rintro e w2 ⟨v0,u0,rfl,h2⟩;have H2:=Za h2;have UJ:=Za (mH.out.below h2 mH.out.lt);clear h2;go_wp2_with (first | (refine Zn rfl 24 _ rfl b rfl 24 _ (0,0) _ UJ.out ZC rfl XG ?_));refine (HN.out w2).mono ?_;rintro e w3 ⟨v1,u1,rfl,h3⟩;have H3:=Za (H2.out.trans (h3.mono H2.out.size));have AS:=Za (UJ.out.below h3 UJ.out.lt);clear h3 H2 UJ HN;go_wp2_with (first | (refine Zn rfl 24 _ rfl b rfl 24 _ (0,0) _ AS.out ZC rfl XG ?_));refine (sI.out w3).mono ?_;rintro e w4 ⟨rfl,b4⟩;have H4:=Za (H3.out.trans (b4.mono H3.out.size));have nb:=Za (AS.out.below b4 AS.out.lt);clear b4 H3 AS sI;go_wp2_with (first | (refine Fg rfl 24 _ rfl b rfl 24 _ (0,0) _ nb.out ZC rfl XG ?_));refine (yb.out w4).mono ?_;rintro e w5 ⟨rfl,b5⟩;have H5:=Za (H4.out.trans (b5.mono H4.out.size));clear b5 H4 nb yb;exact Zf0
 ·have h3:T9 c Vu=0:=if_neg h1;rw [h3] at sI;clear h1 h3 hf yb;go_enter Tryz.func7,Tryz.ntmps7;go_upto_region 1 with (fail);generalize w.alloc (.cells (Zk c) 24)=W1 at*;generalize yG:w.heap.size=b at*;have HBB:=Za yG;clear yG;go_wp2_with (first | (refine Zn rfl 24 _ rfl b rfl 24 _ (0,0) _ mH.out ZC rfl XG ?_));refine (HN.out W1).mono ?_;rintro e w2 ⟨v0,u0,rfl,h2⟩;have H2:=Za h2;have UJ:=Za (mH.out.below h2 mH.out.lt);clear h2;go_wp2_with (first | (refine Zn rfl 24 _ rfl b rfl 24 _ (0,0) _ UJ.out ZC rfl XG ?_));refine (HN.out w2).mono ?_;rintro e w3 ⟨v1,u1,rfl,h3⟩;have H3:=Za (H2.out.trans (h3.mono H2.out.size));have AS:=Za (UJ.out.below h3 UJ.out.lt);clear h3 H2 UJ HN;go_wp2_with (first | (refine Zn rfl 24 _ rfl b rfl 24 _ (0,0) _ AS.out ZC rfl XG ?_));refine (sI.out w3).mono ?_;rintro e w4 ⟨rfl,b4⟩;have H4:=Za (H3.out.trans (b4.mono H3.out.size));clear b4 H3 AS sI;obtain ⟨w5,ta⟩ : ∃w5,w4=w5:=⟨_,rfl⟩;rw [ta] at H4 ⊢;have H5:=Za H4.out;clear H4 ta;exact Zf0
theorem OI (c:Nat→Int)(a1:Option Addr)(Vu cap1:Nat)(a2:Option Addr)(V9 PD:Nat)(w:Zc)(f0:AQ c)(o1:nx w a1 Vu cap1)(o2:nx w a2 V9 PD) :Calls Zb 7 #[.agg (Zk c),.slice a1 Vu cap1,.slice a2 V9 PD] w fun e w'=>e= .returned (.bool true)∧Zs w.heap.size w w':=by
 by_cases hf:Ru c Vu∧Ru c V9
 case neg=>exact lC c a1 Vu cap1 a2 V9 PD w f0 hf
 have mH:Hid (Blk (w.alloc (.cells (Zk c) 24)) w.heap.size 24 (Zk c)):=Za (Blk.new _ _ _);have Hb0:Hid (Zs w.heap.size w (w.alloc (.cells (Zk c) 24))):=Za ((Zp _ _).alloc (Zg _) _);obtain ⟨_,_,la,vi,hfa,yX⟩:=o1;obtain ⟨_,_,lb,hlb,yJ,hsb⟩:=o2;have HSa:=Za (yX.below Hb0.out);have HSb:=Za (hsb.below Hb0.out);have HA:=Za (fun w=>gS w);have sI:=Za (fun w=>DZ c a1 Vu cap1 w);have yb:=Za (fun w=>DZ c a2 V9 PD w);rw [show T9 c Vu=1 from if_pos hf.1] at sI;rw [show T9 c V9=1 from if_pos hf.2] at yb;have n1:Vu≤400:=by have h:=hf.1; unfold Ru at h; omega
 have n2:V9≤400:=by have h:=hf.2; unfold Ru at h; omega
 have HN:=Za (fun w=>Zay (c:=c) w (LI f0 hf.1.1) hf.1.1);have Um:=Zfk f0 hf.1.1 hf.1.2.1;obtain ⟨s0,Wd⟩ : ∃s0,fP=s0:=⟨_,rfl⟩;obtain ⟨L0,hL0⟩ : ∃L0,([] :List QT)=L0:=⟨_,rfl⟩;rw [Wd,hL0] at Um HN;have jH:=Za (show (la++lb).length=Vu+V9 by rw [List.length_append,vi,hlb]);have ZaT: ∀o ∈ la++lb,Kk o:=fun o ho=>(List.mem_append.1 ho).elim (hfa o) (yJ o)
 have Zbi:=Um.ops la (by omega) hfa;have ZeY:=Zbi.ops lb (by omega) yJ;have tL:Hid (∀r ∈ GY c s0 (la++lb),r.la.length≤100000∧r.lp.length≤100000):=Za (iM (la++lb) Um (by rw [jH.out]; omega) ZaT);have HRa:Hid (∀(N:Nat) (w0:DR) (W:Zc) (a:Pl) (q:Ql) (Z:Nat→Zc→(Nat→Prop)→Prop),Eg N w0 W c a q Z s0 L0→Rv N w0 Z a1 la→Calls Zb 27 #[.pointer (some ⟨q.e,0,none⟩),.slice a1 Vu cap1] W fun e w'=> ∃g,e= .returned (.slice (some ⟨g,0,none⟩) Vu Vu)∧Eg (N+1) w0 w' c a q (ZD Z N (Mv g Vu (GY c s0 la))) (Vr c s0 la) (Kf c s0 L0 la)):=Za fun N w0 W a q Z he hs=>by
  have h:=uR Um (by omega) (by omega) hfa he hs cap1;rwa [vi] at h
 have HRb:Hid (∀(N:Nat) (w0:DR) (W:Zc) (a:Pl) (q:Ql) (Z:Nat→Zc→(Nat→Prop)→Prop),Eg N w0 W c a q Z (Vr c s0 la) (Kf c s0 L0 la)→Rv N w0 Z a2 lb→Calls Zb 27 #[.pointer (some ⟨q.e,0,none⟩),.slice a2 V9 PD] W fun e w'=> ∃g,e= .returned (.slice (some ⟨g,0,none⟩) V9 V9)∧Eg (N+1) w0 w' c a q (ZD Z N (Mv g V9 (GY c (Vr c s0 la) lb))) (Vr c (Vr c s0 la) lb) (Kf c (Vr c s0 la) (Kf c s0 L0 la) lb)):=Za fun N w0 W a q Z he hs=>by
  have h:=uR Zbi (by omega) (by omega) yJ he hs PD;rwa [hlb] at h
 have HRy:Hid (∀(w0:DR) (W:Zc) (a:Pl) (q:Ql) (Z:Nat→Zc→(Nat→Prop)→Prop) (al:Option Addr) (cl:Nat),Eg 11 w0 W c a q Z s0 L0→Rv 11 w0 Z al (la++lb)→Calls Zb 27 #[.pointer (some ⟨q.e,0,none⟩),.slice al (Vu+V9) cl] W fun e w'=> ∃g,e= .returned (.slice (some ⟨g,0,none⟩) (Vu+V9) (Vu+V9))∧Eg 12 w0 w' c a q (ZD Z 11 (Mv g (Vu+V9) (GY c s0 (la++lb)))) (Vr c s0 (la++lb)) (Kf c s0 L0 (la++lb))):=Za fun w0 W a q Z al cl he hs=>by
  have h:=uR Um (by rw [jH.out]; omega) (by rw [jH.out]; omega) ZaT he hs cl;rwa [jH.out] at h
 have o4:(GY c s0 la).length=Vu:=by rw [Ld,vi]
 have o5:(GY c (Vr c s0 la) lb).length=V9:=by rw [Ld,hlb]
 have hR3:(GY c s0 (la++lb)).length=Vu+V9:=by rw [Ld,jH.out]
 have hRR:=bG (c:=c) la lb s0;have sR:=bH (c:=c) la lb s0;have hLL:=Wk (c:=c) la lb s0 L0;rw [sR,hLL] at HRy;rw [hRR] at HRy tL hR3;generalize GY c (Vr c s0 la) lb=R2 at*;generalize GY c s0 la=R1 at*;generalize Vr c (Vr c s0 la) lb=s2 at*;generalize Kf c (Vr c s0 la) (Kf c s0 L0 la) lb=L2 at*;generalize Vr c s0 la=s1 at*;generalize Kf c s0 L0 la=L1 at*;have dc:Hid (N5 c (Vu+V9) s2 L2):=Za (by
  have h:=ZeY;rwa [vi,hlb,Nat.zero_add] at h)
 have Iu:=Za (And.intro o4 (And.intro o5 hR3));have HLa:=Za vi;have HLb:=Za hlb;clear Um Zbi ZeY o4 o5 hR3 hRR sR hLL Wd hL0 vi hlb hfa yJ ZaT yX hsb hf f0;go_enter Tryz.func7,Tryz.ntmps7;go_upto_region 1 with (fail);generalize w.alloc (.cells (Zk c) 24)=W1 at*;generalize yG:w.heap.size=b at*;have HBB:=Za yG;clear yG;go_wp2_with (first | (refine Zn rfl 24 _ rfl b rfl 24 _ (0,0) _ mH.out ZC rfl XG ?_));refine (HN.out W1).mono ?_;rintro e w2 ⟨a,q,rfl,h2⟩;have D2:=Za ((h2 CF).down);obtain ⟨Sx,x2,xl,xm⟩:=(h2 CF).rebase;have XM:Hid (∀i,Sx i→W1.heap.size≤i∧i < w2.heap.size):=Za fun i hi=>⟨(xm i hi).resolve_left (fun h=>h),xl i hi⟩
 have X2:=Za x2;have UJ:=Za (mH.out.below D2.out mH.out.lt);clear h2 x2 xl xm;go_wp2_with (first | (refine Zn rfl 24 _ rfl b rfl 24 _ (0,0) _ UJ.out ZC rfl XG ?_));refine (HN.out w2).mono ?_;rintro e w3 ⟨a',q',rfl,h3⟩;have b3:=(h3 CF).down;obtain ⟨Sy,y3,yl,ym⟩:=(h3 CF).rebase;have YM:Hid (∀i,Sy i→w2.heap.size≤i∧i < w3.heap.size∧W1.heap.size≤i):=Za fun i hi=>⟨(ym i hi).resolve_left (fun h=>h),yl i hi,Z9 D2.out.size ((ym i hi).resolve_left (fun h=>h))⟩
 have Y3:=Za y3;have X3:=Za (X2.out.aside_below b3);have D3:=Za (D2.out.trans (b3.mono D2.out.size));have AS:=Za (UJ.out.below b3 UJ.out.lt);have HXY:Hid (∀i,Sx i→ ¬Sy i):=Za fun i h1 h2=>by have:=(XM.out i h1).2; have:=(YM.out i h2).1; omega
 clear h3 y3 yl ym b3 X2 D2 UJ HN;go_wp2_with (first | (refine Zn rfl 24 _ rfl b rfl 24 _ (0,0) _ AS.out ZC rfl XG ?_));refine (sI.out w3).mono ?_;rintro e w4 ⟨rfl,b4⟩;have nb:=Za (AS.out.below b4 AS.out.lt);go_wp2_with (first | (refine Fg rfl 24 _ rfl b rfl 24 _ (0,0) _ nb.out ZC rfl XG ?_));refine (yb.out w4).mono ?_;rintro e w5 ⟨rfl,b5⟩;have X5:=Za ((X3.out.aside_below b4).aside_below b5);have Y5:=Za ((Y3.out.aside_below b4).aside_below b5);have b45:=b4.trans (b5.mono b4.size);have D5:=Za (D3.out.trans (b45.mono D3.out.size));have Y5L:Hid (∀i,Sy i→i < w5.heap.size):=Za fun i hi=>Ya (YM.out i hi).2.1 b45.size
 have Iv: ∀ {al:Option Addr} {l:List Oq},Kc Ud 4 W1 (fun _=>False) al l→Kc Ud 4 w5 Sx al l:=fun h=>by
  intro h0;obtain ⟨g,off,e,_,XP,hr⟩:=h h0;refine ⟨g,off,e,fun hx=>?_,Ya XP D5.out.size,fun i v hi=>Y6 (hr i v hi) XP D5.out⟩;have:=(XM.out g hx).1;omega
 have ZdG:=Za (Iv HSa.out);have ZdI:=Za (Iv HSb.out);clear b4 b5 b45 AS nb X3 Y3 D3 sI yb Iv;go_wp2_with fail;refine (HRa.out _ _ _ _ _ _ X5.out (.inl ZdG.out)).mono ?_;rintro e w6 ⟨g1,rfl,h6⟩;have X6:=Za h6;clear h6 HRa;go_wp2_with fail;refine (HRb.out _ _ _ _ _ _ X6.out (.inl ZdI.out)).mono ?_;rintro e w7 ⟨g2,rfl,h7⟩;have K7:=Za h7.kept0;have D7:Hid (Zs W1.heap.size W1 w7):=Za (K7.out.below D5.out (fun i hi=>(XM.out i hi).1) D5.out.size);have Y7:Hid (Eg 11 ⟨Sy,w7⟩ w7 c a' q' CF s0 L0):=Za (Y5.out.aside K7.out fun i h1 h2=>HXY.out i h2 h1);obtain ⟨S1,T2,p7,z2,d1,l1,l2,m1,m2⟩:=h7.part_off (by omega);obtain ⟨S2,T1,q7,z1,d2,l3,l4,m3,m4⟩:=p7.part_off (by omega);rw [xput_same] at z2;rw [xput_ne (by omega),xput_same] at z1;have t12: ∀i,T1 i→ ¬T2 i:=fun i h=>d1 i ((m4 i h).resolve_right (by have:=l4 i h; show ¬w7.heap.size≤i; omega))
 have mk: ∀i,PA ⟨Sx,w5⟩ i→ ¬Sy i:=fun i h hy=>by
  rcases h with h | h
  ·exact HXY.out i h hy
  ·have:=Y5L.out i hy; have h:w5.heap.size≤i:=h; omega
 have s2x: ∀i,S2 i→PA ⟨Sx,w5⟩ i:=fun i h=>m1 i ((m3 i h).resolve_right (by have:=l3 i h; show ¬w7.heap.size≤i; omega))
 have t1x: ∀i,T1 i→PA ⟨Sx,w5⟩ i:=fun i h=>m1 i ((m4 i h).resolve_right (by have:=l4 i h; show ¬w7.heap.size≤i; omega))
 obtain ⟨rz,k1,B1,t1,f1⟩:=SX z1 Iu.out.1;obtain ⟨th,k2,B2,t2,f2⟩:=SX z2 Iu.out.2.1;have O1:=Za (bQ B1 (k1.trans Iu.out.1) (by omega));have C2:=Za (lN (n:=V9) B2);have Q7:Hid (Eg 11 ⟨S2,w7⟩ w7 c a q CF s2 L2):=Za (q7.ext fun k h1 h2=>by rw [xput_ne (by omega),xput_ne (by omega)]);have HJ:Hid (∀(w':Zc) (ap:Option Addr) (cp:Nat),w'.ownsRow 0 42 9 (.slice ap (Vu+V9) cp) (Vu+V9) (Yl Jc rz++Yl Jc th)→Kept (fun i=>i=g1) w7 w'→((Yj ap (Vu+V9) cp).ownBlock=some g1∨(Yj ap (Vu+V9) cp).ownBlock=some w7.heap.size)→Rt w' Sy ap (rz++th) (R1++R2)):=Za fun w' ap cp ho hk hw=>
  nF k1 t1 f1 k2 f2 t12 (fun i hi h=>mk i (t1x i h) hi) (fun i hi h=>mk i (m2 i h) hi) (fun i hi=>Ya (Y5L.out i hi) K7.out.size) Iu.out.1 Iu.out.2.1 ho hk hw
 have dd:Hid (∀i,S2 i→ ¬Sy i∧i≠g1∧i < w7.heap.size∧W1.heap.size≤i):=Za fun i hi=>⟨mk i (s2x i hi),fun e=>d2 i hi (e▸t1),l3 i hi,by
  rcases s2x i hi with h | h
  ·exact (XM.out i h).1
  ·exact Z9 D5.out.size h⟩
 have HG1:Hid (¬Sy g1∧W1.heap.size≤g1):=Za ⟨mk g1 (t1x g1 t1),by
  rcases t1x g1 t1 with h | h
  ·exact (XM.out g1 h).1
  ·exact Z9 D5.out.size h⟩
 have Y7L:Hid (∀i,Sy i→i < w7.heap.size∧W1.heap.size≤i):=Za fun i hi=>⟨Ya (Y5L.out i hi) K7.out.size,(YM.out i hi).2.2⟩
 clear h7 p7 q7 z1 z2 d1 d2 l1 l2 l3 l4 m1 m2 m3 m4 t12 mk s2x t1x B1 B2 t1 t2 f1 f2 X6 X5 Y5 HRb ZdG ZdI D5 Y5L;have ze:th.length=V9:=k2.trans Iu.out.2.1;have HV2:=Za ze;clear k1 k2 ze;obtain ⟨i0,MD,BM,Wd,Wc⟩:=qP;have HI0:=Za Wc;clear Wc;go_upto_region 8 with (first | (at_builtin; refine X7 _ rfl (.tmp 42) (.tmp 45) 66 rfl 0 42 i0 _ 9 i0.bytes Tryz.underlying66 MD BM Wd rfl rfl (by omega) (.slice (some ⟨g1,0,none⟩) Vu Vu) Vu (Yl Jc rz) rfl O1.out (some ⟨g2,0,none⟩) V9 V9 (Yl Jc th) rfl (by rw [FK,HV2.out]) C2.out (Oi Rc.row_one) (by unfold maxLen; omega) (Z9 (Nat.mul_le_mul (show Vu+V9≤800 by omega) HI0.out) (by omega)) (Nat.zero_le _) ?_; intro v8 w8 hv hg hw; obtain ⟨ap,cp,rfl⟩:=iN hv));have K8:Kept (fun i=>i=g1) w7 w8:=Kept.of_grown hg (fun i e=>by simp [Y4] at e; exact e);have P8:=Za (HJ.out w8 ap cp hv K8 (by simpa [Y4] using hw));have X8:=Za (Q7.out.aside K8 (fun i hi e=>(dd.out i hi).2.1 e));have Y8:=Za (Y7.out.aside K8 (fun i hi e=>HG1.out.1 (e▸hi)));have D8:=Za (K8.below D7.out (fun i e=>e▸HG1.out.2) D7.out.size);have Y8L:Hid (∀i,Sy i→i < w8.heap.size∧W1.heap.size≤i):=Za fun i hi=>⟨Ya (Y7L.out i hi).1 K8.size,(Y7L.out i hi).2⟩
 have X8L:Hid (∀i,S2 i→ ¬Sy i∧i < w8.heap.size∧W1.heap.size≤i):=Za fun i hi=>⟨(dd.out i hi).1,Ya (dd.out i hi).2.2.1 K8.size,(dd.out i hi).2.2.2⟩
 clear hv hg hw K8 HJ O1 C2 HV2 HI0 MD BM Wd Q7 Y7 D7 dd HG1 Y7L K7;try simp only [Act.put]
 obtain ⟨j0,aI,BM,BG,Mn⟩:=Zd2;have HE:Hid (Blk (w8.alloc (.cells #[] 37)) w8.heap.size 37 #[]):=Za (Blk.new _ _ _);have BE:Hid (Zs w8.heap.size w8 (w8.alloc (.cells #[] 37))):=Za ((Zp _ _).alloc (Zg _) _);have ZdH:=Za (HSa.out.below (D8.out.alloc D8.out.size (.cells #[] 37)));have ZdJ:=Za (HSb.out.below D8.out);go_wp2_with (first
  | (at_builtin; refine X7 _ rfl (.tmp 48) (.tmp 49) 25 rfl w8.heap.size 37 j0 _ 4 32 Tryz.underlying25 aI BM BG Mn rfl (by omega) (.slice (some ⟨w8.heap.size,0,none⟩) 0 0) 0 [] rfl (SG HE.out (Zg _)) a1 Vu cap1 (Yl Ud la) rfl (by rw [UO GG,HLa.out]) (fun h0=>ZdH.out.flat GG (by omega) (by rw [HLa.out]; exact h0)) (Oi Oq.row_one) (by unfold maxLen; omega) (by omega) BE.out.size ?_; intro v9 w9 ho9 hg9 hv9; have O9:Hid (w9.ownsRow w8.heap.size 37 4 v9 Vu (Yl Ud la)):=Za (by simpa using ho9); have B9:Hid (Zs w8.heap.size w8 w9):=Za (BE.out.grown hg9 BE.out.size (fun q hq=>by simp [Y4] at hq; omega)); have ZdK:=Za (ZdJ.out.below B9.out); clear ho9 hg9 hv9 HE BE ZdH)
  | (at_builtin; refine X7 _ rfl (.tmp 50) (.tmp 51) 25 rfl w8.heap.size 37 j0 _ 4 32 Tryz.underlying25 aI BM BG Mn rfl (by omega) v9 Vu (Yl Ud la) rfl O9.out a2 V9 PD (Yl Ud lb) rfl (by rw [UO GG,HLb.out]) (fun h0=>ZdK.out.flat GG (by omega) (by rw [HLb.out]; exact h0)) (Oi Oq.row_one) (by unfold maxLen; omega) (by omega) B9.out.size ?_; intro v10 zi ho10 hg10 hv10; have B10:Hid (Zs w8.heap.size w8 zi):=Za (B9.out.grown hg10 B9.out.size (fun q hq=>(O9.out.lt q hq).1)); obtain ⟨al,cl,rfl⟩:=iN ho10; have O10:=Za ho10; clear ho10 hg10 hv10 O9 B9 ZdK ZdJ))
 clear aI BM BG Mn;have X10:=Za (X8.out.aside_below B10.out);have Y10:=Za (Y8.out.aside_below B10.out);have P10:=Za (P8.out.below B10.out);have D10:=Za (D8.out.trans (B10.out.mono D8.out.size));have S10:Hid (Kc Ud 4 zi Sy al (la++lb)):=Za (by
  have h:=O10.out;rw [←JP] at h;refine (KW GG (GV h (Nat.zero_le _)) jH.out).more fun i _ hi e=>?_
  have:=(h.lt i e).1;have:=(Y8L.out i hi).1;omega)
 refine (HRy.out _ _ _ _ _ al cl Y10.out (.inl S10.out)).mono ?_;rintro e zj ⟨g3,rfl,UP⟩;have K11:=UP.kept0;have X11:=Za (X10.out.aside K11 (fun i h hy=>(X8L.out i h).1 hy));have P11:=Za (P10.out.kept K11);have D11:=Za (K11.below D10.out (fun i hi=>(Y8L.out i hi).2) D10.out.size);have b8:=Z9 B10.out.size (Zg _);obtain ⟨S4,T3,y11,z3,_,l5,_,m5,_⟩:=UP.part_off (by omega);rw [xput_same] at z3;obtain ⟨us,hus⟩:=wz z3 Iu.out.2.2 (by omega);have Q11:=Za hus;have Y11:=Za y11;have Zag:Hid (∀i,S2 i→ ¬S4 i):=Za fun i h1 h2=>by
  rcases m5 i h2 with h | h
  ·exact (X8L.out i h1).1 h
  ·have:=(X8L.out i h1).2.1; have h:zi.heap.size≤i:=h; omega
 have ZdZ:Hid (∀i,S2 i→W1.heap.size≤i):=Za fun i hi=>(X8L.out i hi).2.2
 have Zaj:Hid (∀i,S4 i→i < zj.heap.size∧W1.heap.size≤i):=Za fun i hi=>⟨l5 i hi,by
  rcases m5 i hi with h | h
  ·exact (Y8L.out i h).2
  ·exact Z9 D10.out.size h⟩
 clear UP K11 b8 y11 z3 l5 m5 hus X10 Y10 P10 D10 B10 S10 O10 X8 Y8 P8 D8 Y8L X8L HRy HSa HSb;go_wp2_with fail;refine (HA.out zj).mono ?_;rintro e w12 ⟨rfl,b12⟩;have P12:=Za (P11.out.below b12);have Q12:=Za (Q11.out.below b12);clear P11 Q11;go_wp2_with fail;refine (lO ap (some ⟨g3,0,none⟩) cp (Vu+V9) (Vu+V9) _ us (R1++R2) w12 P12.out Q12.out Iu.out.2.2 (by omega) tL.out).mono ?_;rintro e w13 ⟨rfl,b13⟩;have X13:=Za ((X11.out.aside_below b12).aside_below b13);have Y13:=Za ((Y11.out.aside_below b12).aside_below b13);have Zan:=b12.trans (b13.mono b12.size);have D13:=Za (D11.out.trans (Zan.mono D11.out.size));have Zak:Hid (∀i,S4 i→i < w13.heap.size∧W1.heap.size≤i):=Za fun i hi=>⟨Ya (Zaj.out i hi).1 Zan.size,(Zaj.out i hi).2⟩
 clear b12 b13 Zan P12 Q12 X11 Y11 D11 Zaj tL;go_wp2_with fail;refine (dc.out.snap (by omega) X13.out).mono ?_;rintro e w14 ⟨x1,x2,x3,x4,x5,x6,rfl,h14⟩;have K14:=h14.kept0;have Y14:=Za (Y13.out.aside K14 (fun i h1 h2=>Zag.out i h2 h1));have D14:=Za (K14.below D13.out (fun i hi=>ZdZ.out i hi) D13.out.size);obtain ⟨S5,x14,_,m6⟩:=h14.rebase;have X14:=Za x14;have ZdR:Hid (∀i,S5 i→ ¬S4 i):=Za fun i h1 h2=>by
  rcases m6 i h1 with h | h
  ·exact Zag.out i h h2
  ·have:=(Zak.out i h2).1; have h:w13.heap.size≤i:=h; omega
 clear h14 K14 x14 m6 X13 Y13 D13 Zag ZdZ;go_wp2_with fail;refine (dc.out.snap (by omega) Y14.out).mono ?_;rintro e w15 ⟨y1,y2,y3,y4,y5,y6,rfl,kM⟩;have K15:=kM.kept0;have D15:=Za (K15.below D14.out (fun i hi=>(Zak.out i hi).2) D14.out.size);have X15:=X14.out.aside K15 ZdR.out;have f:=dc.out.few;have HQ:=Za (Wf s2 (Yy s2.V) L2.length x1.a x2.a x3.a x4.a x5.a x6.a x1.n x2.n x3.n x4.n x5.n x6.n x1.c x2.c x3.c x4.c x5.c x6.c y1.a y2.a y3.a y4.a y5.a y6.a y1.n y2.n y3.n y4.n y5.n y6.n y1.c y2.c y3.c y4.c y5.c y6.c w15 (oI (by have:=f.v; omega) f.p f.f f.w f.m f.t
  (X15.row (r:=11) (by omega) (by omega) rfl) (X15.row (r:=12) (by omega) (by omega) rfl) (X15.row (r:=13) (by omega) (by omega) rfl) (X15.row (r:=14) (by omega) (by omega) rfl) (X15.row (r:=15) (by omega) (by omega) rfl) (X15.row (r:=16) (by omega) (by omega) rfl)
  (kM.row (r:=11) (by omega) (by omega) rfl) (kM.row (r:=12) (by omega) (by omega) rfl) (kM.row (r:=13) (by omega) (by omega) rfl) (kM.row (r:=14) (by omega) (by omega) rfl) (kM.row (r:=15) (by omega) (by omega) rfl) (kM.row (r:=16) (by omega) (by omega) rfl)))
 clear kM K15 X15 f Y14 X14 D14 ZdR Zak dc;go_wp2_with fail;refine HQ.out.mono ?_;rintro e w16 ⟨rfl,b16⟩;have D16:=Za (D15.out.trans (b16.mono D15.out.size));clear b16 D15 HQ;go_wp2_with fail;go_ret;exact ⟨rfl,HBB.out▸Hb0.out.trans (D16.out.mono (Nat.le_of_lt mH.out.lt))⟩
end
section
open Go Go.ChangeShapes Go.WideShapes Go.ChangeAt Go.RowKit
open Go.ChangeMaps (open_string shut_string)
theorem own:ownKnob Tryz.prog.godebug=none:=Zar
theorem laidOut:laidOutB Zb=true:=gY
theorem Zbw (os:Os)(started:os.Started)(H:Type)(enc:TypeId × Value→H) :
  ReturnsInHanded {} Tryz.checked os 7 .any (Rows.enginePartsSpec.pre6 enc Zb Tryz.f7 Rows.enginePartsRow.domain false) (Rows.enginePartsSpec.post enc Zb Tryz.f7 false true false false):=by
 refine returnsInHanded_of_change (C:=Tryz.checked) own started (by as_aux_lemma=>kernel_rfl) Tryz.func7
  (ChangeSpec.witness6 (enc:=enc) (C:=Tryz.checked) false ⟨#[],#[.agg (Zk (fun _=>0)),.slice none 0 0,.slice none 0 0],[]⟩ 8 (by as_aux_lemma=>kernel_rfl) (by as_aux_lemma=>kernel_rfl) (by as_aux_lemma=>kernel_rfl) (by as_aux_lemma=>kernel_rfl)) ?_
 intro W base args ds gs before hval0 hW hcnd Er;have vz: ∀(j:Nat) t v,Tryz.f7.params[j]?=some t→args[j]?=some v→Value.okWide Zb W .any base t v:=hval0;have hW':=hW;obtain ⟨p,q,PG,hV,rfl,hfz,yT⟩:=hW;have hA:DataW.TrodAll enc Zb W 0 (fun _=>true) true Tryz.f7.params.toList args.toList ds p:=PG;rw [Tryz.params7] at hA vz;obtain ⟨v0,vs0,d0,ds0,p0,q0,hargs,rfl,rfl,h0,r0⟩:=trodAll_cons hA;obtain ⟨v1,rz,d1,ds1,p1,q1,rfl,rfl,rfl,h1,r1⟩:=trodAll_cons r0;obtain ⟨v2,th,d2,ds2,p2,q2,rfl,rfl,rfl,h2,r2⟩:=trodAll_cons r1;obtain ⟨rfl,rfl,rfl⟩:=trodAll_nil r2;obtain rfl:args= #[v0,v1,v2]:=by cases args; simp_all
 obtain ⟨rfl,rfl⟩:=trodVars_none hV;obtain ⟨a0,rfl,w0⟩:=open_T24 (vz 0 24 v0 rfl rfl) h0;have k0:=h0;have lt0: ∀x ∈ p0,x.block < W.heap.size:=by obtain ⟨m,hm⟩:=k0; exact DataW.trod_lt m _ _ _ hm
 obtain ⟨a1,Vu,cap1,rfl,w1⟩:=open_S25 (vz 1 25 v1 rfl rfl) h1;have k1:=h1;have lt1: ∀x ∈ p1,x.block < W.heap.size:=by obtain ⟨m,hm⟩:=k1; exact DataW.trod_lt m _ _ _ hm
 obtain ⟨a2,V9,PD,rfl,w2⟩:=open_S25 (vz 2 25 v2 rfl rfl) h2;have k2:=h2;have lt2: ∀x ∈ p2,x.block < W.heap.size:=by obtain ⟨m,hm⟩:=k2; exact DataW.trod_lt m _ _ _ hm
 clear PG hval0;refine (OI a0 a1 Vu cap1 a2 V9 PD W w0 w1 w2).mono fun e W' ⟨he,bel⟩=>?_
 subst he;exact ⟨_,rfl,_,_,_,[],_,[],hW',trodAll_mk1 (shut_bool Tryz.underlying4 _),(trodAll_cons_mk (Below.trod laidOut (by as_aux_lemma=>kernel_rfl) (of_decide_eq_true (by as_aux_lemma=>kernel_rfl)) k0 bel lt0) (trodAll_cons_mk (Below.trod laidOut (by as_aux_lemma=>kernel_rfl) (of_decide_eq_true (by as_aux_lemma=>kernel_rfl)) k1 bel lt1) (trodAll_cons_mk (Below.trod laidOut (by as_aux_lemma=>kernel_rfl) (of_decide_eq_true (by as_aux_lemma=>kernel_rfl)) k2 bel lt2) trodAll_mk0))),rfl,bel.frame _,fun h=>by cases h⟩
theorem Jv {a b:Bool}(ha:a=true)(hb:b=true) :(a&&b)=true:=by rw [ha,hb]; rfl
theorem Zat:joinedFacts Zb 7 Tryz.f7 Rows.enginePartsSpec Rows.enginePartsRow=true:=by
 unfold joinedFacts;exact (Jv (Jv (Jv (Jv (Jv (Jv (Jv (Jv (Jv (Jv (Jv (Jv (Jv (Jv (Jv (Jv (Jv (Jv (Jv (Jv (Jv (Jv (Jv (Jv (Jv (Jv (Jv (Jv (Jv (Jv (Jv (by as_aux_lemma=>kernel_rfl) gY) ur) (by as_aux_lemma=>kernel_rfl)) (by as_aux_lemma=>kernel_rfl)) (by as_aux_lemma=>kernel_rfl)) nU) (by as_aux_lemma=>kernel_rfl)) nT) (by as_aux_lemma=>kernel_rfl)) (by as_aux_lemma=>kernel_rfl)) (by as_aux_lemma=>kernel_rfl)) (by as_aux_lemma=>kernel_rfl)) (by as_aux_lemma=>kernel_rfl)) (by as_aux_lemma=>kernel_rfl)) (by as_aux_lemma=>kernel_rfl)) (by as_aux_lemma=>kernel_rfl)) (by as_aux_lemma=>kernel_rfl)) (by as_aux_lemma=>kernel_rfl)) (by as_aux_lemma=>kernel_rfl)) (by as_aux_lemma=>kernel_rfl)) (by as_aux_lemma=>kernel_rfl)) um) (by as_aux_lemma=>kernel_rfl)) nS) nQ) uo) uq) (by as_aux_lemma=>kernel_rfl)) (by as_aux_lemma=>kernel_rfl)) (by as_aux_lemma=>kernel_rfl)) (by as_aux_lemma=>kernel_rfl))
theorem Zi0:Rows.enginePartsRow.holds Tryz.pinned (OpenSpec.ofChange Rows.enginePartsSpec):=
 OpenClaim.holds_of_wide 7 Tryz.f7 rfl rfl rfl rfl rfl rfl rfl ⟨rfl,rfl,rfl,rfl,rfl⟩ rfl rfl rfl rfl rfl (by as_aux_lemma=>kernel_rfl) Tryz.func7 Zat
  (of_decide_eq_true (by as_aux_lemma=>kernel_rfl)) (by unfold Func.isWrapper; first | (rw [if_pos (by decide+kernel)]; kernel_rfl) | (rw [if_neg (by decide+kernel)]; exact ⟨rfl,rfl⟩))
  (fun os started H enc _=>Zbw os started H enc)
theorem proved:Rows.EnginePartsSaid:=Zi0
end
end Go.Proofs.YtianiiijaopdpaaGreat
