/- Part 5 of 34: L04PushInt L09Cyc L09Cur L09Idx L10Num L14Bat L13Row OL L02Clock L04OpsDuo L04CopyDuo L04GrowDuo L04PushDuo L04OpsReq L04CopyReq L04GrowReq L04PushReq L04AllDuo. -/
import Derived.Test.YtobgbcdgffgdhaaGreatZx00
import Derived.Test.YtobgbcdgffgdhaaGreatZx04
namespace Go.Proofs.YtobgbcdgffgdhaaGreat
set_option linter.unusedVariables false
set_option linter.unusedSimpArgs false
set_option maxRecDepth 100000
set_option maxHeartbeats 8000000
open _root_.Go.Proofs.YtobgbcdgffgdhaaGreat.Zu renaming kept -> Q3, ne_ -> JV, new -> Zs, set_ -> VH
open _root_.Go renaming Calls -> Zv, Value -> Zl, World -> Zc
open _root_.Int renaming ediv_le_self -> JY, ediv_nonneg -> Kg
open _root_.Go.Proofs.YtobgbcdgffgdhaaGreat.ZA renaming refl -> ZS
open _root_.List renaming eq_nil_of_length_eq_zero -> ZO, length_cons -> Yg, mem_of_mem_drop -> Xn, mem_of_mem_take -> ZT, mem_singleton -> Ym, replicate -> ZD
open _root_.Nat renaming div_add_mod -> K8, eq_zero_or_pos -> Qz, le_refl -> Zh, lt_of_lt_of_le -> YC, zero_mul -> JL
open _root_.Ne renaming symm -> Ji
open _root_.Go.Proofs.YtobgbcdgffgdhaaGreat.YG renaming kept -> Bq
open _root_.Go.Proofs.Tryz renaming prog -> Zb
open _root_.Go.Value renaming cells -> Yr, slice -> Ys
open Go.Proofs.Tryz
theorem mS {G:Prop}(h:G:=by show m - u=min _ _; omega) :G:=h
theorem mR {G:Prop}(h:G:=by rw [Rm]; exact ti.o) :G:=h
theorem mQ {G:Prop}(h:G:=by rwa [List.getElem?_drop] at hv) :G:=h
theorem CC {G:Prop}(h:G:=by rw [Ns]; omega) :G:=h
theorem mP {G:Prop}(h:G:=by simp at h0; have:=Iw.o; omega) :G:=h
theorem mO {G:Prop}(h:G:=by show u=min _ _; have:=HU.o; omega) :G:=h
theorem mM {G:Prop}(h:G:=by have:=HC.o; have:=Iw.o; simp; omega) :G:=h
theorem Sc {G:Prop}(h:G:=by have:=Iw.o; simp; omega) :G:=h
theorem mJ {G:Prop}(h:G:=by rw [length_splice _ _ _ (by have:=HC.o; have:=Iw.o; simp; omega)]; have:=HC.o; have:=Iw.o; simp; omega) :G:=h
theorem zN {G:Prop} (h:G:=by
  have SH:=HI.o.1;have hFo:=HI.o.2.1;refine ⟨some g,?_,ZaW.o,?_⟩
  ·refine ⟨by rw [List.length_append,SH,Iw.o,Nat.add_mul],fun v hv=>(List.mem_append.1 hv).elim (hFo v) (HLo.o v),.inr ⟨g,n,f,_,rfl,⟨?_,Zu.far (HD2.o) (Ne.symm TR) _,?_,Ab,hn,RH,hs⟩,?_⟩⟩
   ·have:=WW.o.set_ 3 (.int .i64 ((c:Int)+(m:Int)));rw [show (c:Int)+(m:Int)=((c+m:Nat) :Int) by omega] at this ⊢;exact this
   ·have:=HC.o; have:=Iw.o;rw [length_splice _ _ _ (by rw [length_splice _ _ _ Xo]; simp; omega),length_splice _ _ _ Xo];exact HC.o
   ·have:=lO HW.o SH HC.o Iw.o hn HSV.o.symm HU.o
    first | exact this | (simp only [Nat.mul_one] at this ⊢; exact this)
  ·refine ZA.setCell (S:=Je b go) ?_ (.inl (.inl rfl)) _;have k1:ZA (fun i=>i=g) w1 W2:=((((ZA.refl _ w1).drewN nr).trans OV.o (fun _ _ h=>h)).drewN ns).trans K2 (fun _ _ h=>h);refine (HK.o.more (fun i _ e=> .inl e)).trans k1 (fun i hi e=>?_);subst e
   rcases ZaW.o _ rfl with h5 | h5
   ·exact .inr h5.symm
   ·omega) :G:=h
theorem zQ {G:Prop} (h:G:=by
  obtain ⟨_,_,hc3⟩:=tJ.o;obtain ⟨ad',e,hS,hcc⟩:=hc3 Zf;injection e with e;subst e;rintro hg
  rcases bT g rfl with h5 | h5
  ·exact hS (.inr (by rw [hg,h5]))
  ·have:=GW (hcc 0 _ (List.getElem?_eq_getElem (by have:=tJ.o.1; omega)));rw [Rm] at this;omega) :G:=h
theorem zR {G:Prop} (h:G:=by
  obtain ⟨x1,x2,x3⟩:=tJ.o.kept hk (fun i _ e=> .inl e);obtain ⟨ad',e,hS,hcc⟩:=x3 Zf;injection e with e;subst e;refine ⟨_,by simp; omega,fun v hv=>x2 v (List.mem_of_mem_take hv),fun j v hv=>hcc j v (NC hv),rfl⟩) :G:=h
theorem zS {G:Prop} (h:G:=by
  go_wp2_with fail;refine (HF.o _ (Za rfl)).mono ?_;rintro e w' ⟨rfl,m,rfl⟩;go_wp2;go_ret;exact ⟨rfl,_,rfl⟩) :G:=h
theorem zT {G:Prop} (h:G:=by
  rw [<-HLe.o] at Ub;have HE:=Za Ub;clear S2 K2 Ub;go_wp2
  all_goals
   go_ret;exact ⟨rfl,HE.o⟩) :G:=h
theorem aT {G:Prop} (h:G:=by
  go_ret;exact ⟨rfl,_,rfl⟩) :G:=h
theorem zT2 {G:Prop} (h:G:=by
  go_enter func133,ntmps133;go_wp2_with fail;refine (HF.o _ (Za rfl)).mono ?_;rintro e w' ⟨rfl,q,rfl⟩;go_wp2_with fail;refine (KEY.o q).mono ?_;rintro e w1 ⟨rfl,g,n,f,C,hr,hw,hn,bT,hk⟩;obtain ⟨-,d1,d2,d3,-,-,vg⟩:=hr.cells;have fT: ¬ad.block=g:=zQ
  have ti:=Za fT;obtain ⟨L,bO,hLo,hLc,vr⟩ : ∃L:List Value,L.length=m*2/\(∀v ∈ L,v.oneCell'=true)/\(∀j v,L[j]?=some v->w1.cell? (ad.add j)=some v)/\cs.take (m*2)=L:=zR
  obtain ⟨B1,B2,hC,Ab,W6,RH,-⟩:=hr;have EU:=Za B1;have GI:=Za B2;have HC:=Za hC;have HW:=Za hw;have ZaW:=Za bT;have HK:=Za hk;have Iw:=Za bO;have HLo:=Za hLo;have HLc:=Za hLc;have HLe:=Za vr;clear B1 B2 hC hw bT hk bO hLo hLc vr fT;obtain ⟨s,hsv⟩ : ∃s:Nat,(f+c)%n=s:=⟨_,rfl⟩;have Ff:s < n:=pC
  have VX: ∀W:World,W.cell? ⟨b,1,none⟩=some (.slice (some ⟨g,0,none⟩) n n)->W.cell? ⟨b,2,none⟩=some (.int .i64 f)->Xc 191 #[.pointer (some ⟨b,0,none⟩),.int .i64 c] W (.int .i64 s):=fun W x1 x2=>by
   have:=MK b n f c _ n W x1 x2 Zf Zf Zf;rwa [hsv] at this
  have Rj:=Za VX;have HSV:=Za hsv;obtain ⟨u,hu,hu0,hu1,hu2⟩ : ∃u:Nat,u=min m (n - s)/\u<=m/\u<=n - s/\(u=m\/u=n - s):=⟨_,rfl,by omega,by omega,by omega⟩;have HU:=Za hu;have HU2:=Za hu2;clear VX hsv hu hu2;go_wp2;refine BU 14 ?_;refine BY ?_
  repeat (go_big_quiet_step ((go_at_call 191; exact Calls.quiet_of (Rj.o _ d1 d2))))
  refine Yo ?_;intro _ JG;obtain ⟨nr,Xk⟩:=JG;subst Xk;refine Xg rfl (.tmp 32) (.tmp 35) _ _ rfl 116 underlying25 2 Zf HT.o _ _ _ _ _ _ rfl rfl g (s*2) C 116 GI.o (L.take (u*2)) u mO Sc
   (fun _=>⟨rfl,_,rfl,fun j v hv=>HLc.o j v (NC hv)⟩) mM (fun v hv=>HLo.o v (List.mem_of_mem_take hv)) ?_
  intro W1 HD1 K1 S1;have TR: ¬b=g:=Zu.ne_ EU.o GI.o Y5;have x1:=K1.cell (p:=⟨b,1,none⟩) TR (by simpa using d1);have fR: ∀j v,L[j]?=some v->W1.cell? (ad.add j)=some v:=fun j v hv=>K1.cell mR (HLc.o j v hv)
  have FN:Zj (Zu W1 b 151 #[.int .i64 size,.slice (some ⟨g,0,none⟩) n n,.int .i64 f,.int .i64 c]):=Za (Zu.kept (w:=w1.drewN nr) EU.o K1 TR);have tE:=Za fR;have OV:=Za K1;clear S1 K1 fR d1 d2 d3 vg;go_wp2;refine BU 8 ?_;refine BY ?_
  repeat (go_big_quiet_step (fail))
  refine Yo ?_;intro _ JG;obtain ⟨ns,Xk⟩:=JG;subst Xk;refine Xg rfl (.tmp 40) (.tmp 44) _ _ rfl 116 underlying25 2 Zf HT.o _ _ _ _ _ _ rfl rfl g 0 _ 116 HD1.o (L.drop (u*2)) (m - u) mS Sc
   (fun h0=>⟨rfl,ad.add (u*2),by first | rfl | exact if_neg mP,fun j v hv=>by rw [Wp]; exact tE.o _ v mQ⟩) mJ (fun v hv=>HLo.o v (List.mem_of_mem_drop hv)) ?_
  intro W2 HD2 K2 S2;have WW:Zj (Zu W2 b 151 #[.int .i64 size,.slice (some ⟨g,0,none⟩) n n,.int .i64 f,.int .i64 c]):=Za (Zu.kept (w:=W1.drewN ns) FN.o K2 TR);have y3:=WW.o.cell 3;have z3:=WW.o.frozen 3;have Ub: ∃go',YG 151 116 2 (W2.setCell ⟨b,3,none⟩ (.int .i64 ((c:Int)+(m:Int)))) b go' size (c+m) (F++L)/\Gv w go go'/\ZA (Je b go) w (W2.setCell ⟨b,3,none⟩ (.int .i64 ((c:Int)+(m:Int)))):=zN
  exact zT) :G:=h
theorem zT3 {G:Prop} (h:G:=by
  go_enter func135,ntmps135;go_wp2_with fail;refine (HF.o _ (Za rfl)).mono ?_;rintro e w' ⟨rfl,q,rfl⟩;go_wp2_with fail;refine (KEY.o q).mono ?_;rintro e w1 ⟨rfl,g,n,f,C,hr,hw,hn,bT,hk⟩;obtain ⟨-,d1,d2,d3,-,-,vg⟩:=hr.cells;have fT: ¬ad.block=g:=zQ
  have ti:=Za fT;obtain ⟨L,bO,hLo,hLc,vr⟩ : ∃L:List Value,L.length=m*2/\(∀v ∈ L,v.oneCell'=true)/\(∀j v,L[j]?=some v->w1.cell? (ad.add j)=some v)/\cs.take (m*2)=L:=zR
  obtain ⟨B1,B2,hC,Ab,W6,RH,-⟩:=hr;have EU:=Za B1;have GI:=Za B2;have HC:=Za hC;have HW:=Za hw;have ZaW:=Za bT;have HK:=Za hk;have Iw:=Za bO;have HLo:=Za hLo;have HLc:=Za hLc;have HLe:=Za vr;clear B1 B2 hC hw bT hk bO hLo hLc vr fT;obtain ⟨s,hsv⟩ : ∃s:Nat,(f+c)%n=s:=⟨_,rfl⟩;have Ff:s < n:=pC
  have VX: ∀W:World,W.cell? ⟨b,1,none⟩=some (.slice (some ⟨g,0,none⟩) n n)->W.cell? ⟨b,2,none⟩=some (.int .i64 f)->Xc 196 #[.pointer (some ⟨b,0,none⟩),.int .i64 c] W (.int .i64 s):=fun W x1 x2=>by
   have:=MS b n f c _ n W x1 x2 Zf Zf Zf;rwa [hsv] at this
  have Rj:=Za VX;have HSV:=Za hsv;obtain ⟨u,hu,hu0,hu1,hu2⟩ : ∃u:Nat,u=min m (n - s)/\u<=m/\u<=n - s/\(u=m\/u=n - s):=⟨_,rfl,by omega,by omega,by omega⟩;have HU:=Za hu;have HU2:=Za hu2;clear VX hsv hu hu2;go_wp2;refine BU 14 ?_;refine BY ?_
  repeat (go_big_quiet_step ((go_at_call 196; exact Calls.quiet_of (Rj.o _ d1 d2))))
  refine Yo ?_;intro _ JG;obtain ⟨nr,Xk⟩:=JG;subst Xk;refine Xg rfl (.tmp 32) (.tmp 35) _ _ rfl 119 underlying26 2 Zf HT.o _ _ _ _ _ _ rfl rfl g (s*2) C 119 GI.o (L.take (u*2)) u mO Sc
   (fun _=>⟨rfl,_,rfl,fun j v hv=>HLc.o j v (NC hv)⟩) mM (fun v hv=>HLo.o v (List.mem_of_mem_take hv)) ?_
  intro W1 HD1 K1 S1;have TR: ¬b=g:=Zu.ne_ EU.o GI.o Y5;have x1:=K1.cell (p:=⟨b,1,none⟩) TR (by simpa using d1);have fR: ∀j v,L[j]?=some v->W1.cell? (ad.add j)=some v:=fun j v hv=>K1.cell mR (HLc.o j v hv)
  have FN:Zj (Zu W1 b 154 #[.int .i64 size,.slice (some ⟨g,0,none⟩) n n,.int .i64 f,.int .i64 c]):=Za (Zu.kept (w:=w1.drewN nr) EU.o K1 TR);have tE:=Za fR;have OV:=Za K1;clear S1 K1 fR d1 d2 d3 vg;go_wp2;refine BU 8 ?_;refine BY ?_
  repeat (go_big_quiet_step (fail))
  refine Yo ?_;intro _ JG;obtain ⟨ns,Xk⟩:=JG;subst Xk;refine Xg rfl (.tmp 40) (.tmp 44) _ _ rfl 119 underlying26 2 Zf HT.o _ _ _ _ _ _ rfl rfl g 0 _ 119 HD1.o (L.drop (u*2)) (m - u) mS Sc
   (fun h0=>⟨rfl,ad.add (u*2),by first | rfl | exact if_neg mP,fun j v hv=>by rw [Wp]; exact tE.o _ v mQ⟩) mJ (fun v hv=>HLo.o v (List.mem_of_mem_drop hv)) ?_
  intro W2 HD2 K2 S2;have WW:Zj (Zu W2 b 154 #[.int .i64 size,.slice (some ⟨g,0,none⟩) n n,.int .i64 f,.int .i64 c]):=Za (Zu.kept (w:=W1.drewN ns) FN.o K2 TR);have y3:=WW.o.cell 3;have z3:=WW.o.frozen 3;have Ub: ∃go',YG 154 119 2 (W2.setCell ⟨b,3,none⟩ (.int .i64 ((c:Int)+(m:Int)))) b go' size (c+m) (F++L)/\Gv w go go'/\ZA (Je b go) w (W2.setCell ⟨b,3,none⟩ (.int .i64 ((c:Int)+(m:Int)))):=zN
  exact zT) :G:=h
theorem zT4 {G:Prop} (h:G:=by
  go_enter func123,ntmps123;go_wp2_with fail;refine (HF.o _ (Za rfl)).mono ?_;rintro e w' ⟨rfl,q,rfl⟩;go_wp2_with fail;refine (KEY.o q).mono ?_;rintro e w1 ⟨rfl,g,n,f,C,hr,hw,hn,bT,hk⟩;obtain ⟨-,d1,d2,d3,-,-,vg⟩:=hr.cells;have fT: ¬ad.block=g:=zQ
  have ti:=Za fT;obtain ⟨L,bO,hLo,hLc,vr⟩ : ∃L:List Value,L.length=m*1/\(∀v ∈ L,v.oneCell'=true)/\(∀j v,L[j]?=some v->w1.cell? (ad.add j)=some v)/\cs.take m=L:=zR
  obtain ⟨B1,B2,hC,Ab,W6,RH,-⟩:=hr;have EU:=Za B1;have GI:=Za B2;have HC:=Za hC;have HW:=Za hw;have ZaW:=Za bT;have HK:=Za hk;have Iw:=Za bO;have HLo:=Za hLo;have HLc:=Za hLc;have HLe:=Za vr;clear B1 B2 hC hw bT hk bO hLo hLc vr fT;obtain ⟨s,hsv⟩ : ∃s:Nat,(f+c)%n=s:=⟨_,rfl⟩;have Ff:s < n:=pC
  have VX: ∀W:World,W.cell? ⟨b,1,none⟩=some (.slice (some ⟨g,0,none⟩) n n)->W.cell? ⟨b,2,none⟩=some (.int .i64 f)->Xc 171 #[.pointer (some ⟨b,0,none⟩),.int .i64 c] W (.int .i64 s):=fun W x1 x2=>by
   have:=MO b n f c _ n W x1 x2 Zf Zf Zf;rwa [hsv] at this
  have Rj:=Za VX;have HSV:=Za hsv;obtain ⟨u,hu,hu0,hu1,hu2⟩ : ∃u:Nat,u=min m (n - s)/\u<=m/\u<=n - s/\(u=m\/u=n - s):=⟨_,rfl,by omega,by omega,by omega⟩;have HU:=Za hu;have HU2:=Za hu2;clear VX hsv hu hu2;go_wp2;refine BU 14 ?_;refine BY ?_
  repeat (go_big_quiet_step ((go_at_call 171; exact Calls.quiet_of (Rj.o _ d1 d2))))
  refine Yo ?_;intro _ JG;obtain ⟨nr,Xk⟩:=JG;subst Xk;refine Xg rfl (.tmp 32) (.tmp 35) _ _ rfl 3 underlying24 1 Zf HT.o _ _ _ _ _ _ rfl rfl g s C 3 GI.o (L.take u) u mO Sc
   (fun _=>⟨rfl,_,rfl,fun j v hv=>HLc.o j v (NC hv)⟩) mM (fun v hv=>HLo.o v (List.mem_of_mem_take hv)) ?_
  intro W1 HD1 K1 S1;have TR: ¬b=g:=Zu.ne_ EU.o GI.o Y5;have x1:=K1.cell (p:=⟨b,1,none⟩) TR (by simpa using d1);have fR: ∀j v,L[j]?=some v->W1.cell? (ad.add j)=some v:=fun j v hv=>K1.cell mR (HLc.o j v hv)
  have FN:Zj (Zu W1 b 148 #[.int .i64 size,.slice (some ⟨g,0,none⟩) n n,.int .i64 f,.int .i64 c]):=Za (Zu.kept (w:=w1.drewN nr) EU.o K1 TR);have tE:=Za fR;have OV:=Za K1;clear S1 K1 fR d1 d2 d3 vg;go_wp2;refine BU 8 ?_;refine BY ?_
  repeat (go_big_quiet_step (fail))
  refine Yo ?_;intro _ JG;obtain ⟨ns,Xk⟩:=JG;subst Xk;refine Xg rfl (.tmp 40) (.tmp 44) _ _ rfl 3 underlying24 1 Zf HT.o _ _ _ _ _ _ rfl rfl g 0 _ 3 HD1.o (L.drop u) (m - u) mS Sc
   (fun h0=>⟨rfl,ad.add u,by first | rfl | exact if_neg mP,fun j v hv=>by rw [Wp]; exact tE.o _ v mQ⟩) mJ (fun v hv=>HLo.o v (List.mem_of_mem_drop hv)) ?_
  intro W2 HD2 K2 S2;have WW:Zj (Zu W2 b 148 #[.int .i64 size,.slice (some ⟨g,0,none⟩) n n,.int .i64 f,.int .i64 c]):=Za (Zu.kept (w:=W1.drewN ns) FN.o K2 TR);have y3:=WW.o.cell 3;have z3:=WW.o.frozen 3;have Ub: ∃go',YG 148 3 1 (W2.setCell ⟨b,3,none⟩ (.int .i64 ((c:Int)+(m:Int)))) b go' size (c+m) (F++L)/\Gv w go go'/\ZA (Je b go) w (W2.setCell ⟨b,3,none⟩ (.int .i64 ((c:Int)+(m:Int)))):=zN
  exact zT) :G:=h
theorem Zmg {G:Prop} (h:G:=by
  have d1:=jz.o.cell 1;have d2:=jz.o.cell 2;have e1:=jz.o.frozen 1;have e2:=jz.o.frozen 2;clear FN fQ IU C8;go_wp2;go_end0;have hlen:(F++D.drop F.length).length=n'*2:=Zgq
  exact Zga) :G:=h
theorem Zmh {G:Prop} (h:G:=by
  intro W2 HD2 K2 S2;have Hi:=Za S2;have Sn:=Za K2;clear S2 K2;have Ub:Zu W2 h 116 (F++D.drop F.length).toArray/\ZA (fun i=>i=h) w W2/\W2.heap.size=w.heap.size:=zO
  exact zU) :G:=h
theorem Zmi {G:Prop} (h:G:=by
  intro W2 HD2 K2 S2;have Hi:=Za S2;have Sn:=Za K2;clear S2 K2;have Ub:Zu W2 h 119 (F++D.drop F.length).toArray/\ZA (fun i=>i=h) w W2/\W2.heap.size=w.heap.size:=zO
  exact zU) :G:=h
theorem ZmP {G:Prop} (h:G:=by
  clear h0 h1 h2 h3;generalize Ul a d=q at*;go_enter func305,ntmps305;go_wp2_with fail;refine (H.o _).mono ?_;rintro e w' ⟨rfl,rfl⟩;go_wp2;go_ret2;exact ⟨rfl,rfl⟩) :G:=h
theorem ZmX {G:Prop} (h:G:=by
  clear hd;go_enter func123,ntmps123;exact zS) :G:=h
theorem ZmY {G:Prop} (h:G:=by
  clear hd;go_enter func133,ntmps133;exact zS) :G:=h
theorem ZmZ {G:Prop} (h:G:=by
  clear hd;go_enter func135,ntmps135;exact zS) :G:=h
theorem ZeW {G:Prop} (h:G:=by
  have:=Nat.mul_le_mul_left n (Nat.succ_le_of_lt hc);rw [Nat.succ_eq_add_one,Nat.mul_add,Nat.mul_one] at this;omega) :G:=h
theorem ZeX {G:Prop} (h:G:=by
  have HF:=Za hf;clear hf;go_enter func306,ntmps306;go_wp2;go_ret2;exact ⟨by rw [HF.o]; rfl,rfl⟩) :G:=h
theorem yJ {G:Prop} (h:G:=by
  have HF:=Za hf;clear hf;go_enter func200,ntmps200;go_wp2;go_ret;exact ⟨by rw [HF.o]; rfl,rfl⟩) :G:=h
theorem ZfF {G:Prop} (h:G:=by
  rw [YS hln] at Gi;exact h.ap j l Zf Zf Fc i hi Gi) :G:=h
theorem Oa {G:Prop} (h:G:=by
  rw [hi] at h;simp at h;exact ⟨i,rfl,h.1,h.2.1,h.2.2⟩) :G:=h
theorem zy {G:Prop} (h:G:=by
  first | exact this | (rw [Nat.mul_one]; exact this)) :G:=h
theorem pz {G:Prop} (h:G:=by
  go_wp2;exact aT) :G:=h
theorem LV {G:Prop} (h:G:=by
  rw [hi] at h
  cases h) :G:=h
section
open Go.RowKit
theorem cU (b size c:Nat)(w:Zc)(a:Option Addr)(len cap:Nat)(hl:len<=9223372036854775807)(h0:w.cell? ⟨b,0,none⟩=some (.int .i64 size))(h3:w.cell? ⟨b,3,none⟩=some (.int .i64 c))(hs:size<=1048576)(hc:c<=size)(hz:len=0\/c=size) :
  Xc 123 #[.pointer (some ⟨b,0,none⟩),.slice a len cap] w (.int .i64 0):=by
 obtain ⟨d,hd⟩ : ∃d:Nat,size - c=d:=⟨_,rfl⟩;have hf: ∀W:Zc,Zj (W=w)->Xc 121 #[.pointer (some ⟨b,0,none⟩)] W (.int .i64 d):=fun W hW=>by
  have hW:=hW.o;subst hW;rw [<-hd];exact Fj b size c _ h0 h3 hs hc
 have HF:=Za hf;clear hf h0 h3
 by_cases h:(d:Int)< (len:Int)
 ·obtain rfl:d=0:=Zf;exact ZmX
 ·obtain rfl:len=0:=Zf;exact ZmX
theorem cT (b size c m len cap:Nat)(go:Option Nat)(ad:Addr)(F cs:List Zl)(w:Zc)(hi:YG 148 3 1 w b go size c F)(FB:Src w (Je b go) (some ad) len 1 cs)
  (hl:len<=cap) (Gh:cap<=9223372036854775807) (hm:1<=m) (rf:m<=len) (jv:c+m<=size) (hm3:m=len\/c+m=size) :
  Zv Zb 123 #[.pointer (some ⟨b,0,none⟩),.slice (some ad) len cap] w fun e w'=>e= .returned (.int .i64 m)/\
   ∃go',YG 148 3 1 w' b go' size (c+m) (F++cs.take m)/\Gv w go go'/\ZA (Je b go) w w':=by
 obtain ⟨c0,c3⟩:=hi.cells;obtain ⟨_,gd,hs⟩:=hi.size_le;obtain ⟨d,hd⟩ : ∃d:Nat,size - c=d:=⟨_,rfl⟩;have hf: ∀W:Zc,Zj (W=w)->Xc 121 #[.pointer (some ⟨b,0,none⟩)] W (.int .i64 d):=fun W hW=>by
  have hW:=hW.o;subst hW;rw [<-hd];exact Fj b size c _ c0 c3 hs Zf
 have HF:=Za hf;have HI:=Za hi;have tJ:=Za FB;have hmz:((m:Int)==0)=false:=Xo;have c3': ∀q,(w.drewN q).cell? ⟨b,3,none⟩=some (.int .i64 c):=fun q=>c3
 have hd1:d+c<=size:=Zf;have vE:size<=d+c:=Zf;clear hf hi FB c0 hd;have key: ∀q:Nat,Zv Zb 170 #[.pointer (some ⟨b,0,none⟩),.int .i64 ((c:Int)+(m:Int))] (w.drewN q) fun e w'=>e= .returned (.tuple #[])/\
   ∃g n f C,Jw 148 3 1 w' b g size n f c C/\QY C (f*1) F/\c+m<=n/\Gv w go (some g)/\ZA (fun i=>i=b) w w':=fun q=>by
  have:=AY b size c (c+m) go F (w.drewN q) HI.o Zf Zf jv;rw [show ((c+m:Nat) :Int)=(c:Int)+(m:Int) by omega] at this;exact this.mono fun e w' ⟨he,g,n,f,C,k1,k2,k3,k4,k5⟩=>⟨he,g,n,f,C,k1,k2,k3,k4,((ZS _ w).drewN q).trans k5 (fun _ _ h=>h)⟩
 have KEY:=Za key;clear key;have hT:(Tryz.prog.info? 3).map (·.size)=some 1:=ZC;have HT:=Za hT;clear hT
 by_cases h:(d:Int)< (len:Int)
 ·obtain rfl:m=d:=Zf;exact zT4
 ·obtain rfl:m=len:=Zf;exact zT4
theorem MN (b size c len cap:Nat)(go:Option Nat)(a:Option Addr)(F cs:List Zl)(w:Zc)(hi:YG 148 3 1 w b go size c F)(FB:Src w (Je b go) a len 1 cs)
  (hl:len<=cap) (Gh:cap<=9223372036854775807) :
  Zv Zb 123 #[.pointer (some ⟨b,0,none⟩),.slice a len cap] w fun e w'=>e= .returned (.int .i64 ((min len (size - c) :Nat) :Int))/\
   ∃go',YG 148 3 1 w' b go' size (c+min len (size - c)) (F++cs.take (min len (size - c)*1))/\Gv w go go'/\ZA (Je b go) w w':=by
 obtain ⟨h1,h2,h3⟩:=hi.size_le
 by_cases hz:min len (size - c)=0
 ·rw [hz];refine (cU b size c w a len cap Zf hi.cells.1 hi.cells.2 h3 h1 Zf).mono fun e w' ⟨he,m,hm⟩=>⟨he,go,?_,fun i h=> .inl h,by subst hm; exact (ZS _ _).drewN _⟩
  subst hm;simpa using hi.drewN m
 ·obtain ⟨ad,rfl,_⟩:=FB.2.2 Zf;have:=cT b size c (min len (size - c)) len cap go ad F cs w hi FB hl Gh Zf Zf Zf Zf;exact zy
end
section
def Kq (L:List Bool)(s:Nat) :Nat->List Nat
 | 0=> []
 | k+1=>if L.getD ((s+k)%L.length) false=true then Kq L s k++[(s+k)%L.length] else Kq L s k
def KU (L:List Bool)(s k:Nat) :List Int:=(Kq L s k).map fun i:Nat=>(i:Int)
def ER (n s k:Nat) :Nat:=if k=0 then s else(s+k)%n
def Tr (L:List Bool)(s:Nat)(v p:Int)(m:Nat) :Prop:=
 (v<=(m:Int)\/L.length<=m\/p<=((Kq L s m).length:Int))/\ ∀j,j < m->(j:Int)< v/\j < L.length/\((Kq L s j).length:Int)< p
section
variable {L:List Bool} {s m m' k:Nat} {v p:Int}
theorem Tr.unique (h:Tr L s v p m)(h':Tr L s v p m') :m=m':=by
 obtain ⟨h1,h2⟩:=h;obtain ⟨g1,g2⟩:=h'
 rcases Nat.lt_trichotomy m m' with h | h | h
 ·have:=g2 m h; omega
 ·exact h
 ·have:=h2 m' h; omega
theorem Tr.le (h:Tr L s v p m) :m<=L.length:=by
 rcases Qz m with h0 | h0
 ·omega
 ·have:=h.2 (m - 1) Zf; omega
theorem Tr.le_v (h:Tr L s v p m) :m=0\/(m:Int)<=v:=by
 rcases Qz m with h0 | h0
 ·exact .inl h0
 ·have:=h.2 (m - 1) Zf; omega
theorem rN (h:L.getD ((s+k)%L.length) false=true) :Kq L s (k+1)=Kq L s k++[(s+k)%L.length]:=by rw [Kq,if_pos h]
theorem lD (h:L.getD ((s+k)%L.length) false=false) :Kq L s (k+1)=Kq L s k:=by rw [Kq,if_neg (by rw [h]; simp)]
theorem AF (L:List Bool)(s k:Nat) :(Kq L s (k+1)).length<=(Kq L s k).length+1:=by
 rw [Kq]; split
 ·simp
 ·omega
theorem Tr.le_p (h:Tr L s v p m) :(Kq L s m).length=0\/((Kq L s m).length:Int)<=p:=by
 rcases Qz m with h0 | h0
 ·subst h0; exact .inl rfl
 ·obtain ⟨k,rfl⟩ : ∃k,m=k+1:=⟨m - 1,by omega⟩;have:=h.2 k Zf;have:=AF L s k;omega
theorem ah (L:List Bool)(s k:Nat) :(KU L s k).length=(Kq L s k).length:=by simp [KU]
theorem rO (h:L.getD ((s+k)%L.length) false=true) :KU L s (k+1)=KU L s k++[(((s+k)%L.length:Nat) :Int)]:=by simp [KU,rN h]
theorem lF (h:L.getD ((s+k)%L.length) false=false) :KU L s (k+1)=KU L s k:=by simp [KU,lD h]
theorem Nu {i:Nat} : ∀ {k:Nat},i ∈ Kq L s k->(∃j,j < k/\i=(s+j)%L.length)/\L.getD i false=true
 | 0,h=>by simp [Kq] at h
 | k+1,h=>by
  rw [Kq] at h
  split at h
  ·rename_i hg
   rw [List.mem_append] at h
   rcases h with h | h
   ·obtain ⟨⟨j,hj,e⟩,h2⟩:=Nu h;exact ⟨⟨j,by omega,e⟩,h2⟩
   ·rw [Ym] at h;subst h;exact ⟨⟨k,by omega,rfl⟩,hg⟩
  ·obtain ⟨⟨j,hj,e⟩,h2⟩:=Nu h;exact ⟨⟨j,by omega,e⟩,h2⟩
theorem Zid {n s i j:Nat}(hij:i < j)(hj:j < i+n) :(s+i)%n≠(s+j)%n:=by
 intro h;have h1:=K8 (s+i) n;have h2:=K8 (s+j) n;rw [h] at h1;have h3:n*((s+j)/n)=n*((s+i)/n)+(j - i):=Zf
 rcases Nat.lt_trichotomy ((s+j)/n) ((s+i)/n) with hc | hc | hc
 ·exact ZeW
 ·rw [hc] at h3; omega
 ·exact ZeW
theorem SS: ∀ {k:Nat},k<=L.length->(Kq L s k).Nodup
 | 0,_=>by simp [Kq]
 | k+1,hk=>by
  have ih:=SS (k:=k) Zf;rw [Kq]
  split
  ·rw [List.nodup_append];refine ⟨ih,by simp,fun a ha b hb=>?_⟩;rw [Ym] at hb;subst hb;obtain ⟨⟨j,hj,rfl⟩,_⟩:=Nu ha;exact Zid hj Zf
  ·exact ih
theorem xo (n s k:Nat) :ER n s k%n=(s+k)%n:=by
 unfold ER
 split
 ·rename_i h; rw [h,Nat.add_zero]
 ·exact Nat.mod_mod _ _
theorem rX (n s k:Nat) :((s+k)%n+1)%n=ER n s (k+1):=by
 unfold ER;rw [if_neg Zf,Nat.mod_add_mod,Nat.add_assoc]
theorem ZcS {n s k:Nat}(hn:0 < n)(hk:0 < k) :ER n s k < n:=by
 unfold ER;rw [if_neg Zf];exact Nat.mod_lt _ hn
theorem ZcR {n s k:Nat}(hn:n<=100)(hs:s<=100)(hk:k<=n) :ER n s k<=100:=by
 rcases Qz k with h | h
 ·subst h; exact hs
 ·have:=ZcS (s:=s) (show 0 < n by omega) h; omega
theorem yc (h: ∀j,j < m->(j:Int)< v/\j < L.length/\((Kq L s j).length:Int)< p)(h1:(m:Int)< v)(h2:m < L.length)(h3:((Kq L s m).length:Int)< p) :
  ∀j,j < m+1->(j:Int)< v/\j < L.length/\((Kq L s j).length:Int)< p:=by
 intro j hj
 by_cases e:j=m
 ·subst e; exact ⟨h1,h2,h3⟩
 ·exact h j Zf
end
end
section
open Go Go.RowKit
def th (w:Zc)(c s:Nat) :Prop:=Zu w c 157 #[.int .i64 (s:Int)]
theorem lq (w:Zc) :Zv Zb 77 #[] w fun e w'=> ∃c,e= .returned (.pointer (some ⟨c,0,none⟩))/\w.heap.size<=c/\Zj (th w' c 0)/\Below w.heap.size w w':=by
 go_enter func77,ntmps77;go_wp2;go_ret;exact ⟨w.heap.size,rfl,Zh _,Za (Zs w _ _),(Below.refl _ _).alloc (Zh _) _⟩
theorem ZgP (c s:Nat)(w:Zc)(h:th w c s) :Y6 49 #[.pointer (some ⟨c,0,none⟩)] w (.int .i64 s):=by
 have x:=h.cell 0;clear h;go_enter func49,ntmps49;exact UD
end
section
open Go Go.RowKit
theorem iZ (s n:Nat) :((s:Int)).tmod (n:Int)=((s%n:Nat) :Int):=by
 rw [Int.tmod_eq_emod_of_nonneg Zf,Int.natCast_emod]
theorem gT (bp bn c s n:Nat)(w:Zc)(h1:Zu w bp 85 #[.pointer (some ⟨c,0,none⟩)])(h2:Zu w bn 3 #[.int .i64 (n:Int)])(h3:th w c s)(hs:s<=100)(hn:0 < n)(hn':n<=100) :
  Zv Zb 293 #[.pointer (some ⟨bp,0,none⟩),.pointer (some ⟨bn,0,none⟩)] w fun e w'=>e= .returned (.int .i64 ((s%n:Nat) :Int))/\th w' c ((s%n+1)%n)/\ZA (fun i=>i=c) w w':=by
 have x1:=h1.cell 0;have x2:=h2.cell 0;have x3:=h3.cell 0;have f3:=h3.frozen 0;have H3:=Za h3;have e1:=iZ s n;have e2:=iZ (s%n+1) n;have hm:=Nat.mod_lt s hn;generalize hr:s%n=r at*;rw [Int.natCast_add] at e2;have e3:IntKind.i64.wrap ((r:Int)+1)=(r:Int)+1:=IntWalk.i64_in _ Zf;have Kj: ¬(n:Int)=0:=Zf;clear h1 h2 h3 hr;go_enter func293,ntmps293;go_wp2;go_quiet (fail);go_wp2;go_region
 all_goals go_wp2
 all_goals go_ret
 all_goals refine ⟨rfl,?_,?_⟩
 ·have h:=(H3.o.drewN (nq+1)).set_ 0 (.int .i64 (((r:Int)+1)%n));have e:((r:Int)+1)%n=(((r+1)%n:Nat) :Int):=by rw [Int.natCast_emod]; rfl
  rw [e] at h ⊢;exact h
 ·exact ZA.setCell (S:=fun i=>i=c) (p:=⟨c,0,none⟩) ((ZS (fun i=>i=c) w).drewN (nq+1)) (.inl rfl) _
theorem gC (c n:Nat)(w:Zc) :
  Zv Zb 277 #[.pointer (some ⟨c,0,none⟩),.int .i64 n] w fun e w'=>e= .returned (.func (.func 293) #[] #[.pointer (some ⟨w.heap.size,0,none⟩),.pointer (some ⟨w.heap.size+1,0,none⟩)])/\(w.alloc (.cells #[.pointer (some ⟨c,0,none⟩)] 85)).alloc (.cells #[.int .i64 n] 3)=w':=by
 have bR: ∀(fn:Fn) (first cap:Array Zl) (w:Zc),(Instr.makeFunc fn first cap).run Zb w= .ok (.func fn first cap) w:=fun _ _ _ _=>rfl
 go_enter func277,ntmps277;exact UD
end
section
open Go.RowKit Go.Lib
def Fy (a m q:Int) :Int:=if q=0 then m else if m < a/q then a/q else m
theorem qj (a m q:Int)(w:Zc)(a0:0<=a)(a1:a<=18446744073709551615)(q0:0<=q)(q1:q<=18446744073709551615) :
  Y6 200 #[.int .u64 a,.int .u64 m,.int .u64 q] w (.int .u64 (Fy a m q)):=by
 by_cases hq:q=0
 ·have hf:Fy a m q=m:=by unfold Fy; rw [if_pos hq]
  subst hq;exact yJ
 ·have hd:(q==0)=false:=Xo;have tA:0<=a/q:=Kg a0 Zf;have hq2:a/q<=a:=JY _ a0
  by_cases hm:a/q<=m
  ·have hf:Fy a m q=m:=by unfold Fy; rw [if_neg hq,if_neg Zf]
   exact yJ
  ·have hf:Fy a m q=a/q:=by unfold Fy; rw [if_neg hq,if_pos Zf]
   exact yJ
def Ul (a d:Int) :Int:=if a%d=0 then a/d else a/d+1
theorem uz (a d:Int)(h0:0<=a)(h1:a<=18446744073709551615)(h2:1<=d)(hm: ¬a%d=0) :a/d+1<=18446744073709551615:=by
 by_cases e:d=1
 ·subst e; simp at hm
 ·have h3:a/d < 9223372036854775808:=Int.ediv_lt_of_lt_mul Zf (by
   have:9223372036854775808*2<=9223372036854775808*d:=Int.mul_le_mul_of_nonneg_left Zf Zf;omega)
  omega
theorem bA (a d:Int)(h0:0<=a)(h2:1<=d) :0<=Ul a d:=by
 have hq:0<=a/d:=Kg h0 Zf;unfold Ul
 split <;> omega
def WN (a d:Int) :Bool:=decide (d≠0/\Ul a d<=1099511627776)
def epQ (a d:Int) :Int:=if WN a d=true then Ul a d else 0
theorem ZbJ (a d:Int)(h:d=0) :epQ a d=0/\WN a d=false:=by
 have:WN a d=false:=by unfold WN; exact decide_eq_false (fun x=>x.1 h)
 exact ⟨by unfold epQ; rw [this]; rfl,this⟩
theorem bI (a d:Int)(h: ¬Ul a d<=1099511627776) :epQ a d=0/\WN a d=false:=by
 have:WN a d=false:=by unfold WN; exact decide_eq_false (fun x=>h x.2)
 exact ⟨by unfold epQ; rw [this]; rfl,this⟩
theorem j4 (a d:Int)(h: ¬d=0)(h':Ul a d<=1099511627776) :epQ a d=Ul a d/\WN a d=true:=by
 have:WN a d=true:=by unfold WN; exact decide_eq_true ⟨h,h'⟩
 exact ⟨by unfold epQ; rw [if_pos this],this⟩
theorem p9 (a:Int)(w:Zc) :
  Y6 306 #[.int .u64 a,.int .u64 0] w (.tuple #[.int .u64 0,.bool false]):=by
 go_enter func306,ntmps306;go_wp2;go_ret2;exact Gw
theorem eK (a d:Int)(w:Zc)(h0:0<=a)(h1:a<=18446744073709551615)(h2:1<=d)(h3:d<=18446744073709551615) :
  Y6 306 #[.int .u64 a,.int .u64 d] w (.tuple #[.int .u64 (Ul a d),.bool true]):=by
 have hd:(d==0)=false:=Xo;have hq:0<=a/d:=Kg h0 Zf;have hq2:a/d<=a:=JY _ h0
 by_cases hm:a%d=0
 ·have hf:Ul a d=a/d:=by unfold Ul; rw [if_pos hm]
  exact ZeX
 ·have hq3:=uz a d h0 h1 h2 hm;have hf:Ul a d=a/d+1:=by unfold Ul; rw [if_neg hm]
  exact ZeX
theorem fB (a:Int)(w:Zc) :
  Y6 305 #[.int .u64 a,.int .u64 0] w (.tuple #[.int .i64 0,.bool false]):=by
 have H:=Za (fun w=>p9 a w);go_enter func305,ntmps305;go_wp2_with fail;refine (H.o _).mono ?_;exact zV
theorem fA (a d:Int)(w:Zc)(h0:0<=a)(h1:a<=18446744073709551615)(h2:1<=d)(h3:d<=18446744073709551615)(h4:1099511627776 < Ul a d) :
  Y6 305 #[.int .u64 a,.int .u64 d] w (.tuple #[.int .i64 0,.bool false]):=by
 have H:=Za (fun w=>eK a d w h0 h1 h2 h3);exact ZmP
theorem j6 (a d:Int)(w:Zc)(h0:0<=a)(h1:a<=18446744073709551615)(h2:1<=d)(h3:d<=18446744073709551615)(h4:Ul a d<=1099511627776) :
  Y6 305 #[.int .u64 a,.int .u64 d] w (.tuple #[.int .i64 (Ul a d),.bool true]):=by
 have H:=Za (fun w=>eK a d w h0 h1 h2 h3);have h5:=bA a d h0 h2;exact ZmP
theorem j5 (a d:Int)(w:Zc)(h0:0<=a)(h1:a<=18446744073709551615)(h2:0<=d)(h3:d<=18446744073709551615) :
  Y6 305 #[.int .u64 a,.int .u64 d] w (.tuple #[.int .i64 (epQ a d),.bool (WN a d)]):=by
 by_cases hd:d=0
 ·have h:=ZbJ a d hd;rw [h.1,h.2];subst hd;exact fB a w
 ·by_cases h4:Ul a d<=1099511627776
  ·have h:=j4 a d hd h4;rw [h.1,h.2];exact j6 a d w h0 h1 Zf h3 h4
  ·have h:=bI a d h4;rw [h.1,h.2];exact fA a d w h0 h1 Zf h3 Zf
end
section
def VO (lim:Int)(p:Nat × Int)(x:Int) :Nat × Int:=if p.1=0\/lim < p.2+x then(p.1+1,x) else(p.1,p.2+x)
def Zd7 (lim:Int) :Nat × Int->List Int->Nat × Int
 | p,[]=>p
 | p,x::r=>Zd7 lim (VO lim p x) r
def uC (lim s:Int) :List Int->Nat
 | []=>0
 | y::r=>if lim < s+y then 0 else 1+uC lim (s+y) r
def LC (lim:Int) :List Int->Nat
 | []=>0
 | x::r=>1+uC lim x r
def bnd (lim:Int)(X:List Int) :Nat:=(Zd7 lim (0,0) X).1
section
variable {lim s x:Int} {X r:List Int} {k j n m:Nat}
theorem WC (lim s x:Int) :VO lim (0,s) x=(1,x):=by simp [VO]
theorem IG (h: ¬lim < s+x) :VO lim (k+1,s) x=(k+1,s+x):=by simp [VO,h]
theorem WB (h:lim < s+x) :VO lim (k+1,s) x=(k+1+1,x):=by simp [VO,h]
theorem uD: ∀(X:List Int) (s:Int),uC lim s X<=X.length
 | [],s=>Zh _
 | y::r,s=>by
  have:=uD r (s+y);rw [uC,Yg]
  split <;> omega
theorem bo (X:List Int) :LC lim X<=X.length:=by
 cases X with
 | nil=>exact Zh _
 | cons y r=>have:=uD (lim:=lim) r y; rw [LC,Yg]; omega
def Stp (lim:Int)(X:List Int)(n:Nat) :Prop:=
 n<=X.length/\(∀m,0 < m->m < n->XR X (m+1)<=lim)/\(n < X.length->0 < n/\lim < XR X (n+1))
theorem Dn (y:Int)(r:List Int) : ∀k,XR (y::r) (k+1)=y+XR r k
 | 0=>by simp [XR]
 | k+1=>by rw [XR,Dn y r k,XR]; simp; omega
theorem eV: ∀(X:List Int) (s:Int),(∀m,m < uC lim s X->s+XR X (m+1)<=lim)/\(uC lim s X < X.length->lim < s+XR X (uC lim s X+1))
 | [],s=>⟨fun m h=>by simp [uC] at h,fun h=>by simp at h⟩
 | y::r,s=>by
  rw [uC]
  by_cases h:lim < s+y
  ·rw [if_pos h];exact ⟨fun m hm=>by omega,fun _=>by simp [XR]; exact h⟩
  ·rw [if_neg h];obtain ⟨h1,h2⟩:=eV r (s+y);refine ⟨fun m hm=>?_,fun hl=>?_⟩
   ·rw [Dn]
    cases m with
    | zero=>simp [XR]; omega
    | succ m=>have:=h1 m Zf; omega
   ·rw [Yg] at hl;have:=h2 Zf;rw [Nat.add_comm 1 (uC lim (s+y) r),Dn];omega
theorem Ww (lim:Int)(X:List Int) :Stp lim X (LC lim X):=by
 refine ⟨bo X,?_⟩
 cases X with
 | nil=>exact ⟨fun m h1 h2=>by simp [LC] at h2,fun h=>by simp at h⟩
 | cons y r=>
  obtain ⟨h1,h2⟩:=eV (lim:=lim) r y;rw [LC];refine ⟨fun m h3 h4=>?_,fun h3=>⟨by omega,?_⟩⟩
  ·obtain ⟨j,rfl⟩ : ∃j,m=j+1:=⟨m - 1,by omega⟩;rw [Dn];exact h1 j Zf
  ·rw [Yg] at h3;rw [Nat.add_comm 1 (uC lim y r),Dn];exact h2 Zf
end
end
section
open Go Go.RowKit
def Ut (L:List Int) :Array Zl:=(L.map (Value.int .u64)).toArray
theorem qf {L:List Int}{i:Nat}(hi:i < L.length) :(Ut L)[i]?=some (.int .u64 (L.getD i 0)):=by
 rw [Ut,List.getElem?_toArray,List.getElem?_map,List.getD_eq_getElem?_getD,List.getElem?_eq_getElem hi];rfl
theorem jN (L:List Int)(i:Nat)(b:Int) :(Ut L).setIfInBounds i (.int .u64 b)=Ut (L.set i b):=by
 simp [Ut,List.map_set]
theorem rz (n:Nat) :madeCells #[.int .u64 0] n=Ut (ZD n 0):=by
 apply Array.ext
 ·simp [madeCells,Ut]
 ·intro i h1 h2;simp [madeCells,Nat.mod_one,Ut]
theorem ja: ∃i,Tryz.prog.info? 23=some i/\i.zero=some (.int .u64 0)/\i.size=1/\i.bytes=8:=by
 have h:(Tryz.prog.info? 23).map (fun i=>(i.zero,i.size,i.bytes))=some (some (.int .u64 0),1,8):=ZC
 cases hi:Tryz.prog.info? 23 with
 | none=>exact LV
 | some i=>
  exact Oa
theorem Ha (n:Nat)(hn:n<=100000)(w:Zc) :
  (Instr.makeSlice 121 (.int .i64 (n:Int)) (.int .i64 (n:Int))).run Zb w= .ok (.slice (some ⟨w.heap.size,0,none⟩) n n) (w.alloc (.cells (Ut (ZD n 0)) 23)):=by
 obtain ⟨i,hi,hz,hs,Ns⟩:=ja;have Ew:=Jc (P:=Zb) 121 23 i _ underlying121 hi hz .i64 .i64 n n (Zh _) CC Zf w;rw [hs,Nat.mul_one] at Ew;have hz':(Value.int .u64 0).cells= #[.int .u64 0]:=rfl;rw [hz',rz] at Ew;exact Ew
def CS (w:Zc)(g:Nat)(L:List Int) :Prop:=Zu w g 23 (Ut L)
section
variable {w:Zc} {g:Nat} {L:List Int}
theorem CS.cell (h:CS w g L){i:Nat}(hi:i < L.length) :w.cell? ⟨g,i,none⟩=some (.int .u64 (L.getD i 0)):=(Zu.cell h i).trans (qf hi)
theorem CS.frozen (h:CS w g L)(i:Nat) :w.frozen? ⟨g,i,none⟩=false:=Zu.frozen h i
theorem CS.set (h:CS w g L)(i:Nat)(b:Int) :CS (w.setCell ⟨g,i,none⟩ (.int .u64 b)) g (L.set i b):=by
 have:=VH h i (.int .u64 b);rw [jN] at this;exact this
end
end
section
open Go.RowKit
def Xh (p:Zc->(Nat->Prop)->Prop) :Prop:=(∀w S,p w S-> ∀i,S i->i < w.heap.size)/\ ∀w w' S T,p w S->ZA T w w'->(∀i,S i-> ¬T i)->p w' S
structure OL (n:Nat)(P:Nat->Zc->(Nat->Prop)->Prop)(Φ:Nat->Nat->Prop)(w:Zc) :Prop where
 part: ∀k,k < n->P k w (Φ k)
 lt: ∀k,k < n-> ∀i,Φ k i->i < w.heap.size
 ap: ∀j k,j < n->k < n->j≠k-> ∀i,Φ j i-> ¬Φ k i
def D7 (Φ:Nat->Nat->Prop)(k:Nat)(S:Nat->Prop) :Nat->Nat->Prop:=fun j=>if j=k then S else Φ j
section
variable {n:Nat} {P P':Nat->Zc->(Nat->Prop)->Prop} {Φ:Nat->Nat->Prop} {w w':Zc} {S' T:Nat->Prop}
theorem Xe (k:Nat) :D7 Φ k S' k=S':=if_pos rfl
theorem YS {j k:Nat}(h:j≠k) :D7 Φ k S' j=Φ j:=if_neg h
theorem OL.kept (h:OL n P Φ w)(hP: ∀j,j < n->Xh (P j))(hk:ZA T w w')(hT: ∀k,k < n-> ∀i,Φ k i-> ¬T i) :OL n P Φ w':=
 ⟨fun k L4=>(hP k L4).2 w w' _ T (h.part k L4) hk (hT k L4),fun k L4 i hi=>YC (h.lt k L4 i hi) hk.size,h.ap⟩
theorem OL.below (h:OL n P Φ w)(hP: ∀j,j < n->Xh (P j))(hb:Below w.heap.size w w') :OL n P Φ w':=
 h.kept hP (ZA.of_below (S:=fun _=>False) hb) (fun _ _ _ _ h=>h)
theorem OL.turn (h:OL n P Φ w)(hP: ∀j,j < n->Xh (P j)){k:Nat}(hk:k < n)(Bv: ∀j,j < n->j≠k->P' j=P j)(hP':Xh (P' k))(hn:P' k w' S')(hS: ∀i,S' i->Φ k i\/w.heap.size<=i)
  (hkp:ZA (Φ k) w w') :OL n P' (D7 Φ k S') w':=by
 refine ⟨fun j hj=>?_,fun j hj i hi=>?_,fun j l hj hl Fc i hi Gi=>?_⟩
 ·by_cases FY:j=k
  ·subst FY; rw [Xe]; exact hn
  ·rw [YS FY,Bv j hj FY];exact (hP j hj).2 w w' _ _ (h.part j hj) hkp (h.ap j k hj hk FY)
 ·by_cases FY:j=k
  ·subst FY; rw [Xe] at hi; exact hP'.1 w' S' hn i hi
  ·rw [YS FY] at hi;exact YC (h.lt j hj i hi) hkp.size
 ·by_cases FY:j=k
  ·subst FY;rw [Xe] at hi;rw [YS (fun e=>Fc e.symm)] at Gi
   rcases hS i hi with h1 | h1
   ·exact h.ap j l hj hl Fc i h1 Gi
   ·exact absurd (h.lt l hl i Gi) Zf
  ·rw [YS FY] at hi
   by_cases NX:l=k
   ·subst NX;rw [Xe] at Gi
    rcases hS i Gi with h1 | h1
    ·exact h.ap j l hj hl FY i hi h1
    ·exact absurd (h.lt j hj i hi) Zf
   ·rw [YS NX] at Gi;exact h.ap j l hj hl Fc i hi Gi
theorem OL.turn2 (h:OL n P Φ w)(hP: ∀j,j < n->Xh (P j)){k m:Nat}(hk:k < n)(hm:m < n)(hkm:k≠m)(Bv: ∀j,j < n->j≠k->j≠m->P' j=P j)(hPk:Xh (P' k))(hPm:Xh (P' m)){R':Nat->Prop}
  (hnk:P' k w' S') (nW:P' m w' R') (hS: ∀i,S' i->Φ k i\/w.heap.size<=i) (hR: ∀i,R' i->Φ m i) (hSR: ∀i,S' i-> ¬R' i)
  (hkp:ZA T w w') (hT: ∀i,T i->Φ k i\/Φ m i) :OL n P' (D7 (D7 Φ k S') m R') w':=by
 have base: ∀j,j < n->j≠k->j≠m-> ∀i,Φ j i-> ¬T i:=fun j hj h1 h2 i hi ht=>by
  rcases hT i ht with h3 | h3
  ·exact h.ap j k hj hk h1 i hi h3
  ·exact h.ap j m hj hm h2 i hi h3
 have at1:D7 (D7 Φ k S') m R' k=S':=by rw [YS hkm,Xe]
 have at2:D7 (D7 Φ k S') m R' m=R':=Xe m;have at3: ∀j,j≠k->j≠m->D7 (D7 Φ k S') m R' j=Φ j:=fun j h1 h2=>by rw [YS h2,YS h1]
 have old: ∀j,j < n->j≠k->j≠m-> ∀i,Φ j i-> ¬S' i/\ ¬R' i:=fun j hj h1 h2 i hi=>⟨fun hs=>by
  rcases hS i hs with h3 | h3
  ·exact h.ap j k hj hk h1 i hi h3
  ·exact absurd (h.lt j hj i hi) Zf,fun hr=>h.ap j m hj hm h2 i hi (hR i hr)⟩
 refine ⟨fun j hj=>?_,fun j hj i hi=>?_,fun j l hj hl Fc i hi Gi=>?_⟩
 ·by_cases h1:j=k
  ·subst h1; rw [at1]; exact hnk
  ·by_cases h2:j=m
   ·subst h2; rw [at2]; exact nW
   ·rw [at3 j h1 h2,Bv j hj h1 h2];exact (hP j hj).2 w w' _ _ (h.part j hj) hkp (base j hj h1 h2)
 ·by_cases h1:j=k
  ·subst h1; rw [at1] at hi; exact hPk.1 w' S' hnk i hi
  ·by_cases h2:j=m
   ·subst h2; rw [at2] at hi; exact hPm.1 w' R' nW i hi
   ·rw [at3 j h1 h2] at hi;exact YC (h.lt j hj i hi) hkp.size
 ·by_cases h1:j=k
  ·subst h1;rw [at1] at hi
   by_cases h2:l=m
   ·subst h2; rw [at2] at Gi; exact hSR i hi Gi
   ·rw [at3 l (fun e=>Fc e.symm) h2] at Gi;exact (old l hl (fun e=>Fc e.symm) h2 i Gi).1 hi
  ·by_cases h2:j=m
   ·subst h2;rw [at2] at hi
    by_cases h3:l=k
    ·subst h3; rw [at1] at Gi; exact hSR i Gi hi
    ·rw [at3 l h3 (fun e=>Fc e.symm)] at Gi;exact (old l hl h3 (fun e=>Fc e.symm) i Gi).2 hi
   ·rw [at3 j h1 h2] at hi
    by_cases h3:l=k
    ·subst h3; rw [at1] at Gi; exact (old j hj h1 h2 i hi).1 Gi
    ·by_cases h4:l=m
     ·subst h4; rw [at2] at Gi; exact (old j hj h1 h2 i hi).2 Gi
     ·rw [at3 l h3 h4] at Gi;exact h.ap j l hj hl Fc i hi Gi
theorem OL.more (h:OL n P Φ w)(hP: ∀j,j < n->Xh (P j))(hP':Xh (P' n))(Bv: ∀j,j < n->P' j=P j)(hn:P' n w' S')(hS: ∀i,S' i->w.heap.size<=i)(hb:Below w.heap.size w w') :OL (n+1) P' (D7 Φ n S') w':=by
 have k:=h.below hP hb;refine ⟨fun j hj=>?_,fun j hj i hi=>?_,fun j l hj hl Fc i hi Gi=>?_⟩
 ·by_cases Ei:j=n
  ·subst Ei; rw [Xe]; exact hn
  ·rw [YS Ei,Bv j Zf]; exact k.part j Zf
 ·by_cases Ei:j=n
  ·subst Ei; rw [Xe] at hi; exact hP'.1 w' S' hn i hi
  ·rw [YS Ei] at hi; exact k.lt j Zf i hi
 ·by_cases Ei:j=n
  ·subst Ei;rw [Xe] at hi;rw [YS (fun e=>Fc e.symm)] at Gi;have:=h.lt l Zf i Gi;have:=hS i hi;omega
  ·rw [YS Ei] at hi
   by_cases hln:l=n
   ·subst hln;rw [Xe] at Gi;have:=h.lt j Zf i hi;have:=hS i Gi;omega
   ·exact ZfF
theorem OL.put (h:OL n P Φ w)(Bv: ∀j,j < n->P' j=P j)(hn:P' n w S')(hl: ∀i,S' i->i < w.heap.size)(hd: ∀k,k < n-> ∀i,Φ k i-> ¬S' i) :OL (n+1) P' (D7 Φ n S') w:=by
 refine ⟨fun j hj=>?_,fun j hj i hi=>?_,fun j l hj hl' Fc i hi Gi=>?_⟩
 ·by_cases Ei:j=n
  ·subst Ei; rw [Xe]; exact hn
  ·rw [YS Ei,Bv j Zf]; exact h.part j Zf
 ·by_cases Ei:j=n
  ·subst Ei; rw [Xe] at hi; exact hl i hi
  ·rw [YS Ei] at hi; exact h.lt j Zf i hi
 ·by_cases Ei:j=n
  ·subst Ei;rw [Xe] at hi;rw [YS (fun e=>Fc e.symm)] at Gi;exact hd l Zf i Gi hi
  ·rw [YS Ei] at hi
   by_cases hln:l=n
   ·subst hln;rw [Xe] at Gi;exact hd j Zf i hi Gi
   ·exact ZfF
theorem OL.less (h:OL (n+1) P Φ w)(Bv: ∀j,j < n->P' j=P j) :OL n P' Φ w:=
 ⟨fun j hj=>by rw [Bv j hj]; exact h.part j Zf,fun j hj=>h.lt j Zf,fun j k hj hk=>h.ap j k Zf Zf⟩
theorem OL.remap {M:Nat}(h:OL M P Φ w)(f:Nat->Nat)(hf: ∀k,k < n->f k < M)(kz: ∀j k,j < n->k < n->f j=f k->j=k)(hP: ∀k,k < n->P' k=P (f k)) :OL n P' (fun k=>Φ (f k)) w:=
 ⟨fun k hk=>by rw [hP k hk]; exact h.part _ (hf k hk),fun k hk=>h.lt _ (hf k hk),fun j k hj hk FY=>h.ap _ _ (hf j hj) (hf k hk) fun e=>FY (kz j k hj hk e)⟩
theorem OL.zero:OL 0 P Φ w:=⟨fun k hk=>by omega,fun k hk=>by omega,fun j k hj=>by omega⟩
theorem Dl {b t:Nat}{cs:Array Zl} :Xh fun w S=>Zu w b t cs/\ ∀i,S i ↔ i=b:=
 ⟨fun w S h i hi=>by rw [(h.2 i).1 hi]; exact h.1.lt,fun w w' S T h hk hT=>⟨h.1.kept hk (hT b ((h.2 b).2 rfl)),h.2⟩⟩
end
end
section
open Go.RowKit
theorem wX (L:Int)(w:Zc)(h:1<=L) :
  Zv Zb 74 #[.int .i64 L] w fun e w'=>e= .returned (.pointer (some ⟨w.heap.size,0,none⟩))/\w.alloc (.cells #[.int .i64 0,.int .i64 L] 184)=w':=by
 go_enter func74,ntmps74;exact UD
theorem p6 (b:Nat)(n L:Int)(w:Zc)(h:ET w b n L) :
  Y6 91 #[.pointer (some ⟨b,0,none⟩)] w (.int .i64 n):=by
 obtain ⟨c0,c1,cf⟩:=Mn h;clear h;go_enter func91,ntmps91;go_wp2_with (go_at_call 140; refine (Mp _ _ _ c0).mono ?_; rintro e w' ⟨rfl,rfl⟩);go_ret;exact Gw
theorem qC (b:Nat)(n L:Int)(w:Zc)(hn:n<=9223372036854775807)(h:ET w b n L) :
  Xc 92 #[.pointer (some ⟨b,0,none⟩)] w (.int .i64 (Pj n L)):=by
 obtain ⟨c0,c1,cf⟩:=Mn h;clear h;go_enter func92,ntmps92;go_wp2;go_quiet (first | (go_at_call 140; exact Dj (Mp _ _ _ (by simpa using c0))) | (go_at_call 141; exact Dj (fx _ _ _ hn)));exact pz
theorem yk (b:Nat)(n L:Int)(w:Zc)(h0:0<=n)(hn:n<=9223372036854775806)(hL:1<=L)(h:ET w b n L) :
  Zv Zb 197 #[.pointer (some ⟨b,0,none⟩)] w fun e w'=>e= .returned (.bool ((n+1)%L==0))/\ ∃m,w'=(w.setCell ⟨b,0,none⟩ (.int .i64 (n+1))).drewN m:=by
 obtain ⟨c0,c1,cf⟩:=Mn h;have hz:(L==0)=false:=Xo;have d0:(w.setCell ⟨b,0,none⟩ (.int .i64 (n+1))).cell? ⟨b,0,none⟩=some (.int .i64 (n+1)):=Zu.cell (VH h 0 _) 0;clear h;go_enter func197,ntmps197;go_wp2_with (go_at_call 232; refine (eu _ _ _ h0 hn c0 cf).mono ?_; rintro e w' ⟨rfl,rfl⟩);go_quiet ((go_at_call 140; exact Dj (Mp _ _ _ (by simpa using d0))));exact pz
theorem Zdy (b:Nat)(n L:Int)(w:Zc)(h0:0<=n)(hn:n<=9223372036854775806)(hL:1<=L)(h:ET w b n L) :
  Zv Zb 197 #[.pointer (some ⟨b,0,none⟩)] w fun e w'=>e= .returned (.bool ((n+1)%L==0))/\ET w' b (n+1) L/\w.grownBy w' (some b):=
 (yk b n L w h0 hn hL h).mono fun e w' ⟨he,m,hm⟩=>⟨he,by subst hm; exact VH h 0 _,by subst hm; exact US (QX (K9 _ _) (.inl rfl) _) m⟩
end
section
open Go.RowKit
theorem im (s:Nat)(w:Zc)(h:1<=s)(h2:s<=1048576) :
  Zv Zb 82 #[.int .i64 s] w fun e w'=>e= .returned (.pointer (some ⟨w.heap.size,0,none⟩))/\w.alloc (.cells #[.int .i64 s,.slice none 0 0,.int .i64 0,.int .i64 0] 151)=w':=by
 have h0: ¬(s:Int)< 1:=Zf;have h3: ¬(1048576:Int)< (s:Int):=Zf;go_enter func82,ntmps82;exact UD
theorem AN (b:Nat)(c:Int)(w:Zc)(h:w.cell? ⟨b,3,none⟩=some (.int .i64 c)) :
  Y6 288 #[.pointer (some ⟨b,0,none⟩)] w (.int .i64 c):=by
 go_enter func288,ntmps288;exact UD
theorem SX (b:Nat)(s c:Nat)(w:Zc)(h0:w.cell? ⟨b,0,none⟩=some (.int .i64 s))(h3:w.cell? ⟨b,3,none⟩=some (.int .i64 c))(hs:s<=1048576)(hc:c<=s) :
  Xc 189 #[.pointer (some ⟨b,0,none⟩)] w (.int .i64 ((s - c:Nat) :Int)):=by
 go_enter func189,ntmps189;exact yZ
theorem MK (b n f i:Nat)(a:Option Addr)(cap:Nat)(w:Zc)(h1:w.cell? ⟨b,1,none⟩=some (.slice a n cap))(h2:w.cell? ⟨b,2,none⟩=some (.int .i64 f))(hn:0 < n)(hf:f<=1048576)(hi:i<=1048576) :
  Xc 191 #[.pointer (some ⟨b,0,none⟩),.int .i64 i] w (.int .i64 (((f+i)%n:Nat) :Int)):=by
 have hz:((n:Int)==0)=false:=Xo;go_enter func191,ntmps191;exact zc
end
section
open Go.RowKit
theorem AM (b g h size n f c m cap:Nat)(C D F:List Zl)(w:Zc)(hi:Jw 151 116 2 w b g size n f c C)(hw:QY C (f*2) F)(hF:F.length=c*2)(h1: ∀v ∈ F,v.oneCell'=true)
  (hD:Zu w h 116 D.toArray) (Fa:D.length=m*2) (hcm:c<=m) (kA:m<=cap) (Gh:cap<=1048576) (nQ:h≠g) :
  Zv Zb 95 #[.pointer (some ⟨b,0,none⟩),.slice (some ⟨h,0,none⟩) m cap] w fun e w'=>e= .returned (.tuple #[])/\Zu w' h 116 (F++D.drop F.length).toArray/\ZA (fun i=>i=h) w w'/\w'.heap.size=w.heap.size:=by
 obtain ⟨c0,c1,c2,c3,-,-,-⟩:=hi.cells;obtain ⟨B1,B2,hC,Ab,W6,RH,hs⟩:=hi;have EU:=Za B1;have GI:=Za B2;have HD:=Za hD;have Wj:=Za Fa;have HF:=Za hF;have HC:=Za hC;have H1:=Za h1;clear B1 B2 hD Fa hF hC h1;have hw:QY C (f*2) F:=zr
 have HW:=Za hw;have hT:(Tryz.prog.info? 116).map (·.size)=some 2:=ZC;obtain ⟨u,hu1,hu2,hu3⟩ : ∃u,u<=c/\f+u<=n/\(u=c\/f+u=n):=yL
 have HT:=Za hT;clear hw hT
 by_cases hfc:f+c<=n
 ·have hle:((f:Int)+(c:Int))<=(n:Int):=Zf;obtain rfl:u=c:=Zf;go_enter func95,ntmps95;go_wp2;go_quiet (fail);go_wp2;refine BU 11 ?_;refine BY ?_
  repeat (go_big_quiet_step (fail))
  refine Yo ?_;intro _ JG;obtain ⟨nr,Xk⟩:=JG;subst Xk;have l1:(F.take (u*2)).length=u*2:=aS
  refine Xg rfl (.tmp 21) (.tmp 31) _ _ rfl 116 underlying25 2 Zf HT.o _ _ _ _ _ _ rfl rfl h 0 D 116 HD.o (F.take (u*2)) u Sf l1
   (fun _=>⟨rfl,_,rfl,Nz GI.o HW.o EM⟩) Si (fun v hv=>H1.o v (ZT hv)) ?_
  intro W1 HD1 K1 S1;have Nr: ¬b=h:=JV EU.o HD.o Y5;have d1:=K1.cell (p:=⟨b,1,none⟩) Nr Lx;have d3:=K1.cell (p:=⟨b,3,none⟩) Nr Lv;have dP:=Za l1;have Ri:=Za S1;have OV:=Za K1;have ed:Zj (Zu W1 g 116 C.toArray):=Za (Q3 (w:=(w.drewN nq).drewN nr) GI.o K1 (Ji nQ));clear l1 S1 K1 c1 c3;go_wp2;refine BU 14 ?_;refine BY ?_
  repeat (go_big_quiet_step (fail))
  refine Yo ?_;intro _ JG;obtain ⟨ns,Xk⟩:=JG;subst Xk;refine Xg rfl (.tmp 35) (.tmp 46) _ _ rfl 116 underlying25 2 Zf HT.o _ _ _ _ _ _ rfl rfl h (u*2) _ 116 HD1.o (F.drop (u*2)) 0 Ls Se
   (fun h0=>by have:=HF.o; simp at h0; omega) aM (fun v hv=>H1.o v (Xn hv)) ?_
  exact Zmh
 ·have hle: ¬((f:Int)+(c:Int))<=(n:Int):=Zf;have XJ:(n:Int)< (f:Int)+(c:Int):=Zf;obtain rfl:n=f+u:=Zf;go_enter func95,ntmps95;go_wp2;go_quiet (fail);go_wp2;refine BU 11 ?_;refine BY ?_
  repeat (go_big_quiet_step (fail))
  refine Yo ?_;intro _ JG;obtain ⟨nr,Xk⟩:=JG;subst Xk;have l1:(F.take (u*2)).length=u*2:=aS
  refine Xg rfl (.tmp 21) (.tmp 31) _ _ rfl 116 underlying25 2 Zf HT.o _ _ _ _ _ _ rfl rfl h 0 D 116 HD.o (F.take (u*2)) u Sf l1
   (fun _=>⟨rfl,_,rfl,Nz GI.o HW.o EM⟩) Si (fun v hv=>H1.o v (ZT hv)) ?_
  intro W1 HD1 K1 S1;have Nr: ¬b=h:=JV EU.o HD.o Y5;have d1:=K1.cell (p:=⟨b,1,none⟩) Nr Lx;have d3:=K1.cell (p:=⟨b,3,none⟩) Nr Lv;have dP:=Za l1;have Ri:=Za S1;have OV:=Za K1;have ed:Zj (Zu W1 g 116 C.toArray):=Za (Q3 (w:=(w.drewN nq).drewN nr) GI.o K1 (Ji nQ));clear l1 S1 K1 c1 c3;go_wp2;refine BU 14 ?_;refine BY ?_
  repeat (go_big_quiet_step (fail))
  refine Yo ?_;intro _ JG;obtain ⟨ns,Xk⟩:=JG;subst Xk;have e:C.length -(f*2)=(u*2):=EM;have hx:=A4 ed.o HW.o;rw [e] at hx;refine Xg rfl (.tmp 35) (.tmp 46) _ _ rfl 116 underlying25 2 Zf HT.o _ _ _ _ _ _ rfl rfl h (u*2) _ 116 HD1.o (F.drop (u*2)) (c - u) mT Se
   (fun _=>⟨rfl,_,rfl,hx⟩) aM (fun v hv=>H1.o v (Xn hv)) ?_
  clear hx e;exact Zmh
end
section
open Go.RowKit
theorem AL (b h size m cap:Nat)(D:List Zl)(w:Zc)(hi:DZ 151 w b size)
  (hD:Zu w h 116 D.toArray) (Fa:D.length=m*2) (kA:m<=cap) (Gh:cap<=1048576) :
  Zv Zb 95 #[.pointer (some ⟨b,0,none⟩),.slice (some ⟨h,0,none⟩) m cap] w fun e w'=>e= .returned (.tuple #[])/\Zu w' h 116 D.toArray/\ZA (fun i=>i=h) w w'/\w'.heap.size=w.heap.size:=by
 obtain ⟨c0,c1,c2,c3,-,-,-⟩:=hi.cells;obtain ⟨B1,gd,hs⟩:=hi;have EU:=Za B1;have HD:=Za hD;have Wj:=Za Fa;clear B1 hD Fa;have hT:(Tryz.prog.info? 116).map (·.size)=some 2:=ZC;have HT:=Za hT;clear hT;go_enter func95,ntmps95;go_wp2;go_quiet (fail);go_wp2;refine BU 11 ?_;refine BY ?_
 repeat (go_big_quiet_step (fail))
 refine Yo ?_;intro _ JG;obtain ⟨nr,Xk⟩:=JG;subst Xk;refine Xg rfl (.tmp 21) (.tmp 31) _ _ rfl 116 underlying25 2 Zf HT.o _ _ _ _ _ _ rfl rfl h 0 D 116 HD.o [] 0 Ls rfl
  (fun h0=>by simp at h0) ZE (fun v hv=>by simp at hv) ?_
 intro W1 HD1 K1 S1;have Nr: ¬b=h:=JV EU.o HD.o Y5;have d1:=K1.cell (p:=⟨b,1,none⟩) Nr Lx;have d3:=K1.cell (p:=⟨b,3,none⟩) Nr Lv;have Ri:=Za S1;have OV:=Za K1;clear S1 K1 c1 c3;go_wp2;refine BU 14 ?_;refine BY ?_
 repeat (go_big_quiet_step (fail))
 refine Yo ?_;intro _ JG;obtain ⟨ns,Xk⟩:=JG;subst Xk;refine Xg rfl (.tmp 35) (.tmp 46) _ _ rfl 116 underlying25 2 Zf HT.o _ _ _ _ _ _ rfl rfl h 0 _ 116 HD1.o [] 0 Ls rfl
  (fun h0=>by simp at h0) ZE (fun v hv=>by simp at hv) ?_
 intro W2 HD2 K2 S2;have Ub:Zu W2 h 116 D.toArray/\ZA (fun i=>i=h) w W2/\W2.heap.size=w.heap.size:=Zi4
 exact yR
theorem PK (b h size c m cap:Nat)(go:Option Nat)(D F:List Zl)(w:Zc)(hi:YG 151 116 2 w b go size c F)
  (hD:Zu w h 116 D.toArray) (Fa:D.length=m*2) (hcm:c<=m) (kA:m<=cap) (Gh:cap<=1048576) (nQ:go≠some h) :
  Zv Zb 95 #[.pointer (some ⟨b,0,none⟩),.slice (some ⟨h,0,none⟩) m cap] w fun e w'=>e= .returned (.tuple #[])/\Zu w' h 116 (F++D.drop F.length).toArray/\ZA (fun i=>i=h) w w'/\w'.heap.size=w.heap.size:=by
 obtain ⟨h1,h2,⟨rfl,rfl,h3⟩ | ⟨g,n,f,C,rfl,h3,h4⟩⟩:=hi
 ·obtain rfl:F=[]:=ZO QT;have:=AL b h size m cap D w h3 hD Fa kA Gh;exact DI
 ·exact AM b g h size n f c m cap C D F w h3 h4 h1 h2 hD Fa hcm kA Gh (fun e=>nQ FK)
theorem LJ (b size c need n:Nat)(a:Option Addr)(go:Option Nat)(F:List Zl)(w:Zc)(hi:YG 151 116 2 w b go size c F)(c1:w.cell? ⟨b,1,none⟩=some (.slice a n n))(hn:n < need)(RH:n<=size)(W6:c<=need)(Mx:need<=size) :
  Zv Zb 190 #[.pointer (some ⟨b,0,none⟩),.int .i64 need] w fun e w'=>e= .returned (.tuple #[])/\
   ∃n' C,Jw 151 116 2 w' b w.heap.size size n' 0 c C/\QY C 0 F/\need<=n'/\ZA (fun i=>i=b) w w':=by
 obtain ⟨c0,c3⟩:=hi.cells;obtain ⟨_,gd,hs⟩:=hi.size_le;have fV: ∀i,go=some i->i < w.heap.size:=fun i e=>hi.lt i (.inr e.symm)
 have Pq:b < w.heap.size:=hi.lt b (.inl rfl);obtain ⟨x2,x3,bx⟩ : ∃x2 x3,Zu w b 151 #[.int .i64 size,.slice a n n,x2,x3]:=ZiX
 obtain rfl:x3= .int .i64 c:=zz
 have SH:=hi.1;have hFo:=hi.2.1;have HFl:=Za SH;have HFo:=Za hFo;clear SH hFo;have HI:=Za hi;have HX:=Za bx;clear hi bx;obtain ⟨n1,LG,hn00⟩ : ∃n1:Nat,(if(need:Int)< 2*(n:Int) then 2*(n:Int) else(need:Int))=(n1:Int)/\need<=n1:=Zja
 obtain ⟨n',dV,kB,hn3⟩ : ∃n':Nat,(if(n1:Int)< (size:Int) then(n1:Int) else(size:Int))=(n':Int)/\need<=n'/\n'<=size:=Zi8
 have jr:=Za LG;have HN:=Za dV;clear dV LG;have hT:(Tryz.prog.info? 116).map (fun i=>(i.zero,i.size,i.bytes))=some (some (.agg #[.int .i64 0,.int .i64 0]),2,16):=ZC;obtain ⟨i0,Oi,GO,GF,EO⟩:=info_parts hT;have Ew:=fun W=>Jc (P:=Zb) 25 116 i0 _ underlying25 Oi GO .i64 .i64 n' n' (Zh _) Sj Zf W
 rw [GF] at Ew;have hDo: ∀v ∈ (madeCells (Yr (.agg #[.int .i64 0,.int .i64 0])) (n'*2)).toList,v.oneCell'=true:=RN Y5 Y5 _;have Fa:(madeCells (Yr (.agg #[.int .i64 0,.int .i64 0])) (n'*2)).toList.length=n'*2:=aQ
 have vq:(madeCells (Yr (.agg #[.int .i64 0,.int .i64 0])) (n'*2))=((madeCells (Yr (.agg #[.int .i64 0,.int .i64 0])) (n'*2)).toList).toArray:=ZE;generalize madeCells (Yr (.agg #[.int .i64 0,.int .i64 0])) (n'*2)=D0 at*;generalize D0.toList=D at*;subst vq;have Wj:=Za Fa;have HDo:=Za hDo;clear hT Oi GO GF EO i0 hDo Fa;go_enter func190,ntmps190;go_wp2;refine BU 13 ?_;refine BY ?_
 repeat (go_big_quiet_step (fail))
 try rw [cn]
 rw [jr.o];try rw [TX]
 rw [HN.o];refine Yo ?_;intro _ JG;obtain ⟨nr,Xk⟩:=JG;subst Xk;go_wp2_with fail;refine (PK b _ size c n' n' go D F _ (Bq (S:=fun _=>False) HI.o (((ZS _ w).drewN nr).alloc _) (fun _ _ h=>h)) (Zs _ _ _) Wj.o Zf Zf Zf (fun e=>by have:=fV _ e; simp at this)).mono ?_;rintro e w1 ⟨rfl,FN,fQ,IU⟩;have Nr: ¬b=w.heap.size:=Zf;have EU:Zj (Zu w1 w.heap.size 116 (F++D.drop F.length).toArray):=Za FN;have C8:ZA (fun i=>i=w.heap.size) w w1:=(((ZS _ w).drewN nr).alloc _).trans fQ (fun _ _ h=>h);have Sn:=Za C8;have jz:Zj (Zu w1 b 151 #[.int .i64 size,Ys a n n,x2,.int .i64 c]):=Za (HX.o.kept C8 Nr);exact Zmg
theorem AO (b size c need:Nat)(go:Option Nat)(F:List Zl)(w:Zc)(hi:YG 151 116 2 w b go size c F)(h1:1<=need)(W6:c<=need)(Mx:need<=size) :
  Zv Zb 190 #[.pointer (some ⟨b,0,none⟩),.int .i64 need] w fun e w'=>e= .returned (.tuple #[])/\
   ∃g n f C,Jw 151 116 2 w' b g size n f c C/\QY C (f*2) F/\need<=n/\Gv w go (some g)/\ZA (fun i=>i=b) w w':=by
 have NV:=hi;obtain ⟨hF,hF1,⟨rfl,rfl,h3⟩ | ⟨g,n,f,C,rfl,h3,h4⟩⟩:=hi
 ·exact (LJ b size 0 need 0 none none F w NV h3.cells.2.1 Zf Zf W6 Mx).mono fun e w' ⟨he,n',C,k1,k2,k3,k4⟩=>
   ⟨he,_,n',0,C,k1,by rw [JL]; exact k2,k3,fun i hi=> .inr Sd,k4⟩
 ·by_cases hn:need<=n
  ·have c1:=h3.cells.2.1;have H3:=Za h3;have H4:=Za h4;have RH:=h3.2.2.2.2.2;clear h3 h4 NV hF hF1;go_enter func190,ntmps190;exact Zi9
  ·have RH:=h3.2.2.2.2.2.1;exact (LJ b size c need n _ (some g) F w NV h3.cells.2.1 Zf RH W6 Mx).mono fun e w' ⟨he,n',C,k1,k2,k3,k4⟩=>
    ⟨he,_,n',0,C,k1,by rw [JL]; exact k2,k3,fun i hi=> .inr Sd,k4⟩
end
section
open Go.RowKit
theorem cM (b size c:Nat)(w:Zc)(a:Option Addr)(len cap:Nat)(hl:len<=9223372036854775807)(h0:w.cell? ⟨b,0,none⟩=some (.int .i64 size))(h3:w.cell? ⟨b,3,none⟩=some (.int .i64 c))(hs:size<=1048576)(hc:c<=size)(hz:len=0\/c=size) :
  Xc 133 #[.pointer (some ⟨b,0,none⟩),.slice a len cap] w (.int .i64 0):=by
 obtain ⟨d,hd⟩ : ∃d:Nat,size - c=d:=⟨_,rfl⟩;have hf: ∀W:Zc,Zj (W=w)->Xc 189 #[.pointer (some ⟨b,0,none⟩)] W (.int .i64 d):=fun W hW=>by
  have hW:=hW.o;subst hW;rw [<-hd];exact SX b size c _ h0 h3 hs hc
 have HF:=Za hf;clear hf h0 h3
 by_cases h:(d:Int)< (len:Int)
 ·obtain rfl:d=0:=Zf;exact ZmY
 ·obtain rfl:len=0:=Zf;exact ZmY
theorem cL (b size c m len cap:Nat)(go:Option Nat)(ad:Addr)(F cs:List Zl)(w:Zc)(hi:YG 151 116 2 w b go size c F)(FB:Src w (Je b go) (some ad) len 2 cs)
  (hl:len<=cap) (Gh:cap<=9223372036854775807) (hm:1<=m) (rf:m<=len) (jv:c+m<=size) (hm3:m=len\/c+m=size) :
  Zv Zb 133 #[.pointer (some ⟨b,0,none⟩),.slice (some ad) len cap] w fun e w'=>e= .returned (.int .i64 m)/\
   ∃go',YG 151 116 2 w' b go' size (c+m) (F++cs.take (m*2))/\Gv w go go'/\ZA (Je b go) w w':=by
 obtain ⟨c0,c3⟩:=hi.cells;obtain ⟨_,gd,hs⟩:=hi.size_le;obtain ⟨d,hd⟩ : ∃d:Nat,size - c=d:=⟨_,rfl⟩;have hf: ∀W:Zc,Zj (W=w)->Xc 189 #[.pointer (some ⟨b,0,none⟩)] W (.int .i64 d):=fun W hW=>by
  have hW:=hW.o;subst hW;rw [<-hd];exact SX b size c _ c0 c3 hs Zf
 have HF:=Za hf;have HI:=Za hi;have tJ:=Za FB;have hmz:((m:Int)==0)=false:=Xo;have c3': ∀q,(w.drewN q).cell? ⟨b,3,none⟩=some (.int .i64 c):=fun q=>c3
 have hd1:d+c<=size:=Zf;have vE:size<=d+c:=Zf;clear hf hi FB c0 hd;have key: ∀q:Nat,Zv Zb 190 #[.pointer (some ⟨b,0,none⟩),.int .i64 ((c:Int)+(m:Int))] (w.drewN q) fun e w'=>e= .returned (.tuple #[])/\
   ∃g n f C,Jw 151 116 2 w' b g size n f c C/\QY C (f*2) F/\c+m<=n/\Gv w go (some g)/\ZA (fun i=>i=b) w w':=fun q=>by
  have:=AO b size c (c+m) go F (w.drewN q) HI.o Zf Zf jv;rw [show ((c+m:Nat) :Int)=(c:Int)+(m:Int) by omega] at this;exact this.mono fun e w' ⟨he,g,n,f,C,k1,k2,k3,k4,k5⟩=>⟨he,g,n,f,C,k1,k2,k3,k4,((ZS _ w).drewN q).trans k5 (fun _ _ h=>h)⟩
 have KEY:=Za key;clear key;have hT:(Tryz.prog.info? 116).map (·.size)=some 2:=ZC;have HT:=Za hT;clear hT
 by_cases h:(d:Int)< (len:Int)
 ·obtain rfl:m=d:=Zf;exact zT2
 ·obtain rfl:m=len:=Zf;exact zT2
theorem S7 (b size c len cap:Nat)(go:Option Nat)(a:Option Addr)(F cs:List Zl)(w:Zc)(hi:YG 151 116 2 w b go size c F)(FB:Src w (Je b go) a len 2 cs)
  (hl:len<=cap) (Gh:cap<=9223372036854775807) :
  Zv Zb 133 #[.pointer (some ⟨b,0,none⟩),.slice a len cap] w fun e w'=>e= .returned (.int .i64 ((min len (size - c) :Nat) :Int))/\
   ∃go',YG 151 116 2 w' b go' size (c+min len (size - c)) (F++cs.take (min len (size - c)*2))/\Gv w go go'/\ZA (Je b go) w w':=by
 obtain ⟨h1,h2,h3⟩:=hi.size_le
 by_cases hz:min len (size - c)=0
 ·rw [hz];refine (cM b size c w a len cap Zf hi.cells.1 hi.cells.2 h3 h1 Zf).mono fun e w' ⟨he,m,hm⟩=>⟨he,go,?_,fun i h=> .inl h,by subst hm; exact (ZS _ _).drewN _⟩
  subst hm;simpa using hi.drewN m
 ·obtain ⟨ad,rfl,_⟩:=FB.2.2 Zf;have:=cL b size c (min len (size - c)) len cap go ad F cs w hi FB hl Gh Zf Zf Zf Zf;exact zy
end
section
open Go.RowKit
theorem iC (s:Nat)(w:Zc)(h:1<=s)(h2:s<=1048576) :
  Zv Zb 83 #[.int .i64 s] w fun e w'=>e= .returned (.pointer (some ⟨w.heap.size,0,none⟩))/\w.alloc (.cells #[.int .i64 s,.slice none 0 0,.int .i64 0,.int .i64 0] 154)=w':=by
 have h0: ¬(s:Int)< 1:=Zf;have h3: ¬(1048576:Int)< (s:Int):=Zf;go_enter func83,ntmps83;exact UD
theorem A7 (b:Nat)(c:Int)(w:Zc)(h:w.cell? ⟨b,3,none⟩=some (.int .i64 c)) :
  Y6 274 #[.pointer (some ⟨b,0,none⟩)] w (.int .i64 c):=by
 go_enter func274,ntmps274;exact UD
theorem Ta (b:Nat)(s c:Nat)(w:Zc)(h0:w.cell? ⟨b,0,none⟩=some (.int .i64 s))(h3:w.cell? ⟨b,3,none⟩=some (.int .i64 c))(hs:s<=1048576)(hc:c<=s) :
  Xc 194 #[.pointer (some ⟨b,0,none⟩)] w (.int .i64 ((s - c:Nat) :Int)):=by
 go_enter func194,ntmps194;exact yZ
theorem MS (b n f i:Nat)(a:Option Addr)(cap:Nat)(w:Zc)(h1:w.cell? ⟨b,1,none⟩=some (.slice a n cap))(h2:w.cell? ⟨b,2,none⟩=some (.int .i64 f))(hn:0 < n)(hf:f<=1048576)(hi:i<=1048576) :
  Xc 196 #[.pointer (some ⟨b,0,none⟩),.int .i64 i] w (.int .i64 (((f+i)%n:Nat) :Int)):=by
 have hz:((n:Int)==0)=false:=Xo;go_enter func196,ntmps196;exact zc
end
section
open Go.RowKit
theorem A6 (b g h size n f c m cap:Nat)(C D F:List Zl)(w:Zc)(hi:Jw 154 119 2 w b g size n f c C)(hw:QY C (f*2) F)(hF:F.length=c*2)(h1: ∀v ∈ F,v.oneCell'=true)
  (hD:Zu w h 119 D.toArray) (Fa:D.length=m*2) (hcm:c<=m) (kA:m<=cap) (Gh:cap<=1048576) (nQ:h≠g) :
  Zv Zb 96 #[.pointer (some ⟨b,0,none⟩),.slice (some ⟨h,0,none⟩) m cap] w fun e w'=>e= .returned (.tuple #[])/\Zu w' h 119 (F++D.drop F.length).toArray/\ZA (fun i=>i=h) w w'/\w'.heap.size=w.heap.size:=by
 obtain ⟨c0,c1,c2,c3,-,-,-⟩:=hi.cells;obtain ⟨B1,B2,hC,Ab,W6,RH,hs⟩:=hi;have EU:=Za B1;have GI:=Za B2;have HD:=Za hD;have Wj:=Za Fa;have HF:=Za hF;have HC:=Za hC;have H1:=Za h1;clear B1 B2 hD Fa hF hC h1;have hw:QY C (f*2) F:=zr
 have HW:=Za hw;have hT:(Tryz.prog.info? 119).map (·.size)=some 2:=ZC;obtain ⟨u,hu1,hu2,hu3⟩ : ∃u,u<=c/\f+u<=n/\(u=c\/f+u=n):=yL
 have HT:=Za hT;clear hw hT
 by_cases hfc:f+c<=n
 ·have hle:((f:Int)+(c:Int))<=(n:Int):=Zf;obtain rfl:u=c:=Zf;go_enter func96,ntmps96;go_wp2;go_quiet (fail);go_wp2;refine BU 11 ?_;refine BY ?_
  repeat (go_big_quiet_step (fail))
  refine Yo ?_;intro _ JG;obtain ⟨nr,Xk⟩:=JG;subst Xk;have l1:(F.take (u*2)).length=u*2:=aS
  refine Xg rfl (.tmp 21) (.tmp 31) _ _ rfl 119 underlying26 2 Zf HT.o _ _ _ _ _ _ rfl rfl h 0 D 119 HD.o (F.take (u*2)) u Sf l1
   (fun _=>⟨rfl,_,rfl,Nz GI.o HW.o EM⟩) Si (fun v hv=>H1.o v (ZT hv)) ?_
  intro W1 HD1 K1 S1;have Nr: ¬b=h:=JV EU.o HD.o Y5;have d1:=K1.cell (p:=⟨b,1,none⟩) Nr Lx;have d3:=K1.cell (p:=⟨b,3,none⟩) Nr Lv;have dP:=Za l1;have Ri:=Za S1;have OV:=Za K1;have ed:Zj (Zu W1 g 119 C.toArray):=Za (Q3 (w:=(w.drewN nq).drewN nr) GI.o K1 (Ji nQ));clear l1 S1 K1 c1 c3;go_wp2;refine BU 14 ?_;refine BY ?_
  repeat (go_big_quiet_step (fail))
  refine Yo ?_;intro _ JG;obtain ⟨ns,Xk⟩:=JG;subst Xk;refine Xg rfl (.tmp 35) (.tmp 46) _ _ rfl 119 underlying26 2 Zf HT.o _ _ _ _ _ _ rfl rfl h (u*2) _ 119 HD1.o (F.drop (u*2)) 0 Ls Se
   (fun h0=>by have:=HF.o; simp at h0; omega) aM (fun v hv=>H1.o v (Xn hv)) ?_
  exact Zmi
 ·have hle: ¬((f:Int)+(c:Int))<=(n:Int):=Zf;have XJ:(n:Int)< (f:Int)+(c:Int):=Zf;obtain rfl:n=f+u:=Zf;go_enter func96,ntmps96;go_wp2;go_quiet (fail);go_wp2;refine BU 11 ?_;refine BY ?_
  repeat (go_big_quiet_step (fail))
  refine Yo ?_;intro _ JG;obtain ⟨nr,Xk⟩:=JG;subst Xk;have l1:(F.take (u*2)).length=u*2:=aS
  refine Xg rfl (.tmp 21) (.tmp 31) _ _ rfl 119 underlying26 2 Zf HT.o _ _ _ _ _ _ rfl rfl h 0 D 119 HD.o (F.take (u*2)) u Sf l1
   (fun _=>⟨rfl,_,rfl,Nz GI.o HW.o EM⟩) Si (fun v hv=>H1.o v (ZT hv)) ?_
  intro W1 HD1 K1 S1;have Nr: ¬b=h:=JV EU.o HD.o Y5;have d1:=K1.cell (p:=⟨b,1,none⟩) Nr Lx;have d3:=K1.cell (p:=⟨b,3,none⟩) Nr Lv;have dP:=Za l1;have Ri:=Za S1;have OV:=Za K1;have ed:Zj (Zu W1 g 119 C.toArray):=Za (Q3 (w:=(w.drewN nq).drewN nr) GI.o K1 (Ji nQ));clear l1 S1 K1 c1 c3;go_wp2;refine BU 14 ?_;refine BY ?_
  repeat (go_big_quiet_step (fail))
  refine Yo ?_;intro _ JG;obtain ⟨ns,Xk⟩:=JG;subst Xk;have e:C.length -(f*2)=(u*2):=EM;have hx:=A4 ed.o HW.o;rw [e] at hx;refine Xg rfl (.tmp 35) (.tmp 46) _ _ rfl 119 underlying26 2 Zf HT.o _ _ _ _ _ _ rfl rfl h (u*2) _ 119 HD1.o (F.drop (u*2)) (c - u) mT Se
   (fun _=>⟨rfl,_,rfl,hx⟩) aM (fun v hv=>H1.o v (Xn hv)) ?_
  clear hx e;exact Zmi
end
section
open Go.RowKit
theorem A5 (b h size m cap:Nat)(D:List Zl)(w:Zc)(hi:DZ 154 w b size)
  (hD:Zu w h 119 D.toArray) (Fa:D.length=m*2) (kA:m<=cap) (Gh:cap<=1048576) :
  Zv Zb 96 #[.pointer (some ⟨b,0,none⟩),.slice (some ⟨h,0,none⟩) m cap] w fun e w'=>e= .returned (.tuple #[])/\Zu w' h 119 D.toArray/\ZA (fun i=>i=h) w w'/\w'.heap.size=w.heap.size:=by
 obtain ⟨c0,c1,c2,c3,-,-,-⟩:=hi.cells;obtain ⟨B1,gd,hs⟩:=hi;have EU:=Za B1;have HD:=Za hD;have Wj:=Za Fa;clear B1 hD Fa;have hT:(Tryz.prog.info? 119).map (·.size)=some 2:=ZC;have HT:=Za hT;clear hT;go_enter func96,ntmps96;go_wp2;go_quiet (fail);go_wp2;refine BU 11 ?_;refine BY ?_
 repeat (go_big_quiet_step (fail))
 refine Yo ?_;intro _ JG;obtain ⟨nr,Xk⟩:=JG;subst Xk;refine Xg rfl (.tmp 21) (.tmp 31) _ _ rfl 119 underlying26 2 Zf HT.o _ _ _ _ _ _ rfl rfl h 0 D 119 HD.o [] 0 Ls rfl
  (fun h0=>by simp at h0) ZE (fun v hv=>by simp at hv) ?_
 intro W1 HD1 K1 S1;have Nr: ¬b=h:=JV EU.o HD.o Y5;have d1:=K1.cell (p:=⟨b,1,none⟩) Nr Lx;have d3:=K1.cell (p:=⟨b,3,none⟩) Nr Lv;have Ri:=Za S1;have OV:=Za K1;clear S1 K1 c1 c3;go_wp2;refine BU 14 ?_;refine BY ?_
 repeat (go_big_quiet_step (fail))
 refine Yo ?_;intro _ JG;obtain ⟨ns,Xk⟩:=JG;subst Xk;refine Xg rfl (.tmp 35) (.tmp 46) _ _ rfl 119 underlying26 2 Zf HT.o _ _ _ _ _ _ rfl rfl h 0 _ 119 HD1.o [] 0 Ls rfl
  (fun h0=>by simp at h0) ZE (fun v hv=>by simp at hv) ?_
 intro W2 HD2 K2 S2;have Ub:Zu W2 h 119 D.toArray/\ZA (fun i=>i=h) w W2/\W2.heap.size=w.heap.size:=Zi4
 exact yR
theorem PR (b h size c m cap:Nat)(go:Option Nat)(D F:List Zl)(w:Zc)(hi:YG 154 119 2 w b go size c F)
  (hD:Zu w h 119 D.toArray) (Fa:D.length=m*2) (hcm:c<=m) (kA:m<=cap) (Gh:cap<=1048576) (nQ:go≠some h) :
  Zv Zb 96 #[.pointer (some ⟨b,0,none⟩),.slice (some ⟨h,0,none⟩) m cap] w fun e w'=>e= .returned (.tuple #[])/\Zu w' h 119 (F++D.drop F.length).toArray/\ZA (fun i=>i=h) w w'/\w'.heap.size=w.heap.size:=by
 obtain ⟨h1,h2,⟨rfl,rfl,h3⟩ | ⟨g,n,f,C,rfl,h3,h4⟩⟩:=hi
 ·obtain rfl:F=[]:=ZO QT;have:=A5 b h size m cap D w h3 hD Fa kA Gh;exact DI
 ·exact A6 b g h size n f c m cap C D F w h3 h4 h1 h2 hD Fa hcm kA Gh (fun e=>nQ FK)
theorem LL (b size c need n:Nat)(a:Option Addr)(go:Option Nat)(F:List Zl)(w:Zc)(hi:YG 154 119 2 w b go size c F)(c1:w.cell? ⟨b,1,none⟩=some (.slice a n n))(hn:n < need)(RH:n<=size)(W6:c<=need)(Mx:need<=size) :
  Zv Zb 195 #[.pointer (some ⟨b,0,none⟩),.int .i64 need] w fun e w'=>e= .returned (.tuple #[])/\
   ∃n' C,Jw 154 119 2 w' b w.heap.size size n' 0 c C/\QY C 0 F/\need<=n'/\ZA (fun i=>i=b) w w':=by
 obtain ⟨c0,c3⟩:=hi.cells;obtain ⟨_,gd,hs⟩:=hi.size_le;have fV: ∀i,go=some i->i < w.heap.size:=fun i e=>hi.lt i (.inr e.symm)
 have Pq:b < w.heap.size:=hi.lt b (.inl rfl);obtain ⟨x2,x3,bx⟩ : ∃x2 x3,Zu w b 154 #[.int .i64 size,.slice a n n,x2,x3]:=ZiX
 obtain rfl:x3= .int .i64 c:=zz
 have SH:=hi.1;have hFo:=hi.2.1;have HFl:=Za SH;have HFo:=Za hFo;clear SH hFo;have HI:=Za hi;have HX:=Za bx;clear hi bx;obtain ⟨n1,LG,hn00⟩ : ∃n1:Nat,(if(need:Int)< 2*(n:Int) then 2*(n:Int) else(need:Int))=(n1:Int)/\need<=n1:=Zja
 obtain ⟨n',dV,kB,hn3⟩ : ∃n':Nat,(if(n1:Int)< (size:Int) then(n1:Int) else(size:Int))=(n':Int)/\need<=n'/\n'<=size:=Zi8
 have jr:=Za LG;have HN:=Za dV;clear dV LG;have hT:(Tryz.prog.info? 119).map (fun i=>(i.zero,i.size,i.bytes))=some (some (.agg #[.int .i64 0,.int .u64 0]),2,16):=ZC;obtain ⟨i0,Oi,GO,GF,EO⟩:=info_parts hT;have Ew:=fun W=>Jc (P:=Zb) 26 119 i0 _ underlying26 Oi GO .i64 .i64 n' n' (Zh _) Sj Zf W
 rw [GF] at Ew;have hDo: ∀v ∈ (madeCells (Yr (.agg #[.int .i64 0,.int .u64 0])) (n'*2)).toList,v.oneCell'=true:=RN Y5 Y5 _;have Fa:(madeCells (Yr (.agg #[.int .i64 0,.int .u64 0])) (n'*2)).toList.length=n'*2:=aQ
 have vq:(madeCells (Yr (.agg #[.int .i64 0,.int .u64 0])) (n'*2))=((madeCells (Yr (.agg #[.int .i64 0,.int .u64 0])) (n'*2)).toList).toArray:=ZE;generalize madeCells (Yr (.agg #[.int .i64 0,.int .u64 0])) (n'*2)=D0 at*;generalize D0.toList=D at*;subst vq;have Wj:=Za Fa;have HDo:=Za hDo;clear hT Oi GO GF EO i0 hDo Fa;go_enter func195,ntmps195;go_wp2;refine BU 13 ?_;refine BY ?_
 repeat (go_big_quiet_step (fail))
 try rw [cn]
 rw [jr.o];try rw [TX]
 rw [HN.o];refine Yo ?_;intro _ JG;obtain ⟨nr,Xk⟩:=JG;subst Xk;go_wp2_with fail;refine (PR b _ size c n' n' go D F _ (Bq (S:=fun _=>False) HI.o (((ZS _ w).drewN nr).alloc _) (fun _ _ h=>h)) (Zs _ _ _) Wj.o Zf Zf Zf (fun e=>by have:=fV _ e; simp at this)).mono ?_;rintro e w1 ⟨rfl,FN,fQ,IU⟩;have Nr: ¬b=w.heap.size:=Zf;have EU:Zj (Zu w1 w.heap.size 119 (F++D.drop F.length).toArray):=Za FN;have C8:ZA (fun i=>i=w.heap.size) w w1:=(((ZS _ w).drewN nr).alloc _).trans fQ (fun _ _ h=>h);have Sn:=Za C8;have jz:Zj (Zu w1 b 154 #[.int .i64 size,Ys a n n,x2,.int .i64 c]):=Za (HX.o.kept C8 Nr);exact Zmg
theorem A9 (b size c need:Nat)(go:Option Nat)(F:List Zl)(w:Zc)(hi:YG 154 119 2 w b go size c F)(h1:1<=need)(W6:c<=need)(Mx:need<=size) :
  Zv Zb 195 #[.pointer (some ⟨b,0,none⟩),.int .i64 need] w fun e w'=>e= .returned (.tuple #[])/\
   ∃g n f C,Jw 154 119 2 w' b g size n f c C/\QY C (f*2) F/\need<=n/\Gv w go (some g)/\ZA (fun i=>i=b) w w':=by
 have NV:=hi;obtain ⟨hF,hF1,⟨rfl,rfl,h3⟩ | ⟨g,n,f,C,rfl,h3,h4⟩⟩:=hi
 ·exact (LL b size 0 need 0 none none F w NV h3.cells.2.1 Zf Zf W6 Mx).mono fun e w' ⟨he,n',C,k1,k2,k3,k4⟩=>
   ⟨he,_,n',0,C,k1,by rw [JL]; exact k2,k3,fun i hi=> .inr Sd,k4⟩
 ·by_cases hn:need<=n
  ·have c1:=h3.cells.2.1;have H3:=Za h3;have H4:=Za h4;have RH:=h3.2.2.2.2.2;clear h3 h4 NV hF hF1;go_enter func195,ntmps195;exact Zi9
  ·have RH:=h3.2.2.2.2.2.1;exact (LL b size c need n _ (some g) F w NV h3.cells.2.1 Zf RH W6 Mx).mono fun e w' ⟨he,n',C,k1,k2,k3,k4⟩=>
    ⟨he,_,n',0,C,k1,by rw [JL]; exact k2,k3,fun i hi=> .inr Sd,k4⟩
end
section
open Go.RowKit
theorem cX (b size c:Nat)(w:Zc)(a:Option Addr)(len cap:Nat)(hl:len<=9223372036854775807)(h0:w.cell? ⟨b,0,none⟩=some (.int .i64 size))(h3:w.cell? ⟨b,3,none⟩=some (.int .i64 c))(hs:size<=1048576)(hc:c<=size)(hz:len=0\/c=size) :
  Xc 135 #[.pointer (some ⟨b,0,none⟩),.slice a len cap] w (.int .i64 0):=by
 obtain ⟨d,hd⟩ : ∃d:Nat,size - c=d:=⟨_,rfl⟩;have hf: ∀W:Zc,Zj (W=w)->Xc 194 #[.pointer (some ⟨b,0,none⟩)] W (.int .i64 d):=fun W hW=>by
  have hW:=hW.o;subst hW;rw [<-hd];exact Ta b size c _ h0 h3 hs hc
 have HF:=Za hf;clear hf h0 h3
 by_cases h:(d:Int)< (len:Int)
 ·obtain rfl:d=0:=Zf;exact ZmZ
 ·obtain rfl:len=0:=Zf;exact ZmZ
theorem cW (b size c m len cap:Nat)(go:Option Nat)(ad:Addr)(F cs:List Zl)(w:Zc)(hi:YG 154 119 2 w b go size c F)(FB:Src w (Je b go) (some ad) len 2 cs)
  (hl:len<=cap) (Gh:cap<=9223372036854775807) (hm:1<=m) (rf:m<=len) (jv:c+m<=size) (hm3:m=len\/c+m=size) :
  Zv Zb 135 #[.pointer (some ⟨b,0,none⟩),.slice (some ad) len cap] w fun e w'=>e= .returned (.int .i64 m)/\
   ∃go',YG 154 119 2 w' b go' size (c+m) (F++cs.take (m*2))/\Gv w go go'/\ZA (Je b go) w w':=by
 obtain ⟨c0,c3⟩:=hi.cells;obtain ⟨_,gd,hs⟩:=hi.size_le;obtain ⟨d,hd⟩ : ∃d:Nat,size - c=d:=⟨_,rfl⟩;have hf: ∀W:Zc,Zj (W=w)->Xc 194 #[.pointer (some ⟨b,0,none⟩)] W (.int .i64 d):=fun W hW=>by
  have hW:=hW.o;subst hW;rw [<-hd];exact Ta b size c _ c0 c3 hs Zf
 have HF:=Za hf;have HI:=Za hi;have tJ:=Za FB;have hmz:((m:Int)==0)=false:=Xo;have c3': ∀q,(w.drewN q).cell? ⟨b,3,none⟩=some (.int .i64 c):=fun q=>c3
 have hd1:d+c<=size:=Zf;have vE:size<=d+c:=Zf;clear hf hi FB c0 hd;have key: ∀q:Nat,Zv Zb 195 #[.pointer (some ⟨b,0,none⟩),.int .i64 ((c:Int)+(m:Int))] (w.drewN q) fun e w'=>e= .returned (.tuple #[])/\
   ∃g n f C,Jw 154 119 2 w' b g size n f c C/\QY C (f*2) F/\c+m<=n/\Gv w go (some g)/\ZA (fun i=>i=b) w w':=fun q=>by
  have:=A9 b size c (c+m) go F (w.drewN q) HI.o Zf Zf jv;rw [show ((c+m:Nat) :Int)=(c:Int)+(m:Int) by omega] at this;exact this.mono fun e w' ⟨he,g,n,f,C,k1,k2,k3,k4,k5⟩=>⟨he,g,n,f,C,k1,k2,k3,k4,((ZS _ w).drewN q).trans k5 (fun _ _ h=>h)⟩
 have KEY:=Za key;clear key;have hT:(Tryz.prog.info? 119).map (·.size)=some 2:=ZC;have HT:=Za hT;clear hT
 by_cases h:(d:Int)< (len:Int)
 ·obtain rfl:m=d:=Zf;exact zT3
 ·obtain rfl:m=len:=Zf;exact zT3
theorem Tc (b size c len cap:Nat)(go:Option Nat)(a:Option Addr)(F cs:List Zl)(w:Zc)(hi:YG 154 119 2 w b go size c F)(FB:Src w (Je b go) a len 2 cs)
  (hl:len<=cap) (Gh:cap<=9223372036854775807) :
  Zv Zb 135 #[.pointer (some ⟨b,0,none⟩),.slice a len cap] w fun e w'=>e= .returned (.int .i64 ((min len (size - c) :Nat) :Int))/\
   ∃go',YG 154 119 2 w' b go' size (c+min len (size - c)) (F++cs.take (min len (size - c)*2))/\Gv w go go'/\ZA (Je b go) w w':=by
 obtain ⟨h1,h2,h3⟩:=hi.size_le
 by_cases hz:min len (size - c)=0
 ·rw [hz];refine (cX b size c w a len cap Zf hi.cells.1 hi.cells.2 h3 h1 Zf).mono fun e w' ⟨he,m,hm⟩=>⟨he,go,?_,fun i h=> .inl h,by subst hm; exact (ZS _ _).drewN _⟩
  subst hm;simpa using hi.drewN m
 ·obtain ⟨ad,rfl,_⟩:=FB.2.2 Zf;have:=cW b size c (min len (size - c)) len cap go ad F cs w hi FB hl Gh Zf Zf Zf Zf;exact zy
end
section
open Go.RowKit
theorem lQ (b size c:Nat)(go:Option Nat)(F:List Zl)(w:Zc)(hi:YG 151 116 2 w b go size c F) :
  Zv Zb 47 #[.pointer (some ⟨b,0,none⟩)] w fun e w'=>e= .returned (.slice (some ⟨w.heap.size,0,none⟩) c c)/\Zu w' w.heap.size 116 F.toArray/\Below w.heap.size w w':=by
 obtain ⟨c0,c3⟩:=hi.cells;obtain ⟨Hk,gd,hs⟩:=hi.size_le;have fV: ∀i,go=some i->i < w.heap.size:=fun i e=>hi.lt i (.inr e.symm)
 have SH:=hi.1;have HFl:=Za SH;have HI:=Za hi;clear hi SH;have hT:(Tryz.prog.info? 116).map (fun i=>(i.zero,i.size,i.bytes))=some (some (.agg #[.int .i64 0,.int .i64 0]),2,16):=ZC;obtain ⟨i0,Oi,GO,GF,EO⟩:=info_parts hT;have Ew:=fun W=>Jc (P:=Zb) 25 116 i0 _ underlying25 Oi GO .i64 .i64 c c (Zh _) Sj Zf W
 rw [GF] at Ew;have Fa:(madeCells (Yr (.agg #[.int .i64 0,.int .i64 0])) (c*2)).toList.length=c*2:=aQ
 have vq:(madeCells (Yr (.agg #[.int .i64 0,.int .i64 0])) (c*2))=((madeCells (Yr (.agg #[.int .i64 0,.int .i64 0])) (c*2)).toList).toArray:=ZE;generalize madeCells (Yr (.agg #[.int .i64 0,.int .i64 0])) (c*2)=D0 at*;generalize D0.toList=D at*;subst vq;have Wj:=Za Fa;clear hT Oi GO GF EO i0 Fa;go_enter func47,ntmps47;go_wp2_with fail;refine (PK b _ size c c c go D F _ (Bq (S:=fun _=>False) HI.o ((ZS _ w).alloc _) (fun _ _ h=>h)) (Zs _ _ _) Wj.o Zf Zf Zf (fun e=>by have:=fV _ e; simp at this)).mono ?_;rintro e w1 ⟨rfl,FN,fQ,IU⟩;have WW:Zu w1 w.heap.size 116 F.toArray:=yH
 exact Zi1
end
end Go.Proofs.YtobgbcdgffgdhaaGreat
