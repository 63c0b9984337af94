/- Part 30 of 31: Tik Ops App New lr Snap Lw Runs. -/
import Derived.Test.YtobgbcdgffgdhaaGreatZw00
import Derived.Test.YtobgbcdgffgdhaaGreatZw29
namespace Go.Proofs.YtobgbcdgffgdhaaGreat
set_option linter.unusedVariables false
set_option linter.unusedSimpArgs false
set_option maxRecDepth 100000
set_option maxHeartbeats 8000000
open _root_.And renaming intro -> Zn
open _root_.Array renaming all_eq_true_iff_forall_mem -> ZK
open _root_.Go.Proofs.YtobgbcdgffgdhaaGreat.As renaming row -> Qw
open _root_.Go.RowKit renaming Below -> Zp
open _root_.Go.RowKit.Below renaming refl -> Zo
open _root_.Go.Proofs.YtobgbcdgffgdhaaGreat.Zu renaming new -> Zt, setRow -> Ji
open _root_.Go renaming Calls -> Zv, Operand -> YN, Program -> YL, TypeId -> ZJ, Value -> Zk, World -> Zc, bodyPost_ret -> Yd, execOp -> XL, results_cell_row -> YC, setRow_heap -> YA, wpList -> YQ, wpList_plain -> Jf, wpQuiet -> ZZ, wp_store_row -> Qi
open _root_.Iff renaming rfl -> KY
open _root_.Go.Instr renaming lookup -> JN
open _root_.Go.Proofs.YtobgbcdgffgdhaaGreat.Zx renaming refl -> ZM, setRow -> XX
open _root_.List renaming getElem?_eq_some_iff -> Zj, length_append -> ZF, mem_cons -> ZU, mem_toArray -> Uw, not_mem_nil -> Yg
open _root_.Nat renaming le_refl -> Zh, le_trans -> ZY
open _root_.Go.NoPanic renaming normal -> Yu
open _root_.Go.Oper renaming wp -> Jp
open _root_.Go.Proofs.YtobgbcdgffgdhaaGreat.Pm renaming row -> J8
open _root_.Go.Result renaming andThen_ok -> ZW
open _root_.Go.Sem renaming run_bind -> Yr, run_pure -> YU
open _root_.Go.Proofs.Tryz renaming prog -> Zb
open _root_.Go.World renaming setRow_alloc_new -> Zr
open Go.Proofs.Tryz
theorem kM {G:Prop}(h:G:=by rw [Zz Ze,Zz Ze,Zq]) :G:=h
theorem kI {G:Prop}(h:G:=by unfold P2; rw [Zz Ze,Zz Ze,Zq]) :G:=h
theorem kG {G:Prop}(h:G:=by rw [Zz Ze,Zz Ze,Zz Ze,Zz Ze,Zq]) :G:=h
theorem IT {G:Prop}(h:G:=by have:=F4.o.o; rwa [HB.o] at this) :G:=h
theorem IQ {G:Prop}(h:G:=by rw [Zz Ze,Zz Ze,Zz Ze,Zz Ze,Zz Ze,Zz Ze,Zz Ze,Zq]) :G:=h
theorem FI {G:Prop}(h:G:=by simp only [Ti,List.mem_cons,true_or,or_true]) :G:=h
theorem M4 {G:Prop}(h:G:=by rw [Zz Ze,Zz Ze,Zz Ze,Zz Ze,Zz Ze,Zz Ze,Zq]) :G:=h
theorem jh {G H:Prop} (k:H) (h:DE H->G:=by
  intro zk;refine pj rfl _ _ rfl (.pointer (some ⟨e,0,none⟩)) rfl ?_;exact zk.o) :G:=h ⟨k⟩
theorem tE {G H:Prop} (k:H) (h:DE H->G:=by
  intro zk;refine QP 30 _ b 30 (Zi c) _ rfl rfl rfl (fun w h=>h) underlying30 rfl X7 ?_;exact zk.o) :G:=h ⟨k⟩
theorem ji {G H:Prop} (k:H) (h:DE H->G:=by
  intro zk;refine az rfl _ rfl (.pointer (some ⟨e,0,none⟩)) rfl ?_;exact zk.o) :G:=h ⟨k⟩
theorem zr {G H:Prop} (k:H) (h:DE H->G:=by
  intro zk;refine Vk _ ⟨b,1,none⟩ (.int .i64 (c 1)) (fun w h=>h.cell 1) ?_;exact zk.o) :G:=h ⟨k⟩
theorem ZbK {G:Prop} (h:G:=by
  split
  ·exact h.mg.mono (by show _<=(s.V.set _ _).length; rw [List.length_set]; omega) fun _ h=>h
  ·exact h.mg) :G:=h
theorem Zem {G:Prop} (h:G:=by
  rw [show (((c 1).toNat:Nat) :Int)=c 1 by omega] at this;refine this.mono fun e w' ⟨he,g1⟩=>?_
  subst g1;refine ⟨_,fun i=>i=w.heap.size,he,sC ?_ Ze Ze,fun i hi=>by omega,(Below.refl _ _).alloc (Nat.le_refl _) _⟩;rw [show (((c 1).toNat:Nat) :Int)=c 1 by omega];exact Zu.new _ _ _) :G:=h
theorem ZhY {G:Prop} (h:G:=by
  have:k=0\/k=1\/k=2\/k=3\/k=4\/k=5\/k=6\/k=7\/k=8\/k=9\/k=10:=Ze
  rcases this with rfl | rfl | rfl | rfl | rfl | rfl | rfl | rfl | rfl | rfl | rfl <;> decide) :G:=h
theorem Zir {G:Prop} (h:G:=by
  unfold PH;exact ZbK) :G:=h
theorem Zba {G:Prop} (h:G:=by
  split at e <;> split at e <;>(try split at e)<;>(try split at e)<;> omega) :G:=h
theorem Rb {G:Prop} (h:G:=by
  go_wp2_with fail;go_ret;exact ⟨by rw [HR.o]; rfl,H2.o⟩) :G:=h
section
open Go Go.RowKit Go.Deep
def rcW (r:Rp)(ia:Option Addr)(ca:Nat)(ip:Option Addr)(cp:Nat) :Rc:=⟨r.kd,r.cd,r.ix,r.bl,r.ep,r.dl,ia,r.la.length,ca,ip,r.lp.length,cp,r.vs⟩
def P2 (Z:Nat->Zc->(Nat->Prop)->Prop)(N:Nat)(r:Rp)(ia:Option Addr)(ca:Nat)(ip:Option Addr)(cp:Nat) :Nat->Zc->(Nat->Prop)->Prop:=
 ZG (ZG Z N (YI 280 3 (.slice ia r.la.length ca) r.la.length (YK Qw r.la))) (N+1) (YI 252 3 (.slice ip r.lp.length cp) r.lp.length (YK J8 r.lp))
def zu (N:Nat)(w0:Fb)(c:Nat->Int)(a:Pl)(q:Ql)(Z:Nat->Zc->(Nat->Prop)->Prop)(x:Rp × Sg)(L:List QW)(e:Ending)(w:Zc) :Prop:=
 ∃ia ca ip cp,e= .returned (.agg (Z9 (rcW x.1 ia ca ip cp)))/\Eg (N+2) w0 w c a q (P2 Z N x.1 ia ca ip cp) x.2 L
section
variable {N:Nat} {w0:Fb} {w w' w1:Zc} {c cf:Nat->Int} {a:Pl} {q:Ql} {X Z:Nat->Zc->(Nat->Prop)->Prop} {s s':Sg} {L L':List QW} {k:Nat}
theorem Eg.ep (h:Eg N w0 w c a q Z s L)(x:Int) :Eg N w0 w c a q Z { s with ep:=x} L:=h
theorem zu.of {x:Rp × Sg}{e:Ending}(h:vH N w0 c a q Z x L e w)(h1:x.1.la=[])(h2:x.1.lp=[]) :zu N w0 c a q Z x L e w:=by
 obtain ⟨he,hg⟩:=h;refine ⟨none,0,none,0,?_,?_⟩
 ·rw [he]; unfold rcP rcW; rw [h1,h2]; rfl
 ·unfold P2; rw [h1,h2];exact (hg.nil 280 3).nil 252 3
theorem Eg.growS {ops:Array Oper}{rest:List Oper}{o:Oper}{d:Act}{Q:Exit->Act->Zc->Prop}(h:Eg N w0 w c a q Z s L){r:Nat}(UT:11<=r)(hr:r < N){e:ZJ}{size n:Nat}{v:Zk}{xs:List Zk}(hx:Z r=YI e size v n xs)
  (BJ:o.guard=none) (sl x:YN) (t:ZJ) (ho:o.op= .call { callee:= .builtin .append,args:= #[sl,x],argTypes:= #[t,t]}) (i:TypeInfo) (z:Zk) (bytes:Nat) (ht:Tryz.prog.underlying t=some (.slice e)) (hi:Tryz.prog.info? e=some i) (hz:i.zero=some z)
  (Lc:i.size=size) (MG:i.bytes=bytes) (rp:z.cells.size=size) (Bx:0 < size) (hs:d.eval sl=v) {r2:Nat} (h112:11<=r2) (NH:r2 < N) {A:Option Addr} {m cp:Nat} {ys:List Zk} (hx2:Z r2=YI e size (.slice A m cp) m ys) (hx':d.eval x= .slice A m cp) (hl:ys.length=m*size) (h1: ∀u ∈ ys,u.oneCell'=true)
  (mx:n+m<=maxLen) (Bw:(n+m)*bytes<=140737488355328)
  (K: ∀v' w',Eg N w0 w' c a q (ZG Z r (YI e size v' (n+m) (xs++ys))) s L->YQ Zb ops Q rest (d.put o.dst v') w') :YQ Zb ops Q (o::rest) d w:=by
 have ho1:=h.row UT hr hx;have ve:=h.row h112 NH hx2;refine XU w BJ sl x t ho 0 e i z size bytes ht hi hz Lc MG rp Bx v n xs hs ho1 A m cp ys hx' hl (fun h0=>?_) h1 mx Bw (Nat.zero_le _) fun v' w' g1 g2 g4=>?_
 ·rcases ve.2 with ⟨e1,_⟩ | ⟨g1,cp1,cur,e1,_⟩
  ·injection e1 with _ e2 _; omega
  ·injection e1 with e1 _ _;refine ⟨_,e1,fun j u hj=>?_⟩;subst e1;exact ve.cells rfl j u hj
 ·refine K v' w' (h.own UT hr hx Q5 fun S hS=>⟨_,GJ g1,fun j hj=>?_,Zx.of_grown g2 fun j hj=>(hS.2 j).2 hj.symm⟩);exact Zil
def tkT (c:Nat->Int)(t:Sg) :Sg:= { t with V:=LI c t,P:=t.P+Uq (Ky (c 5) t.V (t.pt.take (FZ c t))),pt:=t.pt.drop (FZ c t)}
theorem Zhd (hc:GE c)(Zcy:c 0<=100)(hi:Inv c k s) :Wh c (tkT c s):=by
 obtain ⟨g,_,_⟩:=Mg hc hi;have hm:0<=c 5:=by have:=hc.m5; omega
 have GR:=FD (c 5) (s.pt.take (FZ c s)) s.V;obtain ⟨_,h2⟩:=EO (c 5) hm (s.pt.take (FZ c s)) s.V (fun r hr=>hi.ptf r (List.mem_of_mem_take hr)) hi.fits;have h3:=N9 (fun p hp=>(h2 p hp).1);have e1:Zw (LI c s)=Zw s.V - Uq (Ky (c 5) s.V (s.pt.take (FZ c s))):=GR;have g1:=hi.sum;have g2:=hi.p0;have g3:=hi.cap;have g4:=hi.len;have g5:=hi.cu;have g6:=hc.a4;have g7:=g.len;refine ⟨g.vok,?_,?_,hi.b0,hi.d1,?_,by omega,?_,?_⟩
 ·show Zw (LI c s)+(s.P+_)+s.B=s.D; omega
 ·show 0<=s.P+_; omega
 ·show s.D -(s.P+_) - s.B<=c 4; omega
 ·show s.cu<=100; omega
 ·show (LI c s).length<=100; omega
theorem y8 (c:Nat->Int)(s:Sg) :(Ww c s).length<=FZ c s:=ZaG
theorem Zf7 (hc:GE c)(hq8:c 8<=18446744073709551615)(Zcy:c 0<=100)(hi:Inv c k s)(hk:k+1<=1000000)(hr:XI s.ep s.V L)(q9:Cm s.V s.mg)(h:Eg N w0 w c a q Z s L)(o:Oq)(ho:o.kd=7) :
  Zv Zb 90 #[.pointer (some ⟨q.e,0,none⟩),.agg (ZX o)] w (zu N w0 c a q Z (yZ c s) (nxL c s L)):=by
 have hN:=h.low;have hO:=Ds h o;have bk0:=hi.bk0;have bk1:=hi.bk1;obtain ⟨t,ht⟩:=ZT (PT c s);obtain ⟨Lt,hLt⟩:=ZT (nxL c s L);obtain ⟨A,hA⟩:=ZT (nxO c s);obtain ⟨B,hB⟩ : ∃B,((s.bk+1)%c 13==0)=B:=⟨_,rfl⟩;have HAd:Zl (∀wx M Z,Eg M w0 wx c a q Z s L->Zv Zb 136 #[.pointer (some ⟨q.e,20,none⟩)] wx fun e w'=>e= .returned (.bool B)/\Eg M w0 w' c a q Z { s with bk:=s.bk+1} L):=Za fun wx M Z hx=>by
  have:=p6 hx bk0 Ze hc.g.len0;rw [hB] at this;exact this
 have HBd:Zl (B=true-> ∀wx M Z,Eg M w0 wx c a q Z { s with bk:=s.bk+1} L->Zv Zb 137 #[.pointer (some ⟨q.e,0,none⟩)] wx fun e w'=> ∃v,e= .returned v/\Eg (M+1) w0 w' c a q (ZG Z M (YI 280 3 v A.length (YK Qw A))) t Lt):=Za fun hb wx M Z hx=>by
  rw [hb] at hB;have hm:(s.bk+1)%c 13=0:=by simpa using hB
  have:=lX hc hq8 hi Ze hr hm q9 (hx.ep (s.ep+1));rw [<-ht,<-hLt,<-hA];unfold PT nxL nxO;rw [if_pos hm,if_pos hm,if_pos hm];exact this
 have HNb:Zl (B=false->t= { s with bk:=s.bk+1}/\Lt=L/\A=[]):=Za fun hb=>by
  rw [hb] at hB;have hm: ¬(s.bk+1)%c 13=0:=by simpa using hB
  rw [<-ht,<-hLt,<-hA];unfold PT nxL nxO;rw [if_neg hm,if_neg hm,if_neg hm];exact ⟨rfl,rfl,rfl⟩
 have hit:Inv c (k+1) t:=by rw [<-ht]; exact Tg hc hi Ze
 have hF:Zl (yZ c s=(⟨7,0,-1,t.bk,t.ep,-1,A,A4 c t,(FZ c t:Nat)+(oq c t:Nat)⟩,II c t)):=Za (by unfold yZ; rw [ht,hA]);have HPt:Zl (∀wx M Z,Eg M w0 wx c a q Z t Lt->Zv Zb 138 #[.pointer (some ⟨q.e,0,none⟩)] wx fun e w'=> ∃v,e= .returned (.tuple #[v,.int .i64 ((FZ c t:Nat) :Int)])/\Eg (M+1) w0 w' c a q (ZG Z M (YI 252 3 v (Ww c t).length (YK J8 (Ww c t)))) (tkT c t) Lt):=Za fun wx M Z hx=>Zcq hc hit hx
 have HPw:Zl (∀wx M Z,Eg M w0 wx c a q Z (tkT c t) Lt->Zv Zb 139 #[.pointer (some ⟨q.e,0,none⟩),.int .i64 (c 14 -(FZ c t:Nat)),.int .i64 (c 15 -((Ww c t).length:Nat))] wx fun e w'=> ∃v,e= .returned (.tuple #[v,.int .i64 ((oq c t:Nat) :Int)])/\Eg (M+1) w0 w' c a q (ZG Z M (YI 252 3 v (X6 t.ep (LI c t) (af c t)).length (YK J8 (X6 t.ep (LI c t) (af c t))))) (II c t) Lt):=Za fun wx M Z hx=>by
  obtain ⟨_,hn,hrp⟩:=Mg hc hit;have htm:=hit.tm hc hk;have:=wN (s:=tkT c t) hx ⟨htm.b0,htm.b1,htm.l,htm.q⟩ (Zhd hc Zcy hit) (vs:=c 14 -(FZ c t:Nat)) (p:=c 15 -((Ww c t).length:Nat)) rfl (F:=af c t) rfl hn hrp;refine this.mono fun e w' ⟨v,he,h1⟩=>⟨v,he,?_⟩
  rw [SL];have e2:II c t= { tkT c t with V:=QT t.ep (LI c t) (af c t),P:=t.P+Uq (Ky (c 5) t.V (t.pt.take (FZ c t)))+KN (X6 t.ep (LI c t) (af c t)),cu:=DJ (LI c t).length t.cu (oq c t)}:=by
   unfold II tkT A4;rw [LG];unfold Ww;rw [ky,<-Int.add_assoc]
  rw [e2];exact h1
 obtain ⟨n,hn⟩:=ZT (FZ c t);obtain ⟨m,hm⟩:=ZT (oq c t);obtain ⟨P,hP⟩:=ZT (Ww c t);obtain ⟨W,hW⟩:=ZT (X6 t.ep (LI c t) (af c t));have hFF:A4 c t=P++W:=by unfold A4; rw [hP,hW]
 have ZgT:=ot hc t;have hPl:=y8 c t;rw [hFF] at hF;rw [hn,hm] at hF;rw [hn] at HPt HPw;rw [hP] at HPt HPw;rw [hm,hW] at HPw;rw [hn,hm,hFF,ZF] at ZgT;rw [hP,hn] at hPl;have hg:=hc.g;have g1:=hg.part;have g2:=hg.vis0;have g3:=hg.pay0;have g4:=hg.vis1;have g5:=hg.pay1;have hn4:n<=4096:=Ze;have Zgf:P.length<=4096:=Ze;have hn16:(n:Int)<=c 16:=by rw [<-hn]; unfold FZ Up; omega
 have NI:0<=c 14 -(n:Int)/\c 14 -(n:Int)<=4096:=Ze;have Na:0<=c 15 -(P.length:Int)/\c 15 -(P.length:Int)<=4096:=Ze;have eh:(n:Int)+(m:Nat)<=4096:=Ze;have hWl:W.length<=4096:=Ze;have htm:=hit.tm hc hk;have HN:=Za hN;have HLt:=Za hLt;have HX:=Za (Zn ho (Zn htm (Zn NI (Zn Na (Zn eh (Zn hWl (Zn Zgf hn4)))))));have x14: ∀w M Z,Eg M w0 w c a q Z t Lt->True:=fun _ _ _ _=>trivial
 clear hc hq8 Zcy hi hk hr q9 h ho hN bk0 bk1 hLt hA hit hn hm hP hW hFF ZgT hPl hg g1 g2 g3 g4 g5 hn16 NI Na eh hWl htm x14 ht hB hn4 Zgf;go_enter func90,ntmps90;go_upto_region 1 with (fail);generalize hW:(w.alloc (.cells (ZX o) 49)).alloc (.cells _ 53)=V0;have eW:(w.alloc (.cells (ZX o) 49)).alloc (.cells (Z9 Dd) 53)=V0:=hW;rw [eW] at hO;generalize w.heap.size=b at*;have HO:=Za hO;clear hW eW hO;go_wp2_with fail;refine (HAd.o _ _ _ HO.o).mono ?_;rintro e w2 ⟨rfl,h2⟩;have E2:=Za h2;clear h2 HO HAd;go_upto_if 14 with (fail);go_cut [5] from 15 to 16 (fun s5 wx=> ∃(ia:Option Addr) (ca:Nat),s5= .slice ia A.length ca/\Zl (Eg (N+2+1) w0 wx c a q (ZG (ZG (ZG Z N (Y5 b 49 (ZX o))) (N+1) (Y5 (b+1) 53 (Z9 Dd))) (N+2) (YI 280 3 (.slice ia A.length ca) A.length (YK Qw A))) t Lt))
 case first=>
  cases B
  ·obtain ⟨e1,e2,e3⟩:=HNb.o rfl;have E3:Zl (Eg (N+2+1) w0 w2 c a q (ZG (ZG (ZG Z N (Y5 b 49 (ZX o))) (N+1) (Y5 (b+1) 53 (Z9 Dd))) (N+2) (YI 280 3 (.slice none A.length 0) A.length (YK Qw A))) t Lt):=Za (by
    rw [e1,e2,e3];exact E2.o.nil 280 3)
   have e4:Zl (A.length=0):=Za (by rw [e3]; rfl);clear HBd HNb E2 hF HPt HPw HX e1 e2 e3;go_wp2_with fail;go_meet;exact ⟨none,0,by rw [e4.o],E3⟩
  ·have HB:=Za (HBd.o rfl _ _ _ E2.o);clear HBd HNb E2 hF HPt HPw HX;go_wp2_with fail;refine HB.o.mono ?_;rintro e w3 ⟨v,rfl,h3⟩;obtain ⟨ia,ca,rfl⟩:=Xy (h3.row (r:=N+2) ZO Ze Zq);have E3:=Za h3;clear h3 HB;go_wp2_with fail;go_meet;exact ⟨ia,ca,rfl,E3⟩
 case rest=>
  obtain ⟨ia,ca,rfl,E3⟩:=hcut;clear HBd HNb E2;generalize wc=w3 at*;go_wp2_with fail;refine (HPt.o _ _ _ E3.o).mono ?_;rintro e w4 ⟨v,rfl,h4⟩;obtain ⟨ip,cp,rfl⟩:=Xy (h4.row (r:=N+2+1) ZO Ze Zq);have E4:=Za h4;clear h4 HPt E3;go_wp2_with fail;refine Ra (fun w'=>Zu w' q.e 102 (Uh c a q)) 6 [0,1,2,3,4,5,6,7,8,9,10,11,12,13,14,15] (?_) ?_
  ·exact E4.o.drew.blk
  refine JL ?_;show ZZ _ _ _ _ [_,_,_,_,_,_,_,_,_,_,_,_,_,_,_,_] _;refine Pv ?_;refine Vk _ ⟨q.e,14,none⟩ (.int .i64 (c 14)) (fun w h=>h.cell 14) ?_;refine X5 ?_;refine Gz ?_;refine Gz ?_;refine Bi ?_;refine Vk _ ⟨q.e,15,none⟩ (.int .i64 (c 15)) (fun w h=>h.cell 15) ?_;refine X5 ?_;refine DL ?_;refine XK ?_;have E5:=Za E4.o.drew;clear E4;generalize w4.drew=w5 at*;rw [IntWalk.wrap64_in (c 14 -(n:Int)) (by have:=HX.o.2.2.1; omega),IntWalk.wrap64_in (c 15 -(P.length:Int)) (by have:=HX.o.2.2.2.1; omega)];refine Jg (i:=16) ?_;refine JC #[.pointer (some ⟨q.e,0,none⟩),.int .i64 (c 14 -(n:Int)),.int .i64 (c 15 -(P.length:Int))] call139 ((HPw.o _ _ _ E5.o).mono ?_);rintro e w6 ⟨v,rfl,h6⟩;obtain ⟨iw,cw,rfl⟩:=Xy (h6.row (r:=N+2+1+1) ZO Ze Zq);have E6:=Za h6;have hB6:=h6.blk;refine ⟨_,rfl,hB6,?_⟩;clear h6 HPw E5;refine Q3 ?_;refine Mj (fun w'=>Zu w' q.e 102 (Uh c a q)) (m:=5) (f:=0) [17,18,19,20,21] (?_) ?_
  ·exact hB6
  refine JL ?_;refine Ol ?_;refine Pv ?_;refine XK ?_;clear hB6;refine ⟨by kernel_rfl,Yu ?_⟩;refine Q3 ?_;have WX:=Za (E6.o.blkAt (r:=N) HN.o Ze kG);go_wp2_with (first | (refine Kz 49 b WX.o underlying49 BA ?_));refine (jB E6.o (s:=II c t) ⟨HX.o.2.1.b0,HX.o.2.1.b1,HX.o.2.1.l,HX.o.2.1.q⟩ o (-1) (-1)).mono ?_;rintro e w7 ⟨he,h7⟩;rw [show R8 o.kd (-1) (-1) (II c t).bk (II c t).ep=R8 7 (-1) (-1) t.bk t.ep by rw [HX.o.1]; rfl] at he;subst he;have E7:=Za (h7.box (Z9 (R8 7 (-1) (-1) t.bk t.ep)) 53);clear h7 WX E6;go_upto_region 7 with (first | (refine UP w7.heap.size (Z9 (R8 7 (-1) (-1) t.bk t.ep)) 53 (heap_alloc_new w7 _) Vi (Ke _) ?_; rw [Zr]));generalize w7.heap.size=z at*;generalize w7.alloc (.cells (Z9 (R8 7 (-1) (-1) t.bk t.ep)) 53)=W7 at*;have hB:=E7.o.blkAt (r:=N+2+1+1+1) ZO Ze Zq;have hc6:=QS hB 6;have hf6:W7.frozen? ⟨z,6,none⟩=false:=hB.frozen 6;have h8:=E7.o.setc (r:=N+2+1+1+1) ZO Ze Zq 6 (.slice ia A.length ca);rw [Xx,show (Z9 (R8 7 (-1) (-1) t.bk t.ep)).setIfInBounds 6 (.slice ia A.length ca)=Z9 ⟨7,0,-1,t.bk,t.ep,-1,ia,A.length,ca,none,0,0,0⟩ from rfl] at h8;have E8:=Za h8;clear hB h8 E7;go_upto_region 8 with (fail);generalize W7.setCell ⟨z,6,none⟩ (.slice ia A.length ca)=W8 at*;clear hc6 hf6;obtain ⟨j0,fF,BK,Rt,qR⟩:=ju;have hl1:(YK J8 W).length=W.length*3:=EB Pm.row_len W;have q5: ∀u ∈ YK J8 W,u.oneCell'=true:=fun u hu=>by
   obtain ⟨x,_,hx⟩:=List.mem_flatMap.1 hu;exact Pm.row_one x u hx
  have HL:=Za (Zn hl1 q5);clear hl1 q5;go_upto_region 9 with (at_builtin; go_loud (refine Eg.growS E8.o (r:=N+2+1) (e:=252) (size:=3) (v:= .slice ip P.length cp) (n:=P.length) (xs:=YK J8 P) (A:=iw) (m:=W.length) (cp:=cw) (ys:=YK J8 W) ZO Ze kM rfl _ _ 51 rfl j0 _ 24 underlying51 fF BK Rt qR (Fi _) YW rfl (r2:=N+2+1+1) ZO Ze Ut rfl HL.o.1 HL.o.2 ?c2 ?c3 ?_))
  case c2=>unfold maxLen; have:=HX.o.2.2.2.2.2.1; exact kZ
  case c3=>have:=HX.o.2.2.2.2.2.1; exact kZ
  obtain ⟨F,hF9⟩:=ZT (P++W);rw [hF9] at hF;intro v9 w9 h9;have hPW:P.length+W.length=F.length:=by rw [<-hF9,ZF]
  rw [<-Uy,hF9,hPW] at h9;obtain ⟨i9,c9,rfl⟩:=Xy (h9.row (r:=N+2+1) ZO Ze Zq);have hB:=h9.blkAt (r:=N+2+1+1+1) ZO Ze Ut;have hc7:=QS hB 7;have hf7:w9.frozen? ⟨z,7,none⟩=false:=hB.frozen 7;have PK:=h9.setc (r:=N+2+1+1+1) ZO Ze Ut 7 (.slice i9 F.length c9);rw [show (Z9 ⟨7,0,-1,t.bk,t.ep,-1,ia,A.length,ca,none,0,0,0⟩).setIfInBounds 7 (.slice i9 F.length c9)=Z9 ⟨7,0,-1,t.bk,t.ep,-1,ia,A.length,ca,i9,F.length,c9,0⟩ from rfl] at PK;have E10:=Za PK;clear hB h9 E8 PK hPW hF9 HL;go_upto_region 9 with (fail);generalize w9.setCell ⟨z,7,none⟩ (.slice i9 F.length c9)=W10 at*;clear hc7 hf7;have hB:=E10.o.blkAt (r:=N+2+1+1+1) ZO Ze Zq;have hc8:W10.cell? ⟨z,8,none⟩=some (.int .i64 0):=hB.cell 8;have hf8:W10.frozen? ⟨z,8,none⟩=false:=hB.frozen 8;have UT:=E10.o.setc (r:=N+2+1+1+1) ZO Ze Zq 8 (.int .i64 ((n:Int)+(m:Int)));rw [Xx,show (Z9 ⟨7,0,-1,t.bk,t.ep,-1,ia,A.length,ca,i9,F.length,c9,0⟩).setIfInBounds 8 (.int .i64 ((n:Int)+(m:Int)))=Z9 ⟨7,0,-1,t.bk,t.ep,-1,ia,A.length,ca,i9,F.length,c9,(n:Int)+(m:Int)⟩ from rfl] at UT;have vo:=Za UT;clear hB UT E10;have jS:(n:Int)+(m:Int)<=4096:=HX.o.2.2.2.2.1;go_upto_region 10 with (fail);generalize W10.setCell ⟨z,8,none⟩ (.int .i64 ((n:Int)+(m:Int)))=W11 at*;clear hc8 hf8 jS;obtain ⟨R,hR⟩ : ∃R:Rc,(⟨7,0,-1,t.bk,t.ep,-1,ia,A.length,ca,i9,F.length,c9,(n:Int)+(m:Int)⟩ :Rc)=R:=⟨_,rfl⟩;have HR:=Za hR;rw [hR] at vo;clear hR;have HBz:=Za (vo.o.blkAt (r:=N+2+1+1+1) ZO Ze Zq);have Wq:=Za (vo.o.blkAt (r:=N+1) ZO Ze M4);go_wp2_with (first | (refine Kz 53 z HBz.o underlying53 Vi ?_) | (refine UP (b+1) (Z9 R) 53 Wq.o Vi (Ke _) ?_));refine Yd (v:= .agg (Z9 R)) (YC (fn:=Tryz.f90) rfl _ _ (b+1) 53 _ (0,0) _ rfl (YA _ _ _ _ _ _ Wq.o) underlying53 rfl Vi) rfl ?_;rw [hF.o,HLt.o];refine ⟨ia,ca,i9,c9,by rw [<-HR.o]; rfl,?_⟩;have L1:=vo.o.setr (r:=N+1) ZO Ze M4 (cs':=Z9 R) (Ji Wq.o _) (XX (S:=fun i=>i=b+1) (ZM _ _) (.inl rfl) _);have hN:=HN.o;refine L1.remap Ze (fun k=>if k=N then N+2 else if k=N+1 then N+2+1 else k) (fun k hk=>?_) (fun k hk=>?_) (fun k hk=>?_) (fun i j hi hj e=>?_) fun k h1 h2=>?_
  ·exact dQ
  ·exact Cf
  ·exact Cf
  ·exact Zba
  ·unfold P2
   by_cases WH:k=N+1
   ·subst WH;rw [Zq,if_neg Ze,if_pos rfl,Zz Ze,Zz Ze,Zq]
   ·rw [Zz WH]
    by_cases fH:k=N
    ·subst fH;rw [Zq,if_pos rfl,Zz Ze,Zz Ze,Zz Ze,Zz Ze,Zz Ze,Zz Ze,Zq]
    ·rw [Zz fH,if_neg fH,if_neg WH];rw [Zz Ze,Zz Ze,Zz Ze,Zz Ze,Zz Ze,Zz Ze,Zz Ze,Zz Ze,Zz Ze]
end
end
section
open Go Go.RowKit Go.Deep Go.Maps
section
variable {P:YL} {ops:Array Oper} {rest:List Oper} {o:Oper} {a:Act} {w:Zc} {Q:Exit->Act->Zc->Prop}
theorem Wf (BJ:o.guard=none)(t:ZJ)(ho:o.op= .makeMap t none)(h:YQ P ops Q rest (a.put o.dst (.map (some w.heap.size))) (w.alloc (.map #[] 0))) :YQ P ops Q (o::rest) a w:=
 Jf BJ fun _ hK=>Wi t ho (hK _ _ h)
theorem az (BJ:o.guard=none)(x:YN)(ho:o.op= .move x)(v:Zk)(hv:a.eval x=v)(h:YQ P ops Q rest (a.put o.dst v) w) :YQ P ops Q (o::rest) a w:=
 Jf BJ fun _ hK=>by
  unfold Jp XL;simp only [ho,hv,YU];exact hK _ _ h
theorem eE (BJ:o.guard=none)(x:YN)(ho:o.op= .assign x)(v:Zk)(hv:a.eval x=v)(h:YQ P ops Q rest (a.put o.dst v) w) :YQ P ops Q (o::rest) a w:=
 Jf BJ fun _ hK=>by
  unfold Jp XL;simp only [ho,hv,YU];exact hK _ _ h
theorem pj (BJ:o.guard=none)(f:FuncId)(x:YN)(ho:o.op= .makeFunc (.func f) #[x] #[])(v:Zk)(hv:a.eval x=v)(h:YQ P ops Q rest (a.put o.dst (.func (.func f) #[v] #[])) w) :YQ P ops Q (o::rest) a w:=
 Jf BJ fun _ hK=>by
  unfold Jp XL;simp [ho,hv,Instr.makeFunc];exact hK _ _ h
end
def vE (M:List (Zk × Zk))(k:Int) :Prop:= ∀p ∈ M,∃i:Int,p.1= .int .i64 i/\(Lit.int .i64 i).wf=true/\i≠k
section
variable {w0 w w':Zc} {b:Nat} {M:List (Zk × Zk)} {ops:Array Oper} {rest:List Oper} {o:Oper} {c:Act} {Q:Exit->Act->Zc->Prop}
theorem Di (hT:Q9 w b M)(hB:Zp w0.heap.size w0 w)(h0:w0.heap.size<=b)(BJ:o.guard=none)(hd:o.dst=none)(m x v:YN)(k:Int)(u:Zk)(ho:o.op= .insert 105 m x v)(hm:c.eval m= .map (some b))(hx:c.eval x= .int .i64 k)(hv:c.eval v=u)(hk:(Lit.int .i64 k).wf=true)(hM:vE M k)
  (K: ∀w',Q9 w' b ((.int .i64 k,u)::M)->Zp w0.heap.size w0 w'->YQ Zb ops Q rest c w') :YQ Zb ops Q (o::rest) c w:=
 Jf BJ fun _ hK=>by
  refine Cc hT (int_keyed underlying3) m x v ho hd _ _ hm hx hv underlying105 (fun p hp=>?_) (keyOf_int_mk underlying3 hk) (fun p hp e=>?_) (fun w' hT' hg=>hK _ _ (K w' hT' ?_))
  ·obtain ⟨i,e1,e2,_⟩:=hM p hp;exact ⟨_,by rw [e1]; exact keyOf_int_mk underlying3 e2⟩
  ·obtain ⟨i,e1,_,e2⟩:=hM p hp;rw [e1] at e;injection e with _ e;exact e2 e
  ·exact hB.grown hg hB.size (fun i hi=>by injection hi with hi; omega)
end
def Ti (e:Nat) :List (Zk × Zk):= [(.int .i64 7,.func (.func 90) #[.pointer (some ⟨e,0,none⟩)] #[]),(.int .i64 6,.func (.func 89) #[.pointer (some ⟨e,0,none⟩)] #[]),(.int .i64 5,.func (.func 88) #[.pointer (some ⟨e,0,none⟩)] #[]),(.int .i64 4,.func (.func 87) #[.pointer (some ⟨e,0,none⟩)] #[]),(.int .i64 3,.func (.func 86) #[.pointer (some ⟨e,0,none⟩)] #[]),(.int .i64 2,.func (.func 85) #[.pointer (some ⟨e,0,none⟩)] #[]),(.int .i64 1,.func (.func 84) #[.pointer (some ⟨e,0,none⟩)] #[])]
theorem Zj6 (w:Zc)(e:Nat) :Zv Zb 38 #[.pointer (some ⟨e,0,none⟩)] w fun r w'=> ∃b,r= .returned (.map (some b))/\Q9 w' b (Ti e)/\w.heap.size<=b/\Zp w.heap.size w w':=by
 have T0:=TV w;have B0:Zp w.heap.size w (w.alloc (.map #[] 0)):=(Zo _ _).alloc (Zh _) _;have Ro:w.heap.size<=w.heap.size:=Zh _;go_enter func38,ntmps38;go_upto_region 1 with (fail);refine Go.wp_region_list ?_;refine Wf rfl 105 rfl ?_;generalize hb:w.heap.size=b at T0 Ro ⊢;rw [<-hb] at Ro;generalize w.alloc (.map #[] 0)=w1 at*;refine X5 ?_;refine ji ?_;refine X5 ?_;refine jh ?_;refine X5 ?_;refine Di T0 B0 Ze rfl rfl _ _ _ 1 (.func (.func 84) #[(.pointer (some ⟨e,0,none⟩))] #[]) rfl rfl rfl rfl YW (fun p hp=>by cases hp) ?_;intro w2 T1 B1;clear T0 B0;refine ji ?_;refine X5 ?_;refine jh ?_;refine X5 ?_;refine Di T1 B1 Ze rfl rfl _ _ _ 2 (.func (.func 85) #[(.pointer (some ⟨e,0,none⟩))] #[]) rfl rfl rfl rfl YW (fun p hp=>by simp only [ZU,Yg,or_false] at hp; rcases hp with rfl <;> exact ⟨_,rfl,by decide,by decide⟩) ?_;intro w3 T2 B2;clear T1 B1;refine ji ?_;refine X5 ?_;refine jh ?_;refine X5 ?_;refine Di T2 B2 Ze rfl rfl _ _ _ 3 (.func (.func 86) #[(.pointer (some ⟨e,0,none⟩))] #[]) rfl rfl rfl rfl YW (fun p hp=>by simp only [ZU,Yg,or_false] at hp; rcases hp with rfl | rfl <;> exact ⟨_,rfl,by decide,by decide⟩) ?_;intro w4 T3 B3;clear T2 B2;refine ji ?_;refine X5 ?_;refine jh ?_;refine X5 ?_;refine Di T3 B3 Ze rfl rfl _ _ _ 4 (.func (.func 87) #[(.pointer (some ⟨e,0,none⟩))] #[]) rfl rfl rfl rfl YW (fun p hp=>by simp only [ZU,Yg,or_false] at hp; rcases hp with rfl | rfl | rfl <;> exact ⟨_,rfl,by decide,by decide⟩) ?_;intro w5 T4 B4;clear T3 B3;refine ji ?_;refine X5 ?_;refine jh ?_;refine X5 ?_;refine Di T4 B4 Ze rfl rfl _ _ _ 5 (.func (.func 88) #[(.pointer (some ⟨e,0,none⟩))] #[]) rfl rfl rfl rfl YW (fun p hp=>by simp only [ZU,Yg,or_false] at hp; rcases hp with rfl | rfl | rfl | rfl <;> exact ⟨_,rfl,by decide,by decide⟩) ?_;intro w6 T5 B5;clear T4 B4;refine ji ?_;refine X5 ?_;refine jh ?_;refine X5 ?_;refine Di T5 B5 Ze rfl rfl _ _ _ 6 (.func (.func 89) #[(.pointer (some ⟨e,0,none⟩))] #[]) rfl rfl rfl rfl YW (fun p hp=>by simp only [ZU,Yg,or_false] at hp; rcases hp with rfl | rfl | rfl | rfl | rfl <;> exact ⟨_,rfl,by decide,by decide⟩) ?_;intro w7 T6 B6;clear T5 B5;refine ji ?_;refine X5 ?_;refine jh ?_;refine X5 ?_;refine Di T6 B6 Ze rfl rfl _ _ _ 7 (.func (.func 90) #[(.pointer (some ⟨e,0,none⟩))] #[]) rfl rfl rfl rfl YW (fun p hp=>by simp only [ZU,Yg,or_false] at hp; rcases hp with rfl | rfl | rfl | rfl | rfl | rfl <;> exact ⟨_,rfl,by decide,by decide⟩) ?_;intro w8 T7 B7;clear T6 B6;refine az rfl _ rfl (.map (some b)) rfl ?_;refine X5 ?_;refine eE rfl _ rfl (.map (some b)) rfl ?_;refine X5 ?_;refine wpList_nil ?_;have H7:=Za (Zn T7 (Zn Ro B7));clear T7 B7;go_wp2_with fail;go_ret;exact ⟨b,rfl,H7.o.1,by rw [<-hb]; exact H7.o.2.1,H7.o.2.2⟩
end
section
open Go Go.RowKit Go.Deep Go.Maps
theorem Oj {o:Oper}{a:Act}{w:Zc}{K:Act->Zc->Prop}{Q:Exit->Act->Zc->Prop}{t:ZJ}{m x:YN}{ok:Bool}(ho:o.op= .lookup t m x ok)(mv xv v:Zk)(hm:a.eval m=mv)(hx:a.eval x=xv)(hr:(JN t mv xv ok).run Zb w= .ok v w)
  (h:K (a.put o.dst v) w) :o.wp Zb a w K Q:=by
 unfold Jp XL;simp only [ho,hm,hx,Yr,hr,ZW,YU];exact h
structure I5 (c:Nat->Int)(k:Nat)(s:Sg)(L:List QW) :Prop where
 ge:GE c
 q8:c 8<=18446744073709551615
 hund:c 0<=100
 inv:Inv c k s
 ring:XI s.ep s.V L
 mg:Cm s.V s.mg
theorem Cm.mono {V W:List ZN}{mg mg':List (Int × Int)}(h:Cm V mg)(hl:V.length<=W.length)(hm: ∀p ∈ mg',p ∈ mg) :Cm W mg':=fun p hp=>by
 obtain ⟨i,j,e,h1,h2⟩:=h p (hm p hp);exact ⟨i,j,e,by omega,by omega⟩
section
variable {N:Nat} {w0:Fb} {w w' w1:Zc} {c cf:Nat->Int} {a:Pl} {q:Ql} {X Z:Nat->Zc->(Nat->Prop)->Prop} {s s':Sg} {L L':List QW} {k:Nat}
theorem Zg7 (h:I5 c k s L)(hk:k<=1000000)(o:Oq) :Cm (MN c s o).2.V (MN c s o).2.mg:=by
 unfold MN
 by_cases h1:o.kd=1
 ·rw [if_pos h1]; unfold Ha; split
  ·exact h.mg.mono (by show _<=(s.V++_).length; rw [ZF]; omega) fun _ h=>h
  ·exact h.mg
 rw [if_neg h1]
 by_cases h2:o.kd=2
 ·rw [if_pos h2]; exact Zir
 rw [if_neg h2]
 by_cases h3:o.kd=3
 ·rw [if_pos h3]; exact Zir
 rw [if_neg h3]
 by_cases h4:o.kd=4
 ·rw [if_pos h4]; unfold AS; exact ZbK
 rw [if_neg h4]
 by_cases h5:o.kd=5
 ·rw [if_pos h5]; unfold eO; split
  ·rename_i h0
   intro p hp
   rcases List.mem_append.1 hp with hp | hp
   ·exact h.mg p hp
   ·rw [List.mem_singleton] at hp;subst hp;have h0':DK s.V (o.ix,o.tg) (c 6)=0:=by
     unfold uV at h0
     split at h0
     ·omega
     ·rename_i h; exact Classical.not_not.1 h
    obtain ⟨i,j,sv,dv,e,_,hi,hj,_⟩:=ik h0';exact ⟨i,j,e,(Zj.1 hi).1,(Zj.1 hj).1⟩
  ·exact h.mg
 rw [if_neg h5]
 by_cases h6:o.kd=6
 ·rw [if_pos h6]; unfold gJ; split
  ·exact h.mg
  ·exact h.mg
 rw [if_neg h6]
 split
 ·have hi:=Tg h.ge h.inv hk;obtain ⟨g,hn,hr⟩:=Mg h.ge hi;obtain ⟨f1,_⟩:=LZ (af c (PT c s)) (LI c (PT c s)) g.vok hn hr;have e1:(II c (PT c s)).V.length=(PT c s).V.length:=(f1.len).trans g.len;have e2:Cm (PT c s).V (PT c s).mg:=by
   unfold PT
   split
   ·have b:=py h.ge h.inv hk;refine h.mg.mono ?_ fun p hp=>List.mem_of_mem_drop hp
    show s.V.length<=(JW (c 6) (lG c (XF s)) (s.mg.take (GS c s.mg))).length;rw [Pd,b.l3];exact Zh _
   ·exact h.mg
  exact e2.mono (by rw [show (yZ c s).2.V=(II c (PT c s)).V from rfl,e1]; exact Zh _) fun _ h=>h
 ·exact h.mg
theorem I5.op (h:I5 c k s L)(hk:k<=1000000)(o:Oq)(ho:GB o) :I5 c (k+1) (MN c s o).2 (Dx c s L o):=
 ⟨h.ge,h.q8,h.hund,ZdI h.ge h.inv hk o ho,yG h.ge h.inv hk h.ring o,Zg7 h hk o⟩
def zL (c:Nat->Int)(q:Ql)(s:Sg)(L:List QW)(o:Oq)(F:FuncId) :Prop:=
 (∀args w,(callFunc F args).run Zb w= .ok (.enter F args) w)/\ ∀N w0 w a Z,Eg N w0 w c a q Z s L->Zv Zb F #[.pointer (some ⟨q.e,0,none⟩),.agg (ZX o)] w (zu N w0 c a q Z (MN c s o) (Dx c s L o))
theorem LV {w:Zc}{F:FuncId}{vs:Array Zk}{x y:Rp × Sg}{L L':List QW}(h:Zv Zb F vs w (vH N w0 c a q Z x L))(hx:x=y)(hL:L=L')(h1:x.1.la=[])(h2:x.1.lp=[]) :Zv Zb F vs w (zu N w0 c a q Z y L'):=by
 subst hx; subst hL;exact h.mono fun e w' h=>zu.of h h1 h2
theorem Zkv (h:I5 c k s L)(hk:k+1<=1000000)(o:Oq)(ho:GB o) :(o.kd=1->zL c q s L o 84)/\(o.kd=2->zL c q s L o 85)/\(o.kd=3->zL c q s L o 86)/\(o.kd=4->zL c q s L o 87)/\(o.kd=5->zL c q s L o 88)/\(o.kd=6->zL c q s L o 89)/\(o.kd=7->zL c q s L o 90):=by
 have hr:o.kd≠7->o.kd≠4->Dx c s L o=L:=fun h7 h4=>by unfold Dx; rw [if_neg h7,if_neg (fun h=>h4 h.1)]
 have fG:k<=1000000:=Ze;have hL:L.length<=100000:=by
  rw [h.ring.len];have:=IK s.V;have:=h.inv.len;have:=h.hund;omega
 refine ⟨fun e=>?_,fun e=>?_,fun e=>?_,fun e=>?_,fun e=>?_,fun e=>?_,fun e=>?_⟩
 ·refine ⟨call84,fun N w0 w a Z hx=>LV (p7 h.ge h.inv fG hx o ho) (by unfold MN; rw [if_pos e]) (hr Ze Ze).symm ?_ ?_⟩
  ·unfold Ha; split <;> rfl
  ·unfold Ha; split <;> rfl
 ·refine ⟨call85,fun N w0 w a Z hx=>LV (Zf0 h.ge h.inv fG hx o ho) (by unfold MN; rw [if_neg Ze,if_pos e]) (hr Ze Ze).symm ?_ ?_⟩
  ·unfold PH; split <;> rfl
  ·unfold PH; split <;> rfl
 ·refine ⟨call86,fun N w0 w a Z hx=>LV (Zcn h.ge h.inv fG hx o ho) (by unfold MN; rw [if_neg Ze,if_neg Ze,if_pos e]) (hr Ze Ze).symm ?_ ?_⟩
  ·unfold PH; split <;> rfl
  ·unfold PH; split <;> rfl
 ·have e2:dq c s o L=Dx c s L o:=by
   unfold Dx dq
   by_cases h0:IA c s o.ix=0
   ·rw [if_pos h0,if_neg Ze,if_pos ⟨e,h0⟩]
   ·rw [if_neg h0,if_neg Ze,if_neg (fun h=>h0 h.2)]
  refine ⟨call87,fun N w0 w a Z hx=>LV (Zcs h.ge h.inv fG hx o ho hL) (by unfold MN; rw [if_neg Ze,if_neg Ze,if_neg Ze,if_pos e]) e2 ?_ ?_⟩
  ·unfold AS; split <;> rfl
  ·unfold AS; split <;> rfl
 ·refine ⟨call88,fun N w0 w a Z hx=>LV (CD h.ge h.inv fG hx o ho) (by unfold MN; rw [if_neg Ze,if_neg Ze,if_neg Ze,if_neg Ze,if_pos e]) (hr Ze Ze).symm ?_ ?_⟩
  ·unfold eO; split <;> rfl
  ·unfold eO; split <;> rfl
 ·refine ⟨call89,fun N w0 w a Z hx=>LV (l9 h.ge h.inv fG hx o ho) (by unfold MN; rw [if_neg Ze,if_neg Ze,if_neg Ze,if_neg Ze,if_neg Ze,if_pos e]) (hr Ze Ze).symm ?_ ?_⟩
  ·unfold gJ; split <;> rfl
  ·unfold gJ; split <;> rfl
 ·refine ⟨call90,fun N w0 w a Z hx=>?_⟩;have:=Zf7 h.ge h.q8 h.hund h.inv hk h.ring h.mg hx o e;rw [show MN c s o=yZ c s by unfold MN; rw [if_neg Ze,if_neg Ze,if_neg Ze,if_neg Ze,if_neg Ze,if_neg Ze,if_pos e],show Dx c s L o=nxL c s L by unfold Dx; rw [if_pos e]];exact this
theorem tj (e:Nat) : ∀p ∈ Ti e,∃l,keyOf Zb 3 p.1=some l:=by
 intro p hp;simp only [Ti,ZU,Yg,or_false] at hp
 rcases hp with rfl | rfl | rfl | rfl | rfl | rfl | rfl <;> exact ⟨_,keyOf_int_mk underlying3 YW⟩
theorem ZeA (w:Zc) :(zeroValue 54).run Zb w= .ok .nilFunc w:=ZC
theorem ti {w:Zc}{b:Nat}(hT:Q9 w b (Ti q.e))(h:I5 c k s L)(hk:k+1<=1000000)(o:Oq)(ho:GB o) :
  (∃F,(JN 105 (.map (some b)) (.int .i64 o.kd) true).run Zb w= .ok (.tuple #[.func (.func F) #[.pointer (some ⟨q.e,0,none⟩)] #[],.bool true]) w/\zL c q s L o F)\/
  ((JN 105 (.map (some b)) (.int .i64 o.kd) true).run Zb w= .ok (.tuple #[.nilFunc,.bool false]) w/\MN c s o=(GI s o.kd 11,s)/\Dx c s L o=L):=by
 obtain ⟨h1,h2,h3,h4,h5,h6,h7⟩:=Zkv (q:=q) h hk o ho;have hwf:(Lit.int .i64 o.kd).wf=true:=ho.1
 rcases hT.lookup (int_keyed underlying3) underlying105 (ZeA w) (tj q.e) (keyOf_int_mk underlying3 hwf) with ⟨v,hv,hr⟩ | ⟨Ka,hr⟩
 ·refine .inl ?_;simp only [Ti,ZU,Yg,or_false,Prod.mk.injEq,Value.int.injEq,true_and] at hv
  rcases hv with ⟨e,rfl⟩ | ⟨e,rfl⟩ | ⟨e,rfl⟩ | ⟨e,rfl⟩ | ⟨e,rfl⟩ | ⟨e,rfl⟩ | ⟨e,rfl⟩
  ·exact ⟨_,hr,h7 e⟩
  ·exact ⟨_,hr,h6 e⟩
  ·exact ⟨_,hr,h5 e⟩
  ·exact ⟨_,hr,h4 e⟩
  ·exact ⟨_,hr,h3 e⟩
  ·exact ⟨_,hr,h2 e⟩
  ·exact ⟨_,hr,h1 e⟩
 ·refine .inr ⟨hr,?_⟩;have hn: ∀i:Int,1<=i->i<=7->o.kd≠i:=fun i h1 h2 e=>by
   have EY:i=1\/i=2\/i=3\/i=4\/i=5\/i=6\/i=7:=Ze;rw [e] at Ka
   rcases EY with rfl | rfl | rfl | rfl | rfl | rfl | rfl
   ·exact Ka (.int .i64 1,.func (.func 84) #[.pointer (some ⟨q.e,0,none⟩)] #[]) FI rfl
   ·exact Ka (.int .i64 2,.func (.func 85) #[.pointer (some ⟨q.e,0,none⟩)] #[]) FI rfl
   ·exact Ka (.int .i64 3,.func (.func 86) #[.pointer (some ⟨q.e,0,none⟩)] #[]) FI rfl
   ·exact Ka (.int .i64 4,.func (.func 87) #[.pointer (some ⟨q.e,0,none⟩)] #[]) FI rfl
   ·exact Ka (.int .i64 5,.func (.func 88) #[.pointer (some ⟨q.e,0,none⟩)] #[]) FI rfl
   ·exact Ka (.int .i64 6,.func (.func 89) #[.pointer (some ⟨q.e,0,none⟩)] #[]) FI rfl
   ·exact Ka (.int .i64 7,.func (.func 90) #[.pointer (some ⟨q.e,0,none⟩)] #[]) FI rfl
  constructor
  ·unfold MN;rw [if_neg (hn 1 Ze Ze),if_neg (hn 2 Ze Ze),if_neg (hn 3 Ze Ze),if_neg (hn 4 Ze Ze),if_neg (hn 5 Ze Ze),if_neg (hn 6 Ze Ze),if_neg (hn 7 Ze Ze)]
  ·unfold Dx;rw [if_neg (hn 7 Ze Ze),if_neg (fun h=>hn 4 Ze Ze h.1)]
theorem vR {Q1 Q2:Zc->(Nat->Prop)->Prop}{r:Rp}{ia ip:Option Addr}{ca cp:Nat}(hN:11<=N)(h:Eg (N+2+2) w0 w c a q (P2 (ZG (ZG Z N Q1) (N+1) Q2) (N+2) r ia ca ip cp) s L) :Eg (N+2) w0 w c a q (P2 Z N r ia ca ip cp) s L:=by
 refine h.remap Ze (fun k=>if k=N then N+2 else if k=N+1 then N+2+1 else k) (fun k hk=>?_) (fun k hk=>?_) (fun k hk=>?_) (fun i j hi hj e=>?_) fun k h1 h2=>?_
 ·exact dQ
 ·exact Cf
 ·exact Cf
 ·exact Zba
 ·unfold P2
  by_cases WH:k=N+1
  ·subst WH;rw [Zq,if_neg Ze,if_pos rfl,Zq]
  ·rw [Zz WH]
   by_cases fH:k=N
   ·subst fH;rw [Zq,if_pos rfl,Zz Ze,Zq]
   ·rw [Zz fH,if_neg fH,if_neg WH];rw [Zz Ze,Zz Ze,Zz Ze,Zz Ze]
theorem Zcl (h:I5 c k s L)(hk:k+1<=1000000)(he:Eg N w0 w c a q Z s L)(o:Oq)(ho:GB o) :
  Zv Zb 19 #[.pointer (some ⟨q.e,0,none⟩),.agg (ZX o)] w (zu N w0 c a q Z (MN c s o) (Dx c s L o)):=by
 have hN:=he.low;have hO:=Ds he o;have HT:=Za (h.inv.tm h.ge (show k<=1000000 by omega));have HN:=Za hN;have HF:=Za (fun w b (hT:Q9 w b (Ti q.e))=>ti hT h hk o ho);clear h hk he ho hN;go_enter func19,ntmps19;go_upto_region 1 with (fail);generalize hW:(w.alloc (.cells (ZX o) 49)).alloc (.cells _ 53)=V0;have eW:(w.alloc (.cells (ZX o) 49)).alloc (.cells (Z9 Dd) 53)=V0:=hW;rw [eW] at hO;generalize w.heap.size=b at*;have HO:=Za hO;clear hW eW hO;go_upto_region 3 with (fail);refine Ra (fun w'=>Of N w0 w' c a q Z s L b o) 7 [0,2,3] (?_) ?_
 ·exact Eg.drew HO.o
 refine JL ?_;refine Pw ?_;refine B9 ?_;refine Vk _ ⟨b,0,none⟩ (.int .i64 o.kd) (fun w h=>Of.k0 h HN.o) ?_;refine X5 ?_;refine XK ?_;have hO1:Of N w0 V0.drew c a q Z s L b o:=Eg.drew HO.o;clear HO;generalize V0.drew=V1 at*;refine Jg (i:=1) ?_;refine JC #[.pointer (some ⟨q.e,0,none⟩)] call38 ((Zj6 _ _).mono ?_);rintro r w2 ⟨bt,rfl,hT,_,hb⟩;have hO2:Of N w0 w2 c a q Z s L b o:=Eg.below hO1 hb;refine ⟨_,rfl,hO2,?_⟩;clear hO1 hb;have Ox:=Za hO2;have Cl:=HF.o w2 bt hT;clear HF hT;refine Jg (i:=4) ?_;refine Q3 ?_
 rcases Cl with ⟨F,hr,hF⟩ | ⟨hr,hop,jU⟩
 ·refine Yz rfl rfl (Oj rfl _ _ _ rfl rfl hr ⟨hO2,?_⟩);clear hr;refine Q3 ?_;refine Mj (fun w'=>Of N w0 w' c a q Z s L b o) (m:=5) (f:=0) [5,6,7,8,9] (?_) ?_
  ·exact hO2
  refine JL ?_;refine Ol ?_;refine Pv ?_;refine XK ?_;clear hO2;refine ⟨by kernel_rfl,Yu ?_⟩;refine Q3 ?_;have VH:=hF.1;have HA:=Za (hF.2 _ _ _ _ _ Ox.o);have WX:=Za (Of.op Ox.o HN.o);clear hF Ox;go_wp2_with (first | (refine Kz 49 b WX.o underlying49 BA ?_));refine HA.o.mono ?_;rintro e w9 ⟨ia,ca,ip,cp,rfl,h9⟩;have H9:=Za h9;have Wq:=Za (h9.blkAt (r:=N+1) (g:=b+1) (t:=53) (cs:=Z9 Dd) ZO Ze kI);clear h9 WX HA VH;obtain ⟨R,hR⟩:=ZT (rcW (MN c s o).1 ia ca ip cp);have HR:=Za hR;rw [hR];clear hR;go_wp2_with (first | (refine UP (b+1) (Z9 R) 53 Wq.o Vi (Ke _) ?_));refine Yd (v:= .agg (Z9 R)) (YC (fn:=Tryz.f19) rfl _ _ (b+1) 53 _ (0,0) _ rfl (YA _ _ _ _ _ _ Wq.o) underlying53 rfl Vi) rfl ?_;refine ⟨ia,ca,ip,cp,by rw [HR.o],?_⟩;refine vR (Q1:=Y5 b 49 (ZX o)) (Q2:=Y5 (b+1) 53 (Z9 R)) HN.o ?_;have L1:=H9.o.setr (r:=N+1) (g:=b+1) (t:=53) (cs:=Z9 Dd) ZO Ze kI (cs':=Z9 R) (Ji Wq.o _) (XX (S:=fun i=>i=b+1) (ZM _ _) (.inl rfl) _);refine L1.ext fun k h1 h2=>?_
  unfold P2
  by_cases hk:k=N+1
  ·subst hk; rw [Zq,Zz Ze,Zz Ze,Zq]
  ·rw [Zz hk]
   by_cases h3:k=N+2+1
   ·subst h3; rw [Zq,Zq]
   ·rw [Zz h3,Zz h3]
    by_cases h4:k=N+2
    ·subst h4; rw [Zq,Zq]
    ·rw [Zz h4,Zz h4,Zz hk,Zz hk]
 ·refine Yz rfl rfl (Oj rfl _ _ _ rfl rfl hr ⟨hO2,?_⟩);clear hr;refine Q3 ?_;refine Mj (fun w'=>Of N w0 w' c a q Z s L b o) (m:=5) (f:=0) [5,6,7,8,9] (?_) ?_
  ·exact hO2
  refine JL ?_;refine Ol ?_;refine Pv ?_;refine XK ?_;clear hO2;refine ⟨by kernel_rfl,Yu ?_⟩;refine Q3 ?_;have HE:=Za (Zn hop jU);have WX:=Za (Of.op Ox.o HN.o);clear hop jU;go_wp2_with (first | (refine Kz 49 b WX.o underlying49 BA ?_));refine (jD (N:=N+2) Ox.o HT.o o 11).mono ?_;rintro e w9 ⟨rfl,h9⟩;have H9:=Za h9;have Wq:=Za (Of.rc h9 HN.o);clear h9 WX Ox;go_wp2_with (first | (refine Zef (b+1) Wq.o ?_));refine Yd (v:= .agg (Z9 (nA o.kd 11 s.bk s.ep))) (YC (fn:=Tryz.f19) rfl _ _ (b+1) 53 _ (0,0) _ rfl (YA _ _ _ _ _ _ Wq.o) underlying53 rfl Vi) rfl ?_;rw [HE.o.1,HE.o.2];exact zu.of (x:=(GI s o.kd 11,s)) ⟨rfl,Of.done H9.o HN.o _⟩ rfl rfl
end
end
section
open Go Go.RowKit Go.Deep
def Gs (n B:Nat)(P:Nat->Zc->(Nat->Prop)->Prop)(w:Zc) :Prop:=
 (∀j,Y3 (P j))/\ ∃Φ,M6 n P Φ w/\ ∀k,k < n-> ∀i,Φ k i->B<=i
def vi:Nat->Zc->(Nat->Prop)->Prop:=fun _ _ _=>False
section
variable {n m B C:Nat} {P Q:Nat->Zc->(Nat->Prop)->Prop} {w w':Zc}
theorem Gs.zero:Gs 0 B vi w:=⟨fun j=>⟨fun w S h=>h.elim,fun w w' S T h=>h.elim⟩,fun _ _=>False,M6.zero,fun k hk=>by omega⟩
theorem gU {R:Zc->(Nat->Prop)->Prop}(hP: ∀j,Y3 (P j))(hR:Y3 R) : ∀j,Y3 (ZG P n R j):=fun j=>by
 unfold ZG; split
 ·exact hR
 ·exact hP j
theorem Gs.more {R:Zc->(Nat->Prop)->Prop}{S':Nat->Prop}(h:Gs n B P w)(hR:Y3 R)(hr:R w' S')(hS: ∀i,S' i->w.heap.size<=i)(hb:Zp w.heap.size w w')(hB:B<=w.heap.size) :Gs (n+1) B (ZG P n R) w':=by
 obtain ⟨hP,Φ,F,h1⟩:=h;have wX:=gU (n:=n) hP hR;refine ⟨wX,_,F.more (P':=ZG P n R) (fun j _=>hP j) (wX n) (fun j hj=>if_neg Ze) (by rw [show ZG P n R n=R from if_pos rfl]; exact hr) hS hb,fun k hk i hi=>?_⟩
 by_cases Hd:k=n
 ·subst Hd;rw [Xm] at hi;exact ZY hB (hS i hi)
 ·rw [YP Hd] at hi;exact h1 k Ze i hi
theorem Gs.kept {T:Nat->Prop}(h:Gs n B P w)(hk:Zx T w w')(hT: ∀i,T i->i < B) :Gs n B P w':=by
 obtain ⟨hP,Φ,F,h1⟩:=h;exact ⟨hP,Φ,F.kept (fun j _=>hP j) hk (fun k hk i hi ht=>by have:=h1 k hk i hi; have:=hT i ht; omega),h1⟩
theorem Gs.below (h:Gs n B P w)(hb:Zp w.heap.size w w') :Gs n B P w':=by
 obtain ⟨hP,Φ,F,h1⟩:=h;exact ⟨hP,Φ,F.below (fun j _=>hP j) hb,h1⟩
theorem Gs.join (h:Gs n B P w)(h':Gs m C Q w')(hb:Zp w.heap.size w w')(hC:w.heap.size<=C)(hB:B<=w.heap.size) :Gs (n+m) B (fun k=>if k < n then P k else Q (k - n)) w':=by
 obtain ⟨hP,Φ,F,h1⟩:=h;obtain ⟨hQ,Ψ,G,h2⟩:=h';have F':=F.below (fun j _=>hP j) hb;refine ⟨fun j=>?_,fun k=>if k < n then Φ k else Ψ (k - n),⟨fun k hk=>?_,fun k hk i hi=>?_,fun j k hj hk ED i hi GQ=>?_⟩,fun k hk i hi=>?_⟩
 ·by_cases hj:j < n
  ·simp only [if_pos hj]; exact hP j
  ·simp only [if_neg hj]; exact hQ _
 ·by_cases Hd:k < n
  ·simp only [if_pos Hd]; exact F'.part k Hd
  ·simp only [if_neg Hd]; exact G.part _ Ze
 ·by_cases Hd:k < n
  ·simp only [if_pos Hd] at hi; exact F'.lt k Hd i hi
  ·simp only [if_neg Hd] at hi; exact G.lt _ Ze i hi
 ·by_cases Dc:j < n
  ·simp only [if_pos Dc] at hi
   by_cases Hd:k < n
   ·simp only [if_pos Hd] at GQ; exact F'.ap j k Dc Hd ED i hi GQ
   ·simp only [if_neg Hd] at GQ;have:=F.lt j Dc i hi;have:=h2 _ Ze i GQ;omega
  ·simp only [if_neg Dc] at hi
   by_cases Hd:k < n
   ·simp only [if_pos Hd] at GQ;have:=F.lt k Hd i GQ;have:=h2 _ Ze i hi;omega
   ·simp only [if_neg Hd] at GQ;exact G.ap _ _ Ze Ze Ze i hi GQ
 ·by_cases Hd:k < n
  ·simp only [if_pos Hd] at hi; exact h1 k Hd i hi
  ·simp only [if_neg Hd] at hi;have:=h2 _ Ze i hi;omega
end
section
variable {w w':Zc} {c:Nat->Int}
def Zfk (b:Nat)(n L:Int) :Zc->(Nat->Prop)->Prop:=fun w S=>DN w b n L/\ ∀i,S i ↔ i=b
def Zb9 (b:Nat)(C:Int) :Zc->(Nat->Prop)->Prop:=fun w S=>Kw w b 0 0 0 C/\ ∀i,S i ↔ i=b
def ZbZ (b:Nat) :Zc->(Nat->Prop)->Prop:=fun w S=>oD w b 0/\ ∀i,S i ↔ i=b
def vG (b:Nat) :Zc->(Nat->Prop)->Prop:=fun w S=>(∃Sp T D,KI w b 0 Sp T D/\Jd 0 Sp T D)/\ ∀i,S i ↔ i=b
def vI (b cap:Nat) :Zc->(Nat->Prop)->Prop:=fun w S=>EW w b S cap []
def vm (b n:Nat) :Zc->(Nat->Prop)->Prop:=fun w S=>Gx w b S n []
def vF (b n:Nat) :Zc->(Nat->Prop)->Prop:=fun w S=>Ln w b S n [] []
theorem ob {b:Nat} :Y3 (vG b):=by
 refine ⟨fun w S h i hi=>?_,fun w w' S T h hk hT=>?_⟩
 ·obtain ⟨⟨Sp,T,D,h1,_⟩,h2⟩:=h;rw [(h2 i).1 hi]; exact h1.lt
 ·obtain ⟨⟨Sp,T',D,h1,hf⟩,h2⟩:=h;exact ⟨⟨Sp,T',D,h1.kept hk (hT _ ((h2 _).2 rfl)),hf⟩,h2⟩
theorem oc {b n:Nat} :Y3 (vI b n):=⟨fun w S h i hi=>h.lt i hi,fun w w' S T h hk hT=>h.kept hk hT⟩
theorem nZ {b n:Nat} :Y3 (vm b n):=⟨fun w S h i hi=>h.lt i hi,fun w w' S T h hk hT=>h.kept hk hT⟩
theorem oa {b n:Nat} :Y3 (vF b n):=⟨fun w S h i hi=>h.lt i hi,fun w w' S T h hk hT=>h.kept hk hT⟩
structure jo (w0:Zc)(t:Nat)(cs:Array Zk)(c:Nat->Int)(n:Nat)(P:Nat->Zc->(Nat->Prop)->Prop)(w:Zc) :Prop where
 cfg:Zu w w0.heap.size 30 (Zi c)
 o:Zu w (w0.heap.size+1) t cs
 gs:Gs n (w0.heap.size+2) P w
 below:Zp w0.heap.size w0 w
 size:w0.heap.size+2<=w.heap.size
section
variable {w0:Zc} {t n:Nat} {cs:Array Zk} {P:Nat->Zc->(Nat->Prop)->Prop}
theorem jo.start (w:Zc)(t:Nat)(cs:Array Zk)(c:Nat->Int) :jo w t cs c 0 vi ((w.alloc (.cells (Zi c) 30)).alloc (.cells cs t)):=by
 refine ⟨(Zt w _ _).alloc _,?_,Gs.zero,((Zo _ _).alloc (Zh _) _).alloc ZE _,by simp⟩;have:=Zt (w.alloc (.cells (Zi c) 30)) t cs;rwa [show (w.alloc (.cells (Zi c) 30)).heap.size=w.heap.size+1 by simp] at this
theorem jo.to (h:jo w0 t cs c n P w)(hb:Zp w.heap.size w w') :jo w0 t cs c n P w':=
 ⟨h.cfg.below hb h.cfg.lt,h.o.below hb h.o.lt,h.gs.below hb,h.below.trans (hb.mono h.below.size),ZY h.size hb.size⟩
theorem jo.more (h:jo w0 t cs c n P w){R:Zc->(Nat->Prop)->Prop}{S':Nat->Prop}(hR:Y3 R)(hr:R w' S')(hS: ∀i,S' i->w.heap.size<=i)(hb:Zp w.heap.size w w') :jo w0 t cs c (n+1) (ZG P n R) w':=
 ⟨h.cfg.below hb h.cfg.lt,h.o.below hb h.o.lt,h.gs.more hR hr hS hb h.size,h.below.trans (hb.mono h.below.size),ZY h.size hb.size⟩
theorem jo.done (h:jo w0 t cs c n P w)(cs':Array Zk) :Gs n (w0.heap.size+2) P (w.setRow (w0.heap.size+1) cs')/\Zp w0.heap.size w0 (w.setRow (w0.heap.size+1) cs'):=by
 have hk:Zx (fun i=>i=w0.heap.size+1) w (w.setRow (w0.heap.size+1) cs'):=XX (S:=fun i=>i=w0.heap.size+1) (ZM _ _) (.inl rfl) _;exact ⟨h.gs.kept hk fun i hi=>by omega,Zx.below h.below hk (fun i hi=>by omega) h.below.size⟩
end
theorem sj (a:Nat) :(#[Value.pointer (some ⟨a,0,none⟩)]).all (·.oneCell')=true:=ZK.2 fun u hu=>by
 simp only [Uw,ZU,Yg,or_false] at hu;subst hu; rfl
theorem Tp (a b c:Nat) :(#[Value.pointer (some ⟨a,0,none⟩),.pointer (some ⟨b,0,none⟩),.pointer (some ⟨c,0,none⟩)]).all (·.oneCell')=true:=ZK.2 fun u hu=>by
 simp only [Uw,ZU,Yg,or_false] at hu
 rcases hu with rfl | rfl | rfl <;> rfl
theorem AH:(Tryz.prog.info? 81).map (·.size)=some 1:=ZC
theorem Tf:(Tryz.prog.info? 87).map (·.size)=some 3:=ZC
theorem AG:(Tryz.prog.info? 93).map (·.size)=some 3:=ZC
theorem NR:(Tryz.prog.info? 99).map (·.size)=some 3:=ZC
theorem mU (w:Zc)(hL:1<=c 13) :Zv Zb 33 #[.agg (Zi c)] w fun e w'=> ∃b,e= .returned (.agg #[.pointer (some ⟨b,0,none⟩)])/\Gs 1 (w.heap.size+2) (ZG vi 0 (Zfk b 0 (c 13))) w'/\Zp w.heap.size w w':=by
 have HL:=Za hL;clear hL;have F0:=jo.start w 81 #[.pointer none] c;go_enter func33,ntmps33;go_upto_region 1 with (fail);generalize (w.alloc (.cells (Zi c) 30)).alloc (.cells #[.pointer none] 81)=W at*;have HF:=Za F0;obtain ⟨b,hb⟩:=ZT (w.heap.size);have HB:=Za hb;have y:W.cell? ⟨b,13,none⟩=some (.int .i64 (c 13)):=by rw [<-hb]; exact F0.cfg.cell 13
 rw [hb];clear hb F0;go_wp2_with fail;refine (rU (c 13) W HL.o).mono ?_;rintro e w2 ⟨rfl,rfl⟩;have F2:=HF.o.more Bd (R:=Zfk W.heap.size 0 (c 13)) (S':=fun i=>i=W.heap.size) (w':=W.alloc (.cells #[.int .i64 0,.int .i64 (c 13)] 184)) ⟨Zt _ _ _,fun i=>KY⟩ (fun i hi=>by omega) ((Zo _ _).alloc (Zh _) _);have zz:=Za F2;clear F2 HF y;generalize W.heap.size=z at*;generalize W.alloc (.cells #[.int .i64 0,.int .i64 (c 13)] 184)=w2 at*;have HO:Zl (Zu w2 (b+1) 81 #[.pointer none]):=Za (by have:=zz.o.o; rwa [HB.o] at this);go_wp2_with (first | (refine UP (b+1) #[.pointer (some ⟨z,0,none⟩)] 81 HO.o AH (sj _) ?_));have hd:=zz.o.done #[.pointer (some ⟨z,0,none⟩)];rw [HB.o] at hd;have HD:=Za hd;clear hd;exact Yd (v:= .agg #[.pointer (some ⟨z,0,none⟩)]) (YC (fn:=Tryz.f33) rfl _ _ (b+1) 81 _ (0,0) _ rfl (YA _ _ _ _ _ _ HO.o) underlying81 rfl AH) rfl ⟨z,rfl,by rw [HB.o]; exact HD.o.1,by rw [HB.o]; exact HD.o.2⟩
theorem ZdC (w:Zc)(h1:1<=c 0)(h2:c 0<=4096) :Zv Zb 75 #[.int .i64 (c 0)] w fun e w'=> ∃b S,e= .returned (.pointer (some ⟨b,0,none⟩))/\vI b (c 0).toNat w' S/\(∀i,S i->w.heap.size<=i)/\Zp w.heap.size w w':=by
 have:=gw (c 0).toNat w Ze Ze;rwa [show (((c 0).toNat:Nat) :Int)=c 0 by omega] at this
theorem Zdz (w:Zc)(h1:0<=c 4)(h2:c 4<=18446744073709551615) :Zv Zb 76 #[.int .u64 (c 4)] w fun e w'=> ∃b S,e= .returned (.pointer (some ⟨b,0,none⟩))/\Zb9 b (c 4) w' S/\(∀i,S i->w.heap.size<=i)/\Zp w.heap.size w w':=
 (ZdG (c 4) w h1 h2).mono fun e w' ⟨he,g1,_,g2,_⟩=>⟨_,fun i=>i=w.heap.size,he,⟨g1,fun i=>KY⟩,fun i hi=>by omega,g2⟩
theorem Zdw (w:Zc) :Zv Zb 77 #[] w fun e w'=> ∃b S,e= .returned (.pointer (some ⟨b,0,none⟩))/\ZbZ b w' S/\(∀i,S i->w.heap.size<=i)/\Zp w.heap.size w w':=
 (gy w).mono fun e w' ⟨b,he,g1,g2,g3⟩=>⟨b,fun i=>i=b,he,⟨g2.o,fun i=>KY⟩,fun i hi=>by omega,g3⟩
theorem ZdA (w:Zc)(h1:1<=c 1)(h2:c 1<=4096) :Zv Zb 78 #[.int .i64 (c 1)] w fun e w'=> ∃b S,e= .returned (.pointer (some ⟨b,0,none⟩))/\vF b (c 1).toNat w' S/\(∀i,S i->w.heap.size<=i)/\Zp w.heap.size w w':=by
 have:=cJ (c 1).toNat w Ze Ze;rw [show (((c 1).toNat:Nat) :Int)=c 1 by omega] at this;exact this.mono fun e w' ⟨he,⟨S,g1,g2⟩,g3⟩=>⟨_,S,he,g1,g2,g3⟩
theorem ZdB (w:Zc) :Zv Zb 79 #[] w fun e w'=> ∃b S,e= .returned (.pointer (some ⟨b,0,none⟩))/\vG b w' S/\(∀i,S i->w.heap.size<=i)/\Zp w.heap.size w w':=
 (gz w).mono fun e w' ⟨he,g1⟩=>by
  subst g1;exact ⟨_,fun i=>i=w.heap.size,he,⟨⟨0,0,0,Zt _ _ _,mr⟩,fun i=>KY⟩,fun i hi=>by omega,(Zo _ _).alloc (Zh _) _⟩
theorem Zdv (w:Zc)(h1:1<=c 12)(h2:c 12<=4096) :Zv Zb 80 #[.int .i64 (c 12)] w fun e w'=> ∃b S,e= .returned (.pointer (some ⟨b,0,none⟩))/\vm b (c 12).toNat w' S/\(∀i,S i->w.heap.size<=i)/\Zp w.heap.size w w':=by
 have:=gx (c 12).toNat w Ze Ze;rwa [show (((c 12).toNat:Nat) :Int)=c 12 by omega] at this
theorem sC {R E k b n:Nat}(h:Zu w b R #[.int .i64 n,.slice none 0 0,.int .i64 0,.int .i64 0])(h1:1<=n)(h2:n<=4096) :BI R E k b n 0 [] w fun i=>i=b:=
 ⟨none,⟨by simp,by simp,.inl ⟨rfl,rfl,h,h1,by omega⟩⟩,fun i=>⟨fun h=> .inl h,fun h=>by rcases h with h | h; exact h; cases h⟩⟩
theorem Zdy (w:Zc)(h1:1<=c 1)(h2:c 1<=4096) :Zv Zb 81 #[.int .i64 (c 1)] w fun e w'=> ∃b S,e= .returned (.pointer (some ⟨b,0,none⟩))/\BI 148 3 1 b (c 1).toNat 0 [] w' S/\(∀i,S i->w.heap.size<=i)/\Zp w.heap.size w w':=by
 have:=P0 (c 1).toNat w Ze Ze;exact Zem
theorem Zdx (w:Zc)(h1:1<=c 1)(h2:c 1<=4096) :Zv Zb 82 #[.int .i64 (c 1)] w fun e w'=> ∃b S,e= .returned (.pointer (some ⟨b,0,none⟩))/\BI 151 116 2 b (c 1).toNat 0 [] w' S/\(∀i,S i->w.heap.size<=i)/\Zp w.heap.size w w':=by
 have:=cY (c 1).toNat w Ze Ze;exact Zem
theorem ZdD (w:Zc)(h1:1<=c 1)(h2:c 1<=4096) :Zv Zb 83 #[.int .i64 (c 1)] w fun e w'=> ∃b S,e= .returned (.pointer (some ⟨b,0,none⟩))/\BI 154 119 2 b (c 1).toNat 0 [] w' S/\(∀i,S i->w.heap.size<=i)/\Zp w.heap.size w w':=by
 have:=de (c 1).toNat w Ze Ze;exact Zem
theorem gC (w:Zc)(hL:1<=c 0/\c 0<=4096/\0<=c 4/\c 4<=18446744073709551615) :Zv Zb 34 #[.agg (Zi c)] w fun e w'=> ∃r l k,e= .returned (.agg #[.pointer (some ⟨r,0,none⟩),.pointer (some ⟨l,0,none⟩),.pointer (some ⟨k,0,none⟩)])/\Gs 3 (w.heap.size+2) (ZG (ZG (ZG vi 0 (vI r (c 0).toNat)) 1 (Zb9 l (c 4))) 2 (ZbZ k)) w'/\Zp w.heap.size w w':=by
 have HL:=Za hL;clear hL;have F0:=jo.start w 87 #[.pointer none,.pointer none,.pointer none] c;go_enter func34,ntmps34;go_upto_region 1 with (fail);generalize (w.alloc (.cells (Zi c) 30)).alloc (.cells #[.pointer none,.pointer none,.pointer none] 87)=W at*;have HF:=Za F0;obtain ⟨b,hb⟩:=ZT (w.heap.size);have HB:=Za hb;rw [hb];clear F0 hb;have Ec:Zu W.drew b 30 (Zi c):=by rw [<-HB.o]; exact HF.o.cfg
 refine Ra (fun w'=>Zu w' b 30 (Zi c)) 5 [0,1,3,4] (?_) ?_
 ·exact Ec
 refine JL ?_;refine He ?_;refine Gz ?_;refine Vk _ ⟨b,0,none⟩ (.int .i64 (c 0)) (fun w h=>h.cell 0) ?_;refine X5 ?_;refine Gz ?_;refine Vk _ ⟨b,4,none⟩ (.int .u64 (c 4)) (fun w h=>h.cell 4) ?_;refine X5 ?_;refine XK ?_;have F1:=Za (HF.o.to ((Zo _ _).drew));clear HF Ec;generalize W.drew=W1 at*;refine Jg (i:=2) ?_;refine JC #[.int .i64 (c 0)] call75 ((ZdC W1 HL.o.1 HL.o.2.1).mono ?_);rintro e w2 ⟨r,S0,rfl,hR0,qN,Ro⟩;have F2:=Za (F1.o.more (R:=vI r (c 0).toNat) oc hR0 qN Ro);have Ec:Zu w2 b 30 (Zi c):=by rw [<-HB.o]; exact F2.o.cfg
 refine ⟨_,rfl,Ec,?_⟩;clear F1 hR0 qN Ro;refine DM ?_;refine Q3 ?_;refine JC #[.int .u64 (c 4)] call76 ((Zdz w2 HL.o.2.2.1 HL.o.2.2.2).mono ?_);rintro e w3 ⟨l,S1,rfl,hR1,At,EX⟩;have F3:=Za (F2.o.more (R:=Zb9 l (c 4)) Bd hR1 At EX);have Ec:Zu w3 b 30 (Zi c):=by rw [<-HB.o]; exact F3.o.cfg
 refine ⟨_,rfl,Ec,?_⟩;clear F2 hR1 At EX;refine Mo ?_;refine Q3 ?_;refine JC #[] call77 ((Zdw w3).mono ?_);rintro e w4 ⟨k,S2,rfl,hR2,qO,GN⟩;have F4:=Za (F3.o.more (R:=ZbZ k) Bd hR2 qO GN);have Ec:Zu w4 b 30 (Zi c):=by rw [<-HB.o]; exact F4.o.cfg
 refine ⟨_,rfl,Ec,?_⟩;clear F3 hR2 qO GN;refine Q3 ?_;refine Mj (fun w'=>Zu w' b 30 (Zi c)) (m:=2) (f:=1) [7] (?_) ?_
 ·exact Ec
 refine JL ?_;refine Hf ?_;refine Gz ?_;refine XK ?_;have HO:Zl (Zu w4 (b+1) 87 _):=Za IT;refine Jg (i:=8) ?_;refine Yz rfl rfl (Qi _ _ _ rfl (b+1) #[.pointer (some ⟨r,0,none⟩),.pointer (some ⟨l,0,none⟩),.pointer (some ⟨k,0,none⟩)] rfl rfl 87 _ HO.o Tf rfl (Tp _ _ _) ?_);have hd:=F4.o.done #[.pointer (some ⟨r,0,none⟩),.pointer (some ⟨l,0,none⟩),.pointer (some ⟨k,0,none⟩)];rw [HB.o] at hd;refine ⟨Ec.kept (XX (S:=fun i=>i=b+1) (ZM _ _) (.inl rfl) _) Ze,?_⟩;have HD:=Za hd;clear hd Ec;refine ⟨by kernel_rfl,Yu ?_⟩;refine Q3 ?_;go_wp2_with fail;exact Yd (v:= .agg #[.pointer (some ⟨r,0,none⟩),.pointer (some ⟨l,0,none⟩),.pointer (some ⟨k,0,none⟩)]) (YC (fn:=Tryz.f34) rfl _ _ (b+1) 87 _ (0,0) _ rfl (YA _ _ _ _ _ _ HO.o) underlying87 rfl Tf) rfl ⟨r,l,k,rfl,by rw [HB.o]; exact HD.o.1,by rw [HB.o]; exact HD.o.2⟩
theorem mT (w:Zc)(hL:1<=c 1/\c 1<=4096/\1<=c 12/\c 12<=4096) :Zv Zb 35 #[.agg (Zi c)] w fun e w'=> ∃n m u,e= .returned (.agg #[.pointer (some ⟨n,0,none⟩),.pointer (some ⟨m,0,none⟩),.pointer (some ⟨u,0,none⟩)])/\Gs 3 (w.heap.size+2) (ZG (ZG (ZG vi 0 (vF n (c 1).toNat)) 1 (vG m)) 2 (vm u (c 12).toNat)) w'/\Zp w.heap.size w w':=by
 have HL:=Za hL;clear hL;have F0:=jo.start w 93 #[.pointer none,.pointer none,.pointer none] c;go_enter func35,ntmps35;go_upto_region 1 with (fail);generalize (w.alloc (.cells (Zi c) 30)).alloc (.cells #[.pointer none,.pointer none,.pointer none] 93)=W at*;have HF:=Za F0;obtain ⟨b,hb⟩:=ZT (w.heap.size);have HB:=Za hb;rw [hb];clear F0 hb;have Ec:Zu W.drew b 30 (Zi c):=by rw [<-HB.o]; exact HF.o.cfg
 refine Ra (fun w'=>Zu w' b 30 (Zi c)) 5 [0,1,4,5] (?_) ?_
 ·exact Ec
 refine JL ?_;refine He ?_;refine Gz ?_;refine zr ?_;refine X5 ?_;refine Gz ?_;refine Vk _ ⟨b,12,none⟩ (.int .i64 (c 12)) (fun w h=>h.cell 12) ?_;refine X5 ?_;refine XK ?_;have F1:=Za (HF.o.to ((Zo _ _).drew));clear HF Ec;generalize W.drew=W1 at*;refine Jg (i:=2) ?_;refine JC #[.int .i64 (c 1)] call78 ((ZdA W1 HL.o.1 HL.o.2.1).mono ?_);rintro e w2 ⟨n,S0,rfl,hR0,qN,Ro⟩;have F2:=Za (F1.o.more (R:=vF n (c 1).toNat) oa hR0 qN Ro);have Ec:Zu w2 b 30 (Zi c):=by rw [<-HB.o]; exact F2.o.cfg
 refine ⟨_,rfl,Ec,?_⟩;clear F1 hR0 qN Ro;refine Jg (i:=3) ?_;refine Q3 ?_;refine JC #[] call79 ((ZdB w2).mono ?_);rintro e w3 ⟨m,S1,rfl,hR1,At,EX⟩;have F3:=Za (F2.o.more (R:=vG m) ob hR1 At EX);have Ec:Zu w3 b 30 (Zi c):=by rw [<-HB.o]; exact F3.o.cfg
 refine ⟨_,rfl,Ec,?_⟩;clear F2 hR1 At EX;refine Mo ?_;refine Q3 ?_;refine JC #[.int .i64 (c 12)] call80 ((Zdv w3 HL.o.2.2.1 HL.o.2.2.2).mono ?_);rintro e w4 ⟨u,S2,rfl,hR2,qO,GN⟩;have F4:=Za (F3.o.more (R:=vm u (c 12).toNat) nZ hR2 qO GN);have Ec:Zu w4 b 30 (Zi c):=by rw [<-HB.o]; exact F4.o.cfg
 refine ⟨_,rfl,Ec,?_⟩;clear F3 hR2 qO GN;refine Q3 ?_;refine Mj (fun w'=>Zu w' b 30 (Zi c)) (m:=2) (f:=1) [7] (?_) ?_
 ·exact Ec
 refine JL ?_;refine Hf ?_;refine Gz ?_;refine XK ?_;have HO:Zl (Zu w4 (b+1) 93 _):=Za IT;refine Jg (i:=8) ?_;refine Yz rfl rfl (Qi _ _ _ rfl (b+1) #[.pointer (some ⟨n,0,none⟩),.pointer (some ⟨m,0,none⟩),.pointer (some ⟨u,0,none⟩)] rfl rfl 93 _ HO.o AG rfl (Tp _ _ _) ?_);have hd:=F4.o.done #[.pointer (some ⟨n,0,none⟩),.pointer (some ⟨m,0,none⟩),.pointer (some ⟨u,0,none⟩)];rw [HB.o] at hd;refine ⟨Ec.kept (XX (S:=fun i=>i=b+1) (ZM _ _) (.inl rfl) _) Ze,?_⟩;have HD:=Za hd;clear hd Ec;refine ⟨by kernel_rfl,Yu ?_⟩;refine Q3 ?_;go_wp2_with fail;exact Yd (v:= .agg #[.pointer (some ⟨n,0,none⟩),.pointer (some ⟨m,0,none⟩),.pointer (some ⟨u,0,none⟩)]) (YC (fn:=Tryz.f35) rfl _ _ (b+1) 93 _ (0,0) _ rfl (YA _ _ _ _ _ _ HO.o) underlying93 rfl AG) rfl ⟨n,m,u,rfl,by rw [HB.o]; exact HD.o.1,by rw [HB.o]; exact HD.o.2⟩
theorem Ic (w:Zc)(hL:1<=c 1/\c 1<=4096) :Zv Zb 36 #[.agg (Zi c)] w fun e w'=> ∃p d q,e= .returned (.agg #[.pointer (some ⟨p,0,none⟩),.pointer (some ⟨d,0,none⟩),.pointer (some ⟨q,0,none⟩)])/\Gs 3 (w.heap.size+2) (ZG (ZG (ZG vi 0 (BI 148 3 1 p (c 1).toNat 0 [])) 1 (BI 151 116 2 d (c 1).toNat 0 [])) 2 (BI 154 119 2 q (c 1).toNat 0 [])) w'/\Zp w.heap.size w w':=by
 have HL:=Za hL;clear hL;have F0:=jo.start w 99 #[.pointer none,.pointer none,.pointer none] c;go_enter func36,ntmps36;go_upto_region 1 with (fail);generalize (w.alloc (.cells (Zi c) 30)).alloc (.cells #[.pointer none,.pointer none,.pointer none] 99)=W at*;have HF:=Za F0;obtain ⟨b,hb⟩:=ZT (w.heap.size);have HB:=Za hb;rw [hb];clear F0 hb;have Ec:Zu W.drew b 30 (Zi c):=by rw [<-HB.o]; exact HF.o.cfg
 refine Ra (fun w'=>Zu w' b 30 (Zi c)) 5 [0,1,3,4,6,7] (?_) ?_
 ·exact Ec
 refine JL ?_;refine I2 ?_;refine Gz ?_;refine zr ?_;refine X5 ?_;refine Gz ?_;refine zr ?_;refine X5 ?_;refine Gz ?_;refine zr ?_;refine X5 ?_;refine XK ?_;have F1:=Za (HF.o.to ((Zo _ _).drew));clear HF Ec;generalize W.drew=W1 at*;refine Jg (i:=2) ?_;refine JC #[.int .i64 (c 1)] call81 ((Zdy W1 HL.o.1 HL.o.2).mono ?_);rintro e w2 ⟨p,S0,rfl,hR0,qN,Ro⟩;have F2:=Za (F1.o.more (R:=BI 148 3 1 p (c 1).toNat 0 []) Gj hR0 qN Ro);have Ec:Zu w2 b 30 (Zi c):=by rw [<-HB.o]; exact F2.o.cfg
 refine ⟨_,rfl,Ec,?_⟩;clear F1 hR0 qN Ro;refine DM ?_;refine Q3 ?_;refine JC #[.int .i64 (c 1)] call82 ((Zdx w2 HL.o.1 HL.o.2).mono ?_);rintro e w3 ⟨d,S1,rfl,hR1,At,EX⟩;have F3:=Za (F2.o.more (R:=BI 151 116 2 d (c 1).toNat 0 []) Gj hR1 At EX);have Ec:Zu w3 b 30 (Zi c):=by rw [<-HB.o]; exact F3.o.cfg
 refine ⟨_,rfl,Ec,?_⟩;clear F2 hR1 At EX;refine Jg (i:=8) ?_;refine Q3 ?_;refine JC #[.int .i64 (c 1)] call83 ((ZdD w3 HL.o.1 HL.o.2).mono ?_);rintro e w4 ⟨q,S2,rfl,hR2,qO,GN⟩;have F4:=Za (F3.o.more (R:=BI 154 119 2 q (c 1).toNat 0 []) Gj hR2 qO GN);have Ec:Zu w4 b 30 (Zi c):=by rw [<-HB.o]; exact F4.o.cfg
 refine ⟨_,rfl,Ec,?_⟩;clear F3 hR2 qO GN;refine Q3 ?_;refine Mj (fun w'=>Zu w' b 30 (Zi c)) (m:=2) (f:=1) [9] (?_) ?_
 ·exact Ec
 refine JL ?_;refine Hf ?_;refine Gz ?_;refine XK ?_;have HO:Zl (Zu w4 (b+1) 99 _):=Za IT;refine Jg (i:=10) ?_;refine Yz rfl rfl (Qi _ _ _ rfl (b+1) #[.pointer (some ⟨p,0,none⟩),.pointer (some ⟨d,0,none⟩),.pointer (some ⟨q,0,none⟩)] rfl rfl 99 _ HO.o NR rfl (Tp _ _ _) ?_);have hd:=F4.o.done #[.pointer (some ⟨p,0,none⟩),.pointer (some ⟨d,0,none⟩),.pointer (some ⟨q,0,none⟩)];rw [HB.o] at hd;refine ⟨Ec.kept (XX (S:=fun i=>i=b+1) (ZM _ _) (.inl rfl) _) Ze,?_⟩;have HD:=Za hd;clear hd Ec;refine ⟨by kernel_rfl,Yu ?_⟩;refine Q3 ?_;go_wp2_with fail;exact Yd (v:= .agg #[.pointer (some ⟨p,0,none⟩),.pointer (some ⟨d,0,none⟩),.pointer (some ⟨q,0,none⟩)]) (YC (fn:=Tryz.f36) rfl _ _ (b+1) 99 _ (0,0) _ rfl (YA _ _ _ _ _ _ HO.o) underlying99 rfl NR) rfl ⟨p,d,q,rfl,by rw [HB.o]; exact HD.o.1,by rw [HB.o]; exact HD.o.2⟩
end
end
section
open Go Go.RowKit Go.Deep
theorem yK (P:YL)(t:ZJ)(cs:Array Zk)(w:Zc) :(Instr.box t (.agg cs)).run P w= .ok (.pointer (some ⟨w.heap.size,0,none⟩)) (w.alloc (.cells cs t)):=by
 simp [Instr.box,newRow,go_sem,Value.cells]
theorem oz {P:YL}{o:Oper}{a:Act}{w:Zc}{K:Act->Zc->Prop}{Q:Exit->Act->Zc->Prop}{t:ZJ}{x:YN}(ho:o.op= .box t x)(cs:Array Zk)(hx:a.eval x= .agg cs)
  (h:K (a.put o.dst (.pointer (some ⟨w.heap.size,0,none⟩))) (w.alloc (.cells cs t))) :o.wp P a w K Q:=by
 unfold Jp XL;simp only [ho,hx,Yr,yK,ZW,YU];exact h
theorem j7 {P:YL}{ops:Array Oper}{C:Zc->Prop}{Qa:Act->Prop}{op:Oper}{rest:List Oper}{a:Act}(t:ZJ)(parts:Array (Nat × YN))(hw:Region.wanted op (yielded ops a.tmps)=true)(ho:op.op= .build t parts)(cs:Array Zk)(hf:P.built t (parts.map fun (i,x)=>(i,a.eval x)).toList=some cs)(h:ZZ P ops C Qa rest (a.put op.dst (.agg cs))) :ZZ P ops C Qa (op::rest) a:=by
 refine BL (.agg cs) hw (fun w=>?_) h;have e:=run_build (P:=P) w t (parts.map fun (i,x)=>(i,a.eval x)) _ hf;unfold XL;rw [ho];show ((Instr.build t (parts.map fun (i,x)=>(i,a.eval x)))>>=fun r=>pure (Next.value r)).run P w=_;simp only [Yr,e,ZW,YU]
theorem ox (c:Nat->Int)(w:Zc) :Z3 32 #[.agg (Zi c)] w (.bool (Ws c==0)):=by
 have B0:Zu (w.alloc (.cells (Zi c) 30)) w.heap.size 30 (Zi c):=Zt _ _ _;have b1:Zp w.heap.size w (w.alloc (.cells (Zi c) 30)):=(Zo _ _).alloc (Zh _) _;have H:=Za (fun W=>lP c W);generalize Ws c=k at H ⊢;go_enter func32,ntmps32;go_upto_region 1 with (fail);have HB:=Za B0;have Hb:=Za b1;clear B0 b1;generalize w.alloc (.cells (Zi c) 30)=W at*;go_wp2_with (first | (refine Kz 30 w.heap.size HB.o underlying30 X7 ?_));refine (H.o W).mono ?_;rintro e w2 ⟨rfl,b2⟩;have H2:=Za (Hb.o.trans (b2.mono Hb.o.size));clear Hb b2 HB;go_wp2_with fail;go_ret;exact ⟨rfl,H2.o⟩
section
variable {w:Zc} {c:Nat->Int}
def mkF:Nat->Nat
 | 0=>0 | 1=>2 | 2=>1 | 3=>6 | 4=>3 | 5=>5 | 6=>4 | 7=>7 | 8=>8 | 9=>9 | 10=>10 | k=>k
theorem xJ {B:Nat}{P:Nat->Zc->(Nat->Prop)->Prop}{w0 w':Zc}{a:Pl}{q:Ql}{Z:Nat->Zc->(Nat->Prop)->Prop}(h:Gs 11 B P w')(hb:Zp w0.heap.size w0 w')(hB:w0.heap.size<=B)
  (hP: ∀k,k < 11->Pt c a (XE c a q [] [] (fun _ _ _=>False)) ae [] k=P (mkF k)) :Eg 11 ⟨fun _=>False,w0⟩ w' c a q Z ae []:=by
 obtain ⟨_,Φ,F,h1⟩:=h;refine ⟨fun _ _ _=>False,fun k hk=>⟨fun w S h=>h.elim,fun w w' S T h=>h.elim⟩,fun k h1 h2=>by omega,Zh _,fun k=>Φ (mkF k),F.remap mkF (fun k hk=>?_) (fun j k hj hk e=>?_) hP,fun k hk i hi=> .inr ?_,Zx.of_below hb⟩
 ·exact ZhY
 ·have h1:j=0\/j=1\/j=2\/j=3\/j=4\/j=5\/j=6\/j=7\/j=8\/j=9\/j=10:=Ze;have h2:k=0\/k=1\/k=2\/k=3\/k=4\/k=5\/k=6\/k=7\/k=8\/k=9\/k=10:=Ze
  rcases h1 with rfl | rfl | rfl | rfl | rfl | rfl | rfl | rfl | rfl | rfl | rfl <;> rcases h2 with rfl | rfl | rfl | rfl | rfl | rfl | rfl | rfl | rfl | rfl | rfl <;> first | rfl | (simp [mkF] at e)
 ·have:mkF k < 11:=ZhY
  exact ZY hB (h1 _ this i hi)
theorem Zf3 (w:Zc)(hg:GE c)(h:Ws c=0) :Zv Zb 18 #[.agg (Zi c)] w fun e w'=> ∃a q,e= .returned (.tuple #[.pointer (some ⟨q.e,0,none⟩),.int .i64 0])/\ ∀Z,Eg 11 ⟨fun _=>False,w⟩ w' c a q Z ae []:=by
 have B0:Zu (w.alloc (.cells (Zi c) 30)) w.heap.size 30 (Zi c):=Zt _ _ _;have b1:Zp w.heap.size w (w.alloc (.cells (Zi c) 30)):=(Zo _ _).alloc (Zh _) _;have hk:(Ws c==0)=true:=KB;have G:=Za hg;go_enter func18,ntmps18;go_upto_region 1 with (fail);have HB:=Za B0;have Hb:=Za b1;have HK:=Za hk;clear B0 b1 hk h hg;generalize w.alloc (.cells (Zi c) 30)=W at*;obtain ⟨b,hb⟩:=ZT (w.heap.size);have HH:=Za hb;rw [hb] at HB ⊢;clear hb;go_wp2_with (first | (refine Kz 30 b HB.o underlying30 X7 ?_));refine (ox c W).mono ?_;rintro e w2 ⟨rfl,b2⟩;rw [HK.o];have H2:=Za (Zn (HB.o.below b2 HB.o.lt) (Hb.o.trans (b2.mono Hb.o.size)));clear Hb b2 HB HK;go_wp2_with fail;refine Ra (fun w'=>Zu w' b 30 (Zi c)) 8 [0,1,3,5,7] (?_) ?_
 ·exact H2.o.1.drew
 refine JL ?_;refine Ol ?_;refine tE ?_;refine X5 ?_;refine tE ?_;refine X5 ?_;refine tE ?_;refine X5 ?_;refine tE ?_;refine X5 ?_;refine tE ?_;refine X5 ?_;refine XK ?_;have H3:=Za (show Zu w2.drew b 30 (Zi c)/\Zp w.heap.size w w2.drew from ⟨H2.o.1.drew,H2.o.2.drew⟩);clear H2;generalize w2.drew=W3 at*;have G0:=Za (Gs.zero (B:=W3.heap.size) (w:=W3));have HW3:=Za H3.o.2.size;refine Jg (i:=2) ?_;refine JC #[.agg (Zi c)] call33 ((mU W3 G.o.g.len0).mono ?_);rintro e w4 ⟨kc,rfl,g4,b4⟩;have G4:=Za (G0.o.join g4 b4 Ze (Zh _));have H4:=Za (Zn (H3.o.1.below b4 H3.o.1.lt) (Zn (H3.o.2.trans (b4.mono H3.o.2.size)) b4));refine ⟨_,rfl,H4.o.1,?_⟩;clear G0 g4 b4 H3;refine Jg (i:=4) ?_;refine Q3 ?_;refine JC #[.agg (Zi c)] call34 ((gC w4 ⟨G.o.g.cap0,G.o.g.cap1,by have:=G.o.a2; have:=G.o.a23; have:=G.o.a3; omega,by have:=G.o.a4; omega⟩).mono ?_);rintro e w5 ⟨kr,kl,kk,rfl,g5,b5⟩;have G5:=Za (G4.o.join g5 b5 Ze H4.o.2.2.size);have H5:=Za (Zn (H4.o.1.below b5 H4.o.1.lt) (Zn (H4.o.2.1.trans (b5.mono H4.o.2.1.size)) (ZY H4.o.2.2.size b5.size)));refine ⟨_,rfl,H5.o.1,?_⟩;clear G4 g5 b5 H4;refine Mo ?_;refine Q3 ?_;refine JC #[.agg (Zi c)] call35 ((mT w5 ⟨G.o.q0,G.o.q1,G.o.r0,G.o.r1⟩).mono ?_);rintro e w6 ⟨kn,km,ku,rfl,g6,b6⟩;have G6:=Za (G5.o.join g6 b6 Ze H5.o.2.2);have H6:=Za (Zn (H5.o.1.below b6 H5.o.1.lt) (Zn (H5.o.2.1.trans (b6.mono H5.o.2.1.size)) (ZY H5.o.2.2 b6.size)));refine ⟨_,rfl,H6.o.1,?_⟩;clear G5 g6 b6 H5;refine Jg (i:=8) ?_;refine Q3 ?_;refine JC #[.agg (Zi c)] call36 ((Ic w6 ⟨G.o.q0,G.o.q1⟩).mono ?_);rintro e w7 ⟨kp,kd,kq,rfl,g7,b7⟩;have G7:=Za (G6.o.join g7 b7 Ze H6.o.2.2);have H7:=Za (Zn (H6.o.1.below b7 H6.o.1.lt) (Zn (H6.o.2.1.trans (b7.mono H6.o.2.1.size)) (ZY H6.o.2.2 b7.size)));refine ⟨_,rfl,H7.o.1,?_⟩;clear G6 g7 b7 H6;refine Q3 ?_;refine Mj (fun w'=>Zu w' b 30 (Zi c)) (m:=4) (f:=3) [9] (?_) ?_
 ·exact H7.o.1
 refine JL ?_;refine Hf ?_;obtain ⟨a,ha⟩ : ∃a:Pl,a=⟨kc,kl,kr,ku,kk,km,kn,kp⟩:=⟨_,rfl⟩;refine j7 102 _ ZC rfl (Uh c ⟨kc,kl,kr,ku,kk,km,kn,kp⟩ ⟨kd,kq,w7.heap.size⟩) ZC ?_;refine X5 ?_;refine XK ?_;refine Jg (i:=10) ?_;refine Q3 ?_;refine Yz rfl rfl (oz rfl (Uh c ⟨kc,kl,kr,ku,kk,km,kn,kp⟩ ⟨kd,kq,w7.heap.size⟩) rfl ?_);have hbe:Zp w7.heap.size w7 (w7.alloc (.cells (Uh c ⟨kc,kl,kr,ku,kk,km,kn,kp⟩ ⟨kd,kq,w7.heap.size⟩) 102)):=(Zo _ _).alloc (Zh _) _;have G8:=Za (G7.o.more (R:=Y5 w7.heap.size 102 (Uh c ⟨kc,kl,kr,ku,kk,km,kn,kp⟩ ⟨kd,kq,w7.heap.size⟩)) JV (S':=fun i=>i=w7.heap.size) ⟨Zt _ _ _,fun i=>KY⟩ (fun i hi=>by omega) hbe H7.o.2.2);have H8:=Za (Zn (H7.o.1.below hbe H7.o.1.lt) (Zn (H7.o.2.1.trans (hbe.mono H7.o.2.1.size)) H7.o.2.2));refine ⟨H8.o.1,?_⟩;clear G7 H7 hbe;generalize w7.alloc (.cells (Uh c ⟨kc,kl,kr,ku,kk,km,kn,kp⟩ ⟨kd,kq,w7.heap.size⟩) 102)=w8 at*;generalize w7.heap.size=ke at*;refine Q3 ?_;refine Mj (fun w'=>Zu w' b 30 (Zi c)) (m:=2) (f:=0) [11,12] (?_) ?_
 ·exact H8.o.1
 refine JL ?_;show ZZ _ _ _ _ [_,_] _;refine B9 ?_;refine XK ?_;refine ⟨by kernel_rfl,Yu ?_⟩;refine Q3 ?_;go_wp2_with fail;go_ret2;refine ⟨⟨kc,kl,kr,ku,kk,km,kn,kp⟩,⟨kd,kq,ke⟩,rfl,fun Z=>?_⟩;have hB:=H8.o.2.2;refine xJ G8.o H8.o.2.1 HW3.o fun k hk=>?_
 have h1:k=0\/k=1\/k=2\/k=3\/k=4\/k=5\/k=6\/k=7\/k=8\/k=9\/k=10:=Ze
 rcases h1 with rfl | rfl | rfl | rfl | rfl | rfl | rfl | rfl | rfl | rfl | rfl <;> rfl
end
end
section
open Go Go.RowKit Go.Deep
structure Sv where
 a:Option Addr
 n:Nat
 c:Nat
def Sv.v (x:Sv) :Zk:= .slice x.a x.n x.c
def Fj (s:Sg)(ac:Int)(u:Int)(v1 v2 v3 v4 v5 v6:Zk) :Array Zk:= #[.int .i64 s.bk,.int .i64 s.ep,v1,.int .u64 s.D,.int .u64 s.P,.int .u64 s.B,.int .u64 ac,v2,v3,v4,v5,v6,.int .i64 (s.cu:Int),.int .u64 s.cy,.int .i64 u]
def snZ:Array Zk:= #[.int .i64 0,.int .i64 0,.slice none 0 0,.int .u64 0,.int .u64 0,.int .u64 0,.int .u64 0,.slice none 0 0,.slice none 0 0,.slice none 0 0,.slice none 0 0,.slice none 0 0,.int .i64 0,.int .u64 0,.int .i64 0]
def rwV (s:Sg)(v:Zk) :Zc->(Nat->Prop)->Prop:=YI 68 7 v s.V.length (Xz s.V)
def rwI (l:List Int)(v:Zk) :Zc->(Nat->Prop)->Prop:=YI 3 1 v l.length (l.map (Value.int .i64))
def rwM (s:Sg)(v:Zk) :Zc->(Nat->Prop)->Prop:=YI 116 2 v s.mg.length (Jo s.mg)
def rwT (s:Sg)(v:Zk) :Zc->(Nat->Prop)->Prop:=YI 119 2 v s.pt.length (Ja s.pt)
def snX (Z:Nat->Zc->(Nat->Prop)->Prop)(N:Nat)(s:Sg)(v1 v2 v3 v4 v5 v6:Zk) :Nat->Zc->(Nat->Prop)->Prop:=
 ZG (ZG (ZG (ZG (ZG (ZG Z N (rwV s v1)) (N+1) (rwI s.pd v2)) (N+2) (rwI s.F v3)) (N+3) (rwI s.W v4)) (N+4) (rwM s v5)) (N+5) (rwT s v6)
theorem Zd4 (s:Sg)(ac u:Int)(a1 a2 a3 a4 a5 a6:Option Addr)(n1 n2 n3 n4 n5 n6 c1 c2 c3 c4 c5 c6:Nat) :(Fj s ac u (.slice a1 n1 c1) (.slice a2 n2 c2) (.slice a3 n3 c3) (.slice a4 n4 c4) (.slice a5 n5 c5) (.slice a6 n6 c6)).all (·.oneCell')=true:=ZK.2 fun u hu=>by
 simp only [Fj,Uw,ZU,Yg,or_false] at hu
 rcases hu with rfl | rfl | rfl | rfl | rfl | rfl | rfl | rfl | rfl | rfl | rfl | rfl | rfl | rfl | rfl <;> rfl
theorem rV:(Tryz.prog.info? 28).map (·.size)=some 15:=ZC
theorem xR:(Tryz.prog.info? 109).map (·.size)=some 3:=ZC
section
variable {N:Nat} {w0:Fb} {w w' w1:Zc} {c cf:Nat->Int} {a:Pl} {q:Ql} {X Z:Nat->Zc->(Nat->Prop)->Prop} {s s':Sg} {L L':List QW} {k:Nat}
theorem Eg.pall (h:Eg N w0 w c a q Z s L)(hl:s.pd.length<=4096) :Zv Zb 45 #[.pointer (some ⟨a.p,0,none⟩)] w fun e w'=> ∃v,e= .returned v/\Eg (N+1) w0 w' c a q (ZG Z N (rwI s.pd v)) s L:=by
 have hN:=h.low;obtain ⟨X,hX,VV,hh,_,hK,_⟩:=h.open;refine (hh.pall hX VV).mono fun e w' ⟨he,g1,_⟩=>⟨_,he,?_⟩
 have g2:=hK _ _ _ _ g1 JV rfl rfl;have g3:=g2.torow (r:=N) (t:=3) (k:=1) (n:=s.pd.length) hN Ze Zq ZE GU;rwa [Xx] at g3
theorem Eg.lall (h:Eg N w0 w c a q Z s L)(cl:Int) :Zv Zb 46 #[.pointer (some ⟨a.n,0,none⟩),.int .i64 cl] w fun e w'=> ∃v,e= .returned v/\Eg (N+1) w0 w' c a q (ZG Z N (rwI (VW s.F s.W cl) v)) s L:=by
 obtain ⟨X,hX,VV,hh,_,hK,_⟩:=h.open;exact (hh.lall hX VV cl).mono fun e w' ⟨v,he,g1,_⟩=>⟨v,he,hK _ _ _ _ g1 Q5 rfl rfl⟩
theorem Eg.mrow (h:Eg N w0 w c a q Z s L)(hl:s.mg.length<=4096) :Zv Zb 47 #[.pointer (some ⟨q.d,0,none⟩)] w fun e w'=> ∃v,e= .returned v/\Eg (N+1) w0 w' c a q (ZG Z N (rwM s v)) s L:=by
 have hN:=h.low;refine (h.mall).mono fun e w' ⟨he,g1,_⟩=>⟨_,he,?_⟩
 have g3:=g1.torow (r:=N) (t:=116) (k:=2) (n:=s.mg.length) hN Ze Zq (Ft _) GU;rwa [Xx] at g3
theorem Eg.trow (h:Eg N w0 w c a q Z s L)(hl:s.pt.length<=4096) :Zv Zb 48 #[.pointer (some ⟨q.q,0,none⟩)] w fun e w'=> ∃v,e= .returned v/\Eg (N+1) w0 w' c a q (ZG Z N (rwT s v)) s L:=by
 have hN:=h.low;refine (h.tall).mono fun e w' ⟨he,g1,_⟩=>⟨_,he,?_⟩
 have g3:=g1.torow (r:=N) (t:=119) (k:=2) (n:=s.pt.length) hN Ze Zq (Fz _) GU;rwa [Xx] at g3
theorem Eg.at_ (h:Eg N w0 w c a q Z s L) :YV 49 #[.pointer (some ⟨a.k,0,none⟩)] w (.int .i64 s.cu):=by
 obtain ⟨X,hX,VV,hh,_⟩:=h.open;exact hh.at_ VV
theorem Eg.carry (h:Eg N w0 w c a q Z s L) :Xb 50 #[.pointer (some ⟨a.m,0,none⟩)] w (.int .u64 s.cy):=by
 obtain ⟨X,hX,VV,hh,_⟩:=h.open;exact hh.carry VV
theorem Eg.totals (h:Eg N w0 w c a q Z s L) :Z3 40 #[.pointer (some ⟨a.l,0,none⟩)] w (.agg #[.int .u64 s.D,.int .u64 s.P,.int .u64 s.B]):=by
 obtain ⟨X,hX,VV,hh,_⟩:=h.open;exact hh.totals VV
theorem Eg.ulen (h:Eg N w0 w c a q Z s L)(hL:L.length<=100000) :Zv Zb 51 #[.pointer (some ⟨a.u,0,none⟩)] w fun e w'=>e= .returned (.int .i64 L.length)/\Eg N w0 w' c a q Z s L:=by
 obtain ⟨X,hX,VV,hh,hK,_⟩:=h.open;exact (hh.ulen hX VV hL).mono fun e w' ⟨he,g1,_⟩=>⟨he,hK _ _ _ g1 rfl rfl⟩
theorem zc (x y z:Int) :(#[Value.int .u64 x,.int .u64 y,.int .u64 z]).all (·.oneCell')=true:=ZK.2 fun u hu=>by
 simp only [Uw,ZU,Yg,or_false] at hu
 rcases hu with rfl | rfl | rfl <;> rfl
theorem Zf6 (h:Eg N w0 w c a q Z s L)(t:Tm c s)(hL:L.length<=100000)(oP:s.pd.length<=4096)(q9:s.mg.length<=4096)(I8:s.pt.length<=4096) :
  Zv Zb 20 #[.pointer (some ⟨q.e,0,none⟩)] w fun e w'=> ∃x1 x2 x3 x4 x5 x6:Sv,e= .returned (.agg (Fj s (Ye s.V) L.length x1.v x2.v x3.v x4.v x5.v x6.v))/\
   Eg (N+6) w0 w' c a q (snX Z N s x1.v x2.v x3.v x4.v x5.v x6.v) s L:=by
 have hN:=h.low;have h1:=h.box snZ 28;have HX:=Za (Zn t (Zn hL (Zn oP (Zn q9 I8))));have HN:=Za hN;clear h t hL oP q9 I8 hN;go_enter func20,ntmps20;go_upto_region 1 with (fail);generalize hW:w.alloc (.cells _ 28)=V0;have eW:w.alloc (.cells snZ 28)=V0:=hW;rw [eW] at h1;generalize w.heap.size=b at*;have H1:=Za h1;have y22:=Eg.x22 h1;clear hW eW h1;go_wp2_with fail;refine (Eg.totals H1.o).mono ?_;rintro e w2 ⟨rfl,GN⟩;have h2:=(H1.o.below GN).box #[.int .u64 s.D,.int .u64 s.P,.int .u64 s.B] 109;have H2:=Za h2;clear H1 GN y22 h2;go_upto_region 4 with (first | (refine UP w2.heap.size #[.int .u64 s.D,.int .u64 s.P,.int .u64 s.B] 109 (heap_alloc_new w2 _) xR (zc _ _ _) ?_; rw [Zr]));generalize w2.heap.size=tb at*;generalize w2.alloc (.cells #[.int .u64 s.D,.int .u64 s.P,.int .u64 s.B] 109)=W2 at*;simp only [List.append_eq,List.cons_append,List.nil_append,Act.put];refine Ra (fun w'=>Zu w' q.e 102 (Uh c a q)/\Zu w' tb 109 #[.int .u64 s.D,.int .u64 s.P,.int .u64 s.B]) 14 [0,1,2,4,5,6,8,9,10,11,12,14,15,16,17,18,19,20,21,22,23,24,26,27,28,29,30,32,33,34,35,36,38,39,40,41,42,44,45,46,47,48,50,51,52,53,54,56,57,58,59,60,62,63,64,65,66,68,69,70,71,72] (?_) ?_
 ·exact ⟨H2.o.drew.blk,H2.o.drew.blkAt (r:=N+1) ZO Ze Zq⟩
 refine JL ?_;show ZZ _ _ _ _ (_::_::_::_::_::_::_::_::_::_::_::_::_::_::_::_::_::_::_::_::_::_::_::_::_::_::_::_::_::_::_::_::_::_::_::_::_::_::_::_::_::_::_::_::_::_::_::_::_::_::_::_::_::_::_::_::_::_::_::_::_::_::[]) _;iterate 10 (go_big_quiet_step ((intros; rfl)))
 refine Vk _ ⟨q.e,21,none⟩ (.pointer (some ⟨a.r,0,none⟩)) (fun w h=>h.1.cell 21) ?_;refine X5 ?_;refine Gz ?_;refine Vk _ ⟨tb,0,none⟩ (.int .u64 s.D) (fun w h=>h.2.cell 0) ?_;refine X5 ?_;refine Gz ?_;refine Vk _ ⟨tb,1,none⟩ (.int .u64 s.P) (fun w h=>h.2.cell 1) ?_;refine X5 ?_;refine Gz ?_;refine Vk _ ⟨tb,2,none⟩ (.int .u64 s.B) (fun w h=>h.2.cell 2) ?_;refine X5 ?_;refine Bi ?_;refine Vk _ ⟨q.e,21,none⟩ (.pointer (some ⟨a.r,0,none⟩)) (fun w h=>h.1.cell 21) ?_;refine X5 ?_;refine Bi ?_;refine Vk _ ⟨q.e,27,none⟩ (.pointer (some ⟨a.p,0,none⟩)) (fun w h=>h.1.cell 27) ?_;refine X5 ?_;refine Bi ?_;refine Vk _ ⟨q.e,24,none⟩ (.pointer (some ⟨a.n,0,none⟩)) (fun w h=>h.1.cell 24) ?_;refine X5 ?_;refine Bi ?_;refine Vk _ ⟨q.e,24,none⟩ (.pointer (some ⟨a.n,0,none⟩)) (fun w h=>h.1.cell 24) ?_;refine X5 ?_;refine Bi ?_;refine Zej ?_;refine X5 ?_;refine Bi ?_;refine Zei ?_;refine X5 ?_;refine Bi ?_;refine Vk _ ⟨q.e,23,none⟩ (.pointer (some ⟨a.k,0,none⟩)) (fun w h=>h.1.cell 23) ?_;refine X5 ?_;refine Bi ?_;refine Vk _ ⟨q.e,25,none⟩ (.pointer (some ⟨a.m,0,none⟩)) (fun w h=>h.1.cell 25) ?_;refine X5 ?_;refine Bi ?_;refine Vk _ ⟨q.e,26,none⟩ (.pointer (some ⟨a.u,0,none⟩)) (fun w h=>h.1.cell 26) ?_;refine X5 ?_;refine XK ?_;have E0:=Za H2.o.drew;clear H2;generalize W2.drew=U0 at*;refine Jg (i:=3) ?_;refine JC #[.pointer (some ⟨q.e,20,none⟩)] call41 ((eV E0.o).mono ?_);rintro e _ ⟨rfl,rfl⟩;refine ⟨_,rfl,⟨E0.o.blk,E0.o.blkAt (r:=N+1) ZO Ze (by exact Zq)⟩,?_⟩;refine Jg (i:=7) ?_;refine Q3 ?_;refine JC #[.pointer (some ⟨q.e,20,none⟩)] call42 ((GG E0.o HX.o.1.b0 HX.o.1.b1 HX.o.1.l HX.o.1.q).mono ?_);rintro e _ ⟨rfl,m1,rfl⟩;have E2:=Za (E0.o.drewN m1);clear E0;generalize U0.drewN m1=U2 at*;refine ⟨_,rfl,⟨E2.o.blk,E2.o.blkAt (r:=N+1) ZO Ze (by exact Zq)⟩,?_⟩;refine Jg (i:=13) ?_;refine Q3 ?_;refine JC #[.pointer (some ⟨a.r,0,none⟩)] call43 ((Eg.all E2.o).mono ?_);rintro e U3 ⟨v1,rfl,h3,_⟩;obtain ⟨a1,c1,rfl⟩:=Xy (h3.row (r:=N+2) ZO Ze Zq);have E3:=Za h3;clear h3 E2;refine ⟨_,rfl,⟨E3.o.blk,E3.o.blkAt (r:=N+1) ZO Ze Ut⟩,?_⟩;refine Jg (i:=25) ?_;refine Q3 ?_;refine JC #[.pointer (some ⟨a.r,0,none⟩)] call44 ((Eg.active E3.o).mono ?_);rintro e _ ⟨rfl,rfl⟩;refine ⟨_,rfl,⟨E3.o.blk,E3.o.blkAt (r:=N+1) ZO Ze Ut⟩,?_⟩;refine Jg (i:=31) ?_;refine Q3 ?_;refine JC #[.pointer (some ⟨a.p,0,none⟩)] call45 ((Eg.pall E3.o HX.o.2.2.1).mono ?_);rintro e U5 ⟨v2,rfl,h5⟩;obtain ⟨a2,c2,rfl⟩:=Xy (h5.row (r:=N+2+1) ZO Ze Zq);have E5:=Za h5;clear h5 E3;refine ⟨_,rfl,⟨E5.o.blk,E5.o.blkAt (r:=N+1) ZO Ze kM⟩,?_⟩;refine Jg (i:=37) ?_;refine Q3 ?_;refine JC #[.pointer (some ⟨a.n,0,none⟩),.int .i64 0] call46 ((Eg.lall E5.o 0).mono ?_);rintro e U6 ⟨v3,rfl,h6⟩;rw [show VW s.F s.W 0=s.F from rfl] at h6;obtain ⟨a3,c3,rfl⟩:=Xy (h6.row (r:=N+2+1+1) ZO Ze Zq);have E6:=Za h6;clear h6 E5;refine ⟨_,rfl,⟨E6.o.blk,E6.o.blkAt (r:=N+1) ZO Ze (by rw [Zz Ze,Zz Ze,Zz Ze,Zq])⟩,?_⟩;refine Jg (i:=43) ?_;refine Q3 ?_;refine JC #[.pointer (some ⟨a.n,0,none⟩),.int .i64 1] call46 ((Eg.lall E6.o 1).mono ?_);rintro e U7 ⟨v4,rfl,h7⟩;rw [show VW s.F s.W 1=s.W from rfl] at h7;obtain ⟨a4,c4,rfl⟩:=Xy (h7.row (r:=N+2+1+1+1) ZO Ze Zq);have E7:=Za h7;clear h7 E6;refine ⟨_,rfl,⟨E7.o.blk,E7.o.blkAt (r:=N+1) ZO Ze kG⟩,?_⟩;refine Jg (i:=49) ?_;refine Q3 ?_;refine JC #[.pointer (some ⟨q.d,0,none⟩)] call47 ((Eg.mrow E7.o HX.o.2.2.2.1).mono ?_);rintro e U8 ⟨v5,rfl,h8⟩;obtain ⟨a5,c5,rfl⟩:=Xy (h8.row (r:=N+2+1+1+1+1) ZO Ze Zq);have E8:=Za h8;clear h8 E7;refine ⟨_,rfl,⟨E8.o.blk,E8.o.blkAt (r:=N+1) ZO Ze (by rw [Zz Ze,Zz Ze,Zz Ze,Zz Ze,Zz Ze,Zq])⟩,?_⟩;refine Jg (i:=55) ?_;refine Q3 ?_;refine JC #[.pointer (some ⟨q.q,0,none⟩)] call48 ((Eg.trow E8.o HX.o.2.2.2.2).mono ?_);rintro e U9 ⟨v6,rfl,h9⟩;obtain ⟨a6,c6,rfl⟩:=Xy (h9.row (r:=N+2+1+1+1+1+1) ZO Ze Zq);have E9:=Za h9;clear h9 E8;refine ⟨_,rfl,⟨E9.o.blk,E9.o.blkAt (r:=N+1) ZO Ze M4⟩,?_⟩;refine Jg (i:=61) ?_;refine Q3 ?_;refine JC #[.pointer (some ⟨a.k,0,none⟩)] call49 ((Eg.at_ E9.o).mono ?_);rintro e _ ⟨rfl,rfl⟩;refine ⟨_,rfl,⟨E9.o.blk,E9.o.blkAt (r:=N+1) ZO Ze M4⟩,?_⟩;refine Jg (i:=67) ?_;refine Q3 ?_;refine JC #[.pointer (some ⟨a.m,0,none⟩)] call50 ((Eg.carry E9.o).mono ?_);rintro e _ ⟨rfl,m10,rfl⟩;have vo:=Za (E9.o.drewN m10);clear E9;generalize U9.drewN m10=U11 at*;refine ⟨_,rfl,⟨vo.o.blk,vo.o.blkAt (r:=N+1) ZO Ze M4⟩,?_⟩;refine Jg (i:=73) ?_;refine Q3 ?_;refine JC #[.pointer (some ⟨a.u,0,none⟩)] call51 ((Eg.ulen vo.o HX.o.2.1).mono ?_);rintro e U12 ⟨rfl,L1⟩;have E12:=Za L1;clear L1 vo;refine ⟨_,rfl,⟨E12.o.blk,E12.o.blkAt (r:=N+1) ZO Ze M4⟩,?_⟩;refine Q3 ?_;refine Mj (fun w'=>Zu w' q.e 102 (Uh c a q)/\Zu w' tb 109 #[.int .u64 s.D,.int .u64 s.P,.int .u64 s.B]) (m:=2) (f:=1) [74] (?_) ?_
 ·exact ⟨E12.o.blk,E12.o.blkAt (r:=N+1) ZO Ze M4⟩
 refine JL ?_;refine Hf ?_;refine j7 28 _ ZC rfl (Fj s (Ye s.V) L.length (.slice a1 s.V.length c1) (.slice a2 s.pd.length c2) (.slice a3 s.F.length c3) (.slice a4 s.W.length c4) (.slice a5 s.mg.length c5) (.slice a6 s.pt.length c6)) ZC ?_;refine X5 ?_;refine XK ?_;generalize EY:Fj s (Ye s.V) L.length (.slice a1 s.V.length c1) (.slice a2 s.pd.length c2) (.slice a3 s.F.length c3) (.slice a4 s.W.length c4) (.slice a5 s.mg.length c5) (.slice a6 s.pt.length c6)=cs;have SZ:cs.all (·.oneCell')=true:=by rw [<-EY]; exact Zd4 _ _ _ _ _ _ _ _ _ _ _ _ _ _ _ _ _ _ _ _ _
 have ak:Zl ((Tryz.prog.info? 28).map (·.size)=some cs.size):=Za (by rw [<-EY]; exact rV);have HCS:=Za EY;clear EY;have hB:=E12.o.blkAt (r:=N) HN.o Ze IQ;refine Jg (i:=75) ?_;have Zc9:snZ.size=cs.size:=by rw [<-HCS.o]; rfl
 refine Yz rfl rfl (Qi _ _ _ rfl b cs rfl rfl 28 _ hB ak.o Zc9 SZ ?_);have h9:=E12.o.setr (r:=N) HN.o Ze IQ (cs':=cs) (Ji hB _) (XX (S:=fun i=>i=b) (ZM _ _) (.inl rfl) _);have HB:=Za hB;have E9:=Za h9;refine ⟨⟨h9.blk,h9.blkAt (r:=N+1) ZO Ze IQ⟩,?_⟩;clear h9 hB E12;refine ⟨by kernel_rfl,Yu ?_⟩;refine Q3 ?_;go_wp2_with fail;refine Yd (v:= .agg cs) (YC (fn:=Tryz.f20) rfl _ _ b 28 _ (0,0) _ rfl (YA _ _ _ _ _ _ HB.o) underlying28 rfl ak.o) rfl ?_;refine ⟨⟨a1,_,c1⟩,⟨a2,_,c2⟩,⟨a3,_,c3⟩,⟨a4,_,c4⟩,⟨a5,_,c5⟩,⟨a6,_,c6⟩,by rw [<-HCS.o]; rfl,?_⟩;have hN:=HN.o;refine E9.o.remap Ze (fun k=>if k < N then k else k+2) (fun k hk=>if_pos Ze) (fun k hk=>by split <;> omega) (fun k hk=>by split <;> omega) (fun i j hi hj e=>by split at e <;> split at e <;> omega) fun k h1 h2=>?_
 by_cases hk:k < N
 ·rw [if_pos hk];unfold snX;rw [Zz Ze,Zz Ze,Zz Ze,Zz Ze,Zz Ze,Zz Ze,Zz Ze,Zz Ze,Zz Ze,Zz Ze,Zz Ze,Zz Ze,Zz Ze,Zz Ze,Zz Ze]
 ·rw [if_neg hk];have hc:k=N\/k=N+1\/k=N+2\/k=N+3\/k=N+4\/k=N+5:=Ze;unfold snX
  rcases hc with rfl | rfl | rfl | rfl | rfl | rfl
  ·rw [Zz Ze,Zz Ze,Zz Ze,Zz Ze,Zz Ze,Zq,Zz Ze,Zz Ze,Zz Ze,Zz Ze,Zz Ze,Zz Ze,Zq]; rfl
  ·rw [Zz Ze,Zz Ze,Zz Ze,Zz Ze,Zq,Zz Ze,Zz Ze,Zz Ze,Zz Ze,Zz Ze,Zq]; rfl
  ·rw [Zz Ze,Zz Ze,Zz Ze,Zq,Zz Ze,Zz Ze,Zz Ze,Zz Ze,Zq]; rfl
  ·rw [Zz Ze,Zz Ze,Zq,Zz Ze,Zz Ze,Zz Ze,Zq]; rfl
  ·rw [Zz Ze,Zq,Zz Ze,Zz Ze,Zq]; rfl
  ·rw [Zq,Zz Ze,Zq]; rfl
end
end
section
open Go Go.RowKit Go.Deep
def lk (c:Nat->Int)(n:Nat) :Prop:=Ws c=0/\c 0<=100/\c 14<=200/\c 15<=200/\c 17<=200/\c 1<=200/\n<=400
instance (c:Nat->Int) (n:Nat) :Decidable (lk c n):=by unfold lk; infer_instance
def fo (c:Nat->Int)(n:Nat) :Int:=if lk c n then 1 else 0
theorem cE (c:Nat->Int)(a:Option Addr)(n cp:Nat)(w:Zc) :
  Z3 17 #[.agg (Zi c),.slice a n cp] w (.int .i64 (fo c n)):=by
 have B0:Zu (w.alloc (.cells (Zi c) 30)) w.heap.size 30 (Zi c):=Zt _ _ _;have b1:Zp w.heap.size w (w.alloc (.cells (Zi c) 30)):=(Zo _ _).alloc (Zh _) _;have H:=Za (fun W=>Ip c W);have HF:Zl (∀k:Int,Ws c=k->(k≠0\/100 < c 0\/200 < c 14\/200 < c 15\/200 < c 17\/200 < c 1\/400 < n->fo c n=0)/\(k=0->c 0<=100->c 14<=200->c 15<=200->c 17<=200->c 1<=200->n<=400->fo c n=1)):=Za fun k hk=>by
  subst hk;unfold fo lk;exact ⟨fun h=>if_neg Ze,fun h0 h1 h2 h3 h4 h5 h6=>if_pos ⟨h0,h1,h2,h3,h4,h5,h6⟩⟩
 obtain ⟨k,hk⟩:=ZT (Ws c);have Cl:=Za (HF.o k hk);rw [hk] at H;clear hk HF;obtain ⟨r,hr⟩:=ZT (fo c n);rw [hr] at Cl ⊢;clear hr;go_enter func17,ntmps17;go_upto_region 1 with (fail);have HB:=Za B0;have Hb:=Za b1;clear B0 b1;generalize w.alloc (.cells (Zi c) 30)=W at*;go_wp2_with (first | (refine Kz 30 w.heap.size HB.o underlying30 X7 ?_));refine (H.o W).mono ?_;rintro e w2 ⟨rfl,b2⟩;have Gv:=HB.o.below b2 HB.o.lt;have H2:=Za (Hb.o.trans (b2.mono Hb.o.size));clear Hb b2 HB H;have y0:=QS Gv 0;have y1:=QS Gv 1;have y14:=QS Gv 14;have y15:=QS Gv 15;have y17:=QS Gv 17;clear Gv
 by_cases h0:k=0
 ·by_cases h1:c 0<=100
  ·by_cases h2:c 14<=200
   ·by_cases h3:c 15<=200
    ·by_cases h4:c 17<=200
     ·by_cases h5:c 1<=200
      ·by_cases h6:n<=400
       ·have hr:=Cl.o.2 h0 h1 h2 h3 h4 h5 h6;subst h0;have d1: ¬100 < c 0:=Ze;have d2: ¬200 < c 14:=Ze;have d3: ¬200 < c 15:=Ze;have d4: ¬200 < c 17:=Ze;have d5: ¬200 < c 1:=Ze;have d6: ¬(400:Int)< (n:Int):=Ze;have HR:=Za hr;clear hr h1 h2 h3 h4 h5 h6 Cl;exact Rb
       ·have HR:=Za (Cl.o.1 Ze);subst h0;have d1: ¬100 < c 0:=Ze;have d2: ¬200 < c 14:=Ze;have d3: ¬200 < c 15:=Ze;have d4: ¬200 < c 17:=Ze;have d5: ¬200 < c 1:=Ze;have d6:(400:Int)< (n:Int):=Ze;clear h1 h2 h3 h4 h5 h6 Cl;exact Rb
      ·have HR:=Za (Cl.o.1 Ze);subst h0;have d1: ¬100 < c 0:=Ze;have d2: ¬200 < c 14:=Ze;have d3: ¬200 < c 15:=Ze;have d4: ¬200 < c 17:=Ze;have d5:200 < c 1:=Ze;clear h1 h2 h3 h4 h5 Cl;exact Rb
     ·have HR:=Za (Cl.o.1 Ze);subst h0;have d1: ¬100 < c 0:=Ze;have d2: ¬200 < c 14:=Ze;have d3: ¬200 < c 15:=Ze;have d4:200 < c 17:=Ze;clear h1 h2 h3 h4 Cl;exact Rb
    ·have HR:=Za (Cl.o.1 Ze);subst h0;have d1: ¬100 < c 0:=Ze;have d2: ¬200 < c 14:=Ze;have d3:200 < c 15:=Ze;clear h1 h2 h3 Cl;exact Rb
   ·have HR:=Za (Cl.o.1 Ze);subst h0;have d1: ¬100 < c 0:=Ze;have d2:200 < c 14:=Ze;clear h1 h2 Cl;exact Rb
  ·have HR:=Za (Cl.o.1 Ze);subst h0;have d1:100 < c 0:=Ze;clear h1 Cl;exact Rb
 ·have HR:=Za (Cl.o.1 Ze);clear Cl;exact Rb
end
section
open Go Go.RowKit Go.Deep
def o5 (N:Nat)(w0:Fb)(Z:Nat->Zc->(Nat->Prop)->Prop)(al:Option Addr)(l:List Oq) :Prop:=
 VM Oq.row 4 w0.w w0.T al l\/ ∃r,11<=r/\r < N/\Z r=KA Oq.row 4 al l
section
variable {N M:Nat} {w0:Fb} {w w' w1:Zc} {c cf:Nat->Int} {a:Pl} {q:Ql} {X Z Z':Nat->Zc->(Nat->Prop)->Prop} {s s':Sg} {L L':List QW} {k:Nat} {al:Option Addr} {l:List Oq}
theorem Eg.kept0 (h:Eg N w0 w c a q Z s L) :Zx w0.T w0.w w:=by
 obtain ⟨X,_,_,_,Φ,_,_,hk⟩:=h;exact hk
theorem o5.at (hs:o5 N w0 Z al l)(he:Eg M w0 w c a q Z' s L)(hM:N<=M)(hZ: ∀k,11<=k->k < N->Z' k=Z k){k:Nat}{o:Oq}(hk:l[k]?=some o) : ∃g off,al=some ⟨g,off,none⟩/\w.rangeAt g (off+k*4) o.row:=by
 rcases hs with h | ⟨r,UT,hr,hx⟩
 ·obtain ⟨g,off,e,_,_,h2⟩:=(h.kept he.kept0).at hk;exact ⟨g,off,e,h2⟩
 ·obtain ⟨X,hX,_,hh,_,_,hz,_⟩:=he.open;obtain ⟨S,hp,_⟩:=hh.part (show r < M by omega);rw [JQ Ze,hz r UT Ze,hZ r UT hr,hx] at hp;obtain ⟨g,off,e,_,_,h2⟩:=hp.1.at hk;exact ⟨g,off,e,h2⟩
end
end
end Go.Proofs.YtobgbcdgffgdhaaGreat
