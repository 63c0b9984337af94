/- Part 32 of 34: Tik Ops App New pJ Snap Lw. -/
import Derived.Test.YtobgbcdgffgdhaaGreatZx00
import Derived.Test.YtobgbcdgffgdhaaGreatZx31
namespace Go.Proofs.YtobgbcdgffgdhaaGreat
set_option linter.unusedVariables false
set_option linter.unusedSimpArgs false
set_option maxRecDepth 100000
set_option maxHeartbeats 8000000
open _root_.And renaming intro -> Zm
open _root_.Array renaming all_eq_true_iff_forall_mem -> ZQ
open _root_.Go.Proofs.YtobgbcdgffgdhaaGreat.As renaming row -> Qv
open _root_.Go.RowKit renaming Below -> Zp
open _root_.Go.RowKit.Below renaming refl -> Zn
open _root_.Go.Proofs.YtobgbcdgffgdhaaGreat.Zu renaming new -> Zs, setRow -> Jv
open _root_.Go renaming Calls -> Zv, Operand -> YW, Program -> YV, TypeId -> ZL, Value -> Zl, World -> Zc, bodyPost_ret -> Ye, execOp -> XU, results_cell_row -> YF, setRow_heap -> YH, wpList -> Y2, wpList_plain -> Ju, wpQuiet -> Yl, wp_store_row -> QF
open _root_.Iff renaming rfl -> VD
open _root_.Go.Instr renaming lookup -> J5
open _root_.Go.Proofs.YtobgbcdgffgdhaaGreat.ZA renaming refl -> ZS, setRow -> Xz
open _root_.List renaming getElem?_eq_some_iff -> Zk, length_append -> ZI, mem_cons -> ZX, mem_toArray -> VJ, not_mem_nil -> Yk
open _root_.Nat renaming le_refl -> Zh, le_trans -> ZZ
open _root_.Go.NoPanic renaming normal -> YM
open _root_.Go.Oper renaming wp -> Jj
open _root_.Go.Proofs.YtobgbcdgffgdhaaGreat.Pm renaming row -> J2
open _root_.Go.Result renaming andThen_ok -> ZY
open _root_.Go.Sem renaming run_bind -> Yq, run_pure -> YX
open _root_.Go.Proofs.Tryz renaming prog -> Zb
open _root_.Go.World renaming setRow_alloc_new -> Zq
open Go.Proofs.Tryz
theorem oW {G:Prop}(h:G:=by unfold N9; rw [Zy Zd,Zy Zd,Zr]) :G:=h
theorem oU {G:Prop}(h:G:=by rw [Zy Zd,Zy Zd,Zy Zd,Zy Zd,Zr]) :G:=h
theorem dF {G:Prop}(h:G:=by have:=F4.o.o; rwa [HB.o] at this) :G:=h
theorem dE {G:Prop}(h:G:=by rw [Zy Zd,Zy Zd,Zr]) :G:=h
theorem dw {G:Prop}(h:G:=by rw [Zy Zd,Zy Zd,Zy Zd,Zy Zd,Zy Zd,Zy Zd,Zy Zd,Zr]) :G:=h
theorem Lr {G:Prop}(h:G:=by simp only [AD,List.mem_cons,true_or,or_true]) :G:=h
theorem OI {G:Prop}(h:G:=by rw [Zy Zd,Zy Zd,Zy Zd,Zy Zd,Zy Zd,Zy Zd,Zr]) :G:=h
theorem mV {G H:Prop} (k:H) (h:Dq H->G:=by
  intro zk;refine tU rfl _ _ rfl (.pointer (some ⟨e,0,none⟩)) rfl ?_;exact zk.o) :G:=h ⟨k⟩
theorem yA {G H:Prop} (k:H) (h:Dq H->G:=by
  intro zk;refine Jb 30 _ b 30 (Zi c) _ rfl rfl rfl (fun w h=>h) underlying30 rfl Qk ?_;exact zk.o) :G:=h ⟨k⟩
theorem mW {G H:Prop} (k:H) (h:Dq H->G:=by
  intro zk;refine ey rfl _ rfl (.pointer (some ⟨e,0,none⟩)) rfl ?_;exact zk.o) :G:=h ⟨k⟩
theorem ZdM {G H:Prop} (k:H) (h:Dq H->G:=by
  intro zk;refine KY _ ⟨b,1,none⟩ (.int .i64 (c 1)) (fun w h=>h.cell 1) ?_;exact zk.o) :G:=h ⟨k⟩
theorem Zgj {G:Prop} (h:G:=by
  split
  ·exact h.mg.mono (by show _<=(s.V.set _ _).length; rw [List.length_set]; omega) fun _ h=>h
  ·exact h.mg) :G:=h
theorem Zi0 {G:Prop} (h:G:=by
  rw [show (((c 1).toNat:Nat) :Int)=c 1 by omega] at this;refine this.mono fun e w' ⟨he,g1⟩=>?_
  subst g1;refine ⟨_,fun i=>i=w.heap.size,he,xE ?_ Zd Zd,fun i hi=>by omega,(Below.refl _ _).alloc (Nat.le_refl _) _⟩;rw [show (((c 1).toNat:Nat) :Int)=c 1 by omega];exact Zu.new _ _ _) :G:=h
theorem ZmN {G:Prop} (h:G:=by
  have:k=0\/k=1\/k=2\/k=3\/k=4\/k=5\/k=6\/k=7\/k=8\/k=9\/k=10:=Zd
  rcases this with rfl | rfl | rfl | rfl | rfl | rfl | rfl | rfl | rfl | rfl | rfl <;> decide) :G:=h
theorem ZeR {G:Prop} (h:G:=by
  unfold SA;exact Zgj) :G:=h
theorem ZfE {G:Prop} (h:G:=by
  split at e <;> split at e <;>(try split at e)<;>(try split at e)<;> omega) :G:=h
theorem Tk {G:Prop} (h:G:=by
  go_wp2_with fail;go_ret;exact ⟨by rw [HR.o]; rfl,H2.o⟩) :G:=h
section
open Go Go.RowKit Go.Deep
def tC (r:Rp)(ia:Option Addr)(ca:Nat)(ip:Option Addr)(cp:Nat) :Rc:=⟨r.kd,r.cd,r.ix,r.bl,r.ep,r.dl,ia,r.la.length,ca,ip,r.lp.length,cp,r.vs⟩
def N9 (Z:Nat->Zc->(Nat->Prop)->Prop)(N:Nat)(r:Rp)(ia:Option Addr)(ca:Nat)(ip:Option Addr)(cp:Nat) :Nat->Zc->(Nat->Prop)->Prop:=
 ZK (ZK Z N (YU 280 3 (.slice ia r.la.length ca) r.la.length (YE Qv r.la))) (N+1) (YU 252 3 (.slice ip r.lp.length cp) r.lp.length (YE J2 r.lp))
def ApP (N:Nat)(w0:FP)(c:Nat->Int)(a:Pl)(q:Ql)(Z:Nat->Zc->(Nat->Prop)->Prop)(x:Rp × Sg)(L:List QZ)(e:Ending)(w:Zc) :Prop:=
 ∃ia ca ip cp,e= .returned (.agg (Z9 (tC x.1 ia ca ip cp)))/\Eg (N+2) w0 w c a q (N9 Z N x.1 ia ca ip cp) x.2 L
section
variable {N:Nat} {w0:FP} {w w' w1:Zc} {c cf:Nat->Int} {a:Pl} {q:Ql} {X Z:Nat->Zc->(Nat->Prop)->Prop} {s s':Sg} {L L':List QZ} {k:Nat}
theorem Eg.ep (h:Eg N w0 w c a q Z s L)(x:Int) :Eg N w0 w c a q Z { s with ep:=x} L:=h
theorem ApP.of {x:Rp × Sg}{e:Ending}(h:OpP N w0 c a q Z x L e w)(h1:x.1.la=[])(h2:x.1.lp=[]) :ApP N w0 c a q Z x L e w:=by
 obtain ⟨he,hg⟩:=h;refine ⟨none,0,none,0,?_,?_⟩
 ·rw [he]; unfold rcP tC; rw [h1,h2]; rfl
 ·unfold N9; rw [h1,h2];exact (hg.nil 280 3).nil 252 3
theorem Eg.growS {ops:Array Oper}{rest:List Oper}{o:Oper}{d:Act}{Q:Exit->Act->Zc->Prop}(h:Eg N w0 w c a q Z s L){r:Nat}(GM:11<=r)(hr:r < N){e:ZL}{size n:Nat}{v:Zl}{xs:List Zl}(hx:Z r=YU e size v n xs)
  (DD:o.guard=none) (sl x:YW) (t:ZL) (ho:o.op= .call { callee:= .builtin .append,args:= #[sl,x],argTypes:= #[t,t]}) (i:TypeInfo) (z:Zl) (bytes:Nat) (ht:Tryz.prog.underlying t=some (.slice e)) (hi:Tryz.prog.info? e=some i) (hz:i.zero=some z)
  (Mz:i.size=size) (Ns:i.bytes=bytes) (wm:z.cells.size=size) (BK:0 < size) (hs:d.eval sl=v) {r2:Nat} (h112:11<=r2) (Pw:r2 < N) {A:Option Addr} {m cp:Nat} {ys:List Zl} (hx2:Z r2=YU e size (.slice A m cp) m ys) (hx':d.eval x= .slice A m cp) (hl:ys.length=m*size) (h1: ∀u ∈ ys,u.oneCell'=true)
  (nN:n+m<=maxLen) (DN:(n+m)*bytes<=140737488355328)
  (K: ∀v' w',Eg N w0 w' c a q (ZK Z r (YU e size v' (n+m) (xs++ys))) s L->Y2 Zb ops Q rest (d.put o.dst v') w') :Y2 Zb ops Q (o::rest) d w:=by
 have ho1:=h.row GM hr hx;have ho2:=h.row h112 Pw hx2;refine YR w DD sl x t ho 0 e i z size bytes ht hi hz Mz Ns wm BK v n xs hs ho1 A m cp ys hx' hl (fun h0=>?_) h1 nN DN (Nat.zero_le _) fun v' w' g1 g2 g4=>?_
 ·rcases ho2.2 with ⟨e1,_⟩ | ⟨g1,cp1,cur,e1,_⟩
  ·injection e1 with _ e2 _; omega
  ·injection e1 with e1 _ _;refine ⟨_,e1,fun j u hj=>?_⟩;subst e1;exact ho2.cells rfl j u hj
 ·refine K v' w' (h.own GM hr hx Jl fun S hS=>⟨_,BP g1,fun j hj=>?_,ZA.of_grown g2 fun j hj=>(hS.2 j).2 hj.symm⟩);exact ZeL
def tkT (c:Nat->Int)(t:Sg) :Sg:= { t with V:=M4 c t,P:=t.P+UY (KV (c 5) t.V (t.pt.take (LO c t))),pt:=t.pt.drop (LO c t)}
theorem ZlR (hc:GE c)(Zha:c 0<=100)(hi:Inv c k s) :Wh c (tkT c s):=by
 obtain ⟨g,_,_⟩:=ND hc hi;have hm:0<=c 5:=by have:=hc.m5; omega
 have GN:=Lj (c 5) (s.pt.take (LO c s)) s.V;obtain ⟨_,h2⟩:=Hd (c 5) hm (s.pt.take (LO c s)) s.V (fun r hr=>hi.ptf r (List.mem_of_mem_take hr)) hi.fits;have h3:=PT (fun p hp=>(h2 p hp).1);have e1:Zw (M4 c s)=Zw s.V - UY (KV (c 5) s.V (s.pt.take (LO c s))):=GN;have g1:=hi.sum;have g2:=hi.p0;have g3:=hi.cap;have g4:=hi.len;have g5:=hi.cu;have g6:=hc.a4;have g7:=g.len;refine ⟨g.vok,?_,?_,hi.b0,hi.d1,?_,by omega,?_,?_⟩
 ·show Zw (M4 c s)+(s.P+_)+s.B=s.D; omega
 ·show 0<=s.P+_; omega
 ·show s.D -(s.P+_) - s.B<=c 4; omega
 ·show s.cu<=100; omega
 ·show (M4 c s).length<=100; omega
theorem ZdA (c:Nat->Int)(s:Sg) :(CR c s).length<=LO c s:=Ze3
theorem ZkM (hc:GE c)(hq8:c 8<=18446744073709551615)(Zha:c 0<=100)(hi:Inv c k s)(hk:k+1<=1000000)(hr:XZ s.ep s.V L)(vU:aY s.V s.mg)(h:Eg N w0 w c a q Z s L)(o:Oq)(ho:o.kd=7) :
  Zv Zb 90 #[.pointer (some ⟨q.e,0,none⟩),.agg (Z6 o)] w (ApP N w0 c a q Z (tkO c s) (nxL c s L)):=by
 have hN:=h.low;have hO:=EA h o;have bk0:=hi.bk0;have bk1:=hi.bk1;obtain ⟨t,ht⟩:=ZR (SR c s);obtain ⟨Lt,hLt⟩:=ZR (nxL c s L);obtain ⟨A,hA⟩:=ZR (nxO c s);obtain ⟨B,hB⟩ : ∃B,((s.bk+1)%c 13==0)=B:=⟨_,rfl⟩;have HAd:Zj (∀wx M Z,Eg M w0 wx c a q Z s L->Zv Zb 136 #[.pointer (some ⟨q.e,20,none⟩)] wx fun e w'=>e= .returned (.bool B)/\Eg M w0 w' c a q Z { s with bk:=s.bk+1} L):=Za fun wx M Z hx=>by
  have:=uK hx bk0 Zd hc.g.len0;rw [hB] at this;exact this
 have HBd:Zj (B=true-> ∀wx M Z,Eg M w0 wx c a q Z { s with bk:=s.bk+1} L->Zv Zb 137 #[.pointer (some ⟨q.e,0,none⟩)] wx fun e w'=> ∃v,e= .returned v/\Eg (M+1) w0 w' c a q (ZK Z M (YU 280 3 v A.length (YE Qv A))) t Lt):=Za fun hb wx M Z hx=>by
  rw [hb] at hB;have hm:(s.bk+1)%c 13=0:=by simpa using hB
  have:=qu hc hq8 hi Zd hr hm vU (hx.ep (s.ep+1));rw [<-ht,<-hLt,<-hA];unfold SR nxL nxO;rw [if_pos hm,if_pos hm,if_pos hm];exact this
 have HNb:Zj (B=false->t= { s with bk:=s.bk+1}/\Lt=L/\A=[]):=Za fun hb=>by
  rw [hb] at hB;have hm: ¬(s.bk+1)%c 13=0:=by simpa using hB
  rw [<-ht,<-hLt,<-hA];unfold SR nxL nxO;rw [if_neg hm,if_neg hm,if_neg hm];exact ⟨rfl,rfl,rfl⟩
 have hit:Inv c (k+1) t:=by rw [<-ht]; exact Az hc hi Zd
 have hF:Zj (tkO c s=(⟨7,0,-1,t.bk,t.ep,-1,A,aF c t,(LO c t:Nat)+(sQ c t:Nat)⟩,dj c t)):=Za (by unfold tkO; rw [ht,hA]);have HPt:Zj (∀wx M Z,Eg M w0 wx c a q Z t Lt->Zv Zb 138 #[.pointer (some ⟨q.e,0,none⟩)] wx fun e w'=> ∃v,e= .returned (.tuple #[v,.int .i64 ((LO c t:Nat) :Int)])/\Eg (M+1) w0 w' c a q (ZK Z M (YU 252 3 v (CR c t).length (YE J2 (CR c t)))) (tkT c t) Lt):=Za fun wx M Z hx=>Zg1 hc hit hx
 have HPw:Zj (∀wx M Z,Eg M w0 wx c a q Z (tkT c t) Lt->Zv Zb 139 #[.pointer (some ⟨q.e,0,none⟩),.int .i64 (c 14 -(LO c t:Nat)),.int .i64 (c 15 -((CR c t).length:Nat))] wx fun e w'=> ∃v,e= .returned (.tuple #[v,.int .i64 ((sQ c t:Nat) :Int)])/\Eg (M+1) w0 w' c a q (ZK Z M (YU 252 3 v (Qq t.ep (M4 c t) (dZ c t)).length (YE J2 (Qq t.ep (M4 c t) (dZ c t))))) (dj c t) Lt):=Za fun wx M Z hx=>by
  obtain ⟨_,hn,hrp⟩:=ND hc hit;have htm:=hit.tm hc hk;have:=ZbM (s:=tkT c t) hx ⟨htm.b0,htm.b1,htm.l,htm.q⟩ (ZlR hc Zha hit) (vs:=c 14 -(LO c t:Nat)) (p:=c 15 -((CR c t).length:Nat)) rfl (F:=dZ c t) rfl hn hrp;refine this.mono fun e w' ⟨v,he,h1⟩=>⟨v,he,?_⟩
  rw [WV];have e2:dj c t= { tkT c t with V:=Jd t.ep (M4 c t) (dZ c t),P:=t.P+UY (KV (c 5) t.V (t.pt.take (LO c t)))+Vn (Qq t.ep (M4 c t) (dZ c t)),cu:=ER (M4 c t).length t.cu (sQ c t)}:=by
   unfold dj tkT aF;rw [M0];unfold CR;rw [oI,<-Int.add_assoc]
  rw [e2];exact h1
 obtain ⟨n,hn⟩:=ZR (LO c t);obtain ⟨m,hm⟩:=ZR (sQ c t);obtain ⟨P,hP⟩:=ZR (CR c t);obtain ⟨W,hW⟩:=ZR (Qq t.ep (M4 c t) (dZ c t));have hFF:aF c t=P++W:=by unfold aF; rw [hP,hW]
 have Zlz:=sR hc t;have hPl:=ZdA c t;rw [hFF] at hF;rw [hn,hm] at hF;rw [hn] at HPt HPw;rw [hP] at HPt HPw;rw [hm,hW] at HPw;rw [hn,hm,hFF,ZI] at Zlz;rw [hP,hn] at hPl;have hg:=hc.g;have g1:=hg.part;have g2:=hg.vis0;have g3:=hg.pay0;have g4:=hg.vis1;have g5:=hg.pay1;have hn4:n<=4096:=Zd;have ZkU:P.length<=4096:=Zd;have hn16:(n:Int)<=c 16:=by rw [<-hn]; unfold LO UX; omega
 have Px:0<=c 14 -(n:Int)/\c 14 -(n:Int)<=4096:=Zd;have OQ:0<=c 15 -(P.length:Int)/\c 15 -(P.length:Int)<=4096:=Zd;have LF:(n:Int)+(m:Nat)<=4096:=Zd;have hWl:W.length<=4096:=Zd;have htm:=hit.tm hc hk;have HN:=Za hN;have HLt:=Za hLt;have HX:=Za (Zm ho (Zm htm (Zm Px (Zm OQ (Zm LF (Zm hWl (Zm ZkU hn4)))))));have x14: ∀w M Z,Eg M w0 w c a q Z t Lt->True:=fun _ _ _ _=>trivial
 clear hc hq8 Zha hi hk hr vU h ho hN bk0 bk1 hLt hA hit hn hm hP hW hFF Zlz hPl hg g1 g2 g3 g4 g5 hn16 Px OQ LF hWl htm x14 ht hB hn4 ZkU;go_enter func90,ntmps90;go_upto_region 1 with (fail);generalize hW:(w.alloc (.cells (Z6 o) 49)).alloc (.cells _ 53)=V0;have eW:(w.alloc (.cells (Z6 o) 49)).alloc (.cells (Z9 Bi) 53)=V0:=hW;rw [eW] at hO;generalize w.heap.size=b at*;have HO:=Za hO;clear hW eW hO;go_wp2_with fail;refine (HAd.o _ _ _ HO.o).mono ?_;rintro e w2 ⟨rfl,h2⟩;have E2:=Za h2;clear h2 HO HAd;go_upto_if 14 with (fail);go_cut [5] from 15 to 16 (fun s5 wx=> ∃(ia:Option Addr) (ca:Nat),s5= .slice ia A.length ca/\Zj (Eg (N+2+1) w0 wx c a q (ZK (ZK (ZK Z N (Xm b 49 (Z6 o))) (N+1) (Xm (b+1) 53 (Z9 Bi))) (N+2) (YU 280 3 (.slice ia A.length ca) A.length (YE Qv A))) t Lt))
 case first=>
  cases B
  ·obtain ⟨e1,e2,e3⟩:=HNb.o rfl;have E3:Zj (Eg (N+2+1) w0 w2 c a q (ZK (ZK (ZK Z N (Xm b 49 (Z6 o))) (N+1) (Xm (b+1) 53 (Z9 Bi))) (N+2) (YU 280 3 (.slice none A.length 0) A.length (YE Qv A))) t Lt):=Za (by
    rw [e1,e2,e3];exact E2.o.nil 280 3)
   have e4:Zj (A.length=0):=Za (by rw [e3]; rfl);clear HBd HNb E2 hF HPt HPw HX e1 e2 e3;go_wp2_with fail;go_meet;exact ⟨none,0,by rw [e4.o],E3⟩
  ·have HB:=Za (HBd.o rfl _ _ _ E2.o);clear HBd HNb E2 hF HPt HPw HX;go_wp2_with fail;refine HB.o.mono ?_;rintro e w3 ⟨v,rfl,h3⟩;obtain ⟨ia,ca,rfl⟩:=XK (h3.row (r:=N+2) Yd Zd Zr);have E3:=Za h3;clear h3 HB;go_wp2_with fail;go_meet;exact ⟨ia,ca,rfl,E3⟩
 case rest=>
  obtain ⟨ia,ca,rfl,E3⟩:=hcut;clear HBd HNb E2;generalize wc=w3 at*;go_wp2_with fail;refine (HPt.o _ _ _ E3.o).mono ?_;rintro e w4 ⟨v,rfl,h4⟩;obtain ⟨ip,cp,rfl⟩:=XK (h4.row (r:=N+2+1) Yd Zd Zr);have E4:=Za h4;clear h4 HPt E3;go_wp2_with fail;refine Ti (fun w'=>Zu w' q.e 102 (UN c a q)) 6 [0,1,2,3,4,5,6,7,8,9,10,11,12,13,14,15] (?_) ?_
  ·exact E4.o.drew.blk
  refine JH ?_;show Yl _ _ _ _ [_,_,_,_,_,_,_,_,_,_,_,_,_,_,_,_] _;refine Sk ?_;refine KY _ ⟨q.e,14,none⟩ (.int .i64 (c 14)) (fun w h=>h.cell 14) ?_;refine X7 ?_;refine U4 ?_;refine U4 ?_;refine Dw ?_;refine KY _ ⟨q.e,15,none⟩ (.int .i64 (c 15)) (fun w h=>h.cell 15) ?_;refine X7 ?_;refine Ec ?_;refine Yo ?_;have E5:=Za E4.o.drew;clear E4;generalize w4.drew=w5 at*;rw [IntWalk.wrap64_in (c 14 -(n:Int)) (by have:=HX.o.2.2.1; omega),IntWalk.wrap64_in (c 15 -(P.length:Int)) (by have:=HX.o.2.2.2.1; omega)];refine JC (i:=16) ?_;refine JA #[.pointer (some ⟨q.e,0,none⟩),.int .i64 (c 14 -(n:Int)),.int .i64 (c 15 -(P.length:Int))] call139 ((HPw.o _ _ _ E5.o).mono ?_);rintro e w6 ⟨v,rfl,h6⟩;obtain ⟨iw,cw,rfl⟩:=XK (h6.row (r:=N+2+1+1) Yd Zd Zr);have E6:=Za h6;have hB6:=h6.blk;refine ⟨_,rfl,hB6,?_⟩;clear h6 HPw E5;refine Jk ?_;refine NL (fun w'=>Zu w' q.e 102 (UN c a q)) (m:=5) (f:=0) [17,18,19,20,21] (?_) ?_
  ·exact hB6
  refine JH ?_;refine OJ ?_;refine Sk ?_;refine Yo ?_;clear hB6;refine ⟨by kernel_rfl,YM ?_⟩;refine Jk ?_;have Ix:=Za (E6.o.blkAt (r:=N) HN.o Zd oU);go_wp2_with (first | (refine Kl 49 b Ix.o underlying49 DO ?_));refine (nB E6.o (s:=dj c t) ⟨HX.o.2.1.b0,HX.o.2.1.b1,HX.o.2.1.l,HX.o.2.1.q⟩ o (-1) (-1)).mono ?_;rintro e w7 ⟨he,h7⟩;rw [show Wm o.kd (-1) (-1) (dj c t).bk (dj c t).ep=Wm 7 (-1) (-1) t.bk t.ep by rw [HX.o.1]; rfl] at he;subst he;have E7:=Za (h7.box (Z9 (Wm 7 (-1) (-1) t.bk t.ep)) 53);clear h7 Ix E6;go_upto_region 7 with (first | (refine Up w7.heap.size (Z9 (Wm 7 (-1) (-1) t.bk t.ep)) 53 (heap_alloc_new w7 _) Vs (Ka _) ?_; rw [Zq]));generalize w7.heap.size=z at*;generalize w7.alloc (.cells (Z9 (Wm 7 (-1) (-1) t.bk t.ep)) 53)=W7 at*;have hB:=E7.o.blkAt (r:=N+2+1+1+1) Yd Zd Zr;have hc6:=Xx hB 6;have hf6:W7.frozen? ⟨z,6,none⟩=false:=hB.frozen 6;have h8:=E7.o.setc (r:=N+2+1+1+1) Yd Zd Zr 6 (.slice ia A.length ca);rw [XB,show (Z9 (Wm 7 (-1) (-1) t.bk t.ep)).setIfInBounds 6 (.slice ia A.length ca)=Z9 ⟨7,0,-1,t.bk,t.ep,-1,ia,A.length,ca,none,0,0,0⟩ from rfl] at h8;have E8:=Za h8;clear hB h8 E7;go_upto_region 8 with (fail);generalize W7.setCell ⟨z,6,none⟩ (.slice ia A.length ca)=W8 at*;clear hc6 hf6;obtain ⟨j0,OP,GO,Ty,vy⟩:=np;have hl1:(YE J2 W).length=W.length*3:=Ef Pm.row_len W;have vH: ∀u ∈ YE J2 W,u.oneCell'=true:=fun u hu=>by
   obtain ⟨x,_,hx⟩:=List.mem_flatMap.1 hu;exact Pm.row_one x u hx
  have HL:=Za (Zm hl1 vH);clear hl1 vH;go_upto_region 9 with (at_builtin; go_loud (refine Eg.growS E8.o (r:=N+2+1) (e:=252) (size:=3) (v:= .slice ip P.length cp) (n:=P.length) (xs:=YE J2 P) (A:=iw) (m:=W.length) (cp:=cw) (ys:=YE J2 W) Yd Zd dE rfl _ _ 51 rfl j0 _ 24 underlying51 OP GO Ty vy (Ht _) Y5 rfl (r2:=N+2+1+1) Yd Zd Uv rfl HL.o.1 HL.o.2 ?c2 ?c3 ?_))
  case c2=>unfold maxLen; have:=HX.o.2.2.2.2.2.1; exact py
  case c3=>have:=HX.o.2.2.2.2.2.1; exact py
  obtain ⟨F,hF9⟩:=ZR (P++W);rw [hF9] at hF;intro v9 w9 h9;have hPW:P.length+W.length=F.length:=by rw [<-hF9,ZI]
  rw [<-Ku,hF9,hPW] at h9;obtain ⟨i9,c9,rfl⟩:=XK (h9.row (r:=N+2+1) Yd Zd Zr);have hB:=h9.blkAt (r:=N+2+1+1+1) Yd Zd Uv;have hc7:=Xx hB 7;have hf7:w9.frozen? ⟨z,7,none⟩=false:=hB.frozen 7;have SG:=h9.setc (r:=N+2+1+1+1) Yd Zd Uv 7 (.slice i9 F.length c9);rw [show (Z9 ⟨7,0,-1,t.bk,t.ep,-1,ia,A.length,ca,none,0,0,0⟩).setIfInBounds 7 (.slice i9 F.length c9)=Z9 ⟨7,0,-1,t.bk,t.ep,-1,ia,A.length,ca,i9,F.length,c9,0⟩ from rfl] at SG;have E10:=Za SG;clear hB h9 E8 SG hPW hF9 HL;go_upto_region 9 with (fail);generalize w9.setCell ⟨z,7,none⟩ (.slice i9 F.length c9)=W10 at*;clear hc7 hf7;have hB:=E10.o.blkAt (r:=N+2+1+1+1) Yd Zd Zr;have hc8:W10.cell? ⟨z,8,none⟩=some (.int .i64 0):=hB.cell 8;have hf8:W10.frozen? ⟨z,8,none⟩=false:=hB.frozen 8;have GM:=E10.o.setc (r:=N+2+1+1+1) Yd Zd Zr 8 (.int .i64 ((n:Int)+(m:Int)));rw [XB,show (Z9 ⟨7,0,-1,t.bk,t.ep,-1,ia,A.length,ca,i9,F.length,c9,0⟩).setIfInBounds 8 (.int .i64 ((n:Int)+(m:Int)))=Z9 ⟨7,0,-1,t.bk,t.ep,-1,ia,A.length,ca,i9,F.length,c9,(n:Int)+(m:Int)⟩ from rfl] at GM;have E11:=Za GM;clear hB GM E10;have nW:(n:Int)+(m:Int)<=4096:=HX.o.2.2.2.2.1;go_upto_region 10 with (fail);generalize W10.setCell ⟨z,8,none⟩ (.int .i64 ((n:Int)+(m:Int)))=W11 at*;clear hc8 hf8 nW;obtain ⟨R,hR⟩ : ∃R:Rc,(⟨7,0,-1,t.bk,t.ep,-1,ia,A.length,ca,i9,F.length,c9,(n:Int)+(m:Int)⟩ :Rc)=R:=⟨_,rfl⟩;have HR:=Za hR;rw [hR] at E11;clear hR;have HBz:=Za (E11.o.blkAt (r:=N+2+1+1+1) Yd Zd Zr);have CN:=Za (E11.o.blkAt (r:=N+1) Yd Zd OI);go_wp2_with (first | (refine Kl 53 z HBz.o underlying53 Vs ?_) | (refine Up (b+1) (Z9 R) 53 CN.o Vs (Ka _) ?_));refine Ye (v:= .agg (Z9 R)) (YF (fn:=Tryz.f90) rfl _ _ (b+1) 53 _ (0,0) _ rfl (YH _ _ _ _ _ _ CN.o) underlying53 rfl Vs) rfl ?_;rw [hF.o,HLt.o];refine ⟨ia,ca,i9,c9,by rw [<-HR.o]; rfl,?_⟩;have L9:=E11.o.setr (r:=N+1) Yd Zd OI (cs':=Z9 R) (Jv CN.o _) (Xz (S:=fun i=>i=b+1) (ZS _ _) (.inl rfl) _);have hN:=HN.o;refine L9.remap Zd (fun k=>if k=N then N+2 else if k=N+1 then N+2+1 else k) (fun k hk=>?_) (fun k hk=>?_) (fun k hk=>?_) (fun i j hi hj e=>?_) fun k h1 h2=>?_
  ·exact jk
  ·exact aR
  ·exact aR
  ·exact ZfE
  ·unfold N9
   by_cases TU:k=N+1
   ·subst TU;rw [Zr,if_neg Zd,if_pos rfl,Zy Zd,Zy Zd,Zr]
   ·rw [Zy TU]
    by_cases fY:k=N
    ·subst fY;rw [Zr,if_pos rfl,Zy Zd,Zy Zd,Zy Zd,Zy Zd,Zy Zd,Zy Zd,Zr]
    ·rw [Zy fY,if_neg fY,if_neg TU];rw [Zy Zd,Zy Zd,Zy Zd,Zy Zd,Zy Zd,Zy Zd,Zy Zd,Zy Zd,Zy Zd]
end
end
section
open Go Go.RowKit Go.Deep Go.Maps
section
variable {P:YV} {ops:Array Oper} {rest:List Oper} {o:Oper} {a:Act} {w:Zc} {Q:Exit->Act->Zc->Prop}
theorem Cx (DD:o.guard=none)(t:ZL)(ho:o.op= .makeMap t none)(h:Y2 P ops Q rest (a.put o.dst (.map (some w.heap.size))) (w.alloc (.map #[] 0))) :Y2 P ops Q (o::rest) a w:=
 Ju DD fun _ hK=>Cz t ho (hK _ _ h)
theorem ey (DD:o.guard=none)(x:YW)(ho:o.op= .move x)(v:Zl)(hv:a.eval x=v)(h:Y2 P ops Q rest (a.put o.dst v) w) :Y2 P ops Q (o::rest) a w:=
 Ju DD fun _ hK=>by
  unfold Jj XU;simp only [ho,hv,YX];exact hK _ _ h
theorem jI (DD:o.guard=none)(x:YW)(ho:o.op= .assign x)(v:Zl)(hv:a.eval x=v)(h:Y2 P ops Q rest (a.put o.dst v) w) :Y2 P ops Q (o::rest) a w:=
 Ju DD fun _ hK=>by
  unfold Jj XU;simp only [ho,hv,YX];exact hK _ _ h
theorem tU (DD:o.guard=none)(f:FuncId)(x:YW)(ho:o.op= .makeFunc (.func f) #[x] #[])(v:Zl)(hv:a.eval x=v)(h:Y2 P ops Q rest (a.put o.dst (.func (.func f) #[v] #[])) w) :Y2 P ops Q (o::rest) a w:=
 Ju DD fun _ hK=>by
  unfold Jj XU;simp [ho,hv,Instr.makeFunc];exact hK _ _ h
end
def Za3 (M:List (Zl × Zl))(k:Int) :Prop:= ∀p ∈ M,∃i:Int,p.1= .int .i64 i/\(Lit.int .i64 i).wf=true/\i≠k
section
variable {w0 w w':Zc} {b:Nat} {M:List (Zl × Zl)} {ops:Array Oper} {rest:List Oper} {o:Oper} {c:Act} {Q:Exit->Act->Zc->Prop}
theorem Er (hT:Kx w b M)(hB:Zp w0.heap.size w0 w)(h0:w0.heap.size<=b)(DD:o.guard=none)(hd:o.dst=none)(m x v:YW)(k:Int)(u:Zl)(ho:o.op= .insert 105 m x v)(hm:c.eval m= .map (some b))(hx:c.eval x= .int .i64 k)(hv:c.eval v=u)(hk:(Lit.int .i64 k).wf=true)(hM:Za3 M k)
  (K: ∀w',Kx w' b ((.int .i64 k,u)::M)->Zp w0.heap.size w0 w'->Y2 Zb ops Q rest c w') :Y2 Zb ops Q (o::rest) c w:=
 Ju DD fun _ hK=>by
  refine aL hT (int_keyed underlying3) m x v ho hd _ _ hm hx hv underlying105 (fun p hp=>?_) (keyOf_int_mk underlying3 hk) (fun p hp e=>?_) (fun w' hT' hg=>hK _ _ (K w' hT' ?_))
  ·obtain ⟨i,e1,e2,_⟩:=hM p hp;exact ⟨_,by rw [e1]; exact keyOf_int_mk underlying3 e2⟩
  ·obtain ⟨i,e1,_,e2⟩:=hM p hp;rw [e1] at e;injection e with _ e;exact e2 e
  ·exact hB.grown hg hB.size (fun i hi=>by injection hi with hi; omega)
end
def AD (e:Nat) :List (Zl × Zl):= [(.int .i64 7,.func (.func 90) #[.pointer (some ⟨e,0,none⟩)] #[]),(.int .i64 6,.func (.func 89) #[.pointer (some ⟨e,0,none⟩)] #[]),(.int .i64 5,.func (.func 88) #[.pointer (some ⟨e,0,none⟩)] #[]),(.int .i64 4,.func (.func 87) #[.pointer (some ⟨e,0,none⟩)] #[]),(.int .i64 3,.func (.func 86) #[.pointer (some ⟨e,0,none⟩)] #[]),(.int .i64 2,.func (.func 85) #[.pointer (some ⟨e,0,none⟩)] #[]),(.int .i64 1,.func (.func 84) #[.pointer (some ⟨e,0,none⟩)] #[])]
theorem ZoS (w:Zc)(e:Nat) :Zv Zb 38 #[.pointer (some ⟨e,0,none⟩)] w fun r w'=> ∃b,r= .returned (.map (some b))/\Kx w' b (AD e)/\w.heap.size<=b/\Zp w.heap.size w w':=by
 have T0:=Cn w;have B0:Zp w.heap.size w (w.alloc (.map #[] 0)):=(Zn _ _).alloc (Zh _) _;have RF:w.heap.size<=w.heap.size:=Zh _;go_enter func38,ntmps38;go_upto_region 1 with (fail);refine Go.wp_region_list ?_;refine Cx rfl 105 rfl ?_;generalize hb:w.heap.size=b at T0 RF ⊢;rw [<-hb] at RF;generalize w.alloc (.map #[] 0)=w1 at*;refine X7 ?_;refine mW ?_;refine X7 ?_;refine mV ?_;refine X7 ?_;refine Er T0 B0 Zd rfl rfl _ _ _ 1 (.func (.func 84) #[(.pointer (some ⟨e,0,none⟩))] #[]) rfl rfl rfl rfl Y5 (fun p hp=>by cases hp) ?_;intro w2 T1 B1;clear T0 B0;refine mW ?_;refine X7 ?_;refine mV ?_;refine X7 ?_;refine Er T1 B1 Zd rfl rfl _ _ _ 2 (.func (.func 85) #[(.pointer (some ⟨e,0,none⟩))] #[]) rfl rfl rfl rfl Y5 (fun p hp=>by simp only [ZX,Yk,or_false] at hp; rcases hp with rfl <;> exact ⟨_,rfl,by decide,by decide⟩) ?_;intro w3 T2 B2;clear T1 B1;refine mW ?_;refine X7 ?_;refine mV ?_;refine X7 ?_;refine Er T2 B2 Zd rfl rfl _ _ _ 3 (.func (.func 86) #[(.pointer (some ⟨e,0,none⟩))] #[]) rfl rfl rfl rfl Y5 (fun p hp=>by simp only [ZX,Yk,or_false] at hp; rcases hp with rfl | rfl <;> exact ⟨_,rfl,by decide,by decide⟩) ?_;intro w4 T3 B3;clear T2 B2;refine mW ?_;refine X7 ?_;refine mV ?_;refine X7 ?_;refine Er T3 B3 Zd rfl rfl _ _ _ 4 (.func (.func 87) #[(.pointer (some ⟨e,0,none⟩))] #[]) rfl rfl rfl rfl Y5 (fun p hp=>by simp only [ZX,Yk,or_false] at hp; rcases hp with rfl | rfl | rfl <;> exact ⟨_,rfl,by decide,by decide⟩) ?_;intro w5 T4 B4;clear T3 B3;refine mW ?_;refine X7 ?_;refine mV ?_;refine X7 ?_;refine Er T4 B4 Zd rfl rfl _ _ _ 5 (.func (.func 88) #[(.pointer (some ⟨e,0,none⟩))] #[]) rfl rfl rfl rfl Y5 (fun p hp=>by simp only [ZX,Yk,or_false] at hp; rcases hp with rfl | rfl | rfl | rfl <;> exact ⟨_,rfl,by decide,by decide⟩) ?_;intro w6 T5 B5;clear T4 B4;refine mW ?_;refine X7 ?_;refine mV ?_;refine X7 ?_;refine Er T5 B5 Zd rfl rfl _ _ _ 6 (.func (.func 89) #[(.pointer (some ⟨e,0,none⟩))] #[]) rfl rfl rfl rfl Y5 (fun p hp=>by simp only [ZX,Yk,or_false] at hp; rcases hp with rfl | rfl | rfl | rfl | rfl <;> exact ⟨_,rfl,by decide,by decide⟩) ?_;intro w7 T6 B6;clear T5 B5;refine mW ?_;refine X7 ?_;refine mV ?_;refine X7 ?_;refine Er T6 B6 Zd rfl rfl _ _ _ 7 (.func (.func 90) #[(.pointer (some ⟨e,0,none⟩))] #[]) rfl rfl rfl rfl Y5 (fun p hp=>by simp only [ZX,Yk,or_false] at hp; rcases hp with rfl | rfl | rfl | rfl | rfl | rfl <;> exact ⟨_,rfl,by decide,by decide⟩) ?_;intro w8 T7 B7;clear T6 B6;refine ey rfl _ rfl (.map (some b)) rfl ?_;refine X7 ?_;refine jI rfl _ rfl (.map (some b)) rfl ?_;refine X7 ?_;refine wpList_nil ?_;have H7:=Za (Zm T7 (Zm RF B7));clear T7 B7;go_wp2_with fail;go_ret;exact ⟨b,rfl,H7.o.1,by rw [<-hb]; exact H7.o.2.1,H7.o.2.2⟩
end
section
open Go Go.RowKit Go.Deep Go.Maps
theorem P5 {o:Oper}{a:Act}{w:Zc}{K:Act->Zc->Prop}{Q:Exit->Act->Zc->Prop}{t:ZL}{m x:YW}{ok:Bool}(ho:o.op= .lookup t m x ok)(mv xv v:Zl)(hm:a.eval m=mv)(hx:a.eval x=xv)(hr:(J5 t mv xv ok).run Zb w= .ok v w)
  (h:K (a.put o.dst v) w) :o.wp Zb a w K Q:=by
 unfold Jj XU;simp only [ho,hm,hx,Yq,hr,ZY,YX];exact h
structure Re (c:Nat->Int)(k:Nat)(s:Sg)(L:List QZ) :Prop where
 ge:GE c
 q8:c 8<=18446744073709551615
 hund:c 0<=100
 inv:Inv c k s
 ring:XZ s.ep s.V L
 mg:aY s.V s.mg
theorem aY.mono {V W:List ZN}{mg mg':List (Int × Int)}(h:aY V mg)(hl:V.length<=W.length)(hm: ∀p ∈ mg',p ∈ mg) :aY W mg':=fun p hp=>by
 obtain ⟨i,j,e,h1,h2⟩:=h p (hm p hp);exact ⟨i,j,e,by omega,by omega⟩
section
variable {N:Nat} {w0:FP} {w w' w1:Zc} {c cf:Nat->Int} {a:Pl} {q:Ql} {X Z:Nat->Zc->(Nat->Prop)->Prop} {s s':Sg} {L L':List QZ} {k:Nat}
theorem ZlK (h:Re c k s L)(hk:k<=1000000)(o:Oq) :aY (Hl c s o).2.V (Hl c s o).2.mg:=by
 unfold Hl
 by_cases h1:o.kd=1
 ·rw [if_pos h1]; unfold LY; split
  ·exact h.mg.mono (by show _<=(s.V++_).length; rw [ZI]; omega) fun _ h=>h
  ·exact h.mg
 rw [if_neg h1]
 by_cases h2:o.kd=2
 ·rw [if_pos h2]; exact ZeR
 rw [if_neg h2]
 by_cases h3:o.kd=3
 ·rw [if_pos h3]; exact ZeR
 rw [if_neg h3]
 by_cases h4:o.kd=4
 ·rw [if_pos h4]; unfold av; exact Zgj
 rw [if_neg h4]
 by_cases h5:o.kd=5
 ·rw [if_pos h5]; unfold jR; split
  ·rename_i h0
   intro p hp
   rcases List.mem_append.1 hp with hp | hp
   ·exact h.mg p hp
   ·rw [List.mem_singleton] at hp;subst hp;have h0':ES s.V (o.ix,o.tg) (c 6)=0:=by
     unfold cnC at h0
     split at h0
     ·omega
     ·rename_i h; exact Classical.not_not.1 h
    obtain ⟨i,j,sv,dv,e,_,hi,hj,_⟩:=l4 h0';exact ⟨i,j,e,(Zk.1 hi).1,(Zk.1 hj).1⟩
  ·exact h.mg
 rw [if_neg h5]
 by_cases h6:o.kd=6
 ·rw [if_pos h6]; unfold lC; split
  ·exact h.mg
  ·exact h.mg
 rw [if_neg h6]
 split
 ·have hi:=Az h.ge h.inv hk;obtain ⟨g,hn,hr⟩:=ND h.ge hi;obtain ⟨f1,_⟩:=Nq (dZ c (SR c s)) (M4 c (SR c s)) g.vok hn hr;have e1:(dj c (SR c s)).V.length=(SR c s).V.length:=(f1.len).trans g.len;have e2:aY (SR c s).V (SR c s).mg:=by
   unfold SR
   split
   ·have b:=uf h.ge h.inv hk;refine h.mg.mono ?_ fun p hp=>List.mem_of_mem_drop hp
    show s.V.length<=(Kb (c 6) (p5 c (XP s)) (s.mg.take (B9 c s.mg))).length;rw [RY,b.l3];exact Zh _
   ·exact h.mg
  exact e2.mono (by rw [show (tkO c s).2.V=(dj c (SR c s)).V from rfl,e1]; exact Zh _) fun _ h=>h
 ·exact h.mg
theorem Re.op (h:Re c k s L)(hk:k<=1000000)(o:Oq)(ho:UG o) :Re c (k+1) (Hl c s o).2 (Bw c s L o):=
 ⟨h.ge,h.q8,h.hund,Zig h.ge h.inv hk o ho,Zdg h.ge h.inv hk h.ring o,ZlK h hk o⟩
def Hit (c:Nat->Int)(q:Ql)(s:Sg)(L:List QZ)(o:Oq)(F:FuncId) :Prop:=
 (∀args w,(callFunc F args).run Zb w= .ok (.enter F args) w)/\ ∀N w0 w a Z,Eg N w0 w c a q Z s L->Zv Zb F #[.pointer (some ⟨q.e,0,none⟩),.agg (Z6 o)] w (ApP N w0 c a q Z (Hl c s o) (Bw c s L o))
theorem Nk {w:Zc}{F:FuncId}{vs:Array Zl}{x y:Rp × Sg}{L L':List QZ}(h:Zv Zb F vs w (OpP N w0 c a q Z x L))(hx:x=y)(hL:L=L')(h1:x.1.la=[])(h2:x.1.lp=[]) :Zv Zb F vs w (ApP N w0 c a q Z y L'):=by
 subst hx; subst hL;exact h.mono fun e w' h=>ApP.of h h1 h2
theorem Zpj (h:Re c k s L)(hk:k+1<=1000000)(o:Oq)(ho:UG o) :(o.kd=1->Hit c q s L o 84)/\(o.kd=2->Hit c q s L o 85)/\(o.kd=3->Hit c q s L o 86)/\(o.kd=4->Hit c q s L o 87)/\(o.kd=5->Hit c q s L o 88)/\(o.kd=6->Hit c q s L o 89)/\(o.kd=7->Hit c q s L o 90):=by
 have hr:o.kd≠7->o.kd≠4->Bw c s L o=L:=fun h7 h4=>by unfold Bw; rw [if_neg h7,if_neg (fun h=>h4 h.1)]
 have fX:k<=1000000:=Zd;have hL:L.length<=100000:=by
  rw [h.ring.len];have:=dn s.V;have:=h.inv.len;have:=h.hund;omega
 refine ⟨fun e=>?_,fun e=>?_,fun e=>?_,fun e=>?_,fun e=>?_,fun e=>?_,fun e=>?_⟩
 ·refine ⟨call84,fun N w0 w a Z hx=>Nk (uL h.ge h.inv fX hx o ho) (by unfold Hl; rw [if_pos e]) (hr Zd Zd).symm ?_ ?_⟩
  ·unfold LY; split <;> rfl
  ·unfold LY; split <;> rfl
 ·refine ⟨call85,fun N w0 w a Z hx=>Nk (ZkF h.ge h.inv fX hx o ho) (by unfold Hl; rw [if_neg Zd,if_pos e]) (hr Zd Zd).symm ?_ ?_⟩
  ·unfold SA; split <;> rfl
  ·unfold SA; split <;> rfl
 ·refine ⟨call86,fun N w0 w a Z hx=>Nk (ZgY h.ge h.inv fX hx o ho) (by unfold Hl; rw [if_neg Zd,if_neg Zd,if_pos e]) (hr Zd Zd).symm ?_ ?_⟩
  ·unfold SA; split <;> rfl
  ·unfold SA; split <;> rfl
 ·have e2:iL c s o L=Bw c s L o:=by
   unfold Bw iL
   by_cases h0:da c s o.ix=0
   ·rw [if_pos h0,if_neg Zd,if_pos ⟨e,h0⟩]
   ·rw [if_neg h0,if_neg Zd,if_neg (fun h=>h0 h.2)]
  refine ⟨call87,fun N w0 w a Z hx=>Nk (Zg3 h.ge h.inv fX hx o ho hL) (by unfold Hl; rw [if_neg Zd,if_neg Zd,if_neg Zd,if_pos e]) e2 ?_ ?_⟩
  ·unfold av; split <;> rfl
  ·unfold av; split <;> rfl
 ·refine ⟨call88,fun N w0 w a Z hx=>Nk (bG h.ge h.inv fX hx o ho) (by unfold Hl; rw [if_neg Zd,if_neg Zd,if_neg Zd,if_neg Zd,if_pos e]) (hr Zd Zd).symm ?_ ?_⟩
  ·unfold jR; split <;> rfl
  ·unfold jR; split <;> rfl
 ·refine ⟨call89,fun N w0 w a Z hx=>Nk (qI h.ge h.inv fX hx o ho) (by unfold Hl; rw [if_neg Zd,if_neg Zd,if_neg Zd,if_neg Zd,if_neg Zd,if_pos e]) (hr Zd Zd).symm ?_ ?_⟩
  ·unfold lC; split <;> rfl
  ·unfold lC; split <;> rfl
 ·refine ⟨call90,fun N w0 w a Z hx=>?_⟩;have:=ZkM h.ge h.q8 h.hund h.inv hk h.ring h.mg hx o e;rw [show Hl c s o=tkO c s by unfold Hl; rw [if_neg Zd,if_neg Zd,if_neg Zd,if_neg Zd,if_neg Zd,if_neg Zd,if_pos e],show Bw c s L o=nxL c s L by unfold Bw; rw [if_pos e]];exact this
theorem yi (e:Nat) : ∀p ∈ AD e,∃l,keyOf Zb 3 p.1=some l:=by
 intro p hp;simp only [AD,ZX,Yk,or_false] at hp
 rcases hp with rfl | rfl | rfl | rfl | rfl | rfl | rfl <;> exact ⟨_,keyOf_int_mk underlying3 Y5⟩
theorem Zjb (w:Zc) :(zeroValue 54).run Zb w= .ok .nilFunc w:=ZC
theorem yh {w:Zc}{b:Nat}(hT:Kx w b (AD q.e))(h:Re c k s L)(hk:k+1<=1000000)(o:Oq)(ho:UG o) :
  (∃F,(J5 105 (.map (some b)) (.int .i64 o.kd) true).run Zb w= .ok (.tuple #[.func (.func F) #[.pointer (some ⟨q.e,0,none⟩)] #[],.bool true]) w/\Hit c q s L o F)\/
  ((J5 105 (.map (some b)) (.int .i64 o.kd) true).run Zb w= .ok (.tuple #[.nilFunc,.bool false]) w/\Hl c s o=(BN s o.kd 11,s)/\Bw c s L o=L):=by
 obtain ⟨h1,h2,h3,h4,h5,h6,h7⟩:=Zpj (q:=q) h hk o ho;have hwf:(Lit.int .i64 o.kd).wf=true:=ho.1
 rcases hT.lookup (int_keyed underlying3) underlying105 (Zjb w) (yi q.e) (keyOf_int_mk underlying3 hwf) with ⟨v,hv,hr⟩ | ⟨Kj,hr⟩
 ·refine .inl ?_;simp only [AD,ZX,Yk,or_false,Prod.mk.injEq,Value.int.injEq,true_and] at hv
  rcases hv with ⟨e,rfl⟩ | ⟨e,rfl⟩ | ⟨e,rfl⟩ | ⟨e,rfl⟩ | ⟨e,rfl⟩ | ⟨e,rfl⟩ | ⟨e,rfl⟩
  ·exact ⟨_,hr,h7 e⟩
  ·exact ⟨_,hr,h6 e⟩
  ·exact ⟨_,hr,h5 e⟩
  ·exact ⟨_,hr,h4 e⟩
  ·exact ⟨_,hr,h3 e⟩
  ·exact ⟨_,hr,h2 e⟩
  ·exact ⟨_,hr,h1 e⟩
 ·refine .inr ⟨hr,?_⟩;have hn: ∀i:Int,1<=i->i<=7->o.kd≠i:=fun i h1 h2 e=>by
   have Hk:i=1\/i=2\/i=3\/i=4\/i=5\/i=6\/i=7:=Zd;rw [e] at Kj
   rcases Hk with rfl | rfl | rfl | rfl | rfl | rfl | rfl
   ·exact Kj (.int .i64 1,.func (.func 84) #[.pointer (some ⟨q.e,0,none⟩)] #[]) Lr rfl
   ·exact Kj (.int .i64 2,.func (.func 85) #[.pointer (some ⟨q.e,0,none⟩)] #[]) Lr rfl
   ·exact Kj (.int .i64 3,.func (.func 86) #[.pointer (some ⟨q.e,0,none⟩)] #[]) Lr rfl
   ·exact Kj (.int .i64 4,.func (.func 87) #[.pointer (some ⟨q.e,0,none⟩)] #[]) Lr rfl
   ·exact Kj (.int .i64 5,.func (.func 88) #[.pointer (some ⟨q.e,0,none⟩)] #[]) Lr rfl
   ·exact Kj (.int .i64 6,.func (.func 89) #[.pointer (some ⟨q.e,0,none⟩)] #[]) Lr rfl
   ·exact Kj (.int .i64 7,.func (.func 90) #[.pointer (some ⟨q.e,0,none⟩)] #[]) Lr rfl
  constructor
  ·unfold Hl;rw [if_neg (hn 1 Zd Zd),if_neg (hn 2 Zd Zd),if_neg (hn 3 Zd Zd),if_neg (hn 4 Zd Zd),if_neg (hn 5 Zd Zd),if_neg (hn 6 Zd Zd),if_neg (hn 7 Zd Zd)]
  ·unfold Bw;rw [if_neg (hn 7 Zd Zd),if_neg (fun h=>hn 4 Zd Zd h.1)]
theorem Zbe {Q1 Q2:Zc->(Nat->Prop)->Prop}{r:Rp}{ia ip:Option Addr}{ca cp:Nat}(hN:11<=N)(h:Eg (N+2+2) w0 w c a q (N9 (ZK (ZK Z N Q1) (N+1) Q2) (N+2) r ia ca ip cp) s L) :Eg (N+2) w0 w c a q (N9 Z N r ia ca ip cp) s L:=by
 refine h.remap Zd (fun k=>if k=N then N+2 else if k=N+1 then N+2+1 else k) (fun k hk=>?_) (fun k hk=>?_) (fun k hk=>?_) (fun i j hi hj e=>?_) fun k h1 h2=>?_
 ·exact jk
 ·exact aR
 ·exact aR
 ·exact ZfE
 ·unfold N9
  by_cases TU:k=N+1
  ·subst TU;rw [Zr,if_neg Zd,if_pos rfl,Zr]
  ·rw [Zy TU]
   by_cases fY:k=N
   ·subst fY;rw [Zr,if_pos rfl,Zy Zd,Zr]
   ·rw [Zy fY,if_neg fY,if_neg TU];rw [Zy Zd,Zy Zd,Zy Zd,Zy Zd]
theorem ZgW (h:Re c k s L)(hk:k+1<=1000000)(he:Eg N w0 w c a q Z s L)(o:Oq)(ho:UG o) :
  Zv Zb 19 #[.pointer (some ⟨q.e,0,none⟩),.agg (Z6 o)] w (ApP N w0 c a q Z (Hl c s o) (Bw c s L o)):=by
 have hN:=he.low;have hO:=EA he o;have HT:=Za (h.inv.tm h.ge (show k<=1000000 by omega));have HN:=Za hN;have HF:=Za (fun w b (hT:Kx w b (AD q.e))=>yh hT h hk o ho);clear h hk he ho hN;go_enter func19,ntmps19;go_upto_region 1 with (fail);generalize hW:(w.alloc (.cells (Z6 o) 49)).alloc (.cells _ 53)=V0;have eW:(w.alloc (.cells (Z6 o) 49)).alloc (.cells (Z9 Bi) 53)=V0:=hW;rw [eW] at hO;generalize w.heap.size=b at*;have HO:=Za hO;clear hW eW hO;go_upto_region 3 with (fail);refine Ti (fun w'=>Of N w0 w' c a q Z s L b o) 7 [0,2,3] (?_) ?_
 ·exact Eg.drew HO.o
 refine JH ?_;refine Nh ?_;refine BZ ?_;refine KY _ ⟨b,0,none⟩ (.int .i64 o.kd) (fun w h=>Of.k0 h HN.o) ?_;refine X7 ?_;refine Yo ?_;have hO1:Of N w0 V0.drew c a q Z s L b o:=Eg.drew HO.o;clear HO;generalize V0.drew=V1 at*;refine JC (i:=1) ?_;refine JA #[.pointer (some ⟨q.e,0,none⟩)] call38 ((ZoS _ _).mono ?_);rintro r w2 ⟨bt,rfl,hT,_,hb⟩;have hO2:Of N w0 w2 c a q Z s L b o:=Eg.below hO1 hb;refine ⟨_,rfl,hO2,?_⟩;clear hO1 hb;have Rh:=Za hO2;have aX:=HF.o w2 bt hT;clear HF hT;refine JC (i:=4) ?_;refine Jk ?_
 rcases aX with ⟨F,hr,hF⟩ | ⟨hr,hop,My⟩
 ·refine Yv rfl rfl (P5 rfl _ _ _ rfl rfl hr ⟨hO2,?_⟩);clear hr;refine Jk ?_;refine NL (fun w'=>Of N w0 w' c a q Z s L b o) (m:=5) (f:=0) [5,6,7,8,9] (?_) ?_
  ·exact hO2
  refine JH ?_;refine OJ ?_;refine Sk ?_;refine Yo ?_;clear hO2;refine ⟨by kernel_rfl,YM ?_⟩;refine Jk ?_;have Um:=hF.1;have HA:=Za (hF.2 _ _ _ _ _ Rh.o);have Ix:=Za (Of.op Rh.o HN.o);clear hF Rh;go_wp2_with (first | (refine Kl 49 b Ix.o underlying49 DO ?_));refine HA.o.mono ?_;rintro e w9 ⟨ia,ca,ip,cp,rfl,h9⟩;have H9:=Za h9;have CN:=Za (h9.blkAt (r:=N+1) (g:=b+1) (t:=53) (cs:=Z9 Bi) Yd Zd oW);clear h9 Ix HA Um;obtain ⟨R,hR⟩:=ZR (tC (Hl c s o).1 ia ca ip cp);have HR:=Za hR;rw [hR];clear hR;go_wp2_with (first | (refine Up (b+1) (Z9 R) 53 CN.o Vs (Ka _) ?_));refine Ye (v:= .agg (Z9 R)) (YF (fn:=Tryz.f19) rfl _ _ (b+1) 53 _ (0,0) _ rfl (YH _ _ _ _ _ _ CN.o) underlying53 rfl Vs) rfl ?_;refine ⟨ia,ca,ip,cp,by rw [HR.o],?_⟩;refine Zbe (Q1:=Xm b 49 (Z6 o)) (Q2:=Xm (b+1) 53 (Z9 R)) HN.o ?_;have L9:=H9.o.setr (r:=N+1) (g:=b+1) (t:=53) (cs:=Z9 Bi) Yd Zd oW (cs':=Z9 R) (Jv CN.o _) (Xz (S:=fun i=>i=b+1) (ZS _ _) (.inl rfl) _);refine L9.ext fun k h1 h2=>?_
  unfold N9
  by_cases hk:k=N+1
  ·subst hk; rw [Zr,Zy Zd,Zy Zd,Zr]
  ·rw [Zy hk]
   by_cases h3:k=N+2+1
   ·subst h3; rw [Zr,Zr]
   ·rw [Zy h3,Zy h3]
    by_cases h4:k=N+2
    ·subst h4; rw [Zr,Zr]
    ·rw [Zy h4,Zy h4,Zy hk,Zy hk]
 ·refine Yv rfl rfl (P5 rfl _ _ _ rfl rfl hr ⟨hO2,?_⟩);clear hr;refine Jk ?_;refine NL (fun w'=>Of N w0 w' c a q Z s L b o) (m:=5) (f:=0) [5,6,7,8,9] (?_) ?_
  ·exact hO2
  refine JH ?_;refine OJ ?_;refine Sk ?_;refine Yo ?_;clear hO2;refine ⟨by kernel_rfl,YM ?_⟩;refine Jk ?_;have HE:=Za (Zm hop My);have Ix:=Za (Of.op Rh.o HN.o);clear hop My;go_wp2_with (first | (refine Kl 49 b Ix.o underlying49 DO ?_));refine (nD (N:=N+2) Rh.o HT.o o 11).mono ?_;rintro e w9 ⟨rfl,h9⟩;have H9:=Za h9;have CN:=Za (Of.rc h9 HN.o);clear h9 Ix Rh;go_wp2_with (first | (refine ZiQ (b+1) CN.o ?_));refine Ye (v:= .agg (Z9 (r9 o.kd 11 s.bk s.ep))) (YF (fn:=Tryz.f19) rfl _ _ (b+1) 53 _ (0,0) _ rfl (YH _ _ _ _ _ _ CN.o) underlying53 rfl Vs) rfl ?_;rw [HE.o.1,HE.o.2];exact ApP.of (x:=(BN s o.kd 11,s)) ⟨rfl,Of.done H9.o HN.o _⟩ rfl rfl
end
end
section
open Go Go.RowKit Go.Deep
def Gs (n B:Nat)(P:Nat->Zc->(Nat->Prop)->Prop)(w:Zc) :Prop:=
 (∀j,Xh (P j))/\ ∃Φ,OL n P Φ w/\ ∀k,k < n-> ∀i,Φ k i->B<=i
def noP:Nat->Zc->(Nat->Prop)->Prop:=fun _ _ _=>False
section
variable {n m B C:Nat} {P Q:Nat->Zc->(Nat->Prop)->Prop} {w w':Zc}
theorem Gs.zero:Gs 0 B noP w:=⟨fun j=>⟨fun w S h=>h.elim,fun w w' S T h=>h.elim⟩,fun _ _=>False,OL.zero,fun k hk=>by omega⟩
theorem lM {R:Zc->(Nat->Prop)->Prop}(hP: ∀j,Xh (P j))(hR:Xh R) : ∀j,Xh (ZK P n R j):=fun j=>by
 unfold ZK; split
 ·exact hR
 ·exact hP j
theorem Gs.more {R:Zc->(Nat->Prop)->Prop}{S':Nat->Prop}(h:Gs n B P w)(hR:Xh R)(hr:R w' S')(hS: ∀i,S' i->w.heap.size<=i)(hb:Zp w.heap.size w w')(hB:B<=w.heap.size) :Gs (n+1) B (ZK P n R) w':=by
 obtain ⟨hP,Φ,F,h1⟩:=h;have hP':=lM (n:=n) hP hR;refine ⟨hP',_,F.more (P':=ZK P n R) (fun j _=>hP j) (hP' n) (fun j hj=>if_neg Zd) (by rw [show ZK P n R n=R from if_pos rfl]; exact hr) hS hb,fun k hk i hi=>?_⟩
 by_cases L4:k=n
 ·subst L4;rw [Xe] at hi;exact ZZ hB (hS i hi)
 ·rw [YS L4] at hi;exact h1 k Zd i hi
theorem Gs.kept {T:Nat->Prop}(h:Gs n B P w)(hk:ZA T w w')(hT: ∀i,T i->i < B) :Gs n B P w':=by
 obtain ⟨hP,Φ,F,h1⟩:=h;exact ⟨hP,Φ,F.kept (fun j _=>hP j) hk (fun k hk i hi ht=>by have:=h1 k hk i hi; have:=hT i ht; omega),h1⟩
theorem Gs.below (h:Gs n B P w)(hb:Zp w.heap.size w w') :Gs n B P w':=by
 obtain ⟨hP,Φ,F,h1⟩:=h;exact ⟨hP,Φ,F.below (fun j _=>hP j) hb,h1⟩
theorem Gs.join (h:Gs n B P w)(h':Gs m C Q w')(hb:Zp w.heap.size w w')(hC:w.heap.size<=C)(hB:B<=w.heap.size) :Gs (n+m) B (fun k=>if k < n then P k else Q (k - n)) w':=by
 obtain ⟨hP,Φ,F,h1⟩:=h;obtain ⟨hQ,Ψ,G,h2⟩:=h';have F':=F.below (fun j _=>hP j) hb;refine ⟨fun j=>?_,fun k=>if k < n then Φ k else Ψ (k - n),⟨fun k hk=>?_,fun k hk i hi=>?_,fun j k hj hk FY i hi Gi=>?_⟩,fun k hk i hi=>?_⟩
 ·by_cases hj:j < n
  ·simp only [if_pos hj]; exact hP j
  ·simp only [if_neg hj]; exact hQ _
 ·by_cases L4:k < n
  ·simp only [if_pos L4]; exact F'.part k L4
  ·simp only [if_neg L4]; exact G.part _ Zd
 ·by_cases L4:k < n
  ·simp only [if_pos L4] at hi; exact F'.lt k L4 i hi
  ·simp only [if_neg L4] at hi; exact G.lt _ Zd i hi
 ·by_cases Ei:j < n
  ·simp only [if_pos Ei] at hi
   by_cases L4:k < n
   ·simp only [if_pos L4] at Gi; exact F'.ap j k Ei L4 FY i hi Gi
   ·simp only [if_neg L4] at Gi;have:=F.lt j Ei i hi;have:=h2 _ Zd i Gi;omega
  ·simp only [if_neg Ei] at hi
   by_cases L4:k < n
   ·simp only [if_pos L4] at Gi;have:=F.lt k L4 i Gi;have:=h2 _ Zd i hi;omega
   ·simp only [if_neg L4] at Gi;exact G.ap _ _ Zd Zd Zd i hi Gi
 ·by_cases L4:k < n
  ·simp only [if_pos L4] at hi; exact h1 k L4 i hi
  ·simp only [if_neg L4] at hi;have:=h2 _ Zd i hi;omega
end
section
variable {w w':Zc} {c:Nat->Int}
def ZjZ (b:Nat)(n L:Int) :Zc->(Nat->Prop)->Prop:=fun w S=>ET w b n L/\ ∀i,S i ↔ i=b
def ZgM (b:Nat)(C:Int) :Zc->(Nat->Prop)->Prop:=fun w S=>KR w b 0 0 0 C/\ ∀i,S i ↔ i=b
def Zgy (b:Nat) :Zc->(Nat->Prop)->Prop:=fun w S=>th w b 0/\ ∀i,S i ↔ i=b
def Za5 (b:Nat) :Zc->(Nat->Prop)->Prop:=fun w S=>(∃Sp T D,VK w b 0 Sp T D/\Jr 0 Sp T D)/\ ∀i,S i ↔ i=b
def Za7 (b cap:Nat) :Zc->(Nat->Prop)->Prop:=fun w S=>OY w b S cap []
def ZaK (b n:Nat) :Zc->(Nat->Prop)->Prop:=fun w S=>NJ w b S n []
def Za4 (b n:Nat) :Zc->(Nat->Prop)->Prop:=fun w S=>Ln w b S n [] []
theorem sI {b:Nat} :Xh (Za5 b):=by
 refine ⟨fun w S h i hi=>?_,fun w w' S T h hk hT=>?_⟩
 ·obtain ⟨⟨Sp,T,D,h1,_⟩,h2⟩:=h;rw [(h2 i).1 hi]; exact h1.lt
 ·obtain ⟨⟨Sp,T',D,h1,hf⟩,h2⟩:=h;exact ⟨⟨Sp,T',D,h1.kept hk (hT _ ((h2 _).2 rfl)),hf⟩,h2⟩
theorem sJ {b n:Nat} :Xh (Za7 b n):=⟨fun w S h i hi=>h.lt i hi,fun w w' S T h hk hT=>h.kept hk hT⟩
theorem sG {b n:Nat} :Xh (ZaK b n):=⟨fun w S h i hi=>h.lt i hi,fun w w' S T h hk hT=>h.kept hk hT⟩
theorem sH {b n:Nat} :Xh (Za4 b n):=⟨fun w S h i hi=>h.lt i hi,fun w w' S T h hk hT=>h.kept hk hT⟩
structure nc (w0:Zc)(t:Nat)(cs:Array Zl)(c:Nat->Int)(n:Nat)(P:Nat->Zc->(Nat->Prop)->Prop)(w:Zc) :Prop where
 cfg:Zu w w0.heap.size 30 (Zi c)
 o:Zu w (w0.heap.size+1) t cs
 gs:Gs n (w0.heap.size+2) P w
 below:Zp w0.heap.size w0 w
 size:w0.heap.size+2<=w.heap.size
section
variable {w0:Zc} {t n:Nat} {cs:Array Zl} {P:Nat->Zc->(Nat->Prop)->Prop}
theorem nc.start (w:Zc)(t:Nat)(cs:Array Zl)(c:Nat->Int) :nc w t cs c 0 noP ((w.alloc (.cells (Zi c) 30)).alloc (.cells cs t)):=by
 refine ⟨(Zs w _ _).alloc _,?_,Gs.zero,((Zn _ _).alloc (Zh _) _).alloc ZE _,by simp⟩;have:=Zs (w.alloc (.cells (Zi c) 30)) t cs;rwa [show (w.alloc (.cells (Zi c) 30)).heap.size=w.heap.size+1 by simp] at this
theorem nc.to (h:nc w0 t cs c n P w)(hb:Zp w.heap.size w w') :nc w0 t cs c n P w':=
 ⟨h.cfg.below hb h.cfg.lt,h.o.below hb h.o.lt,h.gs.below hb,h.below.trans (hb.mono h.below.size),ZZ h.size hb.size⟩
theorem nc.more (h:nc w0 t cs c n P w){R:Zc->(Nat->Prop)->Prop}{S':Nat->Prop}(hR:Xh R)(hr:R w' S')(hS: ∀i,S' i->w.heap.size<=i)(hb:Zp w.heap.size w w') :nc w0 t cs c (n+1) (ZK P n R) w':=
 ⟨h.cfg.below hb h.cfg.lt,h.o.below hb h.o.lt,h.gs.more hR hr hS hb h.size,h.below.trans (hb.mono h.below.size),ZZ h.size hb.size⟩
theorem nc.done (h:nc w0 t cs c n P w)(cs':Array Zl) :Gs n (w0.heap.size+2) P (w.setRow (w0.heap.size+1) cs')/\Zp w0.heap.size w0 (w.setRow (w0.heap.size+1) cs'):=by
 have hk:ZA (fun i=>i=w0.heap.size+1) w (w.setRow (w0.heap.size+1) cs'):=Xz (S:=fun i=>i=w0.heap.size+1) (ZS _ _) (.inl rfl) _;exact ⟨h.gs.kept hk fun i hi=>by omega,ZA.below h.below hk (fun i hi=>by omega) h.below.size⟩
end
theorem xr (a:Nat) :(#[Value.pointer (some ⟨a,0,none⟩)]).all (·.oneCell')=true:=ZQ.2 fun u hu=>by
 simp only [VJ,ZX,Yk,or_false] at hu;subst hu; rfl
theorem AJ (a b c:Nat) :(#[Value.pointer (some ⟨a,0,none⟩),.pointer (some ⟨b,0,none⟩),.pointer (some ⟨c,0,none⟩)]).all (·.oneCell')=true:=ZQ.2 fun u hu=>by
 simp only [VJ,ZX,Yk,or_false] at hu
 rcases hu with rfl | rfl | rfl <;> rfl
theorem I8:(Tryz.prog.info? 81).map (·.size)=some 1:=ZC
theorem Ay:(Tryz.prog.info? 87).map (·.size)=some 3:=ZC
theorem I7:(Tryz.prog.info? 93).map (·.size)=some 3:=ZC
theorem PG:(Tryz.prog.info? 99).map (·.size)=some 3:=ZC
theorem rE (w:Zc)(hL:1<=c 13) :Zv Zb 33 #[.agg (Zi c)] w fun e w'=> ∃b,e= .returned (.agg #[.pointer (some ⟨b,0,none⟩)])/\Gs 1 (w.heap.size+2) (ZK noP 0 (ZjZ b 0 (c 13))) w'/\Zp w.heap.size w w':=by
 have HL:=Za hL;clear hL;have F0:=nc.start w 81 #[.pointer none] c;go_enter func33,ntmps33;go_upto_region 1 with (fail);generalize (w.alloc (.cells (Zi c) 30)).alloc (.cells #[.pointer none] 81)=W at*;have HF:=Za F0;obtain ⟨b,hb⟩:=ZR (w.heap.size);have HB:=Za hb;have y:W.cell? ⟨b,13,none⟩=some (.int .i64 (c 13)):=by rw [<-hb]; exact F0.cfg.cell 13
 rw [hb];clear hb F0;go_wp2_with fail;refine (wX (c 13) W HL.o).mono ?_;rintro e w2 ⟨rfl,rfl⟩;have F2:=HF.o.more Dl (R:=ZjZ W.heap.size 0 (c 13)) (S':=fun i=>i=W.heap.size) (w':=W.alloc (.cells #[.int .i64 0,.int .i64 (c 13)] 184)) ⟨Zs _ _ _,fun i=>VD⟩ (fun i hi=>by omega) ((Zn _ _).alloc (Zh _) _);have HF2:=Za F2;clear F2 HF y;generalize W.heap.size=z at*;generalize W.alloc (.cells #[.int .i64 0,.int .i64 (c 13)] 184)=w2 at*;have HO:Zj (Zu w2 (b+1) 81 #[.pointer none]):=Za (by have:=HF2.o.o; rwa [HB.o] at this);go_wp2_with (first | (refine Up (b+1) #[.pointer (some ⟨z,0,none⟩)] 81 HO.o I8 (xr _) ?_));have hd:=HF2.o.done #[.pointer (some ⟨z,0,none⟩)];rw [HB.o] at hd;have HD:=Za hd;clear hd;exact Ye (v:= .agg #[.pointer (some ⟨z,0,none⟩)]) (YF (fn:=Tryz.f33) rfl _ _ (b+1) 81 _ (0,0) _ rfl (YH _ _ _ _ _ _ HO.o) underlying81 rfl I8) rfl ⟨z,rfl,by rw [HB.o]; exact HD.o.1,by rw [HB.o]; exact HD.o.2⟩
theorem Zib (w:Zc)(h1:1<=c 0)(h2:c 0<=4096) :Zv Zb 75 #[.int .i64 (c 0)] w fun e w'=> ∃b S,e= .returned (.pointer (some ⟨b,0,none⟩))/\Za7 b (c 0).toNat w' S/\(∀i,S i->w.heap.size<=i)/\Zp w.heap.size w w':=by
 have:=ll (c 0).toNat w Zd Zd;rwa [show (((c 0).toNat:Nat) :Int)=c 0 by omega] at this
theorem Zh8 (w:Zc)(h1:0<=c 4)(h2:c 4<=18446744073709551615) :Zv Zb 76 #[.int .u64 (c 4)] w fun e w'=> ∃b S,e= .returned (.pointer (some ⟨b,0,none⟩))/\ZgM b (c 4) w' S/\(∀i,S i->w.heap.size<=i)/\Zp w.heap.size w w':=
 (Zif (c 4) w h1 h2).mono fun e w' ⟨he,g1,_,g2,_⟩=>⟨_,fun i=>i=w.heap.size,he,⟨g1,fun i=>VD⟩,fun i hi=>by omega,g2⟩
theorem Zh5 (w:Zc) :Zv Zb 77 #[] w fun e w'=> ∃b S,e= .returned (.pointer (some ⟨b,0,none⟩))/\Zgy b w' S/\(∀i,S i->w.heap.size<=i)/\Zp w.heap.size w w':=
 (lq w).mono fun e w' ⟨b,he,g1,g2,g3⟩=>⟨b,fun i=>i=b,he,⟨g2.o,fun i=>VD⟩,fun i hi=>by omega,g3⟩
theorem Zh9 (w:Zc)(h1:1<=c 1)(h2:c 1<=4096) :Zv Zb 78 #[.int .i64 (c 1)] w fun e w'=> ∃b S,e= .returned (.pointer (some ⟨b,0,none⟩))/\Za4 b (c 1).toNat w' S/\(∀i,S i->w.heap.size<=i)/\Zp w.heap.size w w':=by
 have:=gR (c 1).toNat w Zd Zd;rw [show (((c 1).toNat:Nat) :Int)=c 1 by omega] at this;exact this.mono fun e w' ⟨he,⟨S,g1,g2⟩,g3⟩=>⟨_,S,he,g1,g2,g3⟩
theorem Zia (w:Zc) :Zv Zb 79 #[] w fun e w'=> ∃b S,e= .returned (.pointer (some ⟨b,0,none⟩))/\Za5 b w' S/\(∀i,S i->w.heap.size<=i)/\Zp w.heap.size w w':=
 (lr w).mono fun e w' ⟨he,g1⟩=>by
  subst g1;exact ⟨_,fun i=>i=w.heap.size,he,⟨⟨0,0,0,Zs _ _ _,qR⟩,fun i=>VD⟩,fun i hi=>by omega,(Zn _ _).alloc (Zh _) _⟩
theorem Zh4 (w:Zc)(h1:1<=c 12)(h2:c 12<=4096) :Zv Zb 80 #[.int .i64 (c 12)] w fun e w'=> ∃b S,e= .returned (.pointer (some ⟨b,0,none⟩))/\ZaK b (c 12).toNat w' S/\(∀i,S i->w.heap.size<=i)/\Zp w.heap.size w w':=by
 have:=ln (c 12).toNat w Zd Zd;rwa [show (((c 12).toNat:Nat) :Int)=c 12 by omega] at this
theorem xE {R E k b n:Nat}(h:Zu w b R #[.int .i64 n,.slice none 0 0,.int .i64 0,.int .i64 0])(h1:1<=n)(h2:n<=4096) :DV R E k b n 0 [] w fun i=>i=b:=
 ⟨none,⟨by simp,by simp,.inl ⟨rfl,rfl,h,h1,by omega⟩⟩,fun i=>⟨fun h=> .inl h,fun h=>by rcases h with h | h; exact h; cases h⟩⟩
theorem Zh7 (w:Zc)(h1:1<=c 1)(h2:c 1<=4096) :Zv Zb 81 #[.int .i64 (c 1)] w fun e w'=> ∃b S,e= .returned (.pointer (some ⟨b,0,none⟩))/\DV 148 3 1 b (c 1).toNat 0 [] w' S/\(∀i,S i->w.heap.size<=i)/\Zp w.heap.size w w':=by
 have:=S9 (c 1).toNat w Zd Zd;exact Zi0
theorem Zh6 (w:Zc)(h1:1<=c 1)(h2:c 1<=4096) :Zv Zb 82 #[.int .i64 (c 1)] w fun e w'=> ∃b S,e= .returned (.pointer (some ⟨b,0,none⟩))/\DV 151 116 2 b (c 1).toNat 0 [] w' S/\(∀i,S i->w.heap.size<=i)/\Zp w.heap.size w w':=by
 have:=im (c 1).toNat w Zd Zd;exact Zi0
theorem Zic (w:Zc)(h1:1<=c 1)(h2:c 1<=4096) :Zv Zb 83 #[.int .i64 (c 1)] w fun e w'=> ∃b S,e= .returned (.pointer (some ⟨b,0,none⟩))/\DV 154 119 2 b (c 1).toNat 0 [] w' S/\(∀i,S i->w.heap.size<=i)/\Zp w.heap.size w w':=by
 have:=iC (c 1).toNat w Zd Zd;exact Zi0
theorem lx (w:Zc)(hL:1<=c 0/\c 0<=4096/\0<=c 4/\c 4<=18446744073709551615) :Zv Zb 34 #[.agg (Zi c)] w fun e w'=> ∃r l k,e= .returned (.agg #[.pointer (some ⟨r,0,none⟩),.pointer (some ⟨l,0,none⟩),.pointer (some ⟨k,0,none⟩)])/\Gs 3 (w.heap.size+2) (ZK (ZK (ZK noP 0 (Za7 r (c 0).toNat)) 1 (ZgM l (c 4))) 2 (Zgy k)) w'/\Zp w.heap.size w w':=by
 have HL:=Za hL;clear hL;have F0:=nc.start w 87 #[.pointer none,.pointer none,.pointer none] c;go_enter func34,ntmps34;go_upto_region 1 with (fail);generalize (w.alloc (.cells (Zi c) 30)).alloc (.cells #[.pointer none,.pointer none,.pointer none] 87)=W at*;have HF:=Za F0;obtain ⟨b,hb⟩:=ZR (w.heap.size);have HB:=Za hb;rw [hb];clear F0 hb;have FA:Zu W.drew b 30 (Zi c):=by rw [<-HB.o]; exact HF.o.cfg
 refine Ti (fun w'=>Zu w' b 30 (Zi c)) 5 [0,1,3,4] (?_) ?_
 ·exact FA
 refine JH ?_;refine Hg ?_;refine U4 ?_;refine KY _ ⟨b,0,none⟩ (.int .i64 (c 0)) (fun w h=>h.cell 0) ?_;refine X7 ?_;refine U4 ?_;refine KY _ ⟨b,4,none⟩ (.int .u64 (c 4)) (fun w h=>h.cell 4) ?_;refine X7 ?_;refine Yo ?_;have F1:=Za (HF.o.to ((Zn _ _).drew));clear HF FA;generalize W.drew=W1 at*;refine JC (i:=2) ?_;refine JA #[.int .i64 (c 0)] call75 ((Zib W1 HL.o.1 HL.o.2.1).mono ?_);rintro e w2 ⟨r,S0,rfl,hR0,vt,RF⟩;have F2:=Za (F1.o.more (R:=Za7 r (c 0).toNat) sJ hR0 vt RF);have FA:Zu w2 b 30 (Zi c):=by rw [<-HB.o]; exact F2.o.cfg
 refine ⟨_,rfl,FA,?_⟩;clear F1 hR0 vt RF;refine Ed ?_;refine Jk ?_;refine JA #[.int .u64 (c 4)] call76 ((Zh8 w2 HL.o.2.2.1 HL.o.2.2.2).mono ?_);rintro e w3 ⟨l,S1,rfl,hR1,IU,Hj⟩;have F3:=Za (F2.o.more (R:=ZgM l (c 4)) Dl hR1 IU Hj);have FA:Zu w3 b 30 (Zi c):=by rw [<-HB.o]; exact F3.o.cfg
 refine ⟨_,rfl,FA,?_⟩;clear F2 hR1 IU Hj;refine Lz ?_;refine Jk ?_;refine JA #[] call77 ((Zh5 w3).mono ?_);rintro e w4 ⟨k,S2,rfl,hR2,vu,Dg⟩;have F4:=Za (F3.o.more (R:=Zgy k) Dl hR2 vu Dg);have FA:Zu w4 b 30 (Zi c):=by rw [<-HB.o]; exact F4.o.cfg
 refine ⟨_,rfl,FA,?_⟩;clear F3 hR2 vu Dg;refine Jk ?_;refine NL (fun w'=>Zu w' b 30 (Zi c)) (m:=2) (f:=1) [7] (?_) ?_
 ·exact FA
 refine JH ?_;refine Hh ?_;refine U4 ?_;refine Yo ?_;have HO:Zj (Zu w4 (b+1) 87 _):=Za dF;refine JC (i:=8) ?_;refine Yv rfl rfl (QF _ _ _ rfl (b+1) #[.pointer (some ⟨r,0,none⟩),.pointer (some ⟨l,0,none⟩),.pointer (some ⟨k,0,none⟩)] rfl rfl 87 _ HO.o Ay rfl (AJ _ _ _) ?_);have hd:=F4.o.done #[.pointer (some ⟨r,0,none⟩),.pointer (some ⟨l,0,none⟩),.pointer (some ⟨k,0,none⟩)];rw [HB.o] at hd;refine ⟨FA.kept (Xz (S:=fun i=>i=b+1) (ZS _ _) (.inl rfl) _) Zd,?_⟩;have HD:=Za hd;clear hd FA;refine ⟨by kernel_rfl,YM ?_⟩;refine Jk ?_;go_wp2_with fail;exact Ye (v:= .agg #[.pointer (some ⟨r,0,none⟩),.pointer (some ⟨l,0,none⟩),.pointer (some ⟨k,0,none⟩)]) (YF (fn:=Tryz.f34) rfl _ _ (b+1) 87 _ (0,0) _ rfl (YH _ _ _ _ _ _ HO.o) underlying87 rfl Ay) rfl ⟨r,l,k,rfl,by rw [HB.o]; exact HD.o.1,by rw [HB.o]; exact HD.o.2⟩
theorem rD (w:Zc)(hL:1<=c 1/\c 1<=4096/\1<=c 12/\c 12<=4096) :Zv Zb 35 #[.agg (Zi c)] w fun e w'=> ∃n m u,e= .returned (.agg #[.pointer (some ⟨n,0,none⟩),.pointer (some ⟨m,0,none⟩),.pointer (some ⟨u,0,none⟩)])/\Gs 3 (w.heap.size+2) (ZK (ZK (ZK noP 0 (Za4 n (c 1).toNat)) 1 (Za5 m)) 2 (ZaK u (c 12).toNat)) w'/\Zp w.heap.size w w':=by
 have HL:=Za hL;clear hL;have F0:=nc.start w 93 #[.pointer none,.pointer none,.pointer none] c;go_enter func35,ntmps35;go_upto_region 1 with (fail);generalize (w.alloc (.cells (Zi c) 30)).alloc (.cells #[.pointer none,.pointer none,.pointer none] 93)=W at*;have HF:=Za F0;obtain ⟨b,hb⟩:=ZR (w.heap.size);have HB:=Za hb;rw [hb];clear F0 hb;have FA:Zu W.drew b 30 (Zi c):=by rw [<-HB.o]; exact HF.o.cfg
 refine Ti (fun w'=>Zu w' b 30 (Zi c)) 5 [0,1,4,5] (?_) ?_
 ·exact FA
 refine JH ?_;refine Hg ?_;refine U4 ?_;refine ZdM ?_;refine X7 ?_;refine U4 ?_;refine KY _ ⟨b,12,none⟩ (.int .i64 (c 12)) (fun w h=>h.cell 12) ?_;refine X7 ?_;refine Yo ?_;have F1:=Za (HF.o.to ((Zn _ _).drew));clear HF FA;generalize W.drew=W1 at*;refine JC (i:=2) ?_;refine JA #[.int .i64 (c 1)] call78 ((Zh9 W1 HL.o.1 HL.o.2.1).mono ?_);rintro e w2 ⟨n,S0,rfl,hR0,vt,RF⟩;have F2:=Za (F1.o.more (R:=Za4 n (c 1).toNat) sH hR0 vt RF);have FA:Zu w2 b 30 (Zi c):=by rw [<-HB.o]; exact F2.o.cfg
 refine ⟨_,rfl,FA,?_⟩;clear F1 hR0 vt RF;refine JC (i:=3) ?_;refine Jk ?_;refine JA #[] call79 ((Zia w2).mono ?_);rintro e w3 ⟨m,S1,rfl,hR1,IU,Hj⟩;have F3:=Za (F2.o.more (R:=Za5 m) sI hR1 IU Hj);have FA:Zu w3 b 30 (Zi c):=by rw [<-HB.o]; exact F3.o.cfg
 refine ⟨_,rfl,FA,?_⟩;clear F2 hR1 IU Hj;refine Lz ?_;refine Jk ?_;refine JA #[.int .i64 (c 12)] call80 ((Zh4 w3 HL.o.2.2.1 HL.o.2.2.2).mono ?_);rintro e w4 ⟨u,S2,rfl,hR2,vu,Dg⟩;have F4:=Za (F3.o.more (R:=ZaK u (c 12).toNat) sG hR2 vu Dg);have FA:Zu w4 b 30 (Zi c):=by rw [<-HB.o]; exact F4.o.cfg
 refine ⟨_,rfl,FA,?_⟩;clear F3 hR2 vu Dg;refine Jk ?_;refine NL (fun w'=>Zu w' b 30 (Zi c)) (m:=2) (f:=1) [7] (?_) ?_
 ·exact FA
 refine JH ?_;refine Hh ?_;refine U4 ?_;refine Yo ?_;have HO:Zj (Zu w4 (b+1) 93 _):=Za dF;refine JC (i:=8) ?_;refine Yv rfl rfl (QF _ _ _ rfl (b+1) #[.pointer (some ⟨n,0,none⟩),.pointer (some ⟨m,0,none⟩),.pointer (some ⟨u,0,none⟩)] rfl rfl 93 _ HO.o I7 rfl (AJ _ _ _) ?_);have hd:=F4.o.done #[.pointer (some ⟨n,0,none⟩),.pointer (some ⟨m,0,none⟩),.pointer (some ⟨u,0,none⟩)];rw [HB.o] at hd;refine ⟨FA.kept (Xz (S:=fun i=>i=b+1) (ZS _ _) (.inl rfl) _) Zd,?_⟩;have HD:=Za hd;clear hd FA;refine ⟨by kernel_rfl,YM ?_⟩;refine Jk ?_;go_wp2_with fail;exact Ye (v:= .agg #[.pointer (some ⟨n,0,none⟩),.pointer (some ⟨m,0,none⟩),.pointer (some ⟨u,0,none⟩)]) (YF (fn:=Tryz.f35) rfl _ _ (b+1) 93 _ (0,0) _ rfl (YH _ _ _ _ _ _ HO.o) underlying93 rfl I7) rfl ⟨n,m,u,rfl,by rw [HB.o]; exact HD.o.1,by rw [HB.o]; exact HD.o.2⟩
theorem cx (w:Zc)(hL:1<=c 1/\c 1<=4096) :Zv Zb 36 #[.agg (Zi c)] w fun e w'=> ∃p d q,e= .returned (.agg #[.pointer (some ⟨p,0,none⟩),.pointer (some ⟨d,0,none⟩),.pointer (some ⟨q,0,none⟩)])/\Gs 3 (w.heap.size+2) (ZK (ZK (ZK noP 0 (DV 148 3 1 p (c 1).toNat 0 [])) 1 (DV 151 116 2 d (c 1).toNat 0 [])) 2 (DV 154 119 2 q (c 1).toNat 0 [])) w'/\Zp w.heap.size w w':=by
 have HL:=Za hL;clear hL;have F0:=nc.start w 99 #[.pointer none,.pointer none,.pointer none] c;go_enter func36,ntmps36;go_upto_region 1 with (fail);generalize (w.alloc (.cells (Zi c) 30)).alloc (.cells #[.pointer none,.pointer none,.pointer none] 99)=W at*;have HF:=Za F0;obtain ⟨b,hb⟩:=ZR (w.heap.size);have HB:=Za hb;rw [hb];clear F0 hb;have FA:Zu W.drew b 30 (Zi c):=by rw [<-HB.o]; exact HF.o.cfg
 refine Ti (fun w'=>Zu w' b 30 (Zi c)) 5 [0,1,3,4,6,7] (?_) ?_
 ·exact FA
 refine JH ?_;refine dO ?_;refine U4 ?_;refine ZdM ?_;refine X7 ?_;refine U4 ?_;refine ZdM ?_;refine X7 ?_;refine U4 ?_;refine ZdM ?_;refine X7 ?_;refine Yo ?_;have F1:=Za (HF.o.to ((Zn _ _).drew));clear HF FA;generalize W.drew=W1 at*;refine JC (i:=2) ?_;refine JA #[.int .i64 (c 1)] call81 ((Zh7 W1 HL.o.1 HL.o.2).mono ?_);rintro e w2 ⟨p,S0,rfl,hR0,vt,RF⟩;have F2:=Za (F1.o.more (R:=DV 148 3 1 p (c 1).toNat 0 []) Bl hR0 vt RF);have FA:Zu w2 b 30 (Zi c):=by rw [<-HB.o]; exact F2.o.cfg
 refine ⟨_,rfl,FA,?_⟩;clear F1 hR0 vt RF;refine Ed ?_;refine Jk ?_;refine JA #[.int .i64 (c 1)] call82 ((Zh6 w2 HL.o.1 HL.o.2).mono ?_);rintro e w3 ⟨d,S1,rfl,hR1,IU,Hj⟩;have F3:=Za (F2.o.more (R:=DV 151 116 2 d (c 1).toNat 0 []) Bl hR1 IU Hj);have FA:Zu w3 b 30 (Zi c):=by rw [<-HB.o]; exact F3.o.cfg
 refine ⟨_,rfl,FA,?_⟩;clear F2 hR1 IU Hj;refine JC (i:=8) ?_;refine Jk ?_;refine JA #[.int .i64 (c 1)] call83 ((Zic w3 HL.o.1 HL.o.2).mono ?_);rintro e w4 ⟨q,S2,rfl,hR2,vu,Dg⟩;have F4:=Za (F3.o.more (R:=DV 154 119 2 q (c 1).toNat 0 []) Bl hR2 vu Dg);have FA:Zu w4 b 30 (Zi c):=by rw [<-HB.o]; exact F4.o.cfg
 refine ⟨_,rfl,FA,?_⟩;clear F3 hR2 vu Dg;refine Jk ?_;refine NL (fun w'=>Zu w' b 30 (Zi c)) (m:=2) (f:=1) [9] (?_) ?_
 ·exact FA
 refine JH ?_;refine Hh ?_;refine U4 ?_;refine Yo ?_;have HO:Zj (Zu w4 (b+1) 99 _):=Za dF;refine JC (i:=10) ?_;refine Yv rfl rfl (QF _ _ _ rfl (b+1) #[.pointer (some ⟨p,0,none⟩),.pointer (some ⟨d,0,none⟩),.pointer (some ⟨q,0,none⟩)] rfl rfl 99 _ HO.o PG rfl (AJ _ _ _) ?_);have hd:=F4.o.done #[.pointer (some ⟨p,0,none⟩),.pointer (some ⟨d,0,none⟩),.pointer (some ⟨q,0,none⟩)];rw [HB.o] at hd;refine ⟨FA.kept (Xz (S:=fun i=>i=b+1) (ZS _ _) (.inl rfl) _) Zd,?_⟩;have HD:=Za hd;clear hd FA;refine ⟨by kernel_rfl,YM ?_⟩;refine Jk ?_;go_wp2_with fail;exact Ye (v:= .agg #[.pointer (some ⟨p,0,none⟩),.pointer (some ⟨d,0,none⟩),.pointer (some ⟨q,0,none⟩)]) (YF (fn:=Tryz.f36) rfl _ _ (b+1) 99 _ (0,0) _ rfl (YH _ _ _ _ _ _ HO.o) underlying99 rfl PG) rfl ⟨p,d,q,rfl,by rw [HB.o]; exact HD.o.1,by rw [HB.o]; exact HD.o.2⟩
end
end
section
open Go Go.RowKit Go.Deep
theorem Zdk (P:YV)(t:ZL)(cs:Array Zl)(w:Zc) :(Instr.box t (.agg cs)).run P w= .ok (.pointer (some ⟨w.heap.size,0,none⟩)) (w.alloc (.cells cs t)):=by
 simp [Instr.box,newRow,go_sem,Value.cells]
theorem sY {P:YV}{o:Oper}{a:Act}{w:Zc}{K:Act->Zc->Prop}{Q:Exit->Act->Zc->Prop}{t:ZL}{x:YW}(ho:o.op= .box t x)(cs:Array Zl)(hx:a.eval x= .agg cs)
  (h:K (a.put o.dst (.pointer (some ⟨w.heap.size,0,none⟩))) (w.alloc (.cells cs t))) :o.wp P a w K Q:=by
 unfold Jj XU;simp only [ho,hx,Yq,Zdk,ZY,YX];exact h
theorem ot {P:YV}{ops:Array Oper}{C:Zc->Prop}{Qa:Act->Prop}{op:Oper}{rest:List Oper}{a:Act}(t:ZL)(parts:Array (Nat × YW))(hw:Region.wanted op (yielded ops a.tmps)=true)(ho:op.op= .build t parts)(cs:Array Zl)(hf:P.built t (parts.map fun (i,x)=>(i,a.eval x)).toList=some cs)(h:Yl P ops C Qa rest (a.put op.dst (.agg cs))) :Yl P ops C Qa (op::rest) a:=by
 refine DX (.agg cs) hw (fun w=>?_) h;have e:=run_build (P:=P) w t (parts.map fun (i,x)=>(i,a.eval x)) _ hf;unfold XU;rw [ho];show ((Instr.build t (parts.map fun (i,x)=>(i,a.eval x)))>>=fun r=>pure (Next.value r)).run P w=_;simp only [Yq,e,ZY,YX]
theorem sW (c:Nat->Int)(w:Zc) :Z3 32 #[.agg (Zi c)] w (.bool (TM c==0)):=by
 have B0:Zu (w.alloc (.cells (Zi c) 30)) w.heap.size 30 (Zi c):=Zs _ _ _;have b1:Zp w.heap.size w (w.alloc (.cells (Zi c) 30)):=(Zn _ _).alloc (Zh _) _;have H:=Za (fun W=>qi c W);generalize TM c=k at H ⊢;go_enter func32,ntmps32;go_upto_region 1 with (fail);have HB:=Za B0;have Hb:=Za b1;clear B0 b1;generalize w.alloc (.cells (Zi c) 30)=W at*;go_wp2_with (first | (refine Kl 30 w.heap.size HB.o underlying30 Qk ?_));refine (H.o W).mono ?_;rintro e w2 ⟨rfl,b2⟩;have H2:=Za (Hb.o.trans (b2.mono Hb.o.size));clear Hb b2 HB;go_wp2_with fail;go_ret;exact ⟨rfl,H2.o⟩
section
variable {w:Zc} {c:Nat->Int}
def mkF:Nat->Nat
 | 0=>0 | 1=>2 | 2=>1 | 3=>6 | 4=>3 | 5=>5 | 6=>4 | 7=>7 | 8=>8 | 9=>9 | 10=>10 | k=>k
theorem Zcv {B:Nat}{P:Nat->Zc->(Nat->Prop)->Prop}{w0 w':Zc}{a:Pl}{q:Ql}{Z:Nat->Zc->(Nat->Prop)->Prop}(h:Gs 11 B P w')(hb:Zp w0.heap.size w0 w')(hB:w0.heap.size<=B)
  (hP: ∀k,k < 11->Pt c a (XE c a q [] [] (fun _ _ _=>False)) dY [] k=P (mkF k)) :Eg 11 ⟨fun _=>False,w0⟩ w' c a q Z dY []:=by
 obtain ⟨_,Φ,F,h1⟩:=h;refine ⟨fun _ _ _=>False,fun k hk=>⟨fun w S h=>h.elim,fun w w' S T h=>h.elim⟩,fun k h1 h2=>by omega,Zh _,fun k=>Φ (mkF k),F.remap mkF (fun k hk=>?_) (fun j k hj hk e=>?_) hP,fun k hk i hi=> .inr ?_,ZA.of_below hb⟩
 ·exact ZmN
 ·have h1:j=0\/j=1\/j=2\/j=3\/j=4\/j=5\/j=6\/j=7\/j=8\/j=9\/j=10:=Zd;have h2:k=0\/k=1\/k=2\/k=3\/k=4\/k=5\/k=6\/k=7\/k=8\/k=9\/k=10:=Zd
  rcases h1 with rfl | rfl | rfl | rfl | rfl | rfl | rfl | rfl | rfl | rfl | rfl <;> rcases h2 with rfl | rfl | rfl | rfl | rfl | rfl | rfl | rfl | rfl | rfl | rfl <;> first | rfl | (simp [mkF] at e)
 ·have:mkF k < 11:=ZmN
  exact ZZ hB (h1 _ this i hi)
theorem ZkI (w:Zc)(hg:GE c)(h:TM c=0) :Zv Zb 18 #[.agg (Zi c)] w fun e w'=> ∃a q,e= .returned (.tuple #[.pointer (some ⟨q.e,0,none⟩),.int .i64 0])/\ ∀Z,Eg 11 ⟨fun _=>False,w⟩ w' c a q Z dY []:=by
 have B0:Zu (w.alloc (.cells (Zi c) 30)) w.heap.size 30 (Zi c):=Zs _ _ _;have b1:Zp w.heap.size w (w.alloc (.cells (Zi c) 30)):=(Zn _ _).alloc (Zh _) _;have hk:(TM c==0)=true:=KM;have G:=Za hg;go_enter func18,ntmps18;go_upto_region 1 with (fail);have HB:=Za B0;have Hb:=Za b1;have HK:=Za hk;clear B0 b1 hk h hg;generalize w.alloc (.cells (Zi c) 30)=W at*;obtain ⟨b,hb⟩:=ZR (w.heap.size);have HH:=Za hb;rw [hb] at HB ⊢;clear hb;go_wp2_with (first | (refine Kl 30 b HB.o underlying30 Qk ?_));refine (sW c W).mono ?_;rintro e w2 ⟨rfl,b2⟩;rw [HK.o];have H2:=Za (Zm (HB.o.below b2 HB.o.lt) (Hb.o.trans (b2.mono Hb.o.size)));clear Hb b2 HB HK;go_wp2_with fail;refine Ti (fun w'=>Zu w' b 30 (Zi c)) 8 [0,1,3,5,7] (?_) ?_
 ·exact H2.o.1.drew
 refine JH ?_;refine OJ ?_;refine yA ?_;refine X7 ?_;refine yA ?_;refine X7 ?_;refine yA ?_;refine X7 ?_;refine yA ?_;refine X7 ?_;refine yA ?_;refine X7 ?_;refine Yo ?_;have H3:=Za (show Zu w2.drew b 30 (Zi c)/\Zp w.heap.size w w2.drew from ⟨H2.o.1.drew,H2.o.2.drew⟩);clear H2;generalize w2.drew=W3 at*;have G0:=Za (Gs.zero (B:=W3.heap.size) (w:=W3));have HW3:=Za H3.o.2.size;refine JC (i:=2) ?_;refine JA #[.agg (Zi c)] call33 ((rE W3 G.o.g.len0).mono ?_);rintro e w4 ⟨kc,rfl,g4,b4⟩;have G4:=Za (G0.o.join g4 b4 Zd (Zh _));have H4:=Za (Zm (H3.o.1.below b4 H3.o.1.lt) (Zm (H3.o.2.trans (b4.mono H3.o.2.size)) b4));refine ⟨_,rfl,H4.o.1,?_⟩;clear G0 g4 b4 H3;refine JC (i:=4) ?_;refine Jk ?_;refine JA #[.agg (Zi c)] call34 ((lx w4 ⟨G.o.g.cap0,G.o.g.cap1,by have:=G.o.a2; have:=G.o.a23; have:=G.o.a3; omega,by have:=G.o.a4; omega⟩).mono ?_);rintro e w5 ⟨kr,kl,kk,rfl,g5,b5⟩;have G5:=Za (G4.o.join g5 b5 Zd H4.o.2.2.size);have H5:=Za (Zm (H4.o.1.below b5 H4.o.1.lt) (Zm (H4.o.2.1.trans (b5.mono H4.o.2.1.size)) (ZZ H4.o.2.2.size b5.size)));refine ⟨_,rfl,H5.o.1,?_⟩;clear G4 g5 b5 H4;refine Lz ?_;refine Jk ?_;refine JA #[.agg (Zi c)] call35 ((rD w5 ⟨G.o.q0,G.o.q1,G.o.r0,G.o.r1⟩).mono ?_);rintro e w6 ⟨kn,km,ku,rfl,g6,b6⟩;have G6:=Za (G5.o.join g6 b6 Zd H5.o.2.2);have H6:=Za (Zm (H5.o.1.below b6 H5.o.1.lt) (Zm (H5.o.2.1.trans (b6.mono H5.o.2.1.size)) (ZZ H5.o.2.2 b6.size)));refine ⟨_,rfl,H6.o.1,?_⟩;clear G5 g6 b6 H5;refine JC (i:=8) ?_;refine Jk ?_;refine JA #[.agg (Zi c)] call36 ((cx w6 ⟨G.o.q0,G.o.q1⟩).mono ?_);rintro e w7 ⟨kp,kd,kq,rfl,g7,b7⟩;have G7:=Za (G6.o.join g7 b7 Zd H6.o.2.2);have H7:=Za (Zm (H6.o.1.below b7 H6.o.1.lt) (Zm (H6.o.2.1.trans (b7.mono H6.o.2.1.size)) (ZZ H6.o.2.2 b7.size)));refine ⟨_,rfl,H7.o.1,?_⟩;clear G6 g7 b7 H6;refine Jk ?_;refine NL (fun w'=>Zu w' b 30 (Zi c)) (m:=4) (f:=3) [9] (?_) ?_
 ·exact H7.o.1
 refine JH ?_;refine Hh ?_;obtain ⟨a,ha⟩ : ∃a:Pl,a=⟨kc,kl,kr,ku,kk,km,kn,kp⟩:=⟨_,rfl⟩;refine ot 102 _ ZC rfl (UN c ⟨kc,kl,kr,ku,kk,km,kn,kp⟩ ⟨kd,kq,w7.heap.size⟩) ZC ?_;refine X7 ?_;refine Yo ?_;refine JC (i:=10) ?_;refine Jk ?_;refine Yv rfl rfl (sY rfl (UN c ⟨kc,kl,kr,ku,kk,km,kn,kp⟩ ⟨kd,kq,w7.heap.size⟩) rfl ?_);have hbe:Zp w7.heap.size w7 (w7.alloc (.cells (UN c ⟨kc,kl,kr,ku,kk,km,kn,kp⟩ ⟨kd,kq,w7.heap.size⟩) 102)):=(Zn _ _).alloc (Zh _) _;have G8:=Za (G7.o.more (R:=Xm w7.heap.size 102 (UN c ⟨kc,kl,kr,ku,kk,km,kn,kp⟩ ⟨kd,kq,w7.heap.size⟩)) Vm (S':=fun i=>i=w7.heap.size) ⟨Zs _ _ _,fun i=>VD⟩ (fun i hi=>by omega) hbe H7.o.2.2);have H8:=Za (Zm (H7.o.1.below hbe H7.o.1.lt) (Zm (H7.o.2.1.trans (hbe.mono H7.o.2.1.size)) H7.o.2.2));refine ⟨H8.o.1,?_⟩;clear G7 H7 hbe;generalize w7.alloc (.cells (UN c ⟨kc,kl,kr,ku,kk,km,kn,kp⟩ ⟨kd,kq,w7.heap.size⟩) 102)=w8 at*;generalize w7.heap.size=ke at*;refine Jk ?_;refine NL (fun w'=>Zu w' b 30 (Zi c)) (m:=2) (f:=0) [11,12] (?_) ?_
 ·exact H8.o.1
 refine JH ?_;refine je ?_;refine BZ ?_;refine Yo ?_;refine ⟨by kernel_rfl,YM ?_⟩;refine Jk ?_;go_wp2_with fail;go_ret2;refine ⟨⟨kc,kl,kr,ku,kk,km,kn,kp⟩,⟨kd,kq,ke⟩,rfl,fun Z=>?_⟩;have hB:=H8.o.2.2;refine Zcv G8.o H8.o.2.1 HW3.o fun k hk=>?_
 have h1:k=0\/k=1\/k=2\/k=3\/k=4\/k=5\/k=6\/k=7\/k=8\/k=9\/k=10:=Zd
 rcases h1 with rfl | rfl | rfl | rfl | rfl | rfl | rfl | rfl | rfl | rfl | rfl <;> rfl
end
end
section
open Go Go.RowKit Go.Deep
structure Sv where
 a:Option Addr
 n:Nat
 c:Nat
def Sv.v (x:Sv) :Zl:= .slice x.a x.n x.c
def EY (s:Sg)(ac:Int)(u:Int)(v1 v2 v3 v4 v5 v6:Zl) :Array Zl:= #[.int .i64 s.bk,.int .i64 s.ep,v1,.int .u64 s.D,.int .u64 s.P,.int .u64 s.B,.int .u64 ac,v2,v3,v4,v5,v6,.int .i64 (s.cu:Int),.int .u64 s.cy,.int .i64 u]
def Ma:Array Zl:= #[.int .i64 0,.int .i64 0,.slice none 0 0,.int .u64 0,.int .u64 0,.int .u64 0,.int .u64 0,.slice none 0 0,.slice none 0 0,.slice none 0 0,.slice none 0 0,.slice none 0 0,.int .i64 0,.int .u64 0,.int .i64 0]
def rwV (s:Sg)(v:Zl) :Zc->(Nat->Prop)->Prop:=YU 68 7 v s.V.length (XC s.V)
def rwI (l:List Int)(v:Zl) :Zc->(Nat->Prop)->Prop:=YU 3 1 v l.length (l.map (Value.int .i64))
def rwM (s:Sg)(v:Zl) :Zc->(Nat->Prop)->Prop:=YU 116 2 v s.mg.length (JF s.mg)
def rwT (s:Sg)(v:Zl) :Zc->(Nat->Prop)->Prop:=YU 119 2 v s.pt.length (Jp s.pt)
def snX (Z:Nat->Zc->(Nat->Prop)->Prop)(N:Nat)(s:Sg)(v1 v2 v3 v4 v5 v6:Zl) :Nat->Zc->(Nat->Prop)->Prop:=
 ZK (ZK (ZK (ZK (ZK (ZK Z N (rwV s v1)) (N+1) (rwI s.pd v2)) (N+2) (rwI s.F v3)) (N+3) (rwI s.W v4)) (N+4) (rwM s v5)) (N+5) (rwT s v6)
theorem ZiE (s:Sg)(ac u:Int)(a1 a2 a3 a4 a5 a6:Option Addr)(n1 n2 n3 n4 n5 n6 c1 c2 c3 c4 c5 c6:Nat) :(EY s ac u (.slice a1 n1 c1) (.slice a2 n2 c2) (.slice a3 n3 c3) (.slice a4 n4 c4) (.slice a5 n5 c5) (.slice a6 n6 c6)).all (·.oneCell')=true:=ZQ.2 fun u hu=>by
 simp only [EY,VJ,ZX,Yk,or_false] at hu
 rcases hu with rfl | rfl | rfl | rfl | rfl | rfl | rfl | rfl | rfl | rfl | rfl | rfl | rfl | rfl | rfl <;> rfl
theorem wY:(Tryz.prog.info? 28).map (·.size)=some 15:=ZC
theorem ZcD:(Tryz.prog.info? 109).map (·.size)=some 3:=ZC
section
variable {N:Nat} {w0:FP} {w w' w1:Zc} {c cf:Nat->Int} {a:Pl} {q:Ql} {X Z:Nat->Zc->(Nat->Prop)->Prop} {s s':Sg} {L L':List QZ} {k:Nat}
theorem Eg.pall (h:Eg N w0 w c a q Z s L)(hl:s.pd.length<=4096) :Zv Zb 45 #[.pointer (some ⟨a.p,0,none⟩)] w fun e w'=> ∃v,e= .returned v/\Eg (N+1) w0 w' c a q (ZK Z N (rwI s.pd v)) s L:=by
 have hN:=h.low;obtain ⟨X,hX,Uz,hh,_,hK,_⟩:=h.open;refine (hh.pall hX Uz).mono fun e w' ⟨he,g1,_⟩=>⟨_,he,?_⟩
 have g2:=hK _ _ _ _ g1 Vm rfl rfl;have g3:=g2.torow (r:=N) (t:=3) (k:=1) (n:=s.pd.length) hN Zd Zr ZE Vx;rwa [XB] at g3
theorem Eg.lall (h:Eg N w0 w c a q Z s L)(cl:Int) :Zv Zb 46 #[.pointer (some ⟨a.n,0,none⟩),.int .i64 cl] w fun e w'=> ∃v,e= .returned v/\Eg (N+1) w0 w' c a q (ZK Z N (rwI (UA s.F s.W cl) v)) s L:=by
 obtain ⟨X,hX,Uz,hh,_,hK,_⟩:=h.open;exact (hh.lall hX Uz cl).mono fun e w' ⟨v,he,g1,_⟩=>⟨v,he,hK _ _ _ _ g1 Jl rfl rfl⟩
theorem Eg.mrow (h:Eg N w0 w c a q Z s L)(hl:s.mg.length<=4096) :Zv Zb 47 #[.pointer (some ⟨q.d,0,none⟩)] w fun e w'=> ∃v,e= .returned v/\Eg (N+1) w0 w' c a q (ZK Z N (rwM s v)) s L:=by
 have hN:=h.low;refine (h.mall).mono fun e w' ⟨he,g1,_⟩=>⟨_,he,?_⟩
 have g3:=g1.torow (r:=N) (t:=116) (k:=2) (n:=s.mg.length) hN Zd Zr (Lb _) Vx;rwa [XB] at g3
theorem Eg.trow (h:Eg N w0 w c a q Z s L)(hl:s.pt.length<=4096) :Zv Zb 48 #[.pointer (some ⟨q.q,0,none⟩)] w fun e w'=> ∃v,e= .returned v/\Eg (N+1) w0 w' c a q (ZK Z N (rwT s v)) s L:=by
 have hN:=h.low;refine (h.tall).mono fun e w' ⟨he,g1,_⟩=>⟨_,he,?_⟩
 have g3:=g1.torow (r:=N) (t:=119) (k:=2) (n:=s.pt.length) hN Zd Zr (Lg _) Vx;rwa [XB] at g3
theorem Eg.at_ (h:Eg N w0 w c a q Z s L) :Y6 49 #[.pointer (some ⟨a.k,0,none⟩)] w (.int .i64 s.cu):=by
 obtain ⟨X,hX,Uz,hh,_⟩:=h.open;exact hh.at_ Uz
theorem Eg.carry (h:Eg N w0 w c a q Z s L) :Xc 50 #[.pointer (some ⟨a.m,0,none⟩)] w (.int .u64 s.cy):=by
 obtain ⟨X,hX,Uz,hh,_⟩:=h.open;exact hh.carry Uz
theorem Eg.totals (h:Eg N w0 w c a q Z s L) :Z3 40 #[.pointer (some ⟨a.l,0,none⟩)] w (.agg #[.int .u64 s.D,.int .u64 s.P,.int .u64 s.B]):=by
 obtain ⟨X,hX,Uz,hh,_⟩:=h.open;exact hh.totals Uz
theorem Eg.ulen (h:Eg N w0 w c a q Z s L)(hL:L.length<=100000) :Zv Zb 51 #[.pointer (some ⟨a.u,0,none⟩)] w fun e w'=>e= .returned (.int .i64 L.length)/\Eg N w0 w' c a q Z s L:=by
 obtain ⟨X,hX,Uz,hh,hK,_⟩:=h.open;exact (hh.ulen hX Uz hL).mono fun e w' ⟨he,g1,_⟩=>⟨he,hK _ _ _ g1 rfl rfl⟩
theorem ZdB (x y z:Int) :(#[Value.int .u64 x,.int .u64 y,.int .u64 z]).all (·.oneCell')=true:=ZQ.2 fun u hu=>by
 simp only [VJ,ZX,Yk,or_false] at hu
 rcases hu with rfl | rfl | rfl <;> rfl
theorem ZkL (h:Eg N w0 w c a q Z s L)(t:Tm c s)(hL:L.length<=100000)(tz:s.pd.length<=4096)(vU:s.mg.length<=4096)(Ib:s.pt.length<=4096) :
  Zv Zb 20 #[.pointer (some ⟨q.e,0,none⟩)] w fun e w'=> ∃x1 x2 x3 x4 x5 x6:Sv,e= .returned (.agg (EY s (Yh s.V) L.length x1.v x2.v x3.v x4.v x5.v x6.v))/\
   Eg (N+6) w0 w' c a q (snX Z N s x1.v x2.v x3.v x4.v x5.v x6.v) s L:=by
 have hN:=h.low;have h1:=h.box Ma 28;have HX:=Za (Zm t (Zm hL (Zm tz (Zm vU Ib))));have HN:=Za hN;clear h t hL tz vU Ib hN;go_enter func20,ntmps20;go_upto_region 1 with (fail);generalize hW:w.alloc (.cells _ 28)=V0;have eW:w.alloc (.cells Ma 28)=V0:=hW;rw [eW] at h1;generalize w.heap.size=b at*;have H1:=Za h1;have y22:=Eg.x22 h1;clear hW eW h1;go_wp2_with fail;refine (Eg.totals H1.o).mono ?_;rintro e w2 ⟨rfl,Dg⟩;have h2:=(H1.o.below Dg).box #[.int .u64 s.D,.int .u64 s.P,.int .u64 s.B] 109;have H2:=Za h2;clear H1 Dg y22 h2;go_upto_region 4 with (first | (refine Up w2.heap.size #[.int .u64 s.D,.int .u64 s.P,.int .u64 s.B] 109 (heap_alloc_new w2 _) ZcD (ZdB _ _ _) ?_; rw [Zq]));generalize w2.heap.size=tb at*;generalize w2.alloc (.cells #[.int .u64 s.D,.int .u64 s.P,.int .u64 s.B] 109)=W2 at*;simp only [List.append_eq,List.cons_append,List.nil_append,Act.put];refine Ti (fun w'=>Zu w' q.e 102 (UN c a q)/\Zu w' tb 109 #[.int .u64 s.D,.int .u64 s.P,.int .u64 s.B]) 14 [0,1,2,4,5,6,8,9,10,11,12,14,15,16,17,18,19,20,21,22,23,24,26,27,28,29,30,32,33,34,35,36,38,39,40,41,42,44,45,46,47,48,50,51,52,53,54,56,57,58,59,60,62,63,64,65,66,68,69,70,71,72] (?_) ?_
 ·exact ⟨H2.o.drew.blk,H2.o.drew.blkAt (r:=N+1) Yd Zd Zr⟩
 refine JH ?_;show Yl _ _ _ _ (_::_::_::_::_::_::_::_::_::_::_::_::_::_::_::_::_::_::_::_::_::_::_::_::_::_::_::_::_::_::_::_::_::_::_::_::_::_::_::_::_::_::_::_::_::_::_::_::_::_::_::_::_::_::_::_::_::_::_::_::_::_::[]) _;iterate 10 (go_big_quiet_step ((intros; rfl)))
 refine KY _ ⟨q.e,21,none⟩ (.pointer (some ⟨a.r,0,none⟩)) (fun w h=>h.1.cell 21) ?_;refine X7 ?_;refine U4 ?_;refine KY _ ⟨tb,0,none⟩ (.int .u64 s.D) (fun w h=>h.2.cell 0) ?_;refine X7 ?_;refine U4 ?_;refine KY _ ⟨tb,1,none⟩ (.int .u64 s.P) (fun w h=>h.2.cell 1) ?_;refine X7 ?_;refine U4 ?_;refine KY _ ⟨tb,2,none⟩ (.int .u64 s.B) (fun w h=>h.2.cell 2) ?_;refine X7 ?_;refine Dw ?_;refine KY _ ⟨q.e,21,none⟩ (.pointer (some ⟨a.r,0,none⟩)) (fun w h=>h.1.cell 21) ?_;refine X7 ?_;refine Dw ?_;refine KY _ ⟨q.e,27,none⟩ (.pointer (some ⟨a.p,0,none⟩)) (fun w h=>h.1.cell 27) ?_;refine X7 ?_;refine Dw ?_;refine KY _ ⟨q.e,24,none⟩ (.pointer (some ⟨a.n,0,none⟩)) (fun w h=>h.1.cell 24) ?_;refine X7 ?_;refine Dw ?_;refine KY _ ⟨q.e,24,none⟩ (.pointer (some ⟨a.n,0,none⟩)) (fun w h=>h.1.cell 24) ?_;refine X7 ?_;refine Dw ?_;refine ZiV ?_;refine X7 ?_;refine Dw ?_;refine ZiU ?_;refine X7 ?_;refine Dw ?_;refine KY _ ⟨q.e,23,none⟩ (.pointer (some ⟨a.k,0,none⟩)) (fun w h=>h.1.cell 23) ?_;refine X7 ?_;refine Dw ?_;refine KY _ ⟨q.e,25,none⟩ (.pointer (some ⟨a.m,0,none⟩)) (fun w h=>h.1.cell 25) ?_;refine X7 ?_;refine Dw ?_;refine KY _ ⟨q.e,26,none⟩ (.pointer (some ⟨a.u,0,none⟩)) (fun w h=>h.1.cell 26) ?_;refine X7 ?_;refine Yo ?_;have E0:=Za H2.o.drew;clear H2;generalize W2.drew=U0 at*;refine JC (i:=3) ?_;refine JA #[.pointer (some ⟨q.e,20,none⟩)] call41 ((jX E0.o).mono ?_);rintro e _ ⟨rfl,rfl⟩;refine ⟨_,rfl,⟨E0.o.blk,E0.o.blkAt (r:=N+1) Yd Zd (by exact Zr)⟩,?_⟩;refine P8 ?_;refine Jk ?_;refine JA #[.pointer (some ⟨q.e,20,none⟩)] call42 ((BI E0.o HX.o.1.b0 HX.o.1.b1 HX.o.1.l HX.o.1.q).mono ?_);rintro e _ ⟨rfl,m1,rfl⟩;have E2:=Za (E0.o.drewN m1);clear E0;generalize U0.drewN m1=U2 at*;refine ⟨_,rfl,⟨E2.o.blk,E2.o.blkAt (r:=N+1) Yd Zd (by exact Zr)⟩,?_⟩;refine JC (i:=13) ?_;refine Jk ?_;refine JA #[.pointer (some ⟨a.r,0,none⟩)] call43 ((Eg.all E2.o).mono ?_);rintro e U3 ⟨v1,rfl,h3,_⟩;obtain ⟨a1,c1,rfl⟩:=XK (h3.row (r:=N+2) Yd Zd Zr);have E3:=Za h3;clear h3 E2;refine ⟨_,rfl,⟨E3.o.blk,E3.o.blkAt (r:=N+1) Yd Zd Uv⟩,?_⟩;refine JC (i:=25) ?_;refine Jk ?_;refine JA #[.pointer (some ⟨a.r,0,none⟩)] call44 ((Eg.active E3.o).mono ?_);rintro e _ ⟨rfl,rfl⟩;refine ⟨_,rfl,⟨E3.o.blk,E3.o.blkAt (r:=N+1) Yd Zd Uv⟩,?_⟩;refine JC (i:=31) ?_;refine Jk ?_;refine JA #[.pointer (some ⟨a.p,0,none⟩)] call45 ((Eg.pall E3.o HX.o.2.2.1).mono ?_);rintro e U5 ⟨v2,rfl,h5⟩;obtain ⟨a2,c2,rfl⟩:=XK (h5.row (r:=N+2+1) Yd Zd Zr);have E5:=Za h5;clear h5 E3;refine ⟨_,rfl,⟨E5.o.blk,E5.o.blkAt (r:=N+1) Yd Zd dE⟩,?_⟩;refine JC (i:=37) ?_;refine Jk ?_;refine JA #[.pointer (some ⟨a.n,0,none⟩),.int .i64 0] call46 ((Eg.lall E5.o 0).mono ?_);rintro e U6 ⟨v3,rfl,h6⟩;rw [show UA s.F s.W 0=s.F from rfl] at h6;obtain ⟨a3,c3,rfl⟩:=XK (h6.row (r:=N+2+1+1) Yd Zd Zr);have E6:=Za h6;clear h6 E5;refine ⟨_,rfl,⟨E6.o.blk,E6.o.blkAt (r:=N+1) Yd Zd (by rw [Zy Zd,Zy Zd,Zy Zd,Zr])⟩,?_⟩;refine JC (i:=43) ?_;refine Jk ?_;refine JA #[.pointer (some ⟨a.n,0,none⟩),.int .i64 1] call46 ((Eg.lall E6.o 1).mono ?_);rintro e U7 ⟨v4,rfl,h7⟩;rw [show UA s.F s.W 1=s.W from rfl] at h7;obtain ⟨a4,c4,rfl⟩:=XK (h7.row (r:=N+2+1+1+1) Yd Zd Zr);have E7:=Za h7;clear h7 E6;refine ⟨_,rfl,⟨E7.o.blk,E7.o.blkAt (r:=N+1) Yd Zd oU⟩,?_⟩;refine JC (i:=49) ?_;refine Jk ?_;refine JA #[.pointer (some ⟨q.d,0,none⟩)] call47 ((Eg.mrow E7.o HX.o.2.2.2.1).mono ?_);rintro e U8 ⟨v5,rfl,h8⟩;obtain ⟨a5,c5,rfl⟩:=XK (h8.row (r:=N+2+1+1+1+1) Yd Zd Zr);have E8:=Za h8;clear h8 E7;refine ⟨_,rfl,⟨E8.o.blk,E8.o.blkAt (r:=N+1) Yd Zd (by rw [Zy Zd,Zy Zd,Zy Zd,Zy Zd,Zy Zd,Zr])⟩,?_⟩;refine JC (i:=55) ?_;refine Jk ?_;refine JA #[.pointer (some ⟨q.q,0,none⟩)] call48 ((Eg.trow E8.o HX.o.2.2.2.2).mono ?_);rintro e U9 ⟨v6,rfl,h9⟩;obtain ⟨a6,c6,rfl⟩:=XK (h9.row (r:=N+2+1+1+1+1+1) Yd Zd Zr);have E9:=Za h9;clear h9 E8;refine ⟨_,rfl,⟨E9.o.blk,E9.o.blkAt (r:=N+1) Yd Zd OI⟩,?_⟩;refine JC (i:=61) ?_;refine Jk ?_;refine JA #[.pointer (some ⟨a.k,0,none⟩)] call49 ((Eg.at_ E9.o).mono ?_);rintro e _ ⟨rfl,rfl⟩;refine ⟨_,rfl,⟨E9.o.blk,E9.o.blkAt (r:=N+1) Yd Zd OI⟩,?_⟩;refine JC (i:=67) ?_;refine Jk ?_;refine JA #[.pointer (some ⟨a.m,0,none⟩)] call50 ((Eg.carry E9.o).mono ?_);rintro e _ ⟨rfl,m10,rfl⟩;have E11:=Za (E9.o.drewN m10);clear E9;generalize U9.drewN m10=U11 at*;refine ⟨_,rfl,⟨E11.o.blk,E11.o.blkAt (r:=N+1) Yd Zd OI⟩,?_⟩;refine JC (i:=73) ?_;refine Jk ?_;refine JA #[.pointer (some ⟨a.u,0,none⟩)] call51 ((Eg.ulen E11.o HX.o.2.1).mono ?_);rintro e U12 ⟨rfl,L9⟩;have E12:=Za L9;clear L9 E11;refine ⟨_,rfl,⟨E12.o.blk,E12.o.blkAt (r:=N+1) Yd Zd OI⟩,?_⟩;refine Jk ?_;refine NL (fun w'=>Zu w' q.e 102 (UN c a q)/\Zu w' tb 109 #[.int .u64 s.D,.int .u64 s.P,.int .u64 s.B]) (m:=2) (f:=1) [74] (?_) ?_
 ·exact ⟨E12.o.blk,E12.o.blkAt (r:=N+1) Yd Zd OI⟩
 refine JH ?_;refine Hh ?_;refine ot 28 _ ZC rfl (EY s (Yh s.V) L.length (.slice a1 s.V.length c1) (.slice a2 s.pd.length c2) (.slice a3 s.F.length c3) (.slice a4 s.W.length c4) (.slice a5 s.mg.length c5) (.slice a6 s.pt.length c6)) ZC ?_;refine X7 ?_;refine Yo ?_;generalize Hk:EY s (Yh s.V) L.length (.slice a1 s.V.length c1) (.slice a2 s.pd.length c2) (.slice a3 s.F.length c3) (.slice a4 s.W.length c4) (.slice a5 s.mg.length c5) (.slice a6 s.pt.length c6)=cs;have Ai:cs.all (·.oneCell')=true:=by rw [<-Hk]; exact ZiE _ _ _ _ _ _ _ _ _ _ _ _ _ _ _ _ _ _ _ _ _
 have eh:Zj ((Tryz.prog.info? 28).map (·.size)=some cs.size):=Za (by rw [<-Hk]; exact wY);have HCS:=Za Hk;clear Hk;have hB:=E12.o.blkAt (r:=N) HN.o Zd dw;refine JC (i:=75) ?_;have ZhI:Ma.size=cs.size:=by rw [<-HCS.o]; rfl
 refine Yv rfl rfl (QF _ _ _ rfl b cs rfl rfl 28 _ hB eh.o ZhI Ai ?_);have h9:=E12.o.setr (r:=N) HN.o Zd dw (cs':=cs) (Jv hB _) (Xz (S:=fun i=>i=b) (ZS _ _) (.inl rfl) _);have HB:=Za hB;have E9:=Za h9;refine ⟨⟨h9.blk,h9.blkAt (r:=N+1) Yd Zd dw⟩,?_⟩;clear h9 hB E12;refine ⟨by kernel_rfl,YM ?_⟩;refine Jk ?_;go_wp2_with fail;refine Ye (v:= .agg cs) (YF (fn:=Tryz.f20) rfl _ _ b 28 _ (0,0) _ rfl (YH _ _ _ _ _ _ HB.o) underlying28 rfl eh.o) rfl ?_;refine ⟨⟨a1,_,c1⟩,⟨a2,_,c2⟩,⟨a3,_,c3⟩,⟨a4,_,c4⟩,⟨a5,_,c5⟩,⟨a6,_,c6⟩,by rw [<-HCS.o]; rfl,?_⟩;have hN:=HN.o;refine E9.o.remap Zd (fun k=>if k < N then k else k+2) (fun k hk=>if_pos Zd) (fun k hk=>by split <;> omega) (fun k hk=>by split <;> omega) (fun i j hi hj e=>by split at e <;> split at e <;> omega) fun k h1 h2=>?_
 by_cases hk:k < N
 ·rw [if_pos hk];unfold snX;rw [Zy Zd,Zy Zd,Zy Zd,Zy Zd,Zy Zd,Zy Zd,Zy Zd,Zy Zd,Zy Zd,Zy Zd,Zy Zd,Zy Zd,Zy Zd,Zy Zd,Zy Zd]
 ·rw [if_neg hk];have hc:k=N\/k=N+1\/k=N+2\/k=N+3\/k=N+4\/k=N+5:=Zd;unfold snX
  rcases hc with rfl | rfl | rfl | rfl | rfl | rfl
  ·rw [Zy Zd,Zy Zd,Zy Zd,Zy Zd,Zy Zd,Zr,Zy Zd,Zy Zd,Zy Zd,Zy Zd,Zy Zd,Zy Zd,Zr]; rfl
  ·rw [Zy Zd,Zy Zd,Zy Zd,Zy Zd,Zr,Zy Zd,Zy Zd,Zy Zd,Zy Zd,Zy Zd,Zr]; rfl
  ·rw [Zy Zd,Zy Zd,Zy Zd,Zr,Zy Zd,Zy Zd,Zy Zd,Zy Zd,Zr]; rfl
  ·rw [Zy Zd,Zy Zd,Zr,Zy Zd,Zy Zd,Zy Zd,Zr]; rfl
  ·rw [Zy Zd,Zr,Zy Zd,Zy Zd,Zr]; rfl
  ·rw [Zr,Zy Zd,Zr]; rfl
end
end
section
open Go Go.RowKit Go.Deep
def pE (c:Nat->Int)(n:Nat) :Prop:=TM c=0/\c 0<=100/\c 14<=200/\c 15<=200/\c 17<=200/\c 1<=200/\n<=400
instance (c:Nat->Int) (n:Nat) :Decidable (pE c n):=by unfold pE; infer_instance
def kg (c:Nat->Int)(n:Nat) :Int:=if pE c n then 1 else 0
theorem gL (c:Nat->Int)(a:Option Addr)(n cp:Nat)(w:Zc) :
  Z3 17 #[.agg (Zi c),.slice a n cp] w (.int .i64 (kg c n)):=by
 have B0:Zu (w.alloc (.cells (Zi c) 30)) w.heap.size 30 (Zi c):=Zs _ _ _;have b1:Zp w.heap.size w (w.alloc (.cells (Zi c) 30)):=(Zn _ _).alloc (Zh _) _;have H:=Za (fun W=>cN c W);have HF:Zj (∀k:Int,TM c=k->(k≠0\/100 < c 0\/200 < c 14\/200 < c 15\/200 < c 17\/200 < c 1\/400 < n->kg c n=0)/\(k=0->c 0<=100->c 14<=200->c 15<=200->c 17<=200->c 1<=200->n<=400->kg c n=1)):=Za fun k hk=>by
  subst hk;unfold kg pE;exact ⟨fun h=>if_neg Zd,fun h0 h1 h2 h3 h4 h5 h6=>if_pos ⟨h0,h1,h2,h3,h4,h5,h6⟩⟩
 obtain ⟨k,hk⟩:=ZR (TM c);have aX:=Za (HF.o k hk);rw [hk] at H;clear hk HF;obtain ⟨r,hr⟩:=ZR (kg c n);rw [hr] at aX ⊢;clear hr;go_enter func17,ntmps17;go_upto_region 1 with (fail);have HB:=Za B0;have Hb:=Za b1;clear B0 b1;generalize w.alloc (.cells (Zi c) 30)=W at*;go_wp2_with (first | (refine Kl 30 w.heap.size HB.o underlying30 Qk ?_));refine (H.o W).mono ?_;rintro e w2 ⟨rfl,b2⟩;have GI:=HB.o.below b2 HB.o.lt;have H2:=Za (Hb.o.trans (b2.mono Hb.o.size));clear Hb b2 HB H;have y0:=Xx GI 0;have y1:=Xx GI 1;have y14:=Xx GI 14;have y15:=Xx GI 15;have y17:=Xx GI 17;clear GI
 by_cases h0:k=0
 ·by_cases h1:c 0<=100
  ·by_cases h2:c 14<=200
   ·by_cases h3:c 15<=200
    ·by_cases h4:c 17<=200
     ·by_cases h5:c 1<=200
      ·by_cases h6:n<=400
       ·have hr:=aX.o.2 h0 h1 h2 h3 h4 h5 h6;subst h0;have d1: ¬100 < c 0:=Zd;have d2: ¬200 < c 14:=Zd;have d3: ¬200 < c 15:=Zd;have d4: ¬200 < c 17:=Zd;have d5: ¬200 < c 1:=Zd;have d6: ¬(400:Int)< (n:Int):=Zd;have HR:=Za hr;clear hr h1 h2 h3 h4 h5 h6 aX;exact Tk
       ·have HR:=Za (aX.o.1 Zd);subst h0;have d1: ¬100 < c 0:=Zd;have d2: ¬200 < c 14:=Zd;have d3: ¬200 < c 15:=Zd;have d4: ¬200 < c 17:=Zd;have d5: ¬200 < c 1:=Zd;have d6:(400:Int)< (n:Int):=Zd;clear h1 h2 h3 h4 h5 h6 aX;exact Tk
      ·have HR:=Za (aX.o.1 Zd);subst h0;have d1: ¬100 < c 0:=Zd;have d2: ¬200 < c 14:=Zd;have d3: ¬200 < c 15:=Zd;have d4: ¬200 < c 17:=Zd;have d5:200 < c 1:=Zd;clear h1 h2 h3 h4 h5 aX;exact Tk
     ·have HR:=Za (aX.o.1 Zd);subst h0;have d1: ¬100 < c 0:=Zd;have d2: ¬200 < c 14:=Zd;have d3: ¬200 < c 15:=Zd;have d4:200 < c 17:=Zd;clear h1 h2 h3 h4 aX;exact Tk
    ·have HR:=Za (aX.o.1 Zd);subst h0;have d1: ¬100 < c 0:=Zd;have d2: ¬200 < c 14:=Zd;have d3:200 < c 15:=Zd;clear h1 h2 h3 aX;exact Tk
   ·have HR:=Za (aX.o.1 Zd);subst h0;have d1: ¬100 < c 0:=Zd;have d2:200 < c 14:=Zd;clear h1 h2 aX;exact Tk
  ·have HR:=Za (aX.o.1 Zd);subst h0;have d1:100 < c 0:=Zd;clear h1 aX;exact Tk
 ·have HR:=Za (aX.o.1 Zd);clear aX;exact Tk
end
end Go.Proofs.YtobgbcdgffgdhaaGreat
