/- Part 21 of 31: L15Settle L15Accept L15Assign L15Slash L15Refs L15Pay. -/
import Derived.Test.YtobgbcdgffgdhaaGreatZw00
import Derived.Test.YtobgbcdgffgdhaaGreatZw18
import Derived.Test.YtobgbcdgffgdhaaGreatZw19
namespace Go.Proofs.YtobgbcdgffgdhaaGreat
set_option linter.unusedVariables false
set_option linter.unusedSimpArgs false
set_option maxRecDepth 100000
set_option maxHeartbeats 8000000
open _root_.And renaming intro -> Zn
open _root_.Go.RowKit renaming Below -> Zp
open _root_.Go.RowKit.Below renaming drew -> Vs, refl -> Zo
open _root_.Go.Proofs.YtobgbcdgffgdhaaGreat.Zu renaming alloc -> Yw, below -> K9, cell -> XP, new -> Zt
open _root_.Go renaming Calls -> Zv, Value -> Zk, World -> Zc, below_setRow -> Xt, bodyPost_ret -> Yd, setRow_heap -> YA, undef -> Kr, wpQuiet -> ZZ
open _root_.Nat renaming le_refl -> Zh, le_trans -> ZY, lt_of_lt_of_le -> YE, zero_add -> ZV
open _root_.Go.Proofs.Tryz renaming prog -> Zb
open _root_.Go.World renaming setRow_alloc_new -> Zr
open Go.Proofs.Tryz
theorem ZaY {G:Prop} (h:G:=by
  exact ⟨f1,by rw [Nat.zero_add]; exact h.cell 0,by simp at hi; subst hi; exact h1⟩) :G:=h
theorem ZaZ {G:Prop} (h:G:=by
  exact ⟨f2,by rw [Nat.zero_add]; exact h.cell 1,by simp at hi; subst hi; exact h2⟩) :G:=h
theorem kP {G:Prop} (h:G:=by
  go_wp2;go_ret;exact ⟨_,rfl,HN.o,(Below.refl _ _).alloc (Nat.le_refl _) _⟩) :G:=h
theorem Zbc {G:Prop} (h:G:=by
  rw [show (w.alloc o).heap.size=w.heap.size+1 by simp] at this;exact this) :G:=h
section
open Go Go.RowKit
section
variable {w:Zc}
theorem KM {P:Program}{fn:Func}{p u q:Tmp}{ty:TypeId}(h:fn.results= #[.cell p ty,.tmp u,.tmp q])(tmps:Array Zk)(w:Zc)(g:Nat)(t:TypeId)(cs:Array Zk)(fr:Nat × Nat)(d:TypeDesc)
  (hp:tmps.getD p Kr= .pointer (some ⟨g,0,none⟩)) (hg:w.heap[g]?=some (.cells cs t fr))
  (hu:P.underlying ty=some d) (hd:(match d with | .struct _ | .array _ _=>true | _=>false)=true) (hi:(P.info? ty).map (·.size)=some cs.size) :
  (results fn tmps).run P w= .ok (.tuple #[.agg cs,tmps.getD u Kr,tmps.getD q Kr]) w:=by
 have e:(results fn tmps).run P w=((asAddr (tmps.getD p Kr)).run P w).andThen fun a w₁=>((loadVar ty a).run P w₁).andThen fun v w₂=> .ok (.tuple #[v,tmps.getD u Kr,tmps.getD q Kr]) w₂:=by
  simp only [results,h];simp [Sem.run_bind,Result.andThen]
 rw [e,hp];exact Zbd
theorem EH (fn:Fn)(first cap:Array Zk)(w:Zc) :(Instr.makeFunc fn first cap).run Zb w= .ok (.func fn first cap) w:=rfl
theorem db (e:Int)(w:Zc) :Zv Zb 182 #[.int .i64 e] w fun o w'=> ∃c,o= .returned (.func (.func 227) #[] c)/\Vm w' (.func (.func 227) #[] c) (Xo e)/\Zp w.heap.size w w':=by
 have CQ:=EH;have HN:=Za (NX (e:=e) ((Zt w 3 #[.int .i64 e]).cell 0));go_enter func182,ntmps182;exact kP
theorem NT (ev:Int)(he:(Lit.int .i64 ev).wf=true)(w:Zc) :Zv Zb 180 #[.int .i64 ev] w fun o w'=> ∃c,o= .returned (.func (.func 222) #[] c)/\Vm w' (.func (.func 222) #[] c) (Qj ev)/\Zp w.heap.size w w':=by
 have CQ:=EH;have HN:=Za (ni (ev:=ev) he ((Zt w 3 #[.int .i64 ev]).cell 0));clear he;go_enter func180,ntmps180;exact kP
theorem Iz (e:Int)(w:Zc) :Zv Zb 267 #[.int .i64 e] w fun o w'=> ∃c,o= .returned (.func (.func 286) #[] c)/\Vm w' (.func (.func 286) #[] c) (XA e)/\Zp w.heap.size w w':=by
 have CQ:=EH;have HN:=Za (WS (e:=e) ((Zt w 3 #[.int .i64 e]).cell 0));go_enter func267,ntmps267;exact kP
theorem sF (e:Int)(w:Zc) :Zv Zb 249 #[.int .i64 e] w fun o w'=> ∃c,o= .returned (.func (.func 278) #[] c)/\Vm w' (.func (.func 278) #[] c) (Dy e)/\Zp w.heap.size w w':=by
 have CQ:=EH;have HN:=Za (nD (e:=e) ((Zt w 3 #[.int .i64 e]).cell 0));go_enter func249,ntmps249;exact kP
theorem SY (e n:Int)(h0:0<=n)(h1:n<=9223372036854775807)(w:Zc) :Zv Zb 181 #[.int .i64 e,.int .i64 n] w fun o w'=> ∃c,o= .returned (.func (.func 224) #[] c)/\Vm w' (.func (.func 224) #[] c) (QO e n)/\Zp w.heap.size w w':=by
 have CQ:=EH;have c1:((w.alloc (.cells #[.int .i64 e] 3)).alloc (.cells #[.int .i64 n] 3)).cell? ⟨w.heap.size,0,none⟩=some (.int .i64 e):=((Zt w 3 #[.int .i64 e]).alloc _).cell 0;have c2:((w.alloc (.cells #[.int .i64 e] 3)).alloc (.cells #[.int .i64 n] 3)).cell? ⟨w.heap.size+1,0,none⟩=some (.int .i64 n):=by
  have:=(Zt (w.alloc (.cells #[.int .i64 e] 3)) 3 #[.int .i64 n]).cell 0;rwa [show (w.alloc (.cells #[.int .i64 e] 3)).heap.size=w.heap.size+1 by simp] at this
 have HN:=Za (mF h0 h1 c1 c2);clear h0 h1 c1 c2;go_enter func181,ntmps181;go_wp2;go_ret;exact ⟨_,rfl,HN.o,((Zo _ _).alloc (Zh _) _).alloc ZE _⟩
end
theorem Bl:(Tryz.prog.info? 234).map (fun i=>(i.zero,i.size))=some (some (.nilFunc),1):=ZC
theorem Hq {w:Zc}{g t:Nat}{f1 f2:Zk}{e1 e2:Ng}(h:Zu w g t #[f1,f2])(h1:Vm w f1 e1)(h2:Vm w f2 e2) :GA w (some ⟨g,0,none⟩) [e1,e2]:=by
 refine ⟨g,0,rfl,fun i e hi=>?_⟩
 match i,hi with
 | 0,hi=>exact ZaY
 | 1,hi=>exact ZaZ
theorem WB {w:Zc}{g t:Nat}{f1 f2 f3:Zk}{e1 e2 e3:Ng}(h:Zu w g t #[f1,f2,f3])(h1:Vm w f1 e1)(h2:Vm w f2 e2)(h3:Vm w f3 e3) :GA w (some ⟨g,0,none⟩) [e1,e2,e3]:=by
 refine ⟨g,0,rfl,fun i e hi=>?_⟩
 match i,hi with
 | 0,hi=>exact ZaY
 | 1,hi=>exact ZaZ
 | 2,hi=>exact ⟨f3,by rw [ZV]; exact h.cell 2,by simp at hi; subst hi; exact h3⟩
theorem dh: ∀(es:List Ng) (x:ZN),(Qh es x).1≠0->(Qh es x).2=ZS
 | [],x,h=>absurd rfl h
 | e::es,x,h=>by
  unfold Qh at h ⊢
  split at h
  ·rename_i h0
   rw [if_pos h0];exact dh es _ h
  ·rename_i h0
   rw [if_neg h0]
theorem Gk:(#[.int .u64 0,.int .i64 0,.bool false,.int .i64 0,.int .i64 0,.int .i64 0,.int .i64 0] :Array Zk)=Zd ZS:=rfl
def BT (es:List Ng)(n:Int)(v:ZN) :Zk:=
 .tuple #[.agg (Zd (Qh es { v with bal:=v.bal - n}).2),.int .u64 (if(Qh es { v with bal:=v.bal - n}).1=0 then n else 0),.int .i64 (Qh es { v with bal:=v.bal - n}).1]
theorem MW (es:List Ng)(a:Option Addr)(cap:Nat)(n:Int)(v:ZN)(w:Zc)(hv:Rk v)(h0:0<=n)(h1:n<=v.bal)(h2:v.bal<=18446744073709551615)(hlen:es.length<=1000)(hc:GA w a es) :
  Z3 183 #[.agg (Zd v),.int .u64 n,.slice a es.length cap] w (BT es n v):=by
 obtain ⟨y,hy⟩ : ∃y:ZN,y= { v with bal:=v.bal - n}:=⟨_,rfl⟩;have HR:Zl (BT es n v= .tuple #[.agg (Zd (Qh es y).2),.int .u64 (if(Qh es y).1=0 then n else 0),.int .i64 (Qh es y).1]):=Za (by rw [hy]; rfl);have HS:Zl (Rk y):=Za (by rw [hy]; exact hv);have HC:=Za hc;have HL:=Za hlen;have hb:v.bal - n<=18446744073709551615:=Ze;obtain ⟨z,hz⟩ : ∃z,z=v.bal - n:=⟨_,rfl⟩;have HY:Zl (y= { v with bal:=z}):=Za (by rw [hy,hz]);have hw:IntKind.u64.wrap (v.bal - n)=z:=by rw [hz]; exact IntWalk.u64_in _ Ze
 obtain ⟨len,hl⟩:=ZT (es.length);rw [hl];have zC:=Za hl;clear hc hv hl hlen hy hz;have W0:Zl (VB ((w.alloc (.cells (Zd v) 68)).alloc (.cells (Zd ZS) 68)) w.heap.size v):=Za (Yw (Zt w _ _) _);have F0:=W0.o.fz 0;have c0:((w.alloc (.cells (Zd v) 68)).alloc (.cells (Zd ZS) 68)).cell? ⟨w.heap.size,0,none⟩=some (.int .u64 v.bal):=XP W0.o 0;have Z0:Zl (VB ((w.alloc (.cells (Zd v) 68)).alloc (.cells (Zd ZS) 68)) (w.heap.size+1) ZS):=Za (by
  have:=Zt (w.alloc (.cells (Zd v) 68)) 68 (Zd ZS);rw [show (w.alloc (.cells (Zd v) 68)).heap.size=w.heap.size+1 by simp] at this;exact this)
 have B0:Zl (Zp w.heap.size w ((w.alloc (.cells (Zd v) 68)).alloc (.cells (Zd ZS) 68))):=Za (((Zo _ _).alloc (Zh _) _).alloc ZE _);go_enter func183,ntmps183;go_upto_region 1 with (fail);rw [Gk];generalize (w.alloc (.cells (Zd v) 68)).alloc (.cells (Zd ZS) 68)=W at*;go_upto_region 2 with (fail);have W1:Zl (VB (W.setCell ⟨w.heap.size,0,none⟩ (.int .u64 z)) w.heap.size y):=Za (by rw [HY.o]; exact W0.o.set rfl);have Z1:Zl (VB (W.setCell ⟨w.heap.size,0,none⟩ (.int .u64 z)) (w.heap.size+1) ZS):=Za (Zu.far Z0.o ZE _);have B1:Zl (Zp w.heap.size w (W.setCell ⟨w.heap.size,0,none⟩ (.int .u64 z))):=Za (GW B0.o (QD (Kl _ _) (.inl rfl) _) B0.o.size (Zh _));have C1:Zl (GA (W.setCell ⟨w.heap.size,0,none⟩ (.int .u64 z)) a es):=Za (HC.o.below B1.o);clear W0 Z0 B0 F0 c0 hw;generalize W.setCell ⟨w.heap.size,0,none⟩ (.int .u64 z)=W at*;have HA:=Za (OF es a cap y W HS.o HL.o C1.o);rw [zC.o] at HA;have HE:=Za (dh es y);generalize hr:Qh es y=r at HA HR HE;obtain ⟨cd,x⟩:=r;simp only at HA HR HE;clear hr
 by_cases h:cd=0
 ·have OV:(cd != 0)=false:=KB;rw [if_pos h] at HR;subst h;go_wp2_with (first | (refine Kz 68 w.heap.size W1.o underlying68 Yb ?_) | fail);refine HA.o.mono ?_;rintro o w2 ⟨rfl,b2⟩;have Z2:Zl (VB (w2.alloc (.cells (Zd x) 68)) (w.heap.size+1) ZS):=Za (Yw (K9 Z1.o b2 Z1.o.lt) _);have X2:Zl (VB (w2.alloc (.cells (Zd x) 68)) w2.heap.size x):=Za (Zt _ _ _);have B2:Zl (Zp w.heap.size w (w2.alloc (.cells (Zd x) 68))):=Za ((B1.o.trans (b2.mono B1.o.size)).alloc (ZY B1.o.size b2.size) _);clear b2 Z1 W1 B1 C1 HA;go_wp2_with (first | (refine UP w2.heap.size (Zd x) 68 (heap_alloc_new w2 _) Yb (Ys x) ?_; rw [Zr]) | (refine Kz 68 w2.heap.size X2.o underlying68 Yb ?_) | (refine UP (w.heap.size+1) (Zd x) 68 Z2.o Yb (Ys x) ?_));rw [HR.o];exact Yd (v:= .tuple #[.agg (Zd x),.int .u64 n,.int .i64 0]) (KM (fn:=Tryz.f183) rfl _ _ (w.heap.size+1) 68 _ (0,0) _ rfl (YA _ _ _ _ _ _ Z2.o) underlying68 rfl Yb) rfl ⟨rfl,Xt B2.o Ze _⟩
 ·have OV:(cd != 0)=true:=KB;rw [if_neg h] at HR;have hx:x=ZS:=HE.o h;subst hx;clear h;go_wp2_with (first | (refine Kz 68 w.heap.size W1.o underlying68 Yb ?_) | fail);refine HA.o.mono ?_;rintro o w2 ⟨rfl,b2⟩;have Z2:Zl (VB (w2.alloc (.cells (Zd ZS) 68)) (w.heap.size+1) ZS):=Za (Yw (K9 Z1.o b2 Z1.o.lt) _);have B2:Zl (Zp w.heap.size w (w2.alloc (.cells (Zd ZS) 68))):=Za ((B1.o.trans (b2.mono B1.o.size)).alloc (ZY B1.o.size b2.size) _);clear b2 Z1 W1 B1 C1 HA;go_wp2_with (first | (refine UG rfl 68 _ rfl ZS ZC ?_) | (refine UP w2.heap.size (Zd ZS) 68 (heap_alloc_new w2 _) Yb (Ys ZS) ?_; rw [Zr]) | (refine UP (w.heap.size+1) (Zd ZS) 68 Z2.o Yb (Ys ZS) ?_));rw [HR.o];exact Yd (v:= .tuple #[.agg (Zd ZS),.int .u64 0,.int .i64 cd]) (KM (fn:=Tryz.f183) rfl _ _ (w.heap.size+1) 68 _ (0,0) _ rfl (YA _ _ _ _ _ _ Z2.o) underlying68 rfl Yb) rfl ⟨rfl,Xt B2.o Ze _⟩
def amQ (a n d:Nat) :Nat:=if d < n then 0 else mdQ a n d
def vQ (a n d:Nat) :Bool:=if d < n then false else mR a n d
theorem Zcb (a n d:Nat) :amQ a n d<=a:=by
 unfold amQ
 split
 ·omega
 ·unfold mdQ
  split
  ·rename_i h1 h2
   have h3:n<=d:=Ze
   calc a*n/d<=a*d/d:=Nat.div_le_div_right (Nat.mul_le_mul_left a h3)
    _=a:=Nat.mul_div_cancel a Ze
  ·omega
theorem eD (a n d:Nat)(w:Zc)(ha:a < 18446744073709551616)(hn:n < 18446744073709551616)(hd:d < 18446744073709551616) :
  Z3 178 #[.int .u64 a,.int .u64 n,.int .u64 d] w (.tuple #[.int .u64 (amQ a n d:Nat),.bool (vQ a n d)]):=by
 have HM:=Za (fun w=>gq a n d w ha hn hd)
 by_cases h:d < n
 ·have HQ:Zl (amQ a n d=0/\vQ a n d=false):=Za ⟨if_pos h,if_pos h⟩;rw [HQ.o.1,HQ.o.2];have h':(d:Int)< (n:Int):=Ze;clear h ha hn hd HM;go_enter func178,ntmps178;go_wp2;go_ret2;exact ⟨rfl,Zo _ _⟩
 ·have HQ:Zl (amQ a n d=mdQ a n d/\vQ a n d=mR a n d):=Za ⟨if_neg h,if_neg h⟩;rw [HQ.o.1,HQ.o.2];have h': ¬(d:Int)< (n:Int):=Ze;generalize mdQ a n d=q at*;generalize mR a n d=ok at*;clear h ha hn hd HQ;go_enter func178,ntmps178;go_wp2_with fail;refine (HM.o _).mono ?_;rintro o w1 ⟨rfl,b1⟩;have B1:=Za b1;clear b1;go_wp2;go_ret2;exact ⟨rfl,B1.o⟩
end
section
open Go Go.RowKit
theorem QY {w w1:Zc}{b:Nat}{x:ZN}(h:VB w b x)(hb:Zp w.heap.size w w1) :VB w1 b x:=K9 h hb h.lt
theorem tv (w:Zc)(o:Obj)(v:ZN) :VB ((w.alloc o).alloc (.cells (Zd v) 68)) (w.heap.size+1) v:=by
 have:=Zt (w.alloc o) 68 (Zd v);exact Zbc
theorem TY (w:Zc)(o p:Obj)(v:ZN) :VB (((w.alloc o).alloc p).alloc (.cells (Zd v) 68)) (w.heap.size+2) v:=by
 have:=Zt ((w.alloc o).alloc p) 68 (Zd v);rw [show ((w.alloc o).alloc p).heap.size=w.heap.size+2 by simp] at this;exact this
def ans (r:Int × ZN) :Zk:= .tuple #[.agg (Zd r.2),.int .i64 r.1]
def Sc (r:Int × ZN)(n:Int) :Zk:= .tuple #[.agg (Zd r.2),.int .u64 n,.int .i64 r.1]
theorem ew (v:ZN)(e:Int)(w:Zc)(hv:Rk v) :
  Z3 174 #[.agg (Zd v),.int .i64 e] w (ans (Qh [Xo e,Qj 2] v)):=by
 obtain ⟨r,hR⟩ : ∃r,r=Qh [Xo e,Qj 2] v:=⟨_,rfl⟩;rw [<-hR];have HR:=Za hR;have HV:=Za hv;clear hR hv;go_enter func174,ntmps174;go_upto_region 1 with (fail);rw [Gk];have V0:Zl (VB ((w.alloc (.cells (Zd v) 68)).alloc (.cells (Zd ZS) 68)) w.heap.size v):=Za (Yw (Zt w _ _) _);have Z0:Zl (VB ((w.alloc (.cells (Zd v) 68)).alloc (.cells (Zd ZS) 68)) (w.heap.size+1) ZS):=Za (tv _ _ _);have B0:Zl (Zp w.heap.size w ((w.alloc (.cells (Zd v) 68)).alloc (.cells (Zd ZS) 68))):=Za (((Zo _ _).alloc (Zh _) _).alloc ZE _);generalize (w.alloc (.cells (Zd v) 68)).alloc (.cells (Zd ZS) 68)=W at*;go_wp2;refine Mz (fun w'=>VB w' w.heap.size v) 8 6 [0,1] V0.o ?_;refine JL ?_;show ZZ _ _ _ _ [_,_] _;refine QP 68 _ w.heap.size 68 (Zd v) _ ZC rfl rfl (fun w h=>h) underlying68 rfl Yb ?_;refine X5 ?_;refine Gz ?_;refine XK ?_;have D0:Zl (Zp W.heap.size W W.drew):=Za (Vs (Zo _ _));refine Jg (i:=2) ?_;refine JC #[.int .i64 e] call182 ((db e W.drew).mono ?_);rintro o w1 ⟨k1,rfl,f1,b1⟩;have D1:Zl (Zp W.heap.size W w1):=Za (D0.o.trans (b1.mono D0.o.size));clear b1;refine ⟨_,rfl,QY V0.o D1.o,?_⟩;refine Jg (i:=3) ?_;refine Da ?_;refine JC #[.int .i64 2] call180 ((NT 2 YW w1).mono ?_);rintro o w2 ⟨k2,rfl,f2,b2⟩;have D2:Zl (Zp W.heap.size W w2):=Za (D1.o.trans (b2.mono D1.o.size));replace f1:=f1.below b2;clear b2;refine ⟨_,rfl,QY V0.o D2.o,?_⟩;refine Jg (i:=4) ?_;refine Da ?_;refine Yz rfl rfl (QE 237 234 (.tmp 8) (.tmp 9) _ _ (.func (.func 227) #[] k1) (.func (.func 222) #[] k2) rfl rfl rfl underlying237 Bl rfl rfl rfl ?_);have b3:Zp w2.heap.size w2 (w2.alloc (.cells #[.func (.func 227) #[] k1,.func (.func 222) #[] k2] 234)):=(Zo _ _).alloc (Zh _) _;have CH:=Za (Hq (Zt w2 234 _) (f1.below b3) (f2.below b3));have D3:=Za (D2.o.trans (b3.mono D2.o.size));clear f1 f2 b3;generalize w2.alloc (.cells #[.func (.func 227) #[] k1,.func (.func 222) #[] k2] 234)=w3 at*;generalize w2.heap.size=g at*;refine ⟨QY V0.o D3.o,?_⟩;refine DM ?_;refine Da ?_;refine JC #[.agg (Zd v),.slice (some ⟨g,0,none⟩) 2 2] call218 ((OF [Xo e,Qj 2] (some ⟨g,0,none⟩) 2 v w3 HV.o ZE CH.o).mono ?_);rw [<-HR.o];rintro o w4 ⟨rfl,b4⟩;have D4:=Za (D3.o.trans (b4.mono D3.o.size));clear b4 CH;have V4:=QY V0.o D4.o;refine ⟨_,rfl,V4,?_⟩;refine Da ?_;refine SR (fun w'=>VB w' w.heap.size v) (m:=2) (f:=0) [6,7] V4 ?_;refine JL ?_;show ZZ _ _ _ _ [_,_] _;refine B9 ?_;refine XK ?_;refine GO ?_;refine ⟨by kernel_rfl,?_⟩;refine Mh ?_;have Z4:Zl (VB w4 (w.heap.size+1) ZS):=Za (QY Z0.o D4.o);have B4:Zl (Zp w.heap.size w w4):=Za (B0.o.trans (D4.o.mono B0.o.size));clear D4 D3 D2 D1 D0 Z0 B0 V0 V4;go_wp2_with (first | (refine UP (w.heap.size+1) (Zd r.2) 68 Z4.o Yb (Ys r.2) ?_));refine Gy ?_;go_wp2;exact Yd (v:=ans r) (XS (fn:=Tryz.f174) rfl _ _ (w.heap.size+1) 68 _ (0,0) _ rfl (YA _ _ _ _ _ _ Z4.o) underlying68 rfl Yb) rfl ⟨rfl,Xt B4.o Ze _⟩
end
section
open Go Go.RowKit
theorem Cy (w:Zc)(o:Obj)(c:Nat->Int) :Zu ((w.alloc o).alloc (.cells (Zi c) 30)) (w.heap.size+1) 30 (Zi c):=by
 have:=Zt (w.alloc o) 30 (Zi c);exact Zbc
theorem eF (v:ZN)(e:Int)(c:Nat->Int)(w:Zc)(hv:Rk v)(h0:0<=c 10)(h1:c 10<=1048576) :
  Z3 236 #[.agg (Zd v),.int .i64 e,.agg (Zi c)] w (ans (Qh [XA e,QO e (c 10)] v)):=by
 obtain ⟨r,hR⟩ : ∃r,r=Qh [XA e,QO e (c 10)] v:=⟨_,rfl⟩;rw [<-hR];have HR:=Za hR;have HV:=Za hv;clear hR hv;go_enter func236,ntmps236;go_upto_region 1 with (fail);rw [Gk];have V0:Zl (VB (((w.alloc (.cells (Zd v) 68)).alloc (.cells (Zi c) 30)).alloc (.cells (Zd ZS) 68)) w.heap.size v):=Za (Yw (Yw (Zt w _ _) _) _);have Z0:Zl (VB (((w.alloc (.cells (Zd v) 68)).alloc (.cells (Zi c) 30)).alloc (.cells (Zd ZS) 68)) (w.heap.size+2) ZS):=Za (TY _ _ _ _);have B0:Zl (Zp w.heap.size w (((w.alloc (.cells (Zd v) 68)).alloc (.cells (Zi c) 30)).alloc (.cells (Zd ZS) 68))):=Za ((((Zo _ _).alloc (Zh _) _).alloc ZE _).alloc Xl _);have G0:Zl (Zu (((w.alloc (.cells (Zd v) 68)).alloc (.cells (Zi c) 30)).alloc (.cells (Zd ZS) 68)) (w.heap.size+1) 30 (Zi c)):=Za (Yw (Cy _ _ _) _);generalize ((w.alloc (.cells (Zd v) 68)).alloc (.cells (Zi c) 30)).alloc (.cells (Zd ZS) 68)=W at*;go_wp2;refine Mz (fun w'=>VB w' w.heap.size v/\Zu w' (w.heap.size+1) 30 (Zi c)) 11 6 [0,1,3,4,5] ⟨V0.o,G0.o⟩ ?_;refine JL ?_;refine Ol ?_;refine QP 68 _ w.heap.size 68 (Zd v) _ ZC rfl rfl (fun w h=>h.1) underlying68 rfl Yb ?_;refine X5 ?_;iterate 3 (go_big_quiet_step ((intros; rfl)))
 refine Vk 3 ⟨w.heap.size+1,10,none⟩ (.int .i64 (c 10)) (fun w h=>h.2.cell 10) ?_;refine X5 ?_;refine XK ?_;have D0:Zl (Zp W.heap.size W W.drew):=Za (Vs (Zo _ _));refine Jg (i:=2) ?_;refine JC #[.int .i64 e] call267 ((Iz e W.drew).mono ?_);rintro o w1 ⟨k1,rfl,f1,b1⟩;have D1:Zl (Zp W.heap.size W w1):=Za (D0.o.trans (b1.mono D0.o.size));clear b1;refine ⟨_,rfl,⟨QY V0.o D1.o,G0.o.below D1.o G0.o.lt⟩,?_⟩;refine Mo ?_;refine Da ?_;refine JC #[.int .i64 e,.int .i64 (c 10)] call181 ((SY e (c 10) h0 Ze w1).mono ?_);rintro o w2 ⟨k2,rfl,f2,b2⟩;have D2:Zl (Zp W.heap.size W w2):=Za (D1.o.trans (b2.mono D1.o.size));replace f1:=f1.below b2;clear b2;refine ⟨_,rfl,⟨QY V0.o D2.o,G0.o.below D2.o G0.o.lt⟩,?_⟩;refine Jg (i:=7) ?_;refine Da ?_;refine Yz rfl rfl (QE 237 234 (.tmp 10) (.tmp 14) _ _ (.func (.func 286) #[] k1) (.func (.func 224) #[] k2) rfl rfl rfl underlying237 Bl rfl rfl rfl ?_);have b3:Zp w2.heap.size w2 (w2.alloc (.cells #[.func (.func 286) #[] k1,.func (.func 224) #[] k2] 234)):=(Zo _ _).alloc (Zh _) _;have CH:=Za (Hq (Zt w2 234 _) (f1.below b3) (f2.below b3));have D3:=Za (D2.o.trans (b3.mono D2.o.size));clear f1 f2 b3;generalize w2.alloc (.cells #[.func (.func 286) #[] k1,.func (.func 224) #[] k2] 234)=w3 at*;generalize w2.heap.size=g at*;refine ⟨⟨QY V0.o D3.o,G0.o.below D3.o G0.o.lt⟩,?_⟩;refine Jg (i:=8) ?_;refine Da ?_;refine JC #[.agg (Zd v),.slice (some ⟨g,0,none⟩) 2 2] call218 ((OF [XA e,QO e (c 10)] (some ⟨g,0,none⟩) 2 v w3 HV.o ZE CH.o).mono ?_);rw [<-HR.o];rintro o w4 ⟨rfl,b4⟩;have D4:=Za (D3.o.trans (b4.mono D3.o.size));clear b4 CH;have V4:VB w4 w.heap.size v/\Zu w4 (w.heap.size+1) 30 (Zi c):=⟨QY V0.o D4.o,G0.o.below D4.o G0.o.lt⟩;refine ⟨_,rfl,V4,?_⟩;refine Da ?_;refine SR (fun w'=>VB w' w.heap.size v/\Zu w' (w.heap.size+1) 30 (Zi c)) (m:=2) (f:=0) [9,10] V4 ?_;refine JL ?_;show ZZ _ _ _ _ [_,_] _;refine B9 ?_;refine XK ?_;refine GO ?_;refine ⟨by kernel_rfl,?_⟩;refine Mh ?_;have Z4:Zl (VB w4 (w.heap.size+2) ZS):=Za (QY Z0.o D4.o);have B4:Zl (Zp w.heap.size w w4):=Za (B0.o.trans (D4.o.mono B0.o.size));clear D4 D3 D2 D1 D0 Z0 B0 V0 V4 G0;go_wp2_with (first | (refine UP (w.heap.size+2) (Zd r.2) 68 Z4.o Yb (Ys r.2) ?_));refine Gy ?_;go_wp2;exact Yd (v:=ans r) (XS (fn:=Tryz.f236) rfl _ _ (w.heap.size+2) 68 _ (0,0) _ rfl (YA _ _ _ _ _ _ Z4.o) underlying68 rfl Yb) rfl ⟨rfl,Xt B4.o Ze _⟩
end
section
open Go Go.RowKit
theorem il (e:Int)(w:Zc) :Zv Zb 182 #[.int .i64 e] w fun o w'=>o= .returned (.func (.func 227) #[] #[.pointer (some ⟨w.heap.size,0,none⟩)])/\w.alloc (.cells #[.int .i64 e] 3)=w':=by
 have CQ:=EH;go_enter func182,ntmps182;exact Uu
theorem gH {w:Zc}{base g:Nat}{e:TypeId}{f1 f2 f3:Zk}(h:Zu w g e #[f1,f2,f3])(hb:base<=g) :w.ownsRow base e 1 (.slice (some ⟨g,0,none⟩) 3 3) 3 [f1,f2,f3]:=
 ⟨rfl,.inr ⟨g,3,_,rfl,hb,h,Zh _,by unfold maxLen; omega,rfl,rfl⟩⟩
theorem If {w:Zc}{base:Nat}{e:TypeId}{v f1 f2 f3 f4:Zk}{e1 e2 e3 e4:Ng}(h:w.ownsRow base e 1 v (3+1) ([f1,f2,f3]++[f4]))(h1:Vm w f1 e1)(h2:Vm w f2 e2)(h3:Vm w f3 e3)(h4:Vm w f4 e4) :
  ∃a cap,v= .slice a 4 cap/\GA w a [e1,e2,e3,e4]:=by
 obtain ⟨_,h | ⟨g,cap,cur,rfl,_,hg,hc,_,hs,ht⟩⟩:=h
 ·omega
 ·refine ⟨_,cap,rfl,g,0,rfl,fun i ef hi=>?_⟩;have UJ: ∀j f,([f1,f2,f3,f4] :List Zk)[j]?=some f->w.cell? ⟨g,0+j,none⟩=some f:=fun j f hj=>by
   rw [ZV,show w.cell? ⟨g,j,none⟩=cur[j]? from cell_of_row w g j cur e (0,0) hg];rw [show ([f1,f2,f3,f4] :List Zk)=cur.toList.take ((3+1)*1) from ht.symm] at hj;rw [List.getElem?_take] at hj
   split at hj
   ·rw [<-hj]; simp
   ·cases hj
  match i,hi with
  | 0,hi=>exact ⟨f1,UJ 0 f1 rfl,by simp at hi; subst hi; exact h1⟩
  | 1,hi=>exact ⟨f2,UJ 1 f2 rfl,by simp at hi; subst hi; exact h2⟩
  | 2,hi=>exact ⟨f3,UJ 2 f3 rfl,by simp at hi; subst hi; exact h3⟩
  | 3,hi=>exact ⟨f4,UJ 3 f4 rfl,by simp at hi; subst hi; exact h4⟩
theorem dm {w3 w4 w5 w7:Zc}{g:Nat}{o:Obj}(E:Zp w3.heap.size w3 w4)(D:Zp w4.heap.size w4 w5)(S:w4.heap.size=g+1)(hg:g=w3.heap.size)(h:(w5.alloc o).grownBy w7 (some g)) :Zp w3.heap.size w3 w7:=by
 have h1:Zp w3.heap.size w3 w5:=E.trans (D.mono E.size);exact GW (h1.alloc h1.size _) h (ZY h1.size ZE) Ze
theorem dn {w w3 w4 w5 w7:Zc}{g:Nat}{o:Obj}{v:ZN}{e n:Int}{v7:Zk}{k2 k3:Array Zk}{F2 F3:Nat}(E:Zp w3.heap.size w3 w4)(D:Zp w4.heap.size w4 w5)(S:w4.heap.size=g+1)(hg:g=w3.heap.size)(N:w.heap.size+2 < g)
  (V4:VB w4 w.heap.size v) (Z4:VB w4 (w.heap.size+2) ZS) (B4:Zp w.heap.size w w4) (C5:w5.cell? ⟨w4.heap.size,0,none⟩=some (.int .i64 e)) (f2:Vm w3 (.func (.func F2) #[] k2) (Qj 7)) (f3:Vm w3 (.func (.func F3) #[] k3) (QO e n))
  (ho:w7.ownsRow g 234 1 v7 (3+1) ([.func (.func 179) #[] #[],.func (.func F2) #[] k2,.func (.func F3) #[] k3]++[.func (.func 227) #[] #[.pointer (some ⟨w4.heap.size,0,none⟩)]]))
  (h:(w5.alloc o).grownBy w7 (some g)) : ∃a cap,v7= .slice a 4 cap/\GA w7 a [VI,Qj 7,QO e n,Xo e]/\VB w7 w.heap.size v/\VB w7 (w.heap.size+2) ZS/\Zp w.heap.size w w7:=by
 have L7:=dm E D S hg h;have C7:=(Zx.of_grown (S:=fun i=>i=g) h (fun i hi=>Option.some.inj hi)).cell (p:=⟨w4.heap.size,0,none⟩) (by show ¬w4.heap.size=g; omega) (ZD _ C5);obtain ⟨a7,cp7,h1,h2⟩:=If ho (AE.below L7) (f2.below L7) (f3.below L7) (NX C7);have s1:(some w.heap.size:Option Nat)≠some g:=Xl;have s2:(some (w.heap.size+2) :Option Nat)≠some g:=Xl;have l5:=ZY B4.size D.size;refine ⟨a7,cp7,h1,h2,Zu.grown (Yw (QY V4 D) _) h s1,Zu.grown (Yw (QY Z4 D) _) h s2,GW ((B4.trans (D.mono B4.size)).alloc l5 _) h ?_ Ze⟩;simp; omega
theorem lO: ∃i,Tryz.prog.info? 234=some i/\i.zero=some .nilFunc/\i.size=1/\i.bytes=8:=by
 have h:(Tryz.prog.info? 234).map (fun i=>(i.zero,i.size,i.bytes))=some (some .nilFunc,1,8):=ZC
 cases hi:Tryz.prog.info? 234 with
 | none=>rw [hi] at h; cases h
 | some i=>
  rw [hi] at h;simp only [Option.map_some,Option.some.injEq,Prod.mk.injEq] at h;exact ⟨i,rfl,h.1,h.2.1,h.2.2⟩
theorem dr (v:ZN)(e q:Int)(ok:Bool)(c:Nat->Int)(w:Zc)(hv:Rk v)(h0:0<=c 11)(h1:c 11<=1048576)(hq0:0<=q)(oQ:q<=v.bal)(hb:v.bal<=18446744073709551615)(hs:(v.st==2)=false)
  (hA: ∀w,Z3 178 #[.int .u64 v.bal,.int .u64 (c 18),.int .u64 (c 19)] w (.tuple #[.int .u64 q,.bool ok])) :
  Z3 128 #[.agg (Zd v),.int .i64 e,.agg (Zi c)] w (BT [VI,Qj 7,QO e (c 11)] q v):=by
 obtain ⟨r,m,hR⟩ : ∃r m,BT [VI,Qj 7,QO e (c 11)] q v=Sc r m:=⟨Qh [VI,Qj 7,QO e (c 11)] { v with bal:=v.bal - q},if(Qh [VI,Qj 7,QO e (c 11)] { v with bal:=v.bal - q}).1=0 then q else 0,rfl⟩;rw [hR];have HR:=Za hR;have HV:=Za hv;have HA:=Za hA;have HQ:=Za (Zn hq0 (Zn oQ hb));have HS:=Za hs;have HD:=Za (Zn h0 h1);clear hR hv hA hq0 oQ hb hs h0 h1;have V0:Zl (VB (((w.alloc (.cells (Zd v) 68)).alloc (.cells (Zi c) 30)).alloc (.cells (Zd ZS) 68)) w.heap.size v):=Za (Yw (Yw (Zt w _ _) _) _);have G0:Zl (Zu (((w.alloc (.cells (Zd v) 68)).alloc (.cells (Zi c) 30)).alloc (.cells (Zd ZS) 68)) (w.heap.size+1) 30 (Zi c)):=Za (Yw (Cy _ _ _) _);have Z0:Zl (VB (((w.alloc (.cells (Zd v) 68)).alloc (.cells (Zi c) 30)).alloc (.cells (Zd ZS) 68)) (w.heap.size+2) ZS):=Za (TY _ _ _ _);have B0:Zl (Zp w.heap.size w (((w.alloc (.cells (Zd v) 68)).alloc (.cells (Zi c) 30)).alloc (.cells (Zd ZS) 68))):=Za ((((Zo _ _).alloc (Zh _) _).alloc ZE _).alloc Xl _);go_enter func128,ntmps128;go_upto_region 1 with (fail);rw [Gk];generalize ((w.alloc (.cells (Zd v) 68)).alloc (.cells (Zi c) 30)).alloc (.cells (Zd ZS) 68)=W at*;have a0:=QS V0.o 0;have a18:=QS G0.o 18;have a19:=QS G0.o 19;go_wp2_with fail;refine (HA.o _).mono ?_;rintro o w1 ⟨rfl,b1⟩;have V1:=Za (QY V0.o b1);have G1:=Za (G0.o.below b1 G0.o.lt);have Z1:=Za (QY Z0.o b1);have B1:=Za (B0.o.trans (b1.mono B0.o.size));clear b1 V0 G0 Z0 B0 HA a0 a18 a19;go_wp2;refine Mz (fun w'=>VB w' w.heap.size v/\Zu w' (w.heap.size+1) 30 (Zi c)) 6 3 [1,2,3] ⟨V1.o,G1.o⟩ ?_;refine JL ?_;show ZZ _ _ _ _ [_,_,_] _;refine B9 ?_;refine Vk 3 ⟨w.heap.size+1,11,none⟩ (.int .i64 (c 11)) (fun w h=>h.2.cell 11) ?_;refine X5 ?_;refine XK ?_;have D1:Zl (Zp w1.heap.size w1 w1.drew):=Za (Vs (Zo _ _));refine Jg (i:=0) ?_;refine JC #[.int .i64 7] call180 ((NT 7 YW w1.drew).mono ?_);rintro o w2 ⟨k2,rfl,f2,b2⟩;have D2:Zl (Zp w1.heap.size w1 w2):=Za (D1.o.trans (b2.mono D1.o.size));clear b2;refine ⟨_,rfl,⟨QY V1.o D2.o,G1.o.below D2.o G1.o.lt⟩,?_⟩;refine Jg (i:=4) ?_;refine Da ?_;refine JC #[.int .i64 e,.int .i64 (c 11)] call181 ((SY e (c 11) HD.o.1 (by have:=HD.o.2; omega) w2).mono ?_);rintro o w3 ⟨k3,rfl,f3,b3⟩;have D3:Zl (Zp w1.heap.size w1 w3):=Za (D2.o.trans (b3.mono D2.o.size));replace f2:=f2.below b3;clear b3;refine ⟨_,rfl,⟨QY V1.o D3.o,G1.o.below D3.o G1.o.lt⟩,?_⟩;refine DM ?_;refine Da ?_;refine Yz rfl rfl (BM 237 234 _ (.tmp 22) (.tmp 26) _ _ (.func (.func 179) #[] #[]) (.func (.func 222) #[] k2) (.func (.func 224) #[] k3) rfl rfl rfl rfl underlying237 Bl rfl rfl rfl rfl ?_);have b4:Zp w3.heap.size w3 (w3.alloc (.cells #[.func (.func 179) #[] #[],.func (.func 222) #[] k2,.func (.func 224) #[] k3] 234)):=(Zo _ _).alloc (Zh _) _;have D4:Zl (Zp w1.heap.size w1 (w3.alloc (.cells #[.func (.func 179) #[] #[],.func (.func 222) #[] k2,.func (.func 224) #[] k3] 234))):=Za (D3.o.trans (b4.mono D3.o.size));have R4:Zl (Zu (w3.alloc (.cells #[.func (.func 179) #[] #[],.func (.func 222) #[] k2,.func (.func 224) #[] k3] 234)) w3.heap.size 234 _):=Za (Zt w3 _ _);refine ⟨⟨QY V1.o D4.o,G1.o.below D4.o G1.o.lt⟩,?_⟩;refine GO ?_;refine ⟨by kernel_rfl,?_⟩;refine Mh ?_;have F2:=Za f2;have F3:=Za f3;have E4:=Za b4;have N3:Zl (w.heap.size+2 < w3.heap.size):=Za (YE Z1.o.lt D3.o.size);have V4:=Za (QY V1.o D4.o);have Z4:=Za (QY Z1.o D4.o);have B4:=Za (B1.o.trans (D4.o.mono B1.o.size));have N1:=Za B1.o.size;have S4:Zl ((w3.alloc (.cells #[.func (.func 179) #[] #[],.func (.func 222) #[] k2,.func (.func 224) #[] k3] 234)).heap.size=w3.heap.size+1):=Za ZE;clear f2 f3 b4 D1 D2 D3 D4 V1 G1 Z1 B1;generalize w3.alloc (.cells #[.func (.func 179) #[] #[],.func (.func 222) #[] k2,.func (.func 224) #[] k3] 234)=w4 at*;obtain ⟨g,hg⟩ : ∃g,g=w3.heap.size:=⟨_,rfl⟩;rw [<-hg] at R4 N3 S4 ⊢;have HG:=Za hg;clear hg;have c4:=QS V4.o 1;have CG:Zl (GA w4 (some ⟨g,0,none⟩) [VI,Qj 7,QO e (c 11)]):=Za (WB R4.o (AE.below E4.o) (F2.o.below E4.o) (F3.o.below E4.o));have s2:(v.st==2)=false:=HS.o;have HC:=Za (MW [VI,Qj 7,QO e (c 11)] (some ⟨g,0,none⟩) 3 q v w4 HV.o HQ.o.1 HQ.o.2.1 HQ.o.2.2 ZE CG.o);rw [HR.o] at HC;clear CG F2 F3 E4 R4;go_wp2;refine Gy ?_;go_wp2_with (first | (refine Kz 68 w.heap.size V4.o underlying68 Yb ?_) | fail);refine HC.o.mono ?_;rintro o w5 ⟨rfl,b5⟩;have Z5:Zl (VB w5 (w.heap.size+2) ZS):=Za (QY Z4.o b5);have B5:Zl (Zp w.heap.size w w5):=Za (B4.o.trans (b5.mono B4.o.size));clear b5 Z4 B4 V4 HC c4;unfold Sc;go_wp2_with (first | (refine UP (w.heap.size+2) (Zd r.2) 68 Z5.o Yb (Ys r.2) ?_));exact Yd (v:=Sc r m) (KM (fn:=Tryz.f128) rfl _ _ (w.heap.size+2) 68 _ (0,0) _ rfl (YA _ _ _ _ _ _ Z5.o) underlying68 rfl Yb) rfl ⟨rfl,Xt B5.o Ze _⟩
theorem IC (v:ZN)(e q:Int)(ok:Bool)(c:Nat->Int)(w:Zc)(hv:Rk v)(h0:0<=c 11)(h1:c 11<=1048576)(hq0:0<=q)(oQ:q<=v.bal)(hb:v.bal<=18446744073709551615)(hs:(v.st==2)=true)
  (hA: ∀w,Z3 178 #[.int .u64 v.bal,.int .u64 (c 18),.int .u64 (c 19)] w (.tuple #[.int .u64 q,.bool ok])) :
  Z3 128 #[.agg (Zd v),.int .i64 e,.agg (Zi c)] w (BT [VI,Qj 7,QO e (c 11),Xo e] q v):=by
 obtain ⟨r,m,hR⟩ : ∃r m,BT [VI,Qj 7,QO e (c 11),Xo e] q v=Sc r m:=⟨Qh [VI,Qj 7,QO e (c 11),Xo e] { v with bal:=v.bal - q},if(Qh [VI,Qj 7,QO e (c 11),Xo e] { v with bal:=v.bal - q}).1=0 then q else 0,rfl⟩;rw [hR];have HR:=Za hR;have HV:=Za hv;have HA:=Za hA;have HQ:=Za (Zn hq0 (Zn oQ hb));have HS:=Za hs;have HD:=Za (Zn h0 h1);clear hR hv hA hq0 oQ hb hs h0 h1;have V0:Zl (VB (((w.alloc (.cells (Zd v) 68)).alloc (.cells (Zi c) 30)).alloc (.cells (Zd ZS) 68)) w.heap.size v):=Za (Yw (Yw (Zt w _ _) _) _);have G0:Zl (Zu (((w.alloc (.cells (Zd v) 68)).alloc (.cells (Zi c) 30)).alloc (.cells (Zd ZS) 68)) (w.heap.size+1) 30 (Zi c)):=Za (Yw (Cy _ _ _) _);have Z0:Zl (VB (((w.alloc (.cells (Zd v) 68)).alloc (.cells (Zi c) 30)).alloc (.cells (Zd ZS) 68)) (w.heap.size+2) ZS):=Za (TY _ _ _ _);have B0:Zl (Zp w.heap.size w (((w.alloc (.cells (Zd v) 68)).alloc (.cells (Zi c) 30)).alloc (.cells (Zd ZS) 68))):=Za ((((Zo _ _).alloc (Zh _) _).alloc ZE _).alloc Xl _);go_enter func128,ntmps128;go_upto_region 1 with (fail);rw [Gk];generalize ((w.alloc (.cells (Zd v) 68)).alloc (.cells (Zi c) 30)).alloc (.cells (Zd ZS) 68)=W at*;have a0:=QS V0.o 0;have a18:=QS G0.o 18;have a19:=QS G0.o 19;go_wp2_with fail;refine (HA.o _).mono ?_;rintro o w1 ⟨rfl,b1⟩;have V1:=Za (QY V0.o b1);have G1:=Za (G0.o.below b1 G0.o.lt);have Z1:=Za (QY Z0.o b1);have B1:=Za (B0.o.trans (b1.mono B0.o.size));clear b1 V0 G0 Z0 B0 HA a0 a18 a19;go_wp2;refine Mz (fun w'=>VB w' w.heap.size v/\Zu w' (w.heap.size+1) 30 (Zi c)) 6 3 [1,2,3] ⟨V1.o,G1.o⟩ ?_;refine JL ?_;show ZZ _ _ _ _ [_,_,_] _;refine B9 ?_;refine Vk 3 ⟨w.heap.size+1,11,none⟩ (.int .i64 (c 11)) (fun w h=>h.2.cell 11) ?_;refine X5 ?_;refine XK ?_;have D1:Zl (Zp w1.heap.size w1 w1.drew):=Za (Vs (Zo _ _));refine Jg (i:=0) ?_;refine JC #[.int .i64 7] call180 ((NT 7 YW w1.drew).mono ?_);rintro o w2 ⟨k2,rfl,f2,b2⟩;have D2:Zl (Zp w1.heap.size w1 w2):=Za (D1.o.trans (b2.mono D1.o.size));clear b2;refine ⟨_,rfl,⟨QY V1.o D2.o,G1.o.below D2.o G1.o.lt⟩,?_⟩;refine Jg (i:=4) ?_;refine Da ?_;refine JC #[.int .i64 e,.int .i64 (c 11)] call181 ((SY e (c 11) HD.o.1 (by have:=HD.o.2; omega) w2).mono ?_);rintro o w3 ⟨k3,rfl,f3,b3⟩;have D3:Zl (Zp w1.heap.size w1 w3):=Za (D2.o.trans (b3.mono D2.o.size));replace f2:=f2.below b3;clear b3;refine ⟨_,rfl,⟨QY V1.o D3.o,G1.o.below D3.o G1.o.lt⟩,?_⟩;refine DM ?_;refine Da ?_;refine Yz rfl rfl (BM 237 234 _ (.tmp 22) (.tmp 26) _ _ (.func (.func 179) #[] #[]) (.func (.func 222) #[] k2) (.func (.func 224) #[] k3) rfl rfl rfl rfl underlying237 Bl rfl rfl rfl rfl ?_);have b4:Zp w3.heap.size w3 (w3.alloc (.cells #[.func (.func 179) #[] #[],.func (.func 222) #[] k2,.func (.func 224) #[] k3] 234)):=(Zo _ _).alloc (Zh _) _;have D4:Zl (Zp w1.heap.size w1 (w3.alloc (.cells #[.func (.func 179) #[] #[],.func (.func 222) #[] k2,.func (.func 224) #[] k3] 234))):=Za (D3.o.trans (b4.mono D3.o.size));have R4:Zl (Zu (w3.alloc (.cells #[.func (.func 179) #[] #[],.func (.func 222) #[] k2,.func (.func 224) #[] k3] 234)) w3.heap.size 234 _):=Za (Zt w3 _ _);refine ⟨⟨QY V1.o D4.o,G1.o.below D4.o G1.o.lt⟩,?_⟩;refine GO ?_;refine ⟨by kernel_rfl,?_⟩;refine Mh ?_;have F2:=Za f2;have F3:=Za f3;have E4:=Za b4;have N3:Zl (w.heap.size+2 < w3.heap.size):=Za (YE Z1.o.lt D3.o.size);have V4:=Za (QY V1.o D4.o);have Z4:=Za (QY Z1.o D4.o);have B4:=Za (B1.o.trans (D4.o.mono B1.o.size));have N1:=Za B1.o.size;have S4:Zl ((w3.alloc (.cells #[.func (.func 179) #[] #[],.func (.func 222) #[] k2,.func (.func 224) #[] k3] 234)).heap.size=w3.heap.size+1):=Za ZE;clear f2 f3 b4 D1 D2 D3 D4 V1 G1 Z1 B1;generalize w3.alloc (.cells #[.func (.func 179) #[] #[],.func (.func 222) #[] k2,.func (.func 224) #[] k3] 234)=w4 at*;obtain ⟨g,hg⟩ : ∃g,g=w3.heap.size:=⟨_,rfl⟩;rw [<-hg] at R4 N3 S4 ⊢;have HG:=Za hg;clear hg;have c4:=QS V4.o 1;have s2:(v.st==2)=true:=HS.o;obtain ⟨ci,hci,BK,By,Nb⟩:=lO;have HI:=Za (Zn hci (Zn BK (Zn By Nb)));clear hci BK By Nb;have RQ:=Za (il e w4);go_wp2;refine Gy ?_;go_wp2_with fail;refine RQ.o.mono ?_;rintro o w5 ⟨rfl,hw5⟩;have C5:Zl (w5.cell? ⟨w4.heap.size,0,none⟩=some (.int .i64 e)):=Za (by rw [<-hw5]; exact (Zt w4 3 _).cell 0);have R5:=Za (show Zu w5 g 234 _ by rw [<-hw5]; exact R4.o.alloc _);have D5:Zl (Zp w4.heap.size w4 w5):=Za (by rw [<-hw5]; exact (Zo _ _).alloc (Zh _) _);have S5:Zl (w5.heap.size=w4.heap.size+1):=Za (by rw [<-hw5]; simp);clear hw5 RQ R4 c4;go_wp2_with (first | (at_builtin; refine wpList_append_own _ rfl (.tmp 31) (.tmp 34) 237 rfl g 234 ci _ 1 8 underlying237 HI.o.1 HI.o.2.1 HI.o.2.2.1 HI.o.2.2.2 rfl Nat.one_pos _ 3 _ rfl (gH (R5.o.alloc _) (Zh _)) ⟨w5.heap.size,0,none⟩ 1 1 [.func (.func 227) #[] #[.pointer (some ⟨w4.heap.size,0,none⟩)]] rfl rfl (fun j u hj=>by rw [add_plain,ZV,XP (Zt w5 234 #[.func (.func 227) #[] #[.pointer (some ⟨w4.heap.size,0,none⟩)]]) j]; simpa using hj) (by simp [Value.oneCell']) (by unfold maxLen; omega) Ze (by have:=S4.o; have:=S5.o; simp; omega) ?_; intro v7 w7 ho7 hg7 ha7; obtain ⟨a7,cp7,rfl,CH7,v7,z7,b7⟩:=dn E4.o D5.o S4.o HG.o N3.o V4.o Z4.o B4.o C5.o F2.o F3.o ho7 hg7; have V7:=Za v7; have Z7:=Za z7; have B7:=Za b7; clear v7 z7 b7; have HC:=Za (MW [VI,Qj 7,QO e (c 11),Xo e] a7 cp7 q v w7 HV.o HQ.o.1 HQ.o.2.1 HQ.o.2.2 ZE CH7); rw [HR.o] at HC; clear ho7 hg7 ha7 CH7 HI C5 R5 D5 S5 V4 Z4 B4) | (refine Kz 68 w.heap.size V7.o underlying68 Yb ?_));refine HC.o.mono ?_;rintro o w8 ⟨rfl,b8⟩;have Z8:Zl (VB w8 (w.heap.size+2) ZS):=Za (QY Z7.o b8);have B8:Zl (Zp w.heap.size w w8):=Za (B7.o.trans (b8.mono B7.o.size));clear b8 Z7 B7 V7 HC;unfold Sc;go_wp2_with (first | (refine UP (w.heap.size+2) (Zd r.2) 68 Z8.o Yb (Ys r.2) ?_));exact Yd (v:=Sc r m) (KM (fn:=Tryz.f128) rfl _ _ (w.heap.size+2) 68 _ (0,0) _ rfl (YA _ _ _ _ _ _ Z8.o) underlying68 rfl Yb) rfl ⟨rfl,Xt B8.o Ze _⟩
end
section
open Go Go.RowKit
section
variable {v:ZN} {e n:Int}
theorem vK (h: ¬RO e) :Qh [Xo e,Qj 2] v=(10,ZS):=by
 simp [Qh,Xo,h]
theorem js (h:RO e)(h2:Jk v.st 2=0) :Qh [Xo e,Qj 2] v=(8,ZS):=by
 simp [Qh,Xo,h,Qj,h2]
theorem o6 (h:RO e)(h2:Jk v.st 2≠0) :Qh [Xo e,Qj 2] v=(0,{ v with rq:=e,st:=Jk v.st 2}):=by
 simp [Qh,Xo,h,Qj,h2]
theorem VZ {f:Ng}{es:List Ng}{x y:ZN}(h:f x=(0,y)) :Qh (f::es) x=Qh es y:=by
 rw [Qh,h];exact if_pos rfl
theorem TJ {f:Ng}{es:List Ng}{x y:ZN}{c:Int}(h:f x=(c,y))(hc:c≠0) :Qh (f::es) x=(c,ZS):=by
 rw [Qh,h];exact if_neg hc
theorem Cq (h:v.st=3/\v.ex= -1)(h2:Nc e n) :Qh [XA e,QO e n] v=(0,{ v with ex:=e,wd:=max v.wd (e+n)}):=
 (VZ (y:= { v with ex:=e}) (if_pos h)).trans (VZ (y:= { v with ex:=e,wd:=max v.wd (e+n)}) (if_pos h2))
theorem ZdL (h:v.st=5)(h1:v.wd<=e) :Qh [Dy e,Qj 5] v=(0,{ v with st:=6}):=by
 have e6:Jk v.st 5=6:=by rw [h]; rfl
 refine (VZ (y:=v) (if_neg Ze)).trans (VZ (y:= { v with st:=6}) ?_);unfold Qj;rw [e6];rfl
def Kq (v:ZN)(e n:Int) :List Ng:=if v.st=2 then [VI,Qj 7,QO e n,Xo e] else [VI,Qj 7,QO e n]
def iD (v:ZN)(e n:Int) :ZN:= { v with st:=Jk v.st 7,sl:=true,rq:=if v.st=2 then e else v.rq,wd:=max v.wd (e+n),dl:= -1}
theorem RP (h:v.sl=false) :VI v=(0,{ v with sl:=true,dl:= -1}):=if_neg (by rw [h]; decide)
theorem Zd3 (h:v.sl=true) :Qh (Kq v e n) v=(9,ZS):=by
 unfold Kq
 split <;> exact TJ (y:=v) (if_pos h) YW
theorem Zd0 (h:v.sl=false)(h2:Jk v.st 7=0) :Qh (Kq v e n) v=(8,ZS):=by
 unfold Kq
 split <;> exact (VZ (RP h)).trans (TJ (y:= { v with sl:=true,dl:= -1}) (if_pos h2) YW)
theorem Zd2 (h:v.sl=false)(h2:Jk v.st 7≠0)(h3: ¬Nc e n) :Qh (Kq v e n) v=(10,ZS):=by
 unfold Kq
 split <;> exact (VZ (RP h)).trans ((VZ (y:= { v with sl:=true,dl:= -1,st:=Jk v.st 7}) (if_neg h2)).trans (TJ (y:= { v with sl:=true,dl:= -1,st:=Jk v.st 7}) (if_neg h3) YW))
theorem kt (h:v.sl=false)(h2:Jk v.st 7≠0)(h3:Nc e n) :Qh (Kq v e n) v=(0,iD v e n):=by
 have k:Qh [QO e n] { v with sl:=true,dl:= -1,st:=Jk v.st 7}=(0,{ v with sl:=true,dl:= -1,st:=Jk v.st 7,wd:=max v.wd (e+n)}):=VZ (if_pos h3);unfold Kq iD
 by_cases h4:v.st=2
 ·rw [if_pos h4,if_pos h4];exact (VZ (RP h)).trans ((VZ (y:= { v with sl:=true,dl:= -1,st:=Jk v.st 7}) (if_neg h2)).trans ((VZ (y:= { v with sl:=true,dl:= -1,st:=Jk v.st 7,wd:=max v.wd (e+n)}) (if_pos h3)).trans (VZ (y:= { v with sl:=true,dl:= -1,st:=Jk v.st 7,wd:=max v.wd (e+n),rq:=e}) (if_pos h3.1))))
 ·rw [if_neg h4,if_neg h4];exact (VZ (RP h)).trans ((VZ (y:= { v with sl:=true,dl:= -1,st:=Jk v.st 7}) (if_neg h2)).trans k)
end
end
section
open Go Go.RowKit
theorem xY (v:ZN)(e:Int)(w:Zc)(hv:Rk v)(h0:0<=v.bal)(h1:v.bal<=18446744073709551615) :
  Z3 210 #[.agg (Zd v),.int .i64 e] w (BT [Dy e,Qj 5] v.bal v):=by
 obtain ⟨r,m,hR⟩ : ∃r m,BT [Dy e,Qj 5] v.bal v=Sc r m:=⟨Qh [Dy e,Qj 5] { v with bal:=v.bal - v.bal},if(Qh [Dy e,Qj 5] { v with bal:=v.bal - v.bal}).1=0 then v.bal else 0,rfl⟩;rw [hR];have HR:=Za hR;have HV:=Za hv;clear hR hv;go_enter func210,ntmps210;go_upto_region 1 with (fail);rw [Gk];have V0:Zl (VB ((w.alloc (.cells (Zd v) 68)).alloc (.cells (Zd ZS) 68)) w.heap.size v):=Za (Yw (Zt w _ _) _);have Z0:Zl (VB ((w.alloc (.cells (Zd v) 68)).alloc (.cells (Zd ZS) 68)) (w.heap.size+1) ZS):=Za (tv _ _ _);have B0:Zl (Zp w.heap.size w ((w.alloc (.cells (Zd v) 68)).alloc (.cells (Zd ZS) 68))):=Za (((Zo _ _).alloc (Zh _) _).alloc ZE _);generalize (w.alloc (.cells (Zd v) 68)).alloc (.cells (Zd ZS) 68)=W at*;go_wp2;refine Mz (fun w'=>VB w' w.heap.size v) 11 7 [0,1,2,3] V0.o ?_;refine JL ?_;refine He ?_;refine QP 68 _ w.heap.size 68 (Zd v) _ ZC rfl rfl (fun w h=>h) underlying68 rfl Yb ?_;refine X5 ?_;refine Gz ?_;refine Vk 23 ⟨w.heap.size,0,none⟩ (.int .u64 v.bal) (fun w h=>XP h 0) ?_;refine X5 ?_;refine Gz ?_;refine XK ?_;have D0:Zl (Zp W.heap.size W W.drew):=Za (Vs (Zo _ _));refine Jg (i:=4) ?_;refine JC #[.int .i64 e] call249 ((sF e W.drew).mono ?_);rintro o w1 ⟨k1,rfl,f1,b1⟩;have D1:Zl (Zp W.heap.size W w1):=Za (D0.o.trans (b1.mono D0.o.size));clear b1;refine ⟨_,rfl,QY V0.o D1.o,?_⟩;refine DM ?_;refine Da ?_;refine JC #[.int .i64 5] call180 ((NT 5 YW w1).mono ?_);rintro o w2 ⟨k2,rfl,f2,b2⟩;have D2:Zl (Zp W.heap.size W w2):=Za (D1.o.trans (b2.mono D1.o.size));replace f1:=f1.below b2;clear b2;refine ⟨_,rfl,QY V0.o D2.o,?_⟩;refine Mo ?_;refine Da ?_;refine Yz rfl rfl (QE 237 234 (.tmp 11) (.tmp 12) _ _ (.func (.func 278) #[] k1) (.func (.func 222) #[] k2) rfl rfl rfl underlying237 Bl rfl rfl rfl ?_);have b3:Zp w2.heap.size w2 (w2.alloc (.cells #[.func (.func 278) #[] k1,.func (.func 222) #[] k2] 234)):=(Zo _ _).alloc (Zh _) _;have CH:=Za (Hq (Zt w2 234 _) (f1.below b3) (f2.below b3));have D3:=Za (D2.o.trans (b3.mono D2.o.size));clear f1 f2 b3;generalize w2.alloc (.cells #[.func (.func 278) #[] k1,.func (.func 222) #[] k2] 234)=w3 at*;generalize w2.heap.size=g at*;refine ⟨QY V0.o D3.o,?_⟩;refine Jg (i:=7) ?_;refine Da ?_;refine JC #[.agg (Zd v),.int .u64 v.bal,.slice (some ⟨g,0,none⟩) 2 2] call183 ((MW [Dy e,Qj 5] (some ⟨g,0,none⟩) 2 v.bal v w3 HV.o h0 (Int.le_refl _) h1 ZE CH.o).mono ?_);rw [HR.o];rintro o w4 ⟨rfl,b4⟩;have D4:=Za (D3.o.trans (b4.mono D3.o.size));clear b4 CH;have V4:=QY V0.o D4.o;refine ⟨_,rfl,V4,?_⟩;refine Da ?_;unfold Sc;refine SR (fun w'=>VB w' w.heap.size v) (m:=3) (f:=0) [8,9,10] V4 ?_;refine JL ?_;show ZZ _ _ _ _ [_,_,_] _;iterate 3 (go_big_quiet_step ((intros; rfl)))
 refine XK ?_;refine GO ?_;refine ⟨by kernel_rfl,?_⟩;refine Mh ?_;have Z4:Zl (VB w4 (w.heap.size+1) ZS):=Za (QY Z0.o D4.o);have B4:Zl (Zp w.heap.size w w4):=Za (B0.o.trans (D4.o.mono B0.o.size));clear D4 D3 D2 D1 D0 Z0 B0 V0 V4;go_wp2_with (first | (refine UP (w.heap.size+1) (Zd r.2) 68 Z4.o Yb (Ys r.2) ?_));refine Gy ?_;go_wp2;exact Yd (v:=Sc r m) (KM (fn:=Tryz.f210) rfl _ _ (w.heap.size+1) 68 _ (0,0) _ rfl (YA _ _ _ _ _ _ Z4.o) underlying68 rfl Yb) rfl ⟨rfl,Xt B4.o Ze _⟩
end
end Go.Proofs.YtobgbcdgffgdhaaGreat
