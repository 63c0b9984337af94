/- Part 23 of 34: L15Settle L15Accept L15Assign L15Slash L15Refs L15Pay. -/
import Derived.Test.YtobgbcdgffgdhaaGreatZx00
import Derived.Test.YtobgbcdgffgdhaaGreatZx20
import Derived.Test.YtobgbcdgffgdhaaGreatZx21
namespace Go.Proofs.YtobgbcdgffgdhaaGreat
set_option linter.unusedVariables false
set_option linter.unusedSimpArgs false
set_option maxRecDepth 100000
set_option maxHeartbeats 8000000
open _root_.And renaming intro -> Zm
open _root_.Go.RowKit renaming Below -> Zp
open _root_.Go.RowKit.Below renaming drew -> VY, refl -> Zn
open _root_.Go.Proofs.YtobgbcdgffgdhaaGreat.Zu renaming alloc -> YK, below -> Gb, cell -> Qc, new -> Zs
open _root_.Go renaming Calls -> Zv, Value -> Zl, World -> Zc, below_setRow -> Xw, bodyPost_ret -> Ye, setRow_heap -> YH, undef -> KJ, wpQuiet -> Yl
open _root_.Nat renaming le_refl -> Zh, le_trans -> ZZ, lt_of_lt_of_le -> YC, zero_add -> ZW
open _root_.Go.Proofs.Tryz renaming prog -> Zb
open _root_.Go.World renaming setRow_alloc_new -> Zq
open Go.Proofs.Tryz
theorem Zfn {G:Prop} (h:G:=by
  exact ⟨f1,by rw [Nat.zero_add]; exact h.cell 0,by simp at hi; subst hi; exact h1⟩) :G:=h
theorem Zfo {G:Prop} (h:G:=by
  exact ⟨f2,by rw [Nat.zero_add]; exact h.cell 1,by simp at hi; subst hi; exact h2⟩) :G:=h
theorem o6 {G:Prop} (h:G:=by
  go_wp2;go_ret;exact ⟨_,rfl,HN.o,(Below.refl _ _).alloc (Nat.le_refl _) _⟩) :G:=h
theorem ZfG {G:Prop} (h:G:=by
  rw [show (w.alloc o).heap.size=w.heap.size+1 by simp] at this;exact this) :G:=h
section
open Go Go.RowKit
section
variable {w:Zc}
theorem Vl {P:Program}{fn:Func}{p u q:Tmp}{ty:TypeId}(h:fn.results= #[.cell p ty,.tmp u,.tmp q])(tmps:Array Zl)(w:Zc)(g:Nat)(t:TypeId)(cs:Array Zl)(fr:Nat × Nat)(d:TypeDesc)
  (hp:tmps.getD p KJ= .pointer (some ⟨g,0,none⟩)) (hg:w.heap[g]?=some (.cells cs t fr))
  (hu:P.underlying ty=some d) (hd:(match d with | .struct _ | .array _ _=>true | _=>false)=true) (hi:(P.info? ty).map (·.size)=some cs.size) :
  (results fn tmps).run P w= .ok (.tuple #[.agg cs,tmps.getD u KJ,tmps.getD q KJ]) w:=by
 have e:(results fn tmps).run P w=((asAddr (tmps.getD p KJ)).run P w).andThen fun a w₁=>((loadVar ty a).run P w₁).andThen fun v w₂=> .ok (.tuple #[v,tmps.getD u KJ,tmps.getD q KJ]) w₂:=by
  simp only [results,h];simp [Sem.run_bind,Result.andThen]
 rw [e,hp];exact ZfH
theorem F5 (fn:Fn)(first cap:Array Zl)(w:Zc) :(Instr.makeFunc fn first cap).run Zb w= .ok (.func fn first cap) w:=rfl
theorem iy (e:Int)(w:Zc) :Zv Zb 182 #[.int .i64 e] w fun o w'=> ∃c,o= .returned (.func (.func 227) #[] c)/\VT w' (.func (.func 227) #[] c) (XA e)/\Zp w.heap.size w w':=by
 have bR:=F5;have HN:=Za (PM (e:=e) ((Zs w 3 #[.int .i64 e]).cell 0));go_enter func182,ntmps182;exact o6
theorem PI (ev:Int)(he:(Lit.int .i64 ev).wf=true)(w:Zc) :Zv Zb 180 #[.int .i64 ev] w fun o w'=> ∃c,o= .returned (.func (.func 222) #[] c)/\VT w' (.func (.func 222) #[] c) (QH ev)/\Zp w.heap.size w w':=by
 have bR:=F5;have HN:=Za (rR (ev:=ev) he ((Zs w 3 #[.int .i64 ev]).cell 0));clear he;go_enter func180,ntmps180;exact o6
theorem cZ (e:Int)(w:Zc) :Zv Zb 267 #[.int .i64 e] w fun o w'=> ∃c,o= .returned (.func (.func 286) #[] c)/\VT w' (.func (.func 286) #[] c) (XM e)/\Zp w.heap.size w w':=by
 have bR:=F5;have HN:=Za (Io (e:=e) ((Zs w 3 #[.int .i64 e]).cell 0));go_enter func267,ntmps267;exact o6
theorem xH (e:Int)(w:Zc) :Zv Zb 249 #[.int .i64 e] w fun o w'=> ∃c,o= .returned (.func (.func 278) #[] c)/\VT w' (.func (.func 278) #[] c) (EG e)/\Zp w.heap.size w w':=by
 have bR:=F5;have HN:=Za (sd (e:=e) ((Zs w 3 #[.int .i64 e]).cell 0));go_enter func249,ntmps249;exact o6
theorem Ah (e n:Int)(h0:0<=n)(h1:n<=9223372036854775807)(w:Zc) :Zv Zb 181 #[.int .i64 e,.int .i64 n] w fun o w'=> ∃c,o= .returned (.func (.func 224) #[] c)/\VT w' (.func (.func 224) #[] c) (Ja e n)/\Zp w.heap.size w w':=by
 have bR:=F5;have c1:((w.alloc (.cells #[.int .i64 e] 3)).alloc (.cells #[.int .i64 n] 3)).cell? ⟨w.heap.size,0,none⟩=some (.int .i64 e):=((Zs w 3 #[.int .i64 e]).alloc _).cell 0;have c2:((w.alloc (.cells #[.int .i64 e] 3)).alloc (.cells #[.int .i64 n] 3)).cell? ⟨w.heap.size+1,0,none⟩=some (.int .i64 n):=by
  have:=(Zs (w.alloc (.cells #[.int .i64 e] 3)) 3 #[.int .i64 n]).cell 0;rwa [show (w.alloc (.cells #[.int .i64 e] 3)).heap.size=w.heap.size+1 by simp] at this
 have HN:=Za (ri h0 h1 c1 c2);clear h0 h1 c1 c2;go_enter func181,ntmps181;go_wp2;go_ret;exact ⟨_,rfl,HN.o,((Zn _ _).alloc (Zh _) _).alloc ZE _⟩
end
theorem Dy:(Tryz.prog.info? 234).map (fun i=>(i.zero,i.size))=some (some (.nilFunc),1):=ZC
theorem Mm {w:Zc}{g t:Nat}{f1 f2:Zl}{e1 e2:OU}(h:Zu w g t #[f1,f2])(h1:VT w f1 e1)(h2:VT w f2 e2) :BC w (some ⟨g,0,none⟩) [e1,e2]:=by
 refine ⟨g,0,rfl,fun i e hi=>?_⟩
 match i,hi with
 | 0,hi=>exact Zfn
 | 1,hi=>exact Zfo
theorem CX {w:Zc}{g t:Nat}{f1 f2 f3:Zl}{e1 e2 e3:OU}(h:Zu w g t #[f1,f2,f3])(h1:VT w f1 e1)(h2:VT w f2 e2)(h3:VT w f3 e3) :BC w (some ⟨g,0,none⟩) [e1,e2,e3]:=by
 refine ⟨g,0,rfl,fun i e hi=>?_⟩
 match i,hi with
 | 0,hi=>exact Zfn
 | 1,hi=>exact Zfo
 | 2,hi=>exact ⟨f3,by rw [ZW]; exact h.cell 2,by simp at hi; subst hi; exact h3⟩
theorem iE: ∀(es:List OU) (x:ZN),(QE es x).1≠0->(QE es x).2=ZU
 | [],x,h=>absurd rfl h
 | e::es,x,h=>by
  unfold QE at h ⊢
  split at h
  ·rename_i h0
   rw [if_pos h0];exact iE es _ h
  ·rename_i h0
   rw [if_neg h0]
theorem Bn:(#[.int .u64 0,.int .i64 0,.bool false,.int .i64 0,.int .i64 0,.int .i64 0,.int .i64 0] :Array Zl)=Ze ZU:=rfl
def Ea (es:List OU)(n:Int)(v:ZN) :Zl:=
 .tuple #[.agg (Ze (QE es { v with bal:=v.bal - n}).2),.int .u64 (if(QE es { v with bal:=v.bal - n}).1=0 then n else 0),.int .i64 (QE es { v with bal:=v.bal - n}).1]
theorem OC (es:List OU)(a:Option Addr)(cap:Nat)(n:Int)(v:ZN)(w:Zc)(hv:Tq v)(h0:0<=n)(h1:n<=v.bal)(h2:v.bal<=18446744073709551615)(hlen:es.length<=1000)(hc:BC w a es) :
  Z3 183 #[.agg (Ze v),.int .u64 n,.slice a es.length cap] w (Ea es n v):=by
 obtain ⟨y,hy⟩ : ∃y:ZN,y= { v with bal:=v.bal - n}:=⟨_,rfl⟩;have HR:Zj (Ea es n v= .tuple #[.agg (Ze (QE es y).2),.int .u64 (if(QE es y).1=0 then n else 0),.int .i64 (QE es y).1]):=Za (by rw [hy]; rfl);have HS:Zj (Tq y):=Za (by rw [hy]; exact hv);have HC:=Za hc;have HL:=Za hlen;have hb:v.bal - n<=18446744073709551615:=Zd;obtain ⟨z,hz⟩ : ∃z,z=v.bal - n:=⟨_,rfl⟩;have HY:Zj (y= { v with bal:=z}):=Za (by rw [hy,hz]);have hw:IntKind.u64.wrap (v.bal - n)=z:=by rw [hz]; exact IntWalk.u64_in _ Zd
 obtain ⟨len,hl⟩:=ZR (es.length);rw [hl];have tk:=Za hl;clear hc hv hl hlen hy hz;have W0:Zj (VB ((w.alloc (.cells (Ze v) 68)).alloc (.cells (Ze ZU) 68)) w.heap.size v):=Za (YK (Zs w _ _) _);have F0:=W0.o.fz 0;have c0:((w.alloc (.cells (Ze v) 68)).alloc (.cells (Ze ZU) 68)).cell? ⟨w.heap.size,0,none⟩=some (.int .u64 v.bal):=Qc W0.o 0;have Z0:Zj (VB ((w.alloc (.cells (Ze v) 68)).alloc (.cells (Ze ZU) 68)) (w.heap.size+1) ZU):=Za (by
  have:=Zs (w.alloc (.cells (Ze v) 68)) 68 (Ze ZU);rw [show (w.alloc (.cells (Ze v) 68)).heap.size=w.heap.size+1 by simp] at this;exact this)
 have B0:Zj (Zp w.heap.size w ((w.alloc (.cells (Ze v) 68)).alloc (.cells (Ze ZU) 68))):=Za (((Zn _ _).alloc (Zh _) _).alloc ZE _);go_enter func183,ntmps183;go_upto_region 1 with (fail);rw [Bn];generalize (w.alloc (.cells (Ze v) 68)).alloc (.cells (Ze ZU) 68)=W at*;go_upto_region 2 with (fail);have W1:Zj (VB (W.setCell ⟨w.heap.size,0,none⟩ (.int .u64 z)) w.heap.size y):=Za (by rw [HY.o]; exact W0.o.set rfl);have Z1:Zj (VB (W.setCell ⟨w.heap.size,0,none⟩ (.int .u64 z)) (w.heap.size+1) ZU):=Za (Zu.far Z0.o ZE _);have B1:Zj (Zp w.heap.size w (W.setCell ⟨w.heap.size,0,none⟩ (.int .u64 z))):=Za (Db B0.o (QX (K9 _ _) (.inl rfl) _) B0.o.size (Zh _));have C1:Zj (BC (W.setCell ⟨w.heap.size,0,none⟩ (.int .u64 z)) a es):=Za (HC.o.below B1.o);clear W0 Z0 B0 F0 c0 hw;generalize W.setCell ⟨w.heap.size,0,none⟩ (.int .u64 z)=W at*;have HA:=Za (Ro es a cap y W HS.o HL.o C1.o);rw [tk.o] at HA;have HE:=Za (iE es y);generalize hr:QE es y=r at HA HR HE;obtain ⟨cd,x⟩:=r;simp only at HA HR HE;clear hr
 by_cases h:cd=0
 ·have RG:(cd != 0)=false:=KM;rw [if_pos h] at HR;subst h;go_wp2_with (first | (refine Kl 68 w.heap.size W1.o underlying68 Ya ?_) | fail);refine HA.o.mono ?_;rintro o w2 ⟨rfl,b2⟩;have Z2:Zj (VB (w2.alloc (.cells (Ze x) 68)) (w.heap.size+1) ZU):=Za (YK (Gb Z1.o b2 Z1.o.lt) _);have X2:Zj (VB (w2.alloc (.cells (Ze x) 68)) w2.heap.size x):=Za (Zs _ _ _);have B2:Zj (Zp w.heap.size w (w2.alloc (.cells (Ze x) 68))):=Za ((B1.o.trans (b2.mono B1.o.size)).alloc (ZZ B1.o.size b2.size) _);clear b2 Z1 W1 B1 C1 HA;go_wp2_with (first | (refine Up w2.heap.size (Ze x) 68 (heap_alloc_new w2 _) Ya (Yi x) ?_; rw [Zq]) | (refine Kl 68 w2.heap.size X2.o underlying68 Ya ?_) | (refine Up (w.heap.size+1) (Ze x) 68 Z2.o Ya (Yi x) ?_));rw [HR.o];exact Ye (v:= .tuple #[.agg (Ze x),.int .u64 n,.int .i64 0]) (Vl (fn:=Tryz.f183) rfl _ _ (w.heap.size+1) 68 _ (0,0) _ rfl (YH _ _ _ _ _ _ Z2.o) underlying68 rfl Ya) rfl ⟨rfl,Xw B2.o Zd _⟩
 ·have RG:(cd != 0)=true:=KM;rw [if_neg h] at HR;have hx:x=ZU:=HE.o h;subst hx;clear h;go_wp2_with (first | (refine Kl 68 w.heap.size W1.o underlying68 Ya ?_) | fail);refine HA.o.mono ?_;rintro o w2 ⟨rfl,b2⟩;have Z2:Zj (VB (w2.alloc (.cells (Ze ZU) 68)) (w.heap.size+1) ZU):=Za (YK (Gb Z1.o b2 Z1.o.lt) _);have B2:Zj (Zp w.heap.size w (w2.alloc (.cells (Ze ZU) 68))):=Za ((B1.o.trans (b2.mono B1.o.size)).alloc (ZZ B1.o.size b2.size) _);clear b2 Z1 W1 B1 C1 HA;go_wp2_with (first | (refine Gr rfl 68 _ rfl ZU ZC ?_) | (refine Up w2.heap.size (Ze ZU) 68 (heap_alloc_new w2 _) Ya (Yi ZU) ?_; rw [Zq]) | (refine Up (w.heap.size+1) (Ze ZU) 68 Z2.o Ya (Yi ZU) ?_));rw [HR.o];exact Ye (v:= .tuple #[.agg (Ze ZU),.int .u64 0,.int .i64 cd]) (Vl (fn:=Tryz.f183) rfl _ _ (w.heap.size+1) 68 _ (0,0) _ rfl (YH _ _ _ _ _ _ Z2.o) underlying68 rfl Ya) rfl ⟨rfl,Xw B2.o Zd _⟩
def amQ (a n d:Nat) :Nat:=if d < n then 0 else mdQ a n d
def Zbd (a n d:Nat) :Bool:=if d < n then false else rB a n d
theorem ZgO (a n d:Nat) :amQ a n d<=a:=by
 unfold amQ
 split
 ·omega
 ·unfold mdQ
  split
  ·rename_i h1 h2
   have h3:n<=d:=Zd
   calc a*n/d<=a*d/d:=Nat.div_le_div_right (Nat.mul_le_mul_left a h3)
    _=a:=Nat.mul_div_cancel a Zd
  ·omega
theorem jH (a n d:Nat)(w:Zc)(ha:a < 18446744073709551616)(hn:n < 18446744073709551616)(hd:d < 18446744073709551616) :
  Z3 178 #[.int .u64 a,.int .u64 n,.int .u64 d] w (.tuple #[.int .u64 (amQ a n d:Nat),.bool (Zbd a n d)]):=by
 have HM:=Za (fun w=>lk a n d w ha hn hd)
 by_cases h:d < n
 ·have HQ:Zj (amQ a n d=0/\Zbd a n d=false):=Za ⟨if_pos h,if_pos h⟩;rw [HQ.o.1,HQ.o.2];have h':(d:Int)< (n:Int):=Zd;clear h ha hn hd HM;go_enter func178,ntmps178;go_wp2;go_ret2;exact ⟨rfl,Zn _ _⟩
 ·have HQ:Zj (amQ a n d=mdQ a n d/\Zbd a n d=rB a n d):=Za ⟨if_neg h,if_neg h⟩;rw [HQ.o.1,HQ.o.2];have h': ¬(d:Int)< (n:Int):=Zd;generalize mdQ a n d=q at*;generalize rB a n d=ok at*;clear h ha hn hd HQ;go_enter func178,ntmps178;go_wp2_with fail;refine (HM.o _).mono ?_;rintro o w1 ⟨rfl,b1⟩;have B1:=Za b1;clear b1;go_wp2;go_ret2;exact ⟨rfl,B1.o⟩
end
section
open Go Go.RowKit
theorem Jg {w w1:Zc}{b:Nat}{x:ZN}(h:VB w b x)(hb:Zp w.heap.size w w1) :VB w1 b x:=Gb h hb h.lt
theorem yq (w:Zc)(o:Obj)(v:ZN) :VB ((w.alloc o).alloc (.cells (Ze v) 68)) (w.heap.size+1) v:=by
 have:=Zs (w.alloc o) 68 (Ze v);exact ZfG
theorem Cq (w:Zc)(o p:Obj)(v:ZN) :VB (((w.alloc o).alloc p).alloc (.cells (Ze v) 68)) (w.heap.size+2) v:=by
 have:=Zs ((w.alloc o).alloc p) 68 (Ze v);rw [show ((w.alloc o).alloc p).heap.size=w.heap.size+2 by simp] at this;exact this
def ans (r:Int × ZN) :Zl:= .tuple #[.agg (Ze r.2),.int .i64 r.1]
def Wq (r:Int × ZN)(n:Int) :Zl:= .tuple #[.agg (Ze r.2),.int .u64 n,.int .i64 r.1]
theorem jD (v:ZN)(e:Int)(w:Zc)(hv:Tq v) :
  Z3 174 #[.agg (Ze v),.int .i64 e] w (ans (QE [XA e,QH 2] v)):=by
 obtain ⟨r,hR⟩ : ∃r,r=QE [XA e,QH 2] v:=⟨_,rfl⟩;rw [<-hR];have HR:=Za hR;have HV:=Za hv;clear hR hv;go_enter func174,ntmps174;go_upto_region 1 with (fail);rw [Bn];have V0:Zj (VB ((w.alloc (.cells (Ze v) 68)).alloc (.cells (Ze ZU) 68)) w.heap.size v):=Za (YK (Zs w _ _) _);have Z0:Zj (VB ((w.alloc (.cells (Ze v) 68)).alloc (.cells (Ze ZU) 68)) (w.heap.size+1) ZU):=Za (yq _ _ _);have B0:Zj (Zp w.heap.size w ((w.alloc (.cells (Ze v) 68)).alloc (.cells (Ze ZU) 68))):=Za (((Zn _ _).alloc (Zh _) _).alloc ZE _);generalize (w.alloc (.cells (Ze v) 68)).alloc (.cells (Ze ZU) 68)=W at*;go_wp2;refine L5 (fun w'=>VB w' w.heap.size v) 8 6 [0,1] V0.o ?_;refine JH ?_;show Yl _ _ _ _ [_,_] _;refine Jb 68 _ w.heap.size 68 (Ze v) _ ZC rfl rfl (fun w h=>h) underlying68 rfl Ya ?_;refine X7 ?_;refine U4 ?_;refine Yo ?_;have D0:Zj (Zp W.heap.size W W.drew):=Za (VY (Zn _ _));refine JC (i:=2) ?_;refine JA #[.int .i64 e] call182 ((iy e W.drew).mono ?_);rintro o w1 ⟨k1,rfl,f1,b1⟩;have D1:Zj (Zp W.heap.size W w1):=Za (D0.o.trans (b1.mono D0.o.size));clear b1;refine ⟨_,rfl,Jg V0.o D1.o,?_⟩;refine JC (i:=3) ?_;refine Ee ?_;refine JA #[.int .i64 2] call180 ((PI 2 Y5 w1).mono ?_);rintro o w2 ⟨k2,rfl,f2,b2⟩;have D2:Zj (Zp W.heap.size W w2):=Za (D1.o.trans (b2.mono D1.o.size));replace f1:=f1.below b2;clear b2;refine ⟨_,rfl,Jg V0.o D2.o,?_⟩;refine JC (i:=4) ?_;refine Ee ?_;refine Yv rfl rfl (Qu 237 234 (.tmp 8) (.tmp 9) _ _ (.func (.func 227) #[] k1) (.func (.func 222) #[] k2) rfl rfl rfl underlying237 Dy rfl rfl rfl ?_);have b3:Zp w2.heap.size w2 (w2.alloc (.cells #[.func (.func 227) #[] k1,.func (.func 222) #[] k2] 234)):=(Zn _ _).alloc (Zh _) _;have CH:=Za (Mm (Zs w2 234 _) (f1.below b3) (f2.below b3));have D3:=Za (D2.o.trans (b3.mono D2.o.size));clear f1 f2 b3;generalize w2.alloc (.cells #[.func (.func 227) #[] k1,.func (.func 222) #[] k2] 234)=w3 at*;generalize w2.heap.size=g at*;refine ⟨Jg V0.o D3.o,?_⟩;refine Ed ?_;refine Ee ?_;refine JA #[.agg (Ze v),.slice (some ⟨g,0,none⟩) 2 2] call218 ((Ro [XA e,QH 2] (some ⟨g,0,none⟩) 2 v w3 HV.o ZE CH.o).mono ?_);rw [<-HR.o];rintro o w4 ⟨rfl,b4⟩;have D4:=Za (D3.o.trans (b4.mono D3.o.size));clear b4 CH;have V4:=Jg V0.o D4.o;refine ⟨_,rfl,V4,?_⟩;refine Ee ?_;refine TS (fun w'=>VB w' w.heap.size v) (m:=2) (f:=0) [6,7] V4 ?_;refine JH ?_;show Yl _ _ _ _ [_,_] _;refine BZ ?_;refine Yo ?_;refine GD ?_;refine ⟨by kernel_rfl,?_⟩;refine LA ?_;have Z4:Zj (VB w4 (w.heap.size+1) ZU):=Za (Jg Z0.o D4.o);have B4:Zj (Zp w.heap.size w w4):=Za (B0.o.trans (D4.o.mono B0.o.size));clear D4 D3 D2 D1 D0 Z0 B0 V0 V4;go_wp2_with (first | (refine Up (w.heap.size+1) (Ze r.2) 68 Z4.o Ya (Yi r.2) ?_));refine U1 ?_;go_wp2;exact Ye (v:=ans r) (Qg (fn:=Tryz.f174) rfl _ _ (w.heap.size+1) 68 _ (0,0) _ rfl (YH _ _ _ _ _ _ Z4.o) underlying68 rfl Ya) rfl ⟨rfl,Xw B4.o Zd _⟩
end
section
open Go Go.RowKit
theorem bB (w:Zc)(o:Obj)(c:Nat->Int) :Zu ((w.alloc o).alloc (.cells (Zi c) 30)) (w.heap.size+1) 30 (Zi c):=by
 have:=Zs (w.alloc o) 30 (Zi c);exact ZfG
theorem jJ (v:ZN)(e:Int)(c:Nat->Int)(w:Zc)(hv:Tq v)(h0:0<=c 10)(h1:c 10<=1048576) :
  Z3 236 #[.agg (Ze v),.int .i64 e,.agg (Zi c)] w (ans (QE [XM e,Ja e (c 10)] v)):=by
 obtain ⟨r,hR⟩ : ∃r,r=QE [XM e,Ja e (c 10)] v:=⟨_,rfl⟩;rw [<-hR];have HR:=Za hR;have HV:=Za hv;clear hR hv;go_enter func236,ntmps236;go_upto_region 1 with (fail);rw [Bn];have V0:Zj (VB (((w.alloc (.cells (Ze v) 68)).alloc (.cells (Zi c) 30)).alloc (.cells (Ze ZU) 68)) w.heap.size v):=Za (YK (YK (Zs w _ _) _) _);have Z0:Zj (VB (((w.alloc (.cells (Ze v) 68)).alloc (.cells (Zi c) 30)).alloc (.cells (Ze ZU) 68)) (w.heap.size+2) ZU):=Za (Cq _ _ _ _);have B0:Zj (Zp w.heap.size w (((w.alloc (.cells (Ze v) 68)).alloc (.cells (Zi c) 30)).alloc (.cells (Ze ZU) 68))):=Za ((((Zn _ _).alloc (Zh _) _).alloc ZE _).alloc Xo _);have G0:Zj (Zu (((w.alloc (.cells (Ze v) 68)).alloc (.cells (Zi c) 30)).alloc (.cells (Ze ZU) 68)) (w.heap.size+1) 30 (Zi c)):=Za (YK (bB _ _ _) _);generalize ((w.alloc (.cells (Ze v) 68)).alloc (.cells (Zi c) 30)).alloc (.cells (Ze ZU) 68)=W at*;go_wp2;refine L5 (fun w'=>VB w' w.heap.size v/\Zu w' (w.heap.size+1) 30 (Zi c)) 11 6 [0,1,3,4,5] ⟨V0.o,G0.o⟩ ?_;refine JH ?_;refine OJ ?_;refine Jb 68 _ w.heap.size 68 (Ze v) _ ZC rfl rfl (fun w h=>h.1) underlying68 rfl Ya ?_;refine X7 ?_;iterate 3 (go_big_quiet_step ((intros; rfl)))
 refine KY 3 ⟨w.heap.size+1,10,none⟩ (.int .i64 (c 10)) (fun w h=>h.2.cell 10) ?_;refine X7 ?_;refine Yo ?_;have D0:Zj (Zp W.heap.size W W.drew):=Za (VY (Zn _ _));refine JC (i:=2) ?_;refine JA #[.int .i64 e] call267 ((cZ e W.drew).mono ?_);rintro o w1 ⟨k1,rfl,f1,b1⟩;have D1:Zj (Zp W.heap.size W w1):=Za (D0.o.trans (b1.mono D0.o.size));clear b1;refine ⟨_,rfl,⟨Jg V0.o D1.o,G0.o.below D1.o G0.o.lt⟩,?_⟩;refine Lz ?_;refine Ee ?_;refine JA #[.int .i64 e,.int .i64 (c 10)] call181 ((Ah e (c 10) h0 Zd w1).mono ?_);rintro o w2 ⟨k2,rfl,f2,b2⟩;have D2:Zj (Zp W.heap.size W w2):=Za (D1.o.trans (b2.mono D1.o.size));replace f1:=f1.below b2;clear b2;refine ⟨_,rfl,⟨Jg V0.o D2.o,G0.o.below D2.o G0.o.lt⟩,?_⟩;refine JC (i:=7) ?_;refine Ee ?_;refine Yv rfl rfl (Qu 237 234 (.tmp 10) (.tmp 14) _ _ (.func (.func 286) #[] k1) (.func (.func 224) #[] k2) rfl rfl rfl underlying237 Dy rfl rfl rfl ?_);have b3:Zp w2.heap.size w2 (w2.alloc (.cells #[.func (.func 286) #[] k1,.func (.func 224) #[] k2] 234)):=(Zn _ _).alloc (Zh _) _;have CH:=Za (Mm (Zs w2 234 _) (f1.below b3) (f2.below b3));have D3:=Za (D2.o.trans (b3.mono D2.o.size));clear f1 f2 b3;generalize w2.alloc (.cells #[.func (.func 286) #[] k1,.func (.func 224) #[] k2] 234)=w3 at*;generalize w2.heap.size=g at*;refine ⟨⟨Jg V0.o D3.o,G0.o.below D3.o G0.o.lt⟩,?_⟩;refine JC (i:=8) ?_;refine Ee ?_;refine JA #[.agg (Ze v),.slice (some ⟨g,0,none⟩) 2 2] call218 ((Ro [XM e,Ja e (c 10)] (some ⟨g,0,none⟩) 2 v w3 HV.o ZE CH.o).mono ?_);rw [<-HR.o];rintro o w4 ⟨rfl,b4⟩;have D4:=Za (D3.o.trans (b4.mono D3.o.size));clear b4 CH;have V4:VB w4 w.heap.size v/\Zu w4 (w.heap.size+1) 30 (Zi c):=⟨Jg V0.o D4.o,G0.o.below D4.o G0.o.lt⟩;refine ⟨_,rfl,V4,?_⟩;refine Ee ?_;refine TS (fun w'=>VB w' w.heap.size v/\Zu w' (w.heap.size+1) 30 (Zi c)) (m:=2) (f:=0) [9,10] V4 ?_;refine JH ?_;show Yl _ _ _ _ [_,_] _;refine BZ ?_;refine Yo ?_;refine GD ?_;refine ⟨by kernel_rfl,?_⟩;refine LA ?_;have Z4:Zj (VB w4 (w.heap.size+2) ZU):=Za (Jg Z0.o D4.o);have B4:Zj (Zp w.heap.size w w4):=Za (B0.o.trans (D4.o.mono B0.o.size));clear D4 D3 D2 D1 D0 Z0 B0 V0 V4 G0;go_wp2_with (first | (refine Up (w.heap.size+2) (Ze r.2) 68 Z4.o Ya (Yi r.2) ?_));refine U1 ?_;go_wp2;exact Ye (v:=ans r) (Qg (fn:=Tryz.f236) rfl _ _ (w.heap.size+2) 68 _ (0,0) _ rfl (YH _ _ _ _ _ _ Z4.o) underlying68 rfl Ya) rfl ⟨rfl,Xw B4.o Zd _⟩
end
section
open Go Go.RowKit
theorem l6 (e:Int)(w:Zc) :Zv Zb 182 #[.int .i64 e] w fun o w'=>o= .returned (.func (.func 227) #[] #[.pointer (some ⟨w.heap.size,0,none⟩)])/\w.alloc (.cells #[.int .i64 e] 3)=w':=by
 have bR:=F5;go_enter func182,ntmps182;exact UD
theorem lA {w:Zc}{base g:Nat}{e:TypeId}{f1 f2 f3:Zl}(h:Zu w g e #[f1,f2,f3])(hb:base<=g) :w.ownsRow base e 1 (.slice (some ⟨g,0,none⟩) 3 3) 3 [f1,f2,f3]:=
 ⟨rfl,.inr ⟨g,3,_,rfl,hb,h,Zh _,by unfold maxLen; omega,rfl,rfl⟩⟩
theorem cC {w:Zc}{base:Nat}{e:TypeId}{v f1 f2 f3 f4:Zl}{e1 e2 e3 e4:OU}(h:w.ownsRow base e 1 v (3+1) ([f1,f2,f3]++[f4]))(h1:VT w f1 e1)(h2:VT w f2 e2)(h3:VT w f3 e3)(h4:VT w f4 e4) :
  ∃a cap,v= .slice a 4 cap/\BC w a [e1,e2,e3,e4]:=by
 obtain ⟨_,h | ⟨g,cap,cur,rfl,_,hg,hc,_,hs,ht⟩⟩:=h
 ·omega
 ·refine ⟨_,cap,rfl,g,0,rfl,fun i ef hi=>?_⟩;have KT: ∀j f,([f1,f2,f3,f4] :List Zl)[j]?=some f->w.cell? ⟨g,0+j,none⟩=some f:=fun j f hj=>by
   rw [ZW,show w.cell? ⟨g,j,none⟩=cur[j]? from cell_of_row w g j cur e (0,0) hg];rw [show ([f1,f2,f3,f4] :List Zl)=cur.toList.take ((3+1)*1) from ht.symm] at hj;rw [List.getElem?_take] at hj
   split at hj
   ·rw [<-hj]; simp
   ·cases hj
  match i,hi with
  | 0,hi=>exact ⟨f1,KT 0 f1 rfl,by simp at hi; subst hi; exact h1⟩
  | 1,hi=>exact ⟨f2,KT 1 f2 rfl,by simp at hi; subst hi; exact h2⟩
  | 2,hi=>exact ⟨f3,KT 2 f3 rfl,by simp at hi; subst hi; exact h3⟩
  | 3,hi=>exact ⟨f4,KT 3 f4 rfl,by simp at hi; subst hi; exact h4⟩
theorem iJ {w3 w4 w5 w7:Zc}{g:Nat}{o:Obj}(E:Zp w3.heap.size w3 w4)(D:Zp w4.heap.size w4 w5)(S:w4.heap.size=g+1)(hg:g=w3.heap.size)(h:(w5.alloc o).grownBy w7 (some g)) :Zp w3.heap.size w3 w7:=by
 have h1:Zp w3.heap.size w3 w5:=E.trans (D.mono E.size);exact Db (h1.alloc h1.size _) h (ZZ h1.size ZE) Zd
theorem iK {w w3 w4 w5 w7:Zc}{g:Nat}{o:Obj}{v:ZN}{e n:Int}{v7:Zl}{k2 k3:Array Zl}{F2 F3:Nat}(E:Zp w3.heap.size w3 w4)(D:Zp w4.heap.size w4 w5)(S:w4.heap.size=g+1)(hg:g=w3.heap.size)(N:w.heap.size+2 < g)
  (V4:VB w4 w.heap.size v) (Z4:VB w4 (w.heap.size+2) ZU) (B4:Zp w.heap.size w w4) (C5:w5.cell? ⟨w4.heap.size,0,none⟩=some (.int .i64 e)) (f2:VT w3 (.func (.func F2) #[] k2) (QH 7)) (f3:VT w3 (.func (.func F3) #[] k3) (Ja e n))
  (ho:w7.ownsRow g 234 1 v7 (3+1) ([.func (.func 179) #[] #[],.func (.func F2) #[] k2,.func (.func F3) #[] k3]++[.func (.func 227) #[] #[.pointer (some ⟨w4.heap.size,0,none⟩)]]))
  (h:(w5.alloc o).grownBy w7 (some g)) : ∃a cap,v7= .slice a 4 cap/\BC w7 a [Un,QH 7,Ja e n,XA e]/\VB w7 w.heap.size v/\VB w7 (w.heap.size+2) ZU/\Zp w.heap.size w w7:=by
 have L7:=iJ E D S hg h;have C7:=(ZA.of_grown (S:=fun i=>i=g) h (fun i hi=>Option.some.inj hi)).cell (p:=⟨w4.heap.size,0,none⟩) (by show ¬w4.heap.size=g; omega) (ZJ _ C5);obtain ⟨a7,cp7,h1,h2⟩:=cC ho (I5.below L7) (f2.below L7) (f3.below L7) (PM C7);have s1:(some w.heap.size:Option Nat)≠some g:=Xo;have s2:(some (w.heap.size+2) :Option Nat)≠some g:=Xo;have l5:=ZZ B4.size D.size;refine ⟨a7,cp7,h1,h2,Zu.grown (YK (Jg V4 D) _) h s1,Zu.grown (YK (Jg Z4 D) _) h s2,Db ((B4.trans (D.mono B4.size)).alloc l5 _) h ?_ Zd⟩;simp; omega
theorem qh: ∃i,Tryz.prog.info? 234=some i/\i.zero=some .nilFunc/\i.size=1/\i.bytes=8:=by
 have h:(Tryz.prog.info? 234).map (fun i=>(i.zero,i.size,i.bytes))=some (some .nilFunc,1,8):=ZC
 cases hi:Tryz.prog.info? 234 with
 | none=>rw [hi] at h; cases h
 | some i=>
  rw [hi] at h;simp only [Option.map_some,Option.some.injEq,Prod.mk.injEq] at h;exact ⟨i,rfl,h.1,h.2.1,h.2.2⟩
theorem iM (v:ZN)(e q:Int)(ok:Bool)(c:Nat->Int)(w:Zc)(hv:Tq v)(h0:0<=c 11)(h1:c 11<=1048576)(hq0:0<=q)(tA:q<=v.bal)(hb:v.bal<=18446744073709551615)(hs:(v.st==2)=false)
  (hA: ∀w,Z3 178 #[.int .u64 v.bal,.int .u64 (c 18),.int .u64 (c 19)] w (.tuple #[.int .u64 q,.bool ok])) :
  Z3 128 #[.agg (Ze v),.int .i64 e,.agg (Zi c)] w (Ea [Un,QH 7,Ja e (c 11)] q v):=by
 obtain ⟨r,m,hR⟩ : ∃r m,Ea [Un,QH 7,Ja e (c 11)] q v=Wq r m:=⟨QE [Un,QH 7,Ja e (c 11)] { v with bal:=v.bal - q},if(QE [Un,QH 7,Ja e (c 11)] { v with bal:=v.bal - q}).1=0 then q else 0,rfl⟩;rw [hR];have HR:=Za hR;have HV:=Za hv;have HA:=Za hA;have HQ:=Za (Zm hq0 (Zm tA hb));have HS:=Za hs;have HD:=Za (Zm h0 h1);clear hR hv hA hq0 tA hb hs h0 h1;have V0:Zj (VB (((w.alloc (.cells (Ze v) 68)).alloc (.cells (Zi c) 30)).alloc (.cells (Ze ZU) 68)) w.heap.size v):=Za (YK (YK (Zs w _ _) _) _);have G0:Zj (Zu (((w.alloc (.cells (Ze v) 68)).alloc (.cells (Zi c) 30)).alloc (.cells (Ze ZU) 68)) (w.heap.size+1) 30 (Zi c)):=Za (YK (bB _ _ _) _);have Z0:Zj (VB (((w.alloc (.cells (Ze v) 68)).alloc (.cells (Zi c) 30)).alloc (.cells (Ze ZU) 68)) (w.heap.size+2) ZU):=Za (Cq _ _ _ _);have B0:Zj (Zp w.heap.size w (((w.alloc (.cells (Ze v) 68)).alloc (.cells (Zi c) 30)).alloc (.cells (Ze ZU) 68))):=Za ((((Zn _ _).alloc (Zh _) _).alloc ZE _).alloc Xo _);go_enter func128,ntmps128;go_upto_region 1 with (fail);rw [Bn];generalize ((w.alloc (.cells (Ze v) 68)).alloc (.cells (Zi c) 30)).alloc (.cells (Ze ZU) 68)=W at*;have a0:=Xx V0.o 0;have a18:=Xx G0.o 18;have a19:=Xx G0.o 19;go_wp2_with fail;refine (HA.o _).mono ?_;rintro o w1 ⟨rfl,b1⟩;have V1:=Za (Jg V0.o b1);have G1:=Za (G0.o.below b1 G0.o.lt);have Z1:=Za (Jg Z0.o b1);have B1:=Za (B0.o.trans (b1.mono B0.o.size));clear b1 V0 G0 Z0 B0 HA a0 a18 a19;go_wp2;refine L5 (fun w'=>VB w' w.heap.size v/\Zu w' (w.heap.size+1) 30 (Zi c)) 6 3 [1,2,3] ⟨V1.o,G1.o⟩ ?_;refine JH ?_;show Yl _ _ _ _ [_,_,_] _;refine BZ ?_;refine KY 3 ⟨w.heap.size+1,11,none⟩ (.int .i64 (c 11)) (fun w h=>h.2.cell 11) ?_;refine X7 ?_;refine Yo ?_;have D1:Zj (Zp w1.heap.size w1 w1.drew):=Za (VY (Zn _ _));refine JC (i:=0) ?_;refine JA #[.int .i64 7] call180 ((PI 7 Y5 w1.drew).mono ?_);rintro o w2 ⟨k2,rfl,f2,b2⟩;have D2:Zj (Zp w1.heap.size w1 w2):=Za (D1.o.trans (b2.mono D1.o.size));clear b2;refine ⟨_,rfl,⟨Jg V1.o D2.o,G1.o.below D2.o G1.o.lt⟩,?_⟩;refine JC (i:=4) ?_;refine Ee ?_;refine JA #[.int .i64 e,.int .i64 (c 11)] call181 ((Ah e (c 11) HD.o.1 (by have:=HD.o.2; omega) w2).mono ?_);rintro o w3 ⟨k3,rfl,f3,b3⟩;have D3:Zj (Zp w1.heap.size w1 w3):=Za (D2.o.trans (b3.mono D2.o.size));replace f2:=f2.below b3;clear b3;refine ⟨_,rfl,⟨Jg V1.o D3.o,G1.o.below D3.o G1.o.lt⟩,?_⟩;refine Ed ?_;refine Ee ?_;refine Yv rfl rfl (DY 237 234 _ (.tmp 22) (.tmp 26) _ _ (.func (.func 179) #[] #[]) (.func (.func 222) #[] k2) (.func (.func 224) #[] k3) rfl rfl rfl rfl underlying237 Dy rfl rfl rfl rfl ?_);have b4:Zp w3.heap.size w3 (w3.alloc (.cells #[.func (.func 179) #[] #[],.func (.func 222) #[] k2,.func (.func 224) #[] k3] 234)):=(Zn _ _).alloc (Zh _) _;have D4:Zj (Zp w1.heap.size w1 (w3.alloc (.cells #[.func (.func 179) #[] #[],.func (.func 222) #[] k2,.func (.func 224) #[] k3] 234))):=Za (D3.o.trans (b4.mono D3.o.size));have R4:Zj (Zu (w3.alloc (.cells #[.func (.func 179) #[] #[],.func (.func 222) #[] k2,.func (.func 224) #[] k3] 234)) w3.heap.size 234 _):=Za (Zs w3 _ _);refine ⟨⟨Jg V1.o D4.o,G1.o.below D4.o G1.o.lt⟩,?_⟩;refine GD ?_;refine ⟨by kernel_rfl,?_⟩;refine LA ?_;have F2:=Za f2;have F3:=Za f3;have E4:=Za b4;have N3:Zj (w.heap.size+2 < w3.heap.size):=Za (YC Z1.o.lt D3.o.size);have V4:=Za (Jg V1.o D4.o);have Z4:=Za (Jg Z1.o D4.o);have B4:=Za (B1.o.trans (D4.o.mono B1.o.size));have N1:=Za B1.o.size;have S4:Zj ((w3.alloc (.cells #[.func (.func 179) #[] #[],.func (.func 222) #[] k2,.func (.func 224) #[] k3] 234)).heap.size=w3.heap.size+1):=Za ZE;clear f2 f3 b4 D1 D2 D3 D4 V1 G1 Z1 B1;generalize w3.alloc (.cells #[.func (.func 179) #[] #[],.func (.func 222) #[] k2,.func (.func 224) #[] k3] 234)=w4 at*;obtain ⟨g,hg⟩ : ∃g,g=w3.heap.size:=⟨_,rfl⟩;rw [<-hg] at R4 N3 S4 ⊢;have HG:=Za hg;clear hg;have c4:=Xx V4.o 1;have CG:Zj (BC w4 (some ⟨g,0,none⟩) [Un,QH 7,Ja e (c 11)]):=Za (CX R4.o (I5.below E4.o) (F2.o.below E4.o) (F3.o.below E4.o));have s2:(v.st==2)=false:=HS.o;have HC:=Za (OC [Un,QH 7,Ja e (c 11)] (some ⟨g,0,none⟩) 3 q v w4 HV.o HQ.o.1 HQ.o.2.1 HQ.o.2.2 ZE CG.o);rw [HR.o] at HC;clear CG F2 F3 E4 R4;go_wp2;refine U1 ?_;go_wp2_with (first | (refine Kl 68 w.heap.size V4.o underlying68 Ya ?_) | fail);refine HC.o.mono ?_;rintro o w5 ⟨rfl,b5⟩;have Z5:Zj (VB w5 (w.heap.size+2) ZU):=Za (Jg Z4.o b5);have B5:Zj (Zp w.heap.size w w5):=Za (B4.o.trans (b5.mono B4.o.size));clear b5 Z4 B4 V4 HC c4;unfold Wq;go_wp2_with (first | (refine Up (w.heap.size+2) (Ze r.2) 68 Z5.o Ya (Yi r.2) ?_));exact Ye (v:=Wq r m) (Vl (fn:=Tryz.f128) rfl _ _ (w.heap.size+2) 68 _ (0,0) _ rfl (YH _ _ _ _ _ _ Z5.o) underlying68 rfl Ya) rfl ⟨rfl,Xw B5.o Zd _⟩
theorem dc (v:ZN)(e q:Int)(ok:Bool)(c:Nat->Int)(w:Zc)(hv:Tq v)(h0:0<=c 11)(h1:c 11<=1048576)(hq0:0<=q)(tA:q<=v.bal)(hb:v.bal<=18446744073709551615)(hs:(v.st==2)=true)
  (hA: ∀w,Z3 178 #[.int .u64 v.bal,.int .u64 (c 18),.int .u64 (c 19)] w (.tuple #[.int .u64 q,.bool ok])) :
  Z3 128 #[.agg (Ze v),.int .i64 e,.agg (Zi c)] w (Ea [Un,QH 7,Ja e (c 11),XA e] q v):=by
 obtain ⟨r,m,hR⟩ : ∃r m,Ea [Un,QH 7,Ja e (c 11),XA e] q v=Wq r m:=⟨QE [Un,QH 7,Ja e (c 11),XA e] { v with bal:=v.bal - q},if(QE [Un,QH 7,Ja e (c 11),XA e] { v with bal:=v.bal - q}).1=0 then q else 0,rfl⟩;rw [hR];have HR:=Za hR;have HV:=Za hv;have HA:=Za hA;have HQ:=Za (Zm hq0 (Zm tA hb));have HS:=Za hs;have HD:=Za (Zm h0 h1);clear hR hv hA hq0 tA hb hs h0 h1;have V0:Zj (VB (((w.alloc (.cells (Ze v) 68)).alloc (.cells (Zi c) 30)).alloc (.cells (Ze ZU) 68)) w.heap.size v):=Za (YK (YK (Zs w _ _) _) _);have G0:Zj (Zu (((w.alloc (.cells (Ze v) 68)).alloc (.cells (Zi c) 30)).alloc (.cells (Ze ZU) 68)) (w.heap.size+1) 30 (Zi c)):=Za (YK (bB _ _ _) _);have Z0:Zj (VB (((w.alloc (.cells (Ze v) 68)).alloc (.cells (Zi c) 30)).alloc (.cells (Ze ZU) 68)) (w.heap.size+2) ZU):=Za (Cq _ _ _ _);have B0:Zj (Zp w.heap.size w (((w.alloc (.cells (Ze v) 68)).alloc (.cells (Zi c) 30)).alloc (.cells (Ze ZU) 68))):=Za ((((Zn _ _).alloc (Zh _) _).alloc ZE _).alloc Xo _);go_enter func128,ntmps128;go_upto_region 1 with (fail);rw [Bn];generalize ((w.alloc (.cells (Ze v) 68)).alloc (.cells (Zi c) 30)).alloc (.cells (Ze ZU) 68)=W at*;have a0:=Xx V0.o 0;have a18:=Xx G0.o 18;have a19:=Xx G0.o 19;go_wp2_with fail;refine (HA.o _).mono ?_;rintro o w1 ⟨rfl,b1⟩;have V1:=Za (Jg V0.o b1);have G1:=Za (G0.o.below b1 G0.o.lt);have Z1:=Za (Jg Z0.o b1);have B1:=Za (B0.o.trans (b1.mono B0.o.size));clear b1 V0 G0 Z0 B0 HA a0 a18 a19;go_wp2;refine L5 (fun w'=>VB w' w.heap.size v/\Zu w' (w.heap.size+1) 30 (Zi c)) 6 3 [1,2,3] ⟨V1.o,G1.o⟩ ?_;refine JH ?_;show Yl _ _ _ _ [_,_,_] _;refine BZ ?_;refine KY 3 ⟨w.heap.size+1,11,none⟩ (.int .i64 (c 11)) (fun w h=>h.2.cell 11) ?_;refine X7 ?_;refine Yo ?_;have D1:Zj (Zp w1.heap.size w1 w1.drew):=Za (VY (Zn _ _));refine JC (i:=0) ?_;refine JA #[.int .i64 7] call180 ((PI 7 Y5 w1.drew).mono ?_);rintro o w2 ⟨k2,rfl,f2,b2⟩;have D2:Zj (Zp w1.heap.size w1 w2):=Za (D1.o.trans (b2.mono D1.o.size));clear b2;refine ⟨_,rfl,⟨Jg V1.o D2.o,G1.o.below D2.o G1.o.lt⟩,?_⟩;refine JC (i:=4) ?_;refine Ee ?_;refine JA #[.int .i64 e,.int .i64 (c 11)] call181 ((Ah e (c 11) HD.o.1 (by have:=HD.o.2; omega) w2).mono ?_);rintro o w3 ⟨k3,rfl,f3,b3⟩;have D3:Zj (Zp w1.heap.size w1 w3):=Za (D2.o.trans (b3.mono D2.o.size));replace f2:=f2.below b3;clear b3;refine ⟨_,rfl,⟨Jg V1.o D3.o,G1.o.below D3.o G1.o.lt⟩,?_⟩;refine Ed ?_;refine Ee ?_;refine Yv rfl rfl (DY 237 234 _ (.tmp 22) (.tmp 26) _ _ (.func (.func 179) #[] #[]) (.func (.func 222) #[] k2) (.func (.func 224) #[] k3) rfl rfl rfl rfl underlying237 Dy rfl rfl rfl rfl ?_);have b4:Zp w3.heap.size w3 (w3.alloc (.cells #[.func (.func 179) #[] #[],.func (.func 222) #[] k2,.func (.func 224) #[] k3] 234)):=(Zn _ _).alloc (Zh _) _;have D4:Zj (Zp w1.heap.size w1 (w3.alloc (.cells #[.func (.func 179) #[] #[],.func (.func 222) #[] k2,.func (.func 224) #[] k3] 234))):=Za (D3.o.trans (b4.mono D3.o.size));have R4:Zj (Zu (w3.alloc (.cells #[.func (.func 179) #[] #[],.func (.func 222) #[] k2,.func (.func 224) #[] k3] 234)) w3.heap.size 234 _):=Za (Zs w3 _ _);refine ⟨⟨Jg V1.o D4.o,G1.o.below D4.o G1.o.lt⟩,?_⟩;refine GD ?_;refine ⟨by kernel_rfl,?_⟩;refine LA ?_;have F2:=Za f2;have F3:=Za f3;have E4:=Za b4;have N3:Zj (w.heap.size+2 < w3.heap.size):=Za (YC Z1.o.lt D3.o.size);have V4:=Za (Jg V1.o D4.o);have Z4:=Za (Jg Z1.o D4.o);have B4:=Za (B1.o.trans (D4.o.mono B1.o.size));have N1:=Za B1.o.size;have S4:Zj ((w3.alloc (.cells #[.func (.func 179) #[] #[],.func (.func 222) #[] k2,.func (.func 224) #[] k3] 234)).heap.size=w3.heap.size+1):=Za ZE;clear f2 f3 b4 D1 D2 D3 D4 V1 G1 Z1 B1;generalize w3.alloc (.cells #[.func (.func 179) #[] #[],.func (.func 222) #[] k2,.func (.func 224) #[] k3] 234)=w4 at*;obtain ⟨g,hg⟩ : ∃g,g=w3.heap.size:=⟨_,rfl⟩;rw [<-hg] at R4 N3 S4 ⊢;have HG:=Za hg;clear hg;have c4:=Xx V4.o 1;have s2:(v.st==2)=true:=HS.o;obtain ⟨ci,hci,GO,GF,EO⟩:=qh;have HI:=Za (Zm hci (Zm GO (Zm GF EO)));clear hci GO GF EO;have RQ:=Za (l6 e w4);go_wp2;refine U1 ?_;go_wp2_with fail;refine RQ.o.mono ?_;rintro o w5 ⟨rfl,hw5⟩;have C5:Zj (w5.cell? ⟨w4.heap.size,0,none⟩=some (.int .i64 e)):=Za (by rw [<-hw5]; exact (Zs w4 3 _).cell 0);have R5:=Za (show Zu w5 g 234 _ by rw [<-hw5]; exact R4.o.alloc _);have D5:Zj (Zp w4.heap.size w4 w5):=Za (by rw [<-hw5]; exact (Zn _ _).alloc (Zh _) _);have S5:Zj (w5.heap.size=w4.heap.size+1):=Za (by rw [<-hw5]; simp);clear hw5 RQ R4 c4;go_wp2_with (first | (at_builtin; refine wpList_append_own _ rfl (.tmp 31) (.tmp 34) 237 rfl g 234 ci _ 1 8 underlying237 HI.o.1 HI.o.2.1 HI.o.2.2.1 HI.o.2.2.2 rfl Nat.one_pos _ 3 _ rfl (lA (R5.o.alloc _) (Zh _)) ⟨w5.heap.size,0,none⟩ 1 1 [.func (.func 227) #[] #[.pointer (some ⟨w4.heap.size,0,none⟩)]] rfl rfl (fun j u hj=>by rw [add_plain,ZW,Qc (Zs w5 234 #[.func (.func 227) #[] #[.pointer (some ⟨w4.heap.size,0,none⟩)]]) j]; simpa using hj) (by simp [Value.oneCell']) (by unfold maxLen; omega) Zd (by have:=S4.o; have:=S5.o; simp; omega) ?_; intro v7 w7 ho7 hg7 ha7; obtain ⟨a7,cp7,rfl,CH7,v7,z7,b7⟩:=iK E4.o D5.o S4.o HG.o N3.o V4.o Z4.o B4.o C5.o F2.o F3.o ho7 hg7; have V7:=Za v7; have Z7:=Za z7; have B7:=Za b7; clear v7 z7 b7; have HC:=Za (OC [Un,QH 7,Ja e (c 11),XA e] a7 cp7 q v w7 HV.o HQ.o.1 HQ.o.2.1 HQ.o.2.2 ZE CH7); rw [HR.o] at HC; clear ho7 hg7 ha7 CH7 HI C5 R5 D5 S5 V4 Z4 B4) | (refine Kl 68 w.heap.size V7.o underlying68 Ya ?_));refine HC.o.mono ?_;rintro o w8 ⟨rfl,b8⟩;have Z8:Zj (VB w8 (w.heap.size+2) ZU):=Za (Jg Z7.o b8);have B8:Zj (Zp w.heap.size w w8):=Za (B7.o.trans (b8.mono B7.o.size));clear b8 Z7 B7 V7 HC;unfold Wq;go_wp2_with (first | (refine Up (w.heap.size+2) (Ze r.2) 68 Z8.o Ya (Yi r.2) ?_));exact Ye (v:=Wq r m) (Vl (fn:=Tryz.f128) rfl _ _ (w.heap.size+2) 68 _ (0,0) _ rfl (YH _ _ _ _ _ _ Z8.o) underlying68 rfl Ya) rfl ⟨rfl,Xw B8.o Zd _⟩
end
section
open Go Go.RowKit
section
variable {v:ZN} {e n:Int}
theorem Za8 (h: ¬TV e) :QE [XA e,QH 2] v=(10,ZU):=by
 simp [QE,XA,h]
theorem nj (h:TV e)(h2:Jz v.st 2=0) :QE [XA e,QH 2] v=(8,ZU):=by
 simp [QE,XA,h,QH,h2]
theorem tN (h:TV e)(h2:Jz v.st 2≠0) :QE [XA e,QH 2] v=(0,{ v with rq:=e,st:=Jz v.st 2}):=by
 simp [QE,XA,h,QH,h2]
theorem UC {f:OU}{es:List OU}{x y:ZN}(h:f x=(0,y)) :QE (f::es) x=QE es y:=by
 rw [QE,h];exact if_pos rfl
theorem Ca {f:OU}{es:List OU}{x y:ZN}{c:Int}(h:f x=(c,y))(hc:c≠0) :QE (f::es) x=(c,ZU):=by
 rw [QE,h];exact if_neg hc
theorem be (h:v.st=3/\v.ex= -1)(h2:OR e n) :QE [XM e,Ja e n] v=(0,{ v with ex:=e,wd:=max v.wd (e+n)}):=
 (UC (y:= { v with ex:=e}) (if_pos h)).trans (UC (y:= { v with ex:=e,wd:=max v.wd (e+n)}) (if_pos h2))
theorem Zij (h:v.st=5)(h1:v.wd<=e) :QE [EG e,QH 5] v=(0,{ v with st:=6}):=by
 have e6:Jz v.st 5=6:=by rw [h]; rfl
 refine (UC (y:=v) (if_neg Zd)).trans (UC (y:= { v with st:=6}) ?_);unfold QH;rw [e6];rfl
def KI (v:ZN)(e n:Int) :List OU:=if v.st=2 then [Un,QH 7,Ja e n,XA e] else [Un,QH 7,Ja e n]
def mm (v:ZN)(e n:Int) :ZN:= { v with st:=Jz v.st 7,sl:=true,rq:=if v.st=2 then e else v.rq,wd:=max v.wd (e+n),dl:= -1}
theorem TW (h:v.sl=false) :Un v=(0,{ v with sl:=true,dl:= -1}):=if_neg (by rw [h]; decide)
theorem ZiD (h:v.sl=true) :QE (KI v e n) v=(9,ZU):=by
 unfold KI
 split <;> exact Ca (y:=v) (if_pos h) Y5
theorem ZiA (h:v.sl=false)(h2:Jz v.st 7=0) :QE (KI v e n) v=(8,ZU):=by
 unfold KI
 split <;> exact (UC (TW h)).trans (Ca (y:= { v with sl:=true,dl:= -1}) (if_pos h2) Y5)
theorem ZiC (h:v.sl=false)(h2:Jz v.st 7≠0)(h3: ¬OR e n) :QE (KI v e n) v=(10,ZU):=by
 unfold KI
 split <;> exact (UC (TW h)).trans ((UC (y:= { v with sl:=true,dl:= -1,st:=Jz v.st 7}) (if_neg h2)).trans (Ca (y:= { v with sl:=true,dl:= -1,st:=Jz v.st 7}) (if_neg h3) Y5))
theorem oD (h:v.sl=false)(h2:Jz v.st 7≠0)(h3:OR e n) :QE (KI v e n) v=(0,mm v e n):=by
 have k:QE [Ja e n] { v with sl:=true,dl:= -1,st:=Jz v.st 7}=(0,{ v with sl:=true,dl:= -1,st:=Jz v.st 7,wd:=max v.wd (e+n)}):=UC (if_pos h3);unfold KI mm
 by_cases h4:v.st=2
 ·rw [if_pos h4,if_pos h4];exact (UC (TW h)).trans ((UC (y:= { v with sl:=true,dl:= -1,st:=Jz v.st 7}) (if_neg h2)).trans ((UC (y:= { v with sl:=true,dl:= -1,st:=Jz v.st 7,wd:=max v.wd (e+n)}) (if_pos h3)).trans (UC (y:= { v with sl:=true,dl:= -1,st:=Jz v.st 7,wd:=max v.wd (e+n),rq:=e}) (if_pos h3.1))))
 ·rw [if_neg h4,if_neg h4];exact (UC (TW h)).trans ((UC (y:= { v with sl:=true,dl:= -1,st:=Jz v.st 7}) (if_neg h2)).trans k)
end
end
section
open Go Go.RowKit
theorem ZcL (v:ZN)(e:Int)(w:Zc)(hv:Tq v)(h0:0<=v.bal)(h1:v.bal<=18446744073709551615) :
  Z3 210 #[.agg (Ze v),.int .i64 e] w (Ea [EG e,QH 5] v.bal v):=by
 obtain ⟨r,m,hR⟩ : ∃r m,Ea [EG e,QH 5] v.bal v=Wq r m:=⟨QE [EG e,QH 5] { v with bal:=v.bal - v.bal},if(QE [EG e,QH 5] { v with bal:=v.bal - v.bal}).1=0 then v.bal else 0,rfl⟩;rw [hR];have HR:=Za hR;have HV:=Za hv;clear hR hv;go_enter func210,ntmps210;go_upto_region 1 with (fail);rw [Bn];have V0:Zj (VB ((w.alloc (.cells (Ze v) 68)).alloc (.cells (Ze ZU) 68)) w.heap.size v):=Za (YK (Zs w _ _) _);have Z0:Zj (VB ((w.alloc (.cells (Ze v) 68)).alloc (.cells (Ze ZU) 68)) (w.heap.size+1) ZU):=Za (yq _ _ _);have B0:Zj (Zp w.heap.size w ((w.alloc (.cells (Ze v) 68)).alloc (.cells (Ze ZU) 68))):=Za (((Zn _ _).alloc (Zh _) _).alloc ZE _);generalize (w.alloc (.cells (Ze v) 68)).alloc (.cells (Ze ZU) 68)=W at*;go_wp2;refine L5 (fun w'=>VB w' w.heap.size v) 11 7 [0,1,2,3] V0.o ?_;refine JH ?_;refine Hg ?_;refine Jb 68 _ w.heap.size 68 (Ze v) _ ZC rfl rfl (fun w h=>h) underlying68 rfl Ya ?_;refine X7 ?_;refine U4 ?_;refine KY 23 ⟨w.heap.size,0,none⟩ (.int .u64 v.bal) (fun w h=>Qc h 0) ?_;refine X7 ?_;refine U4 ?_;refine Yo ?_;have D0:Zj (Zp W.heap.size W W.drew):=Za (VY (Zn _ _));refine JC (i:=4) ?_;refine JA #[.int .i64 e] call249 ((xH e W.drew).mono ?_);rintro o w1 ⟨k1,rfl,f1,b1⟩;have D1:Zj (Zp W.heap.size W w1):=Za (D0.o.trans (b1.mono D0.o.size));clear b1;refine ⟨_,rfl,Jg V0.o D1.o,?_⟩;refine Ed ?_;refine Ee ?_;refine JA #[.int .i64 5] call180 ((PI 5 Y5 w1).mono ?_);rintro o w2 ⟨k2,rfl,f2,b2⟩;have D2:Zj (Zp W.heap.size W w2):=Za (D1.o.trans (b2.mono D1.o.size));replace f1:=f1.below b2;clear b2;refine ⟨_,rfl,Jg V0.o D2.o,?_⟩;refine Lz ?_;refine Ee ?_;refine Yv rfl rfl (Qu 237 234 (.tmp 11) (.tmp 12) _ _ (.func (.func 278) #[] k1) (.func (.func 222) #[] k2) rfl rfl rfl underlying237 Dy rfl rfl rfl ?_);have b3:Zp w2.heap.size w2 (w2.alloc (.cells #[.func (.func 278) #[] k1,.func (.func 222) #[] k2] 234)):=(Zn _ _).alloc (Zh _) _;have CH:=Za (Mm (Zs w2 234 _) (f1.below b3) (f2.below b3));have D3:=Za (D2.o.trans (b3.mono D2.o.size));clear f1 f2 b3;generalize w2.alloc (.cells #[.func (.func 278) #[] k1,.func (.func 222) #[] k2] 234)=w3 at*;generalize w2.heap.size=g at*;refine ⟨Jg V0.o D3.o,?_⟩;refine JC (i:=7) ?_;refine Ee ?_;refine JA #[.agg (Ze v),.int .u64 v.bal,.slice (some ⟨g,0,none⟩) 2 2] call183 ((OC [EG e,QH 5] (some ⟨g,0,none⟩) 2 v.bal v w3 HV.o h0 (Int.le_refl _) h1 ZE CH.o).mono ?_);rw [HR.o];rintro o w4 ⟨rfl,b4⟩;have D4:=Za (D3.o.trans (b4.mono D3.o.size));clear b4 CH;have V4:=Jg V0.o D4.o;refine ⟨_,rfl,V4,?_⟩;refine Ee ?_;unfold Wq;refine TS (fun w'=>VB w' w.heap.size v) (m:=3) (f:=0) [8,9,10] V4 ?_;refine JH ?_;show Yl _ _ _ _ [_,_,_] _;iterate 3 (go_big_quiet_step ((intros; rfl)))
 refine Yo ?_;refine GD ?_;refine ⟨by kernel_rfl,?_⟩;refine LA ?_;have Z4:Zj (VB w4 (w.heap.size+1) ZU):=Za (Jg Z0.o D4.o);have B4:Zj (Zp w.heap.size w w4):=Za (B0.o.trans (D4.o.mono B0.o.size));clear D4 D3 D2 D1 D0 Z0 B0 V0 V4;go_wp2_with (first | (refine Up (w.heap.size+1) (Ze r.2) 68 Z4.o Ya (Yi r.2) ?_));refine U1 ?_;go_wp2;exact Ye (v:=Wq r m) (Vl (fn:=Tryz.f210) rfl _ _ (w.heap.size+1) 68 _ (0,0) _ rfl (YH _ _ _ _ _ _ Z4.o) underlying68 rfl Ya) rfl ⟨rfl,Xw B4.o Zd _⟩
end
end Go.Proofs.YtobgbcdgffgdhaaGreat
