/- Part 18 of 29: L15Settle L15Accept L15Assign L15Slash L15Refs L15Pay. -/
import Derived.Test.YtianiiijaopdpaaGreatZy00
import Derived.Test.YtianiiijaopdpaaGreatZy15
import Derived.Test.YtianiiijaopdpaaGreatZy16
namespace Go.Proofs.YtianiiijaopdpaaGreat
set_option linter.unusedVariables false
set_option linter.unusedSimpArgs false
set_option maxRecDepth 100000
set_option maxHeartbeats 8000000
open _root_.And renaming intro → Zh
open _root_.Go.RowKit renaming Below → Zs
open _root_.Go.RowKit.Below renaming drew → VO, refl → Zp
open _root_.Go.Proofs.YtianiiijaopdpaaGreat.Blk renaming alloc → YA, below → Vx, cell → Yg, new → Zv
open _root_.Go renaming Calls → Zj, Value → Zl, World → Zc, below_setRow → Xv, bodyPost_ret → ZL, setRow_heap → Z6, undef → Vm, wpList_load_row → Zn, wpList_store_row → Zo, wpQuiet → ZW
open _root_.Go.Lib renaming hid → Za
open _root_.Nat renaming le_refl → Zg, le_trans → Z9, lt_of_lt_of_le → Ya, zero_add → ZX
open _root_.Go.Proofs.Tryz renaming prog → Zb, underlying278 → KI, underlying63 → Zr
open _root_.Go.World renaming setRow_alloc_new → Zu
theorem Zfz {G H:Prop} (k:H) (h:BZ H→G:=by
  intro zk;refine YJ 3 _ ⟨w.heap.size+1,11,none⟩ (.int .i64 (c 11)) rfl rfl rfl (fun w h=>by simp [go_sem,h]) (fun w h=>h.2.cell 11) ?_;exact zk.out) :G:=h ⟨k⟩
theorem jr {G:Prop} (h:G:=by
  go_wp2;go_ret;exact ⟨_,rfl,HN.out,(Below.refl _ _).alloc (Nat.le_refl _) _⟩) :G:=h
theorem zI {G:Prop} (h:G:=by
  rw [show (w.alloc o).heap.size=w.heap.size+1 by simp] at this;exact this) :G:=h
section
open Go Go.RowKit
section
variable {w:Zc}
theorem Vj {P:Program}{fn:Func}{p u q:Tmp}{ty:TypeId}(h:fn.results= #[.cell p ty,.tmp u,.tmp q])(tmps:Array Zl)(w:Zc)(g:Nat)(t:TypeId)(cs:Array Zl)(fr:Nat × Nat)(d:TypeDesc)
  (hp:tmps.getD p Vm= .pointer (some ⟨g,0,none⟩)) (hg:w.heap[g]?=some (.cells cs t fr))
  (hu:P.underlying ty=some d) (hd:(match d with | .struct _ | .array _ _=>true | _=>false)=true) (hi:(P.info? ty).map (·.size)=some cs.size) :
  (results fn tmps).run P w= .ok (.tuple #[.agg cs,tmps.getD u Vm,tmps.getD q Vm]) w:=by
 have e:(results fn tmps).run P w=((asAddr (tmps.getD p Vm)).run P w).andThen fun a w₁=>((loadVar ty a).run P w₁).andThen fun v w₂=> .ok (.tuple #[v,tmps.getD u Vm,tmps.getD q Vm]) w₂:=by
  simp only [results,h];simp [Sem.run_bind,Result.andThen]
 rw [e,hp];exact zJ
theorem EW (fn:Fn)(first cap:Array Zl)(w:Zc) :(Instr.makeFunc fn first cap).run Zb w= .ok (.func fn first cap) w:=rfl
theorem bU (e:Int)(w:Zc) :Zj Zb 193 #[.int .i64 e] w fun o w'=> ∃c,o= .returned (.func (.func 249) #[] c)∧VI w' (.func (.func 249) #[] c) (Xw e)∧Zs w.heap.size w w':=by
 have Ix:=EW;have HN:=Za (ND (e:=e) ((Zv w 3 #[.int .i64 e]).cell 0));go_enter Tryz.func193,Tryz.ntmps193;exact jr
theorem NA (ev:Int)(he:(Lit.int .i64 ev).wf=true)(w:Zc) :Zj Zb 191 #[.int .i64 ev] w fun o w'=> ∃c,o= .returned (.func (.func 244) #[] c)∧VI w' (.func (.func 244) #[] c) (Qu ev)∧Zs w.heap.size w w':=by
 have Ix:=EW;have HN:=Za (lE (ev:=ev) he ((Zv w 3 #[.int .i64 ev]).cell 0));clear he;go_enter Tryz.func191,Tryz.ntmps191;exact jr
theorem C0 (e:Int)(w:Zc) :Zj Zb 293 #[.int .i64 e] w fun o w'=> ∃c,o= .returned (.func (.func 313) #[] c)∧VI w' (.func (.func 313) #[] c) (XN e)∧Zs w.heap.size w w':=by
 have Ix:=EW;have HN:=Za (Wo (e:=e) ((Zv w 3 #[.int .i64 e]).cell 0));go_enter Tryz.func293,Tryz.ntmps293;exact jr
theorem qZ (e:Int)(w:Zc) :Zj Zb 271 #[.int .i64 e] w fun o w'=> ∃c,o= .returned (.func (.func 304) #[] c)∧VI w' (.func (.func 304) #[] c) (DF e)∧Zs w.heap.size w w':=by
 have Ix:=EW;have HN:=Za (lR (e:=e) ((Zv w 3 #[.int .i64 e]).cell 0));go_enter Tryz.func271,Tryz.ntmps271;exact jr
theorem Sn (e n:Int)(h0:0≤n)(h1:n≤9223372036854775807)(w:Zc) :Zj Zb 192 #[.int .i64 e,.int .i64 n] w fun o w'=> ∃c,o= .returned (.func (.func 246) #[] c)∧VI w' (.func (.func 246) #[] c) (Q9 e n)∧Zs w.heap.size w w':=by
 have Ix:=EW;have c1:((w.alloc (.cells #[.int .i64 e] 3)).alloc (.cells #[.int .i64 n] 3)).cell? ⟨w.heap.size,0,none⟩=some (.int .i64 e):=((Zv w 3 #[.int .i64 e]).alloc _).cell 0;have c2:((w.alloc (.cells #[.int .i64 e] 3)).alloc (.cells #[.int .i64 n] 3)).cell? ⟨w.heap.size+1,0,none⟩=some (.int .i64 n):=by
  have:=(Zv (w.alloc (.cells #[.int .i64 e] 3)) 3 #[.int .i64 n]).cell 0;rwa [show (w.alloc (.cells #[.int .i64 e] 3)).heap.size=w.heap.size+1 by simp] at this
 have HN:=Za (kT h0 h1 c1 c2);clear h0 h1 c1 c2;go_enter Tryz.func192,Tryz.ntmps192;go_wp2;go_ret;exact ⟨_,rfl,HN.out,((Zp _ _).alloc (Zg _) _).alloc ZI _⟩
end
theorem BD:(Tryz.prog.info? 275).map (fun i=>(i.zero,i.size))=some (some (.nilFunc),1):=by kernel_rfl
theorem Ho {w:Zc}{g t:Nat}{f1 f2:Zl}{e1 e2:M3}(h:Blk w g t #[f1,f2])(h1:VI w f1 e1)(h2:VI w f2 e2) :GZ w (some ⟨g,0,none⟩) [e1,e2]:=by
 refine ⟨g,0,rfl,fun i e hi=>?_⟩
 match i,hi with
 | 0,hi=>exact ⟨f1,by rw [ZX]; exact h.cell 0,by simp at hi; subst hi; exact h1⟩
 | 1,hi=>exact ⟨f2,by rw [ZX]; exact h.cell 1,by simp at hi; subst hi; exact h2⟩
theorem TZ {w:Zc}{g t:Nat}{f1 f2 f3:Zl}{e1 e2 e3:M3}(h:Blk w g t #[f1,f2,f3])(h1:VI w f1 e1)(h2:VI w f2 e2)(h3:VI w f3 e3) :GZ w (some ⟨g,0,none⟩) [e1,e2,e3]:=by
 refine ⟨g,0,rfl,fun i e hi=>?_⟩
 match i,hi with
 | 0,hi=>exact ⟨f1,by rw [ZX]; exact h.cell 0,by simp at hi; subst hi; exact h1⟩
 | 1,hi=>exact ⟨f2,by rw [ZX]; exact h.cell 1,by simp at hi; subst hi; exact h2⟩
 | 2,hi=>exact ⟨f3,by rw [ZX]; exact h.cell 2,by simp at hi; subst hi; exact h3⟩
theorem bZ: ∀(es:List M3) (x:Yd),(QA es x).1≠0→(QA es x).2=ZZ
 | [],x,h=>absurd rfl h
 | e::es,x,h=>by
  unfold QA at h ⊢
  split at h
  ·rename_i h0
   rw [if_pos h0];exact bZ es _ h
  ·rename_i h0
   rw [if_neg h0]
theorem GO:(#[.int .u64 0,.int .i64 0,.bool false,.int .i64 0,.int .i64 0,.int .i64 0,.int .i64 0] :Array Zl)=Zd ZZ:=rfl
def Dd (es:List M3)(n:Int)(v:Yd) :Zl:=
 .tuple #[.agg (Zd (QA es { v with bal:=v.bal - n}).2),.int .u64 (if(QA es { v with bal:=v.bal - n}).1=0 then n else 0),.int .i64 (QA es { v with bal:=v.bal - n}).1]
theorem MQ (es:List M3)(a:Option Addr)(cap:Nat)(n:Int)(v:Yd)(w:Zc)(hv:PC v)(h0:0≤n)(h1:n≤v.bal)(h2:v.bal≤18446744073709551615)(hlen:es.length≤1000)(hc:GZ w a es) :
  Zj Zb 194 #[.agg (Zd v),.int .u64 n,.slice a es.length cap] w fun o w'=>o= .returned (Dd es n v)∧Zs w.heap.size w w':=by
 obtain ⟨y,hy⟩ : ∃y:Yd,y= { v with bal:=v.bal - n}:=⟨_,rfl⟩;have HR:Hid (Dd es n v= .tuple #[.agg (Zd (QA es y).2),.int .u64 (if(QA es y).1=0 then n else 0),.int .i64 (QA es y).1]):=Za (by rw [hy]; rfl);have HS:Hid (PC y):=Za (by rw [hy]; exact hv);have HC:=Za hc;have HL:=Za hlen;have hb:v.bal - n≤18446744073709551615:=by omega
 obtain ⟨z,hz⟩ : ∃z,z=v.bal - n:=⟨_,rfl⟩;have HY:Hid (y= { v with bal:=z}):=Za (by rw [hy,hz]);have hw:IntKind.u64.wrap (v.bal - n)=z:=by rw [hz]; exact IntWalk.u64_in _ Ze
 obtain ⟨len,hl⟩ : ∃len,es.length=len:=⟨_,rfl⟩;rw [hl];have HLN:=Za hl;clear hc hv hl hlen hy hz;have W0:Hid (VB ((w.alloc (.cells (Zd v) 63)).alloc (.cells (Zd ZZ) 63)) w.heap.size v):=Za (YA (Zv w _ _) _);have F0:=W0.out.fz 0;have c0:((w.alloc (.cells (Zd v) 63)).alloc (.cells (Zd ZZ) 63)).cell? ⟨w.heap.size,0,none⟩=some (.int .u64 v.bal):=Yg W0.out 0;have Z0:Hid (VB ((w.alloc (.cells (Zd v) 63)).alloc (.cells (Zd ZZ) 63)) (w.heap.size+1) ZZ):=Za (by
  have:=Zv (w.alloc (.cells (Zd v) 63)) 63 (Zd ZZ);rw [show (w.alloc (.cells (Zd v) 63)).heap.size=w.heap.size+1 by simp] at this;exact this)
 have B0:Hid (Zs w.heap.size w ((w.alloc (.cells (Zd v) 63)).alloc (.cells (Zd ZZ) 63))):=Za (((Zp _ _).alloc (Zg _) _).alloc ZI _);go_enter Tryz.func194,Tryz.ntmps194;go_upto_region 1 with (fail);rw [GO];generalize (w.alloc (.cells (Zd v) 63)).alloc (.cells (Zd ZZ) 63)=W at*;go_upto_region 2 with (fail);have W1:Hid (VB (W.setCell ⟨w.heap.size,0,none⟩ (.int .u64 z)) w.heap.size y):=Za (by rw [HY.out]; exact W0.out.set rfl);have Z1:Hid (VB (W.setCell ⟨w.heap.size,0,none⟩ (.int .u64 z)) (w.heap.size+1) ZZ):=Za (Blk.far Z0.out ZI _);have B1:Hid (Zs w.heap.size w (W.setCell ⟨w.heap.size,0,none⟩ (.int .u64 z))):=Za (Bp B0.out (QN (J2 _ _) (.inl rfl) _) B0.out.size (Zg _));have C1:Hid (GZ (W.setCell ⟨w.heap.size,0,none⟩ (.int .u64 z)) a es):=Za (HC.out.below B1.out);clear W0 Z0 B0 F0 c0 hw;generalize W.setCell ⟨w.heap.size,0,none⟩ (.int .u64 z)=W at*;have HA:=Za (N7 es a cap y W HS.out HL.out C1.out);rw [HLN.out] at HA;have HE:=Za (bZ es y);generalize hr:QA es y=r at HA HR HE;obtain ⟨cd,x⟩:=r;simp only at HA HR HE;clear hr
 by_cases h:cd=0
 ·have Ol:(cd != 0)=false:=by simpa using h
  rw [if_pos h] at HR;subst h;go_wp2_with (first | (refine Zn rfl 63 _ rfl w.heap.size rfl 63 _ (0,0) _ W1.out Zr rfl Ym ?_) | fail);refine HA.out.mono ?_;rintro o w2 ⟨rfl,b2⟩;have Z2:Hid (VB (w2.alloc (.cells (Zd x) 63)) (w.heap.size+1) ZZ):=Za (YA (Vx Z1.out b2 Z1.out.lt) _);have X2:Hid (VB (w2.alloc (.cells (Zd x) 63)) w2.heap.size x):=Za (Zv _ _ _);have B2:Hid (Zs w.heap.size w (w2.alloc (.cells (Zd x) 63))):=Za ((B1.out.trans (b2.mono B1.out.size)).alloc (Z9 B1.out.size b2.size) _);clear b2 Z1 W1 B1 C1 HA;go_wp2_with (first | (refine Zo rfl _ _ _ rfl w2.heap.size (Zd x) rfl rfl 63 _ (heap_alloc_new w2 _) Ym rfl (Yx x) ?_; rw [Zu]) | (refine Zn rfl 63 _ rfl w2.heap.size rfl 63 _ (0,0) _ X2.out Zr rfl Ym ?_) | (refine Zo rfl _ _ _ rfl (w.heap.size+1) (Zd x) rfl rfl 63 _ Z2.out Ym rfl (Yx x) ?_));rw [HR.out];exact ZL (v:= .tuple #[.agg (Zd x),.int .u64 n,.int .i64 0]) (Vj (fn:=Tryz.f194) rfl _ _ (w.heap.size+1) 63 _ (0,0) _ rfl (Z6 _ _ _ _ _ _ Z2.out) Zr rfl Ym) rfl ⟨rfl,Xv B2.out Ze _⟩
 ·have Ol:(cd != 0)=true:=by simpa using h
  rw [if_neg h] at HR;have hx:x=ZZ:=HE.out h;subst hx;clear h;go_wp2_with (first | (refine Zn rfl 63 _ rfl w.heap.size rfl 63 _ (0,0) _ W1.out Zr rfl Ym ?_) | fail);refine HA.out.mono ?_;rintro o w2 ⟨rfl,b2⟩;have Z2:Hid (VB (w2.alloc (.cells (Zd ZZ) 63)) (w.heap.size+1) ZZ):=Za (YA (Vx Z1.out b2 Z1.out.lt) _);have B2:Hid (Zs w.heap.size w (w2.alloc (.cells (Zd ZZ) 63))):=Za ((B1.out.trans (b2.mono B1.out.size)).alloc (Z9 B1.out.size b2.size) _);clear b2 Z1 W1 B1 C1 HA;go_wp2_with (first | (refine UY rfl 63 _ rfl ZZ Ye ?_) | (refine Zo rfl _ _ _ rfl w2.heap.size (Zd ZZ) rfl rfl 63 _ (heap_alloc_new w2 _) Ym rfl (Yx ZZ) ?_; rw [Zu]) | (refine Zo rfl _ _ _ rfl (w.heap.size+1) (Zd ZZ) rfl rfl 63 _ Z2.out Ym rfl (Yx ZZ) ?_));rw [HR.out];exact ZL (v:= .tuple #[.agg (Zd ZZ),.int .u64 0,.int .i64 cd]) (Vj (fn:=Tryz.f194) rfl _ _ (w.heap.size+1) 63 _ (0,0) _ rfl (Z6 _ _ _ _ _ _ Z2.out) Zr rfl Ym) rfl ⟨rfl,Xv B2.out Ze _⟩
def amQ (a n d:Nat) :Nat:=if d < n then 0 else mdQ a n d
def ue (a n d:Nat) :Bool:=if d < n then false else lk a n d
theorem Zal (a n d:Nat) :amQ a n d≤a:=by
 unfold amQ
 split
 ·omega
 ·unfold mdQ
  split
  ·rename_i h1 h2
   have h3:n≤d:=by omega
   calc a*n/d≤a*d/d:=Nat.div_le_div_right (Nat.mul_le_mul_left a h3)
    _=a:=Nat.mul_div_cancel a Ze
  ·omega
theorem dr (a n d:Nat)(w:Zc)(ha:a < 18446744073709551616)(hn:n < 18446744073709551616)(hd:d < 18446744073709551616) :
  Zj Zb 189 #[.int .u64 a,.int .u64 n,.int .u64 d] w fun o w'=>o= .returned (.tuple #[.int .u64 (amQ a n d:Nat),.bool (ue a n d)])∧Zs w.heap.size w w':=by
 have HM:=Za (fun w=>eO a n d w ha hn hd)
 by_cases h:d < n
 ·have HQ:Hid (amQ a n d=0∧ue a n d=false):=Za ⟨if_pos h,if_pos h⟩;rw [HQ.out.1,HQ.out.2];have h':(d:Int)< (n:Int):=by omega
  clear h ha hn hd HM;go_enter Tryz.func189,Tryz.ntmps189;go_wp2;go_ret2;exact ⟨rfl,Zp _ _⟩
 ·have HQ:Hid (amQ a n d=mdQ a n d∧ue a n d=lk a n d):=Za ⟨if_neg h,if_neg h⟩;rw [HQ.out.1,HQ.out.2];have h': ¬(d:Int)< (n:Int):=by omega
  generalize mdQ a n d=q at*;generalize lk a n d=ok at*;clear h ha hn hd HQ;go_enter Tryz.func189,Tryz.ntmps189;go_wp2_with fail;refine (HM.out _).mono ?_;rintro o w1 ⟨rfl,b1⟩;have B1:=Za b1;clear b1;go_wp2;go_ret2;exact ⟨rfl,B1.out⟩
end
section
open Go Go.RowKit
theorem Je {w w1:Zc}{b:Nat}{x:Yd}(h:VB w b x)(hb:Zs w.heap.size w w1) :VB w1 b x:=Vx h hb h.lt
theorem ry (w:Zc)(o:Obj)(v:Yd) :VB ((w.alloc o).alloc (.cells (Zd v) 63)) (w.heap.size+1) v:=by
 have:=Zv (w.alloc o) 63 (Zd v);exact zI
theorem Tw (w:Zc)(o p:Obj)(v:Yd) :VB (((w.alloc o).alloc p).alloc (.cells (Zd v) 63)) (w.heap.size+2) v:=by
 have:=Zv ((w.alloc o).alloc p) 63 (Zd v);rw [show ((w.alloc o).alloc p).heap.size=w.heap.size+2 by simp] at this;exact this
def ans (r:Int × Yd) :Zl:= .tuple #[.agg (Zd r.2),.int .i64 r.1]
def RE (r:Int × Yd)(n:Int) :Zl:= .tuple #[.agg (Zd r.2),.int .u64 n,.int .i64 r.1]
theorem dj (v:Yd)(e:Int)(w:Zc)(hv:PC v) :
  Zj Zb 186 #[.agg (Zd v),.int .i64 e] w fun o w'=>o= .returned (ans (QA [Xw e,Qu 2] v))∧Zs w.heap.size w w':=by
 obtain ⟨r,hR⟩ : ∃r,r=QA [Xw e,Qu 2] v:=⟨_,rfl⟩;rw [←hR];have HR:=Za hR;have HV:=Za hv;clear hR hv;go_enter Tryz.func186,Tryz.ntmps186;go_upto_region 1 with (fail);rw [GO];have V0:Hid (VB ((w.alloc (.cells (Zd v) 63)).alloc (.cells (Zd ZZ) 63)) w.heap.size v):=Za (YA (Zv w _ _) _);have Z0:Hid (VB ((w.alloc (.cells (Zd v) 63)).alloc (.cells (Zd ZZ) 63)) (w.heap.size+1) ZZ):=Za (ry _ _ _);have B0:Hid (Zs w.heap.size w ((w.alloc (.cells (Zd v) 63)).alloc (.cells (Zd ZZ) 63))):=Za (((Zp _ _).alloc (Zg _) _).alloc ZI _);generalize (w.alloc (.cells (Zd v) 63)).alloc (.cells (Zd ZZ) 63)=W at*;go_wp2;refine M0 (fun w'=>VB w' w.heap.size v) 8 6 [0,1] V0.out ?_;refine Kg ?_;show ZW _ _ _ _ [_,_] _;refine Jw 63 _ w.heap.size 63 (Zd v) _ Ye rfl rfl (fun w h=>h) Zr rfl Ym ?_;refine Qe ?_;refine GN ?_;refine Qc ?_;have D0:Hid (Zs W.heap.size W W.drew):=Za (VO (Zp _ _));refine hfO (i:=2) ?_;refine JZ #[.int .i64 e] Tryz.call193 ((bU e W.drew).mono ?_);rintro o w1 ⟨k1,rfl,f1,b1⟩;have D1:Hid (Zs W.heap.size W w1):=Za (D0.out.trans (b1.mono D0.out.size));clear b1;refine ⟨_,rfl,Je V0.out D1.out,?_⟩;refine hfO (i:=3) ?_;refine Dg ?_;refine JZ #[.int .i64 2] Tryz.call191 ((NA 2 YU w1).mono ?_);rintro o w2 ⟨k2,rfl,f2,b2⟩;have D2:Hid (Zs W.heap.size W w2):=Za (D1.out.trans (b2.mono D1.out.size));replace f1:=f1.below b2;clear b2;refine ⟨_,rfl,Je V0.out D2.out,?_⟩;refine hfO (i:=4) ?_;refine Dg ?_;refine YD rfl rfl (QO 278 275 (.tmp 8) (.tmp 9) _ _ (.func (.func 249) #[] k1) (.func (.func 244) #[] k2) rfl rfl rfl KI BD rfl rfl rfl ?_);have b3:Zs w2.heap.size w2 (w2.alloc (.cells #[.func (.func 249) #[] k1,.func (.func 244) #[] k2] 275)):=(Zp _ _).alloc (Zg _) _;have CH:=Za (Ho (Zv w2 275 _) (f1.below b3) (f2.below b3));have D3:=Za (D2.out.trans (b3.mono D2.out.size));clear f1 f2 b3;generalize w2.alloc (.cells #[.func (.func 249) #[] k1,.func (.func 244) #[] k2] 275)=w3 at*;generalize w2.heap.size=g at*;refine ⟨Je V0.out D3.out,?_⟩;refine EE ?_;refine Dg ?_;refine JZ #[.agg (Zd v),.slice (some ⟨g,0,none⟩) 2 2] Tryz.call240 ((N7 [Xw e,Qu 2] (some ⟨g,0,none⟩) 2 v w3 HV.out ZI CH.out).mono ?_);rw [←HR.out];rintro o w4 ⟨rfl,b4⟩;have D4:=Za (D3.out.trans (b4.mono D3.out.size));clear b4 CH;have V4:=Je V0.out D4.out;refine ⟨_,rfl,V4,?_⟩;refine Dg ?_;refine hfT (fun w'=>VB w' w.heap.size v) (m:=2) (f:=0) [6,7] V4 ?_;refine Kg ?_;show ZW _ _ _ _ [_,_] _;refine BL ?_;refine Qc ?_;refine Bn ?_;refine ⟨by kernel_rfl,?_⟩;refine LY ?_;have Z4:Hid (VB w4 (w.heap.size+1) ZZ):=Za (Je Z0.out D4.out);have B4:Hid (Zs w.heap.size w w4):=Za (B0.out.trans (D4.out.mono B0.out.size));clear D4 D3 D2 D1 D0 Z0 B0 V0 V4;go_wp2_with (first | (refine Zo rfl _ _ _ rfl (w.heap.size+1) (Zd r.2) rfl rfl 63 _ Z4.out Ym rfl (Yx r.2) ?_));refine GM ?_;go_wp2;exact ZL (v:=ans r) (XY (fn:=Tryz.f186) rfl _ _ (w.heap.size+1) 63 _ (0,0) _ rfl (Z6 _ _ _ _ _ _ Z4.out) Zr rfl Ym) rfl ⟨rfl,Xv B4.out Ze _⟩
end
section
open Go Go.RowKit
theorem Ce (w:Zc)(o:Obj)(c:Nat→Int) :Blk ((w.alloc o).alloc (.cells (Zk c) 24)) (w.heap.size+1) 24 (Zk c):=by
 have:=Zv (w.alloc o) 24 (Zk c);exact zI
theorem du (v:Yd)(e:Int)(c:Nat→Int)(w:Zc)(hv:PC v)(h0:0≤c 10)(h1:c 10≤1048576) :
  Zj Zb 258 #[.agg (Zd v),.int .i64 e,.agg (Zk c)] w fun o w'=>o= .returned (ans (QA [XN e,Q9 e (c 10)] v))∧Zs w.heap.size w w':=by
 obtain ⟨r,hR⟩ : ∃r,r=QA [XN e,Q9 e (c 10)] v:=⟨_,rfl⟩;rw [←hR];have HR:=Za hR;have HV:=Za hv;clear hR hv;go_enter Tryz.func258,Tryz.ntmps258;go_upto_region 1 with (fail);rw [GO];have V0:Hid (VB (((w.alloc (.cells (Zd v) 63)).alloc (.cells (Zk c) 24)).alloc (.cells (Zd ZZ) 63)) w.heap.size v):=Za (YA (YA (Zv w _ _) _) _);have Z0:Hid (VB (((w.alloc (.cells (Zd v) 63)).alloc (.cells (Zk c) 24)).alloc (.cells (Zd ZZ) 63)) (w.heap.size+2) ZZ):=Za (Tw _ _ _ _);have B0:Hid (Zs w.heap.size w (((w.alloc (.cells (Zd v) 63)).alloc (.cells (Zk c) 24)).alloc (.cells (Zd ZZ) 63))):=Za ((((Zp _ _).alloc (Zg _) _).alloc ZI _).alloc zB13_2 _);have G0:Hid (Blk (((w.alloc (.cells (Zd v) 63)).alloc (.cells (Zk c) 24)).alloc (.cells (Zd ZZ) 63)) (w.heap.size+1) 24 (Zk c)):=Za (YA (Ce _ _ _) _);generalize ((w.alloc (.cells (Zd v) 63)).alloc (.cells (Zk c) 24)).alloc (.cells (Zd ZZ) 63)=W at*;go_wp2;refine M0 (fun w'=>VB w' w.heap.size v∧Blk w' (w.heap.size+1) 24 (Zk c)) 11 6 [0,1,3,4,5] ⟨V0.out,G0.out⟩ ?_;refine Kg ?_;refine NX ?_;refine Jw 63 _ w.heap.size 63 (Zd v) _ Ye rfl rfl (fun w h=>h.1) Zr rfl Ym ?_;refine Qe ?_;iterate 3 (go_big_quiet_step ((intros; rfl)))
 refine YJ 3 _ ⟨w.heap.size+1,10,none⟩ (.int .i64 (c 10)) rfl rfl rfl (fun w h=>by simp [go_sem,h]) (fun w h=>h.2.cell 10) ?_;refine Qe ?_;refine Qc ?_;have D0:Hid (Zs W.heap.size W W.drew):=Za (VO (Zp _ _));refine hfO (i:=2) ?_;refine JZ #[.int .i64 e] Tryz.call293 ((C0 e W.drew).mono ?_);rintro o w1 ⟨k1,rfl,f1,b1⟩;have D1:Hid (Zs W.heap.size W w1):=Za (D0.out.trans (b1.mono D0.out.size));clear b1;refine ⟨_,rfl,⟨Je V0.out D1.out,G0.out.below D1.out G0.out.lt⟩,?_⟩;refine Mb ?_;refine Dg ?_;refine JZ #[.int .i64 e,.int .i64 (c 10)] Tryz.call192 ((Sn e (c 10) h0 Ze w1).mono ?_);rintro o w2 ⟨k2,rfl,f2,b2⟩;have D2:Hid (Zs W.heap.size W w2):=Za (D1.out.trans (b2.mono D1.out.size));replace f1:=f1.below b2;clear b2;refine ⟨_,rfl,⟨Je V0.out D2.out,G0.out.below D2.out G0.out.lt⟩,?_⟩;refine hfO (i:=7) ?_;refine Dg ?_;refine YD rfl rfl (QO 278 275 (.tmp 10) (.tmp 14) _ _ (.func (.func 313) #[] k1) (.func (.func 246) #[] k2) rfl rfl rfl KI BD rfl rfl rfl ?_);have b3:Zs w2.heap.size w2 (w2.alloc (.cells #[.func (.func 313) #[] k1,.func (.func 246) #[] k2] 275)):=(Zp _ _).alloc (Zg _) _;have CH:=Za (Ho (Zv w2 275 _) (f1.below b3) (f2.below b3));have D3:=Za (D2.out.trans (b3.mono D2.out.size));clear f1 f2 b3;generalize w2.alloc (.cells #[.func (.func 313) #[] k1,.func (.func 246) #[] k2] 275)=w3 at*;generalize w2.heap.size=g at*;refine ⟨⟨Je V0.out D3.out,G0.out.below D3.out G0.out.lt⟩,?_⟩;refine hfO (i:=8) ?_;refine Dg ?_;refine JZ #[.agg (Zd v),.slice (some ⟨g,0,none⟩) 2 2] Tryz.call240 ((N7 [XN e,Q9 e (c 10)] (some ⟨g,0,none⟩) 2 v w3 HV.out ZI CH.out).mono ?_);rw [←HR.out];rintro o w4 ⟨rfl,b4⟩;have D4:=Za (D3.out.trans (b4.mono D3.out.size));clear b4 CH;have V4:VB w4 w.heap.size v∧Blk w4 (w.heap.size+1) 24 (Zk c):=⟨Je V0.out D4.out,G0.out.below D4.out G0.out.lt⟩;refine ⟨_,rfl,V4,?_⟩;refine Dg ?_;refine hfT (fun w'=>VB w' w.heap.size v∧Blk w' (w.heap.size+1) 24 (Zk c)) (m:=2) (f:=0) [9,10] V4 ?_;refine Kg ?_;show ZW _ _ _ _ [_,_] _;refine BL ?_;refine Qc ?_;refine Bn ?_;refine ⟨by kernel_rfl,?_⟩;refine LY ?_;have Z4:Hid (VB w4 (w.heap.size+2) ZZ):=Za (Je Z0.out D4.out);have B4:Hid (Zs w.heap.size w w4):=Za (B0.out.trans (D4.out.mono B0.out.size));clear D4 D3 D2 D1 D0 Z0 B0 V0 V4 G0;go_wp2_with (first | (refine Zo rfl _ _ _ rfl (w.heap.size+2) (Zd r.2) rfl rfl 63 _ Z4.out Ym rfl (Yx r.2) ?_));refine GM ?_;go_wp2;exact ZL (v:=ans r) (XY (fn:=Tryz.f258) rfl _ _ (w.heap.size+2) 63 _ (0,0) _ rfl (Z6 _ _ _ _ _ _ Z4.out) Zr rfl Ym) rfl ⟨rfl,Xv B4.out Ze _⟩
end
section
open Go Go.RowKit
theorem fG (e:Int)(w:Zc) :Zj Zb 193 #[.int .i64 e] w fun o w'=>o= .returned (.func (.func 249) #[] #[.pointer (some ⟨w.heap.size,0,none⟩)])∧w.alloc (.cells #[.int .i64 e] 3)=w':=by
 have Ix:=EW;go_enter Tryz.func193,Tryz.ntmps193;exact UI
theorem e8 {w:Zc}{base g:Nat}{e:TypeId}{f1 f2 f3:Zl}(h:Blk w g e #[f1,f2,f3])(hb:base≤g) :w.ownsRow base e 1 (.slice (some ⟨g,0,none⟩) 3 3) 3 [f1,f2,f3]:=
 ⟨rfl,.inr ⟨g,3,_,rfl,hb,h,Zg _,by unfold maxLen; omega,rfl,rfl⟩⟩
theorem CK {w:Zc}{base:Nat}{e:TypeId}{v f1 f2 f3 f4:Zl}{e1 e2 e3 e4:M3}(h:w.ownsRow base e 1 v (3+1) ([f1,f2,f3]++[f4]))(h1:VI w f1 e1)(h2:VI w f2 e2)(h3:VI w f3 e3)(h4:VI w f4 e4) :
  ∃a cap,v= .slice a 4 cap∧GZ w a [e1,e2,e3,e4]:=by
 obtain ⟨_,h | ⟨g,cap,cur,rfl,_,hg,hc,_,hs,ht⟩⟩:=h
 ·omega
 ·refine ⟨_,cap,rfl,g,0,rfl,fun i ef hi=>?_⟩;have GS: ∀j f,([f1,f2,f3,f4] :List Zl)[j]?=some f→w.cell? ⟨g,0+j,none⟩=some f:=fun j f hj=>by
   rw [ZX,show w.cell? ⟨g,j,none⟩=cur[j]? from cell_of_row w g j cur e (0,0) hg];rw [show ([f1,f2,f3,f4] :List Zl)=cur.toList.take ((3+1)*1) from ht.symm] at hj;rw [List.getElem?_take] at hj
   split at hj
   ·rw [←hj]; simp
   ·cases hj
  match i,hi with
  | 0,hi=>exact ⟨f1,GS 0 f1 rfl,by simp at hi; subst hi; exact h1⟩
  | 1,hi=>exact ⟨f2,GS 1 f2 rfl,by simp at hi; subst hi; exact h2⟩
  | 2,hi=>exact ⟨f3,GS 2 f3 rfl,by simp at hi; subst hi; exact h3⟩
  | 3,hi=>exact ⟨f4,GS 3 f4 rfl,by simp at hi; subst hi; exact h4⟩
theorem cj {w3 w4 w5 w7:Zc}{g:Nat}{o:Obj}(E:Zs w3.heap.size w3 w4)(D:Zs w4.heap.size w4 w5)(S:w4.heap.size=g+1)(hg:g=w3.heap.size)(h:(w5.alloc o).grownBy w7 (some g)) :Zs w3.heap.size w3 w7:=by
 have h1:Zs w3.heap.size w3 w5:=E.trans (D.mono E.size);exact Bp (h1.alloc h1.size _) h (Z9 h1.size ZI) Ze
theorem ck {w w3 w4 w5 w7:Zc}{g:Nat}{o:Obj}{v:Yd}{e n:Int}{v7:Zl}{k2 k3:Array Zl}{F2 F3:Nat}(E:Zs w3.heap.size w3 w4)(D:Zs w4.heap.size w4 w5)(S:w4.heap.size=g+1)(hg:g=w3.heap.size)(N:w.heap.size+2 < g)
  (V4:VB w4 w.heap.size v) (Z4:VB w4 (w.heap.size+2) ZZ) (B4:Zs w.heap.size w w4) (C5:w5.cell? ⟨w4.heap.size,0,none⟩=some (.int .i64 e)) (f2:VI w3 (.func (.func F2) #[] k2) (Qu 7)) (f3:VI w3 (.func (.func F3) #[] k3) (Q9 e n))
  (ho:w7.ownsRow g 275 1 v7 (3+1) ([.func (.func 190) #[] #[],.func (.func F2) #[] k2,.func (.func F3) #[] k3]++[.func (.func 249) #[] #[.pointer (some ⟨w4.heap.size,0,none⟩)]]))
  (h:(w5.alloc o).grownBy w7 (some g)) : ∃a cap,v7= .slice a 4 cap∧GZ w7 a [Ua,Qu 7,Q9 e n,Xw e]∧VB w7 w.heap.size v∧VB w7 (w.heap.size+2) ZZ∧Zs w.heap.size w w7:=by
 have L7:=cj E D S hg h;have C7:=(Kept.of_grown (S:=fun i=>i=g) h (fun i hi=>Option.some.inj hi)).cell (p:=⟨w4.heap.size,0,none⟩) (by show ¬w4.heap.size=g; omega) (ZF _ C5);obtain ⟨a7,cp7,h1,h2⟩:=CK ho (Ac.below L7) (f2.below L7) (f3.below L7) (ND C7);have s1:(some w.heap.size:Option Nat)≠some g:=by simp; omega
 have s2:(some (w.heap.size+2) :Option Nat)≠some g:=by simp; omega
 have l5:=Z9 B4.size D.size;refine ⟨a7,cp7,h1,h2,Blk.grown (YA (Je V4 D) _) h s1,Blk.grown (YA (Je Z4 D) _) h s2,Bp ((B4.trans (D.mono B4.size)).alloc l5 _) h ?_ Ze⟩;simp; omega
theorem j4: ∃i,Tryz.prog.info? 275=some i∧i.zero=some .nilFunc∧i.size=1∧i.bytes=8:=by
 have h:(Tryz.prog.info? 275).map (fun i=>(i.zero,i.size,i.bytes))=some (some .nilFunc,1,8):=by kernel_rfl
 cases hi:Tryz.prog.info? 275 with
 | none=>rw [hi] at h; cases h
 | some i=>
  rw [hi] at h;simp only [Option.map_some,Option.some.injEq,Prod.mk.injEq] at h;exact ⟨i,rfl,h.1,h.2.1,h.2.2⟩
theorem cn (v:Yd)(e q:Int)(ok:Bool)(c:Nat→Int)(w:Zc)(hv:PC v)(h0:0≤c 11)(h1:c 11≤1048576)(hq0:0≤q)(mW:q≤v.bal)(hb:v.bal≤18446744073709551615)(hs:(v.st==2)=false)
  (hA: ∀w,Zj Zb 189 #[.int .u64 v.bal,.int .u64 (c 18),.int .u64 (c 19)] w fun o w'=>o= .returned (.tuple #[.int .u64 q,.bool ok])∧Zs w.heap.size w w') :
  Zj Zb 126 #[.agg (Zd v),.int .i64 e,.agg (Zk c)] w fun o w'=>o= .returned (Dd [Ua,Qu 7,Q9 e (c 11)] q v)∧Zs w.heap.size w w':=by
 obtain ⟨r,m,hR⟩ : ∃r m,Dd [Ua,Qu 7,Q9 e (c 11)] q v=RE r m:=⟨QA [Ua,Qu 7,Q9 e (c 11)] { v with bal:=v.bal - q},if(QA [Ua,Qu 7,Q9 e (c 11)] { v with bal:=v.bal - q}).1=0 then q else 0,rfl⟩;rw [hR];have HR:=Za hR;have HV:=Za hv;have HA:=Za hA;have HQ:=Za (Zh hq0 (Zh mW hb));have HS:=Za hs;have HD:=Za (Zh h0 h1);clear hR hv hA hq0 mW hb hs h0 h1;have V0:Hid (VB (((w.alloc (.cells (Zd v) 63)).alloc (.cells (Zk c) 24)).alloc (.cells (Zd ZZ) 63)) w.heap.size v):=Za (YA (YA (Zv w _ _) _) _);have G0:Hid (Blk (((w.alloc (.cells (Zd v) 63)).alloc (.cells (Zk c) 24)).alloc (.cells (Zd ZZ) 63)) (w.heap.size+1) 24 (Zk c)):=Za (YA (Ce _ _ _) _);have Z0:Hid (VB (((w.alloc (.cells (Zd v) 63)).alloc (.cells (Zk c) 24)).alloc (.cells (Zd ZZ) 63)) (w.heap.size+2) ZZ):=Za (Tw _ _ _ _);have B0:Hid (Zs w.heap.size w (((w.alloc (.cells (Zd v) 63)).alloc (.cells (Zk c) 24)).alloc (.cells (Zd ZZ) 63))):=Za ((((Zp _ _).alloc (Zg _) _).alloc ZI _).alloc zB13_2 _);go_enter Tryz.func126,Tryz.ntmps126;go_upto_region 1 with (fail);rw [GO];generalize ((w.alloc (.cells (Zd v) 63)).alloc (.cells (Zk c) 24)).alloc (.cells (Zd ZZ) 63)=W at*;have a0:W.cell? ⟨w.heap.size,0,none⟩=some (.int .u64 v.bal):=Yg V0.out 0;have a18:W.cell? ⟨w.heap.size+1,18,none⟩=some (.int .u64 (c 18)):=G0.out.cell 18;have a19:W.cell? ⟨w.heap.size+1,19,none⟩=some (.int .u64 (c 19)):=G0.out.cell 19;go_wp2_with fail;refine (HA.out _).mono ?_;rintro o w1 ⟨rfl,b1⟩;have V1:=Za (Je V0.out b1);have G1:=Za (G0.out.below b1 G0.out.lt);have Z1:=Za (Je Z0.out b1);have B1:=Za (B0.out.trans (b1.mono B0.out.size));clear b1 V0 G0 Z0 B0 HA a0 a18 a19;go_wp2;refine M0 (fun w'=>VB w' w.heap.size v∧Blk w' (w.heap.size+1) 24 (Zk c)) 6 3 [1,2,3] ⟨V1.out,G1.out⟩ ?_;refine Kg ?_;show ZW _ _ _ _ [_,_,_] _;refine BL ?_;refine Zfz ?_;refine Qe ?_;refine Qc ?_;have D1:Hid (Zs w1.heap.size w1 w1.drew):=Za (VO (Zp _ _));refine hfO (i:=0) ?_;refine JZ #[.int .i64 7] Tryz.call191 ((NA 7 YU w1.drew).mono ?_);rintro o w2 ⟨k2,rfl,f2,b2⟩;have D2:Hid (Zs w1.heap.size w1 w2):=Za (D1.out.trans (b2.mono D1.out.size));clear b2;refine ⟨_,rfl,⟨Je V1.out D2.out,G1.out.below D2.out G1.out.lt⟩,?_⟩;refine hfO (i:=4) ?_;refine Dg ?_;refine JZ #[.int .i64 e,.int .i64 (c 11)] Tryz.call192 ((Sn e (c 11) HD.out.1 (by have:=HD.out.2; omega) w2).mono ?_);rintro o w3 ⟨k3,rfl,f3,b3⟩;have D3:Hid (Zs w1.heap.size w1 w3):=Za (D2.out.trans (b3.mono D2.out.size));replace f2:=f2.below b3;clear b3;refine ⟨_,rfl,⟨Je V1.out D3.out,G1.out.below D3.out G1.out.lt⟩,?_⟩;refine EE ?_;refine Dg ?_;refine YD rfl rfl (BY 278 275 _ (.tmp 22) (.tmp 26) _ _ (.func (.func 190) #[] #[]) (.func (.func 244) #[] k2) (.func (.func 246) #[] k3) rfl rfl rfl rfl KI BD rfl rfl rfl rfl ?_);have b4:Zs w3.heap.size w3 (w3.alloc (.cells #[.func (.func 190) #[] #[],.func (.func 244) #[] k2,.func (.func 246) #[] k3] 275)):=(Zp _ _).alloc (Zg _) _;have D4:Hid (Zs w1.heap.size w1 (w3.alloc (.cells #[.func (.func 190) #[] #[],.func (.func 244) #[] k2,.func (.func 246) #[] k3] 275))):=Za (D3.out.trans (b4.mono D3.out.size));have R4:Hid (Blk (w3.alloc (.cells #[.func (.func 190) #[] #[],.func (.func 244) #[] k2,.func (.func 246) #[] k3] 275)) w3.heap.size 275 _):=Za (Zv w3 _ _);refine ⟨⟨Je V1.out D4.out,G1.out.below D4.out G1.out.lt⟩,?_⟩;refine Bn ?_;refine ⟨by kernel_rfl,?_⟩;refine LY ?_;have F2:=Za f2;have F3:=Za f3;have E4:=Za b4;have N3:Hid (w.heap.size+2 < w3.heap.size):=Za (Ya Z1.out.lt D3.out.size);have V4:=Za (Je V1.out D4.out);have Z4:=Za (Je Z1.out D4.out);have B4:=Za (B1.out.trans (D4.out.mono B1.out.size));have N1:=Za B1.out.size;have S4:Hid ((w3.alloc (.cells #[.func (.func 190) #[] #[],.func (.func 244) #[] k2,.func (.func 246) #[] k3] 275)).heap.size=w3.heap.size+1):=Za ZI;clear f2 f3 b4 D1 D2 D3 D4 V1 G1 Z1 B1;generalize w3.alloc (.cells #[.func (.func 190) #[] #[],.func (.func 244) #[] k2,.func (.func 246) #[] k3] 275)=w4 at*;obtain ⟨g,hg⟩ : ∃g,g=w3.heap.size:=⟨_,rfl⟩;rw [←hg] at R4 N3 S4 ⊢;have HG:=Za hg;clear hg;have c4:w4.cell? ⟨w.heap.size,1,none⟩=some (.int .i64 v.st):=Yg V4.out 1;have CG:Hid (GZ w4 (some ⟨g,0,none⟩) [Ua,Qu 7,Q9 e (c 11)]):=Za (TZ R4.out (Ac.below E4.out) (F2.out.below E4.out) (F3.out.below E4.out));have s2:(v.st==2)=false:=HS.out;have HC:=Za (MQ [Ua,Qu 7,Q9 e (c 11)] (some ⟨g,0,none⟩) 3 q v w4 HV.out HQ.out.1 HQ.out.2.1 HQ.out.2.2 ZI CG.out);rw [HR.out] at HC;clear CG F2 F3 E4 R4;go_wp2;refine GM ?_;go_wp2_with (first | (refine Zn rfl 63 _ rfl w.heap.size rfl 63 _ (0,0) _ V4.out Zr rfl Ym ?_) | fail);refine HC.out.mono ?_;rintro o w5 ⟨rfl,b5⟩;have Z5:Hid (VB w5 (w.heap.size+2) ZZ):=Za (Je Z4.out b5);have B5:Hid (Zs w.heap.size w w5):=Za (B4.out.trans (b5.mono B4.out.size));clear b5 Z4 B4 V4 HC c4;unfold RE;go_wp2_with (first | (refine Zo rfl _ _ _ rfl (w.heap.size+2) (Zd r.2) rfl rfl 63 _ Z5.out Ym rfl (Yx r.2) ?_));exact ZL (v:=RE r m) (Vj (fn:=Tryz.f126) rfl _ _ (w.heap.size+2) 63 _ (0,0) _ rfl (Z6 _ _ _ _ _ _ Z5.out) Zr rfl Ym) rfl ⟨rfl,Xv B5.out Ze _⟩
theorem C4 (v:Yd)(e q:Int)(ok:Bool)(c:Nat→Int)(w:Zc)(hv:PC v)(h0:0≤c 11)(h1:c 11≤1048576)(hq0:0≤q)(mW:q≤v.bal)(hb:v.bal≤18446744073709551615)(hs:(v.st==2)=true)
  (hA: ∀w,Zj Zb 189 #[.int .u64 v.bal,.int .u64 (c 18),.int .u64 (c 19)] w fun o w'=>o= .returned (.tuple #[.int .u64 q,.bool ok])∧Zs w.heap.size w w') :
  Zj Zb 126 #[.agg (Zd v),.int .i64 e,.agg (Zk c)] w fun o w'=>o= .returned (Dd [Ua,Qu 7,Q9 e (c 11),Xw e] q v)∧Zs w.heap.size w w':=by
 obtain ⟨r,m,hR⟩ : ∃r m,Dd [Ua,Qu 7,Q9 e (c 11),Xw e] q v=RE r m:=⟨QA [Ua,Qu 7,Q9 e (c 11),Xw e] { v with bal:=v.bal - q},if(QA [Ua,Qu 7,Q9 e (c 11),Xw e] { v with bal:=v.bal - q}).1=0 then q else 0,rfl⟩;rw [hR];have HR:=Za hR;have HV:=Za hv;have HA:=Za hA;have HQ:=Za (Zh hq0 (Zh mW hb));have HS:=Za hs;have HD:=Za (Zh h0 h1);clear hR hv hA hq0 mW hb hs h0 h1;have V0:Hid (VB (((w.alloc (.cells (Zd v) 63)).alloc (.cells (Zk c) 24)).alloc (.cells (Zd ZZ) 63)) w.heap.size v):=Za (YA (YA (Zv w _ _) _) _);have G0:Hid (Blk (((w.alloc (.cells (Zd v) 63)).alloc (.cells (Zk c) 24)).alloc (.cells (Zd ZZ) 63)) (w.heap.size+1) 24 (Zk c)):=Za (YA (Ce _ _ _) _);have Z0:Hid (VB (((w.alloc (.cells (Zd v) 63)).alloc (.cells (Zk c) 24)).alloc (.cells (Zd ZZ) 63)) (w.heap.size+2) ZZ):=Za (Tw _ _ _ _);have B0:Hid (Zs w.heap.size w (((w.alloc (.cells (Zd v) 63)).alloc (.cells (Zk c) 24)).alloc (.cells (Zd ZZ) 63))):=Za ((((Zp _ _).alloc (Zg _) _).alloc ZI _).alloc zB13_2 _);go_enter Tryz.func126,Tryz.ntmps126;go_upto_region 1 with (fail);rw [GO];generalize ((w.alloc (.cells (Zd v) 63)).alloc (.cells (Zk c) 24)).alloc (.cells (Zd ZZ) 63)=W at*;have a0:W.cell? ⟨w.heap.size,0,none⟩=some (.int .u64 v.bal):=Yg V0.out 0;have a18:W.cell? ⟨w.heap.size+1,18,none⟩=some (.int .u64 (c 18)):=G0.out.cell 18;have a19:W.cell? ⟨w.heap.size+1,19,none⟩=some (.int .u64 (c 19)):=G0.out.cell 19;go_wp2_with fail;refine (HA.out _).mono ?_;rintro o w1 ⟨rfl,b1⟩;have V1:=Za (Je V0.out b1);have G1:=Za (G0.out.below b1 G0.out.lt);have Z1:=Za (Je Z0.out b1);have B1:=Za (B0.out.trans (b1.mono B0.out.size));clear b1 V0 G0 Z0 B0 HA a0 a18 a19;go_wp2;refine M0 (fun w'=>VB w' w.heap.size v∧Blk w' (w.heap.size+1) 24 (Zk c)) 6 3 [1,2,3] ⟨V1.out,G1.out⟩ ?_;refine Kg ?_;show ZW _ _ _ _ [_,_,_] _;refine BL ?_;refine Zfz ?_;refine Qe ?_;refine Qc ?_;have D1:Hid (Zs w1.heap.size w1 w1.drew):=Za (VO (Zp _ _));refine hfO (i:=0) ?_;refine JZ #[.int .i64 7] Tryz.call191 ((NA 7 YU w1.drew).mono ?_);rintro o w2 ⟨k2,rfl,f2,b2⟩;have D2:Hid (Zs w1.heap.size w1 w2):=Za (D1.out.trans (b2.mono D1.out.size));clear b2;refine ⟨_,rfl,⟨Je V1.out D2.out,G1.out.below D2.out G1.out.lt⟩,?_⟩;refine hfO (i:=4) ?_;refine Dg ?_;refine JZ #[.int .i64 e,.int .i64 (c 11)] Tryz.call192 ((Sn e (c 11) HD.out.1 (by have:=HD.out.2; omega) w2).mono ?_);rintro o w3 ⟨k3,rfl,f3,b3⟩;have D3:Hid (Zs w1.heap.size w1 w3):=Za (D2.out.trans (b3.mono D2.out.size));replace f2:=f2.below b3;clear b3;refine ⟨_,rfl,⟨Je V1.out D3.out,G1.out.below D3.out G1.out.lt⟩,?_⟩;refine EE ?_;refine Dg ?_;refine YD rfl rfl (BY 278 275 _ (.tmp 22) (.tmp 26) _ _ (.func (.func 190) #[] #[]) (.func (.func 244) #[] k2) (.func (.func 246) #[] k3) rfl rfl rfl rfl KI BD rfl rfl rfl rfl ?_);have b4:Zs w3.heap.size w3 (w3.alloc (.cells #[.func (.func 190) #[] #[],.func (.func 244) #[] k2,.func (.func 246) #[] k3] 275)):=(Zp _ _).alloc (Zg _) _;have D4:Hid (Zs w1.heap.size w1 (w3.alloc (.cells #[.func (.func 190) #[] #[],.func (.func 244) #[] k2,.func (.func 246) #[] k3] 275))):=Za (D3.out.trans (b4.mono D3.out.size));have R4:Hid (Blk (w3.alloc (.cells #[.func (.func 190) #[] #[],.func (.func 244) #[] k2,.func (.func 246) #[] k3] 275)) w3.heap.size 275 _):=Za (Zv w3 _ _);refine ⟨⟨Je V1.out D4.out,G1.out.below D4.out G1.out.lt⟩,?_⟩;refine Bn ?_;refine ⟨by kernel_rfl,?_⟩;refine LY ?_;have F2:=Za f2;have F3:=Za f3;have E4:=Za b4;have N3:Hid (w.heap.size+2 < w3.heap.size):=Za (Ya Z1.out.lt D3.out.size);have V4:=Za (Je V1.out D4.out);have Z4:=Za (Je Z1.out D4.out);have B4:=Za (B1.out.trans (D4.out.mono B1.out.size));have N1:=Za B1.out.size;have S4:Hid ((w3.alloc (.cells #[.func (.func 190) #[] #[],.func (.func 244) #[] k2,.func (.func 246) #[] k3] 275)).heap.size=w3.heap.size+1):=Za ZI;clear f2 f3 b4 D1 D2 D3 D4 V1 G1 Z1 B1;generalize w3.alloc (.cells #[.func (.func 190) #[] #[],.func (.func 244) #[] k2,.func (.func 246) #[] k3] 275)=w4 at*;obtain ⟨g,hg⟩ : ∃g,g=w3.heap.size:=⟨_,rfl⟩;rw [←hg] at R4 N3 S4 ⊢;have HG:=Za hg;clear hg;have c4:w4.cell? ⟨w.heap.size,1,none⟩=some (.int .i64 v.st):=Yg V4.out 1;have s2:(v.st==2)=true:=HS.out;obtain ⟨ci,hci,BM,BG,Mn⟩:=j4;have HI:=Za (Zh hci (Zh BM (Zh BG Mn)));clear hci BM BG Mn;have RQ:=Za (fG e w4);go_wp2;refine GM ?_;go_wp2_with fail;refine RQ.out.mono ?_;rintro o w5 ⟨rfl,ta⟩;have C5:Hid (w5.cell? ⟨w4.heap.size,0,none⟩=some (.int .i64 e)):=Za (by rw [←ta]; exact (Zv w4 3 _).cell 0);have R5:=Za (show Blk w5 g 275 _ by rw [←ta]; exact R4.out.alloc _);have D5:Hid (Zs w4.heap.size w4 w5):=Za (by rw [←ta]; exact (Zp _ _).alloc (Zg _) _);have S5:Hid (w5.heap.size=w4.heap.size+1):=Za (by rw [←ta]; simp);clear ta RQ R4 c4;go_wp2_with (first | (at_builtin; refine wpList_append_own _ rfl (.tmp 31) (.tmp 34) 278 rfl g 275 ci _ 1 8 KI HI.out.1 HI.out.2.1 HI.out.2.2.1 HI.out.2.2.2 rfl Nat.one_pos _ 3 _ rfl (e8 (R5.out.alloc _) (Zg _)) ⟨w5.heap.size,0,none⟩ 1 1 [.func (.func 249) #[] #[.pointer (some ⟨w4.heap.size,0,none⟩)]] rfl rfl (fun j u hj=>by rw [add_plain,ZX,Yg (Zv w5 275 #[.func (.func 249) #[] #[.pointer (some ⟨w4.heap.size,0,none⟩)]]) j]; simpa using hj) (by simp [Value.oneCell']) (by unfold maxLen; omega) Ze (by have:=S4.out; have:=S5.out; simp; omega) ?_; intro v7 w7 ho7 hg7 ha7; obtain ⟨a7,cp7,rfl,CH7,v7,z7,b7⟩:=ck E4.out D5.out S4.out HG.out N3.out V4.out Z4.out B4.out C5.out F2.out F3.out ho7 hg7; have V7:=Za v7; have Z7:=Za z7; have B7:=Za b7; clear v7 z7 b7; have HC:=Za (MQ [Ua,Qu 7,Q9 e (c 11),Xw e] a7 cp7 q v w7 HV.out HQ.out.1 HQ.out.2.1 HQ.out.2.2 ZI CH7); rw [HR.out] at HC; clear ho7 hg7 ha7 CH7 HI C5 R5 D5 S5 V4 Z4 B4) | (refine Zn rfl 63 _ rfl w.heap.size rfl 63 _ (0,0) _ V7.out Zr rfl Ym ?_));refine HC.out.mono ?_;rintro o w8 ⟨rfl,b8⟩;have Z8:Hid (VB w8 (w.heap.size+2) ZZ):=Za (Je Z7.out b8);have B8:Hid (Zs w.heap.size w w8):=Za (B7.out.trans (b8.mono B7.out.size));clear b8 Z7 B7 V7 HC;unfold RE;go_wp2_with (first | (refine Zo rfl _ _ _ rfl (w.heap.size+2) (Zd r.2) rfl rfl 63 _ Z8.out Ym rfl (Yx r.2) ?_));exact ZL (v:=RE r m) (Vj (fn:=Tryz.f126) rfl _ _ (w.heap.size+2) 63 _ (0,0) _ rfl (Z6 _ _ _ _ _ _ Z8.out) Zr rfl Ym) rfl ⟨rfl,Xv B8.out Ze _⟩
end
section
open Go Go.RowKit
section
variable {v:Yd} {e n:Int}
theorem tU (h: ¬Sr e) :QA [Xw e,Qu 2] v=(10,ZZ):=by
 simp [QA,Xw,h]
theorem gQ (h:Sr e)(h2:JC v.st 2=0) :QA [Xw e,Qu 2] v=(8,ZZ):=by
 simp [QA,Xw,h,Qu,h2]
theorem nz (h:Sr e)(h2:JC v.st 2≠0) :QA [Xw e,Qu 2] v=(0,{ v with rq:=e,st:=JC v.st 2}):=by
 simp [QA,Xw,h,Qu,h2]
theorem Ul {f:M3}{es:List M3}{x y:Yd}(h:f x=(0,y)) :QA (f::es) x=QA es y:=by
 rw [QA,h];exact if_pos rfl
theorem Th {f:M3}{es:List M3}{x y:Yd}{c:Int}(h:f x=(c,y))(hc:c≠0) :QA (f::es) x=(c,ZZ):=by
 rw [QA,h];exact if_neg hc
theorem A4 (h:v.st=3∧v.ex= -1)(h2:O8 e n) :QA [XN e,Q9 e n] v=(0,{ v with ex:=e,wd:=max v.wd (e+n)}):=
 (Ul (y:= { v with ex:=e}) (if_pos h)).trans (Ul (y:= { v with ex:=e,wd:=max v.wd (e+n)}) (if_pos h2))
theorem ZbU (h:v.st=5)(h1:v.wd≤e) :QA [DF e,Qu 5] v=(0,{ v with st:=6}):=by
 have e6:JC v.st 5=6:=by rw [h]; rfl
 refine (Ul (y:=v) (if_neg Ze)).trans (Ul (y:= { v with st:=6}) ?_);unfold Qu;rw [e6];rfl
def Vs (v:Yd)(e n:Int) :List M3:=if v.st=2 then [Ua,Qu 7,Q9 e n,Xw e] else [Ua,Qu 7,Q9 e n]
def ra (v:Yd)(e n:Int) :Yd:= { v with st:=JC v.st 7,sl:=true,rq:=if v.st=2 then e else v.rq,wd:=max v.wd (e+n),dl:= -1}
theorem Ra (h:v.sl=false) :Ua v=(0,{ v with sl:=true,dl:= -1}):=if_neg (by rw [h]; decide)
theorem Zcc (h:v.sl=true) :QA (Vs v e n) v=(9,ZZ):=by
 unfold Vs
 split <;> exact Th (y:=v) (if_pos h) YU
theorem Zb9 (h:v.sl=false)(h2:JC v.st 7=0) :QA (Vs v e n) v=(8,ZZ):=by
 unfold Vs
 split <;> exact (Ul (Ra h)).trans (Th (y:= { v with sl:=true,dl:= -1}) (if_pos h2) YU)
theorem Zcb (h:v.sl=false)(h2:JC v.st 7≠0)(h3: ¬O8 e n) :QA (Vs v e n) v=(10,ZZ):=by
 unfold Vs
 split <;> exact (Ul (Ra h)).trans ((Ul (y:= { v with sl:=true,dl:= -1,st:=JC v.st 7}) (if_neg h2)).trans (Th (y:= { v with sl:=true,dl:= -1,st:=JC v.st 7}) (if_neg h3) YU))
theorem q9 (h:v.sl=false)(h2:JC v.st 7≠0)(h3:O8 e n) :QA (Vs v e n) v=(0,ra v e n):=by
 have k:QA [Q9 e n] { v with sl:=true,dl:= -1,st:=JC v.st 7}=(0,{ v with sl:=true,dl:= -1,st:=JC v.st 7,wd:=max v.wd (e+n)}):=Ul (if_pos h3);unfold Vs ra
 by_cases h4:v.st=2
 ·rw [if_pos h4,if_pos h4];exact (Ul (Ra h)).trans ((Ul (y:= { v with sl:=true,dl:= -1,st:=JC v.st 7}) (if_neg h2)).trans ((Ul (y:= { v with sl:=true,dl:= -1,st:=JC v.st 7,wd:=max v.wd (e+n)}) (if_pos h3)).trans (Ul (y:= { v with sl:=true,dl:= -1,st:=JC v.st 7,wd:=max v.wd (e+n),rq:=e}) (if_pos h3.1))))
 ·rw [if_neg h4,if_neg h4];exact (Ul (Ra h)).trans ((Ul (y:= { v with sl:=true,dl:= -1,st:=JC v.st 7}) (if_neg h2)).trans k)
end
end
section
open Go Go.RowKit
theorem vX (v:Yd)(e:Int)(w:Zc)(hv:PC v)(h0:0≤v.bal)(h1:v.bal≤18446744073709551615) :
  Zj Zb 221 #[.agg (Zd v),.int .i64 e] w fun o w'=>o= .returned (Dd [DF e,Qu 5] v.bal v)∧Zs w.heap.size w w':=by
 obtain ⟨r,m,hR⟩ : ∃r m,Dd [DF e,Qu 5] v.bal v=RE r m:=⟨QA [DF e,Qu 5] { v with bal:=v.bal - v.bal},if(QA [DF e,Qu 5] { v with bal:=v.bal - v.bal}).1=0 then v.bal else 0,rfl⟩;rw [hR];have HR:=Za hR;have HV:=Za hv;clear hR hv;go_enter Tryz.func221,Tryz.ntmps221;go_upto_region 1 with (fail);rw [GO];have V0:Hid (VB ((w.alloc (.cells (Zd v) 63)).alloc (.cells (Zd ZZ) 63)) w.heap.size v):=Za (YA (Zv w _ _) _);have Z0:Hid (VB ((w.alloc (.cells (Zd v) 63)).alloc (.cells (Zd ZZ) 63)) (w.heap.size+1) ZZ):=Za (ry _ _ _);have B0:Hid (Zs w.heap.size w ((w.alloc (.cells (Zd v) 63)).alloc (.cells (Zd ZZ) 63))):=Za (((Zp _ _).alloc (Zg _) _).alloc ZI _);generalize (w.alloc (.cells (Zd v) 63)).alloc (.cells (Zd ZZ) 63)=W at*;go_wp2;refine M0 (fun w'=>VB w' w.heap.size v) 11 7 [0,1,2,3] V0.out ?_;refine Kg ?_;refine Ma ?_;refine Jw 63 _ w.heap.size 63 (Zd v) _ Ye rfl rfl (fun w h=>h) Zr rfl Ym ?_;refine Qe ?_;refine GN ?_;refine YJ 22 _ ⟨w.heap.size,0,none⟩ (.int .u64 v.bal) rfl rfl rfl (fun w h=>by simp [go_sem,h]) (fun w h=>Yg h 0) ?_;refine Qe ?_;refine GN ?_;refine Qc ?_;have D0:Hid (Zs W.heap.size W W.drew):=Za (VO (Zp _ _));refine hfO (i:=4) ?_;refine JZ #[.int .i64 e] Tryz.call271 ((qZ e W.drew).mono ?_);rintro o w1 ⟨k1,rfl,f1,b1⟩;have D1:Hid (Zs W.heap.size W w1):=Za (D0.out.trans (b1.mono D0.out.size));clear b1;refine ⟨_,rfl,Je V0.out D1.out,?_⟩;refine EE ?_;refine Dg ?_;refine JZ #[.int .i64 5] Tryz.call191 ((NA 5 YU w1).mono ?_);rintro o w2 ⟨k2,rfl,f2,b2⟩;have D2:Hid (Zs W.heap.size W w2):=Za (D1.out.trans (b2.mono D1.out.size));replace f1:=f1.below b2;clear b2;refine ⟨_,rfl,Je V0.out D2.out,?_⟩;refine Mb ?_;refine Dg ?_;refine YD rfl rfl (QO 278 275 (.tmp 11) (.tmp 12) _ _ (.func (.func 304) #[] k1) (.func (.func 244) #[] k2) rfl rfl rfl KI BD rfl rfl rfl ?_);have b3:Zs w2.heap.size w2 (w2.alloc (.cells #[.func (.func 304) #[] k1,.func (.func 244) #[] k2] 275)):=(Zp _ _).alloc (Zg _) _;have CH:=Za (Ho (Zv w2 275 _) (f1.below b3) (f2.below b3));have D3:=Za (D2.out.trans (b3.mono D2.out.size));clear f1 f2 b3;generalize w2.alloc (.cells #[.func (.func 304) #[] k1,.func (.func 244) #[] k2] 275)=w3 at*;generalize w2.heap.size=g at*;refine ⟨Je V0.out D3.out,?_⟩;refine hfO (i:=7) ?_;refine Dg ?_;refine JZ #[.agg (Zd v),.int .u64 v.bal,.slice (some ⟨g,0,none⟩) 2 2] Tryz.call194 ((MQ [DF e,Qu 5] (some ⟨g,0,none⟩) 2 v.bal v w3 HV.out h0 (Int.le_refl _) h1 ZI CH.out).mono ?_);rw [HR.out];rintro o w4 ⟨rfl,b4⟩;have D4:=Za (D3.out.trans (b4.mono D3.out.size));clear b4 CH;have V4:=Je V0.out D4.out;refine ⟨_,rfl,V4,?_⟩;refine Dg ?_;unfold RE;refine hfT (fun w'=>VB w' w.heap.size v) (m:=3) (f:=0) [8,9,10] V4 ?_;refine Kg ?_;show ZW _ _ _ _ [_,_,_] _;iterate 3 (go_big_quiet_step ((intros; rfl)))
 refine Qc ?_;refine Bn ?_;refine ⟨by kernel_rfl,?_⟩;refine LY ?_;have Z4:Hid (VB w4 (w.heap.size+1) ZZ):=Za (Je Z0.out D4.out);have B4:Hid (Zs w.heap.size w w4):=Za (B0.out.trans (D4.out.mono B0.out.size));clear D4 D3 D2 D1 D0 Z0 B0 V0 V4;go_wp2_with (first | (refine Zo rfl _ _ _ rfl (w.heap.size+1) (Zd r.2) rfl rfl 63 _ Z4.out Ym rfl (Yx r.2) ?_));refine GM ?_;go_wp2;exact ZL (v:=RE r m) (Vj (fn:=Tryz.f221) rfl _ _ (w.heap.size+1) 63 _ (0,0) _ rfl (Z6 _ _ _ _ _ _ Z4.out) Zr rfl Ym) rfl ⟨rfl,Xv B4.out Ze _⟩
end
end Go.Proofs.YtianiiijaopdpaaGreat
