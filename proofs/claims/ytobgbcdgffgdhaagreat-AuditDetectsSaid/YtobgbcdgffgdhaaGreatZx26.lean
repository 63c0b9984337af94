/- Part 26 of 34: L18Clo L18Pay L18RefPay. -/
import Derived.Test.YtobgbcdgffgdhaaGreatZx00
import Derived.Test.YtobgbcdgffgdhaaGreatZx20
import Derived.Test.YtobgbcdgffgdhaaGreatZx24
import Derived.Laws.EntriesVeiled
namespace Go.Proofs.YtobgbcdgffgdhaaGreat
set_option linter.unusedVariables false
set_option linter.unusedSimpArgs false
set_option maxRecDepth 100000
set_option maxHeartbeats 8000000
open _root_.Go.RowKit renaming Below -> Zp
open _root_.Go.RowKit.Below renaming refl -> Zn
open _root_.Go.Proofs.YtobgbcdgffgdhaaGreat.Zu renaming new -> Zs
open _root_.Go.Instr renaming makeFunc -> Q5
open _root_.Nat renaming le_refl -> Zh
open _root_.Go.Proofs.Tryz renaming prog -> Zb
open _root_.Go renaming Value -> Zl, World -> Zc
open Go.Proofs.Tryz
theorem ZiS {G H:Prop} (k:H) (h:Dq H->G:=by
  intro zk;refine Jb 30 _ w.heap.size 30 (Zi c) _ ZC rfl rfl (fun w h=>h) underlying30 rfl Qk ?_;exact zk.o) :G:=h ⟨k⟩
theorem ZiZ {G:Prop} (h:G:=by
  refine GD ?_;refine ⟨by kernel_rfl,?_⟩;refine LA ?_;go_wp2_with (fail);refine U1 ?_;go_wp2;go_ret;exact HP.o) :G:=h
theorem o8 {G:Prop} (h:G:=by
  unfold KQ;go_wp2_with (fail);go_ret2;exact ⟨by rw [HG.o]; rfl,B1.o⟩) :G:=h
theorem ZfC {G:Prop} (h:G:=by
  unfold KQ;go_wp2_with (fail);go_ret2;exact ⟨by rw [HG.o]; rfl,B2.o⟩) :G:=h
theorem ZfD {G:Prop} (h:G:=by
  unfold KQ;go_wp2_with (fail);go_ret2;exact ⟨by rw [HQ.o]; rfl,B2.o⟩) :G:=h
theorem jk {G:Prop} (h:G:=by
  rw [if_neg Zf,if_neg Zf]) :G:=h
section
open Go Go.RowKit
theorem I2 (e:Int)(a:Option Addr)(len cap:Nat)(z:List Int)(w:Zc)(hlen:len<=9223372036854775807)
  (hz: ∀i,i < len-> -9223372036854775808<=z.getD i 0/\z.getD i 0<=9223372036854775807)
  (hc:0 < len-> ∃b off,a=some ⟨b,off,none⟩/\ ∀i,i < len->w.cell? ⟨b,off+i,none⟩=some (.int .i64 (z.getD i 0))) :
  Y6 225 #[.int .i64 e,.slice a len cap] w (KQ (XX e z len)):=by
 by_cases h:0<=e/\e<=1099511627776
 ·exact RK e a len cap z w h.1 h.2 hlen hz hc
 ·have:=La (e:=e) (z:=z) (k:=0) (if_neg h) len;rw [Nat.zero_add] at this;rw [this];exact RL e a len cap w Zf
def N7 (g:Int->Option Int)(n:Int) :Int->Option Int:=fun e=>match g e with | none=>none | some s=>XX s [n] 1
def SB (a x:Int)(c:Nat->Int) :Int->Option Int:=fun e=>match Dc a x c with | none=>none | some k=>XX e [k,1] 2
def El (a x:Int)(c:Nat->Int) :Int->Option Int:=N7 (SB a x c) (c 10)
def lG (a x:Int)(c:Nat->Int) :Int->Option Int:=N7 (El a x c) (DS c)
def BF (w:Zc)(f:Zl)(g:Int->Option Int) :Prop:=
 ∃(F:Nat) (Bf:Array Zl),f= .func (.func F) #[] Bf/\(∀args w,(callFunc F args).run Zb w= .ok (.enter F args) w)/\
  ∀w1 e,Zp w.heap.size w w1->Calls Zb F (#[.int .i64 e]++Bf) w1 fun o w2=>o= .returned (KQ (g e))/\Zp w1.heap.size w1 w2
theorem BF.below {w w':Zc}{f:Zl}{g:Int->Option Int}(h:BF w f g)(hb:Zp w.heap.size w w') :BF w' f g:=by
 obtain ⟨F,Bf,h1,h2,h3⟩:=h;exact ⟨F,Bf,h1,h2,fun w1 e Hj=>h3 w1 e (hb.trans (Hj.mono hb.size))⟩
theorem sU (w:Zc)(m n:Int)(t:TypeId) : ∀i,i < 2->(w.alloc (.cells #[.int .i64 m,.int .i64 n] t)).cell? ⟨w.heap.size,0+i,none⟩=some (.int .i64 (([m,n] :List Int).getD i 0)):=fun i hi=>by
 rw [Nat.zero_add,(Zs w t _).cell];have:i=0\/i=1:=Zf
 rcases this with rfl | rfl <;> rfl
section
variable {a x:Int} {c:Nat->Int}
theorem qL (hg:Good c)(ha:DU a)(hx:DU x)(b0 b1 b2:Nat)(e:Int)(w:Zc)(h0:w.cell? ⟨b0,0,none⟩=some (.int .u64 a))(h1:w.cell? ⟨b1,0,none⟩=some (.int .u64 x))(h2:Zu w b2 30 (Zi c)) :
  Z3 300 #[.int .i64 e,.pointer (some ⟨b0,0,none⟩),.pointer (some ⟨b1,0,none⟩),.pointer (some ⟨b2,0,none⟩)] w (KQ (SB a x c e)):=by
 have HB:=Za (fun w=>Pb hg ha hx w);have H2:=Za h2;have HG:=Za (show SB a x c e=(match Dc a x c with | none=>none | some k=>XX e [k,1] 2) from rfl);have HK:=Za (fun k (h:Dc a x c=some k)=>jL h);clear h2 hg ha hx;generalize hq:Dc a x c=q at*;clear hq;go_enter func300,ntmps300;go_wp2_with (first | (refine Kl 30 b2 H2.o underlying30 Qk ?_));refine (HB.o _).mono ?_;rintro o w1 ⟨rfl,b1⟩;have B1:=Za b1;clear b1 HB H2
 rcases q with _ | k
 ·exact o8
 ·have HL:=Za (I2 e (some ⟨w1.heap.size,0,none⟩) 2 2 [k,1] (w1.alloc (.cells #[.int .i64 k,.int .i64 1] 3)) Zf (fun i hi=>by
   have:=HK.o k rfl;have:i=0\/i=1:=Zf
   rcases this with rfl | rfl
   ·show -9223372036854775808<=k/\k<=9223372036854775807;omega
   ·show -9223372036854775808<=(1:Int)/\(1:Int)<=9223372036854775807;omega) (fun _=>⟨_,_,rfl,sU w1 k 1 3⟩))
  have B2:Zj (Zp w.heap.size w (w1.alloc (.cells #[.int .i64 k,.int .i64 1] 3))):=Za (B1.o.alloc B1.o.size _);unfold KQ;go_wp2_with (fail);refine HL.o.mono ?_;rintro o w2 ⟨rfl,rfl⟩;have HG:Zj (SB a x c e=XX e [k,1] 2):=HG;generalize hr:XX e [k,1] 2=r at*
  rcases r with _ | s
  ·exact ZfC
  ·exact ZfC
theorem uX (hg:Good c)(ha:DU a)(hx:DU x)(w:Zc) :
  Calls Zb 294 #[.int .u64 a,.int .u64 x,.agg (Zi c)] w fun o w'=> ∃f,o= .returned f/\BF w' f (SB a x c)/\Zp w.heap.size w w':=by
 have bR: ∀(fn:Fn) (first cap:Array Zl) (w:Zc),(Q5 fn first cap).run Zb w= .ok (.func fn first cap) w:=fun _ _ _ _=>rfl
 have HB:Zj (Zp w.heap.size w (((w.alloc (.cells #[.int .u64 a] 23)).alloc (.cells #[.int .u64 x] 23)).alloc (.cells (Zi c) 30))):=Za ((((Zn _ _).alloc (Zh _) _).alloc ZE _).alloc Xo _);have HI:Zj (BF (((w.alloc (.cells #[.int .u64 a] 23)).alloc (.cells #[.int .u64 x] 23)).alloc (.cells (Zi c) 30)) (.func (.func 300) #[] #[.pointer (some ⟨w.heap.size,0,none⟩),.pointer (some ⟨w.heap.size+1,0,none⟩),.pointer (some ⟨w.heap.size+2,0,none⟩)]) (SB a x c)):=Za (by
  have k0:Zu (((w.alloc (.cells #[.int .u64 a] 23)).alloc (.cells #[.int .u64 x] 23)).alloc (.cells (Zi c) 30)) w.heap.size 23 #[.int .u64 a]:=((Zs w _ _).alloc _).alloc _;have k1:Zu (((w.alloc (.cells #[.int .u64 a] 23)).alloc (.cells #[.int .u64 x] 23)).alloc (.cells (Zi c) 30)) (w.heap.size+1) 23 #[.int .u64 x]:=by
   have:=(Zs (w.alloc (.cells #[.int .u64 a] 23)) 23 #[.int .u64 x]).alloc (.cells (Zi c) 30);rwa [show (w.alloc (.cells #[.int .u64 a] 23)).heap.size=w.heap.size+1 by simp] at this
  have k2:Zu (((w.alloc (.cells #[.int .u64 a] 23)).alloc (.cells #[.int .u64 x] 23)).alloc (.cells (Zi c) 30)) (w.heap.size+2) 30 (Zi c):=by
   have:=Zs ((w.alloc (.cells #[.int .u64 a] 23)).alloc (.cells #[.int .u64 x] 23)) 30 (Zi c);rwa [show ((w.alloc (.cells #[.int .u64 a] 23)).alloc (.cells #[.int .u64 x] 23)).heap.size=w.heap.size+2 by simp] at this
  exact ⟨_,_,rfl,call300,fun w1 e hb=>qL hg ha hx _ _ _ e w1 ((k0.below hb k0.lt).cell 0) ((k1.below hb k1.lt).cell 0) (k2.below hb k2.lt)⟩)
 clear hg ha hx;go_enter func294,ntmps294;go_wp2;go_ret;exact ⟨_,rfl,HI.o,HB.o⟩
end
section
variable {g:Int->Option Int} {n:Int}
theorem rV (bf bs g0:Nat)(f:Zl)(e:Int)(w0 w:Zc)(hf:BF w0 f g)(hb:Zp w0.heap.size w0 w)(h0:w.cell? ⟨bf,0,none⟩=some f)(h1:w.cell? ⟨bs,0,none⟩=some (.slice (some ⟨g0,0,none⟩) 1 1))(h2:w.cell? ⟨g0,0,none⟩=some (.int .i64 n))(hn:0<=n/\n<=9223372036854775807) :
  Z3 295 #[.int .i64 e,.pointer (some ⟨bf,0,none⟩),.pointer (some ⟨bs,0,none⟩)] w (KQ (N7 g n e)):=by
 obtain ⟨F,Bf,rfl,Um,BJ⟩:=hf;have HR:=Za (BJ w e hb);have HG:=Za (show N7 g n e=(match g e with | none=>none | some s=>XX s [n] 1) from rfl);have H1:=Za (And.intro h1 h2);clear BJ hb h2;generalize hq:g e=q at*;clear hq;go_enter func295,ntmps295;go_wp2_with (fail);refine HR.o.mono ?_;rintro o w1 ⟨rfl,b1⟩;have B1:=Za b1;have c1:w1.cell? ⟨bs,0,none⟩=some (.slice (some ⟨g0,0,none⟩) 1 1):=UR H1.o.1 b1;have C2:Zj (w1.cell? ⟨g0,0,none⟩=some (.int .i64 n)):=Za (UR H1.o.2 b1);clear b1 HR h0 h1 Um H1
 rcases q with _ | s
 ·exact o8
 ·have HL:=Za (I2 s (some ⟨g0,0,none⟩) 1 1 [n] w1 Zf (fun i hi=>by
   obtain rfl:i=0:=Zf;show -9223372036854775808<=n/\n<=9223372036854775807;omega) (fun _=>⟨_,_,rfl,fun i hi=>by
    obtain rfl:i=0:=Zf;exact C2.o⟩))
  unfold KQ;go_wp2_with (fail);refine HL.o.mono ?_;rintro o w2 ⟨rfl,rfl⟩;have HG:Zj (N7 g n e=XX s [n] 1):=HG;generalize hr:XX s [n] 1=r at*
  rcases r with _ | s2
  ·exact o8
  ·exact o8
theorem AH (f:Zl)(g0:Nat)(w:Zc)(hf:BF w f g)(h2:w.cell? ⟨g0,0,none⟩=some (.int .i64 n))(hn:0<=n/\n<=9223372036854775807) :
  Calls Zb 280 #[f,.slice (some ⟨g0,0,none⟩) 1 1] w fun o w'=> ∃f',o= .returned f'/\BF w' f' (N7 g n)/\Zp w.heap.size w w':=by
 have bR: ∀(fn:Fn) (first cap:Array Zl) (w:Zc),(Q5 fn first cap).run Zb w= .ok (.func fn first cap) w:=fun _ _ _ _=>rfl
 obtain ⟨F,Bf,rfl,Um,BJ⟩:=hf;have hf:BF w (.func (.func F) #[] Bf) g:=⟨F,Bf,rfl,Um,BJ⟩;have Tw:Zp w.heap.size w ((w.alloc (.cells #[.func (.func F) #[] Bf] 301)).alloc (.cells #[.slice (some ⟨g0,0,none⟩) 1 1] 24)):=((Zn _ _).alloc (Zh _) _).alloc ZE _;have HB:=Za Tw;have HI:Zj (BF ((w.alloc (.cells #[.func (.func F) #[] Bf] 301)).alloc (.cells #[.slice (some ⟨g0,0,none⟩) 1 1] 24)) (.func (.func 295) #[] #[.pointer (some ⟨w.heap.size,0,none⟩),.pointer (some ⟨w.heap.size+1,0,none⟩)]) (N7 g n)):=Za (by
  have k0:Zu ((w.alloc (.cells #[.func (.func F) #[] Bf] 301)).alloc (.cells #[.slice (some ⟨g0,0,none⟩) 1 1] 24)) w.heap.size 301 #[.func (.func F) #[] Bf]:=(Zs w _ _).alloc _;have k1:Zu ((w.alloc (.cells #[.func (.func F) #[] Bf] 301)).alloc (.cells #[.slice (some ⟨g0,0,none⟩) 1 1] 24)) (w.heap.size+1) 24 #[.slice (some ⟨g0,0,none⟩) 1 1]:=by
   have:=Zs (w.alloc (.cells #[.func (.func F) #[] Bf] 301)) 24 #[.slice (some ⟨g0,0,none⟩) 1 1];rwa [show (w.alloc (.cells #[.func (.func F) #[] Bf] 301)).heap.size=w.heap.size+1 by simp] at this
  exact ⟨_,_,rfl,call295,fun w1 e hb=>rV _ _ g0 _ e w w1 hf (Tw.trans (hb.mono Tw.size)) ((k0.below hb k0.lt).cell 0) ((k1.below hb k1.lt).cell 0) (UR (UR h2 Tw) hb) hn⟩)
 clear hf Um BJ Tw h2 hn;go_enter func280,ntmps280;go_wp2;go_ret;exact ⟨_,rfl,HI.o,HB.o⟩
end
end
section
open Go Go.RowKit
theorem SL: ∃i,Tryz.prog.info? 3=some i/\i.zero=some (.int .i64 0)/\i.size=1:=by
 have h:(Tryz.prog.info? 3).map (fun i=>(i.zero,i.size))=some (some (.int .i64 0),1):=ZC
 cases hi:Tryz.prog.info? 3 with
 | none=>exact LV
 | some i=>
  exact zE
section
variable {a x:Int} {c:Nat->Int}
def FO (w:Zc)(g:Int->Option Int)(o:Ending)(w':Zc) :Prop:= ∃f,o= .returned f/\BF w' f g/\Zp w.heap.size w w'
theorem dt (hg:Good c)(ha:DU a)(hx:DU x)(w:Zc) :
  Calls Zb 279 #[.int .u64 a,.int .u64 x,.agg (Zi c)] w (FO w (El a x c)):=by
 obtain ⟨i0,Oi,GO,Ty⟩:=SL;have HX:=Za (fun w=>uX hg ha hx w);have hn:0<=c 10/\c 10<=9223372036854775807:=by have:=hg.unb0; have:=hg.unb1; omega
 have HN:=Za hn;clear hg ha hx hn;go_enter func279,ntmps279;go_wp2_with (fail);have K0:Zj (Zu (w.alloc (.cells (Zi c) 30)) w.heap.size 30 (Zi c)):=Za (Zs w _ _);have B0:Zj (Zp w.heap.size w (w.alloc (.cells (Zi c) 30))):=Za ((Zn _ _).alloc (Zh _) _);generalize w.alloc (.cells (Zi c) 30)=W at*;refine L5 (fun w'=>Zu w' w.heap.size 30 (Zi c)) 8 3 [0,1,2,4,5] K0.o ?_;refine JH ?_;refine OJ ?_;refine BZ ?_;refine ZiS ?_;refine X7 ?_;refine U4 ?_;refine KY 3 ⟨w.heap.size,10,none⟩ (.int .i64 (c 10)) (fun w h=>h.cell 10) ?_;refine X7 ?_;refine Yo ?_;have D0:Zj (Zp W.heap.size W W.drew):=Za (Below.drew (Zn _ _));have HW:Zj (w.heap.size<=W.heap.size):=Za B0.o.size;refine KC (i:=3) (k:=6) ZC Zf Zf ?_ ?_
 ·refine JA #[.int .u64 a,.int .u64 x,.agg (Zi c)] call294 ((HX.o W.drew).mono ?_);rintro o w1 ⟨f,rfl,hf,b1⟩;have D1:Zj (Zp W.heap.size W w1):=Za (D0.o.trans (b1.mono D0.o.size));have HF:=Za hf;clear b1 hf;refine ⟨_,rfl,K0.o.below D1.o K0.o.lt,?_⟩;refine Lz ?_;refine Ee ?_;refine Yv rfl rfl (Kd 24 3 i0 _ (.int .i64 0) (.int .i64 (c 10)) rfl rfl underlying24 Oi GO Ty rfl rfl ?_);have b2:Zp w1.heap.size w1 (w1.alloc (.cells #[.int .i64 (c 10)] 3)):=(Zn _ _).alloc (Zh _) _;have D2:Zj (Zp W.heap.size W (w1.alloc (.cells #[.int .i64 (c 10)] 3))):=Za (D1.o.trans (b2.mono D1.o.size));have HF2:=Za (HF.o.below b2);have HC:Zj ((w1.alloc (.cells #[.int .i64 (c 10)] 3)).cell? ⟨w1.heap.size,0,none⟩=some (.int .i64 (c 10))):=Za ((Zs w1 _ _).cell 0);clear b2;refine ⟨K0.o.below D2.o K0.o.lt,?_⟩;refine P8 ?_;refine Ee ?_;generalize w1.alloc (.cells #[.int .i64 (c 10)] 3)=w2 at*;generalize w1.heap.size=g0 at*;refine JA #[f,.slice (some ⟨g0,0,none⟩) 1 1] call280 ((AH f g0 w2 HF2.o HC.o HN.o).mono ?_);rintro o w3 ⟨f',rfl,hf,b3⟩;have D3:Zj (Zp W.heap.size W w3):=Za (D2.o.trans (b3.mono D2.o.size));have HP:Zj (FO w (El a x c) (.returned f') w3):=Za ⟨f',rfl,hf,B0.o.trans (D3.o.mono HW.o)⟩;refine ⟨_,rfl,K0.o.below D3.o K0.o.lt,?_⟩;clear b3 hf HF HF2 HC D0 D1 D2;exact ZiZ
 ·refine Yv rfl rfl (Kd 24 3 i0 _ (.int .i64 0) (.int .i64 (c 10)) rfl rfl underlying24 Oi GO Ty rfl rfl ?_);have D1:Zj (Zp W.heap.size W (W.drew.alloc (.cells #[.int .i64 (c 10)] 3))):=Za (D0.o.alloc (Zh _) _);have HC:Zj ((W.drew.alloc (.cells #[.int .i64 (c 10)] 3)).cell? ⟨W.heap.size,0,none⟩=some (.int .i64 (c 10))):=Za ((Zs W.drew _ _).cell 0);refine ⟨K0.o.below D1.o K0.o.lt,?_⟩;refine JC (i:=3) ?_;refine Ee ?_;have HE:W.drew.heap.size=W.heap.size:=rfl;rw [HE];generalize W.drew.alloc (.cells #[.int .i64 (c 10)] 3)=w1 at*;refine JA #[.int .u64 a,.int .u64 x,.agg (Zi c)] call294 ((HX.o w1).mono ?_);rintro o w2 ⟨f,rfl,hf,b2⟩;have D2:Zj (Zp W.heap.size W w2):=Za (D1.o.trans (b2.mono D1.o.size));have HF:=Za hf;have pF:=Za (UR HC.o b2);clear b2 hf;refine ⟨_,rfl,K0.o.below D2.o K0.o.lt,?_⟩;refine P8 ?_;refine Ee ?_;refine JA #[f,.slice (some ⟨W.heap.size,0,none⟩) 1 1] call280 ((AH f W.heap.size w2 HF.o pF.o HN.o).mono ?_);rintro o w3 ⟨f',rfl,hf,b3⟩;have D3:Zj (Zp W.heap.size W w3):=Za (D2.o.trans (b3.mono D2.o.size));have HP:Zj (FO w (El a x c) (.returned f') w3):=Za ⟨f',rfl,hf,B0.o.trans (D3.o.mono HW.o)⟩;refine ⟨_,rfl,K0.o.below D3.o K0.o.lt,?_⟩;clear b3 hf HF HC pF D0 D1 D2;exact ZiZ
theorem lI (hg:Good c)(ha:DU a)(hx:DU x)(w:Zc) :
  Calls Zb 252 #[.int .u64 a,.int .u64 x,.agg (Zi c)] w (FO w (lG a x c)):=by
 obtain ⟨i0,Oi,GO,Ty⟩:=SL;have HX:=Za (fun w=>dt hg ha hx w);have HS:=Za (fun w=>di c hg w);have HN:Zj (0<=DS c/\DS c<=9223372036854775807):=Za (by have:=aE hg; omega);have HG:=Za (show lG a x c=N7 (El a x c) (DS c) from rfl);clear hg ha hx;generalize DS c=n at*;go_enter func252,ntmps252;go_wp2_with (fail);have K0:Zj (Zu (w.alloc (.cells (Zi c) 30)) w.heap.size 30 (Zi c)):=Za (Zs w _ _);have B0:Zj (Zp w.heap.size w (w.alloc (.cells (Zi c) 30))):=Za ((Zn _ _).alloc (Zh _) _);generalize w.alloc (.cells (Zi c) 30)=W at*;refine L5 (fun w'=>Zu w' w.heap.size 30 (Zi c)) 8 4 [0,1,2,4] K0.o ?_;refine JH ?_;refine Hg ?_;refine BZ ?_;refine ZiS ?_;refine X7 ?_;refine ZiS ?_;refine X7 ?_;refine Yo ?_;have D0:Zj (Zp W.heap.size W W.drew):=Za (Below.drew (Zn _ _));have HW:Zj (w.heap.size<=W.heap.size):=Za B0.o.size;refine JC (i:=3) ?_;refine JA #[.int .u64 a,.int .u64 x,.agg (Zi c)] call279 ((HX.o W.drew).mono ?_);rintro o w1 ⟨f,rfl,hf,b1⟩;have D1:Zj (Zp W.heap.size W w1):=Za (D0.o.trans (b1.mono D0.o.size));have HF:=Za hf;clear b1 hf;refine ⟨_,rfl,K0.o.below D1.o K0.o.lt,?_⟩;refine Ed ?_;refine Ee ?_;refine JA #[.agg (Zi c)] call281 ((HS.o w1).mono ?_);rintro o w2 ⟨rfl,b2⟩;have D2:Zj (Zp W.heap.size W w2):=Za (D1.o.trans (b2.mono D1.o.size));have HF1:=Za (HF.o.below b2);clear b2 HF;refine ⟨_,rfl,K0.o.below D2.o K0.o.lt,?_⟩;refine Lz ?_;refine Ee ?_;refine Yv rfl rfl (Kd 24 3 i0 _ (.int .i64 0) (.int .i64 n) rfl rfl underlying24 Oi GO Ty rfl rfl ?_);have b3:Zp w2.heap.size w2 (w2.alloc (.cells #[.int .i64 n] 3)):=(Zn _ _).alloc (Zh _) _;have D3:Zj (Zp W.heap.size W (w2.alloc (.cells #[.int .i64 n] 3))):=Za (D2.o.trans (b3.mono D2.o.size));have HF2:=Za (HF1.o.below b3);have HC:Zj ((w2.alloc (.cells #[.int .i64 n] 3)).cell? ⟨w2.heap.size,0,none⟩=some (.int .i64 n)):=Za ((Zs w2 _ _).cell 0);clear b3;refine ⟨K0.o.below D3.o K0.o.lt,?_⟩;refine P8 ?_;refine Ee ?_;generalize w2.alloc (.cells #[.int .i64 n] 3)=w3 at*;generalize w2.heap.size=g0 at*;refine JA #[f,.slice (some ⟨g0,0,none⟩) 1 1] call280 ((AH f g0 w3 HF2.o HC.o HN.o).mono ?_);rintro o w4 ⟨f',rfl,hf,b4⟩;have D4:Zj (Zp W.heap.size W w4):=Za (D3.o.trans (b4.mono D3.o.size));have HP:Zj (FO w (lG a x c) (.returned f') w4):=Za ⟨f',rfl,by rw [HG.o]; exact hf,B0.o.trans (D4.o.mono HW.o)⟩;refine ⟨_,rfl,K0.o.below D4.o K0.o.lt,?_⟩;clear b4 hf HF1 HF2 HC D0 D1 D2 D3;exact ZiZ
end
section
variable {a x:Int} {c:Nat->Int}
theorem rS (hg:Good c)(ha:DU a)(hx:DU x)(e:Int)(w:Zc) :
  Z3 217 #[.int .i64 e,.int .u64 a,.int .u64 x,.agg (Zi c)] w (KQ (lG a x c e)):=by
 have HX:=Za (fun w=>lI hg ha hx w);have K0:Zj (Zu (w.alloc (.cells (Zi c) 30)) w.heap.size 30 (Zi c)):=Za (Zs w _ _);have B0:Zj (Zp w.heap.size w (w.alloc (.cells (Zi c) 30))):=Za ((Zn _ _).alloc (Zh _) _);clear hg ha hx;go_enter func217,ntmps217;go_wp2_with (first | (refine Kl 30 w.heap.size K0.o underlying30 Qk ?_));refine (HX.o _).mono ?_;rintro o w1 ⟨f,rfl,hf,b1⟩;obtain ⟨F,Bf,rfl,Um,BJ⟩:=hf;have B1:Zj (Zp w.heap.size w w1):=Za (B0.o.trans (b1.mono B0.o.size));have HR:=Za (BJ w1 e (Zn _ _));clear BJ b1 B0 K0 HX;generalize hr:lG a x c e=r at*;have HQ:=Za hr;go_wp2_with (fail);refine HR.o.mono ?_;rintro o w2 ⟨rfl,b2⟩;have B2:Zj (Zp w.heap.size w w2):=Za (B1.o.trans (b2.mono B1.o.size));clear b2 B1 HR hr
 rcases r with _ | s
 ·exact ZfD
 ·exact ZfD
end
end
section
open Go Go.RowKit
def SM (a x:Int)(c:Nat->Int)(more e:Int) :Option Int:=match Dc a x c with | none=>none | some k=>if 0<=e/\e+k+1+more<=1099511627776 then some (e+k+1+more) else none
theorem cc (e:Int)(z:List Int)(k:Nat) :XX e z (k+1)=(match XX e z k with | none=>none | some s=>if 0<=z.getD k 0/\z.getD k 0<=1099511627776 - s then some (s+z.getD k 0) else none):=rfl
theorem SO {s n:Int}(hn:0<=n) :XX s [n] 1=if 0<=s/\s+n<=1099511627776 then some (s+n) else none:=by
 show (match XX s [n] 0 with | none=>none | some s'=>if 0<=([n] :List Int).getD 0 0/\([n] :List Int).getD 0 0<=1099511627776 - s' then some (s'+([n] :List Int).getD 0 0) else none)=_;simp only [List.getD_cons_zero]
 by_cases h:0<=s/\s<=1099511627776
 ·rw [show XX s [n] 0=some s from if_pos h]
  dsimp only
  by_cases h2:s+n<=1099511627776
  ·rw [if_pos Zf,if_pos Zf]
  ·exact jk
 ·rw [show XX s [n] 0=none from if_neg h]
  dsimp only
  rw [if_neg Zf]
theorem gK {e k:Int}(hk:0<=k) :XX e [k,1] 2=if 0<=e/\e+k+1<=1099511627776 then some (e+k+1) else none:=by
 rw [cc,show XX e [k,1] 1=XX e [k] 1 from rfl,SO hk];have e1:([k,1] :List Int).getD 1 0=1:=rfl;rw [e1]
 by_cases h:0<=e/\e+k<=1099511627776
 ·rw [if_pos h]
  dsimp only
  by_cases h2:e+k+1<=1099511627776
  ·rw [if_pos Zf,if_pos Zf]
  ·exact jk
 ·rw [if_neg h]
  dsimp only
  rw [if_neg Zf]
section
variable {a x:Int} {c:Nat->Int}
theorem uW (a x:Int)(c:Nat->Int)(e:Int) :SB a x c e=SM a x c 0 e:=by
 unfold SB SM
 cases h:Dc a x c with
 | none=>rfl
 | some k=>
  have:=jL h
  dsimp only
  rw [gK Zf,Int.add_zero]
theorem aj {m n:Int}(hm:0<=m)(hn:0<=n)(g:Int->Option Int)(hg: ∀e,g e=SM a x c m e)(e:Int) :N7 g n e=SM a x c (m+n) e:=by
 unfold N7;rw [hg e];unfold SM
 cases h:Dc a x c with
 | none=>rfl
 | some k=>
  have:=jL h
  dsimp only
  by_cases h1:0<=e/\e+k+1+m<=1099511627776
  ·rw [if_pos h1]
   dsimp only
   rw [SO hn]
   by_cases h2:e+k+1+(m+n)<=1099511627776
   ·rw [if_pos Zf,if_pos Zf,show e+k+1+m+n=e+k+1+(m+n) by omega]
   ·exact jk
  ·rw [if_neg h1,if_neg Zf]
theorem dr (hg:Good c)(a x e:Int) :El a x c e=SM a x c (c 10) e:=by
 have:=aj (a:=a) (x:=x) (c:=c) (m:=0) (n:=c 10) (Int.le_refl _) (by have:=hg.unb0; omega) _ (uW a x c) e;rwa [Int.zero_add] at this
theorem ZcK (hg:Good c)(a x e:Int) :lG a x c e=SM a x c (c 10+DS c) e:=
 aj (by have:=hg.unb0; omega) (aE hg).1 _ (dr hg a x) e
end
end
end Go.Proofs.YtobgbcdgffgdhaaGreat
