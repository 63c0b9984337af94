/- Part 21 of 29: L18Clo L18Pay L18RefPay. -/
import Derived.Test.YtianiiijaopdpaaGreatZy00
import Derived.Test.YtianiiijaopdpaaGreatZy15
import Derived.Test.YtianiiijaopdpaaGreatZy19
import Derived.Laws.EntriesVeiled
namespace Go.Proofs.YtianiiijaopdpaaGreat
set_option linter.unusedVariables false
set_option linter.unusedSimpArgs false
set_option maxRecDepth 100000
set_option maxHeartbeats 8000000
open _root_.Go.RowKit renaming Below → Zs
open _root_.Go.RowKit.Below renaming refl → Zp
open _root_.Go.Proofs.YtianiiijaopdpaaGreat.Blk renaming new → Zv
open _root_.Go renaming Calls → Zj, Value → Zl, World → Zc
open _root_.Go.Instr renaming makeFunc → Jm
open _root_.Go.Lib renaming hid → Za
open _root_.Nat renaming le_refl → Zg
open _root_.Go.Proofs.Tryz renaming prog → Zb, underlying24 → ZC, underlying47 → YI
theorem Zcr {G H:Prop} (k:H) (h:BZ H→G:=by
  intro zk;refine Jw 24 _ w.heap.size 24 (Zk c) _ Ye rfl rfl (fun w h=>h) Tryz.underlying24 rfl XG ?_;exact zk.out) :G:=h ⟨k⟩
theorem Zct {G:Prop} (h:G:=by
  refine Bn ?_;refine ⟨by kernel_rfl,?_⟩;refine LY ?_;go_wp2_with (fail);refine GM ?_;go_wp2;go_ret;exact HP.out) :G:=h
theorem js {G:Prop} (h:G:=by
  unfold KQ;go_wp2_with (fail);go_ret2;exact ⟨by rw [HG.out]; rfl,B1.out⟩) :G:=h
theorem zE {G:Prop} (h:G:=by
  unfold KQ;go_wp2_with (fail);go_ret2;exact ⟨by rw [HG.out]; rfl,B2.out⟩) :G:=h
theorem zF {G:Prop} (h:G:=by
  unfold KQ;go_wp2_with (fail);go_ret2;exact ⟨by rw [HQ.out]; rfl,B2.out⟩) :G:=h
theorem jA {G:Prop} (h:G:=by
  rw [if_neg Zm,if_neg Zm]) :G:=h
section
open Go Go.RowKit
theorem WZ (e:Int)(a:Option Addr)(len cap:Nat)(z:List Int)(w:Zc)(hlen:len≤9223372036854775807)
  (hz: ∀i,i < len→ -9223372036854775808≤z.getD i 0∧z.getD i 0≤9223372036854775807)
  (hc:0 < len→ ∃b off,a=some ⟨b,off,none⟩∧ ∀i,i < len→w.cell? ⟨b,off+i,none⟩=some (.int .i64 (z.getD i 0))) :
  Zj Zb 247 #[.int .i64 e,.slice a len cap] w fun o w'=>o= .returned (KQ (XI e z len))∧w=w':=by
 by_cases h:0≤e∧e≤1099511627776
 ·exact Oo e a len cap z w h.1 h.2 hlen hz hc
 ·have:=laterTo_none (e:=e) (z:=z) (k:=0) (if_neg h) len;rw [Nat.zero_add] at this;rw [this];exact Ot e a len cap w Zm
def Mr (g:Int→Option Int)(n:Int) :Int→Option Int:=fun e=>match g e with | none=>none | some s=>XI s [n] 1
def OX (a x:Int)(c:Nat→Int) :Int→Option Int:=fun e=>match Bq a x c with | none=>none | some k=>XI e [k,1] 2
def Dl (a x:Int)(c:Nat→Int) :Int→Option Int:=Mr (OX a x c) (c 10)
def ff (a x:Int)(c:Nat→Int) :Int→Option Int:=Mr (Dl a x c) (BS c)
def G9 (w:Zc)(f:Zl)(g:Int→Option Int) :Prop:=
 ∃(F:Nat) (Dr:Array Zl),f= .func (.func F) #[] Dr∧(∀args w,(callFunc F args).run Zb w= .ok (.enter F args) w)∧
  ∀w1 e,Zs w.heap.size w w1→Zj Zb F (#[.int .i64 e]++Dr) w1 fun o w2=>o= .returned (KQ (g e))∧Zs w1.heap.size w1 w2
theorem G9.below {w w':Zc}{f:Zl}{g:Int→Option Int}(h:G9 w f g)(hb:Zs w.heap.size w w') :G9 w' f g:=by
 obtain ⟨F,Dr,h1,h2,h3⟩:=h;exact ⟨F,Dr,h1,h2,fun w1 e ER=>h3 w1 e (hb.trans (ER.mono hb.size))⟩
theorem my (w:Zc)(m n:Int)(t:TypeId) : ∀i,i < 2→(w.alloc (.cells #[.int .i64 m,.int .i64 n] t)).cell? ⟨w.heap.size,0+i,none⟩=some (.int .i64 (([m,n] :List Int).getD i 0)):=fun i hi=>by
 rw [Nat.zero_add,(Zv w t _).cell];have:i=0∨i=1:=by omega
 rcases this with rfl | rfl <;> rfl
section
variable {a x:Int} {c:Nat→Int}
theorem kF (hg:Good c)(ha:BU a)(hx:BU x)(b0 b1 b2:Nat)(e:Int)(w:Zc)(h0:w.cell? ⟨b0,0,none⟩=some (.int .u64 a))(h1:w.cell? ⟨b1,0,none⟩=some (.int .u64 x))(h2:Blk w b2 24 (Zk c)) :
  Zj Zb 328 #[.int .i64 e,.pointer (some ⟨b0,0,none⟩),.pointer (some ⟨b1,0,none⟩),.pointer (some ⟨b2,0,none⟩)] w fun o w'=>o= .returned (KQ (OX a x c e))∧Zs w.heap.size w w':=by
 have HB:=Za (fun w=>Nb hg ha hx w);have H2:=Za h2;have HG:=Za (show OX a x c e=(match Bq a x c with | none=>none | some k=>XI e [k,1] 2) from rfl);have HK:=Za (fun k (h:Bq a x c=some k)=>dx h);clear h2 hg ha hx;generalize hq:Bq a x c=q at*;clear hq;go_enter Tryz.func328,Tryz.ntmps328;go_wp2_with (first | (refine wpList_load_row rfl 24 _ rfl b2 rfl 24 _ (0,0) _ H2.out ZC rfl XG ?_));refine (HB.out _).mono ?_;rintro o w1 ⟨rfl,b1⟩;have B1:=Za b1;clear b1 HB H2
 rcases q with _ | k
 ·exact js
 ·have HL:=Za (WZ e (some ⟨w1.heap.size,0,none⟩) 2 2 [k,1] (w1.alloc (.cells #[.int .i64 k,.int .i64 1] 3)) Zm (fun i hi=>by
   have:=HK.out k rfl;have:i=0∨i=1:=by omega
   rcases this with rfl | rfl
   ·show -9223372036854775808≤k∧k≤9223372036854775807;omega
   ·show -9223372036854775808≤(1:Int)∧(1:Int)≤9223372036854775807;omega) (fun _=>⟨_,_,rfl,my w1 k 1 3⟩))
  have B2:Hid (Zs w.heap.size w (w1.alloc (.cells #[.int .i64 k,.int .i64 1] 3))):=Za (B1.out.alloc B1.out.size _);unfold KQ;go_wp2_with (fail);refine HL.out.mono ?_;rintro o w2 ⟨rfl,rfl⟩;have HG:Hid (OX a x c e=XI e [k,1] 2):=HG;generalize hr:XI e [k,1] 2=r at*
  rcases r with _ | s
  ·exact zE
  ·exact zE
theorem oN (hg:Good c)(ha:BU a)(hx:BU x)(w:Zc) :
  Zj Zb 322 #[.int .u64 a,.int .u64 x,.agg (Zk c)] w fun o w'=> ∃f,o= .returned f∧G9 w' f (OX a x c)∧Zs w.heap.size w w':=by
 have Ix: ∀(fn:Fn) (first cap:Array Zl) (w:Zc),(Jm fn first cap).run Zb w= .ok (.func fn first cap) w:=fun _ _ _ _=>rfl
 have HB:Hid (Zs w.heap.size w (((w.alloc (.cells #[.int .u64 a] 22)).alloc (.cells #[.int .u64 x] 22)).alloc (.cells (Zk c) 24))):=Za ((((Zp _ _).alloc (Zg _) _).alloc ZI _).alloc zB13_2 _);have HI:Hid (G9 (((w.alloc (.cells #[.int .u64 a] 22)).alloc (.cells #[.int .u64 x] 22)).alloc (.cells (Zk c) 24)) (.func (.func 328) #[] #[.pointer (some ⟨w.heap.size,0,none⟩),.pointer (some ⟨w.heap.size+1,0,none⟩),.pointer (some ⟨w.heap.size+2,0,none⟩)]) (OX a x c)):=Za (by
  have k0:Blk (((w.alloc (.cells #[.int .u64 a] 22)).alloc (.cells #[.int .u64 x] 22)).alloc (.cells (Zk c) 24)) w.heap.size 22 #[.int .u64 a]:=((Zv w _ _).alloc _).alloc _;have k1:Blk (((w.alloc (.cells #[.int .u64 a] 22)).alloc (.cells #[.int .u64 x] 22)).alloc (.cells (Zk c) 24)) (w.heap.size+1) 22 #[.int .u64 x]:=by
   have:=(Zv (w.alloc (.cells #[.int .u64 a] 22)) 22 #[.int .u64 x]).alloc (.cells (Zk c) 24);rwa [show (w.alloc (.cells #[.int .u64 a] 22)).heap.size=w.heap.size+1 by simp] at this
  have k2:Blk (((w.alloc (.cells #[.int .u64 a] 22)).alloc (.cells #[.int .u64 x] 22)).alloc (.cells (Zk c) 24)) (w.heap.size+2) 24 (Zk c):=by
   have:=Zv ((w.alloc (.cells #[.int .u64 a] 22)).alloc (.cells #[.int .u64 x] 22)) 24 (Zk c);rwa [show ((w.alloc (.cells #[.int .u64 a] 22)).alloc (.cells #[.int .u64 x] 22)).heap.size=w.heap.size+2 by simp] at this
  exact ⟨_,_,rfl,Tryz.call328,fun w1 e hb=>kF hg ha hx _ _ _ e w1 ((k0.below hb k0.lt).cell 0) ((k1.below hb k1.lt).cell 0) (k2.below hb k2.lt)⟩)
 clear hg ha hx;go_enter Tryz.func322,Tryz.ntmps322;go_wp2;go_ret;exact ⟨_,rfl,HI.out,HB.out⟩
end
section
variable {g:Int→Option Int} {n:Int}
theorem lI (bf bs g0:Nat)(f:Zl)(e:Int)(w0 w:Zc)(hf:G9 w0 f g)(hb:Zs w0.heap.size w0 w)(h0:w.cell? ⟨bf,0,none⟩=some f)(h1:w.cell? ⟨bs,0,none⟩=some (.slice (some ⟨g0,0,none⟩) 1 1))(h2:w.cell? ⟨g0,0,none⟩=some (.int .i64 n))(hn:0≤n∧n≤9223372036854775807) :
  Zj Zb 323 #[.int .i64 e,.pointer (some ⟨bf,0,none⟩),.pointer (some ⟨bs,0,none⟩)] w fun o w'=>o= .returned (KQ (Mr g n e))∧Zs w.heap.size w w':=by
 obtain ⟨F,Dr,rfl,BX,Be⟩:=hf;have HR:=Za (Be w e hb);have HG:=Za (show Mr g n e=(match g e with | none=>none | some s=>XI s [n] 1) from rfl);have H1:=Za (And.intro h1 h2);clear Be hb h2;generalize hq:g e=q at*;clear hq;go_enter Tryz.func323,Tryz.ntmps323;go_wp2_with (fail);refine HR.out.mono ?_;rintro o w1 ⟨rfl,b1⟩;have B1:=Za b1;have c1:w1.cell? ⟨bs,0,none⟩=some (.slice (some ⟨g0,0,none⟩) 1 1):=UA H1.out.1 b1;have C2:Hid (w1.cell? ⟨g0,0,none⟩=some (.int .i64 n)):=Za (UA H1.out.2 b1);clear b1 HR h0 h1 BX H1
 rcases q with _ | s
 ·exact js
 ·have HL:=Za (WZ s (some ⟨g0,0,none⟩) 1 1 [n] w1 Zm (fun i hi=>by
   obtain rfl:i=0:=by omega
   show -9223372036854775808≤n∧n≤9223372036854775807;omega) (fun _=>⟨_,_,rfl,fun i hi=>by
    obtain rfl:i=0:=by omega
    exact C2.out⟩))
  unfold KQ;go_wp2_with (fail);refine HL.out.mono ?_;rintro o w2 ⟨rfl,rfl⟩;have HG:Hid (Mr g n e=XI s [n] 1):=HG;generalize hr:XI s [n] 1=r at*
  rcases r with _ | s2
  ·exact js
  ·exact js
theorem SK (f:Zl)(g0:Nat)(w:Zc)(hf:G9 w f g)(h2:w.cell? ⟨g0,0,none⟩=some (.int .i64 n))(hn:0≤n∧n≤9223372036854775807) :
  Zj Zb 307 #[f,.slice (some ⟨g0,0,none⟩) 1 1] w fun o w'=> ∃f',o= .returned f'∧G9 w' f' (Mr g n)∧Zs w.heap.size w w':=by
 have Ix: ∀(fn:Fn) (first cap:Array Zl) (w:Zc),(Jm fn first cap).run Zb w= .ok (.func fn first cap) w:=fun _ _ _ _=>rfl
 obtain ⟨F,Dr,rfl,BX,Be⟩:=hf;have hf:G9 w (.func (.func F) #[] Dr) g:=⟨F,Dr,rfl,BX,Be⟩;have PH:Zs w.heap.size w ((w.alloc (.cells #[.func (.func F) #[] Dr] 343)).alloc (.cells #[.slice (some ⟨g0,0,none⟩) 1 1] 47)):=((Zp _ _).alloc (Zg _) _).alloc ZI _;have HB:=Za PH;have HI:Hid (G9 ((w.alloc (.cells #[.func (.func F) #[] Dr] 343)).alloc (.cells #[.slice (some ⟨g0,0,none⟩) 1 1] 47)) (.func (.func 323) #[] #[.pointer (some ⟨w.heap.size,0,none⟩),.pointer (some ⟨w.heap.size+1,0,none⟩)]) (Mr g n)):=Za (by
  have k0:Blk ((w.alloc (.cells #[.func (.func F) #[] Dr] 343)).alloc (.cells #[.slice (some ⟨g0,0,none⟩) 1 1] 47)) w.heap.size 343 #[.func (.func F) #[] Dr]:=(Zv w _ _).alloc _;have k1:Blk ((w.alloc (.cells #[.func (.func F) #[] Dr] 343)).alloc (.cells #[.slice (some ⟨g0,0,none⟩) 1 1] 47)) (w.heap.size+1) 47 #[.slice (some ⟨g0,0,none⟩) 1 1]:=by
   have:=Zv (w.alloc (.cells #[.func (.func F) #[] Dr] 343)) 47 #[.slice (some ⟨g0,0,none⟩) 1 1];rwa [show (w.alloc (.cells #[.func (.func F) #[] Dr] 343)).heap.size=w.heap.size+1 by simp] at this
  exact ⟨_,_,rfl,Tryz.call323,fun w1 e hb=>lI _ _ g0 _ e w w1 hf (PH.trans (hb.mono PH.size)) ((k0.below hb k0.lt).cell 0) ((k1.below hb k1.lt).cell 0) (UA (UA h2 PH) hb) hn⟩)
 clear hf BX Be PH h2 hn;go_enter Tryz.func307,Tryz.ntmps307;go_wp2;go_ret;exact ⟨_,rfl,HI.out,HB.out⟩
end
end
section
open Go Go.RowKit
theorem O7: ∃i,Tryz.prog.info? 3=some i∧i.zero=some (.int .i64 0)∧i.size=1:=by
 have h:(Tryz.prog.info? 3).map (fun i=>(i.zero,i.size))=some (some (.int .i64 0),1):=by kernel_rfl
 cases hi:Tryz.prog.info? 3 with
 | none=>rw [hi] at h; cases h
 | some i=>
  rw [hi] at h;simp at h;exact ⟨i,rfl,h.1,h.2⟩
section
variable {a x:Int} {c:Nat→Int}
def EI (w:Zc)(g:Int→Option Int)(o:Ending)(w':Zc) :Prop:= ∃f,o= .returned f∧G9 w' f g∧Zs w.heap.size w w'
theorem Ig (hg:Good c)(ha:BU a)(hx:BU x)(w:Zc) :
  Zj Zb 306 #[.int .u64 a,.int .u64 x,.agg (Zk c)] w (EI w (Dl a x c)):=by
 obtain ⟨i0,MD,BM,Wd⟩:=O7;have HX:=Za (fun w=>oN hg ha hx w);have hn:0≤c 10∧c 10≤9223372036854775807:=by have:=hg.unb0; have:=hg.unb1; omega
 have HN:=Za hn;clear hg ha hx hn;go_enter Tryz.func306,Tryz.ntmps306;go_wp2_with (fail);have K0:Hid (Blk (w.alloc (.cells (Zk c) 24)) w.heap.size 24 (Zk c)):=Za (Zv w _ _);have B0:Hid (Zs w.heap.size w (w.alloc (.cells (Zk c) 24))):=Za ((Zp _ _).alloc (Zg _) _);generalize w.alloc (.cells (Zk c) 24)=W at*;refine M0 (fun w'=>Blk w' w.heap.size 24 (Zk c)) 8 3 [0,1,2,4,5] K0.out ?_;refine Kg ?_;refine NX ?_;refine BL ?_;refine Zcr ?_;refine Qe ?_;refine GN ?_;refine YJ 3 _ ⟨w.heap.size,10,none⟩ (.int .i64 (c 10)) rfl rfl rfl (fun w h=>by simp [go_sem,h]) (fun w h=>h.cell 10) ?_;refine Qe ?_;refine Qc ?_;have D0:Hid (Zs W.heap.size W W.drew):=Za (Below.drew (Zp _ _));have HW:Hid (w.heap.size≤W.heap.size):=Za B0.out.size;refine UQ (i:=3) (k:=6) Ye Zm Zm ?_ ?_
 ·refine JZ #[.int .u64 a,.int .u64 x,.agg (Zk c)] Tryz.call322 ((HX.out W.drew).mono ?_);rintro o w1 ⟨f,rfl,hf,b1⟩;have D1:Hid (Zs W.heap.size W w1):=Za (D0.out.trans (b1.mono D0.out.size));have HF:=Za hf;clear b1 hf;refine ⟨_,rfl,K0.out.below D1.out K0.out.lt,?_⟩;refine Mb ?_;refine Dg ?_;refine YD rfl rfl (Bh 47 3 i0 _ (.int .i64 0) (.int .i64 (c 10)) rfl rfl YI MD BM Wd rfl rfl ?_);have b2:Zs w1.heap.size w1 (w1.alloc (.cells #[.int .i64 (c 10)] 3)):=(Zp _ _).alloc (Zg _) _;have D2:Hid (Zs W.heap.size W (w1.alloc (.cells #[.int .i64 (c 10)] 3))):=Za (D1.out.trans (b2.mono D1.out.size));have xZ:=Za (HF.out.below b2);have HC:Hid ((w1.alloc (.cells #[.int .i64 (c 10)] 3)).cell? ⟨w1.heap.size,0,none⟩=some (.int .i64 (c 10))):=Za ((Zv w1 _ _).cell 0);clear b2;refine ⟨K0.out.below D2.out K0.out.lt,?_⟩;refine hfO (i:=7) ?_;refine Dg ?_;generalize w1.alloc (.cells #[.int .i64 (c 10)] 3)=w2 at*;generalize w1.heap.size=g0 at*;refine JZ #[f,.slice (some ⟨g0,0,none⟩) 1 1] Tryz.call307 ((SK f g0 w2 xZ.out HC.out HN.out).mono ?_);rintro o w3 ⟨f',rfl,hf,b3⟩;have D3:Hid (Zs W.heap.size W w3):=Za (D2.out.trans (b3.mono D2.out.size));have HP:Hid (EI w (Dl a x c) (.returned f') w3):=Za ⟨f',rfl,hf,B0.out.trans (D3.out.mono HW.out)⟩;refine ⟨_,rfl,K0.out.below D3.out K0.out.lt,?_⟩;clear b3 hf HF xZ HC D0 D1 D2;exact Zct
 ·refine YD rfl rfl (Bh 47 3 i0 _ (.int .i64 0) (.int .i64 (c 10)) rfl rfl YI MD BM Wd rfl rfl ?_);have D1:Hid (Zs W.heap.size W (W.drew.alloc (.cells #[.int .i64 (c 10)] 3))):=Za (D0.out.alloc (Zg _) _);have HC:Hid ((W.drew.alloc (.cells #[.int .i64 (c 10)] 3)).cell? ⟨W.heap.size,0,none⟩=some (.int .i64 (c 10))):=Za ((Zv W.drew _ _).cell 0);refine ⟨K0.out.below D1.out K0.out.lt,?_⟩;refine hfO (i:=3) ?_;refine Dg ?_;have HE:W.drew.heap.size=W.heap.size:=rfl;rw [HE];generalize W.drew.alloc (.cells #[.int .i64 (c 10)] 3)=w1 at*;refine JZ #[.int .u64 a,.int .u64 x,.agg (Zk c)] Tryz.call322 ((HX.out w1).mono ?_);rintro o w2 ⟨f,rfl,hf,b2⟩;have D2:Hid (Zs W.heap.size W w2):=Za (D1.out.trans (b2.mono D1.out.size));have HF:=Za hf;have sH:=Za (UA HC.out b2);clear b2 hf;refine ⟨_,rfl,K0.out.below D2.out K0.out.lt,?_⟩;refine hfO (i:=7) ?_;refine Dg ?_;refine JZ #[f,.slice (some ⟨W.heap.size,0,none⟩) 1 1] Tryz.call307 ((SK f W.heap.size w2 HF.out sH.out HN.out).mono ?_);rintro o w3 ⟨f',rfl,hf,b3⟩;have D3:Hid (Zs W.heap.size W w3):=Za (D2.out.trans (b3.mono D2.out.size));have HP:Hid (EI w (Dl a x c) (.returned f') w3):=Za ⟨f',rfl,hf,B0.out.trans (D3.out.mono HW.out)⟩;refine ⟨_,rfl,K0.out.below D3.out K0.out.lt,?_⟩;clear b3 hf HF HC sH D0 D1 D2;exact Zct
theorem fh (hg:Good c)(ha:BU a)(hx:BU x)(w:Zc) :
  Zj Zb 278 #[.int .u64 a,.int .u64 x,.agg (Zk c)] w (EI w (ff a x c)):=by
 obtain ⟨i0,MD,BM,Wd⟩:=O7;have HX:=Za (fun w=>Ig hg ha hx w);have HS:=Za (fun w=>C9 c hg w);have HN:Hid (0≤BS c∧BS c≤9223372036854775807):=Za (by have:=Az hg; omega);have HG:=Za (show ff a x c=Mr (Dl a x c) (BS c) from rfl);clear hg ha hx;generalize BS c=n at*;go_enter Tryz.func278,Tryz.ntmps278;go_wp2_with (fail);have K0:Hid (Blk (w.alloc (.cells (Zk c) 24)) w.heap.size 24 (Zk c)):=Za (Zv w _ _);have B0:Hid (Zs w.heap.size w (w.alloc (.cells (Zk c) 24))):=Za ((Zp _ _).alloc (Zg _) _);generalize w.alloc (.cells (Zk c) 24)=W at*;refine M0 (fun w'=>Blk w' w.heap.size 24 (Zk c)) 8 4 [0,1,2,4] K0.out ?_;refine Kg ?_;refine Ma ?_;refine BL ?_;refine Zcr ?_;refine Qe ?_;refine Zcr ?_;refine Qe ?_;refine Qc ?_;have D0:Hid (Zs W.heap.size W W.drew):=Za (Below.drew (Zp _ _));have HW:Hid (w.heap.size≤W.heap.size):=Za B0.out.size;refine hfO (i:=3) ?_;refine JZ #[.int .u64 a,.int .u64 x,.agg (Zk c)] Tryz.call306 ((HX.out W.drew).mono ?_);rintro o w1 ⟨f,rfl,hf,b1⟩;have D1:Hid (Zs W.heap.size W w1):=Za (D0.out.trans (b1.mono D0.out.size));have HF:=Za hf;clear b1 hf;refine ⟨_,rfl,K0.out.below D1.out K0.out.lt,?_⟩;refine EE ?_;refine Dg ?_;refine JZ #[.agg (Zk c)] Tryz.call308 ((HS.out w1).mono ?_);rintro o w2 ⟨rfl,b2⟩;have D2:Hid (Zs W.heap.size W w2):=Za (D1.out.trans (b2.mono D1.out.size));have HF1:=Za (HF.out.below b2);clear b2 HF;refine ⟨_,rfl,K0.out.below D2.out K0.out.lt,?_⟩;refine Mb ?_;refine Dg ?_;refine YD rfl rfl (Bh 47 3 i0 _ (.int .i64 0) (.int .i64 n) rfl rfl YI MD BM Wd rfl rfl ?_);have b3:Zs w2.heap.size w2 (w2.alloc (.cells #[.int .i64 n] 3)):=(Zp _ _).alloc (Zg _) _;have D3:Hid (Zs W.heap.size W (w2.alloc (.cells #[.int .i64 n] 3))):=Za (D2.out.trans (b3.mono D2.out.size));have xZ:=Za (HF1.out.below b3);have HC:Hid ((w2.alloc (.cells #[.int .i64 n] 3)).cell? ⟨w2.heap.size,0,none⟩=some (.int .i64 n)):=Za ((Zv w2 _ _).cell 0);clear b3;refine ⟨K0.out.below D3.out K0.out.lt,?_⟩;refine hfO (i:=7) ?_;refine Dg ?_;generalize w2.alloc (.cells #[.int .i64 n] 3)=w3 at*;generalize w2.heap.size=g0 at*;refine JZ #[f,.slice (some ⟨g0,0,none⟩) 1 1] Tryz.call307 ((SK f g0 w3 xZ.out HC.out HN.out).mono ?_);rintro o w4 ⟨f',rfl,hf,b4⟩;have D4:Hid (Zs W.heap.size W w4):=Za (D3.out.trans (b4.mono D3.out.size));have HP:Hid (EI w (ff a x c) (.returned f') w4):=Za ⟨f',rfl,by rw [HG.out]; exact hf,B0.out.trans (D4.out.mono HW.out)⟩;refine ⟨_,rfl,K0.out.below D4.out K0.out.lt,?_⟩;clear b4 hf HF1 xZ HC D0 D1 D2 D3;exact Zct
end
section
variable {a x:Int} {c:Nat→Int}
theorem lF (hg:Good c)(ha:BU a)(hx:BU x)(e:Int)(w:Zc) :
  Zj Zb 239 #[.int .i64 e,.int .u64 a,.int .u64 x,.agg (Zk c)] w fun o w'=>o= .returned (KQ (ff a x c e))∧Zs w.heap.size w w':=by
 have HX:=Za (fun w=>fh hg ha hx w);have K0:Hid (Blk (w.alloc (.cells (Zk c) 24)) w.heap.size 24 (Zk c)):=Za (Zv w _ _);have B0:Hid (Zs w.heap.size w (w.alloc (.cells (Zk c) 24))):=Za ((Zp _ _).alloc (Zg _) _);clear hg ha hx;go_enter Tryz.func239,Tryz.ntmps239;go_wp2_with (first | (refine wpList_load_row rfl 24 _ rfl w.heap.size rfl 24 _ (0,0) _ K0.out ZC rfl XG ?_));refine (HX.out _).mono ?_;rintro o w1 ⟨f,rfl,hf,b1⟩;obtain ⟨F,Dr,rfl,BX,Be⟩:=hf;have B1:Hid (Zs w.heap.size w w1):=Za (B0.out.trans (b1.mono B0.out.size));have HR:=Za (Be w1 e (Zp _ _));clear Be b1 B0 K0 HX;generalize hr:ff a x c e=r at*;have HQ:=Za hr;go_wp2_with (fail);refine HR.out.mono ?_;rintro o w2 ⟨rfl,b2⟩;have B2:Hid (Zs w.heap.size w w2):=Za (B1.out.trans (b2.mono B1.out.size));clear b2 B1 HR hr
 rcases r with _ | s
 ·exact zF
 ·exact zF
end
end
section
open Go Go.RowKit
def Pa (a x:Int)(c:Nat→Int)(more e:Int) :Option Int:=match Bq a x c with | none=>none | some k=>if 0≤e∧e+k+1+more≤1099511627776 then some (e+k+1+more) else none
theorem Cw (e:Int)(z:List Int)(k:Nat) :XI e z (k+1)=(match XI e z k with | none=>none | some s=>if 0≤z.getD k 0∧z.getD k 0≤1099511627776 - s then some (s+z.getD k 0) else none):=rfl
theorem Pb {s n:Int}(hn:0≤n) :XI s [n] 1=if 0≤s∧s+n≤1099511627776 then some (s+n) else none:=by
 show (match XI s [n] 0 with | none=>none | some s'=>if 0≤([n] :List Int).getD 0 0∧([n] :List Int).getD 0 0≤1099511627776 - s' then some (s'+([n] :List Int).getD 0 0) else none)=_;simp only [List.getD_cons_zero]
 by_cases h:0≤s∧s≤1099511627776
 ·rw [show XI s [n] 0=some s from if_pos h]
  dsimp only
  by_cases h2:s+n≤1099511627776
  ·rw [if_pos Zm,if_pos Zm]
  ·exact jA
 ·rw [show XI s [n] 0=none from if_neg h]
  dsimp only
  rw [if_neg Zm]
theorem bq {e k:Int}(hk:0≤k) :XI e [k,1] 2=if 0≤e∧e+k+1≤1099511627776 then some (e+k+1) else none:=by
 rw [Cw,show XI e [k,1] 1=XI e [k] 1 from rfl,Pb hk];have e1:([k,1] :List Int).getD 1 0=1:=rfl;rw [e1]
 by_cases h:0≤e∧e+k≤1099511627776
 ·rw [if_pos h]
  dsimp only
  by_cases h2:e+k+1≤1099511627776
  ·rw [if_pos Zm,if_pos Zm]
  ·exact jA
 ·rw [if_neg h]
  dsimp only
  rw [if_neg Zm]
section
variable {a x:Int} {c:Nat→Int}
theorem oM (a x:Int)(c:Nat→Int)(e:Int) :OX a x c e=Pa a x c 0 e:=by
 unfold OX Pa
 cases h:Bq a x c with
 | none=>rfl
 | some k=>
  have:=dx h
  dsimp only
  rw [bq Zm,Int.add_zero]
theorem Ak {m n:Int}(hm:0≤m)(hn:0≤n)(g:Int→Option Int)(hg: ∀e,g e=Pa a x c m e)(e:Int) :Mr g n e=Pa a x c (m+n) e:=by
 unfold Mr;rw [hg e];unfold Pa
 cases h:Bq a x c with
 | none=>rfl
 | some k=>
  have:=dx h
  dsimp only
  by_cases h1:0≤e∧e+k+1+m≤1099511627776
  ·rw [if_pos h1]
   dsimp only
   rw [Pb hn]
   by_cases h2:e+k+1+(m+n)≤1099511627776
   ·rw [if_pos Zm,if_pos Zm,show e+k+1+m+n=e+k+1+(m+n) by omega]
   ·rw [if_neg Zm,if_neg Zm]
  ·rw [if_neg h1,if_neg Zm]
theorem If (hg:Good c)(a x e:Int) :Dl a x c e=Pa a x c (c 10) e:=by
 have:=Ak (a:=a) (x:=x) (c:=c) (m:=0) (n:=c 10) (Int.le_refl _) (by have:=hg.unb0; omega) _ (oM a x c) e;rwa [Int.zero_add] at this
theorem vW (hg:Good c)(a x e:Int) :ff a x c e=Pa a x c (c 10+BS c) e:=
 Ak (by have:=hg.unb0; omega) (Az hg).1 _ (If hg a x) e
end
end
end Go.Proofs.YtianiiijaopdpaaGreat
