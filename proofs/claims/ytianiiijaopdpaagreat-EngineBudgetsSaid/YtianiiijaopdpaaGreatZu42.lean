/- Part 42 of 58: L18Clo L18Pay L18RefPay. -/
import Derived.Test.YtianiiijaopdpaaGreatZu00
import Derived.Test.YtianiiijaopdpaaGreatZu33
import Derived.Test.YtianiiijaopdpaaGreatZu41
import Derived.Laws.EntriesVeiled
namespace Go.Proofs.YtianiiijaopdpaaGreat
set_option linter.unusedVariables false
set_option linter.unusedSimpArgs false
set_option maxRecDepth 100000
set_option maxHeartbeats 8000000
open _root_.Go.Act renaming put → YL
open _root_.Go.RowKit renaming Below → Zt
open _root_.Go.RowKit.Below renaming refl → Zr
open _root_.Go.Proofs.YtianiiijaopdpaaGreat.Zy renaming new → Zw
open _root_.Go renaming Calls → Zi, Value → Zo, World → Zc
open _root_.Go.Instr renaming makeFunc → Jj
open _root_.Go.Lib renaming hid → Za
open _root_.Nat renaming le_refl → Zg
open _root_.Go.Proofs.Tryz renaming prog → Zb, underlying24 → ZC, underlying47 → YO
theorem Zdi {G:Prop} (h:G:=by
  show Region.seqB _ _ _ _ _=true∧_;refine ⟨by kernel_rfl,?_⟩;simp only [qA];go_wp2_with (fail);refine NoPanic.normal ?_;go_wp2;go_ret;exact HP.out) :G:=h
theorem j6 {G:Prop} (h:G:=by
  unfold KB;go_wp2_with (fail);go_ret2;exact ⟨by rw [HG.out]; rfl,B1.out⟩) :G:=h
theorem ZaD {G:Prop} (h:G:=by
  unfold KB;go_wp2_with (fail);go_ret2;exact ⟨by rw [HG.out]; rfl,B2.out⟩) :G:=h
theorem ZaE {G:Prop} (h:G:=by
  unfold KB;go_wp2_with (fail);go_ret2;exact ⟨by rw [HQ.out]; rfl,B2.out⟩) :G:=h
theorem kh {G:Prop} (h:G:=by
  rw [if_neg Zp,if_neg Zp]) :G:=h
section
open Go Go.RowKit
theorem Ap (e:Int)(a:Option Addr)(len cap:Nat)(z:List Int)(w:Zc)(hlen:len≤9223372036854775807)
  (hz: ∀i,i < len→ -9223372036854775808≤z.getD i 0∧z.getD i 0≤9223372036854775807)
  (hc:0 < len→ ∃b off,a=some ⟨b,off,none⟩∧ ∀i,i < len→w.cell? ⟨b,off+i,none⟩=some (.int .i64 (z.getD i 0))) :
  Zi Zb 247 #[.int .i64 e,.slice a len cap] w fun o w'=>o= .returned (KB (XQ e z len))∧w=w':=by
 by_cases h:0≤e∧e≤1099511627776
 ·exact OB e a len cap z w h.1 h.2 hlen hz hc
 ·have:=laterTo_none (e:=e) (z:=z) (k:=0) (if_neg h) len;rw [Nat.zero_add] at this;rw [this];exact OC e a len cap w Zp
def Ms (g:Int→Option Int)(n:Int) :Int→Option Int:=fun e=>match g e with | none=>none | some s=>XQ s [n] 1
def Pb (a x:Int)(c:Nat→Int) :Int→Option Int:=fun e=>match Bb a x c with | none=>none | some k=>XQ e [k,1] 2
def Dg (a x:Int)(c:Nat→Int) :Int→Option Int:=Ms (Pb a x c) (c 10)
def fT (a x:Int)(c:Nat→Int) :Int→Option Int:=Ms (Dg a x c) (BO c)
def GY (w:Zc)(f:Zo)(g:Int→Option Int) :Prop:=
 ∃(F:Nat) (Dn:Array Zo),f= .func (.func F) #[] Dn∧(∀args w,(callFunc F args).run Zb w= .ok (.enter F args) w)∧
  ∀w1 e,Zt w.heap.size w w1→Zi Zb F (#[.int .i64 e]++Dn) w1 fun o w2=>o= .returned (KB (g e))∧Zt w1.heap.size w1 w2
theorem GY.below {w w':Zc}{f:Zo}{g:Int→Option Int}(h:GY w f g)(hb:Zt w.heap.size w w') :GY w' f g:=by
 obtain ⟨F,Dn,h1,h2,h3⟩:=h;exact ⟨F,Dn,h1,h2,fun w1 e EO=>h3 w1 e (hb.trans (EO.mono hb.size))⟩
theorem ny (w:Zc)(m n:Int)(t:TypeId) : ∀i,i < 2→(w.alloc (.cells #[.int .i64 m,.int .i64 n] t)).cell? ⟨w.heap.size,0+i,none⟩=some (.int .i64 (([m,n] :List Int).getD i 0)):=fun i hi=>by
 rw [Nat.zero_add,(Zw w t _).cell];have:i=0∨i=1:=by omega
 rcases this with rfl | rfl <;> rfl
section
variable {a x:Int} {c:Nat→Int}
theorem lF (hg:Good c)(ha:BQ a)(hx:BQ x)(b0 b1 b2:Nat)(e:Int)(w:Zc)(h0:w.cell? ⟨b0,0,none⟩=some (.int .u64 a))(h1:w.cell? ⟨b1,0,none⟩=some (.int .u64 x))(h2:Zy w b2 24 (Zk c)) :
  Zi Zb 328 #[.int .i64 e,.pointer (some ⟨b0,0,none⟩),.pointer (some ⟨b1,0,none⟩),.pointer (some ⟨b2,0,none⟩)] w fun o w'=>o= .returned (KB (Pb a x c e))∧Zt w.heap.size w w':=by
 have HB:=Za (fun w=>Nh hg ha hx w);have H2:=Za h2;have HG:=Za (show Pb a x c e=(match Bb a x c with | none=>none | some k=>XQ e [k,1] 2) from rfl);have HK:=Za (fun k (h:Bb a x c=some k)=>Ct h);clear h2 hg ha hx;generalize hq:Bb a x c=q at*;clear hq;go_enter Tryz.func328,Tryz.ntmps328;go_wp2_with (first | (refine wpList_load_row rfl 24 _ rfl b2 rfl 24 _ (0,0) _ H2.out ZC rfl Xn ?_));refine (HB.out _).mono ?_;rintro o w1 ⟨rfl,b1⟩;have B1:=Za b1;clear b1 HB H2
 rcases q with _ | k
 ·exact j6
 ·have HL:=Za (Ap e (some ⟨w1.heap.size,0,none⟩) 2 2 [k,1] (w1.alloc (.cells #[.int .i64 k,.int .i64 1] 3)) Zp (fun i hi=>by
   have:=HK.out k rfl;have:i=0∨i=1:=by omega
   rcases this with rfl | rfl
   ·show -9223372036854775808≤k∧k≤9223372036854775807;omega
   ·show -9223372036854775808≤(1:Int)∧(1:Int)≤9223372036854775807;omega) (fun _=>⟨_,_,rfl,ny w1 k 1 3⟩))
  have B2:Hid (Zt w.heap.size w (w1.alloc (.cells #[.int .i64 k,.int .i64 1] 3))):=Za (B1.out.alloc B1.out.size _);unfold KB;go_wp2_with (fail);refine HL.out.mono ?_;rintro o w2 ⟨rfl,rfl⟩;have HG:Hid (Pb a x c e=XQ e [k,1] 2):=HG;generalize hr:XQ e [k,1] 2=r at*
  rcases r with _ | s
  ·exact ZaD
  ·exact ZaD
theorem pC (hg:Good c)(ha:BQ a)(hx:BQ x)(w:Zc) :
  Zi Zb 322 #[.int .u64 a,.int .u64 x,.agg (Zk c)] w fun o w'=> ∃f,o= .returned f∧GY w' f (Pb a x c)∧Zt w.heap.size w w':=by
 have IZ: ∀(fn:Fn) (first cap:Array Zo) (w:Zc),(Jj fn first cap).run Zb w= .ok (.func fn first cap) w:=fun _ _ _ _=>rfl
 have HB:Hid (Zt w.heap.size w (((w.alloc (.cells #[.int .u64 a] 22)).alloc (.cells #[.int .u64 x] 22)).alloc (.cells (Zk c) 24))):=Za ((((Zr _ _).alloc (Zg _) _).alloc ZO _).alloc Vq _);have HI:Hid (GY (((w.alloc (.cells #[.int .u64 a] 22)).alloc (.cells #[.int .u64 x] 22)).alloc (.cells (Zk c) 24)) (.func (.func 328) #[] #[.pointer (some ⟨w.heap.size,0,none⟩),.pointer (some ⟨w.heap.size+1,0,none⟩),.pointer (some ⟨w.heap.size+2,0,none⟩)]) (Pb a x c)):=Za (by
  have k0:Zy (((w.alloc (.cells #[.int .u64 a] 22)).alloc (.cells #[.int .u64 x] 22)).alloc (.cells (Zk c) 24)) w.heap.size 22 #[.int .u64 a]:=((Zw w _ _).alloc _).alloc _;have k1:Zy (((w.alloc (.cells #[.int .u64 a] 22)).alloc (.cells #[.int .u64 x] 22)).alloc (.cells (Zk c) 24)) (w.heap.size+1) 22 #[.int .u64 x]:=by
   have:=(Zw (w.alloc (.cells #[.int .u64 a] 22)) 22 #[.int .u64 x]).alloc (.cells (Zk c) 24);rwa [show (w.alloc (.cells #[.int .u64 a] 22)).heap.size=w.heap.size+1 by simp] at this
  have k2:Zy (((w.alloc (.cells #[.int .u64 a] 22)).alloc (.cells #[.int .u64 x] 22)).alloc (.cells (Zk c) 24)) (w.heap.size+2) 24 (Zk c):=by
   have:=Zw ((w.alloc (.cells #[.int .u64 a] 22)).alloc (.cells #[.int .u64 x] 22)) 24 (Zk c);rwa [show ((w.alloc (.cells #[.int .u64 a] 22)).alloc (.cells #[.int .u64 x] 22)).heap.size=w.heap.size+2 by simp] at this
  exact ⟨_,_,rfl,Tryz.call328,fun w1 e hb=>lF hg ha hx _ _ _ e w1 ((k0.below hb k0.lt).cell 0) ((k1.below hb k1.lt).cell 0) (k2.below hb k2.lt)⟩)
 clear hg ha hx;go_enter Tryz.func322,Tryz.ntmps322;go_wp2;go_ret;exact ⟨_,rfl,HI.out,HB.out⟩
end
section
variable {g:Int→Option Int} {n:Int}
theorem mC (bf bs g0:Nat)(f:Zo)(e:Int)(w0 w:Zc)(hf:GY w0 f g)(hb:Zt w0.heap.size w0 w)(h0:w.cell? ⟨bf,0,none⟩=some f)(h1:w.cell? ⟨bs,0,none⟩=some (.slice (some ⟨g0,0,none⟩) 1 1))(h2:w.cell? ⟨g0,0,none⟩=some (.int .i64 n))(hn:0≤n∧n≤9223372036854775807) :
  Zi Zb 323 #[.int .i64 e,.pointer (some ⟨bf,0,none⟩),.pointer (some ⟨bs,0,none⟩)] w fun o w'=>o= .returned (KB (Ms g n e))∧Zt w.heap.size w w':=by
 obtain ⟨F,Dn,rfl,BT,Bd⟩:=hf;have HR:=Za (Bd w e hb);have HG:=Za (show Ms g n e=(match g e with | none=>none | some s=>XQ s [n] 1) from rfl);have H1:=Za (And.intro h1 h2);clear Bd hb h2;generalize hq:g e=q at*;clear hq;go_enter Tryz.func323,Tryz.ntmps323;go_wp2_with (fail);refine HR.out.mono ?_;rintro o w1 ⟨rfl,b1⟩;have B1:=Za b1;have c1:w1.cell? ⟨bs,0,none⟩=some (.slice (some ⟨g0,0,none⟩) 1 1):=Us H1.out.1 b1;have C2:Hid (w1.cell? ⟨g0,0,none⟩=some (.int .i64 n)):=Za (Us H1.out.2 b1);clear b1 HR h0 h1 BT H1
 rcases q with _ | s
 ·exact j6
 ·have HL:=Za (Ap s (some ⟨g0,0,none⟩) 1 1 [n] w1 Zp (fun i hi=>by
   obtain rfl:i=0:=by omega
   show -9223372036854775808≤n∧n≤9223372036854775807;omega) (fun _=>⟨_,_,rfl,fun i hi=>by
    obtain rfl:i=0:=by omega
    exact C2.out⟩))
  unfold KB;go_wp2_with (fail);refine HL.out.mono ?_;rintro o w2 ⟨rfl,rfl⟩;have HG:Hid (Ms g n e=XQ s [n] 1):=HG;generalize hr:XQ s [n] 1=r at*
  rcases r with _ | s2
  ·exact j6
  ·exact j6
theorem SZ (f:Zo)(g0:Nat)(w:Zc)(hf:GY w f g)(h2:w.cell? ⟨g0,0,none⟩=some (.int .i64 n))(hn:0≤n∧n≤9223372036854775807) :
  Zi Zb 307 #[f,.slice (some ⟨g0,0,none⟩) 1 1] w fun o w'=> ∃f',o= .returned f'∧GY w' f' (Ms g n)∧Zt w.heap.size w w':=by
 have IZ: ∀(fn:Fn) (first cap:Array Zo) (w:Zc),(Jj fn first cap).run Zb w= .ok (.func fn first cap) w:=fun _ _ _ _=>rfl
 obtain ⟨F,Dn,rfl,BT,Bd⟩:=hf;have hf:GY w (.func (.func F) #[] Dn) g:=⟨F,Dn,rfl,BT,Bd⟩;have PO:Zt w.heap.size w ((w.alloc (.cells #[.func (.func F) #[] Dn] 343)).alloc (.cells #[.slice (some ⟨g0,0,none⟩) 1 1] 47)):=((Zr _ _).alloc (Zg _) _).alloc ZO _;have HB:=Za PO;have HI:Hid (GY ((w.alloc (.cells #[.func (.func F) #[] Dn] 343)).alloc (.cells #[.slice (some ⟨g0,0,none⟩) 1 1] 47)) (.func (.func 323) #[] #[.pointer (some ⟨w.heap.size,0,none⟩),.pointer (some ⟨w.heap.size+1,0,none⟩)]) (Ms g n)):=Za (by
  have k0:Zy ((w.alloc (.cells #[.func (.func F) #[] Dn] 343)).alloc (.cells #[.slice (some ⟨g0,0,none⟩) 1 1] 47)) w.heap.size 343 #[.func (.func F) #[] Dn]:=(Zw w _ _).alloc _;have k1:Zy ((w.alloc (.cells #[.func (.func F) #[] Dn] 343)).alloc (.cells #[.slice (some ⟨g0,0,none⟩) 1 1] 47)) (w.heap.size+1) 47 #[.slice (some ⟨g0,0,none⟩) 1 1]:=by
   have:=Zw (w.alloc (.cells #[.func (.func F) #[] Dn] 343)) 47 #[.slice (some ⟨g0,0,none⟩) 1 1];rwa [show (w.alloc (.cells #[.func (.func F) #[] Dn] 343)).heap.size=w.heap.size+1 by simp] at this
  exact ⟨_,_,rfl,Tryz.call323,fun w1 e hb=>mC _ _ g0 _ e w w1 hf (PO.trans (hb.mono PO.size)) ((k0.below hb k0.lt).cell 0) ((k1.below hb k1.lt).cell 0) (Us (Us h2 PO) hb) hn⟩)
 clear hf BT Bd PO h2 hn;go_enter Tryz.func307,Tryz.ntmps307;go_wp2;go_ret;exact ⟨_,rfl,HI.out,HB.out⟩
end
end
section
open Go Go.RowKit
theorem Pk: ∃i,Tryz.prog.info? 3=some i∧i.zero=some (.int .i64 0)∧i.size=1:=by
 have h:(Tryz.prog.info? 3).map (fun i=>(i.zero,i.size))=some (some (.int .i64 0),1):=by kernel_rfl
 cases hi:Tryz.prog.info? 3 with
 | none=>rw [hi] at h; cases h
 | some i=>
  rw [hi] at h;simp at h;exact ⟨i,rfl,h.1,h.2⟩
section
variable {a x:Int} {c:Nat→Int}
def EE (w:Zc)(g:Int→Option Int)(o:Ending)(w':Zc) :Prop:= ∃f,o= .returned f∧GY w' f g∧Zt w.heap.size w w'
theorem IF (hg:Good c)(ha:BQ a)(hx:BQ x)(w:Zc) :
  Zi Zb 306 #[.int .u64 a,.int .u64 x,.agg (Zk c)] w (EE w (Dg a x c)):=by
 obtain ⟨i0,Oe,BM,Pg⟩:=Pk;have HX:=Za (fun w=>pC hg ha hx w);have hn:0≤c 10∧c 10≤9223372036854775807:=by have:=hg.unb0; have:=hg.unb1; omega
 have HN:=Za hn;clear hg ha hx hn;go_enter Tryz.func306,Tryz.ntmps306;go_wp2_with (fail);have K0:Hid (Zy (w.alloc (.cells (Zk c) 24)) w.heap.size 24 (Zk c)):=Za (Zw w _ _);have B0:Hid (Zt w.heap.size w (w.alloc (.cells (Zk c) 24))):=Za ((Zr _ _).alloc (Zg _) _);generalize w.alloc (.cells (Zk c) 24)=W at*;refine MZ (fun w'=>Zy w' w.heap.size 24 (Zk c)) 8 3 [0,1,2,4,5] K0.out ?_;simp only [qF,qH];show wpQuiet _ _ _ _ [_,_,_,_,_] _;iterate 2 (go_big_quiet_step ((intros; rfl)))
 refine Qg 24 _ w.heap.size 24 (Zk c) _ Yi rfl rfl (fun w h=>h) ZC rfl Xn ?_;simp only [qB];iterate 1 (go_big_quiet_step ((intros; rfl)))
 refine Yw 3 _ ⟨w.heap.size,10,none⟩ (.int .i64 (c 10)) rfl rfl rfl (fun w h=>by simp [go_sem,h]) (fun w h=>h.cell 10) ?_;simp only [qB];refine wpQuiet_nil ?_;have D0:Hid (Zt W.heap.size W W.drew):=Za (Below.drew (Zr _ _));have HW:Hid (w.heap.size≤W.heap.size):=Za B0.out.size;refine UI (i:=3) (k:=6) Yi Zp Zp ?_ ?_
 ·refine JM #[.int .u64 a,.int .u64 x,.agg (Zk c)] Tryz.call322 ((HX.out W.drew).mono ?_);rintro o w1 ⟨f,rfl,hf,b1⟩;have D1:Hid (Zt W.heap.size W w1):=Za (D0.out.trans (b1.mono D0.out.size));have HF:=Za hf;clear b1 hf;refine ⟨_,rfl,K0.out.below D1.out K0.out.lt,?_⟩;refine Qt (i:=6) ?_;simp only [YL,qG,qS];refine YE rfl rfl (Bi 47 3 i0 _ (.int .i64 0) (.int .i64 (c 10)) rfl rfl YO Oe BM Pg rfl rfl ?_);have b2:Zt w1.heap.size w1 (w1.alloc (.cells #[.int .i64 (c 10)] 3)):=(Zr _ _).alloc (Zg _) _;have D2:Hid (Zt W.heap.size W (w1.alloc (.cells #[.int .i64 (c 10)] 3))):=Za (D1.out.trans (b2.mono D1.out.size));have yW:=Za (HF.out.below b2);have HC:Hid ((w1.alloc (.cells #[.int .i64 (c 10)] 3)).cell? ⟨w1.heap.size,0,none⟩=some (.int .i64 (c 10))):=Za ((Zw w1 _ _).cell 0);clear b2;refine ⟨K0.out.below D2.out K0.out.lt,?_⟩;refine Qt (i:=7) ?_;simp only [YL,qG,qS];generalize w1.alloc (.cells #[.int .i64 (c 10)] 3)=w2 at*;generalize w1.heap.size=g0 at*;refine JM #[f,.slice (some ⟨g0,0,none⟩) 1 1] Tryz.call307 ((SZ f g0 w2 yW.out HC.out HN.out).mono ?_);rintro o w3 ⟨f',rfl,hf,b3⟩;have D3:Hid (Zt W.heap.size W w3):=Za (D2.out.trans (b3.mono D2.out.size));have HP:Hid (EE w (Dg a x c) (.returned f') w3):=Za ⟨f',rfl,hf,B0.out.trans (D3.out.mono HW.out)⟩;refine ⟨_,rfl,K0.out.below D3.out K0.out.lt,?_⟩;clear b3 hf HF yW HC D0 D1 D2;exact Zdi
 ·refine YE rfl rfl (Bi 47 3 i0 _ (.int .i64 0) (.int .i64 (c 10)) rfl rfl YO Oe BM Pg rfl rfl ?_);have D1:Hid (Zt W.heap.size W (W.drew.alloc (.cells #[.int .i64 (c 10)] 3))):=Za (D0.out.alloc (Zg _) _);have HC:Hid ((W.drew.alloc (.cells #[.int .i64 (c 10)] 3)).cell? ⟨W.heap.size,0,none⟩=some (.int .i64 (c 10))):=Za ((Zw W.drew _ _).cell 0);refine ⟨K0.out.below D1.out K0.out.lt,?_⟩;refine Qt (i:=3) ?_;simp only [YL,qG,qS];have HE:W.drew.heap.size=W.heap.size:=rfl;rw [HE];generalize W.drew.alloc (.cells #[.int .i64 (c 10)] 3)=w1 at*;refine JM #[.int .u64 a,.int .u64 x,.agg (Zk c)] Tryz.call322 ((HX.out w1).mono ?_);rintro o w2 ⟨f,rfl,hf,b2⟩;have D2:Hid (Zt W.heap.size W w2):=Za (D1.out.trans (b2.mono D1.out.size));have HF:=Za hf;have tB:=Za (Us HC.out b2);clear b2 hf;refine ⟨_,rfl,K0.out.below D2.out K0.out.lt,?_⟩;refine Qt (i:=7) ?_;simp only [YL,qG,qS];refine JM #[f,.slice (some ⟨W.heap.size,0,none⟩) 1 1] Tryz.call307 ((SZ f W.heap.size w2 HF.out tB.out HN.out).mono ?_);rintro o w3 ⟨f',rfl,hf,b3⟩;have D3:Hid (Zt W.heap.size W w3):=Za (D2.out.trans (b3.mono D2.out.size));have HP:Hid (EE w (Dg a x c) (.returned f') w3):=Za ⟨f',rfl,hf,B0.out.trans (D3.out.mono HW.out)⟩;refine ⟨_,rfl,K0.out.below D3.out K0.out.lt,?_⟩;clear b3 hf HF HC tB D0 D1 D2;exact Zdi
theorem fV (hg:Good c)(ha:BQ a)(hx:BQ x)(w:Zc) :
  Zi Zb 278 #[.int .u64 a,.int .u64 x,.agg (Zk c)] w (EE w (fT a x c)):=by
 obtain ⟨i0,Oe,BM,Pg⟩:=Pk;have HX:=Za (fun w=>IF hg ha hx w);have HS:=Za (fun w=>Iz c hg w);have HN:Hid (0≤BO c∧BO c≤9223372036854775807):=Za (by have:=OR hg; omega);have HG:=Za (show fT a x c=Ms (Dg a x c) (BO c) from rfl);clear hg ha hx;generalize BO c=n at*;go_enter Tryz.func278,Tryz.ntmps278;go_wp2_with (fail);have K0:Hid (Zy (w.alloc (.cells (Zk c) 24)) w.heap.size 24 (Zk c)):=Za (Zw w _ _);have B0:Hid (Zt w.heap.size w (w.alloc (.cells (Zk c) 24))):=Za ((Zr _ _).alloc (Zg _) _);generalize w.alloc (.cells (Zk c) 24)=W at*;refine MZ (fun w'=>Zy w' w.heap.size 24 (Zk c)) 8 4 [0,1,2,4] K0.out ?_;simp only [qF,qH];show wpQuiet _ _ _ _ [_,_,_,_] _;iterate 2 (go_big_quiet_step ((intros; rfl)))
 refine Qg 24 _ w.heap.size 24 (Zk c) _ Yi rfl rfl (fun w h=>h) ZC rfl Xn ?_;simp only [qB];refine Qg 24 _ w.heap.size 24 (Zk c) _ Yi rfl rfl (fun w h=>h) ZC rfl Xn ?_;simp only [qB];refine wpQuiet_nil ?_;have D0:Hid (Zt W.heap.size W W.drew):=Za (Below.drew (Zr _ _));have HW:Hid (w.heap.size≤W.heap.size):=Za B0.out.size;refine Qt (i:=3) ?_;refine JM #[.int .u64 a,.int .u64 x,.agg (Zk c)] Tryz.call306 ((HX.out W.drew).mono ?_);rintro o w1 ⟨f,rfl,hf,b1⟩;have D1:Hid (Zt W.heap.size W w1):=Za (D0.out.trans (b1.mono D0.out.size));have HF:=Za hf;clear b1 hf;refine ⟨_,rfl,K0.out.below D1.out K0.out.lt,?_⟩;refine Qt (i:=5) ?_;simp only [YL,qG,qS];refine JM #[.agg (Zk c)] Tryz.call308 ((HS.out w1).mono ?_);rintro o w2 ⟨rfl,b2⟩;have D2:Hid (Zt W.heap.size W w2):=Za (D1.out.trans (b2.mono D1.out.size));have HF1:=Za (HF.out.below b2);clear b2 HF;refine ⟨_,rfl,K0.out.below D2.out K0.out.lt,?_⟩;refine Qt (i:=6) ?_;simp only [YL,qG,qS];refine YE rfl rfl (Bi 47 3 i0 _ (.int .i64 0) (.int .i64 n) rfl rfl YO Oe BM Pg rfl rfl ?_);have b3:Zt w2.heap.size w2 (w2.alloc (.cells #[.int .i64 n] 3)):=(Zr _ _).alloc (Zg _) _;have D3:Hid (Zt W.heap.size W (w2.alloc (.cells #[.int .i64 n] 3))):=Za (D2.out.trans (b3.mono D2.out.size));have yW:=Za (HF1.out.below b3);have HC:Hid ((w2.alloc (.cells #[.int .i64 n] 3)).cell? ⟨w2.heap.size,0,none⟩=some (.int .i64 n)):=Za ((Zw w2 _ _).cell 0);clear b3;refine ⟨K0.out.below D3.out K0.out.lt,?_⟩;refine Qt (i:=7) ?_;simp only [YL,qG,qS];generalize w2.alloc (.cells #[.int .i64 n] 3)=w3 at*;generalize w2.heap.size=g0 at*;refine JM #[f,.slice (some ⟨g0,0,none⟩) 1 1] Tryz.call307 ((SZ f g0 w3 yW.out HC.out HN.out).mono ?_);rintro o w4 ⟨f',rfl,hf,b4⟩;have D4:Hid (Zt W.heap.size W w4):=Za (D3.out.trans (b4.mono D3.out.size));have HP:Hid (EE w (fT a x c) (.returned f') w4):=Za ⟨f',rfl,by rw [HG.out]; exact hf,B0.out.trans (D4.out.mono HW.out)⟩;refine ⟨_,rfl,K0.out.below D4.out K0.out.lt,?_⟩;clear b4 hf HF1 yW HC D0 D1 D2 D3;exact Zdi
end
section
variable {a x:Int} {c:Nat→Int}
theorem mz (hg:Good c)(ha:BQ a)(hx:BQ x)(e:Int)(w:Zc) :
  Zi Zb 239 #[.int .i64 e,.int .u64 a,.int .u64 x,.agg (Zk c)] w fun o w'=>o= .returned (KB (fT a x c e))∧Zt w.heap.size w w':=by
 have HX:=Za (fun w=>fV hg ha hx w);have K0:Hid (Zy (w.alloc (.cells (Zk c) 24)) w.heap.size 24 (Zk c)):=Za (Zw w _ _);have B0:Hid (Zt w.heap.size w (w.alloc (.cells (Zk c) 24))):=Za ((Zr _ _).alloc (Zg _) _);clear hg ha hx;go_enter Tryz.func239,Tryz.ntmps239;go_wp2_with (first | (refine wpList_load_row rfl 24 _ rfl w.heap.size rfl 24 _ (0,0) _ K0.out ZC rfl Xn ?_));refine (HX.out _).mono ?_;rintro o w1 ⟨f,rfl,hf,b1⟩;obtain ⟨F,Dn,rfl,BT,Bd⟩:=hf;have B1:Hid (Zt w.heap.size w w1):=Za (B0.out.trans (b1.mono B0.out.size));have HR:=Za (Bd w1 e (Zr _ _));clear Bd b1 B0 K0 HX;generalize hr:fT a x c e=r at*;have HQ:=Za hr;go_wp2_with (fail);refine HR.out.mono ?_;rintro o w2 ⟨rfl,b2⟩;have B2:Hid (Zt w.heap.size w w2):=Za (B1.out.trans (b2.mono B1.out.size));clear b2 B1 HR hr
 rcases r with _ | s
 ·exact ZaE
 ·exact ZaE
end
end
section
open Go Go.RowKit
def Mp (a x:Int)(c:Nat→Int)(more e:Int) :Option Int:=match Bb a x c with | none=>none | some k=>if 0≤e∧e+k+1+more≤1099511627776 then some (e+k+1+more) else none
theorem CQ (e:Int)(z:List Int)(k:Nat) :XQ e z (k+1)=(match XQ e z k with | none=>none | some s=>if 0≤z.getD k 0∧z.getD k 0≤1099511627776 - s then some (s+z.getD k 0) else none):=rfl
theorem Po {s n:Int}(hn:0≤n) :XQ s [n] 1=if 0≤s∧s+n≤1099511627776 then some (s+n) else none:=by
 show (match XQ s [n] 0 with | none=>none | some s'=>if 0≤([n] :List Int).getD 0 0∧([n] :List Int).getD 0 0≤1099511627776 - s' then some (s'+([n] :List Int).getD 0 0) else none)=_;simp only [List.getD_cons_zero]
 by_cases h:0≤s∧s≤1099511627776
 ·rw [show XQ s [n] 0=some s from if_pos h]
  dsimp only
  by_cases h2:s+n≤1099511627776
  ·rw [if_pos Zp,if_pos Zp]
  ·exact kh
 ·rw [show XQ s [n] 0=none from if_neg h]
  dsimp only
  rw [if_neg Zp]
theorem bW {e k:Int}(hk:0≤k) :XQ e [k,1] 2=if 0≤e∧e+k+1≤1099511627776 then some (e+k+1) else none:=by
 rw [CQ,show XQ e [k,1] 1=XQ e [k] 1 from rfl,Po hk];have e1:([k,1] :List Int).getD 1 0=1:=rfl;rw [e1]
 by_cases h:0≤e∧e+k≤1099511627776
 ·rw [if_pos h]
  dsimp only
  by_cases h2:e+k+1≤1099511627776
  ·rw [if_pos Zp,if_pos Zp]
  ·exact kh
 ·rw [if_neg h]
  dsimp only
  rw [if_neg Zp]
section
variable {a x:Int} {c:Nat→Int}
theorem pB (a x:Int)(c:Nat→Int)(e:Int) :Pb a x c e=Mp a x c 0 e:=by
 unfold Pb Mp
 cases h:Bb a x c with
 | none=>rfl
 | some k=>
  have:=Ct h
  dsimp only
  rw [bW Zp,Int.add_zero]
theorem AB {m n:Int}(hm:0≤m)(hn:0≤n)(g:Int→Option Int)(hg: ∀e,g e=Mp a x c m e)(e:Int) :Ms g n e=Mp a x c (m+n) e:=by
 unfold Ms;rw [hg e];unfold Mp
 cases h:Bb a x c with
 | none=>rfl
 | some k=>
  have:=Ct h
  dsimp only
  by_cases h1:0≤e∧e+k+1+m≤1099511627776
  ·rw [if_pos h1]
   dsimp only
   rw [Po hn]
   by_cases h2:e+k+1+(m+n)≤1099511627776
   ·rw [if_pos Zp,if_pos Zp,show e+k+1+m+n=e+k+1+(m+n) by omega]
   ·rw [if_neg Zp,if_neg Zp]
  ·rw [if_neg h1,if_neg Zp]
theorem IE (hg:Good c)(a x e:Int) :Dg a x c e=Mp a x c (c 10) e:=by
 have:=AB (a:=a) (x:=x) (c:=c) (m:=0) (n:=c 10) (Int.le_refl _) (by have:=hg.unb0; omega) _ (pB a x c) e;rwa [Int.zero_add] at this
theorem xi (hg:Good c)(a x e:Int) :fT a x c e=Mp a x c (c 10+BO c) e:=
 AB (by have:=hg.unb0; omega) (OR hg).1 _ (IE hg a x) e
theorem qW {a x m e s:Int}{c:Nat→Int}(hm:0≤m)(h:Mp a x c m e=some s) :0≤s∧s≤1099511627776:=by
 unfold Mp at h
 cases hk:Bb a x c with
 | none=>rw [hk] at h; cases h
 | some k=>
  have:=Ct hk;rw [hk] at h
  dsimp only at h
  split at h
  ·injection h with h; omega
  ·cases h
end
end
end Go.Proofs.YtianiiijaopdpaaGreat
