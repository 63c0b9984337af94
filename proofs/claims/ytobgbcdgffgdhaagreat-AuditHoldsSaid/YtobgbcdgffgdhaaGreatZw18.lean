/- Part 18 of 31: L15Eff L15Eff2 L15Does. -/
import Derived.Test.YtobgbcdgffgdhaaGreatZw00
import Derived.Test.YtobgbcdgffgdhaaGreatZw06
import Derived.Test.YtobgbcdgffgdhaaGreatZw15
namespace Go.Proofs.YtobgbcdgffgdhaaGreat
set_option linter.unusedVariables false
set_option linter.unusedSimpArgs false
set_option maxRecDepth 100000
set_option maxHeartbeats 8000000
open _root_.Go.RowKit renaming Below -> Zp
open _root_.Go.Proofs.YtobgbcdgffgdhaaGreat.Zu renaming alloc -> Yw, cell -> XP, new -> Zt
open _root_.Go renaming Calls -> Zv, World -> Zc
open _root_.Go.Lit renaming int -> YJ
open _root_.Nat renaming le_refl -> Zh
open _root_.Go.Proofs.Tryz renaming prog -> Zb
open Go.Proofs.Tryz
theorem kL {G:Prop}(h:G:=by rw [<-NI]; exact Dt (Kl _ _) _) :G:=h
theorem ZbY {G:Prop} (h:G:=by
  go_wp2;go_ret;rw [HE.o];exact ⟨rfl,HB.o,Kl _ _⟩) :G:=h
theorem Zib {G:Prop} (h:G:=by
  go_enter func278,ntmps278;go_wp2;go_quiet (fail);go_wp2;go_ret;rw [HE.o];exact ⟨rfl,Zu.drewN HB.o _,Vz (Kl _ _) _⟩) :G:=h
theorem ZaQ {G:Prop} (h:G:=by
  go_enter func286,ntmps286;exact ZbY) :G:=h
theorem ZaR {G:Prop} (h:G:=by
  go_wp2;go_ret;rw [HE.o];exact ⟨rfl,HB.o.set rfl,QD (Kl _ _) (.inl rfl) _⟩) :G:=h
theorem Zbw {G:Prop} (h:G:=by
  exact ZbY) :G:=h
section
open Go Go.RowKit
abbrev Ng:=ZN->Int × ZN
def RO (e:Int) :Prop:=0<=e/\e<=1099511627776
instance (e:Int) :Decidable (RO e):=by unfold RO; infer_instance
def Qj (ev:Int) :Ng:=fun x=>if Jk x.st ev=0 then(8,x) else(0,{ x with st:=Jk x.st ev})
def Xo (e:Int) :Ng:=fun x=>if RO e then(0,{ x with rq:=e}) else(10,x)
def XA (e:Int) :Ng:=fun x=>if x.st=3/\x.ex= -1 then(0,{ x with ex:=e}) else(8,x)
def QO (e n:Int) :Ng:=fun x=>if RO e/\n<=1099511627776 - e then(0,{ x with wd:=max x.wd (e+n)}) else(10,x)
def Dy (e:Int) :Ng:=fun x=>if e < x.wd then(8,x) else(0,x)
def VI:Ng:=fun x=>if x.sl=true then(9,x) else(0,{ x with sl:=true,dl:= -1})
def VB (w:Zc)(b:Nat)(x:ZN) :Prop:=Zu w b 68 (Zd x)
section
variable {w w':Zc} {b g:Nat} {x y:ZN}
theorem VB.set (h:VB w b x){i:Nat}{u:Value}(e:(Zd x).setIfInBounds i u=Zd y) :VB (w.setCell ⟨b,i,none⟩ u) b y:=by
 have:=Zu.set_ h i u;rw [e] at this;exact this
theorem VB.lt (h:VB w b x) :b < w.heap.size:=Zu.lt h
theorem VB.fz (h:VB w b x)(i:Nat) :w.frozen? ⟨b,i,none⟩=false:=Zu.frozen h i
theorem Iq (s e:Int) :(YJ .i64 (Jk s e)).wf=true:=by
 have:Jk s e=0\/Jk s e=2\/Jk s e=3\/Jk s e=4\/Jk s e=5\/Jk s e=6\/Jk s e=7:=by
  unfold Jk
  repeat' split
  all_goals omega
 rcases this with h | h | h | h | h | h | h <;> rw [h]<;> decide
theorem rJ (e:Int)(w:Zc) :YV 225 #[.int .i64 e,.slice none 0 0] w (.tuple #[.int .i64 (if RO e then e else 0),.bool (decide (RO e))]):=by
 by_cases h:RO e
 ·refine (OZ e none 0 0 [] w h.1 h.2 Zf (fun i hi=>absurd hi Zf) (fun h=>absurd h Zf)).mono ?_;rintro o w' ⟨rfl,rfl⟩;rw [if_pos h,decide_eq_true h];refine ⟨?_,rfl⟩;unfold RO at h;simp [XH,Kv,h]
 ·refine (O0 e none 0 0 w (by unfold RO at h; omega)).mono ?_;rintro o w' ⟨rfl,rfl⟩;rw [if_neg h,decide_eq_false h];exact DF
def Nc (e n:Int) :Prop:=RO e/\n<=1099511627776 - e
instance (e n:Int) :Decidable (Nc e n):=by unfold Nc; infer_instance
theorem rK (e n:Int)(g:Nat)(w:Zc)(hn:0<=n)(fJ:n<=9223372036854775807)(hg:w.cell? ⟨g,0,none⟩=some (.int .i64 n)) :
  YV 225 #[.int .i64 e,.slice (some ⟨g,0,none⟩) 1 1] w (.tuple #[.int .i64 (if Nc e n then e+n else 0),.bool (decide (Nc e n))]):=by
 by_cases h:RO e
 ·refine (OZ e (some ⟨g,0,none⟩) 1 1 [n] w h.1 h.2 Zf (fun i hi=>?_) (fun _=>⟨g,0,rfl,fun i hi=>?_⟩)).mono ?_
  ·obtain rfl:i=0:=Zf;exact ⟨by simp; omega,by simpa using fJ⟩
  ·obtain rfl:i=0:=Zf;exact hg
  ·rintro o w' ⟨rfl,rfl⟩;refine ⟨?_,rfl⟩;have h':=h;unfold RO at h'
   by_cases hs:n<=1099511627776 - e
   ·rw [if_pos ⟨h,hs⟩,decide_eq_true (show Nc e n from ⟨h,hs⟩)];simp [XH,Kv,h',hn,hs]
   ·rw [if_neg (fun x=>hs x.2),decide_eq_false (fun x:Nc e n=>hs x.2)];simp [XH,Kv,h',hn,hs]
 ·refine (O0 e (some ⟨g,0,none⟩) 1 1 w (by unfold RO at h; omega)).mono ?_;rintro o w' ⟨rfl,rfl⟩;rw [if_neg (fun x=>h x.1),decide_eq_false (fun x:Nc e n=>h x.1)];exact DF
theorem Zdq (a c:Int)(g:Nat)(w:Zc)(h:Zu w g 3 #[.int .i64 a,.int .i64 c]) :
  YV 226 #[.slice (some ⟨g,0,none⟩) 2 2] w (.int .i64 (max a c)):=by
 refine (xK g 0 2 2 [a,c] w Zf Zf (fun i hi=>?_)).mono ?_
 ·rw [Nat.zero_add,XP h i];obtain rfl | rfl:i=0\/i=1:=Zf
  all_goals rfl
 ·rintro o w' ⟨rfl,rfl⟩;exact DF
theorem Ir (e:Int)(x:ZN)(w:Zc)(hb:VB w b x)(hg:w.cell? ⟨g,0,none⟩=some (.int .i64 e)) :
  Zv Zb 227 #[.pointer (some ⟨b,0,none⟩),.pointer (some ⟨g,0,none⟩)] w fun o w'=>o= .returned (.int .i64 (Xo e x).1)/\VB w' b (Xo e x).2/\w.grownBy w' (some b):=by
 have HL:=Za (rJ e w);have HB:=Za hb;have hf:=hb.fz 3;have hc:=QS hb 3;clear hb
 by_cases h:RO e
 ·have HE:=Za (show Xo e x=(0,{ x with rq:=e}) from if_pos h);rw [if_pos h,decide_eq_true h] at HL;go_enter func227,ntmps227;go_wp2_with fail;refine HL.o.mono ?_;rintro o w' ⟨rfl,rfl⟩;exact ZaR
 ·have HE:=Za (show Xo e x=(10,x) from if_neg h);rw [if_neg h,decide_eq_false h] at HL;go_enter func227,ntmps227;go_wp2_with fail;refine HL.o.mono ?_;rintro o w' ⟨rfl,rfl⟩;exact Zbw
theorem WR (e:Int)(x:ZN)(w:Zc)(hb:VB w b x)(hg:w.cell? ⟨g,0,none⟩=some (.int .i64 e)) :
  Zv Zb 286 #[.pointer (some ⟨b,0,none⟩),.pointer (some ⟨g,0,none⟩)] w fun o w'=>o= .returned (.int .i64 (XA e x).1)/\VB w' b (XA e x).2/\w.grownBy w' (some b):=by
 have HB:=Za hb;have hf:=hb.fz 4;have M9:=QS hb 1;have xh:=QS hb 4;clear hb
 by_cases h:x.st=3
 ·have h3:(x.st != 3)=false:=KB
  by_cases h':x.ex= -1
  ·have h4:(x.ex != -1)=false:=by simpa using h'
   have HE:=Za (show XA e x=(0,{ x with ex:=e}) from if_pos ⟨h,h'⟩);clear h h';go_enter func286,ntmps286;exact ZaR
  ·have h4:(x.ex != -1)=true:=by simpa using h'
   have HE:=Za (show XA e x=(8,x) from if_neg (fun hh=>h' hh.2));clear h h';exact ZaQ
 ·have h3:(x.st != 3)=true:=KB;have HE:=Za (show XA e x=(8,x) from if_neg (fun hh=>h hh.1));clear h;exact ZaQ
theorem rQ (x:ZN)(w:Zc)(hb:VB w b x) :
  Zv Zb 179 #[.pointer (some ⟨b,0,none⟩)] w fun o w'=>o= .returned (.int .i64 (VI x).1)/\VB w' b (VI x).2/\w.grownBy w' (some b):=by
 have HB:=Za hb;have hf2:=hb.fz 2;have hf6:=hb.fz 6;have hc2:w.cell? ⟨b,2,none⟩=some (.bool x.sl):=XP hb 2;have hc6:=QS hb 6;clear hb
 cases h:x.sl with
 | true=>
  have HE:=Za (show VI x=(9,x) from if_pos h);rw [h] at hc2;go_enter func179,ntmps179;exact Zbw
 | false=>
  have HE:=Za (show VI x=(0,{ x with sl:=true,dl:= -1}) from if_neg (by rw [h]; simp));rw [h] at hc2;go_enter func179,ntmps179;go_wp2;go_ret;rw [HE.o];have k1:=VB.set (y:= { x with sl:=true}) HB.o (i:=2) (u:= .bool true) rfl;have k2:=VB.set (y:= { x with sl:=true,dl:= -1}) k1 (i:=6) (u:= .int .i64 (-1)) rfl;have g1:w.grownBy (w.setCell ⟨b,2,none⟩ (.bool true)) (some b):=QD (Kl _ _) (.inl rfl) _;have g2:=QD g1 (p:=⟨b,6,none⟩) (.inl rfl) (.int .i64 (-1));exact ⟨rfl,k2,g2⟩
end
end
section
open Go Go.RowKit
section
variable {w w':Zc} {b g g2:Nat} {x y:ZN}
theorem nC (e:Int)(x:ZN)(w:Zc)(hb:VB w b x)(hg:w.cell? ⟨g,0,none⟩=some (.int .i64 e)) :
  Zv Zb 278 #[.pointer (some ⟨b,0,none⟩),.pointer (some ⟨g,0,none⟩)] w fun o w'=>o= .returned (.int .i64 (Dy e x).1)/\VB w' b (Dy e x).2/\w.grownBy w' (some b):=by
 have HB:=Za hb;have hc5:=QS hb 5;clear hb
 by_cases h:e < x.wd
 ·have HE:=Za (show Dy e x=(8,x) from if_pos h);exact Zib
 ·have HE:=Za (show Dy e x=(0,x) from if_neg h);exact Zib
theorem mE (e n:Int)(x:ZN)(w:Zc)(h0:0<=n)(h1:n<=9223372036854775807)(hb:VB w b x)(hg:w.cell? ⟨g,0,none⟩=some (.int .i64 e))(Wv:w.cell? ⟨g2,0,none⟩=some (.int .i64 n)) :
  Zv Zb 224 #[.pointer (some ⟨b,0,none⟩),.pointer (some ⟨g,0,none⟩),.pointer (some ⟨g2,0,none⟩)] w fun o w'=>o= .returned (.int .i64 (QO e n x).1)/\VB w' b (QO e n x).2/\w.grownBy w' (some b):=by
 have HL:=Za (rK e n w.heap.size (w.alloc (.cells #[.int .i64 n] 3)) h0 h1 ((Zt w 3 #[.int .i64 n]).cell 0));have HB:=Za hb;have HM:=Za (fun c (w:Zc)=>Zdq x.wd c w.heap.size (w.alloc (.cells #[.int .i64 x.wd,.int .i64 c] 3)) (Zt w _ _));have hf:=hb.fz 5;have hc5:=QS hb 5;clear hb h0 h1
 by_cases h:Nc e n
 ·have HE:=Za (show QO e n x=(0,{ x with wd:=max x.wd (e+n)}) from if_pos h);rw [if_pos h,decide_eq_true h] at HL;generalize e+n=c at*;clear h;go_enter func224,ntmps224;go_wp2_with fail;refine HL.o.mono ?_;rintro o w1 ⟨rfl,NI⟩;have B1:Zl (w.grownBy w1 (some b)):=Za kL;have K1:Zl (VB w1 b x):=Za (by rw [<-NI]; exact Yw HB.o _);have hc5:=QS K1.o 5;have F1:=K1.o.fz 5;clear NI HL hg Wv hf HB;go_wp2_with fail;refine (HM.o _ _).mono ?_;rintro o w2 ⟨rfl,Na⟩;have B2:Zl (w.grownBy w2 (some b)):=Za (by rw [<-Na]; exact Dt B1.o _);have K2:Zl (VB w2 b x):=Za (by rw [<-Na]; exact Yw K1.o _);have F2:=K2.o.fz 5;have c2:=QS K2.o 5;clear Na HM F1 hc5 B1 K1;generalize max x.wd c=m at*;go_wp2;go_ret;rw [HE.o];exact ⟨rfl,K2.o.set rfl,QD B2.o (.inl rfl) _⟩
 ·have HE:=Za (show QO e n x=(10,x) from if_neg h);rw [if_neg h,decide_eq_false h] at HL;clear h;go_enter func224,ntmps224;go_wp2_with fail;refine HL.o.mono ?_;rintro o w1 ⟨rfl,NI⟩;have B1:Zl (w.grownBy w1 (some b)):=Za kL;have K1:Zl (VB w1 b x):=Za (by rw [<-NI]; exact Yw HB.o _);clear NI HL hg Wv hf HB;go_wp2;go_ret;rw [HE.o];exact ⟨rfl,K1.o,B1.o⟩
theorem nh (ev:Int)(x:ZN)(w:Zc)(hs:(YJ .i64 x.st).wf=true)(he:(YJ .i64 ev).wf=true)(hb:VB w b x)(hg:w.cell? ⟨g,0,none⟩=some (.int .i64 ev)) :
  Zv Zb 222 #[.pointer (some ⟨b,0,none⟩),.pointer (some ⟨g,0,none⟩)] w fun o w'=>o= .returned (.int .i64 (Qj ev x).1)/\VB w' b (Qj ev x).2/\w.grownBy w' (some b):=by
 have HN:=Za (cK x.st ev w.drew hs he);have HB:=Za hb;have M9:=QS hb 1;have HC:=Za (And.intro M9 hg);clear hb M9 hg hs he;go_enter func222,ntmps222;go_wp2;refine Mz (fun w'=>w'.cell? ⟨b,1,none⟩=some (.int .i64 x.st)/\w'.cell? ⟨g,0,none⟩=some (.int .i64 ev)) 10 5 [0,1,2,3,4] HC.o ?_;refine JL ?_;refine Ol ?_;iterate 3 (go_big_quiet_step ((intros; rfl)))
 refine Vk 3 ⟨b,1,none⟩ (.int .i64 x.st) (fun w h=>h.1) ?_;refine Vk 3 ⟨g,0,none⟩ (.int .i64 ev) (fun w h=>h.2) ?_;refine X5 ?_;refine XK ?_;refine DM ?_;refine JC #[.int .i64 x.st,.int .i64 ev] call223 (HN.o.mono ?_);rintro o w1 ⟨rfl,b1⟩;have Et:Zp w.heap.size w w1:=(Below.drew (Below.refl _ _)).trans b1;have B1:Zl (w.grownBy w1 (some b)):=Za (Ee Et _);have K1:Zl (VB w1 b x):=Za (Zu.below HB.o Et HB.o.lt);have S1:w1.cell? ⟨b,1,none⟩=some (.int .i64 x.st)/\w1.cell? ⟨g,0,none⟩=some (.int .i64 ev):=⟨XP K1.o 1,(Et.cell (p:=⟨g,0,none⟩) (Ga HC.o.2)).trans HC.o.2⟩;clear b1 HN Et;refine ⟨_,rfl,S1,?_⟩;refine Da ?_;refine SR (fun w'=>w'.cell? ⟨b,1,none⟩=some (.int .i64 x.st)/\w'.cell? ⟨g,0,none⟩=some (.int .i64 ev)) (m:=4) (f:=0) [6,7,8,9] S1 ?_;refine JL ?_;refine He ?_;refine Bi ?_;refine XK ?_;refine GO ?_;refine ⟨by kernel_rfl,?_⟩;refine Mh ?_;have F1:=K1.o.fz 1;have c1:=S1.1;clear S1 HC
 by_cases h:Jk x.st ev=0
 ·have HE:=Za (show Qj ev x=(8,x) from if_pos h);rw [h];clear h;go_wp2;refine Gy ?_;go_wp2;go_ret;rw [HE.o];exact ⟨rfl,K1.o,B1.o⟩
 ·have HE:=Za (show Qj ev x=(0,{ x with st:=Jk x.st ev}) from if_neg h);have hn:(Jk x.st ev != 0)=true:=KB;generalize Jk x.st ev=r at*;rw [hn];clear h hn;go_wp2;refine Gy ?_;go_wp2;go_ret;rw [HE.o];exact ⟨rfl,K1.o.set rfl,QD B1.o (.inl rfl) _⟩
end
end
section
open Go Go.RowKit
def Rk (x:ZN) :Prop:=(YJ .i64 x.st).wf=true
def Vm (w:Zc)(f:Value)(e:Ng) :Prop:=
 ∃(F:Nat) (Gh:Array Value),f= .func (.func F) #[] Gh/\(∀args w,(callFunc F args).run Zb w= .ok (.enter F args) w)/\(∀x,Rk x->Rk (e x).2)/\
  ∀w1 b x,Zp w.heap.size w w1->w.heap.size<=b->VB w1 b x->Rk x->
   Zv Zb F (#[.pointer (some ⟨b,0,none⟩)]++Gh) w1 fun o w2=>o= .returned (.int .i64 (e x).1)/\VB w2 b (e x).2/\w1.grownBy w2 (some b)
theorem Vm.below {w w':Zc}{f:Value}{e:Ng}(h:Vm w f e)(hb:Zp w.heap.size w w') :Vm w' f e:=by
 obtain ⟨F,Gh,h1,h2,h3,h4⟩:=h;exact ⟨F,Gh,h1,h2,h3,fun w1 b x EX hg hv hs=>h4 w1 b x (hb.trans (EX.mono hb.size)) (Nat.le_trans hb.size hg) hv hs⟩
section
variable {w:Zc}
theorem Ul {w w1:Zc}{g:Nat}{v:Value}(h:w.cell? ⟨g,0,none⟩=some v)(hb:Zp w.heap.size w w1) :w1.cell? ⟨g,0,none⟩=some v:=
 (hb.cell (p:=⟨g,0,none⟩) (Ga h)).trans h
theorem ni {g:Nat}{ev:Int}(he:(YJ .i64 ev).wf=true)(h:w.cell? ⟨g,0,none⟩=some (.int .i64 ev)) :Vm w (.func (.func 222) #[] #[.pointer (some ⟨g,0,none⟩)]) (Qj ev):=
 ⟨_,_,rfl,call222,fun x hx=>by unfold Qj; split; exact hx; exact Iq _ _,fun w1 b x hb hg hv hs=>nh ev x w1 hs he hv (Ul h hb)⟩
theorem NX {g:Nat}{e:Int}(h:w.cell? ⟨g,0,none⟩=some (.int .i64 e)) :Vm w (.func (.func 227) #[] #[.pointer (some ⟨g,0,none⟩)]) (Xo e):=
 ⟨_,_,rfl,call227,fun x hx=>by unfold Xo; split <;> exact hx,fun w1 b x hb hg hv hs=>Ir e x w1 hv (Ul h hb)⟩
theorem WS {g:Nat}{e:Int}(h:w.cell? ⟨g,0,none⟩=some (.int .i64 e)) :Vm w (.func (.func 286) #[] #[.pointer (some ⟨g,0,none⟩)]) (XA e):=
 ⟨_,_,rfl,call286,fun x hx=>by unfold XA; split <;> exact hx,fun w1 b x hb hg hv hs=>WR e x w1 hv (Ul h hb)⟩
theorem nD {g:Nat}{e:Int}(h:w.cell? ⟨g,0,none⟩=some (.int .i64 e)) :Vm w (.func (.func 278) #[] #[.pointer (some ⟨g,0,none⟩)]) (Dy e):=
 ⟨_,_,rfl,call278,fun x hx=>by unfold Dy; split <;> exact hx,fun w1 b x hb hg hv hs=>nC e x w1 hv (Ul h hb)⟩
theorem mF {g g2:Nat}{e n:Int}(h0:0<=n)(h1:n<=9223372036854775807)(h:w.cell? ⟨g,0,none⟩=some (.int .i64 e))(h2:w.cell? ⟨g2,0,none⟩=some (.int .i64 n)) :
  Vm w (.func (.func 224) #[] #[.pointer (some ⟨g,0,none⟩),.pointer (some ⟨g2,0,none⟩)]) (QO e n):=
 ⟨_,_,rfl,call224,fun x hx=>by unfold QO; split <;> exact hx,fun w1 b x hb hg hv hs=>mE e n x w1 h0 h1 hv (Ul h hb) (Ul h2 hb)⟩
theorem AE:Vm w (.func (.func 179) #[] #[]) VI:=
 ⟨_,_,rfl,call179,fun x hx=>by unfold VI; split <;> exact hx,fun w1 b x hb hg hv hs=>rQ x w1 hv⟩
end
def Qh:List Ng->Ng
 | [],x=>(0,x)
 | e::es,x=>if(e x).1=0 then Qh es (e x).2 else((e x).1,ZS)
theorem nK {es:List Ng}{k:Nat}{e:Ng}{x:ZN}(h:es[k]?=some e) :Qh (es.drop k) x=if(e x).1=0 then Qh (es.drop (k+1)) (e x).2 else((e x).1,ZS):=by
 obtain ⟨hk,rfl⟩:=List.getElem?_eq_some_iff.1 h;rw [List.drop_eq_getElem_cons hk];rfl
def GA (w:Zc)(a:Option Addr)(es:List Ng) :Prop:=
 ∃g off,a=some ⟨g,off,none⟩/\ ∀i e,es[i]?=some e-> ∃f,w.cell? ⟨g,off+i,none⟩=some f/\Vm w f e
theorem GA.below {w w':Zc}{a:Option Addr}{es:List Ng}(h:GA w a es)(hb:Zp w.heap.size w w') :GA w' a es:=by
 obtain ⟨g,off,rfl,h⟩:=h;refine ⟨g,off,rfl,fun i e hi=>?_⟩;obtain ⟨f,h1,h2⟩:=h i e hi;exact ⟨f,(hb.cell (p:=⟨g,off+i,none⟩) (Ga h1)).trans h1,h2.below hb⟩
theorem OF (es:List Ng)(a:Option Addr)(cap:Nat)(v:ZN)(w:Zc)(hv:Rk v)(hlen:es.length<=1000)(hc:GA w a es) :
  Z3 218 #[.agg (Zd v),.slice a es.length cap] w (.tuple #[.agg (Zd (Qh es v).2),.int .i64 (Qh es v).1]):=by
 have HC:=Za hc;have HV:=Za hv;obtain ⟨len,hl⟩:=ZT (es.length);rw [hl] at hlen ⊢;have zC:=Za hl;clear hc hv hl;go_enter func218,ntmps218;go_wp2;go_loopw [11] (fun s11 wr=> ∃(k:Nat) (x:ZN),k<=len/\s11= .int .i64 k/\Zl (Qh es v=Qh (es.drop k) x)/\Zl (Rk x)/\Zl (VB wr w.heap.size x)/\Zl (VB wr (w.heap.size+1) ZS)/\Zl (Zp w.heap.size w wr)) (fun s11 _=>len -(intOf s11).toNat)
 case atStart=>
  refine ⟨0,v,by omega,rfl,Za rfl,HV,Za ?_,Za ?_,Za ?_⟩
  ·exact Yw (Zt w _ _) _
  ·have:=Zt (w.alloc (.cells (Zd v) 68)) 68 (Zd ZS);rw [show (w.alloc (.cells (Zd v) 68)).heap.size=w.heap.size+1 by simp] at this;exact this
  ·exact Zbq
 case round=>
  obtain ⟨k,x,hk,rfl,HR,HS,HB,HZ,HW⟩:=hrel
  by_cases XV:k < len
  ·obtain ⟨g,off,rfl,Dn⟩:=HC.o;obtain ⟨e,he⟩ : ∃e,es[k]?=some e:=⟨_,List.getElem?_eq_getElem (by rw [zC.o]; exact XV)⟩;obtain ⟨f,hf,hd⟩:=Dn k e he;obtain ⟨F,Gh,rfl,hen,GR,VH⟩:=hd;have UJ:wr.cell? ⟨g,off+k,none⟩=some (.func (.func F) #[] Gh):=(HW.o.cell (p:=⟨g,off+k,none⟩) (Ga hf)).trans hf;have HX:=Za (VH wr w.heap.size x HW.o (Zh _) HB.o HS.o);have HD:=Za (nK (x:=x) he);have HN:=Za (GR x HS.o);clear Dn VH GR hf;generalize hq:e x=q at HX HD HN;obtain ⟨cd,y⟩:=q;clear hq;simp only at HX HD HN
   by_cases h0:cd=0
   ·have HT:Zl (Qh es v=Qh (es.drop (k+1)) y):=Za (by rw [HR.o,HD.o,if_pos h0]);have OV:(cd != 0)=false:=by simpa using h0
    subst h0;go_wp2_with fail;refine HX.o.mono ?_;rintro o w2 ⟨rfl,PM,Wv⟩;have K2:=Za (GW HW.o Wv HW.o.size (Zh _));have Z2:=Za (Zu.grown HZ.o Wv ZE);have V2:=Za PM;clear PM Wv HX HW HZ HB HD HR OV;go_wp2;go_roundw
    case rel=>exact ⟨k+1,y,by omega,by go_num,HT,HN,V2,Z2,K2⟩
    case measure=>exact VL
   ·have HT:Zl (Qh es v=(cd,ZS)):=Za (by rw [HR.o,HD.o,if_neg h0]);have OV:(cd != 0)=true:=by simpa using h0
    clear h0;go_wp2_with fail;refine HX.o.mono ?_;rintro o w2 ⟨rfl,PM,Wv⟩;have K2:=Za (GW HW.o Wv HW.o.size (Zh _));have Z2:=Za (Zu.grown HZ.o Wv ZE);clear PM Wv HX HW HZ HB HD HR;go_wp2_with (first | (refine UG rfl 68 _ rfl ZS ZC ?_) | (refine UP (w.heap.size+1) (Zd ZS) 68 Z2.o Yb (Ys ZS) ?_));rw [HT.o];exact bodyPost_ret (v:= .tuple #[.agg (Zd ZS),.int .i64 cd]) (XS (fn:=Tryz.f218) rfl _ _ (w.heap.size+1) 68 _ (0,0) _ rfl (setRow_heap _ _ _ _ _ _ Z2.o) underlying68 rfl Yb) rfl ⟨rfl,below_setRow K2.o Zf _⟩
  ·obtain rfl:k=len:=Zf;have HE:Zl (Qh es v=(0,x)):=Za (by rw [HR.o,List.drop_of_length_le (by rw [zC.o]; exact Zh _)]; rfl);clear XV;have XV: ¬k < k:=Zf;go_wp2_with (first | (refine Kz 68 w.heap.size HB.o underlying68 Yb ?_) | (refine UP (w.heap.size+1) (Zd x) 68 HZ.o Yb (Ys x) ?_));rw [HE.o];exact bodyPost_ret (v:= .tuple #[.agg (Zd x),.int .i64 0]) (XS (fn:=Tryz.f218) rfl _ _ (w.heap.size+1) 68 _ (0,0) _ rfl (setRow_heap _ _ _ _ _ _ HZ.o) underlying68 rfl Yb) rfl ⟨rfl,below_setRow HW.o Zf _⟩
end
end Go.Proofs.YtobgbcdgffgdhaaGreat
