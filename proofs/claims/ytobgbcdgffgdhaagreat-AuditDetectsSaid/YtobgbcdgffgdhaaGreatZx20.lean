/- Part 20 of 34: L15Eff L15Eff2 L15Does. -/
import Derived.Test.YtobgbcdgffgdhaaGreatZx00
import Derived.Test.YtobgbcdgffgdhaaGreatZx07
import Derived.Test.YtobgbcdgffgdhaaGreatZx16
namespace Go.Proofs.YtobgbcdgffgdhaaGreat
set_option linter.unusedVariables false
set_option linter.unusedSimpArgs false
set_option maxRecDepth 100000
set_option maxHeartbeats 8000000
open _root_.Go.RowKit renaming Below -> Zp
open _root_.Go.Proofs.YtobgbcdgffgdhaaGreat.Zu renaming alloc -> YK, cell -> Qc, new -> Zs
open _root_.Go renaming Calls -> Zv, World -> Zc
open _root_.Go.Lit renaming int -> YN
open _root_.Nat renaming le_refl -> Zh
open _root_.Go.Proofs.Tryz renaming prog -> Zb
open Go.Proofs.Tryz
theorem o3 {G:Prop}(h:G:=by rw [<-Px]; exact EB (K9 _ _) _) :G:=h
theorem Zgx {G:Prop} (h:G:=by
  go_wp2;go_ret;rw [HE.o];exact ⟨rfl,HB.o,K9 _ _⟩) :G:=h
theorem Zm4 {G:Prop} (h:G:=by
  go_enter func278,ntmps278;go_wp2;go_quiet (fail);go_wp2;go_ret;rw [HE.o];exact ⟨rfl,Zu.drewN HB.o _,US (K9 _ _) _⟩) :G:=h
theorem Zfd {G:Prop} (h:G:=by
  go_enter func286,ntmps286;exact Zgx) :G:=h
theorem Zfe {G:Prop} (h:G:=by
  go_wp2;go_ret;rw [HE.o];exact ⟨rfl,HB.o.set rfl,QX (K9 _ _) (.inl rfl) _⟩) :G:=h
theorem Zf1 {G:Prop} (h:G:=by
  exact Zgx) :G:=h
section
open Go Go.RowKit
abbrev OU:=ZN->Int × ZN
def TV (e:Int) :Prop:=0<=e/\e<=1099511627776
instance (e:Int) :Decidable (TV e):=by unfold TV; infer_instance
def QH (ev:Int) :OU:=fun x=>if Jz x.st ev=0 then(8,x) else(0,{ x with st:=Jz x.st ev})
def XA (e:Int) :OU:=fun x=>if TV e then(0,{ x with rq:=e}) else(10,x)
def XM (e:Int) :OU:=fun x=>if x.st=3/\x.ex= -1 then(0,{ x with ex:=e}) else(8,x)
def Ja (e n:Int) :OU:=fun x=>if TV e/\n<=1099511627776 - e then(0,{ x with wd:=max x.wd (e+n)}) else(10,x)
def EG (e:Int) :OU:=fun x=>if e < x.wd then(8,x) else(0,x)
def Un:OU:=fun x=>if x.sl=true then(9,x) else(0,{ x with sl:=true,dl:= -1})
def VB (w:Zc)(b:Nat)(x:ZN) :Prop:=Zu w b 68 (Ze x)
section
variable {w w':Zc} {b g:Nat} {x y:ZN}
theorem VB.set (h:VB w b x){i:Nat}{u:Value}(e:(Ze x).setIfInBounds i u=Ze y) :VB (w.setCell ⟨b,i,none⟩ u) b y:=by
 have:=Zu.set_ h i u;rw [e] at this;exact this
theorem VB.lt (h:VB w b x) :b < w.heap.size:=Zu.lt h
theorem VB.fz (h:VB w b x)(i:Nat) :w.frozen? ⟨b,i,none⟩=false:=Zu.frozen h i
theorem cO (s e:Int) :(YN .i64 (Jz s e)).wf=true:=by
 have:Jz s e=0\/Jz s e=2\/Jz s e=3\/Jz s e=4\/Jz s e=5\/Jz s e=6\/Jz s e=7:=by
  unfold Jz
  repeat' split
  all_goals omega
 rcases this with h | h | h | h | h | h | h <;> rw [h]<;> decide
theorem wK (e:Int)(w:Zc) :Y6 225 #[.int .i64 e,.slice none 0 0] w (.tuple #[.int .i64 (if TV e then e else 0),.bool (decide (TV e))]):=by
 by_cases h:TV e
 ·refine (RK e none 0 0 [] w h.1 h.2 Zf (fun i hi=>absurd hi Zf) (fun h=>absurd h Zf)).mono ?_;rintro o w' ⟨rfl,rfl⟩;rw [if_pos h,decide_eq_true h];refine ⟨?_,rfl⟩;unfold TV at h;simp [XX,KQ,h]
 ·refine (RL e none 0 0 w (by unfold TV at h; omega)).mono ?_;rintro o w' ⟨rfl,rfl⟩;rw [if_neg h,decide_eq_false h];exact Gw
def OR (e n:Int) :Prop:=TV e/\n<=1099511627776 - e
instance (e n:Int) :Decidable (OR e n):=by unfold OR; infer_instance
theorem wL (e n:Int)(g:Nat)(w:Zc)(hn:0<=n)(kB:n<=9223372036854775807)(hg:w.cell? ⟨g,0,none⟩=some (.int .i64 n)) :
  Y6 225 #[.int .i64 e,.slice (some ⟨g,0,none⟩) 1 1] w (.tuple #[.int .i64 (if OR e n then e+n else 0),.bool (decide (OR e n))]):=by
 by_cases h:TV e
 ·refine (RK e (some ⟨g,0,none⟩) 1 1 [n] w h.1 h.2 Zf (fun i hi=>?_) (fun _=>⟨g,0,rfl,fun i hi=>?_⟩)).mono ?_
  ·obtain rfl:i=0:=Zf;exact ⟨by simp; omega,by simpa using kB⟩
  ·obtain rfl:i=0:=Zf;exact hg
  ·rintro o w' ⟨rfl,rfl⟩;refine ⟨?_,rfl⟩;have h':=h;unfold TV at h'
   by_cases hs:n<=1099511627776 - e
   ·rw [if_pos ⟨h,hs⟩,decide_eq_true (show OR e n from ⟨h,hs⟩)];simp [XX,KQ,h',hn,hs]
   ·rw [if_neg (fun x=>hs x.2),decide_eq_false (fun x:OR e n=>hs x.2)];simp [XX,KQ,h',hn,hs]
 ·refine (RL e (some ⟨g,0,none⟩) 1 1 w (by unfold TV at h; omega)).mono ?_;rintro o w' ⟨rfl,rfl⟩;rw [if_neg (fun x=>h x.1),decide_eq_false (fun x:OR e n=>h x.1)];exact Gw
theorem ZhZ (a c:Int)(g:Nat)(w:Zc)(h:Zu w g 3 #[.int .i64 a,.int .i64 c]) :
  Y6 226 #[.slice (some ⟨g,0,none⟩) 2 2] w (.int .i64 (max a c)):=by
 refine (Zcw g 0 2 2 [a,c] w Zf Zf (fun i hi=>?_)).mono ?_
 ·rw [Nat.zero_add,Qc h i];obtain rfl | rfl:i=0\/i=1:=Zf
  all_goals rfl
 ·rintro o w' ⟨rfl,rfl⟩;exact Gw
theorem cP (e:Int)(x:ZN)(w:Zc)(hb:VB w b x)(hg:w.cell? ⟨g,0,none⟩=some (.int .i64 e)) :
  Zv Zb 227 #[.pointer (some ⟨b,0,none⟩),.pointer (some ⟨g,0,none⟩)] w fun o w'=>o= .returned (.int .i64 (XA e x).1)/\VB w' b (XA e x).2/\w.grownBy w' (some b):=by
 have HL:=Za (wK e w);have HB:=Za hb;have hf:=hb.fz 3;have hc:=Xx hb 3;clear hb
 by_cases h:TV e
 ·have HE:=Za (show XA e x=(0,{ x with rq:=e}) from if_pos h);rw [if_pos h,decide_eq_true h] at HL;go_enter func227,ntmps227;go_wp2_with fail;refine HL.o.mono ?_;rintro o w' ⟨rfl,rfl⟩;exact Zfe
 ·have HE:=Za (show XA e x=(10,x) from if_neg h);rw [if_neg h,decide_eq_false h] at HL;go_enter func227,ntmps227;go_wp2_with fail;refine HL.o.mono ?_;rintro o w' ⟨rfl,rfl⟩;exact Zf1
theorem Im (e:Int)(x:ZN)(w:Zc)(hb:VB w b x)(hg:w.cell? ⟨g,0,none⟩=some (.int .i64 e)) :
  Zv Zb 286 #[.pointer (some ⟨b,0,none⟩),.pointer (some ⟨g,0,none⟩)] w fun o w'=>o= .returned (.int .i64 (XM e x).1)/\VB w' b (XM e x).2/\w.grownBy w' (some b):=by
 have HB:=Za hb;have hf:=hb.fz 4;have OO:=Xx hb 1;have hc4:=Xx hb 4;clear hb
 by_cases h:x.st=3
 ·have h3:(x.st != 3)=false:=KM
  by_cases h':x.ex= -1
  ·have h4:(x.ex != -1)=false:=by simpa using h'
   have HE:=Za (show XM e x=(0,{ x with ex:=e}) from if_pos ⟨h,h'⟩);clear h h';go_enter func286,ntmps286;exact Zfe
  ·have h4:(x.ex != -1)=true:=by simpa using h'
   have HE:=Za (show XM e x=(8,x) from if_neg (fun hh=>h' hh.2));clear h h';exact Zfd
 ·have h3:(x.st != 3)=true:=KM;have HE:=Za (show XM e x=(8,x) from if_neg (fun hh=>h hh.1));clear h;exact Zfd
theorem wS (x:ZN)(w:Zc)(hb:VB w b x) :
  Zv Zb 179 #[.pointer (some ⟨b,0,none⟩)] w fun o w'=>o= .returned (.int .i64 (Un x).1)/\VB w' b (Un x).2/\w.grownBy w' (some b):=by
 have HB:=Za hb;have hf2:=hb.fz 2;have hf6:=hb.fz 6;have hc2:w.cell? ⟨b,2,none⟩=some (.bool x.sl):=Qc hb 2;have hc6:=Xx hb 6;clear hb
 cases h:x.sl with
 | true=>
  have HE:=Za (show Un x=(9,x) from if_pos h);rw [h] at hc2;go_enter func179,ntmps179;exact Zf1
 | false=>
  have HE:=Za (show Un x=(0,{ x with sl:=true,dl:= -1}) from if_neg (by rw [h]; simp));rw [h] at hc2;go_enter func179,ntmps179;go_wp2;go_ret;rw [HE.o];have k1:=VB.set (y:= { x with sl:=true}) HB.o (i:=2) (u:= .bool true) rfl;have k2:=VB.set (y:= { x with sl:=true,dl:= -1}) k1 (i:=6) (u:= .int .i64 (-1)) rfl;have g1:w.grownBy (w.setCell ⟨b,2,none⟩ (.bool true)) (some b):=QX (K9 _ _) (.inl rfl) _;have g2:=QX g1 (p:=⟨b,6,none⟩) (.inl rfl) (.int .i64 (-1));exact ⟨rfl,k2,g2⟩
end
end
section
open Go Go.RowKit
section
variable {w w':Zc} {b g g2:Nat} {x y:ZN}
theorem sc (e:Int)(x:ZN)(w:Zc)(hb:VB w b x)(hg:w.cell? ⟨g,0,none⟩=some (.int .i64 e)) :
  Zv Zb 278 #[.pointer (some ⟨b,0,none⟩),.pointer (some ⟨g,0,none⟩)] w fun o w'=>o= .returned (.int .i64 (EG e x).1)/\VB w' b (EG e x).2/\w.grownBy w' (some b):=by
 have HB:=Za hb;have hc5:=Xx hb 5;clear hb
 by_cases h:e < x.wd
 ·have HE:=Za (show EG e x=(8,x) from if_pos h);exact Zm4
 ·have HE:=Za (show EG e x=(0,x) from if_neg h);exact Zm4
theorem rh (e n:Int)(x:ZN)(w:Zc)(h0:0<=n)(h1:n<=9223372036854775807)(hb:VB w b x)(hg:w.cell? ⟨g,0,none⟩=some (.int .i64 e))(CQ:w.cell? ⟨g2,0,none⟩=some (.int .i64 n)) :
  Zv Zb 224 #[.pointer (some ⟨b,0,none⟩),.pointer (some ⟨g,0,none⟩),.pointer (some ⟨g2,0,none⟩)] w fun o w'=>o= .returned (.int .i64 (Ja e n x).1)/\VB w' b (Ja e n x).2/\w.grownBy w' (some b):=by
 have HL:=Za (wL e n w.heap.size (w.alloc (.cells #[.int .i64 n] 3)) h0 h1 ((Zs w 3 #[.int .i64 n]).cell 0));have HB:=Za hb;have HM:=Za (fun c (w:Zc)=>ZhZ x.wd c w.heap.size (w.alloc (.cells #[.int .i64 x.wd,.int .i64 c] 3)) (Zs w _ _));have hf:=hb.fz 5;have hc5:=Xx hb 5;clear hb h0 h1
 by_cases h:OR e n
 ·have HE:=Za (show Ja e n x=(0,{ x with wd:=max x.wd (e+n)}) from if_pos h);rw [if_pos h,decide_eq_true h] at HL;generalize e+n=c at*;clear h;go_enter func224,ntmps224;go_wp2_with fail;refine HL.o.mono ?_;rintro o w1 ⟨rfl,Px⟩;have B1:Zj (w.grownBy w1 (some b)):=Za o3;have K1:Zj (VB w1 b x):=Za (by rw [<-Px]; exact YK HB.o _);have hc5:=Xx K1.o 5;have F1:=K1.o.fz 5;clear Px HL hg CQ hf HB;go_wp2_with fail;refine (HM.o _ _).mono ?_;rintro o w2 ⟨rfl,OQ⟩;have B2:Zj (w.grownBy w2 (some b)):=Za (by rw [<-OQ]; exact EB B1.o _);have K2:Zj (VB w2 b x):=Za (by rw [<-OQ]; exact YK K1.o _);have F2:=K2.o.fz 5;have c2:=Xx K2.o 5;clear OQ HM F1 hc5 B1 K1;generalize max x.wd c=m at*;go_wp2;go_ret;rw [HE.o];exact ⟨rfl,K2.o.set rfl,QX B2.o (.inl rfl) _⟩
 ·have HE:=Za (show Ja e n x=(10,x) from if_neg h);rw [if_neg h,decide_eq_false h] at HL;clear h;go_enter func224,ntmps224;go_wp2_with fail;refine HL.o.mono ?_;rintro o w1 ⟨rfl,Px⟩;have B1:Zj (w.grownBy w1 (some b)):=Za o3;have K1:Zj (VB w1 b x):=Za (by rw [<-Px]; exact YK HB.o _);clear Px HL hg CQ hf HB;go_wp2;go_ret;rw [HE.o];exact ⟨rfl,K1.o,B1.o⟩
theorem rQ (ev:Int)(x:ZN)(w:Zc)(hs:(YN .i64 x.st).wf=true)(he:(YN .i64 ev).wf=true)(hb:VB w b x)(hg:w.cell? ⟨g,0,none⟩=some (.int .i64 ev)) :
  Zv Zb 222 #[.pointer (some ⟨b,0,none⟩),.pointer (some ⟨g,0,none⟩)] w fun o w'=>o= .returned (.int .i64 (QH ev x).1)/\VB w' b (QH ev x).2/\w.grownBy w' (some b):=by
 have HN:=Za (gS x.st ev w.drew hs he);have HB:=Za hb;have OO:=Xx hb 1;have HC:=Za (And.intro OO hg);clear hb OO hg hs he;go_enter func222,ntmps222;go_wp2;refine L5 (fun w'=>w'.cell? ⟨b,1,none⟩=some (.int .i64 x.st)/\w'.cell? ⟨g,0,none⟩=some (.int .i64 ev)) 10 5 [0,1,2,3,4] HC.o ?_;refine JH ?_;refine OJ ?_;iterate 3 (go_big_quiet_step ((intros; rfl)))
 refine KY 3 ⟨b,1,none⟩ (.int .i64 x.st) (fun w h=>h.1) ?_;refine KY 3 ⟨g,0,none⟩ (.int .i64 ev) (fun w h=>h.2) ?_;refine X7 ?_;refine Yo ?_;refine Ed ?_;refine JA #[.int .i64 x.st,.int .i64 ev] call223 (HN.o.mono ?_);rintro o w1 ⟨rfl,b1⟩;have FN:Zp w.heap.size w w1:=(Below.drew (Below.refl _ _)).trans b1;have B1:Zj (w.grownBy w1 (some b)):=Za (FC FN _);have K1:Zj (VB w1 b x):=Za (Zu.below HB.o FN HB.o.lt);have S1:w1.cell? ⟨b,1,none⟩=some (.int .i64 x.st)/\w1.cell? ⟨g,0,none⟩=some (.int .i64 ev):=⟨Qc K1.o 1,(FN.cell (p:=⟨g,0,none⟩) (GW HC.o.2)).trans HC.o.2⟩;clear b1 HN FN;refine ⟨_,rfl,S1,?_⟩;refine Ee ?_;refine TS (fun w'=>w'.cell? ⟨b,1,none⟩=some (.int .i64 x.st)/\w'.cell? ⟨g,0,none⟩=some (.int .i64 ev)) (m:=4) (f:=0) [6,7,8,9] S1 ?_;refine JH ?_;refine Hg ?_;refine Dw ?_;refine Yo ?_;refine GD ?_;refine ⟨by kernel_rfl,?_⟩;refine LA ?_;have F1:=K1.o.fz 1;have c1:=S1.1;clear S1 HC
 by_cases h:Jz x.st ev=0
 ·have HE:=Za (show QH ev x=(8,x) from if_pos h);rw [h];clear h;go_wp2;refine U1 ?_;go_wp2;go_ret;rw [HE.o];exact ⟨rfl,K1.o,B1.o⟩
 ·have HE:=Za (show QH ev x=(0,{ x with st:=Jz x.st ev}) from if_neg h);have hn:(Jz x.st ev != 0)=true:=KM;generalize Jz x.st ev=r at*;rw [hn];clear h hn;go_wp2;refine U1 ?_;go_wp2;go_ret;rw [HE.o];exact ⟨rfl,K1.o.set rfl,QX B1.o (.inl rfl) _⟩
end
end
section
open Go Go.RowKit
def Tq (x:ZN) :Prop:=(YN .i64 x.st).wf=true
def VT (w:Zc)(f:Value)(e:OU) :Prop:=
 ∃(F:Nat) (Bf:Array Value),f= .func (.func F) #[] Bf/\(∀args w,(callFunc F args).run Zb w= .ok (.enter F args) w)/\(∀x,Tq x->Tq (e x).2)/\
  ∀w1 b x,Zp w.heap.size w w1->w.heap.size<=b->VB w1 b x->Tq x->
   Zv Zb F (#[.pointer (some ⟨b,0,none⟩)]++Bf) w1 fun o w2=>o= .returned (.int .i64 (e x).1)/\VB w2 b (e x).2/\w1.grownBy w2 (some b)
theorem VT.below {w w':Zc}{f:Value}{e:OU}(h:VT w f e)(hb:Zp w.heap.size w w') :VT w' f e:=by
 obtain ⟨F,Bf,h1,h2,h3,h4⟩:=h;exact ⟨F,Bf,h1,h2,h3,fun w1 b x Hj hg hv hs=>h4 w1 b x (hb.trans (Hj.mono hb.size)) (Nat.le_trans hb.size hg) hv hs⟩
section
variable {w:Zc}
theorem UR {w w1:Zc}{g:Nat}{v:Value}(h:w.cell? ⟨g,0,none⟩=some v)(hb:Zp w.heap.size w w1) :w1.cell? ⟨g,0,none⟩=some v:=
 (hb.cell (p:=⟨g,0,none⟩) (GW h)).trans h
theorem rR {g:Nat}{ev:Int}(he:(YN .i64 ev).wf=true)(h:w.cell? ⟨g,0,none⟩=some (.int .i64 ev)) :VT w (.func (.func 222) #[] #[.pointer (some ⟨g,0,none⟩)]) (QH ev):=
 ⟨_,_,rfl,call222,fun x hx=>by unfold QH; split; exact hx; exact cO _ _,fun w1 b x hb hg hv hs=>rQ ev x w1 hs he hv (UR h hb)⟩
theorem PM {g:Nat}{e:Int}(h:w.cell? ⟨g,0,none⟩=some (.int .i64 e)) :VT w (.func (.func 227) #[] #[.pointer (some ⟨g,0,none⟩)]) (XA e):=
 ⟨_,_,rfl,call227,fun x hx=>by unfold XA; split <;> exact hx,fun w1 b x hb hg hv hs=>cP e x w1 hv (UR h hb)⟩
theorem Io {g:Nat}{e:Int}(h:w.cell? ⟨g,0,none⟩=some (.int .i64 e)) :VT w (.func (.func 286) #[] #[.pointer (some ⟨g,0,none⟩)]) (XM e):=
 ⟨_,_,rfl,call286,fun x hx=>by unfold XM; split <;> exact hx,fun w1 b x hb hg hv hs=>Im e x w1 hv (UR h hb)⟩
theorem sd {g:Nat}{e:Int}(h:w.cell? ⟨g,0,none⟩=some (.int .i64 e)) :VT w (.func (.func 278) #[] #[.pointer (some ⟨g,0,none⟩)]) (EG e):=
 ⟨_,_,rfl,call278,fun x hx=>by unfold EG; split <;> exact hx,fun w1 b x hb hg hv hs=>sc e x w1 hv (UR h hb)⟩
theorem ri {g g2:Nat}{e n:Int}(h0:0<=n)(h1:n<=9223372036854775807)(h:w.cell? ⟨g,0,none⟩=some (.int .i64 e))(h2:w.cell? ⟨g2,0,none⟩=some (.int .i64 n)) :
  VT w (.func (.func 224) #[] #[.pointer (some ⟨g,0,none⟩),.pointer (some ⟨g2,0,none⟩)]) (Ja e n):=
 ⟨_,_,rfl,call224,fun x hx=>by unfold Ja; split <;> exact hx,fun w1 b x hb hg hv hs=>rh e n x w1 h0 h1 hv (UR h hb) (UR h2 hb)⟩
theorem I5:VT w (.func (.func 179) #[] #[]) Un:=
 ⟨_,_,rfl,call179,fun x hx=>by unfold Un; split <;> exact hx,fun w1 b x hb hg hv hs=>wS x w1 hv⟩
end
def QE:List OU->OU
 | [],x=>(0,x)
 | e::es,x=>if(e x).1=0 then QE es (e x).2 else((e x).1,ZU)
theorem sn {es:List OU}{k:Nat}{e:OU}{x:ZN}(h:es[k]?=some e) :QE (es.drop k) x=if(e x).1=0 then QE (es.drop (k+1)) (e x).2 else((e x).1,ZU):=by
 obtain ⟨hk,rfl⟩:=List.getElem?_eq_some_iff.1 h;rw [List.drop_eq_getElem_cons hk];rfl
def BC (w:Zc)(a:Option Addr)(es:List OU) :Prop:=
 ∃g off,a=some ⟨g,off,none⟩/\ ∀i e,es[i]?=some e-> ∃f,w.cell? ⟨g,off+i,none⟩=some f/\VT w f e
theorem BC.below {w w':Zc}{a:Option Addr}{es:List OU}(h:BC w a es)(hb:Zp w.heap.size w w') :BC w' a es:=by
 obtain ⟨g,off,rfl,h⟩:=h;refine ⟨g,off,rfl,fun i e hi=>?_⟩;obtain ⟨f,h1,h2⟩:=h i e hi;exact ⟨f,(hb.cell (p:=⟨g,off+i,none⟩) (GW h1)).trans h1,h2.below hb⟩
theorem Ro (es:List OU)(a:Option Addr)(cap:Nat)(v:ZN)(w:Zc)(hv:Tq v)(hlen:es.length<=1000)(hc:BC w a es) :
  Z3 218 #[.agg (Ze v),.slice a es.length cap] w (.tuple #[.agg (Ze (QE es v).2),.int .i64 (QE es v).1]):=by
 have HC:=Za hc;have HV:=Za hv;obtain ⟨len,hl⟩:=ZR (es.length);rw [hl] at hlen ⊢;have tk:=Za hl;clear hc hv hl;go_enter func218,ntmps218;go_wp2;go_loopw [11] (fun s11 wr=> ∃(k:Nat) (x:ZN),k<=len/\s11= .int .i64 k/\Zj (QE es v=QE (es.drop k) x)/\Zj (Tq x)/\Zj (VB wr w.heap.size x)/\Zj (VB wr (w.heap.size+1) ZU)/\Zj (Zp w.heap.size w wr)) (fun s11 _=>len -(intOf s11).toNat)
 case atStart=>
  refine ⟨0,v,by omega,rfl,Za rfl,HV,Za ?_,Za ?_,Za ?_⟩
  ·exact YK (Zs w _ _) _
  ·have:=Zs (w.alloc (.cells (Ze v) 68)) 68 (Ze ZU);rw [show (w.alloc (.cells (Ze v) 68)).heap.size=w.heap.size+1 by simp] at this;exact this
  ·exact ZfT
 case round=>
  obtain ⟨k,x,hk,rfl,HR,HS,HB,HZ,HW⟩:=hrel
  by_cases XJ:k < len
  ·obtain ⟨g,off,rfl,Bh⟩:=HC.o;obtain ⟨e,he⟩ : ∃e,es[k]?=some e:=⟨_,List.getElem?_eq_getElem (by rw [tk.o]; exact XJ)⟩;obtain ⟨f,hf,hd⟩:=Bh k e he;obtain ⟨F,Bf,rfl,hen,GN,Um⟩:=hd;have KT:wr.cell? ⟨g,off+k,none⟩=some (.func (.func F) #[] Bf):=(HW.o.cell (p:=⟨g,off+k,none⟩) (GW hf)).trans hf;have HX:=Za (Um wr w.heap.size x HW.o (Zh _) HB.o HS.o);have HD:=Za (sn (x:=x) he);have HN:=Za (GN x HS.o);clear Bh Um GN hf;generalize hq:e x=q at HX HD HN;obtain ⟨cd,y⟩:=q;clear hq;simp only at HX HD HN
   by_cases h0:cd=0
   ·have HT:Zj (QE es v=QE (es.drop (k+1)) y):=Za (by rw [HR.o,HD.o,if_pos h0]);have RG:(cd != 0)=false:=by simpa using h0
    subst h0;go_wp2_with fail;refine HX.o.mono ?_;rintro o w2 ⟨rfl,SJ,CQ⟩;have K2:=Za (Db HW.o CQ HW.o.size (Zh _));have Z2:=Za (Zu.grown HZ.o CQ ZE);have V2:=Za SJ;clear SJ CQ HX HW HZ HB HD HR RG;go_wp2;go_roundw
    case rel=>exact ⟨k+1,y,by omega,by go_num,HT,HN,V2,Z2,K2⟩
    case measure=>exact KX
   ·have HT:Zj (QE es v=(cd,ZU)):=Za (by rw [HR.o,HD.o,if_neg h0]);have RG:(cd != 0)=true:=by simpa using h0
    clear h0;go_wp2_with fail;refine HX.o.mono ?_;rintro o w2 ⟨rfl,SJ,CQ⟩;have K2:=Za (Db HW.o CQ HW.o.size (Zh _));have Z2:=Za (Zu.grown HZ.o CQ ZE);clear SJ CQ HX HW HZ HB HD HR;go_wp2_with (first | (refine Gr rfl 68 _ rfl ZU ZC ?_) | (refine Up (w.heap.size+1) (Ze ZU) 68 Z2.o Ya (Yi ZU) ?_));rw [HT.o];exact bodyPost_ret (v:= .tuple #[.agg (Ze ZU),.int .i64 cd]) (Qg (fn:=Tryz.f218) rfl _ _ (w.heap.size+1) 68 _ (0,0) _ rfl (setRow_heap _ _ _ _ _ _ Z2.o) underlying68 rfl Ya) rfl ⟨rfl,below_setRow K2.o Zf _⟩
  ·obtain rfl:k=len:=Zf;have HE:Zj (QE es v=(0,x)):=Za (by rw [HR.o,List.drop_of_length_le (by rw [tk.o]; exact Zh _)]; rfl);clear XJ;have XJ: ¬k < k:=Zf;go_wp2_with (first | (refine Kl 68 w.heap.size HB.o underlying68 Ya ?_) | (refine Up (w.heap.size+1) (Ze x) 68 HZ.o Ya (Yi x) ?_));rw [HE.o];exact bodyPost_ret (v:= .tuple #[.agg (Ze x),.int .i64 0]) (Qg (fn:=Tryz.f218) rfl _ _ (w.heap.size+1) 68 _ (0,0) _ rfl (setRow_heap _ _ _ _ _ _ HZ.o) underlying68 rfl Ya) rfl ⟨rfl,below_setRow HW.o Zf _⟩
end
end Go.Proofs.YtobgbcdgffgdhaaGreat
