/- Part 15 of 29: L15Eff L15Eff2 L15Does. -/
import Derived.Test.YtianiiijaopdpaaGreatZy00
import Derived.Test.YtianiiijaopdpaaGreatZy05
import Derived.Test.YtianiiijaopdpaaGreatZy13
namespace Go.Proofs.YtianiiijaopdpaaGreat
set_option linter.unusedVariables false
set_option linter.unusedSimpArgs false
set_option maxRecDepth 100000
set_option maxHeartbeats 8000000
open _root_.Go.RowKit renaming Below → Zs
open _root_.Go.Proofs.YtianiiijaopdpaaGreat.Blk renaming alloc → YA, cell → Yg, new → Zv
open _root_.Go renaming Calls → Zj, World → Zc
open _root_.Go.Lib renaming hid → Za
open _root_.Go.Lit renaming int → Xg
open _root_.Nat renaming le_refl → Zg
open _root_.Go.Proofs.Tryz renaming prog → Zb, underlying63 → Zr
theorem jo {G:Prop}(h:G:=by rw [←PK]; exact DB (J2 _ _) _) :G:=h
theorem Zgf {G:Prop} (h:G:=by
  go_enter Tryz.func304,Tryz.ntmps304;go_wp2;go_quiet (fail);go_wp2;go_ret;rw [HE.out];exact ⟨rfl,Blk.drewN HB.out _,VW (J2 _ _) _⟩) :G:=h
theorem zr {G:Prop} (h:G:=by
  go_enter Tryz.func313,Tryz.ntmps313;go_wp2;go_ret;rw [HE.out];exact ⟨rfl,HB.out,J2 _ _⟩) :G:=h
theorem zt {G:Prop} (h:G:=by
  go_wp2;go_ret;rw [HE.out];exact ⟨rfl,HB.out.set rfl,QN (J2 _ _) (.inl rfl) _⟩) :G:=h
section
open Go Go.RowKit
abbrev M3:=Yd→Int × Yd
def Sr (e:Int) :Prop:=0≤e∧e≤1099511627776
instance (e:Int) :Decidable (Sr e):=by unfold Sr; infer_instance
def Qu (ev:Int) :M3:=fun x=>if JC x.st ev=0 then(8,x) else(0,{ x with st:=JC x.st ev})
def Xw (e:Int) :M3:=fun x=>if Sr e then(0,{ x with rq:=e}) else(10,x)
def XN (e:Int) :M3:=fun x=>if x.st=3∧x.ex= -1 then(0,{ x with ex:=e}) else(8,x)
def Q9 (e n:Int) :M3:=fun x=>if Sr e∧n≤1099511627776 - e then(0,{ x with wd:=max x.wd (e+n)}) else(10,x)
def DF (e:Int) :M3:=fun x=>if e < x.wd then(8,x) else(0,x)
def Ua:M3:=fun x=>if x.sl=true then(9,x) else(0,{ x with sl:=true,dl:= -1})
def VB (w:Zc)(b:Nat)(x:Yd) :Prop:=Blk w b 63 (Zd x)
section
variable {w w':Zc} {b g:Nat} {x y:Yd}
theorem VB.set (h:VB w b x){i:Nat}{u:Value}(e:(Zd x).setIfInBounds i u=Zd y) :VB (w.setCell ⟨b,i,none⟩ u) b y:=by
 have:=Blk.set_ h i u;rw [e] at this;exact this
theorem VB.lt (h:VB w b x) :b < w.heap.size:=Blk.lt h
theorem VB.fz (h:VB w b x)(i:Nat) :w.frozen? ⟨b,i,none⟩=false:=Blk.frozen h i
theorem CS (s e:Int) :(Xg .i64 (JC s e)).wf=true:=by
 have:JC s e=0∨JC s e=2∨JC s e=3∨JC s e=4∨JC s e=5∨JC s e=6∨JC s e=7:=by
  unfold JC
  repeat' split
  all_goals omega
 rcases this with h | h | h | h | h | h | h <;> rw [h]<;> decide
theorem pZ (e:Int)(w:Zc) :Zj Zb 247 #[.int .i64 e,.slice none 0 0] w fun o w'=>o= .returned (.tuple #[.int .i64 (if Sr e then e else 0),.bool (decide (Sr e))])∧w=w':=by
 by_cases h:Sr e
 ·refine (Oo e none 0 0 [] w h.1 h.2 Zm (fun i hi=>absurd hi Zm) (fun h=>absurd h Zm)).mono ?_;rintro o w' ⟨rfl,rfl⟩;rw [if_pos h,decide_eq_true h];refine ⟨?_,rfl⟩;unfold Sr at h;simp [XI,KQ,h]
 ·refine (Ot e none 0 0 w (by unfold Sr at h; omega)).mono ?_;rintro o w' ⟨rfl,rfl⟩;rw [if_neg h,decide_eq_false h];exact Hd
def O8 (e n:Int) :Prop:=Sr e∧n≤1099511627776 - e
instance (e n:Int) :Decidable (O8 e n):=by unfold O8; infer_instance
theorem p4 (e n:Int)(g:Nat)(w:Zc)(hn:0≤n)(ee:n≤9223372036854775807)(hg:w.cell? ⟨g,0,none⟩=some (.int .i64 n)) :
  Zj Zb 247 #[.int .i64 e,.slice (some ⟨g,0,none⟩) 1 1] w fun o w'=>o= .returned (.tuple #[.int .i64 (if O8 e n then e+n else 0),.bool (decide (O8 e n))])∧w=w':=by
 by_cases h:Sr e
 ·refine (Oo e (some ⟨g,0,none⟩) 1 1 [n] w h.1 h.2 Zm (fun i hi=>?_) (fun _=>⟨g,0,rfl,fun i hi=>?_⟩)).mono ?_
  ·obtain rfl:i=0:=by omega
   exact ⟨by simp; omega,by simpa using ee⟩
  ·obtain rfl:i=0:=by omega
   exact hg
  ·rintro o w' ⟨rfl,rfl⟩;refine ⟨?_,rfl⟩;have h':=h;unfold Sr at h'
   by_cases hs:n≤1099511627776 - e
   ·rw [if_pos ⟨h,hs⟩,decide_eq_true (show O8 e n from ⟨h,hs⟩)];simp [XI,KQ,h',hn,hs]
   ·rw [if_neg (fun x=>hs x.2),decide_eq_false (fun x:O8 e n=>hs x.2)];simp [XI,KQ,h',hn,hs]
 ·refine (Ot e (some ⟨g,0,none⟩) 1 1 w (by unfold Sr at h; omega)).mono ?_;rintro o w' ⟨rfl,rfl⟩;rw [if_neg (fun x=>h x.1),decide_eq_false (fun x:O8 e n=>h x.1)];exact Hd
theorem Zby (a c:Int)(g:Nat)(w:Zc)(h:Blk w g 3 #[.int .i64 a,.int .i64 c]) :
  Zj Zb 248 #[.slice (some ⟨g,0,none⟩) 2 2] w fun o w'=>o= .returned (.int .i64 (max a c))∧w=w':=by
 refine (vJ g 0 2 2 [a,c] w Zm Zm (fun i hi=>?_)).mono ?_
 ·rw [Nat.zero_add,Yg h i];obtain rfl | rfl:i=0∨i=1:=by omega
  all_goals rfl
 ·rintro o w' ⟨rfl,rfl⟩;exact Hd
theorem CT (e:Int)(x:Yd)(w:Zc)(hb:VB w b x)(hg:w.cell? ⟨g,0,none⟩=some (.int .i64 e)) :
  Zj Zb 249 #[.pointer (some ⟨b,0,none⟩),.pointer (some ⟨g,0,none⟩)] w fun o w'=>o= .returned (.int .i64 (Xw e x).1)∧VB w' b (Xw e x).2∧w.grownBy w' (some b):=by
 have HL:=Za (pZ e w);have HB:=Za hb;have hf:=hb.fz 3;have hc:w.cell? ⟨b,3,none⟩=some (.int .i64 x.rq):=Yg hb 3;clear hb
 by_cases h:Sr e
 ·have HE:=Za (show Xw e x=(0,{ x with rq:=e}) from if_pos h);rw [if_pos h,decide_eq_true h] at HL;go_enter Tryz.func249,Tryz.ntmps249;go_wp2_with fail;refine HL.out.mono ?_;rintro o w' ⟨rfl,rfl⟩;exact zt
 ·have HE:=Za (show Xw e x=(10,x) from if_neg h);rw [if_neg h,decide_eq_false h] at HL;go_enter Tryz.func249,Tryz.ntmps249;go_wp2_with fail;refine HL.out.mono ?_;rintro o w' ⟨rfl,rfl⟩;go_wp2;go_ret;rw [HE.out];exact ⟨rfl,HB.out,J2 _ _⟩
theorem Wn (e:Int)(x:Yd)(w:Zc)(hb:VB w b x)(hg:w.cell? ⟨g,0,none⟩=some (.int .i64 e)) :
  Zj Zb 313 #[.pointer (some ⟨b,0,none⟩),.pointer (some ⟨g,0,none⟩)] w fun o w'=>o= .returned (.int .i64 (XN e x).1)∧VB w' b (XN e x).2∧w.grownBy w' (some b):=by
 have HB:=Za hb;have hf:=hb.fz 4;have Om:w.cell? ⟨b,1,none⟩=some (.int .i64 x.st):=Yg hb 1;have hc4:w.cell? ⟨b,4,none⟩=some (.int .i64 x.ex):=Yg hb 4;clear hb
 by_cases h:x.st=3
 ·have h3:(x.st != 3)=false:=by simpa using h
  by_cases h':x.ex= -1
  ·have h4:(x.ex != -1)=false:=by simpa using h'
   have HE:=Za (show XN e x=(0,{ x with ex:=e}) from if_pos ⟨h,h'⟩);clear h h';go_enter Tryz.func313,Tryz.ntmps313;exact zt
  ·have h4:(x.ex != -1)=true:=by simpa using h'
   have HE:=Za (show XN e x=(8,x) from if_neg (fun hh=>h' hh.2));clear h h';exact zr
 ·have h3:(x.st != 3)=true:=by simpa using h
  have HE:=Za (show XN e x=(8,x) from if_neg (fun hh=>h hh.1));clear h;exact zr
theorem qf (x:Yd)(w:Zc)(hb:VB w b x) :
  Zj Zb 190 #[.pointer (some ⟨b,0,none⟩)] w fun o w'=>o= .returned (.int .i64 (Ua x).1)∧VB w' b (Ua x).2∧w.grownBy w' (some b):=by
 have HB:=Za hb;have hf2:=hb.fz 2;have hf6:=hb.fz 6;have hc2:w.cell? ⟨b,2,none⟩=some (.bool x.sl):=Yg hb 2;have hc6:w.cell? ⟨b,6,none⟩=some (.int .i64 x.dl):=Yg hb 6;clear hb
 cases h:x.sl with
 | true=>
  have HE:=Za (show Ua x=(9,x) from if_pos h);rw [h] at hc2;go_enter Tryz.func190,Tryz.ntmps190;go_wp2;go_ret;rw [HE.out];exact ⟨rfl,HB.out,J2 _ _⟩
 | false=>
  have HE:=Za (show Ua x=(0,{ x with sl:=true,dl:= -1}) from if_neg (by rw [h]; simp));rw [h] at hc2;go_enter Tryz.func190,Tryz.ntmps190;go_wp2;go_ret;rw [HE.out];have k1:=VB.set (y:= { x with sl:=true}) HB.out (i:=2) (u:= .bool true) rfl;have k2:=VB.set (y:= { x with sl:=true,dl:= -1}) k1 (i:=6) (u:= .int .i64 (-1)) rfl;have g1:w.grownBy (w.setCell ⟨b,2,none⟩ (.bool true)) (some b):=QN (J2 _ _) (.inl rfl) _;have g2:=QN g1 (p:=⟨b,6,none⟩) (.inl rfl) (.int .i64 (-1));exact ⟨rfl,k2,g2⟩
end
end
section
open Go Go.RowKit
section
variable {w w':Zc} {b g g2:Nat} {x y:Yd}
theorem lQ (e:Int)(x:Yd)(w:Zc)(hb:VB w b x)(hg:w.cell? ⟨g,0,none⟩=some (.int .i64 e)) :
  Zj Zb 304 #[.pointer (some ⟨b,0,none⟩),.pointer (some ⟨g,0,none⟩)] w fun o w'=>o= .returned (.int .i64 (DF e x).1)∧VB w' b (DF e x).2∧w.grownBy w' (some b):=by
 have HB:=Za hb;have hc5:w.cell? ⟨b,5,none⟩=some (.int .i64 x.wd):=Yg hb 5;clear hb
 by_cases h:e < x.wd
 ·have HE:=Za (show DF e x=(8,x) from if_pos h);exact Zgf
 ·have HE:=Za (show DF e x=(0,x) from if_neg h);exact Zgf
theorem kS (e n:Int)(x:Yd)(w:Zc)(h0:0≤n)(h1:n≤9223372036854775807)(hb:VB w b x)(hg:w.cell? ⟨g,0,none⟩=some (.int .i64 e))(TT:w.cell? ⟨g2,0,none⟩=some (.int .i64 n)) :
  Zj Zb 246 #[.pointer (some ⟨b,0,none⟩),.pointer (some ⟨g,0,none⟩),.pointer (some ⟨g2,0,none⟩)] w fun o w'=>o= .returned (.int .i64 (Q9 e n x).1)∧VB w' b (Q9 e n x).2∧w.grownBy w' (some b):=by
 have HL:=Za (p4 e n w.heap.size (w.alloc (.cells #[.int .i64 n] 3)) h0 h1 ((Zv w 3 #[.int .i64 n]).cell 0));have HB:=Za hb;have HM:=Za (fun c (w:Zc)=>Zby x.wd c w.heap.size (w.alloc (.cells #[.int .i64 x.wd,.int .i64 c] 3)) (Zv w _ _));have hf:=hb.fz 5;have hc5:w.cell? ⟨b,5,none⟩=some (.int .i64 x.wd):=Yg hb 5;clear hb h0 h1
 by_cases h:O8 e n
 ·have HE:=Za (show Q9 e n x=(0,{ x with wd:=max x.wd (e+n)}) from if_pos h);rw [if_pos h,decide_eq_true h] at HL;generalize e+n=c at*;clear h;go_enter Tryz.func246,Tryz.ntmps246;go_wp2_with fail;refine HL.out.mono ?_;rintro o w1 ⟨rfl,PK⟩;have B1:Hid (w.grownBy w1 (some b)):=Za jo;have K1:Hid (VB w1 b x):=Za (by rw [←PK]; exact YA HB.out _);have hc5:w1.cell? ⟨b,5,none⟩=some (.int .i64 x.wd):=Yg K1.out 5;have F1:=K1.out.fz 5;clear PK HL hg TT hf HB;go_wp2_with fail;refine (HM.out _ _).mono ?_;rintro o w2 ⟨rfl,Np⟩;have B2:Hid (w.grownBy w2 (some b)):=Za (by rw [←Np]; exact DB B1.out _);have K2:Hid (VB w2 b x):=Za (by rw [←Np]; exact YA K1.out _);have F2:=K2.out.fz 5;have c2:w2.cell? ⟨b,5,none⟩=some (.int .i64 x.wd):=Yg K2.out 5;clear Np HM F1 hc5 B1 K1;generalize max x.wd c=m at*;go_wp2;go_ret;rw [HE.out];exact ⟨rfl,K2.out.set rfl,QN B2.out (.inl rfl) _⟩
 ·have HE:=Za (show Q9 e n x=(10,x) from if_neg h);rw [if_neg h,decide_eq_false h] at HL;clear h;go_enter Tryz.func246,Tryz.ntmps246;go_wp2_with fail;refine HL.out.mono ?_;rintro o w1 ⟨rfl,PK⟩;have B1:Hid (w.grownBy w1 (some b)):=Za jo;have K1:Hid (VB w1 b x):=Za (by rw [←PK]; exact YA HB.out _);clear PK HL hg TT hf HB;go_wp2;go_ret;rw [HE.out];exact ⟨rfl,K1.out,B1.out⟩
theorem lD (ev:Int)(x:Yd)(w:Zc)(hs:(Xg .i64 x.st).wf=true)(he:(Xg .i64 ev).wf=true)(hb:VB w b x)(hg:w.cell? ⟨g,0,none⟩=some (.int .i64 ev)) :
  Zj Zb 244 #[.pointer (some ⟨b,0,none⟩),.pointer (some ⟨g,0,none⟩)] w fun o w'=>o= .returned (.int .i64 (Qu ev x).1)∧VB w' b (Qu ev x).2∧w.grownBy w' (some b):=by
 have HN:=Za (bB x.st ev w.drew hs he);have HB:=Za hb;have Om:w.cell? ⟨b,1,none⟩=some (.int .i64 x.st):=Yg hb 1;have HC:=Za (And.intro Om hg);clear hb Om hg hs he;go_enter Tryz.func244,Tryz.ntmps244;go_wp2;refine M0 (fun w'=>w'.cell? ⟨b,1,none⟩=some (.int .i64 x.st)∧w'.cell? ⟨g,0,none⟩=some (.int .i64 ev)) 10 5 [0,1,2,3,4] HC.out ?_;refine Kg ?_;refine NX ?_;iterate 3 (go_big_quiet_step ((intros; rfl)))
 refine YJ 3 _ ⟨b,1,none⟩ (.int .i64 x.st) rfl rfl rfl (fun w h=>by simp [go_sem,h]) (fun w h=>h.1) ?_;refine YJ 3 _ ⟨g,0,none⟩ (.int .i64 ev) rfl rfl rfl (fun w h=>by simp [go_sem,h]) (fun w h=>h.2) ?_;refine Qe ?_;refine Qc ?_;refine EE ?_;refine JZ #[.int .i64 x.st,.int .i64 ev] Tryz.call245 (HN.out.mono ?_);rintro o w1 ⟨rfl,b1⟩;have EG:Zs w.heap.size w w1:=(Below.drew (Below.refl _ _)).trans b1;have B1:Hid (w.grownBy w1 (some b)):=Za (Es EG _);have K1:Hid (VB w1 b x):=Za (Blk.below HB.out EG HB.out.lt);have S1:w1.cell? ⟨b,1,none⟩=some (.int .i64 x.st)∧w1.cell? ⟨g,0,none⟩=some (.int .i64 ev):=⟨Yg K1.out 1,(EG.cell (p:=⟨g,0,none⟩) (cell_lt HC.out.2)).trans HC.out.2⟩;clear b1 HN EG;refine ⟨_,rfl,S1,?_⟩;refine Dg ?_;refine hfT (fun w'=>w'.cell? ⟨b,1,none⟩=some (.int .i64 x.st)∧w'.cell? ⟨g,0,none⟩=some (.int .i64 ev)) (m:=4) (f:=0) [6,7,8,9] S1 ?_;refine Kg ?_;refine Ma ?_;refine BN ?_;refine Qc ?_;refine Bn ?_;refine ⟨by kernel_rfl,?_⟩;refine LY ?_;have F1:=K1.out.fz 1;have c1:=S1.1;clear S1 HC
 by_cases h:JC x.st ev=0
 ·have HE:=Za (show Qu ev x=(8,x) from if_pos h);rw [h];clear h;go_wp2;refine GM ?_;go_wp2;go_ret;rw [HE.out];exact ⟨rfl,K1.out,B1.out⟩
 ·have HE:=Za (show Qu ev x=(0,{ x with st:=JC x.st ev}) from if_neg h);have hn:(JC x.st ev != 0)=true:=by simpa using h
  generalize JC x.st ev=r at*;rw [hn];clear h hn;go_wp2;refine GM ?_;go_wp2;go_ret;rw [HE.out];exact ⟨rfl,K1.out.set rfl,QN B1.out (.inl rfl) _⟩
end
end
section
open Go Go.RowKit
def PC (x:Yd) :Prop:=(Xg .i64 x.st).wf=true
def VI (w:Zc)(f:Value)(e:M3) :Prop:=
 ∃(F:Nat) (Dr:Array Value),f= .func (.func F) #[] Dr∧(∀args w,(callFunc F args).run Zb w= .ok (.enter F args) w)∧(∀x,PC x→PC (e x).2)∧
  ∀w1 b x,Zs w.heap.size w w1→w.heap.size≤b→VB w1 b x→PC x→
   Zj Zb F (#[.pointer (some ⟨b,0,none⟩)]++Dr) w1 fun o w2=>o= .returned (.int .i64 (e x).1)∧VB w2 b (e x).2∧w1.grownBy w2 (some b)
theorem VI.below {w w':Zc}{f:Value}{e:M3}(h:VI w f e)(hb:Zs w.heap.size w w') :VI w' f e:=by
 obtain ⟨F,Dr,h1,h2,h3,h4⟩:=h;exact ⟨F,Dr,h1,h2,h3,fun w1 b x ER hg hv hs=>h4 w1 b x (hb.trans (ER.mono hb.size)) (Nat.le_trans hb.size hg) hv hs⟩
section
variable {w:Zc}
theorem UA {w w1:Zc}{g:Nat}{v:Value}(h:w.cell? ⟨g,0,none⟩=some v)(hb:Zs w.heap.size w w1) :w1.cell? ⟨g,0,none⟩=some v:=
 (hb.cell (p:=⟨g,0,none⟩) (cell_lt h)).trans h
theorem lE {g:Nat}{ev:Int}(he:(Xg .i64 ev).wf=true)(h:w.cell? ⟨g,0,none⟩=some (.int .i64 ev)) :VI w (.func (.func 244) #[] #[.pointer (some ⟨g,0,none⟩)]) (Qu ev):=
 ⟨_,_,rfl,Tryz.call244,fun x hx=>by unfold Qu; split; exact hx; exact CS _ _,fun w1 b x hb hg hv hs=>lD ev x w1 hs he hv (UA h hb)⟩
theorem ND {g:Nat}{e:Int}(h:w.cell? ⟨g,0,none⟩=some (.int .i64 e)) :VI w (.func (.func 249) #[] #[.pointer (some ⟨g,0,none⟩)]) (Xw e):=
 ⟨_,_,rfl,Tryz.call249,fun x hx=>by unfold Xw; split <;> exact hx,fun w1 b x hb hg hv hs=>CT e x w1 hv (UA h hb)⟩
theorem Wo {g:Nat}{e:Int}(h:w.cell? ⟨g,0,none⟩=some (.int .i64 e)) :VI w (.func (.func 313) #[] #[.pointer (some ⟨g,0,none⟩)]) (XN e):=
 ⟨_,_,rfl,Tryz.call313,fun x hx=>by unfold XN; split <;> exact hx,fun w1 b x hb hg hv hs=>Wn e x w1 hv (UA h hb)⟩
theorem lR {g:Nat}{e:Int}(h:w.cell? ⟨g,0,none⟩=some (.int .i64 e)) :VI w (.func (.func 304) #[] #[.pointer (some ⟨g,0,none⟩)]) (DF e):=
 ⟨_,_,rfl,Tryz.call304,fun x hx=>by unfold DF; split <;> exact hx,fun w1 b x hb hg hv hs=>lQ e x w1 hv (UA h hb)⟩
theorem kT {g g2:Nat}{e n:Int}(h0:0≤n)(h1:n≤9223372036854775807)(h:w.cell? ⟨g,0,none⟩=some (.int .i64 e))(h2:w.cell? ⟨g2,0,none⟩=some (.int .i64 n)) :
  VI w (.func (.func 246) #[] #[.pointer (some ⟨g,0,none⟩),.pointer (some ⟨g2,0,none⟩)]) (Q9 e n):=
 ⟨_,_,rfl,Tryz.call246,fun x hx=>by unfold Q9; split <;> exact hx,fun w1 b x hb hg hv hs=>kS e n x w1 h0 h1 hv (UA h hb) (UA h2 hb)⟩
theorem Ac:VI w (.func (.func 190) #[] #[]) Ua:=
 ⟨_,_,rfl,Tryz.call190,fun x hx=>by unfold Ua; split <;> exact hx,fun w1 b x hb hg hv hs=>qf x w1 hv⟩
end
def QA:List M3→M3
 | [],x=>(0,x)
 | e::es,x=>if(e x).1=0 then QA es (e x).2 else((e x).1,ZZ)
theorem lW {es:List M3}{k:Nat}{e:M3}{x:Yd}(h:es[k]?=some e) :QA (es.drop k) x=if(e x).1=0 then QA (es.drop (k+1)) (e x).2 else((e x).1,ZZ):=by
 obtain ⟨hk,rfl⟩:=List.getElem?_eq_some_iff.1 h;rw [List.drop_eq_getElem_cons hk];rfl
def GZ (w:Zc)(a:Option Addr)(es:List M3) :Prop:=
 ∃g off,a=some ⟨g,off,none⟩∧ ∀i e,es[i]?=some e→ ∃f,w.cell? ⟨g,off+i,none⟩=some f∧VI w f e
theorem GZ.below {w w':Zc}{a:Option Addr}{es:List M3}(h:GZ w a es)(hb:Zs w.heap.size w w') :GZ w' a es:=by
 obtain ⟨g,off,rfl,h⟩:=h;refine ⟨g,off,rfl,fun i e hi=>?_⟩;obtain ⟨f,h1,h2⟩:=h i e hi;exact ⟨f,(hb.cell (p:=⟨g,off+i,none⟩) (cell_lt h1)).trans h1,h2.below hb⟩
theorem N7 (es:List M3)(a:Option Addr)(cap:Nat)(v:Yd)(w:Zc)(hv:PC v)(hlen:es.length≤1000)(hc:GZ w a es) :
  Zj Zb 240 #[.agg (Zd v),.slice a es.length cap] w fun o w'=>o= .returned (.tuple #[.agg (Zd (QA es v).2),.int .i64 (QA es v).1])∧Zs w.heap.size w w':=by
 have HC:=Za hc;have HV:=Za hv;obtain ⟨len,hl⟩ : ∃len,es.length=len:=⟨_,rfl⟩;rw [hl] at hlen ⊢;have HLN:=Za hl;clear hc hv hl;go_enter Tryz.func240,Tryz.ntmps240;go_wp2;go_loopw [11] (fun s11 wr=> ∃(k:Nat) (x:Yd),k≤len∧s11= .int .i64 k∧Hid (QA es v=QA (es.drop k) x)∧Hid (PC x)∧Hid (VB wr w.heap.size x)∧Hid (VB wr (w.heap.size+1) ZZ)∧Hid (Zs w.heap.size w wr)) (fun s11 _=>len -(intOf s11).toNat)
 case atStart=>
  refine ⟨0,v,by omega,rfl,Za rfl,HV,Za ?_,Za ?_,Za ?_⟩
  ·exact YA (Zv w _ _) _
  ·have:=Zv (w.alloc (.cells (Zd v) 63)) 63 (Zd ZZ);rw [show (w.alloc (.cells (Zd v) 63)).heap.size=w.heap.size+1 by simp] at this;exact this
  ·exact ((Below.refl _ _).alloc (Zg _) _).alloc ZI _
 case round=>
  obtain ⟨k,x,hk,rfl,HR,HS,HB,HZ,HW⟩:=hrel
  by_cases XP:k < len
  ·obtain ⟨g,off,rfl,Du⟩:=HC.out;obtain ⟨e,he⟩ : ∃e,es[k]?=some e:=⟨_,List.getElem?_eq_getElem (by rw [HLN.out]; exact XP)⟩;obtain ⟨f,hf,hd⟩:=Du k e he;obtain ⟨F,Dr,rfl,hen,Um,BX⟩:=hd;have GS:wr.cell? ⟨g,off+k,none⟩=some (.func (.func F) #[] Dr):=(HW.out.cell (p:=⟨g,off+k,none⟩) (cell_lt hf)).trans hf;have HX:=Za (BX wr w.heap.size x HW.out (Zg _) HB.out HS.out);have HD:=Za (lW (x:=x) he);have HN:=Za (Um x HS.out);clear Du BX Um hf;generalize hq:e x=q at HX HD HN;obtain ⟨cd,y⟩:=q;clear hq;simp only at HX HD HN
   by_cases h0:cd=0
   ·have HT:Hid (QA es v=QA (es.drop (k+1)) y):=Za (by rw [HR.out,HD.out,if_pos h0]);have Ol:(cd != 0)=false:=by simpa using h0
    subst h0;go_wp2_with fail;refine HX.out.mono ?_;rintro o w2 ⟨rfl,O5,TT⟩;have K2:=Za (Bp HW.out TT HW.out.size (Zg _));have Z2:=Za (Blk.grown HZ.out TT ZI);have V2:=Za O5;clear O5 TT HX HW HZ HB HD HR Ol;go_wp2;go_roundw
    case rel=>exact ⟨k+1,y,by omega,by go_num,HT,HN,V2,Z2,K2⟩
    case measure=>exact Bl
   ·have HT:Hid (QA es v=(cd,ZZ)):=Za (by rw [HR.out,HD.out,if_neg h0]);have Ol:(cd != 0)=true:=by simpa using h0
    clear h0;go_wp2_with fail;refine HX.out.mono ?_;rintro o w2 ⟨rfl,O5,TT⟩;have K2:=Za (Bp HW.out TT HW.out.size (Zg _));have Z2:=Za (Blk.grown HZ.out TT ZI);clear O5 TT HX HW HZ HB HD HR;go_wp2_with (first | (refine UY rfl 63 _ rfl ZZ Ye ?_) | (refine wpList_store_row rfl _ _ _ rfl (w.heap.size+1) (Zd ZZ) rfl rfl 63 _ Z2.out Ym rfl (Yx ZZ) ?_));rw [HT.out];exact bodyPost_ret (v:= .tuple #[.agg (Zd ZZ),.int .i64 cd]) (XY (fn:=Tryz.f240) rfl _ _ (w.heap.size+1) 63 _ (0,0) _ rfl (setRow_heap _ _ _ _ _ _ Z2.out) Zr rfl Ym) rfl ⟨rfl,below_setRow K2.out Zm _⟩
  ·obtain rfl:k=len:=by omega
   have HE:Hid (QA es v=(0,x)):=Za (by rw [HR.out,List.drop_of_length_le (by rw [HLN.out]; exact Zg _)]; rfl);clear XP;have XP: ¬k < k:=by omega
   go_wp2_with (first | (refine wpList_load_row rfl 63 _ rfl w.heap.size rfl 63 _ (0,0) _ HB.out Zr rfl Ym ?_) | (refine wpList_store_row rfl _ _ _ rfl (w.heap.size+1) (Zd x) rfl rfl 63 _ HZ.out Ym rfl (Yx x) ?_));rw [HE.out];exact bodyPost_ret (v:= .tuple #[.agg (Zd x),.int .i64 0]) (XY (fn:=Tryz.f240) rfl _ _ (w.heap.size+1) 63 _ (0,0) _ rfl (setRow_heap _ _ _ _ _ _ HZ.out) Zr rfl Ym) rfl ⟨rfl,below_setRow HW.out Zm _⟩
end
end Go.Proofs.YtianiiijaopdpaaGreat
