/- Part 31 of 58: L15Eff L15Eff2. -/
import Derived.Test.YtianiiijaopdpaaGreatZu00
import Derived.Test.YtianiiijaopdpaaGreatZu08
import Derived.Test.YtianiiijaopdpaaGreatZu14
import Derived.Test.YtianiiijaopdpaaGreatZu15
import Derived.Test.YtianiiijaopdpaaGreatZu18
namespace Go.Proofs.YtianiiijaopdpaaGreat
set_option linter.unusedVariables false
set_option linter.unusedSimpArgs false
set_option maxRecDepth 100000
set_option maxHeartbeats 8000000
open _root_.Go.Proofs.YtianiiijaopdpaaGreat.Zy renaming alloc → YF, cell → Yh
open _root_.Go renaming Calls → Zi, World → Zc
open _root_.Go.Lib renaming hid → Za
open _root_.Go.NoPanic renaming normal → ZH
open _root_.Go.Proofs.Tryz renaming prog → Zb
theorem j1 {G:Prop}(h:G:=by rw [←PQ]; exact DA (JV _ _) _) :G:=h
theorem ZgH {G:Prop} (h:G:=by
  go_enter Tryz.func304,Tryz.ntmps304;go_wp2;go_quiet (fail);go_wp2;go_ret;rw [HE.out];exact ⟨rfl,Zy.drewN HB.out _,VM (JV _ _) _⟩) :G:=h
theorem Zan {G:Prop} (h:G:=by
  go_enter Tryz.func313,Tryz.ntmps313;go_wp2;go_ret;rw [HE.out];exact ⟨rfl,HB.out,JV _ _⟩) :G:=h
theorem Zao {G:Prop} (h:G:=by
  go_wp2;go_ret;rw [HE.out];exact ⟨rfl,HB.out.set rfl,QK (JV _ _) (.inl rfl) _⟩) :G:=h
section
open Go Go.RowKit
abbrev M3:=Yd→Int × Yd
def SK (e:Int) :Prop:=0≤e∧e≤1099511627776
instance (e:Int) :Decidable (SK e):=by unfold SK; infer_instance
def Qm (ev:Int) :M3:=fun x=>if Jt x.st ev=0 then(8,x) else(0,{ x with st:=Jt x.st ev})
def Xs (e:Int) :M3:=fun x=>if SK e then(0,{ x with rq:=e}) else(10,x)
def XS (e:Int) :M3:=fun x=>if x.st=3∧x.ex= -1 then(0,{ x with ex:=e}) else(8,x)
def Q3 (e n:Int) :M3:=fun x=>if SK e∧n≤1099511627776 - e then(0,{ x with wd:=max x.wd (e+n)}) else(10,x)
def DH (e:Int) :M3:=fun x=>if e < x.wd then(8,x) else(0,x)
def Vn:M3:=fun x=>if x.sl=true then(9,x) else(0,{ x with sl:=true,dl:= -1})
def VB (w:Zc)(b:Nat)(x:Yd) :Prop:=Zy w b 63 (Zd x)
section
variable {w w':Zc} {b g:Nat} {x y:Yd}
theorem VB.set (h:VB w b x){i:Nat}{u:Value}(e:(Zd x).setIfInBounds i u=Zd y) :VB (w.setCell ⟨b,i,none⟩ u) b y:=by
 have:=Zy.set_ h i u;rw [e] at this;exact this
theorem VB.lt (h:VB w b x) :b < w.heap.size:=Zy.lt h
theorem VB.fz (h:VB w b x)(i:Nat) :w.frozen? ⟨b,i,none⟩=false:=Zy.frozen h i
theorem Ik (s e:Int) :(Lit.int .i64 (Jt s e)).wf=true:=by
 have:Jt s e=0∨Jt s e=2∨Jt s e=3∨Jt s e=4∨Jt s e=5∨Jt s e=6∨Jt s e=7:=by
  unfold Jt
  repeat' split
  all_goals omega
 rcases this with h | h | h | h | h | h | h <;> rw [h]<;> decide
theorem qX (e:Int)(w:Zc) :Zi Zb 247 #[.int .i64 e,.slice none 0 0] w fun o w'=>o= .returned (.tuple #[.int .i64 (if SK e then e else 0),.bool (decide (SK e))])∧w=w':=by
 by_cases h:SK e
 ·refine (OB e none 0 0 [] w h.1 h.2 Zp (fun i hi=>absurd hi Zp) (fun h=>absurd h Zp)).mono ?_;rintro o w' ⟨rfl,rfl⟩;rw [if_pos h,decide_eq_true h];refine ⟨?_,rfl⟩;unfold SK at h;simp [XQ,KB,h]
 ·refine (OC e none 0 0 w (by unfold SK at h; omega)).mono ?_;rintro o w' ⟨rfl,rfl⟩;rw [if_neg h,decide_eq_false h];exact BV
def Pn (e n:Int) :Prop:=SK e∧n≤1099511627776 - e
instance (e n:Int) :Decidable (Pn e n):=by unfold Pn; infer_instance
theorem qY (e n:Int)(g:Nat)(w:Zc)(hn:0≤n)(e8:n≤9223372036854775807)(hg:w.cell? ⟨g,0,none⟩=some (.int .i64 n)) :
  Zi Zb 247 #[.int .i64 e,.slice (some ⟨g,0,none⟩) 1 1] w fun o w'=>o= .returned (.tuple #[.int .i64 (if Pn e n then e+n else 0),.bool (decide (Pn e n))])∧w=w':=by
 by_cases h:SK e
 ·refine (OB e (some ⟨g,0,none⟩) 1 1 [n] w h.1 h.2 Zp (fun i hi=>?_) (fun _=>⟨g,0,rfl,fun i hi=>?_⟩)).mono ?_
  ·obtain rfl:i=0:=by omega
   exact ⟨by simp; omega,by simpa using e8⟩
  ·obtain rfl:i=0:=by omega
   exact hg
  ·rintro o w' ⟨rfl,rfl⟩;refine ⟨?_,rfl⟩;have h':=h;unfold SK at h'
   by_cases hs:n≤1099511627776 - e
   ·rw [if_pos ⟨h,hs⟩,decide_eq_true (show Pn e n from ⟨h,hs⟩)];simp [XQ,KB,h',hn,hs]
   ·rw [if_neg (fun x=>hs x.2),decide_eq_false (fun x:Pn e n=>hs x.2)];simp [XQ,KB,h',hn,hs]
 ·refine (OC e (some ⟨g,0,none⟩) 1 1 w (by unfold SK at h; omega)).mono ?_;rintro o w' ⟨rfl,rfl⟩;rw [if_neg (fun x=>h x.1),decide_eq_false (fun x:Pn e n=>h x.1)];exact BV
theorem Zcp (a c:Int)(g:Nat)(w:Zc)(h:Zy w g 3 #[.int .i64 a,.int .i64 c]) :
  Zi Zb 248 #[.slice (some ⟨g,0,none⟩) 2 2] w fun o w'=>o= .returned (.int .i64 (max a c))∧w=w':=by
 refine (wN g 0 2 2 [a,c] w Zp Zp (fun i hi=>?_)).mono ?_
 ·rw [Nat.zero_add,Yh h i];obtain rfl | rfl:i=0∨i=1:=by omega
  all_goals rfl
 ·rintro o w' ⟨rfl,rfl⟩;exact BV
theorem Im (e:Int)(x:Yd)(w:Zc)(hb:VB w b x)(hg:w.cell? ⟨g,0,none⟩=some (.int .i64 e)) :
  Zi Zb 249 #[.pointer (some ⟨b,0,none⟩),.pointer (some ⟨g,0,none⟩)] w fun o w'=>o= .returned (.int .i64 (Xs e x).1)∧VB w' b (Xs e x).2∧w.grownBy w' (some b):=by
 have HL:=Za (qX e w);have HB:=Za hb;have hf:=hb.fz 3;have hc:w.cell? ⟨b,3,none⟩=some (.int .i64 x.rq):=Yh hb 3;clear hb
 by_cases h:SK e
 ·have HE:=Za (show Xs e x=(0,{ x with rq:=e}) from if_pos h);rw [if_pos h,decide_eq_true h] at HL;go_enter Tryz.func249,Tryz.ntmps249;go_wp2_with fail;refine HL.out.mono ?_;rintro o w' ⟨rfl,rfl⟩;exact Zao
 ·have HE:=Za (show Xs e x=(10,x) from if_neg h);rw [if_neg h,decide_eq_false h] at HL;go_enter Tryz.func249,Tryz.ntmps249;go_wp2_with fail;refine HL.out.mono ?_;rintro o w' ⟨rfl,rfl⟩;go_wp2;go_ret;rw [HE.out];exact ⟨rfl,HB.out,JV _ _⟩
theorem WE (e:Int)(x:Yd)(w:Zc)(hb:VB w b x)(hg:w.cell? ⟨g,0,none⟩=some (.int .i64 e)) :
  Zi Zb 313 #[.pointer (some ⟨b,0,none⟩),.pointer (some ⟨g,0,none⟩)] w fun o w'=>o= .returned (.int .i64 (XS e x).1)∧VB w' b (XS e x).2∧w.grownBy w' (some b):=by
 have HB:=Za hb;have hf:=hb.fz 4;have Ns:w.cell? ⟨b,1,none⟩=some (.int .i64 x.st):=Yh hb 1;have hc4:w.cell? ⟨b,4,none⟩=some (.int .i64 x.ex):=Yh hb 4;clear hb
 by_cases h:x.st=3
 ·have h3:(x.st != 3)=false:=by simpa using h
  by_cases h':x.ex= -1
  ·have h4:(x.ex != -1)=false:=by simpa using h'
   have HE:=Za (show XS e x=(0,{ x with ex:=e}) from if_pos ⟨h,h'⟩);clear h h';go_enter Tryz.func313,Tryz.ntmps313;exact Zao
  ·have h4:(x.ex != -1)=true:=by simpa using h'
   have HE:=Za (show XS e x=(8,x) from if_neg (fun hh=>h' hh.2));clear h h';exact Zan
 ·have h3:(x.st != 3)=true:=by simpa using h
  have HE:=Za (show XS e x=(8,x) from if_neg (fun hh=>h hh.1));clear h;exact Zan
theorem q7 (x:Yd)(w:Zc)(hb:VB w b x) :
  Zi Zb 190 #[.pointer (some ⟨b,0,none⟩)] w fun o w'=>o= .returned (.int .i64 (Vn x).1)∧VB w' b (Vn x).2∧w.grownBy w' (some b):=by
 have HB:=Za hb;have hf2:=hb.fz 2;have hf6:=hb.fz 6;have hc2:w.cell? ⟨b,2,none⟩=some (.bool x.sl):=Yh hb 2;have hc6:w.cell? ⟨b,6,none⟩=some (.int .i64 x.dl):=Yh hb 6;clear hb
 cases h:x.sl with
 | true=>
  have HE:=Za (show Vn x=(9,x) from if_pos h);rw [h] at hc2;go_enter Tryz.func190,Tryz.ntmps190;go_wp2;go_ret;rw [HE.out];exact ⟨rfl,HB.out,JV _ _⟩
 | false=>
  have HE:=Za (show Vn x=(0,{ x with sl:=true,dl:= -1}) from if_neg (by rw [h]; simp));rw [h] at hc2;go_enter Tryz.func190,Tryz.ntmps190;go_wp2;go_ret;rw [HE.out];have k1:=VB.set (y:= { x with sl:=true}) HB.out (i:=2) (u:= .bool true) rfl;have k2:=VB.set (y:= { x with sl:=true,dl:= -1}) k1 (i:=6) (u:= .int .i64 (-1)) rfl;have g1:w.grownBy (w.setCell ⟨b,2,none⟩ (.bool true)) (some b):=QK (JV _ _) (.inl rfl) _;have g2:=QK g1 (p:=⟨b,6,none⟩) (.inl rfl) (.int .i64 (-1));exact ⟨rfl,k2,g2⟩
end
end
section
open Go Go.RowKit
section
variable {w w':Zc} {b g g2:Nat} {x y:Yd}
theorem mI (e:Int)(x:Yd)(w:Zc)(hb:VB w b x)(hg:w.cell? ⟨g,0,none⟩=some (.int .i64 e)) :
  Zi Zb 304 #[.pointer (some ⟨b,0,none⟩),.pointer (some ⟨g,0,none⟩)] w fun o w'=>o= .returned (.int .i64 (DH e x).1)∧VB w' b (DH e x).2∧w.grownBy w' (some b):=by
 have HB:=Za hb;have hc5:w.cell? ⟨b,5,none⟩=some (.int .i64 x.wd):=Yh hb 5;clear hb
 by_cases h:e < x.wd
 ·have HE:=Za (show DH e x=(8,x) from if_pos h);exact ZgH
 ·have HE:=Za (show DH e x=(0,x) from if_neg h);exact ZgH
theorem lT (e n:Int)(x:Yd)(w:Zc)(h0:0≤n)(h1:n≤9223372036854775807)(hb:VB w b x)(hg:w.cell? ⟨g,0,none⟩=some (.int .i64 e))(Wg:w.cell? ⟨g2,0,none⟩=some (.int .i64 n)) :
  Zi Zb 246 #[.pointer (some ⟨b,0,none⟩),.pointer (some ⟨g,0,none⟩),.pointer (some ⟨g2,0,none⟩)] w fun o w'=>o= .returned (.int .i64 (Q3 e n x).1)∧VB w' b (Q3 e n x).2∧w.grownBy w' (some b):=by
 have HL:=Za (qY e n w.heap.size (w.alloc (.cells #[.int .i64 n] 3)) h0 h1 ((Zy.new w 3 #[.int .i64 n]).cell 0));have HB:=Za hb;have HM:=Za (fun c (w:Zc)=>Zcp x.wd c w.heap.size (w.alloc (.cells #[.int .i64 x.wd,.int .i64 c] 3)) (Zy.new w _ _));have hf:=hb.fz 5;have hc5:w.cell? ⟨b,5,none⟩=some (.int .i64 x.wd):=Yh hb 5;clear hb h0 h1
 by_cases h:Pn e n
 ·have HE:=Za (show Q3 e n x=(0,{ x with wd:=max x.wd (e+n)}) from if_pos h);rw [if_pos h,decide_eq_true h] at HL;generalize e+n=c at*;clear h;go_enter Tryz.func246,Tryz.ntmps246;go_wp2_with fail;refine HL.out.mono ?_;rintro o w1 ⟨rfl,PQ⟩;have B1:Hid (w.grownBy w1 (some b)):=Za j1;have K1:Hid (VB w1 b x):=Za (by rw [←PQ]; exact YF HB.out _);have hc5:w1.cell? ⟨b,5,none⟩=some (.int .i64 x.wd):=Yh K1.out 5;have F1:=K1.out.fz 5;clear PQ HL hg Wg hf HB;go_wp2_with fail;refine (HM.out _ _).mono ?_;rintro o w2 ⟨rfl,MG⟩;have B2:Hid (w.grownBy w2 (some b)):=Za (by rw [←MG]; exact DA B1.out _);have K2:Hid (VB w2 b x):=Za (by rw [←MG]; exact YF K1.out _);have F2:=K2.out.fz 5;have c2:w2.cell? ⟨b,5,none⟩=some (.int .i64 x.wd):=Yh K2.out 5;clear MG HM F1 hc5 B1 K1;generalize max x.wd c=m at*;go_wp2;go_ret;rw [HE.out];exact ⟨rfl,K2.out.set rfl,QK B2.out (.inl rfl) _⟩
 ·have HE:=Za (show Q3 e n x=(10,x) from if_neg h);rw [if_neg h,decide_eq_false h] at HL;clear h;go_enter Tryz.func246,Tryz.ntmps246;go_wp2_with fail;refine HL.out.mono ?_;rintro o w1 ⟨rfl,PQ⟩;have B1:Hid (w.grownBy w1 (some b)):=Za j1;have K1:Hid (VB w1 b x):=Za (by rw [←PQ]; exact YF HB.out _);clear PQ HL hg Wg hf HB;go_wp2;go_ret;rw [HE.out];exact ⟨rfl,K1.out,B1.out⟩
theorem mx (ev:Int)(x:Yd)(w:Zc)(hs:(Lit.int .i64 x.st).wf=true)(he:(Lit.int .i64 ev).wf=true)(hb:VB w b x)(hg:w.cell? ⟨g,0,none⟩=some (.int .i64 ev)) :
  Zi Zb 244 #[.pointer (some ⟨b,0,none⟩),.pointer (some ⟨g,0,none⟩)] w fun o w'=>o= .returned (.int .i64 (Qm ev x).1)∧VB w' b (Qm ev x).2∧w.grownBy w' (some b):=by
 have HN:=Za (cg x.st ev w.drew hs he);have HB:=Za hb;have Ns:w.cell? ⟨b,1,none⟩=some (.int .i64 x.st):=Yh hb 1;have HC:=Za (And.intro Ns hg);clear hb Ns hg hs he;go_enter Tryz.func244,Tryz.ntmps244;go_wp2;refine MZ (fun w'=>w'.cell? ⟨b,1,none⟩=some (.int .i64 x.st)∧w'.cell? ⟨g,0,none⟩=some (.int .i64 ev)) 10 5 [0,1,2,3,4] HC.out ?_;simp only [qF,qH];show wpQuiet _ _ _ _ [_,_,_,_,_] _;iterate 3 (go_big_quiet_step ((intros; rfl)))
 refine Yw 3 _ ⟨b,1,none⟩ (.int .i64 x.st) rfl rfl rfl (fun w h=>by simp [go_sem,h]) (fun w h=>h.1) ?_;refine Yw 3 _ ⟨g,0,none⟩ (.int .i64 ev) rfl rfl rfl (fun w h=>by simp [go_sem,h]) (fun w h=>h.2) ?_;simp only [qB];refine wpQuiet_nil ?_;refine Qt (i:=5) ?_;refine JM #[.int .i64 x.st,.int .i64 ev] Tryz.call245 (HN.out.mono ?_);rintro o w1 ⟨rfl,b1⟩;have EA:Below w.heap.size w w1:=(Below.drew (Below.refl _ _)).trans b1;have B1:Hid (w.grownBy w1 (some b)):=Za (Eo EA _);have K1:Hid (VB w1 b x):=Za (Zy.below HB.out EA HB.out.lt);have S1:w1.cell? ⟨b,1,none⟩=some (.int .i64 x.st)∧w1.cell? ⟨g,0,none⟩=some (.int .i64 ev):=⟨Yh K1.out 1,(EA.cell (p:=⟨g,0,none⟩) (UH HC.out.2)).trans HC.out.2⟩;clear b1 HN EA;refine ⟨_,rfl,S1,?_⟩;simp only [Act.put,qG,qS];refine Wv (fun w'=>w'.cell? ⟨b,1,none⟩=some (.int .i64 x.st)∧w'.cell? ⟨g,0,none⟩=some (.int .i64 ev)) (m:=4) (f:=0) [6,7,8,9] S1 ?_;simp only [qF,qH];show wpQuiet _ _ _ _ [_,_,_,_] _;iterate 4 (go_big_quiet_step ((intros; rfl)))
 refine wpQuiet_nil ?_;show Region.seqB _ _ _ _ _=true∧_;refine ⟨by kernel_rfl,?_⟩;simp only [qA];have F1:=K1.out.fz 1;have c1:=S1.1;clear S1 HC
 by_cases h:Jt x.st ev=0
 ·have HE:=Za (show Qm ev x=(8,x) from if_pos h);rw [h];clear h;go_wp2;refine ZH ?_;go_wp2;go_ret;rw [HE.out];exact ⟨rfl,K1.out,B1.out⟩
 ·have HE:=Za (show Qm ev x=(0,{ x with st:=Jt x.st ev}) from if_neg h);have hn:(Jt x.st ev != 0)=true:=by simpa using h
  generalize Jt x.st ev=r at*;rw [hn];clear h hn;go_wp2;refine ZH ?_;go_wp2;go_ret;rw [HE.out];exact ⟨rfl,K1.out.set rfl,QK B1.out (.inl rfl) _⟩
end
end
end Go.Proofs.YtianiiijaopdpaaGreat
