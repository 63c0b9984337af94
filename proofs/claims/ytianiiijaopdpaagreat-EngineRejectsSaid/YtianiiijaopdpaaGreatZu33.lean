/- Part 33 of 58: L15Does. -/
import Derived.Test.YtianiiijaopdpaaGreatZu00
import Derived.Test.YtianiiijaopdpaaGreatZu24
import Derived.Test.YtianiiijaopdpaaGreatZu31
namespace Go.Proofs.YtianiiijaopdpaaGreat
set_option linter.unusedVariables false
set_option linter.unusedSimpArgs false
set_option maxRecDepth 100000
set_option maxHeartbeats 8000000
open _root_.Go.RowKit renaming Below → Zt
open _root_.Go.Lib renaming hid → Za
open _root_.Nat renaming le_refl → Zg
open _root_.Go.Proofs.Tryz renaming prog → Zb, underlying63 → Zs
open _root_.Go renaming World → Zc
section
open Go Go.RowKit
def PM (x:Yd) :Prop:=(Lit.int .i64 x.st).wf=true
def Vu (w:Zc)(f:Value)(e:M3) :Prop:=
 ∃(F:Nat) (Dn:Array Value),f= .func (.func F) #[] Dn∧(∀args w,(callFunc F args).run Zb w= .ok (.enter F args) w)∧(∀x,PM x→PM (e x).2)∧
  ∀w1 b x,Zt w.heap.size w w1→w.heap.size≤b→VB w1 b x→PM x→
   Calls Zb F (#[.pointer (some ⟨b,0,none⟩)]++Dn) w1 fun o w2=>o= .returned (.int .i64 (e x).1)∧VB w2 b (e x).2∧w1.grownBy w2 (some b)
theorem Vu.below {w w':Zc}{f:Value}{e:M3}(h:Vu w f e)(hb:Zt w.heap.size w w') :Vu w' f e:=by
 obtain ⟨F,Dn,h1,h2,h3,h4⟩:=h;exact ⟨F,Dn,h1,h2,h3,fun w1 b x EO hg hv hs=>h4 w1 b x (hb.trans (EO.mono hb.size)) (Nat.le_trans hb.size hg) hv hs⟩
section
variable {w:Zc}
theorem Us {w w1:Zc}{g:Nat}{v:Value}(h:w.cell? ⟨g,0,none⟩=some v)(hb:Zt w.heap.size w w1) :w1.cell? ⟨g,0,none⟩=some v:=
 (hb.cell (p:=⟨g,0,none⟩) (UH h)).trans h
theorem my {g:Nat}{ev:Int}(he:(Lit.int .i64 ev).wf=true)(h:w.cell? ⟨g,0,none⟩=some (.int .i64 ev)) :Vu w (.func (.func 244) #[] #[.pointer (some ⟨g,0,none⟩)]) (Qm ev):=
 ⟨_,_,rfl,Tryz.call244,fun x hx=>by unfold Qm; split; exact hx; exact Ik _ _,fun w1 b x hb hg hv hs=>mx ev x w1 hs he hv (Us h hb)⟩
theorem NK {g:Nat}{e:Int}(h:w.cell? ⟨g,0,none⟩=some (.int .i64 e)) :Vu w (.func (.func 249) #[] #[.pointer (some ⟨g,0,none⟩)]) (Xs e):=
 ⟨_,_,rfl,Tryz.call249,fun x hx=>by unfold Xs; split <;> exact hx,fun w1 b x hb hg hv hs=>Im e x w1 hv (Us h hb)⟩
theorem WG {g:Nat}{e:Int}(h:w.cell? ⟨g,0,none⟩=some (.int .i64 e)) :Vu w (.func (.func 313) #[] #[.pointer (some ⟨g,0,none⟩)]) (XS e):=
 ⟨_,_,rfl,Tryz.call313,fun x hx=>by unfold XS; split <;> exact hx,fun w1 b x hb hg hv hs=>WE e x w1 hv (Us h hb)⟩
theorem mJ {g:Nat}{e:Int}(h:w.cell? ⟨g,0,none⟩=some (.int .i64 e)) :Vu w (.func (.func 304) #[] #[.pointer (some ⟨g,0,none⟩)]) (DH e):=
 ⟨_,_,rfl,Tryz.call304,fun x hx=>by unfold DH; split <;> exact hx,fun w1 b x hb hg hv hs=>mI e x w1 hv (Us h hb)⟩
theorem lU {g g2:Nat}{e n:Int}(h0:0≤n)(h1:n≤9223372036854775807)(h:w.cell? ⟨g,0,none⟩=some (.int .i64 e))(h2:w.cell? ⟨g2,0,none⟩=some (.int .i64 n)) :
  Vu w (.func (.func 246) #[] #[.pointer (some ⟨g,0,none⟩),.pointer (some ⟨g2,0,none⟩)]) (Q3 e n):=
 ⟨_,_,rfl,Tryz.call246,fun x hx=>by unfold Q3; split <;> exact hx,fun w1 b x hb hg hv hs=>lT e n x w1 h0 h1 hv (Us h hb) (Us h2 hb)⟩
theorem At:Vu w (.func (.func 190) #[] #[]) Vn:=
 ⟨_,_,rfl,Tryz.call190,fun x hx=>by unfold Vn; split <;> exact hx,fun w1 b x hb hg hv hs=>q7 x w1 hv⟩
end
def Qn:List M3→M3
 | [],x=>(0,x)
 | e::es,x=>if(e x).1=0 then Qn es (e x).2 else((e x).1,Z9)
theorem mO {es:List M3}{k:Nat}{e:M3}{x:Yd}(h:es[k]?=some e) :Qn (es.drop k) x=if(e x).1=0 then Qn (es.drop (k+1)) (e x).2 else((e x).1,Z9):=by
 obtain ⟨hk,rfl⟩:=List.getElem?_eq_some_iff.1 h;rw [List.drop_eq_getElem_cons hk];rfl
def GX (w:Zc)(a:Option Addr)(es:List M3) :Prop:=
 ∃g off,a=some ⟨g,off,none⟩∧ ∀i e,es[i]?=some e→ ∃f,w.cell? ⟨g,off+i,none⟩=some f∧Vu w f e
theorem GX.below {w w':Zc}{a:Option Addr}{es:List M3}(h:GX w a es)(hb:Zt w.heap.size w w') :GX w' a es:=by
 obtain ⟨g,off,rfl,h⟩:=h;refine ⟨g,off,rfl,fun i e hi=>?_⟩;obtain ⟨f,h1,h2⟩:=h i e hi;exact ⟨f,(hb.cell (p:=⟨g,off+i,none⟩) (UH h1)).trans h1,h2.below hb⟩
theorem Ol (es:List M3)(a:Option Addr)(cap:Nat)(v:Yd)(w:Zc)(hv:PM v)(hlen:es.length≤1000)(hc:GX w a es) :
  Calls Zb 240 #[.agg (Zd v),.slice a es.length cap] w fun o w'=>o= .returned (.tuple #[.agg (Zd (Qn es v).2),.int .i64 (Qn es v).1])∧Zt w.heap.size w w':=by
 have HC:=Za hc;have HV:=Za hv;obtain ⟨len,hl⟩ : ∃len,es.length=len:=⟨_,rfl⟩;rw [hl] at hlen ⊢;have HLN:=Za hl;clear hc hv hl;go_enter Tryz.func240,Tryz.ntmps240;go_wp2;go_loopw [11] (fun s11 wr=> ∃(k:Nat) (x:Yd),k≤len∧s11= .int .i64 k∧Hid (Qn es v=Qn (es.drop k) x)∧Hid (PM x)∧Hid (VB wr w.heap.size x)∧Hid (VB wr (w.heap.size+1) Z9)∧Hid (Zt w.heap.size w wr)) (fun s11 _=>len -(intOf s11).toNat)
 case atStart=>
  refine ⟨0,v,by omega,rfl,Za rfl,HV,Za ?_,Za ?_,Za ?_⟩
  ·exact Zy.alloc (Zy.new w _ _) _
  ·have:=Zy.new (w.alloc (.cells (Zd v) 63)) 63 (Zd Z9);rw [show (w.alloc (.cells (Zd v) 63)).heap.size=w.heap.size+1 by simp] at this;exact this
  ·exact ((Below.refl _ _).alloc (Zg _) _).alloc ZO _
 case round=>
  obtain ⟨k,x,hk,rfl,HR,HS,HB,HZ,HW⟩:=hrel
  by_cases XJ:k < len
  ·obtain ⟨g,off,rfl,Dr⟩:=HC.out;obtain ⟨e,he⟩ : ∃e,es[k]?=some e:=⟨_,List.getElem?_eq_getElem (by rw [HLN.out]; exact XJ)⟩;obtain ⟨f,hf,hd⟩:=Dr k e he;obtain ⟨F,Dn,rfl,hen,Gm,BT⟩:=hd;have Gl:wr.cell? ⟨g,off+k,none⟩=some (.func (.func F) #[] Dn):=(HW.out.cell (p:=⟨g,off+k,none⟩) (UH hf)).trans hf;have HX:=Za (BT wr w.heap.size x HW.out (Zg _) HB.out HS.out);have HD:=Za (mO (x:=x) he);have HN:=Za (Gm x HS.out);clear Dr BT Gm hf;generalize hq:e x=q at HX HD HN;obtain ⟨cd,y⟩:=q;clear hq;simp only at HX HD HN
   by_cases h0:cd=0
   ·have HT:Hid (Qn es v=Qn (es.drop (k+1)) y):=Za (by rw [HR.out,HD.out,if_pos h0]);have Od:(cd != 0)=false:=by simpa using h0
    subst h0;go_wp2_with fail;refine HX.out.mono ?_;rintro o w2 ⟨rfl,Ph,Wg⟩;have K2:=Za (Bo HW.out Wg HW.out.size (Zg _));have Z2:=Za (Zy.grown HZ.out Wg ZO);have V2:=Za Ph;clear Ph Wg HX HW HZ HB HD HR Od;go_wp2;go_roundw
    case rel=>exact ⟨k+1,y,by omega,by go_num,HT,HN,V2,Z2,K2⟩
    case measure=>exact Uz
   ·have HT:Hid (Qn es v=(cd,Z9)):=Za (by rw [HR.out,HD.out,if_neg h0]);have Od:(cd != 0)=true:=by simpa using h0
    clear h0;go_wp2_with fail;refine HX.out.mono ?_;rintro o w2 ⟨rfl,Ph,Wg⟩;have K2:=Za (Bo HW.out Wg HW.out.size (Zg _));have Z2:=Za (Zy.grown HZ.out Wg ZO);clear Ph Wg HX HW HZ HB HD HR;go_wp2_with (first | (refine UQ rfl 63 _ rfl Z9 Yi ?_) | (refine wpList_store_row rfl _ _ _ rfl (w.heap.size+1) (Zd Z9) rfl rfl 63 _ Z2.out Yo rfl (Yy Z9) ?_));rw [HT.out];exact bodyPost_ret (v:= .tuple #[.agg (Zd Z9),.int .i64 cd]) (XN (fn:=Tryz.f240) rfl _ _ (w.heap.size+1) 63 _ (0,0) _ rfl (setRow_heap _ _ _ _ _ _ Z2.out) Zs rfl Yo) rfl ⟨rfl,below_setRow K2.out Zp _⟩
  ·obtain rfl:k=len:=by omega
   have HE:Hid (Qn es v=(0,x)):=Za (by rw [HR.out,List.drop_of_length_le (by rw [HLN.out]; exact Zg _)]; rfl);clear XJ;have XJ: ¬k < k:=by omega
   go_wp2_with (first | (refine wpList_load_row rfl 63 _ rfl w.heap.size rfl 63 _ (0,0) _ HB.out Zs rfl Yo ?_) | (refine wpList_store_row rfl _ _ _ rfl (w.heap.size+1) (Zd x) rfl rfl 63 _ HZ.out Yo rfl (Yy x) ?_));rw [HE.out];exact bodyPost_ret (v:= .tuple #[.agg (Zd x),.int .i64 0]) (XN (fn:=Tryz.f240) rfl _ _ (w.heap.size+1) 63 _ (0,0) _ rfl (setRow_heap _ _ _ _ _ _ HZ.out) Zs rfl Yo) rfl ⟨rfl,below_setRow HW.out Zp _⟩
end
end Go.Proofs.YtianiiijaopdpaaGreat
