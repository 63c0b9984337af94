/- Part 44 of 58: L14Batch. -/
import Derived.Test.YtianiiijaopdpaaGreatZu00
import Derived.Test.YtianiiijaopdpaaGreatZu27
import Derived.Test.YtianiiijaopdpaaGreatZu35
import Derived.LoopIn
import Derived.LoopNIn
import Derived.OwnWalkIn
import Derived.RangeFuncBox
import Derived.TacticsInMore
namespace Go.Proofs.YtianiiijaopdpaaGreat
set_option linter.unusedVariables false
set_option linter.unusedSimpArgs false
set_option maxRecDepth 100000
set_option maxHeartbeats 8000000
open _root_.And renaming intro → Zl
open _root_.Go.Lib renaming hid → Za
open _root_.List renaming getD_eq_getElem?_getD → Zq, getElem?_eq_getElem → Zf
open _root_.Go.Proofs.Tryz renaming prog → Zb
open _root_.Go renaming Value → Zo, World → Zc
open _root_.Go.Value renaming int → ZX
section
open Go Go.RowKit Go.Shelf
attribute [local go_sem] Oper.semAt_some
def da (X:List Int)(k:Nat) :Nat × Int:=(if k=0 then 0 else 1,XT X k)
section
variable {X:List Int} {lim:Int} {k:Nat}
theorem Zc8 (X:List Int)(k:Nat) :(da X k).1≤1000000000:=by unfold da; split <;> simp
theorem xZ (h:k < FQ lim X) :Vl lim (da X k) (X.getD k 0)=da X (k+1):=by
 cases k with
 | zero=>
  show Vl lim (0,0) (X.getD 0 0)=(1,XT X 0+X.getD 0 0);rw [Sa];simp [XT]
 | succ j=>
  have:=(RV lim X).2.1 (j+1) Zp h;show Vl lim (0+1,XT X (j+1)) (X.getD (j+1) 0)=(0+1,XT X (j+1)+X.getD (j+1) 0);rw [XT] at this;exact WX Zp
theorem Zc9 (h:k=FQ lim X)(hk:k < X.length) :((Vl lim (da X k) (X.getD k 0)).1:Int)=2:=by
 obtain ⟨h1,h2⟩:=(RV lim X).2.2 Zp;rw [←h] at h1 h2;obtain ⟨j,rfl⟩ : ∃j,k=j+1:=⟨k - 1,by omega⟩;rw [XT] at h2;show ((Vl lim (0+1,XT X (j+1)) (X.getD (j+1) 0)).1:Int)=2;rw [R9 h2];rfl
theorem xY (hX: ∀i,BQ (X.getD i 0))(hl:BQ lim)(h:k≤FQ lim X) :BQ (da X k).2:=by
 refine ⟨Bh (fun i=>(hX i).1) k,?_⟩;show XT X k≤_
 rcases k with _ | _ | k
 ·show (0:Int)≤_;decide
 ·have:=(hX 0).2;simp only [XT];omega
 ·have:=(RV lim X).2.1 (k+1) Zp Zp;have:=hl.2;omega
end
def ml (z:Nat) :Zo:= .func (.func 260) #[] #[.pointer (some ⟨z+4,0,none⟩),.pointer (some ⟨z,0,none⟩)]
structure Sq (w0:Zc)(b:Nat)(go:Option Nat)(sz:Nat)(L:List Int)(wv:Zo)(lim:Int)(p:Nat × Int)(k j:Nat)(W:Zc) :Prop where
 ring:RingAt 189 3 1 W b go sz (L.length - k) ((L.drop k).map (ZX .i64))
 bnd:P0 W (w0.heap.size+1) lim p
 fw:Zy W w0.heap.size 143 #[wv]
 fb:Zy W (w0.heap.size+4) 324 #[Ng (w0.heap.size+1)]
 fq:Zy W (w0.heap.size+6) 100 #[.pointer (some ⟨b,0,none⟩)]
 fn:Zy W (w0.heap.size+7) 147 #[ml w0.heap.size]
 out: ∃v,Boxed W (w0.heap.size+5) 47 v∧W.ownsRow (w0.heap.size+8) 3 1 v j ((L.take j).map (ZX .i64))∧True
 kept:Kept (Foot b go) w0 W
section
variable {w0 W W':Zc} {b:Nat} {go:Option Nat} {sz:Nat} {L:List Int} {wv:Zo} {lim:Int} {p q:Nat × Int} {k j:Nat} {S:Nat→Prop}
theorem RingAt.isCells {R E kk:Nat}{c:Nat}{Fs:List Zo}(h:RingAt R E kk W b go sz c Fs){i:Nat}(hi:Foot b go i) : ∃cs t,Zy W i t cs:=by
 obtain ⟨_,_,⟨rfl,_,h1,_⟩ | ⟨g',n,f,C,rfl,⟨h1,h2,_⟩,_⟩⟩:=h
 ·rcases hi with rfl | h
  ·exact ⟨_,_,h1⟩
  ·cases h
 ·rcases hi with rfl | h
  ·exact ⟨_,_,h1⟩
  ·injection h with h;subst h;exact ⟨_,_,h2⟩
theorem FA {base e size n:Nat}{v:Zo}{xs:List Zo}(h:W.ownsRow base e size v n xs)(hs: ∀i,v.ownBlock=some i→W'.heap[i]?=W.heap[i]?) :W'.ownsRow base e size v n xs:=by
 refine ⟨h.1,?_⟩
 rcases h.2 with ⟨h1,h2⟩ | ⟨g,cp,cur,rfl,r⟩
 ·exact .inl ⟨h1,h2⟩
 ·refine .inr ⟨g,cp,cur,rfl,r.1,?_,r.2.2⟩;rw [hs g rfl];exact r.2.1
theorem Ul {row:Option Nat}{g t:Nat}{cs:Array Zo}(h:Zy W g t cs)(hg:W.grownBy W' row)(hr: ∀r,row=some r→ ∃o:Obj,W.heap[r]?=some o∧o.isCells=false) :Zy W' g t cs:=
 h.grown hg (fun e=>by obtain ⟨o,ho,hc⟩:=hr g e.symm; rw [show W.heap[g]?=_ from h] at ho; cases ho; cases hc)
theorem Sq.turn {row:Option Nat}(h:Sq w0 b go sz L wv lim p k j W)(hg:W.grownBy W' row)(hr: ∀r,row=some r→w0.heap.size≤r∧ ∃o:Obj,W.heap[r]?=some o∧o.isCells=false) :Sq w0 b go sz L wv lim p k j W':=by
 have MF: ∀r,row=some r→ ∃o:Obj,W.heap[r]?=some o∧o.isCells=false:=fun r e=>(hr r e).2
 have K:Kept (fun i=>row=some i) W W':=Kept.of_grown hg (fun i e=>e.symm);refine ⟨h.ring.kept K (fun i hi e=>?_),⟨Ul h.bnd.1 hg MF,Ul h.bnd.2.1 hg MF,Ul h.bnd.2.2 hg MF⟩,Ul h.fw hg MF,Ul h.fb hg MF,Ul h.fq hg MF,Ul h.fn hg MF,?_,h.kept.trans K (fun i hi e=>by have:=(hr i e).1; omega)⟩
 ·obtain ⟨cs,t,hb⟩:=h.ring.isCells hi;obtain ⟨o,ho,hc⟩:=MF i e;rw [show W.heap[i]?=_ from hb] at ho; cases ho; cases hc
 ·exact holdsRow_own (β:=Unit) _ _ _ _ _ (fun _=>j) (fun _=>(L.take j).map (ZX .i64)) (fun _ _=>True) () W W' row h.out hg MF
theorem Sq.own {B:Nat}(hB:w0.heap.size≤B)(f:Nat→Nat × Int)(kk jj:Nat→Nat) :OwnFrom B (fun s W=>Sq w0 b go sz L wv lim (f s) (kk s) (jj s) W):=fun s A B' row h hg hr=>h.turn hg (fun r e=>⟨by have:=(hr r e).1; omega,(hr r e).2⟩)
theorem Sq.drewN (h:Sq w0 b go sz L wv lim p k j W)(m:Nat) :Sq w0 b go sz L wv lim p k j (W.drewN m):=h.turn (VM (JV W none) m) (fun r e=>by cases e)
theorem Sq.foot (h:Sq w0 b go sz L wv lim p k j W)(XJ: ∀i,Foot b go i→i < w0.heap.size){i:Nat}(hi:w0.heap.size≤i) : ¬Foot b go i:=fun e=>by have:=XJ i e; omega
theorem Sq.count (h:Sq w0 b go sz L wv lim p k j W)(XJ: ∀i,Foot b go i→i < w0.heap.size)(hb:P0 W' (w0.heap.size+1) lim q)(K:Kept (fun i=>i=w0.heap.size+1+1∨i=w0.heap.size+1+2) W W') :Sq w0 b go sz L wv lim q k j W':=by
 refine ⟨h.ring.kept K (fun i hi e=>by have:=XJ i hi; omega),hb,h.fw.kept K Zp,h.fb.kept K Zp,h.fq.kept K Zp,h.fn.kept K Zp,?_,h.kept.trans K (fun i hi e=>by omega)⟩;obtain ⟨v,h1,h2,-⟩:=h.out;exact ⟨v,(K.block _ (Boxed.lt h1) Zp).trans h1,FA h2 (fun i hi=>K.block i (h2.lt i hi).2 (by have:=(h2.lt i hi).1; omega)),trivial⟩
theorem Sq.pop (h:Sq w0 b go sz L wv lim p k j W)(XJ: ∀i,Foot b go i→i < w0.heap.size)(hr:RingAt 189 3 1 W' b go sz (L.length -(k+1)) ((L.drop (k+1)).map (ZX .i64)))(K:Kept (Foot b go) W W') :Sq w0 b go sz L wv lim p (k+1) j W':=by
 have nf: ∀d,¬Foot b go (w0.heap.size+d):=fun d=>h.foot XJ Zp
 refine ⟨hr,h.bnd.kept K (fun i h1 h2=>h.foot XJ Zp),h.fw.kept K (nf 0),h.fb.kept K (nf 4),h.fq.kept K (nf 6),h.fn.kept K (nf 7),?_,h.kept.trans K (fun i hi e=>e)⟩;obtain ⟨v,h1,h2,-⟩:=h.out;exact ⟨v,(K.block _ (Boxed.lt h1) (nf 5)).trans h1,FA h2 (fun i hi=>K.block i (h2.lt i hi).2 (h.foot XJ (by have:=(h2.lt i hi).1; omega))),trivial⟩
theorem ZfG {a:Option Addr}{Lw:List Int}(h:Sq w0 b go sz L wv lim p k j W)(hu:N9 w0 (Foot b go) a Lw) :N9 W (Foot b go) a Lw:=hu.kept h.kept (fun _ _ e=>e)
theorem Ad {L:List Int}{k:Nat}(hk:k < L.length) :(L.drop k).map (ZX .i64)= .int .i64 (L.getD k 0)::(L.drop (k+1)).map (ZX .i64):=by
 rw [List.drop_eq_getElem_cons hk,List.map_cons,Zq,Zf hk];rfl
end
section
variable {w0:Zc} {b:Nat} {go:Option Nat} {sz:Nat} {L Lw:List Int} {a:Option Addr} {cap:Nat} {lim:Int}
theorem kN (F:Fence)(n:Nat)(tJ:F=Fence.wide)(hn:3≤n)(l:Nat)(Bk:Zc→Prop)(B0:Nat)(hB0:w0.heap.size+8≤B0)(vM: ∀A B,KeepsFrom B0 A B→Bk A→Bk B)(XJ: ∀i,Foot b go i→i < w0.heap.size)
  (hu:N9 w0 (Foot b go) a Lw) (hL:Lw.length≤9223372036854775807) (hA:LX Lw) (hl:BQ lim) (hLL:L.length≤1048576)
  (hY: ∀(x:Nat) W,Bk W→x < FQ lim (L.map (Kz Lw))∧Sq w0 b go sz L (.slice a Lw.length cap) lim (da (L.map (Kz Lw)) (x+1)) (x+1) x W→YieldAt F (n - 1) Zb l #[.int .i64 (L.getD x 0)] W fun e W'=>e= .returned (.bool true)∧Bk W'∧x < FQ lim (L.map (Kz Lw))∧Sq w0 b go sz L (.slice a Lw.length cap) lim (da (L.map (Kz Lw)) (x+1)) (x+1) (x+1) W')
  (W:Zc) (h0:Bk W) (hS:Sq w0 b go sz L (.slice a Lw.length cap) lim (da (L.map (Kz Lw)) 0) 0 0 W) :
  CallsIn F n Zb 295 #[.func (.yield l) #[] #[],.pointer (some ⟨w0.heap.size+6,0,none⟩),.pointer (some ⟨w0.heap.size+7,0,none⟩)] W fun e W'=>(∃v,e= .returned v)∧Bk W'∧
   ∃q,Sq w0 b go sz L (.slice a Lw.length cap) lim q (FQ lim (L.map (Kz Lw))) (FQ lim (L.map (Kz Lw))) W':=by
 have h1:1≤n:=by omega
 have Pf:F.round=none:=by rw [tJ]; rfl
 have hf: ∀k,F.fn k:=fun k=>by rw [tJ]; trivial
 have HC:Hid (∀(f n:Nat) (args:Array Zo) (w:Zc) (R:Ending→Zc→Prop),Calls Zb f args w R→CallsIn F n Zb f args w R):=Za (fun f n args w R h=>by rw [tJ]; exact callsIn_wide.2 h);have hXl:(L.map (Kz Lw)).length=L.length:=List.length_map ..;have hXg: ∀k,k < L.length→(L.map (Kz Lw)).getD k 0=Kz Lw (L.getD k 0):=fun k hk=>by
  rw [Zq,List.getElem?_map,Zq,Zf hk]; rfl
 have hXa: ∀i,BQ ((L.map (Kz Lw)).getD i 0):=fun i=>aj (fun i=>NV hA i) i
 obtain ⟨X,hX⟩ : ∃X,L.map (Kz Lw)=X:=⟨_,rfl⟩;rw [hX] at hY hS hXl hXg hXa ⊢;have Mf:FQ lim X≤L.length:=by rw [←hXl]; exact Cl X
 have HY:=Za hY;have tA:=Za vM;have HU:=Za hu;have HSS:=Za hS;have HXg:=Za hXg;have uG:=Za XJ;have HX:=Za (Zl hXl (Zl hXa (Zl hA hl)));clear tJ hY vM hu hS hXl hXg hXa hX XJ hA hl;refine callsIn_of_wp Tryz.func295 rfl (hf _) ?_ Pf;simp only [Tryz.ntmps295,List.size_toArray,List.length_cons,List.length_nil,Nat.reduceAdd,Nat.reduceSub,Array.replicate_succ,Array.replicate_zero,List.push_toArray,List.append_toArray,List.nil_append,List.cons_append]
 gi_wp2
 gi_loopw [4] (fun s4 wr=> ∃k:Nat,k≤FQ lim X∧Bk wr∧Hid (Sq w0 b go sz L (.slice a Lw.length cap) lim (da X k) k k wr)) (fun _ wr=>match wr.cell? ⟨b,3,none⟩ with | some v=>(intOf v).toNat | none=>0)
 case atStart=>exact ⟨0,Nat.zero_le _,h0,HSS⟩
 case round=>
  obtain ⟨k,hk,hbk,HSK⟩:=hrel;have hs:=HSK.out;have x1:=hs.fq.cell 0;have x2:wr.cell? ⟨w0.heap.size+7,0,none⟩=some (.func (.func 260) #[] #[.pointer (some ⟨w0.heap.size+4,0,none⟩),.pointer (some ⟨w0.heap.size,0,none⟩)]):=hs.fn.cell 0;have x3:=hs.ring.cells.2
  by_cases XJ:k < L.length
  ·have dN:=Za (MM b sz (L.length - k) 0 go _ (.int .i64 (L.getD k 0)) wr hs.ring (by rw [Ad XJ]; rfl));have uI:=Za (fun m=>wW (cap:=cap) (w0.heap.size+4) w0.heap.size (L.getD k 0) (wr.drewN m) hs.fb hs.fw (N9.drewN (ZfG hs HU.out) m) hL HX.out.2.2.1 hs.bnd (xY HX.out.2.1 HX.out.2.2.2 hk) HX.out.2.2.2 (Zc8 X k));rw [←HXg.out k XJ] at uI;have HKL:=Za XJ
   by_cases hb:k=FQ lim X
   ·have ql:(((Vl lim (da X k) (X.getD k 0)).1:Int)==1)=false:=by rw [Zc9 hb (by rw [HX.out.1]; exact XJ)]; rfl
    rw [ql] at uI;generalize Vl lim (da X k) (X.getD k 0)=q at uI;obtain ⟨y,hy⟩ : ∃y,L.getD k 0=y:=⟨_,rfl⟩;rw [hy] at uI dN;clear ql hs x3 XJ hy HY HXg
    gi_wp2_with (first | (gi_at_call 296; refine (HC.out _ _ _ _ _ dN.out).mono ?_; rintro e w1 ⟨rfl,m1,rfl⟩) | (gi_at_call 260; refine (HC.out _ _ _ _ _ (uI.out m1)).mono ?_; rintro e w2 ⟨rfl,Gk,lQ⟩))
    refine bodyPost_ret (results_none rfl _ _ _) rfl ?_;have nN:Kept (fun i=>i=w0.heap.size+1+1∨i=w0.heap.size+1+2) wr w2:=((Kept.refl _ wr).drewN m1).trans lQ (fun _ _ e=>e);exact ⟨⟨_,rfl⟩,tA.out _ _ (Dw nN (fun i hi=>by omega)) hbk,q,hb▸HSK.out.count uG.out Gk nN⟩
   ·have nP:k < FQ lim X:=by omega
    rw [xZ nP] at uI;have ql:(((da X (k+1)).1:Int)==1)=true:=rfl;rw [ql] at uI;obtain ⟨c,hc⟩ : ∃c,L.length -(k+1)=c:=⟨_,rfl⟩;have Ns:L.length - k=c+1:=by omega
    have HPP:=Za (fun (w3:Zc) (h3:RingAt 189 3 1 w3 b go sz (L.length - k) ((L.drop k).map (ZX .i64)))=>OJ b sz c go ((L.drop (k+1)).map (ZX .i64)) (.int .i64 (L.getD k 0)) w3 (by rw [Ns,Ad XJ] at h3; exact h3));have yU:=Za hc;have HYK:=Za (HY.out k);have HKB:=Za nP;obtain ⟨y,hy⟩ : ∃y,L.getD k 0=y:=⟨_,rfl⟩;rw [hy] at uI dN HPP HYK;have jh: ∀(w3:Zc),Kept (fun i=>i=w0.heap.size+1+1∨i=w0.heap.size+1+2) wr w3→w3.cell? ⟨w0.heap.size+6,0,none⟩=some (.pointer (some ⟨b,0,none⟩)):=fun w3 h3=>h3.cell (p:=⟨w0.heap.size+6,0,none⟩) ZO x1
    have HKW:=Za jh;clear ql hs x3 XJ hy HY HXg hc Ns hb nP jh
    gi_wp2_with (first | (gi_at_call 296; refine (HC.out _ _ _ _ _ dN.out).mono ?_; rintro e w1 ⟨rfl,m1,rfl⟩) | (gi_at_call 260; refine (HC.out _ _ _ _ _ (uI.out m1)).mono ?_; rintro e w2 ⟨rfl,Gk,lQ⟩; have nN:Kept (fun i=>i=w0.heap.size+1+1∨i=w0.heap.size+1+2) wr w2:=((Kept.refl _ wr).drewN m1).trans lQ (fun _ _ e=>e); have M4:=Za (HSK.out.count uG.out Gk nN); have x4:=HKW.out w2 nN) | (gi_at_call 297; refine (HC.out _ _ _ _ _ (HPP.out w2 M4.out.ring)).mono ?_; rintro e w4 ⟨rfl,hr4,zJ⟩; obtain ⟨fn,tmps,assign,body,hy,hR⟩:=HYK.out w4 (tA.out _ _ (Dw zJ (fun i hi e=>by have:=uG.out i e; omega)) (tA.out _ _ (Dw nN (fun i hi=>by omega)) hbk)) ⟨HKB.out,M4.out.pop uG.out (by rw [yU.out]; exact hr4) zJ⟩))
    refine hR.mono ?_;rintro e w5 ⟨rfl,hb5,-,hs5⟩
    gi_wp2
    go_roundw
    case rel=>exact ⟨k+1,by have:=HKB.out; omega,hb5,Za hs5⟩
    case measure=>
     rw [hs5.ring.cells.2,HSK.out.ring.cells.2];have:=HKL.out;exact Uz
  ·obtain rfl:k=FQ lim X:=by omega
   have hz:L.length - FQ lim X=0:=by omega
   rw [hz] at x3;have dN:=Za (Ld b 0 0 wr x3 Zp);clear hs x3 hz XJ
   gi_wp2_with (gi_at_call 296; refine (HC.out _ _ _ _ _ dN.out).mono ?_; rintro e w1 ⟨rfl,rfl⟩)
   refine bodyPost_ret (results_none rfl _ _ _) rfl ?_;exact ⟨⟨_,rfl⟩,hbk,_,HSK.out⟩
end
end
end Go.Proofs.YtianiiijaopdpaaGreat
