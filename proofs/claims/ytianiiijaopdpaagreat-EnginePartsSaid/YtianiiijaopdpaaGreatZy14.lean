/- Part 14 of 29: L14Batch. -/
import Derived.Test.YtianiiijaopdpaaGreatZy00
import Derived.Test.YtianiiijaopdpaaGreatZy08
import Derived.Test.YtianiiijaopdpaaGreatZy12
import Derived.LoopIn
import Derived.LoopNIn
import Derived.OwnWalkIn
import Derived.RangeFuncBox
import Derived.TacticsInMore
namespace Go.Proofs.YtianiiijaopdpaaGreat
set_option linter.unusedVariables false
set_option linter.unusedSimpArgs false
set_option maxRecDepth 100000
set_option maxHeartbeats 8000000
open _root_.And renaming intro → Zh
open _root_.Go.Lib renaming hid → Za
open _root_.List renaming getD_eq_getElem?_getD → Zq, getElem?_eq_getElem → Zf
open _root_.Go.Proofs.Tryz renaming prog → Zb
open _root_.Go renaming Value → Zl, World → Zc
open _root_.Go.Value renaming int → ZR
section
open Go Go.RowKit Go.Shelf
attribute [local go_sem] Oper.semAt_some
def cv (X:List Int)(k:Nat) :Nat × Int:=(if k=0 then 0 else 1,QB X k)
section
variable {X:List Int} {lim:Int} {k:Nat}
theorem Zce (X:List Int)(k:Nat) :(cv X k).1≤1000000000:=by unfold cv; split <;> simp
theorem xb (h:k < FW lim X) :VD lim (cv X k) (X.getD k 0)=cv X (k+1):=by
 cases k with
 | zero=>
  show VD lim (0,0) (X.getD 0 0)=(1,QB X 0+X.getD 0 0);rw [RO];simp [QB]
 | succ j=>
  have:=(RJ lim X).2.1 (j+1) Zm h;show VD lim (0+1,QB X (j+1)) (X.getD (j+1) 0)=(0+1,QB X (j+1)+X.getD (j+1) 0);rw [QB] at this;exact WG Zm
theorem Zcf (h:k=FW lim X)(hk:k < X.length) :((VD lim (cv X k) (X.getD k 0)).1:Int)=2:=by
 obtain ⟨h1,h2⟩:=(RJ lim X).2.2 Zm;rw [←h] at h1 h2;obtain ⟨j,rfl⟩ : ∃j,k=j+1:=⟨k - 1,by omega⟩;rw [QB] at h2;show ((VD lim (0+1,QB X (j+1)) (X.getD (j+1) 0)).1:Int)=2;rw [RN h2];rfl
theorem wZ (hX: ∀i,BU (X.getD i 0))(hl:BU lim)(h:k≤FW lim X) :BU (cv X k).2:=by
 refine ⟨Df (fun i=>(hX i).1) k,?_⟩;show QB X k≤_
 rcases k with _ | _ | k
 ·show (0:Int)≤_;decide
 ·have:=(hX 0).2;simp only [QB];omega
 ·have:=(RJ lim X).2.1 (k+1) Zm Zm;have:=hl.2;omega
end
def lv (z:Nat) :Zl:= .func (.func 260) #[] #[.pointer (some ⟨z+4,0,none⟩),.pointer (some ⟨z,0,none⟩)]
structure Sq (w0:Zc)(b:Nat)(go:Option Nat)(sz:Nat)(L:List Int)(wv:Zl)(lim:Int)(p:Nat × Int)(k j:Nat)(W:Zc) :Prop where
 ring:RingAt 189 3 1 W b go sz (L.length - k) ((L.drop k).map (ZR .i64))
 bnd:PV W (w0.heap.size+1) lim p
 fw:Blk W w0.heap.size 143 #[wv]
 fb:Blk W (w0.heap.size+4) 324 #[Na (w0.heap.size+1)]
 fq:Blk W (w0.heap.size+6) 100 #[.pointer (some ⟨b,0,none⟩)]
 fn:Blk W (w0.heap.size+7) 147 #[lv w0.heap.size]
 out: ∃v,Boxed W (w0.heap.size+5) 47 v∧W.ownsRow (w0.heap.size+8) 3 1 v j ((L.take j).map (ZR .i64))∧True
 kept:Kept (Foot b go) w0 W
section
variable {w0 W W':Zc} {b:Nat} {go:Option Nat} {sz:Nat} {L:List Int} {wv:Zl} {lim:Int} {p q:Nat × Int} {k j:Nat} {S:Nat→Prop}
theorem RingAt.isCells {R E kk:Nat}{c:Nat}{Fs:List Zl}(h:RingAt R E kk W b go sz c Fs){i:Nat}(hi:Foot b go i) : ∃cs t,Blk W i t cs:=by
 obtain ⟨_,_,⟨rfl,_,h1,_⟩ | ⟨g',n,f,C,rfl,⟨h1,h2,_⟩,_⟩⟩:=h
 ·rcases hi with rfl | h
  ·exact ⟨_,_,h1⟩
  ·cases h
 ·rcases hi with rfl | h
  ·exact ⟨_,_,h1⟩
  ·injection h with h;subst h;exact ⟨_,_,h2⟩
theorem FE {base e size n:Nat}{v:Zl}{xs:List Zl}(h:W.ownsRow base e size v n xs)(hs: ∀i,v.ownBlock=some i→W'.heap[i]?=W.heap[i]?) :W'.ownsRow base e size v n xs:=by
 refine ⟨h.1,?_⟩
 rcases h.2 with ⟨h1,h2⟩ | ⟨g,cp,cur,rfl,r⟩
 ·exact .inl ⟨h1,h2⟩
 ·refine .inr ⟨g,cp,cur,rfl,r.1,?_,r.2.2⟩;rw [hs g rfl];exact r.2.1
theorem Uu {row:Option Nat}{g t:Nat}{cs:Array Zl}(h:Blk W g t cs)(hg:W.grownBy W' row)(hr: ∀r,row=some r→ ∃o:Obj,W.heap[r]?=some o∧o.isCells=false) :Blk W' g t cs:=
 h.grown hg (fun e=>by obtain ⟨o,ho,hc⟩:=hr g e.symm; rw [show W.heap[g]?=_ from h] at ho; cases ho; cases hc)
theorem Sq.turn {row:Option Nat}(h:Sq w0 b go sz L wv lim p k j W)(hg:W.grownBy W' row)(hr: ∀r,row=some r→w0.heap.size≤r∧ ∃o:Obj,W.heap[r]?=some o∧o.isCells=false) :Sq w0 b go sz L wv lim p k j W':=by
 have L5: ∀r,row=some r→ ∃o:Obj,W.heap[r]?=some o∧o.isCells=false:=fun r e=>(hr r e).2
 have K:Kept (fun i=>row=some i) W W':=Kept.of_grown hg (fun i e=>e.symm);refine ⟨h.ring.kept K (fun i hi e=>?_),⟨Uu h.bnd.1 hg L5,Uu h.bnd.2.1 hg L5,Uu h.bnd.2.2 hg L5⟩,Uu h.fw hg L5,Uu h.fb hg L5,Uu h.fq hg L5,Uu h.fn hg L5,?_,h.kept.trans K (fun i hi e=>by have:=(hr i e).1; omega)⟩
 ·obtain ⟨cs,t,hb⟩:=h.ring.isCells hi;obtain ⟨o,ho,hc⟩:=L5 i e;rw [show W.heap[i]?=_ from hb] at ho; cases ho; cases hc
 ·exact holdsRow_own (β:=Unit) _ _ _ _ _ (fun _=>j) (fun _=>(L.take j).map (ZR .i64)) (fun _ _=>True) () W W' row h.out hg L5
theorem Sq.own {B:Nat}(hB:w0.heap.size≤B)(f:Nat→Nat × Int)(kk jj:Nat→Nat) :OwnFrom B (fun s W=>Sq w0 b go sz L wv lim (f s) (kk s) (jj s) W):=fun s A B' row h hg hr=>h.turn hg (fun r e=>⟨by have:=(hr r e).1; omega,(hr r e).2⟩)
theorem Sq.drewN (h:Sq w0 b go sz L wv lim p k j W)(m:Nat) :Sq w0 b go sz L wv lim p k j (W.drewN m):=h.turn (VW (J2 W none) m) (fun r e=>by cases e)
theorem Sq.foot (h:Sq w0 b go sz L wv lim p k j W)(XP: ∀i,Foot b go i→i < w0.heap.size){i:Nat}(hi:w0.heap.size≤i) : ¬Foot b go i:=fun e=>by have:=XP i e; omega
theorem Sq.count (h:Sq w0 b go sz L wv lim p k j W)(XP: ∀i,Foot b go i→i < w0.heap.size)(hb:PV W' (w0.heap.size+1) lim q)(K:Kept (fun i=>i=w0.heap.size+1+1∨i=w0.heap.size+1+2) W W') :Sq w0 b go sz L wv lim q k j W':=by
 refine ⟨h.ring.kept K (fun i hi e=>by have:=XP i hi; omega),hb,h.fw.kept K Zm,h.fb.kept K Zm,h.fq.kept K Zm,h.fn.kept K Zm,?_,h.kept.trans K (fun i hi e=>by omega)⟩;obtain ⟨v,h1,h2,-⟩:=h.out;exact ⟨v,(K.block _ (Boxed.lt h1) Zm).trans h1,FE h2 (fun i hi=>K.block i (h2.lt i hi).2 (by have:=(h2.lt i hi).1; omega)),trivial⟩
theorem Sq.pop (h:Sq w0 b go sz L wv lim p k j W)(XP: ∀i,Foot b go i→i < w0.heap.size)(hr:RingAt 189 3 1 W' b go sz (L.length -(k+1)) ((L.drop (k+1)).map (ZR .i64)))(K:Kept (Foot b go) W W') :Sq w0 b go sz L wv lim p (k+1) j W':=by
 have nf: ∀d,¬Foot b go (w0.heap.size+d):=fun d=>h.foot XP Zm
 refine ⟨hr,h.bnd.kept K (fun i h1 h2=>h.foot XP Zm),h.fw.kept K (nf 0),h.fb.kept K (nf 4),h.fq.kept K (nf 6),h.fn.kept K (nf 7),?_,h.kept.trans K (fun i hi e=>e)⟩;obtain ⟨v,h1,h2,-⟩:=h.out;exact ⟨v,(K.block _ (Boxed.lt h1) (nf 5)).trans h1,FE h2 (fun i hi=>K.block i (h2.lt i hi).2 (h.foot XP (by have:=(h2.lt i hi).1; omega))),trivial⟩
theorem Ze2 {a:Option Addr}{Lw:List Int}(h:Sq w0 b go sz L wv lim p k j W)(hu:NY w0 (Foot b go) a Lw) :NY W (Foot b go) a Lw:=hu.kept h.kept (fun _ _ e=>e)
theorem WN {L:List Int}{k:Nat}(hk:k < L.length) :(L.drop k).map (ZR .i64)= .int .i64 (L.getD k 0)::(L.drop (k+1)).map (ZR .i64):=by
 rw [List.drop_eq_getElem_cons hk,List.map_cons,Zq,Zf hk];rfl
end
section
variable {w0:Zc} {b:Nat} {go:Option Nat} {sz:Nat} {L Lw:List Int} {a:Option Addr} {cap:Nat} {lim:Int}
theorem jR (F:Fence)(n:Nat)(sP:F=Fence.wide)(hn:3≤n)(l:Nat)(Bk:Zc→Prop)(B0:Nat)(hB0:w0.heap.size+8≤B0)(uY: ∀A B,KeepsFrom B0 A B→Bk A→Bk B)(XP: ∀i,Foot b go i→i < w0.heap.size)
  (hu:NY w0 (Foot b go) a Lw) (hL:Lw.length≤9223372036854775807) (hA:LZ Lw) (hl:BU lim) (hLL:L.length≤1048576)
  (hY: ∀(x:Nat) W,Bk W→x < FW lim (L.map (KM Lw))∧Sq w0 b go sz L (.slice a Lw.length cap) lim (cv (L.map (KM Lw)) (x+1)) (x+1) x W→YieldAt F (n - 1) Zb l #[.int .i64 (L.getD x 0)] W fun e W'=>e= .returned (.bool true)∧Bk W'∧x < FW lim (L.map (KM Lw))∧Sq w0 b go sz L (.slice a Lw.length cap) lim (cv (L.map (KM Lw)) (x+1)) (x+1) (x+1) W')
  (W:Zc) (h0:Bk W) (hS:Sq w0 b go sz L (.slice a Lw.length cap) lim (cv (L.map (KM Lw)) 0) 0 0 W) :
  CallsIn F n Zb 295 #[.func (.yield l) #[] #[],.pointer (some ⟨w0.heap.size+6,0,none⟩),.pointer (some ⟨w0.heap.size+7,0,none⟩)] W fun e W'=>(∃v,e= .returned v)∧Bk W'∧
   ∃q,Sq w0 b go sz L (.slice a Lw.length cap) lim q (FW lim (L.map (KM Lw))) (FW lim (L.map (KM Lw))) W':=by
 have h1:1≤n:=by omega
 have O4:F.round=none:=by rw [sP]; rfl
 have hf: ∀k,F.fn k:=fun k=>by rw [sP]; trivial
 have HC:Hid (∀(f n:Nat) (args:Array Zl) (w:Zc) (R:Ending→Zc→Prop),Calls Zb f args w R→CallsIn F n Zb f args w R):=Za (fun f n args w R h=>by rw [sP]; exact callsIn_wide.2 h);have hXl:(L.map (KM Lw)).length=L.length:=List.length_map ..;have hXg: ∀k,k < L.length→(L.map (KM Lw)).getD k 0=KM Lw (L.getD k 0):=fun k hk=>by
  rw [Zq,List.getElem?_map,Zq,Zf hk]; rfl
 have hXa: ∀i,BU ((L.map (KM Lw)).getD i 0):=fun i=>IL (fun i=>NO hA i) i
 obtain ⟨X,hX⟩ : ∃X,L.map (KM Lw)=X:=⟨_,rfl⟩;rw [hX] at hY hS hXl hXg hXa ⊢;have O0:FW lim X≤L.length:=by rw [←hXl]; exact A6 X
 have HY:=Za hY;have sG:=Za uY;have HU:=Za hu;have HSS:=Za hS;have HXg:=Za hXg;have tK:=Za XP;have HX:=Za (Zh hXl (Zh hXa (Zh hA hl)));clear sP hY uY hu hS hXl hXg hXa hX XP hA hl;refine callsIn_of_wp Tryz.func295 rfl (hf _) ?_ O4;simp only [Tryz.ntmps295,List.size_toArray,List.length_cons,List.length_nil,Nat.reduceAdd,Nat.reduceSub,Array.replicate_succ,Array.replicate_zero,List.push_toArray,List.append_toArray,List.nil_append,List.cons_append]
 gi_wp2
 gi_loopw [4] (fun s4 wr=> ∃k:Nat,k≤FW lim X∧Bk wr∧Hid (Sq w0 b go sz L (.slice a Lw.length cap) lim (cv X k) k k wr)) (fun _ wr=>match wr.cell? ⟨b,3,none⟩ with | some v=>(intOf v).toNat | none=>0)
 case atStart=>exact ⟨0,Nat.zero_le _,h0,HSS⟩
 case round=>
  obtain ⟨k,hk,hbk,HSK⟩:=hrel;have hs:=HSK.out;have x1:=hs.fq.cell 0;have x2:wr.cell? ⟨w0.heap.size+7,0,none⟩=some (.func (.func 260) #[] #[.pointer (some ⟨w0.heap.size+4,0,none⟩),.pointer (some ⟨w0.heap.size,0,none⟩)]):=hs.fn.cell 0;have x3:=hs.ring.cells.2
  by_cases XP:k < L.length
  ·have mJ:=Za (MK b sz (L.length - k) 0 go _ (.int .i64 (L.getD k 0)) wr hs.ring (by rw [WN XP]; rfl));have tN:=Za (fun m=>vS (cap:=cap) (w0.heap.size+4) w0.heap.size (L.getD k 0) (wr.drewN m) hs.fb hs.fw (NY.drewN (Ze2 hs HU.out) m) hL HX.out.2.2.1 hs.bnd (wZ HX.out.2.1 HX.out.2.2.2 hk) HX.out.2.2.2 (Zce X k));rw [←HXg.out k XP] at tN;have HKL:=Za XP
   by_cases hb:k=FW lim X
   ·have pz:(((VD lim (cv X k) (X.getD k 0)).1:Int)==1)=false:=by rw [Zcf hb (by rw [HX.out.1]; exact XP)]; rfl
    rw [pz] at tN;generalize VD lim (cv X k) (X.getD k 0)=q at tN;obtain ⟨y,hy⟩ : ∃y,L.getD k 0=y:=⟨_,rfl⟩;rw [hy] at tN mJ;clear pz hs x3 XP hy HY HXg
    gi_wp2_with (first | (gi_at_call 296; refine (HC.out _ _ _ _ _ mJ.out).mono ?_; rintro e w1 ⟨rfl,m1,rfl⟩) | (gi_at_call 260; refine (HC.out _ _ _ _ _ (tN.out m1)).mono ?_; rintro e w2 ⟨rfl,GJ,kQ⟩))
    refine rK ?_;have mQ:Kept (fun i=>i=w0.heap.size+1+1∨i=w0.heap.size+1+2) wr w2:=((Kept.refl _ wr).drewN m1).trans kQ (fun _ _ e=>e);exact ⟨⟨_,rfl⟩,sG.out _ _ (Dx mQ (fun i hi=>by omega)) hbk,q,hb▸HSK.out.count tK.out GJ mQ⟩
   ·have mS:k < FW lim X:=by omega
    rw [xb mS] at tN;have pz:(((cv X (k+1)).1:Int)==1)=true:=rfl;rw [pz] at tN;obtain ⟨c,hc⟩ : ∃c,L.length -(k+1)=c:=⟨_,rfl⟩;have Om:L.length - k=c+1:=by omega
    have HPP:=Za (fun (w3:Zc) (h3:RingAt 189 3 1 w3 b go sz (L.length - k) ((L.drop k).map (ZR .i64)))=>Oy b sz c go ((L.drop (k+1)).map (ZR .i64)) (.int .i64 (L.getD k 0)) w3 (by rw [Om,WN XP] at h3; exact h3));have xY:=Za hc;have HYK:=Za (HY.out k);have HKB:=Za mS;obtain ⟨y,hy⟩ : ∃y,L.getD k 0=y:=⟨_,rfl⟩;rw [hy] at tN mJ HPP HYK;have iz: ∀(w3:Zc),Kept (fun i=>i=w0.heap.size+1+1∨i=w0.heap.size+1+2) wr w3→w3.cell? ⟨w0.heap.size+6,0,none⟩=some (.pointer (some ⟨b,0,none⟩)):=fun w3 h3=>h3.cell (p:=⟨w0.heap.size+6,0,none⟩) ZI x1
    have HKW:=Za iz;clear pz hs x3 XP hy HY HXg hc Om hb mS iz
    gi_wp2_with (first | (gi_at_call 296; refine (HC.out _ _ _ _ _ mJ.out).mono ?_; rintro e w1 ⟨rfl,m1,rfl⟩) | (gi_at_call 260; refine (HC.out _ _ _ _ _ (tN.out m1)).mono ?_; rintro e w2 ⟨rfl,GJ,kQ⟩; have mQ:Kept (fun i=>i=w0.heap.size+1+1∨i=w0.heap.size+1+2) wr w2:=((Kept.refl _ wr).drewN m1).trans kQ (fun _ _ e=>e); have mX:=Za (HSK.out.count tK.out GJ mQ); have x4:=HKW.out w2 mQ) | (gi_at_call 297; refine (HC.out _ _ _ _ _ (HPP.out w2 mX.out.ring)).mono ?_; rintro e w4 ⟨rfl,hr4,yP⟩; obtain ⟨fn,tmps,assign,body,hy,hR⟩:=HYK.out w4 (sG.out _ _ (Dx yP (fun i hi e=>by have:=tK.out i e; omega)) (sG.out _ _ (Dx mQ (fun i hi=>by omega)) hbk)) ⟨HKB.out,mX.out.pop tK.out (by rw [xY.out]; exact hr4) yP⟩))
    refine hR.mono ?_;rintro e w5 ⟨rfl,hb5,-,hs5⟩
    gi_wp2
    go_roundw
    case rel=>exact ⟨k+1,by have:=HKB.out; omega,hb5,Za hs5⟩
    case measure=>
     rw [hs5.ring.cells.2,HSK.out.ring.cells.2];have:=HKL.out;exact Bl
  ·obtain rfl:k=FW lim X:=by omega
   have hz:L.length - FW lim X=0:=by omega
   rw [hz] at x3;have mJ:=Za (Lf b 0 0 wr x3 Zm);clear hs x3 hz XP
   gi_wp2_with (gi_at_call 296; refine (HC.out _ _ _ _ _ mJ.out).mono ?_; rintro e w1 ⟨rfl,rfl⟩)
   refine rK ?_;exact ⟨⟨_,rfl⟩,hbk,_,HSK.out⟩
end
end
end Go.Proofs.YtianiiijaopdpaaGreat
