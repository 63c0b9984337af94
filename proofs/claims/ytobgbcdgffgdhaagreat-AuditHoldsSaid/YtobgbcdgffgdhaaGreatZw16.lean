/- Part 16 of 31: L14Batch. -/
import Derived.Test.YtobgbcdgffgdhaaGreatZw00
import Derived.Test.YtobgbcdgffgdhaaGreatZw09
import Derived.Test.YtobgbcdgffgdhaaGreatZw14
import Derived.LoopIn
import Derived.LoopNIn
import Derived.OwnWalkIn
import Derived.RangeFuncBox
import Derived.TacticsInMore
namespace Go.Proofs.YtobgbcdgffgdhaaGreat
set_option linter.unusedVariables false
set_option linter.unusedSimpArgs false
set_option maxRecDepth 100000
set_option maxHeartbeats 8000000
open _root_.And renaming intro -> Zn
open _root_.List renaming getD_eq_getElem?_getD -> Zm, getElem?_eq_getElem -> Zg
open _root_.Go.Proofs.Tryz renaming prog -> Zb
open _root_.Go renaming Value -> Zk, World -> Zc
open _root_.Go.Value renaming int -> ZI
open Go.Proofs.Tryz
section
open Go Go.RowKit Go.Shelf
attribute [local go_sem] Oper.semAt_some
def du (X:List Int)(k:Nat) :Nat × Int:=(if k=0 then 0 else 1,XW X k)
section
variable {X:List Int} {lim:Int} {k:Nat}
theorem Zd5 (X:List Int)(k:Nat) :(du X k).1<=1000000000:=by unfold du; split <;> simp
theorem yQ (h:k < FP lim X) :Vf lim (du X k) (X.getD k 0)=du X (k+1):=by
 cases k with
 | zero=>
  show Vf lim (0,0) (X.getD 0 0)=(1,XW X 0+X.getD 0 0);rw [Ss];simp [XW]
 | succ j=>
  have:=(Sk lim X).2.1 (j+1) Zf h;show Vf lim (0+1,XW X (j+1)) (X.getD (j+1) 0)=(0+1,XW X (j+1)+X.getD (j+1) 0);rw [XW] at this;exact Ad Zf
theorem Zd6 (h:k=FP lim X)(hk:k < X.length) :((Vf lim (du X k) (X.getD k 0)).1:Int)=2:=by
 obtain ⟨h1,h2⟩:=(Sk lim X).2.2 Zf;rw [<-h] at h1 h2;obtain ⟨j,rfl⟩ : ∃j,k=j+1:=⟨k - 1,by omega⟩;rw [XW] at h2;show ((Vf lim (0+1,XW X (j+1)) (X.getD (j+1) 0)).1:Int)=2;rw [Sr h2];rfl
theorem yP (hX: ∀i,BH (X.getD i 0))(hl:BH lim)(h:k<=FP lim X) :BH (du X k).2:=by
 refine ⟨BY (fun i=>(hX i).1) k,?_⟩;show XW X k<=_
 rcases k with _ | _ | k
 ·show (0:Int)<=_;decide
 ·have:=(hX 0).2;simp only [XW];omega
 ·have:=(Sk lim X).2.1 (k+1) Zf Zf;have:=hl.2;omega
end
def mX (z:Nat) :Zk:= .func (.func 238) #[] #[.pointer (some ⟨z+4,0,none⟩),.pointer (some ⟨z,0,none⟩)]
structure Sq (w0:Zc)(b:Nat)(go:Option Nat)(sz:Nat)(L:List Int)(wv:Zk)(lim:Int)(p:Nat × Int)(k j:Nat)(W:Zc) :Prop where
 ring:Yv 148 3 1 W b go sz (L.length - k) ((L.drop k).map (ZI .i64))
 bnd:RF W (w0.heap.size+1) lim p
 fw:Zu W w0.heap.size 121 #[wv]
 fb:Zu W (w0.heap.size+4) 282 #[Np (w0.heap.size+1)]
 fq:Zu W (w0.heap.size+6) 95 #[.pointer (some ⟨b,0,none⟩)]
 fn:Zu W (w0.heap.size+7) 65 #[mX w0.heap.size]
 o: ∃v,Boxed W (w0.heap.size+5) 24 v/\W.ownsRow (w0.heap.size+8) 3 1 v j ((L.take j).map (ZI .i64))/\True
 kept:Zx (QU b go) w0 W
section
variable {w0 W W':Zc} {b:Nat} {go:Option Nat} {sz:Nat} {L:List Int} {wv:Zk} {lim:Int} {p q:Nat × Int} {k j:Nat} {S:Nat->Prop}
theorem Yv.isCells {R E kk:Nat}{c:Nat}{Fs:List Zk}(h:Yv R E kk W b go sz c Fs){i:Nat}(hi:QU b go i) : ∃cs t,Zu W i t cs:=by
 obtain ⟨_,_,⟨rfl,_,h1,_⟩ | ⟨g',n,f,C,rfl,⟨h1,h2,_⟩,_⟩⟩:=h
 ·rcases hi with rfl | h
  ·exact ⟨_,_,h1⟩
  ·cases h
 ·rcases hi with rfl | h
  ·exact ⟨_,_,h1⟩
  ·injection h with h;subst h;exact ⟨_,_,h2⟩
theorem Fy {base e size n:Nat}{v:Zk}{xs:List Zk}(h:W.ownsRow base e size v n xs)(hs: ∀i,v.ownBlock=some i->W'.heap[i]?=W.heap[i]?) :W'.ownsRow base e size v n xs:=by
 refine ⟨h.1,?_⟩
 rcases h.2 with ⟨h1,h2⟩ | ⟨g,cp,cur,rfl,r⟩
 ·exact .inl ⟨h1,h2⟩
 ·refine .inr ⟨g,cp,cur,rfl,r.1,?_,r.2.2⟩;rw [hs g rfl];exact r.2.1
theorem Uf {row:Option Nat}{g t:Nat}{cs:Array Zk}(h:Zu W g t cs)(hg:W.grownBy W' row)(hr: ∀r,row=some r-> ∃o:Obj,W.heap[r]?=some o/\o.isCells=false) :Zu W' g t cs:=
 h.grown hg (fun e=>by obtain ⟨o,ho,hc⟩:=hr g e.symm; rw [show W.heap[g]?=_ from h] at ho; cases ho; cases hc)
theorem Sq.turn {row:Option Nat}(h:Sq w0 b go sz L wv lim p k j W)(hg:W.grownBy W' row)(hr: ∀r,row=some r->w0.heap.size<=r/\ ∃o:Obj,W.heap[r]?=some o/\o.isCells=false) :Sq w0 b go sz L wv lim p k j W':=by
 have NH: ∀r,row=some r-> ∃o:Obj,W.heap[r]?=some o/\o.isCells=false:=fun r e=>(hr r e).2
 have K:Zx (fun i=>row=some i) W W':=Zx.of_grown hg (fun i e=>e.symm);refine ⟨h.ring.kept K (fun i hi e=>?_),⟨Uf h.bnd.1 hg NH,Uf h.bnd.2.1 hg NH,Uf h.bnd.2.2 hg NH⟩,Uf h.fw hg NH,Uf h.fb hg NH,Uf h.fq hg NH,Uf h.fn hg NH,?_,h.kept.trans K (fun i hi e=>by have:=(hr i e).1; omega)⟩
 ·obtain ⟨cs,t,hb⟩:=h.ring.isCells hi;obtain ⟨o,ho,hc⟩:=NH i e;rw [show W.heap[i]?=_ from hb] at ho; cases ho; cases hc
 ·exact holdsRow_own (β:=Unit) _ _ _ _ _ (fun _=>j) (fun _=>(L.take j).map (ZI .i64)) (fun _ _=>True) () W W' row h.o hg NH
theorem Sq.own {B:Nat}(hB:w0.heap.size<=B)(f:Nat->Nat × Int)(kk jj:Nat->Nat) :OwnFrom B (fun s W=>Sq w0 b go sz L wv lim (f s) (kk s) (jj s) W):=fun s A B' row h hg hr=>h.turn hg (fun r e=>⟨by have:=(hr r e).1; omega,(hr r e).2⟩)
theorem Sq.drewN (h:Sq w0 b go sz L wv lim p k j W)(m:Nat) :Sq w0 b go sz L wv lim p k j (W.drewN m):=h.turn (Vz (Kl W none) m) (fun r e=>by cases e)
theorem Sq.foot (h:Sq w0 b go sz L wv lim p k j W)(XV: ∀i,QU b go i->i < w0.heap.size){i:Nat}(hi:w0.heap.size<=i) : ¬QU b go i:=fun e=>by have:=XV i e; omega
theorem Sq.count (h:Sq w0 b go sz L wv lim p k j W)(XV: ∀i,QU b go i->i < w0.heap.size)(hb:RF W' (w0.heap.size+1) lim q)(K:Zx (fun i=>i=w0.heap.size+1+1\/i=w0.heap.size+1+2) W W') :Sq w0 b go sz L wv lim q k j W':=by
 refine ⟨h.ring.kept K (fun i hi e=>by have:=XV i hi; omega),hb,h.fw.kept K Zf,h.fb.kept K Zf,h.fq.kept K Zf,h.fn.kept K Zf,?_,h.kept.trans K (fun i hi e=>by omega)⟩;obtain ⟨v,h1,h2,-⟩:=h.o;exact ⟨v,(K.block _ (Boxed.lt h1) Zf).trans h1,Fy h2 (fun i hi=>K.block i (h2.lt i hi).2 (by have:=(h2.lt i hi).1; omega)),trivial⟩
theorem Sq.pop (h:Sq w0 b go sz L wv lim p k j W)(XV: ∀i,QU b go i->i < w0.heap.size)(hr:Yv 148 3 1 W' b go sz (L.length -(k+1)) ((L.drop (k+1)).map (ZI .i64)))(K:Zx (QU b go) W W') :Sq w0 b go sz L wv lim p (k+1) j W':=by
 have nf: ∀d,¬QU b go (w0.heap.size+d):=fun d=>h.foot XV Zf
 refine ⟨hr,h.bnd.kept K (fun i h1 h2=>h.foot XV Zf),h.fw.kept K (nf 0),h.fb.kept K (nf 4),h.fq.kept K (nf 6),h.fn.kept K (nf 7),?_,h.kept.trans K (fun i hi e=>e)⟩;obtain ⟨v,h1,h2,-⟩:=h.o;exact ⟨v,(K.block _ (Boxed.lt h1) (nf 5)).trans h1,Fy h2 (fun i hi=>K.block i (h2.lt i hi).2 (h.foot XV (by have:=(h2.lt i hi).1; omega))),trivial⟩
theorem ZgP {a:Option Addr}{Lw:List Int}(h:Sq w0 b go sz L wv lim p k j W)(hu:Ot w0 (QU b go) a Lw) :Ot W (QU b go) a Lw:=hu.kept h.kept (fun _ _ e=>e)
theorem Aj {L:List Int}{k:Nat}(hk:k < L.length) :(L.drop k).map (ZI .i64)= .int .i64 (L.getD k 0)::(L.drop (k+1)).map (ZI .i64):=by
 rw [List.drop_eq_getElem_cons hk,List.map_cons,Zm,Zg hk];rfl
end
section
variable {w0:Zc} {b:Nat} {go:Option Nat} {sz:Nat} {L Lw:List Int} {a:Option Addr} {cap:Nat} {lim:Int}
theorem lE (F:Fence)(n:Nat)(uX:F=Fence.wide)(hn:3<=n)(l:Nat)(Bk:Zc->Prop)(B0:Nat)(hB0:w0.heap.size+8<=B0)(wT: ∀A B,KeepsFrom B0 A B->Bk A->Bk B)(XV: ∀i,QU b go i->i < w0.heap.size)
  (hu:Ot w0 (QU b go) a Lw) (hL:Lw.length<=9223372036854775807) (hA:Mi Lw) (hl:BH lim) (hLL:L.length<=1048576)
  (hY: ∀(x:Nat) W,Bk W->x < FP lim (L.map (Ks Lw))/\Sq w0 b go sz L (.slice a Lw.length cap) lim (du (L.map (Ks Lw)) (x+1)) (x+1) x W->YieldAt F (n - 1) Zb l #[.int .i64 (L.getD x 0)] W fun e W'=>e= .returned (.bool true)/\Bk W'/\x < FP lim (L.map (Ks Lw))/\Sq w0 b go sz L (.slice a Lw.length cap) lim (du (L.map (Ks Lw)) (x+1)) (x+1) (x+1) W')
  (W:Zc) (h0:Bk W) (hS:Sq w0 b go sz L (.slice a Lw.length cap) lim (du (L.map (Ks Lw)) 0) 0 0 W) :
  CallsIn F n Zb 269 #[.func (.yield l) #[] #[],.pointer (some ⟨w0.heap.size+6,0,none⟩),.pointer (some ⟨w0.heap.size+7,0,none⟩)] W fun e W'=>(∃v,e= .returned v)/\Bk W'/\
   ∃q,Sq w0 b go sz L (.slice a Lw.length cap) lim q (FP lim (L.map (Ks Lw))) (FP lim (L.map (Ks Lw))) W':=by
 have h1:1<=n:=Zf;have Ov:F.round=none:=by rw [uX]; rfl
 have hf: ∀k,F.fn k:=fun k=>by rw [uX]; trivial
 have HC:Zl (∀(f n:Nat) (args:Array Zk) (w:Zc) (R:Ending->Zc->Prop),Calls Zb f args w R->CallsIn F n Zb f args w R):=Za (fun f n args w R h=>by rw [uX]; exact callsIn_wide.2 h);have hXl:(L.map (Ks Lw)).length=L.length:=List.length_map ..;have hXg: ∀k,k < L.length->(L.map (Ks Lw)).getD k 0=Ks Lw (L.getD k 0):=fun k hk=>by
  rw [Zm,List.getElem?_map,Zm,Zg hk]; rfl
 have hXa: ∀i,BH ((L.map (Ks Lw)).getD i 0):=fun i=>ax (fun i=>Od hA i) i
 obtain ⟨X,hX⟩:=ZT (L.map (Ks Lw));rw [hX] at hY hS hXl hXg hXa ⊢;have NC:FP lim X<=L.length:=by rw [<-hXl]; exact Ct X
 have HY:=Za hY;have uM:=Za wT;have HU:=Za hu;have HSS:=Za hS;have HXg:=Za hXg;have vv:=Za XV;have HX:=Za (Zn hXl (Zn hXa (Zn hA hl)));clear uX hY wT hu hS hXl hXg hXa hX XV hA hl;refine callsIn_of_wp func269 rfl (hf _) ?_ Ov;simp only [ntmps269,List.size_toArray,List.length_cons,List.length_nil,Nat.reduceAdd,Nat.reduceSub,Array.replicate_succ,Array.replicate_zero,List.push_toArray,List.append_toArray,List.nil_append,List.cons_append]
 gi_wp2
 gi_loopw [4] (fun s4 wr=> ∃k:Nat,k<=FP lim X/\Bk wr/\Zl (Sq w0 b go sz L (.slice a Lw.length cap) lim (du X k) k k wr)) (fun _ wr=>match wr.cell? ⟨b,3,none⟩ with | some v=>(intOf v).toNat | none=>0)
 case atStart=>exact ⟨0,Nat.zero_le _,h0,HSS⟩
 case round=>
  obtain ⟨k,hk,hbk,HSK⟩:=hrel;have hs:=HSK.o;have x1:=hs.fq.cell 0;have x2:wr.cell? ⟨w0.heap.size+7,0,none⟩=some (.func (.func 238) #[] #[.pointer (some ⟨w0.heap.size+4,0,none⟩),.pointer (some ⟨w0.heap.size,0,none⟩)]):=hs.fn.cell 0;have x3:=hs.ring.cells.2
  by_cases XV:k < L.length
  ·have oI:=Za (MP b sz (L.length - k) 0 go _ (.int .i64 (L.getD k 0)) wr hs.ring (by rw [Aj XV]; rfl));have vz:=Za (fun m=>xS (cap:=cap) (w0.heap.size+4) w0.heap.size (L.getD k 0) (wr.drewN m) hs.fb hs.fw (Ot.drewN (ZgP hs HU.o) m) hL HX.o.2.2.1 hs.bnd (yP HX.o.2.1 HX.o.2.2.2 hk) HX.o.2.2.2 (Zd5 X k));rw [<-HXg.o k XV] at vz;have HKL:=Za XV
   by_cases hb:k=FP lim X
   ·have rh:(((Vf lim (du X k) (X.getD k 0)).1:Int)==1)=false:=by rw [Zd6 hb (by rw [HX.o.1]; exact XV)]; rfl
    rw [rh] at vz;generalize Vf lim (du X k) (X.getD k 0)=q at vz;obtain ⟨y,hy⟩:=ZT (L.getD k 0);rw [hy] at vz oI;clear rh hs x3 XV hy HY HXg
    gi_wp2_with (first | (gi_at_call 270; refine (HC.o _ _ _ _ _ oI.o).mono ?_; rintro e w1 ⟨rfl,m1,rfl⟩) | (gi_at_call 238; refine (HC.o _ _ _ _ _ (vz.o m1)).mono ?_; rintro e w2 ⟨rfl,GN,mC⟩))
    refine tG ?_;have oM:Zx (fun i=>i=w0.heap.size+1+1\/i=w0.heap.size+1+2) wr w2:=((Zx.refl _ wr).drewN m1).trans mC (fun _ _ e=>e);exact ⟨⟨_,rfl⟩,uM.o _ _ (Dp oM (fun i hi=>by omega)) hbk,q,hb▸HSK.o.count vv.o GN oM⟩
   ·have oN:k < FP lim X:=Zf;rw [yQ oN] at vz;have rh:(((du X (k+1)).1:Int)==1)=true:=rfl;rw [rh] at vz;obtain ⟨c,hc⟩:=ZT (L.length -(k+1));have M9:L.length - k=c+1:=Zf;have HPP:=Za (fun (w3:Zc) (h3:Yv 148 3 1 w3 b go sz (L.length - k) ((L.drop k).map (ZI .i64)))=>O9 b sz c go ((L.drop (k+1)).map (ZI .i64)) (.int .i64 (L.getD k 0)) w3 (by rw [M9,Aj XV] at h3; exact h3));have uN:=Za hc;have HYK:=Za (HY.o k);have HKB:=Za oN;obtain ⟨y,hy⟩:=ZT (L.getD k 0);rw [hy] at vz oI HPP HYK;have jP: ∀(w3:Zc),Zx (fun i=>i=w0.heap.size+1+1\/i=w0.heap.size+1+2) wr w3->w3.cell? ⟨w0.heap.size+6,0,none⟩=some (.pointer (some ⟨b,0,none⟩)):=fun w3 h3=>h3.cell (p:=⟨w0.heap.size+6,0,none⟩) ZE x1
    have HKW:=Za jP;clear rh hs x3 XV hy HY HXg hc M9 hb oN jP
    gi_wp2_with (first | (gi_at_call 270; refine (HC.o _ _ _ _ _ oI.o).mono ?_; rintro e w1 ⟨rfl,m1,rfl⟩) | (gi_at_call 238; refine (HC.o _ _ _ _ _ (vz.o m1)).mono ?_; rintro e w2 ⟨rfl,GN,mC⟩; have oM:Zx (fun i=>i=w0.heap.size+1+1\/i=w0.heap.size+1+2) wr w2:=((Zx.refl _ wr).drewN m1).trans mC (fun _ _ e=>e); have CT:=Za (HSK.o.count vv.o GN oM); have x4:=HKW.o w2 oM) | (gi_at_call 271; refine (HC.o _ _ _ _ _ (HPP.o w2 CT.o.ring)).mono ?_; rintro e w4 ⟨rfl,hr4,hk4⟩; obtain ⟨fn,tmps,assign,body,hy,hR⟩:=HYK.o w4 (uM.o _ _ (Dp hk4 (fun i hi e=>by have:=vv.o i e; omega)) (uM.o _ _ (Dp oM (fun i hi=>by omega)) hbk)) ⟨HKB.o,CT.o.pop vv.o (by rw [uN.o]; exact hr4) hk4⟩))
    refine hR.mono ?_;rintro e w5 ⟨rfl,hb5,-,hs5⟩
    gi_wp2
    go_roundw
    case rel=>exact ⟨k+1,by have:=HKB.o; omega,hb5,Za hs5⟩
    case measure=>
     rw [hs5.ring.cells.2,HSK.o.ring.cells.2];have:=HKL.o;exact VL
  ·obtain rfl:k=FP lim X:=Zf;have hz:L.length - FP lim X=0:=Zf;rw [hz] at x3;have oI:=Za (Lo b 0 0 wr x3 Zf);clear hs x3 hz XV
   gi_wp2_with (gi_at_call 270; refine (HC.o _ _ _ _ _ oI.o).mono ?_; rintro e w1 ⟨rfl,rfl⟩)
   refine tG ?_;exact ⟨⟨_,rfl⟩,hbk,_,HSK.o⟩
end
end
end Go.Proofs.YtobgbcdgffgdhaaGreat
