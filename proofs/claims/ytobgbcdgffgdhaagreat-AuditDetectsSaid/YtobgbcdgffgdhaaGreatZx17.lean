/- Part 17 of 34: L14Batch. -/
import Derived.Test.YtobgbcdgffgdhaaGreatZx00
import Derived.Test.YtobgbcdgffgdhaaGreatZx10
import Derived.Test.YtobgbcdgffgdhaaGreatZx15
import Derived.LoopIn
import Derived.LoopNIn
import Derived.OwnWalkIn
import Derived.RangeFuncBox
import Derived.TacticsInMore
namespace Go.Proofs.YtobgbcdgffgdhaaGreat
set_option linter.unusedVariables false
set_option linter.unusedSimpArgs false
set_option maxRecDepth 100000
set_option maxHeartbeats 8000000
open _root_.And renaming intro -> Zm
open _root_.List renaming getD_eq_getElem?_getD -> Zo, getElem?_eq_getElem -> Zg
open _root_.Go.Proofs.Tryz renaming prog -> Zb
open _root_.Go renaming Value -> Zl, World -> Zc
open _root_.Go.Value renaming int -> ZG
open Go.Proofs.Tryz
section
open Go Go.RowKit Go.Shelf
attribute [local go_sem] Oper.semAt_some
def iO (X:List Int)(k:Nat) :Nat × Int:=(if k=0 then 0 else 1,XR X k)
section
variable {X:List Int} {lim:Int} {k:Nat}
theorem ZiF (X:List Int)(k:Nat) :(iO X k).1<=1000000000:=by unfold iO; split <;> simp
theorem Zdr (h:k < LC lim X) :VO lim (iO X k) (X.getD k 0)=iO X (k+1):=by
 cases k with
 | zero=>
  show VO lim (0,0) (X.getD 0 0)=(1,XR X 0+X.getD 0 0);rw [WC];simp [XR]
 | succ j=>
  have:=(Ww lim X).2.1 (j+1) Zf h;show VO lim (0+1,XR X (j+1)) (X.getD (j+1) 0)=(0+1,XR X (j+1)+X.getD (j+1) 0);rw [XR] at this;exact IG Zf
theorem ZiG (h:k=LC lim X)(hk:k < X.length) :((VO lim (iO X k) (X.getD k 0)).1:Int)=2:=by
 obtain ⟨h1,h2⟩:=(Ww lim X).2.2 Zf;rw [<-h] at h1 h2;obtain ⟨j,rfl⟩ : ∃j,k=j+1:=⟨k - 1,by omega⟩;rw [XR] at h2;show ((VO lim (0+1,XR X (j+1)) (X.getD (j+1) 0)).1:Int)=2;rw [WB h2];rfl
theorem Zdq (hX: ∀i,DU (X.getD i 0))(hl:DU lim)(h:k<=LC lim X) :DU (iO X k).2:=by
 refine ⟨BQ (fun i=>(hX i).1) k,?_⟩;show XR X k<=_
 rcases k with _ | _ | k
 ·show (0:Int)<=_;decide
 ·have:=(hX 0).2;simp only [XR];omega
 ·have:=(Ww lim X).2.1 (k+1) Zf Zf;have:=hl.2;omega
end
def rH (z:Nat) :Zl:= .func (.func 238) #[] #[.pointer (some ⟨z+4,0,none⟩),.pointer (some ⟨z,0,none⟩)]
structure Sq (w0:Zc)(b:Nat)(go:Option Nat)(sz:Nat)(L:List Int)(wv:Zl)(lim:Int)(p:Nat × Int)(k j:Nat)(W:Zc) :Prop where
 ring:YG 148 3 1 W b go sz (L.length - k) ((L.drop k).map (ZG .i64))
 bnd:CI W (w0.heap.size+1) lim p
 fw:Zu W w0.heap.size 121 #[wv]
 fb:Zu W (w0.heap.size+4) 282 #[Pa (w0.heap.size+1)]
 fq:Zu W (w0.heap.size+6) 95 #[.pointer (some ⟨b,0,none⟩)]
 fn:Zu W (w0.heap.size+7) 65 #[rH w0.heap.size]
 o: ∃v,Boxed W (w0.heap.size+5) 24 v/\W.ownsRow (w0.heap.size+8) 3 1 v j ((L.take j).map (ZG .i64))/\True
 kept:ZA (Je b go) w0 W
section
variable {w0 W W':Zc} {b:Nat} {go:Option Nat} {sz:Nat} {L:List Int} {wv:Zl} {lim:Int} {p q:Nat × Int} {k j:Nat} {S:Nat->Prop}
theorem YG.isCells {R E kk:Nat}{c:Nat}{Fs:List Zl}(h:YG R E kk W b go sz c Fs){i:Nat}(hi:Je b go i) : ∃cs t,Zu W i t cs:=by
 obtain ⟨_,_,⟨rfl,_,h1,_⟩ | ⟨g',n,f,C,rfl,⟨h1,h2,_⟩,_⟩⟩:=h
 ·rcases hi with rfl | h
  ·exact ⟨_,_,h1⟩
  ·cases h
 ·rcases hi with rfl | h
  ·exact ⟨_,_,h1⟩
  ·injection h with h;subst h;exact ⟨_,_,h2⟩
theorem Lf {base e size n:Nat}{v:Zl}{xs:List Zl}(h:W.ownsRow base e size v n xs)(hs: ∀i,v.ownBlock=some i->W'.heap[i]?=W.heap[i]?) :W'.ownsRow base e size v n xs:=by
 refine ⟨h.1,?_⟩
 rcases h.2 with ⟨h1,h2⟩ | ⟨g,cp,cur,rfl,r⟩
 ·exact .inl ⟨h1,h2⟩
 ·refine .inr ⟨g,cp,cur,rfl,r.1,?_,r.2.2⟩;rw [hs g rfl];exact r.2.1
theorem UL {row:Option Nat}{g t:Nat}{cs:Array Zl}(h:Zu W g t cs)(hg:W.grownBy W' row)(hr: ∀r,row=some r-> ∃o:Obj,W.heap[r]?=some o/\o.isCells=false) :Zu W' g t cs:=
 h.grown hg (fun e=>by obtain ⟨o,ho,hc⟩:=hr g e.symm; rw [show W.heap[g]?=_ from h] at ho; cases ho; cases hc)
theorem Sq.turn {row:Option Nat}(h:Sq w0 b go sz L wv lim p k j W)(hg:W.grownBy W' row)(hr: ∀r,row=some r->w0.heap.size<=r/\ ∃o:Obj,W.heap[r]?=some o/\o.isCells=false) :Sq w0 b go sz L wv lim p k j W':=by
 have Pw: ∀r,row=some r-> ∃o:Obj,W.heap[r]?=some o/\o.isCells=false:=fun r e=>(hr r e).2
 have K:ZA (fun i=>row=some i) W W':=ZA.of_grown hg (fun i e=>e.symm);refine ⟨h.ring.kept K (fun i hi e=>?_),⟨UL h.bnd.1 hg Pw,UL h.bnd.2.1 hg Pw,UL h.bnd.2.2 hg Pw⟩,UL h.fw hg Pw,UL h.fb hg Pw,UL h.fq hg Pw,UL h.fn hg Pw,?_,h.kept.trans K (fun i hi e=>by have:=(hr i e).1; omega)⟩
 ·obtain ⟨cs,t,hb⟩:=h.ring.isCells hi;obtain ⟨o,ho,hc⟩:=Pw i e;rw [show W.heap[i]?=_ from hb] at ho; cases ho; cases hc
 ·exact holdsRow_own (β:=Unit) _ _ _ _ _ (fun _=>j) (fun _=>(L.take j).map (ZG .i64)) (fun _ _=>True) () W W' row h.o hg Pw
theorem Sq.own {B:Nat}(hB:w0.heap.size<=B)(f:Nat->Nat × Int)(kk jj:Nat->Nat) :OwnFrom B (fun s W=>Sq w0 b go sz L wv lim (f s) (kk s) (jj s) W):=fun s A B' row h hg hr=>h.turn hg (fun r e=>⟨by have:=(hr r e).1; omega,(hr r e).2⟩)
theorem Sq.foot (h:Sq w0 b go sz L wv lim p k j W)(XJ: ∀i,Je b go i->i < w0.heap.size){i:Nat}(hi:w0.heap.size<=i) : ¬Je b go i:=fun e=>by have:=XJ i e; omega
theorem Sq.count (h:Sq w0 b go sz L wv lim p k j W)(XJ: ∀i,Je b go i->i < w0.heap.size)(hb:CI W' (w0.heap.size+1) lim q)(K:ZA (fun i=>i=w0.heap.size+1+1\/i=w0.heap.size+1+2) W W') :Sq w0 b go sz L wv lim q k j W':=by
 refine ⟨h.ring.kept K (fun i hi e=>by have:=XJ i hi; omega),hb,h.fw.kept K Zf,h.fb.kept K Zf,h.fq.kept K Zf,h.fn.kept K Zf,?_,h.kept.trans K (fun i hi e=>by omega)⟩;obtain ⟨v,h1,h2,-⟩:=h.o;exact ⟨v,(K.block _ (Boxed.lt h1) Zf).trans h1,Lf h2 (fun i hi=>K.block i (h2.lt i hi).2 (by have:=(h2.lt i hi).1; omega)),trivial⟩
theorem Sq.pop (h:Sq w0 b go sz L wv lim p k j W)(XJ: ∀i,Je b go i->i < w0.heap.size)(hr:YG 148 3 1 W' b go sz (L.length -(k+1)) ((L.drop (k+1)).map (ZG .i64)))(K:ZA (Je b go) W W') :Sq w0 b go sz L wv lim p (k+1) j W':=by
 have nf: ∀d,¬Je b go (w0.heap.size+d):=fun d=>h.foot XJ Zf
 refine ⟨hr,h.bnd.kept K (fun i h1 h2=>h.foot XJ Zf),h.fw.kept K (nf 0),h.fb.kept K (nf 4),h.fq.kept K (nf 6),h.fn.kept K (nf 7),?_,h.kept.trans K (fun i hi e=>e)⟩;obtain ⟨v,h1,h2,-⟩:=h.o;exact ⟨v,(K.block _ (Boxed.lt h1) (nf 5)).trans h1,Lf h2 (fun i hi=>K.block i (h2.lt i hi).2 (h.foot XJ (by have:=(h2.lt i hi).1; omega))),trivial⟩
theorem Zlv {a:Option Addr}{Lw:List Int}(h:Sq w0 b go sz L wv lim p k j W)(hu:Ss w0 (Je b go) a Lw) :Ss W (Je b go) a Lw:=hu.kept h.kept (fun _ _ e=>e)
theorem IM {L:List Int}{k:Nat}(hk:k < L.length) :(L.drop k).map (ZG .i64)= .int .i64 (L.getD k 0)::(L.drop (k+1)).map (ZG .i64):=by
 rw [List.drop_eq_getElem_cons hk,List.map_cons,Zo,Zg hk];rfl
end
section
variable {w0:Zc} {b:Nat} {go:Option Nat} {sz:Nat} {L Lw:List Int} {a:Option Addr} {cap:Nat} {lim:Int}
theorem pZ (F:Fence)(n:Nat)(hFw:F=Fence.wide)(hn:3<=n)(l:Nat)(Bk:Zc->Prop)(B0:Nat)(hB0:w0.heap.size+8<=B0)(hBk: ∀A B,KeepsFrom B0 A B->Bk A->Bk B)(XJ: ∀i,Je b go i->i < w0.heap.size)
  (hu:Ss w0 (Je b go) a Lw) (hL:Lw.length<=9223372036854775807) (hA:NI Lw) (hl:DU lim) (hLL:L.length<=1048576)
  (hY: ∀(x:Nat) W,Bk W->x < LC lim (L.map (KK Lw))/\Sq w0 b go sz L (.slice a Lw.length cap) lim (iO (L.map (KK Lw)) (x+1)) (x+1) x W->YieldAt F (n - 1) Zb l #[.int .i64 (L.getD x 0)] W fun e W'=>e= .returned (.bool true)/\Bk W'/\x < LC lim (L.map (KK Lw))/\Sq w0 b go sz L (.slice a Lw.length cap) lim (iO (L.map (KK Lw)) (x+1)) (x+1) (x+1) W')
  (W:Zc) (h0:Bk W) (hS:Sq w0 b go sz L (.slice a Lw.length cap) lim (iO (L.map (KK Lw)) 0) 0 0 W) :
  CallsIn F n Zb 269 #[.func (.yield l) #[] #[],.pointer (some ⟨w0.heap.size+6,0,none⟩),.pointer (some ⟨w0.heap.size+7,0,none⟩)] W fun e W'=>(∃v,e= .returned v)/\Bk W'/\
   ∃q,Sq w0 b go sz L (.slice a Lw.length cap) lim q (LC lim (L.map (KK Lw))) (LC lim (L.map (KK Lw))) W':=by
 have h1:1<=n:=Zf;have Rf:F.round=none:=by rw [hFw]; rfl
 have hf: ∀k,F.fn k:=fun k=>by rw [hFw]; trivial
 have HC:Zj (∀(f n:Nat) (args:Array Zl) (w:Zc) (R:Ending->Zc->Prop),Calls Zb f args w R->CallsIn F n Zb f args w R):=Za (fun f n args w R h=>by rw [hFw]; exact callsIn_wide.2 h);have hXl:(L.map (KK Lw)).length=L.length:=List.length_map ..;have hXg: ∀k,k < L.length->(L.map (KK Lw)).getD k 0=KK Lw (L.getD k 0):=fun k hk=>by
  rw [Zo,List.getElem?_map,Zo,Zg hk]; rfl
 have hXa: ∀i,DU ((L.map (KK Lw)).getD i 0):=fun i=>ew (fun i=>PY hA i) i
 obtain ⟨X,hX⟩:=ZR (L.map (KK Lw));rw [hX] at hY hS hXl hXg hXa ⊢;have Pq:LC lim X<=L.length:=by rw [<-hXl]; exact bo X
 have HY:=Za hY;have HBK:=Za hBk;have HU:=Za hu;have nh:=Za hS;have HXg:=Za hXg;have HLT:=Za XJ;have HX:=Za (Zm hXl (Zm hXa (Zm hA hl)));clear hFw hY hBk hu hS hXl hXg hXa hX XJ hA hl;refine callsIn_of_wp func269 rfl (hf _) ?_ Rf;simp only [ntmps269,List.size_toArray,List.length_cons,List.length_nil,Nat.reduceAdd,Nat.reduceSub,Array.replicate_succ,Array.replicate_zero,List.push_toArray,List.append_toArray,List.nil_append,List.cons_append]
 gi_wp2
 gi_loopw [4] (fun s4 wr=> ∃k:Nat,k<=LC lim X/\Bk wr/\Zj (Sq w0 b go sz L (.slice a Lw.length cap) lim (iO X k) k k wr)) (fun _ wr=>match wr.cell? ⟨b,3,none⟩ with | some v=>(intOf v).toNat | none=>0)
 case atStart=>exact ⟨0,Nat.zero_le _,h0,nh⟩
 case round=>
  obtain ⟨k,hk,hbk,HSK⟩:=hrel;have hs:=HSK.o;have x1:=hs.fq.cell 0;have x2:wr.cell? ⟨w0.heap.size+7,0,none⟩=some (.func (.func 238) #[] #[.pointer (some ⟨w0.heap.size+4,0,none⟩),.pointer (some ⟨w0.heap.size,0,none⟩)]):=hs.fn.cell 0;have x3:=hs.ring.cells.2
  by_cases XJ:k < L.length
  ·have tl:=Za (Ou b sz (L.length - k) 0 go _ (.int .i64 (L.getD k 0)) wr hs.ring (by rw [IM XJ]; rfl));have HNW:=Za (fun m=>ZcE (cap:=cap) (w0.heap.size+4) w0.heap.size (L.getD k 0) (wr.drewN m) hs.fb hs.fw (Ss.drewN (Zlv hs HU.o) m) hL HX.o.2.2.1 hs.bnd (Zdq HX.o.2.1 HX.o.2.2.2 hk) HX.o.2.2.2 (ZiF X k));rw [<-HXg.o k XJ] at HNW;have HKL:=Za XJ
   by_cases hb:k=LC lim X
   ·have vY:(((VO lim (iO X k) (X.getD k 0)).1:Int)==1)=false:=by rw [ZiG hb (by rw [HX.o.1]; exact XJ)]; rfl
    rw [vY] at HNW;generalize VO lim (iO X k) (X.getD k 0)=q at HNW;obtain ⟨y,hy⟩:=ZR (L.getD k 0);rw [hy] at HNW tl;clear vY hs x3 XJ hy HY HXg
    gi_wp2_with (first | (gi_at_call 270; refine (HC.o _ _ _ _ _ tl.o).mono ?_; rintro e w1 ⟨rfl,m1,rfl⟩) | (gi_at_call 238; refine (HC.o _ _ _ _ _ (HNW.o m1)).mono ?_; rintro e w2 ⟨rfl,Dg,q9⟩))
    refine yC ?_;have tv:ZA (fun i=>i=w0.heap.size+1+1\/i=w0.heap.size+1+2) wr w2:=((ZA.refl _ wr).drewN m1).trans q9 (fun _ _ e=>e);exact ⟨⟨_,rfl⟩,HBK.o _ _ (Ex tv (fun i hi=>by omega)) hbk,q,hb▸HSK.o.count HLT.o Dg tv⟩
   ·have tw:k < LC lim X:=Zf;rw [Zdr tw] at HNW;have vY:(((iO X (k+1)).1:Int)==1)=true:=rfl;rw [vY] at HNW;obtain ⟨c,hc⟩:=ZR (L.length -(k+1));have OO:L.length - k=c+1:=Zf;have HPP:=Za (fun (w3:Zc) (h3:YG 148 3 1 w3 b go sz (L.length - k) ((L.drop k).map (ZG .i64)))=>RU b sz c go ((L.drop (k+1)).map (ZG .i64)) (.int .i64 (L.getD k 0)) w3 (by rw [OO,IM XJ] at h3; exact h3));have HC1:=Za hc;have HYK:=Za (HY.o k);have HKB:=Za tw;obtain ⟨y,hy⟩:=ZR (L.getD k 0);rw [hy] at HNW tl HPP HYK;have nS: ∀(w3:Zc),ZA (fun i=>i=w0.heap.size+1+1\/i=w0.heap.size+1+2) wr w3->w3.cell? ⟨w0.heap.size+6,0,none⟩=some (.pointer (some ⟨b,0,none⟩)):=fun w3 h3=>h3.cell (p:=⟨w0.heap.size+6,0,none⟩) ZE x1
    have HKW:=Za nS;clear vY hs x3 XJ hy HY HXg hc OO hb tw nS
    gi_wp2_with (first | (gi_at_call 270; refine (HC.o _ _ _ _ _ tl.o).mono ?_; rintro e w1 ⟨rfl,m1,rfl⟩) | (gi_at_call 238; refine (HC.o _ _ _ _ _ (HNW.o m1)).mono ?_; rintro e w2 ⟨rfl,Dg,q9⟩; have tv:ZA (fun i=>i=w0.heap.size+1+1\/i=w0.heap.size+1+2) wr w2:=((ZA.refl _ wr).drewN m1).trans q9 (fun _ _ e=>e); have bV:=Za (HSK.o.count HLT.o Dg tv); have x4:=HKW.o w2 tv) | (gi_at_call 271; refine (HC.o _ _ _ _ _ (HPP.o w2 bV.o.ring)).mono ?_; rintro e w4 ⟨rfl,hr4,hk4⟩; obtain ⟨fn,tmps,assign,body,hy,hR⟩:=HYK.o w4 (HBK.o _ _ (Ex hk4 (fun i hi e=>by have:=HLT.o i e; omega)) (HBK.o _ _ (Ex tv (fun i hi=>by omega)) hbk)) ⟨HKB.o,bV.o.pop HLT.o (by rw [HC1.o]; exact hr4) hk4⟩))
    refine hR.mono ?_;rintro e w5 ⟨rfl,hb5,-,hs5⟩
    gi_wp2
    go_roundw
    case rel=>exact ⟨k+1,by have:=HKB.o; omega,hb5,Za hs5⟩
    case measure=>
     rw [hs5.ring.cells.2,HSK.o.ring.cells.2];have:=HKL.o;exact KX
  ·obtain rfl:k=LC lim X:=Zf;have hz:L.length - LC lim X=0:=Zf;rw [hz] at x3;have tl:=Za (MM b 0 0 wr x3 Zf);clear hs x3 hz XJ
   gi_wp2_with (gi_at_call 270; refine (HC.o _ _ _ _ _ tl.o).mono ?_; rintro e w1 ⟨rfl,rfl⟩)
   refine yC ?_;exact ⟨⟨_,rfl⟩,hbk,_,HSK.o⟩
end
end
end Go.Proofs.YtobgbcdgffgdhaaGreat
