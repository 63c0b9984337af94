/- Part 12 of 31: DH. -/
import Derived.Test.YtobgbcdgffgdhaaGreatZw00
import Derived.Test.YtobgbcdgffgdhaaGreatZw08
import Derived.Laws.EntriesVeiled
namespace Go.Proofs.YtobgbcdgffgdhaaGreat
set_option linter.unusedVariables false
set_option linter.unusedSimpArgs false
set_option maxRecDepth 100000
set_option maxHeartbeats 8000000
open _root_.Go.RowKit renaming Below -> Zp
open _root_.Bool renaming eq_iff_iff -> Y2
open _root_.List renaming getElem?_eq_getElem -> Zg, length_filter_le -> Qy, mem_of_getElem? -> Zy, take_of_length_le -> Yp
open _root_.Go renaming Value -> Zk, World -> Zc
open _root_.Go.World renaming setRow_alloc_new -> Zr
open Go.Proofs.Tryz
theorem I0 {G:Prop}(h:G:=by rw [HS.o,hp]; rfl) :G:=h
theorem uv {G:Prop} (h:G:=by
  go_wp2_with fail;go_ret;exact ⟨rfl,HB.o⟩) :G:=h
section
open Go Go.RowKit Go.Deep
def PA (w:Zc)(f:Zk)(l:List ZN)(p:ZN->Bool) :Prop:=
 ∃(F:Nat) (Gh:Array Zk),f= .func (.func F) #[] Gh/\(∀args w,(callFunc F args).run Tryz.prog w= .ok (.enter F args) w)/\
  ∀w1 v,Zp w.heap.size w w1->v ∈ l->Calls Tryz.prog F (#[.agg (Zd v)]++Gh) w1 fun o w2=>o= .returned (.bool (p v))/\Zp w1.heap.size w1 w2
theorem PA.below {w w':Zc}{f:Zk}{l:List ZN}{p:ZN->Bool}(h:PA w f l p)(hb:Zp w.heap.size w w') :PA w' f l p:=by
 obtain ⟨F,Gh,h1,h2,h3⟩:=h;exact ⟨F,Gh,h1,h2,fun w1 v EX hv=>h3 w1 v (hb.trans (EX.mono hb.size)) hv⟩
theorem Hs (S:Nat->Prop)(a:Option Addr)(n cp:Nat)(f:Zk)(l:List ZN)(p:ZN->Bool)(w:Zc)(h:DH w S a l)(hl:l.length=n)(hn:n<=4096)(hm:PA w f l p) :
  Z3 113 #[.slice a n cp,f] w (.int .i64 ((l.countP p:Nat) :Int)):=by
 obtain ⟨F,Gh,rfl,hen,VH⟩:=hm;have HL:=Za h;have HC:=Za VH;have HN:=Za hl;clear h VH hl;go_enter func113,ntmps113;go_wp2_with fail;go_loopw [5,10] (fun s5 s10 wr=> ∃k t:Nat,k<=n/\s10= .int .i64 k/\s5= .int .i64 t/\t<=4096/\Zl (t=(l.take k).countP p/\t<=k)/\Zp w.heap.size w wr) (fun _ s10 _=>n -(intOf s10).toNat)
 case atStart=>exact ⟨0,0,by omega,rfl,rfl,by omega,Za ⟨by simp,by omega⟩,Below.refl _ _⟩
 case round=>
  obtain ⟨k,t,hk,rfl,rfl,ht,HT,BR⟩:=hrel
  by_cases XV:k < n
  ·obtain ⟨v,hv⟩ : ∃v,l[k]?=some v:=⟨_,Zg (by rw [HN.o]; exact XV)⟩;obtain ⟨b,off,rfl,hr⟩:=(HL.o.below BR).at hv;have HR:=Za hr;have HS:Zl ((l.take (k+1)).countP p=t+if p v=true then 1 else 0):=Za (by rw [aR p hv,HT.o.1]);have HTK:=Za HT.o.2;have HM:Zl (v ∈ l):=Za (Zy hv);have B1:Zl (Zp w.heap.size w (wr.alloc (.cells (Zd v) 68))):=Za (BR.alloc BR.size _);have N1:Zl (Zu (wr.alloc (.cells (Zd v) 68)) wr.heap.size 68 (Zd v)):=Za (Zu.new wr _ _);clear hr hv BR HT;go_upto_region 5 with (first | (refine Xk rfl 68 _ rfl b (off+k*7) rfl v _ HR.o underlying68 rfl Yb ?_) | (refine UP wr.heap.size (Zd v) 68 (heap_alloc_new wr _) Yb (Ys _) ?_; rw [Zr]));try simp only [Act.put]
   clear HR;generalize wr.alloc (.cells (Zd v) 68)=W at*;generalize wr.heap.size=g at*;go_wp2_with (first | (refine Kz 68 g N1.o underlying68 Yb ?_));refine (HC.o W v B1.o HM.o).mono ?_;rintro e w1 ⟨rfl,hb⟩;have B2:Zl (Zp w.heap.size w w1):=Za (B1.o.trans (hb.mono B1.o.size));clear hb B1 N1 HM
   cases hp:p v with
   | true=>
    have Oo:Zl ((l.take (k+1)).countP p=t+1):=Za I0;clear HS hp;go_wp2_with fail;go_roundw
    case rel=>exact ⟨k+1,t+1,by omega,by go_num,by go_num,by have:=HTK.o; omega,Za ⟨Oo.o.symm,by have:=HTK.o; omega⟩,B2.o⟩
    case measure=>exact VL
   | false=>
    have Oo:Zl ((l.take (k+1)).countP p=t):=Za I0;clear HS hp;go_wp2_with fail;go_roundw
    case rel=>exact ⟨k+1,t,by omega,by go_num,rfl,ht,Za ⟨Oo.o.symm,by have:=HTK.o; omega⟩,B2.o⟩
    case measure=>exact VL
  ·obtain rfl:k=n:=Zf;have HE:Zl (t=l.countP p):=Za (by rw [HT.o.1,Yp (by rw [HN.o]; exact Nat.le_refl _)]);have B2:=Za BR;clear XV BR HT;have XV: ¬k < k:=Zf;go_wp2_with fail;go_ret;exact ⟨by rw [HE.o]; rfl,B2.o⟩
theorem MB (S:Nat->Prop)(a:Option Addr)(n cp:Nat)(f:Zk)(l:List ZN)(p:ZN->Bool)(w:Zc)(h:DH w S a l)(hl:l.length=n)(hn:n<=4096)(hm:PA w f l p) :
  Z3 108 #[.slice a n cp,f] w (.bool (l.all p)):=by
 have HC:=Za (Hs S a n cp f l p w h hl hn hm);obtain ⟨t,ht⟩:=ZT (l.countP p);rw [ht] at HC;obtain ⟨r,hr⟩:=ZT (l.all p);have d:((t:Int)==(n:Int))=r:=by
  rw [<-hr,<-lA,ht,hl,Y2,beq_iff_eq,decide_eq_true_eq];omega
 have d2:(t==n)=r:=by
  rw [<-d,Y2,beq_iff_eq,beq_iff_eq];omega
 rw [hr];clear h hl hn hm ht hr;go_enter func108,ntmps108;go_wp2_with fail;refine HC.o.mono ?_;rintro e w1 ⟨rfl,hb⟩;have HB:=Za hb;clear hb HC;exact uv
def LJ (l:List ZN)(p:ZN->Bool) :Int:=if Zw (l.filter p)<=18446744073709551615 then Zw (l.filter p) else 0
def GK (l:List ZN)(p:ZN->Bool) :Bool:=decide (Zw (l.filter p)<=18446744073709551615)
theorem LK (S:Nat->Prop)(a:Option Addr)(n cp:Nat)(f:Zk)(l:List ZN)(p:ZN->Bool)(w:Zc)(h:DH w S a l)(hl:l.length=n)(hn:n<=4096)(hf: ∀v ∈ l,Yh v)(hm:PA w f l p) :
  Z3 99 #[.slice a n cp,f] w (.tuple #[.int .u64 (LJ l p),.bool (GK l p)]):=by
 obtain ⟨F,Gh,rfl,hen,VH⟩:=hm;have HL:=Za h;have HC:=Za VH;have HN:=Za hl;have HF:=Za hf;obtain ⟨j0,fF,BK,By,Nb⟩:=zh;have HA:Zl (∀(v:Zk) (w':Zc),w'.ownsRow w.heap.size 23 1 v (l.filter p).length (BB (l.filter p))->YV 101 #[v] w' (.tuple #[.int .u64 (LJ l p),.bool (GK l p)])):=Za fun v w' ho=>by
  rcases ho.2 with ⟨rfl,h0⟩ | ⟨g,c,cur,rfl,_⟩
  ·have h1:=List.eq_nil_of_length_eq_zero h0;have e1:LJ l p=0:=by unfold LJ; rw [h1]; rfl
   have e2:GK l p=true:=by unfold GK; rw [h1]; rfl
   rw [e1,e2];exact o8 none 0 w'
  ·have h3:=DP g 0 (l.filter p).length c (QN (l.filter p)) w' (by have:=Qy p l; omega) (ZdH ho rfl) (Sj fun v hv=>hf v (List.mem_filter.1 hv).1);rw [BO,VU,yV] at h3;exact h3
 clear h VH hl hf;go_enter func99,ntmps99;go_wp2_with fail;go_loopw [6,11] (fun s6 s11 wr=> ∃k:Nat,k<=n/\s11= .int .i64 k/\Zl (wr.ownsRow w.heap.size 23 1 s6 ((l.take k).filter p).length (BB ((l.take k).filter p)))/\Zp w.heap.size w wr) (fun _ s11 _=>n -(intOf s11).toNat)
 case atStart=>exact ⟨0,by omega,rfl,Za (World.ownsRow_nil _ _ _ _),Below.refl _ _⟩
 case round=>
  obtain ⟨k,hk,rfl,HO,BR⟩:=hrel
  by_cases XV:k < n
  ·obtain ⟨v,hv⟩ : ∃v,l[k]?=some v:=⟨_,Zg (by rw [HN.o]; exact XV)⟩;obtain ⟨b,off,rfl,hr⟩:=(HL.o.below BR).at hv;have HR:=Za hr;have HS:=Za (bA p hv);have HM:Zl (v ∈ l):=Za (Zy hv);have B1:Zl (Zp w.heap.size w (wr.alloc (.cells (Zd v) 68))):=Za (BR.alloc BR.size _);have N1:Zl (Zu (wr.alloc (.cells (Zd v) 68)) wr.heap.size 68 (Zd v)):=Za (Zu.new wr _ _);have O1:=Za (HO.o.alloc (.cells (Zd v) 68));have hlen:((l.take k).filter p).length<=4096:=by have:=Qy p (l.take k); rw [List.length_take] at this; omega
   have oG:=Za hlen;clear hr hv BR HO hlen;go_upto_region 5 with (first | (refine Xk rfl 68 _ rfl b (off+k*7) rfl v _ HR.o underlying68 rfl Yb ?_) | (refine UP wr.heap.size (Zd v) 68 (heap_alloc_new wr _) Yb (Ys _) ?_; rw [Zr]));try simp only [Act.put]
   clear HR;generalize wr.alloc (.cells (Zd v) 68)=W at*;generalize wr.heap.size=g at*;go_wp2_with (first | (refine Kz 68 g N1.o underlying68 Yb ?_));refine (HC.o W v B1.o HM.o).mono ?_;rintro e w1 ⟨rfl,hb⟩;have B2:Zl (Zp w.heap.size w w1):=Za (B1.o.trans (hb.mono B1.o.size));have N2:=Za (N1.o.below hb N1.o.lt);have O2:=Za (Gu O1.o hb);clear hb B1 N1 HM O1
   cases hp:p v with
   | true=>
    have Oo:Zl ((l.take (k+1)).filter p=(l.take k).filter p++[v]):=Za I0;have e0:=QS N2.o 0;clear HS hp;generalize (l.take k).filter p=L at*;obtain ⟨m,eh⟩:=ZT (L.length);rw [eh] at O2 oG;have HMM:=Za eh;clear eh;go_wp2_with (at_builtin; refine XU _ rfl _ _ 121 rfl w.heap.size 23 j0 _ 1 8 underlying121 fF BK By Nb rfl Nat.one_pos u6 m (BB L) rfl (O2.o.alloc _) (some ⟨w1.heap.size,0,none⟩) 1 1 [.int .u64 v.bal] rfl rfl (fun _=>⟨_,rfl,cell_one_new w1 _ _⟩) (by simp [Value.oneCell']) (by have:=oG.o; unfold maxLen; omega) (by have:=oG.o; omega) (by have:=B2.o.size; simp; omega) ?_; intro v1 w2 ho hg hv1);have HZ:Zl (w2.ownsRow w.heap.size 23 1 v1 ((l.take (k+1)).filter p).length (BB ((l.take (k+1)).filter p))/\Zp w.heap.size w w2):=Za (by
     refine ⟨by rw [Oo.o,cQ,List.length_append,HMM.o]; exact ho,?_⟩;have Bx:=B2.o.size;refine (B2.o.alloc Bx _).grown hg Xl (fun q hq=>?_)
     rcases O2.o.2 with ⟨h1,_⟩ | ⟨g,GP,cur,h1,h2,_⟩
     ·rw [h1] at hq; cases hq
     ·rw [h1] at hq; simp [Value.ownBlock] at hq; omega)
    clear ho hg hv1 e0 O2 B2;go_wp2_with fail;go_roundw
    case rel=>exact ⟨k+1,by omega,by go_num,Za HZ.o.1,HZ.o.2⟩
    case measure=>exact VL
   | false=>
    have Oo:Zl ((l.take (k+1)).filter p=(l.take k).filter p):=Za (by rw [HS.o,hp]; simp);clear HS hp;go_wp2_with fail;go_roundw
    case rel=>exact ⟨k+1,by omega,by go_num,Za (by rw [Oo.o]; exact O2.o),B2.o⟩
    case measure=>exact VL
  ·obtain rfl:k=n:=Zf;have HZ:Zl (wr.ownsRow w.heap.size 23 1 u6 (l.filter p).length (BB (l.filter p))):=Za (by
    have:=HO.o;rwa [Yp (by rw [HN.o]; exact Nat.le_refl _)] at this)
   have B2:=Za BR;clear XV BR HO;have XV: ¬k < k:=Zf;go_wp2_with fail;refine (HA.o _ _ HZ.o).mono ?_;rintro e w1 ⟨rfl,rfl⟩;go_wp2_with fail;go_ret2;exact ⟨rfl,B2.o⟩
end
end Go.Proofs.YtobgbcdgffgdhaaGreat
