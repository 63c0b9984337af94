/- Part 13 of 34: FL. -/
import Derived.Test.YtobgbcdgffgdhaaGreatZx00
import Derived.Test.YtobgbcdgffgdhaaGreatZx09
import Derived.Laws.EntriesVeiled
namespace Go.Proofs.YtobgbcdgffgdhaaGreat
set_option linter.unusedVariables false
set_option linter.unusedSimpArgs false
set_option maxRecDepth 100000
set_option maxHeartbeats 8000000
open _root_.Go.RowKit renaming Below -> Zp
open _root_.List renaming getElem?_eq_getElem -> Zg, length_filter_le -> XW, mem_of_getElem? -> Zz, take_of_length_le -> ZV
open _root_.Go renaming Value -> Zl, World -> Zc
open _root_.Go.World renaming setRow_alloc_new -> Zq
open Go.Proofs.Tryz
theorem We {G:Prop}(h:G:=by rw [HS.o,hp]; rfl) :G:=h
theorem Fu {G:Prop}(h:G:=by have:=CK.o; omega) :G:=h
theorem Fq {G:Prop}(h:G:=by have:=CK.o; unfold maxLen; omega) :G:=h
theorem DH {G H:Prop} (k:H) (h:Dq H->G:=by
  intro zk;try simp only [Act.put]
  exact zk.o) :G:=h ⟨k⟩
theorem zq {G:Prop} (h:G:=by
  rw [<-d,Bool.eq_iff_iff,beq_iff_eq,beq_iff_eq];omega) :G:=h
theorem zH {G:Prop} (h:G:=by
  go_wp2_with fail;go_ret;exact ⟨rfl,HB.o⟩) :G:=h
section
open Go Go.RowKit Go.Deep
def So (w:Zc)(f:Zl)(l:List ZN)(p:ZN->Bool) :Prop:=
 ∃(F:Nat) (Bf:Array Zl),f= .func (.func F) #[] Bf/\(∀args w,(callFunc F args).run Tryz.prog w= .ok (.enter F args) w)/\
  ∀w1 v,Zp w.heap.size w w1->v ∈ l->Calls Tryz.prog F (#[.agg (Ze v)]++Bf) w1 fun o w2=>o= .returned (.bool (p v))/\Zp w1.heap.size w1 w2
theorem So.below {w w':Zc}{f:Zl}{l:List ZN}{p:ZN->Bool}(h:So w f l p)(hb:Zp w.heap.size w w') :So w' f l p:=by
 obtain ⟨F,Bf,h1,h2,h3⟩:=h;exact ⟨F,Bf,h1,h2,fun w1 v Hj hv=>h3 w1 v (hb.trans (Hj.mono hb.size)) hv⟩
theorem Mo (S:Nat->Prop)(a:Option Addr)(n cp:Nat)(f:Zl)(l:List ZN)(p:ZN->Bool)(w:Zc)(h:FL w S a l)(hl:l.length=n)(hn:n<=4096)(hm:So w f l p) :
  Z3 113 #[.slice a n cp,f] w (.int .i64 ((l.countP p:Nat) :Int)):=by
 obtain ⟨F,Bf,rfl,hen,Um⟩:=hm;have HL:=Za h;have HC:=Za Um;have HN:=Za hl;clear h Um hl;go_enter func113,ntmps113;go_wp2_with fail;go_loopw [5,10] (fun s5 s10 wr=> ∃k t:Nat,k<=n/\s10= .int .i64 k/\s5= .int .i64 t/\t<=4096/\Zj (t=(l.take k).countP p/\t<=k)/\Zp w.heap.size w wr) (fun _ s10 _=>n -(intOf s10).toNat)
 case atStart=>exact ⟨0,0,by omega,rfl,rfl,by omega,Za ⟨by simp,by omega⟩,Below.refl _ _⟩
 case round=>
  obtain ⟨k,t,hk,rfl,rfl,ht,HT,BR⟩:=hrel
  by_cases XJ:k < n
  ·obtain ⟨v,hv⟩ : ∃v,l[k]?=some v:=⟨_,Zg (by rw [HN.o]; exact XJ)⟩;obtain ⟨b,off,rfl,hr⟩:=(HL.o.below BR).at hv;have HR:=Za hr;have HS:Zj ((l.take (k+1)).countP p=t+if p v=true then 1 else 0):=Za (by rw [e8 p hv,HT.o.1]);have HTK:=Za HT.o.2;have HM:Zj (v ∈ l):=Za (Zz hv);have B1:Zj (Zp w.heap.size w (wr.alloc (.cells (Ze v) 68))):=Za (BR.alloc BR.size _);have N1:Zj (Zu (wr.alloc (.cells (Ze v) 68)) wr.heap.size 68 (Ze v)):=Za (Zu.new wr _ _);clear hr hv BR HT;go_upto_region 5 with (first | (refine YT rfl 68 _ rfl b (off+k*7) rfl v _ HR.o underlying68 rfl Ya ?_) | (refine Up wr.heap.size (Ze v) 68 (heap_alloc_new wr _) Ya (Yi _) ?_; rw [Zq]));refine DH ?_;clear HR;generalize wr.alloc (.cells (Ze v) 68)=W at*;generalize wr.heap.size=g at*;go_wp2_with (first | (refine Kl 68 g N1.o underlying68 Ya ?_));refine (HC.o W v B1.o HM.o).mono ?_;rintro e w1 ⟨rfl,hb⟩;have B2:Zj (Zp w.heap.size w w1):=Za (B1.o.trans (hb.mono B1.o.size));clear hb B1 N1 HM
   cases hp:p v with
   | true=>
    have Hi:Zj ((l.take (k+1)).countP p=t+1):=Za We;clear HS hp;go_wp2_with fail;go_roundw
    case rel=>exact ⟨k+1,t+1,by omega,by go_num,by go_num,by have:=HTK.o; omega,Za ⟨Hi.o.symm,by have:=HTK.o; omega⟩,B2.o⟩
    case measure=>exact KX
   | false=>
    have Hi:Zj ((l.take (k+1)).countP p=t):=Za We;clear HS hp;go_wp2_with fail;go_roundw
    case rel=>exact ⟨k+1,t,by omega,by go_num,rfl,ht,Za ⟨Hi.o.symm,by have:=HTK.o; omega⟩,B2.o⟩
    case measure=>exact KX
  ·obtain rfl:k=n:=Zf;have HE:Zj (t=l.countP p):=Za (by rw [HT.o.1,ZV dB]);have B2:=Za BR;clear XJ BR HT;have XJ: ¬k < k:=Zf;go_wp2_with fail;go_ret;exact ⟨by rw [HE.o]; rfl,B2.o⟩
theorem Oc (S:Nat->Prop)(a:Option Addr)(n cp:Nat)(f:Zl)(l:List ZN)(p:ZN->Bool)(w:Zc)(h:FL w S a l)(hl:l.length=n)(hn:n<=4096)(hm:So w f l p) :
  Z3 108 #[.slice a n cp,f] w (.bool (l.all p)):=by
 have HC:=Za (Mo S a n cp f l p w h hl hn hm);obtain ⟨t,ht⟩:=ZR (l.countP p);rw [ht] at HC;obtain ⟨r,hr⟩:=ZR (l.all p);have d:((t:Int)==(n:Int))=r:=by
  rw [<-hr,<-pU,ht,hl,Bool.eq_iff_iff,beq_iff_eq,decide_eq_true_eq];omega
 have d2:(t==n)=r:=zq
 rw [hr];clear h hl hn hm ht hr;go_enter func108,ntmps108;go_wp2_with fail;refine HC.o.mono ?_;rintro e w1 ⟨rfl,hb⟩;have HB:=Za hb;clear hb HC;exact zH
def M5 (l:List ZN)(p:ZN->Bool) :Int:=if Zw (l.filter p)<=18446744073709551615 then Zw (l.filter p) else 0
def BT (l:List ZN)(p:ZN->Bool) :Bool:=decide (Zw (l.filter p)<=18446744073709551615)
theorem M6 (S:Nat->Prop)(a:Option Addr)(n cp:Nat)(f:Zl)(l:List ZN)(p:ZN->Bool)(w:Zc)(h:FL w S a l)(hl:l.length=n)(hn:n<=4096)(hf: ∀v ∈ l,Yp v)(hm:So w f l p) :
  Z3 99 #[.slice a n cp,f] w (.tuple #[.int .u64 (M5 l p),.bool (BT l p)]):=by
 obtain ⟨F,Bf,rfl,hen,Um⟩:=hm;have HL:=Za h;have HC:=Za Um;have HN:=Za hl;have HF:=Za hf;obtain ⟨j0,OP,GO,GF,EO⟩:=T8;have HA:Zj (∀(v:Zl) (w':Zc),w'.ownsRow w.heap.size 23 1 v (l.filter p).length (Qw (l.filter p))->Y6 101 #[v] w' (.tuple #[.int .u64 (M5 l p),.bool (BT l p)])):=Za fun v w' ho=>by
  rcases ho.2 with ⟨rfl,h0⟩ | ⟨g,c,cur,rfl,_⟩
  ·have h1:=List.eq_nil_of_length_eq_zero h0;have e1:M5 l p=0:=by unfold M5; rw [h1]; rfl
   have e2:BT l p=true:=by unfold BT; rw [h1]; rfl
   rw [e1,e2];exact tP none 0 w'
  ·have h3:=EV g 0 (l.filter p).length c (Qj (l.filter p)) w' (by have:=XW p l; omega) (xb ho rfl) (Hq fun v hv=>hf v (List.mem_filter.1 hv).1);rw [BB,KS,oJ] at h3;exact h3
 clear h Um hl hf;go_enter func99,ntmps99;go_wp2_with fail;go_loopw [6,11] (fun s6 s11 wr=> ∃k:Nat,k<=n/\s11= .int .i64 k/\Zj (wr.ownsRow w.heap.size 23 1 s6 ((l.take k).filter p).length (Qw ((l.take k).filter p)))/\Zp w.heap.size w wr) (fun _ s11 _=>n -(intOf s11).toNat)
 case atStart=>exact ZfB
 case round=>
  obtain ⟨k,hk,rfl,HO,BR⟩:=hrel
  by_cases XJ:k < n
  ·obtain ⟨v,hv⟩ : ∃v,l[k]?=some v:=⟨_,Zg (by rw [HN.o]; exact XJ)⟩;obtain ⟨b,off,rfl,hr⟩:=(HL.o.below BR).at hv;have HR:=Za hr;have HS:=Za (SD p hv);have HM:Zj (v ∈ l):=Za (Zz hv);have B1:Zj (Zp w.heap.size w (wr.alloc (.cells (Ze v) 68))):=Za (BR.alloc BR.size _);have N1:Zj (Zu (wr.alloc (.cells (Ze v) 68)) wr.heap.size 68 (Ze v)):=Za (Zu.new wr _ _);have O1:=Za (HO.o.alloc (.cells (Ze v) 68));have hlen:((l.take k).filter p).length<=4096:=by have:=XW p (l.take k); rw [List.length_take] at this; omega
   have CK:=Za hlen;clear hr hv BR HO hlen;go_upto_region 5 with (first | (refine YT rfl 68 _ rfl b (off+k*7) rfl v _ HR.o underlying68 rfl Ya ?_) | (refine Up wr.heap.size (Ze v) 68 (heap_alloc_new wr _) Ya (Yi _) ?_; rw [Zq]));refine DH ?_;clear HR;generalize wr.alloc (.cells (Ze v) 68)=W at*;generalize wr.heap.size=g at*;go_wp2_with (first | (refine Kl 68 g N1.o underlying68 Ya ?_));refine (HC.o W v B1.o HM.o).mono ?_;rintro e w1 ⟨rfl,hb⟩;have B2:Zj (Zp w.heap.size w w1):=Za (B1.o.trans (hb.mono B1.o.size));have N2:=Za (N1.o.below hb N1.o.lt);have O2:=Za (Vk O1.o hb);clear hb B1 N1 HM O1
   cases hp:p v with
   | true=>
    have Hi:Zj ((l.take (k+1)).filter p=(l.take k).filter p++[v]):=Za We;have e0:=Xx N2.o 0;clear HS hp;generalize (l.take k).filter p=L at*;obtain ⟨m,LF⟩:=ZR (L.length);rw [LF] at O2 CK;have HMM:=Za LF;clear LF;go_wp2_with (at_builtin; refine YR _ rfl _ _ 121 rfl w.heap.size 23 j0 _ 1 8 underlying121 OP GO GF EO rfl Nat.one_pos u6 m (Qw L) rfl (O2.o.alloc _) (some ⟨w1.heap.size,0,none⟩) 1 1 [.int .u64 v.bal] rfl rfl (fun _=>⟨_,rfl,cell_one_new w1 _ _⟩) BW Fq Fu (by have:=B2.o.size; simp; omega) ?_; intro v1 w2 ho hg Al);have HZ:Zj (w2.ownsRow w.heap.size 23 1 v1 ((l.take (k+1)).filter p).length (Qw ((l.take (k+1)).filter p))/\Zp w.heap.size w w2):=Za (by
     refine ⟨by rw [Hi.o,MG,List.length_append,HMM.o]; exact ho,?_⟩;have BK:=B2.o.size;refine (B2.o.alloc BK _).grown hg Xo (fun q hq=>?_)
     rcases O2.o.2 with ⟨h1,_⟩ | ⟨g,Bg,cur,h1,h2,_⟩
     ·exact CF
     ·rw [h1] at hq; simp [Value.ownBlock] at hq; omega)
    clear ho hg Al e0 O2 B2;go_wp2_with fail;exact ZeS
   | false=>
    have Hi:Zj ((l.take (k+1)).filter p=(l.take k).filter p):=Za (by rw [HS.o,hp]; simp);clear HS hp;go_wp2_with fail;go_roundw
    case rel=>exact ⟨k+1,by omega,by go_num,Za (by rw [Hi.o]; exact O2.o),B2.o⟩
    case measure=>exact KX
  ·obtain rfl:k=n:=Zf;have HZ:Zj (wr.ownsRow w.heap.size 23 1 u6 (l.filter p).length (Qw (l.filter p))):=Za (by
    have:=HO.o;rwa [ZV dB] at this)
   have B2:=Za BR;clear XJ BR HO;have XJ: ¬k < k:=Zf;go_wp2_with fail;refine (HA.o _ _ HZ.o).mono ?_;rintro e w1 ⟨rfl,rfl⟩;go_wp2_with fail;go_ret2;exact ⟨rfl,B2.o⟩
end
end Go.Proofs.YtobgbcdgffgdhaaGreat
