/- Part 17 of 31: Exa Rul Aud. -/
import Derived.Test.YtobgbcdgffgdhaaGreatZw00
import Derived.Test.YtobgbcdgffgdhaaGreatZw12
import Derived.Test.YtobgbcdgffgdhaaGreatZw14
namespace Go.Proofs.YtobgbcdgffgdhaaGreat
set_option linter.unusedVariables false
set_option linter.unusedSimpArgs false
set_option maxRecDepth 100000
set_option maxHeartbeats 8000000
open _root_.And renaming intro -> Zn
open _root_.Go.RowKit renaming Below -> Zp
open _root_.Go.RowKit.Below renaming refl -> Zo
open _root_.Go.Proofs.YtobgbcdgffgdhaaGreat.Zu renaming new -> Zt
open _root_.Bool renaming eq_iff_iff -> Y2
open _root_.Go renaming Calls -> Zv, TypeId -> ZJ, Value -> Zk, World -> Zc, heap_alloc_new -> ZA
open _root_.Go.Instr renaming index -> Yn
open _root_.List renaming getD_eq_getElem?_getD -> Zm, getElem?_eq_getElem -> Zg, length_append -> ZF, mem_of_getElem? -> Zy, range -> YS, range_succ -> KC
open _root_.Go.Lit renaming int -> YJ
open _root_.Nat renaming le_refl -> Zh
open _root_.Go.Proofs.Tryz renaming prog -> Zb
open _root_.Go.Value renaming oneCell' -> Kn
open _root_.Go.World renaming setRow_alloc_new -> Zr
open Go.Proofs.Tryz
theorem BZ {G:Prop}(h:G:=by have:=h.vl; have:=h.sx.vn; omega) :G:=h
theorem oC {G H:Prop} (k:H) (h:DE H->G:=by
  intro zk;refine (HT.o Wd T.o.2.2).mono ?_;exact zk.o) :G:=h ⟨k⟩
theorem ZbH {G:Prop} (h:G:=by
  rintro e w1 ⟨rfl,hb⟩;have B1:Zl (Below w.heap.size w w1):=Za (T.o.2.2.trans (hb.mono T.o.2.2.size));clear hb;go_wp2_with fail;go_ret;exact ⟨rfl,B1.o⟩) :G:=h
theorem Zhq {G:Prop} (h:G:=by
  go_enter func54,ntmps54;go_upto_region 1 with (fail);generalize (w.alloc (.cells (Yy x) 28)).alloc (.cells (Zi c) 30)=Wd at*;have zv:=QS T.o.1 2;have zD:=QS T.o.1 3;have zP:=QS T.o.1 4;have zB:=QS T.o.1 5;go_wp2_with fail;refine oC ?_;rintro e w1 ⟨rfl,hb⟩;have T1:=Za (T.o.next hb);clear hb zv zD zP zB T;have zD:=QS T1.o.1 3;have zP:=QS T1.o.1 4;have zB:=QS T1.o.1 5;have N1:Zl (Zu (w1.alloc (.cells #[.int .u64 b,.int .u64 x.P,.int .u64 x.B] 23)) w1.heap.size 23 #[.int .u64 b,.int .u64 x.P,.int .u64 x.B]):=Za (Zu.new w1 _ _);have T2:=Za (T1.o.next ((Below.refl _ w1).alloc (Nat.le_refl _) (.cells #[.int .u64 b,.int .u64 x.P,.int .u64 x.B] 23)));go_wp2_with fail;generalize w1.alloc (.cells #[.int .u64 b,.int .u64 x.P,.int .u64 x.B] 23)=w2 at*;refine (HA.o _ _ N1.o).mono ?_;rintro e w3 ⟨rfl,rfl⟩;clear zD zP zB T1 N1;go_wp2_with fail;go_ret;exact ⟨rfl,T2.o.2.2⟩) :G:=h
theorem ZhH {G:Prop} (h:G:=by
  go_upto_region 1 with (fail);generalize (w.alloc (.cells (Yy x) 28)).alloc (.cells (Zi c) 30)=Wd at*;have zv:=QS T.o.1 2;go_wp2_with fail;refine (HX.o Wd T.o.2.2).mono ?_;exact ZbH) :G:=h
theorem Zh4 {G:Prop} (h:G:=by
  exact ZbH) :G:=h
theorem Zid {G:Prop} (h:G:=by
  go_wp2_with fail;go_roundw
  case rel=>exact ⟨k+1,by omega,by go_num,Za HZ.o.1,Za HZ.o.2⟩
  case measure=>simp [intOf]; omega) :G:=h
theorem Ziq {G:Prop} (h:G:=by
  go_wp2_with fail;go_roundw
  case rel=>exact ⟨j+1,by omega,by go_num,HA2,M2,B2⟩
  case measure=>simp [intOf]; omega) :G:=h
theorem dP {G:Prop} (h:G:=by
  go_wp2_with fail;go_ret;exact ⟨rfl,T1.o.2.2⟩) :G:=h
section
open Go Go.RowKit Go.Deep
def Nu (L:List Int)(k:Nat)(x:Int) :Int:=((L.take k).count x:Nat)
theorem lR (L:List Int)(x:Int) :Nu L 0 x=0:=by simp [Nu]
theorem wz {L:List Int}{k:Nat}{y:Int}(h:L[k]?=some y) : ∀x,Oa (Nu L k) y (Nu L k y+1) x=Nu L (k+1) x:=fun x=>by
 unfold Oa Nu;rw [List.take_add_one,h];simp only [Option.toList,List.count_append,List.count_cons,List.count_nil,beq_iff_eq]
 by_cases e:x=y
 ·subst e; simp
 ·rw [if_neg e,if_neg (fun h=>e h.symm)]; simp
theorem wy (L:List Int)(k:Nat)(x:Int) :0<=Nu L k x/\Nu L k x<=k:=by
 unfold Nu;have h1:=List.count_le_length (a:=x) (l:=L.take k);rw [List.length_take] at h1;omega
theorem Qd.below {w w':Zc}{m:Nat}{c:Int->Int}(h:Qd w m c)(hb:Zp w.heap.size w w') :Qd w' m c:=h.same (hb.block m h.lt)
theorem ZkP {n:Nat}(h:n<=4096) :(YJ .i64 (n:Int)).wf=true:=dO
theorem Ms (S T:Nat->Prop)(qa:Option Addr)(nq cq:Nat)(L:List Int)(a:Option Addr)(n cp:Nat)(f:Zk)(l:List ZN)(p:ZN->Bool)(w:Zc)(hq:Qf w T qa L)(hql:L.length=nq)(hqn:nq<=10000)(hqf: ∀x ∈ L,(YJ .i64 x).wf=true)
  (h:DH w S a l) (hl:l.length=n) (hn:n<=4096) (hm:PA w f l p) :
  Z3 104 #[.slice qa nq cq,.slice a n cp,f] w (.bool (OQ L l p)):=by
 have HQ:=Za (Zn hq (Zn hql hqf));have HL:=Za (Zn h hl);have HME:=Za hm;obtain ⟨t,ht⟩:=ZT (l.countP p);have HTL:Zl (t<=n):=Za (by rw [<-ht,<-hl]; exact List.countP_le_length);have HCN:Zl (∀W,Zp w.heap.size w W->Z3 113 #[.slice a n cp,f] W (.int .i64 ((t:Nat) :Int))):=Za fun W hb=>by
  rw [<-ht];exact Hs S a n cp f l p W (h.below hb) hl hn (hm.below hb)
 obtain ⟨r,hr⟩:=ZT (OQ L l p);have HE:Zl (r=(((YS n).all fun i=>!p (l.getD i ZS)||decide (L.count (i:Int)=1))&&decide (nq=t))):=Za (by rw [<-hr,<-hl,<-hql,<-ht]; rfl);rw [hr];have eh:= @run_makeMap Zb;obtain ⟨F,Gh,rfl,hen,VH⟩:=hm;have HC:=Za VH;have HM0:Zl (Qd (w.alloc (.map #[] 0)) w.heap.size (Nu L 0)):=Za ((Sz w).congr fun q=>(lR L q).symm);have B0:Zl (Zp w.heap.size w (w.alloc (.map #[] 0))):=Za ((Zo _ _).alloc (Zh _) _);obtain ⟨m,hmz⟩:=ZT (w.heap.size);have HMZ:=Za hmz;clear hq hql hqf h hl VH hr ht;go_enter func104,ntmps104;go_wp2_with fail;rw [hmz] at HM0;generalize w.alloc (.map #[] 0)=W0 at*;clear hmz eh;go_loopw [15] (fun s15 wr=> ∃k:Nat,k<=nq/\s15= .int .i64 k/\Zl (Qd wr m (Nu L k))/\Zl (Zp w.heap.size w wr)) (fun s15 _=>nq -(intOf s15).toNat)
 case atStart=>exact ⟨0,by omega,rfl,HM0,B0⟩
 case round=>
  obtain ⟨k,hk,rfl,HM,BR⟩:=hrel
  by_cases XV:k < nq
  ·obtain ⟨y,hy⟩ : ∃y,L[k]?=some y:=⟨_,Zg (by rw [HQ.o.2.1]; exact XV)⟩;obtain ⟨b,off,rfl,jR,NC,hc⟩:=HQ.o.1 (by rw [HQ.o.2.1]; omega);have UJ:wr.cell? ⟨b,off+k,none⟩=some (.int .i64 y):=by
    rw [BR.o.cell (p:=⟨b,off+k,none⟩) NC,hc k (by rw [HQ.o.2.1]; exact XV),Zm,hy];rfl
   have HW:Zl ((YJ .i64 y).wf=true):=Za (HQ.o.2.2 y (Zy hy));have jQ:=HM.o.lookup underlying3 underlying144 (LU wr) HW.o;obtain ⟨q0,q1⟩:=wy L k y;have HU:=Za (wz hy);have HG:=Za HM.o;obtain ⟨q,hq⟩:=ZT (Nu L k y);rw [hq] at jQ q0 q1 HU;clear hy hc jR NC HM hq;go_wp2_with (first | (refine FG rfl _ _ _ rfl HG.o underlying3 underlying144 y (q+1) rfl rfl rfl HW.o ?_; intro w1 M9 hg1));have HZ:Zl (Qd w1 m (Nu L (k+1))/\Zp w.heap.size w w1):=Za ⟨M9.congr HU.o,BR.o.grown hg1 BR.o.size (fun j hj=>by injection hj with hj; rw [<-hj,<-HMZ.o]; exact Zh _)⟩;clear M9 hg1 jQ HG BR UJ;exact Zid
  ·obtain rfl:k=nq:=Zf;have HM1:Zl (Qd wr m fun x=>((L.count x:Nat) :Int)):=Za (HM.o.congr fun x=>by unfold Nu; rw [List.take_of_length_le (by rw [HQ.o.2.1]; exact Zh _)]);clear XV HM;have XV: ¬k < k:=Zf;obtain ⟨V,hV⟩ : ∃V,V=wr:=⟨_,rfl⟩;subst hV;have HK:Zl (∀i,L.count i<=10000):=Za fun i=>Nat.le_trans List.count_le_length (by rw [HQ.o.2.1]; exact hqn)
   go_wp2_with fail;go_loopw [26] (fun s26 wr=> ∃j:Nat,j<=n/\s26= .int .i64 j/\Zl ((YS j).all (fun i=>!p (l.getD i ZS)||decide (L.count (i:Int)=1))=true)/\Zl (Qd wr m fun x=>((L.count x:Nat) :Int))/\Zl (Zp w.heap.size w wr)) (fun s26 _=>n -(intOf s26).toNat)
   case atStart=>exact ⟨0,by omega,rfl,Za rfl,HM1,BR⟩
   case round=>
    obtain ⟨j,hj,rfl,HA,HM,BR⟩:=hrel
    by_cases q7:j < n
    ·obtain ⟨v,hv⟩ : ∃v,l[j]?=some v:=⟨_,Zg (by rw [HL.o.2]; exact q7)⟩;obtain ⟨b,off,rfl,hr⟩:=(HL.o.1.below BR.o).at hv;have HR:=Za hr;have HVM:Zl (v ∈ l):=Za (Zy hv);have HGD:Zl (l.getD j ZS=v):=Za (by rw [Zm,hv]; rfl);have B1:Zl (Zp w.heap.size w (wr.alloc (.cells (Zd v) 68))):=Za (BR.o.alloc BR.o.size _);have M1:=Za (HM.o.alloc (.cells (Zd v) 68));have N1:Zl (Zu (wr.alloc (.cells (Zd v) 68)) wr.heap.size 68 (Zd v)):=Za (Zt wr _ _);clear hr hv BR HM;go_upto_region 10 with (first | (refine Xk rfl 68 _ rfl b (off+j*7) rfl v _ HR.o underlying68 rfl Yb ?_) | (refine UP wr.heap.size (Zd v) 68 (ZA wr _) Yb (Ys _) ?_; rw [Zr]));try simp only [Act.put]
     clear HR;generalize wr.alloc (.cells (Zd v) 68)=W at*;generalize wr.heap.size=g at*;go_wp2_with (first | (refine Kz 68 g N1.o underlying68 Yb ?_));refine (HC.o W v B1.o HVM.o).mono ?_;rintro e w1 ⟨rfl,hb⟩;have B2:Zl (Zp w.heap.size w w1):=Za (B1.o.trans (hb.mono B1.o.size));have M2:=Za (M1.o.below hb);clear hb B1 N1 HVM M1
     cases hp:p v with
     | true=>
      have jQ:=M2.o.lookup underlying3 underlying144 (LU w1) (ZkP (n:=j) Zf);have hk9:=HK.o (j:Int);obtain ⟨q,hq⟩:=ZT (L.count (j:Int));rw [hq] at jQ hk9
      by_cases h1:q=1
      ·have HA2:Zl ((YS (j+1)).all (fun i=>!p (l.getD i ZS)||decide (L.count (i:Int)=1))=true):=Za (by
        rw [KC,List.all_append,HA.o];simp [hq,h1])
       have d:(((q:Nat) :Int) != 1)=false:=by rw [h1]; rfl
       clear h1 hq hp hk9;exact Ziq
      ·have rm:r=false:=by
        rw [HE.o];have:((YS n).all fun i=>!p (l.getD i ZS)||decide (L.count (i:Int)=1))=false:=by
         rw [Bool.eq_false_iff];intro Dn;have h3:=List.all_eq_true.1 Dn j (List.mem_range.2 q7);rw [HGD.o,hp,hq] at h3;simp [h1] at h3
        rw [this];rfl
       subst rm;have d:(((q:Nat) :Int) != 1)=true:=Xl;clear h1 hq hp hk9;go_wp2_with fail;go_ret;exact ⟨rfl,B2.o⟩
     | false=>
      have HA2:Zl ((YS (j+1)).all (fun i=>!p (l.getD i ZS)||decide (L.count (i:Int)=1))=true):=Za (by
       rw [KC,List.all_append,HA.o];simp only [List.all_cons,List.all_nil,HGD.o,hp];rfl)
      clear hp;exact Ziq
    ·obtain rfl:j=n:=Zf;have d:((k:Int)==(t:Int))=r:=by
      rw [HE.o,HA.o,Bool.true_and,Y2,beq_iff_eq,decide_eq_true_eq];omega
     have d2:(k==t)=r:=by
      rw [<-d,Y2,beq_iff_eq,beq_iff_eq];omega
     have HX:=Za (HCN.o wr BR.o);clear q7 HA HM;have q7: ¬j < j:=Zf;go_wp2_with fail;refine HX.o.mono ?_;rintro e w1 ⟨rfl,hb⟩;have B2:Zl (Zp w.heap.size w w1):=Za (BR.o.trans (hb.mono BR.o.size));clear hb HX BR;go_wp2_with fail;go_ret;exact ⟨rfl,B2.o⟩
end
section
open Go Go.RowKit Go.Deep
structure DG (w:Zc)(x:Sx)(c:Nat->Int)(V:List ZN)(pd F W:List Int) :Prop where
 sx:vJ w (fun _=>False) x V pd F W
 vl:V.length<=4096
 pl:pd.length<=10000
 fl:F.length<=5000
 wl:W.length<=5000
 wd: ∀v ∈ V,-4611686018427387904<=v.wd/\v.wd<=4611686018427387904
 c10:0<=c 10/\c 10<=1048576
 c13:1<=c 13/\c 13<=4096
 c4:c 4<=1152921504606846976
theorem DG.below {w w':Zc}{x:Sx}{c:Nat->Int}{V:List ZN}{pd F W:List Int}(h:DG w x c V pd F W)(hb:Zp w.heap.size w w') :DG w' x c V pd F W:= { h with sx:=h.sx.below hb}
def SC (w W:Zc)(x:Sx)(c:Nat->Int) :Prop:=Zu W w.heap.size 28 (Yy x)/\Zu W (w.heap.size+1) 30 (Zi c)/\Zp w.heap.size w W
theorem nQ (w:Zc)(A:Obj)(cs:Array Zk)(t:ZJ) :Zu ((w.alloc A).alloc (.cells cs t)) (w.heap.size+1) t cs:=uo
theorem SC.new (w:Zc)(x:Sx)(c:Nat->Int) :SC w ((w.alloc (.cells (Yy x) 28)).alloc (.cells (Zi c) 30)) x c:=⟨(Zt w _ _).alloc _,nQ w _ _ _,((Zo _ _).alloc (Zh _) _).alloc ZE _⟩
theorem SC.next {w W W':Zc}{x:Sx}{c:Nat->Int}(h:SC w W x c)(hb:Zp W.heap.size W W') :SC w W' x c:=⟨h.1.below hb h.1.lt,h.2.1.below hb h.2.1.lt,h.2.2.trans (hb.mono h.2.2.size)⟩
theorem sR {P:Program}(w:Zc)(ts:Array ZJ)(t:ZJ)(a b c d e:Int) :(Builtin.max_ ts t #[.int .i64 a,.int .i64 b,.int .i64 c,.int .i64 d,.int .i64 e]).run P w= .ok (.int .i64 (max (max (max (max a b) c) d) e)) w:=by
 have e2: ∀x y:Int,(if y>x then y else x)=max x y:=fun x y=>by
  rw [Int.max_def]
  split <;> split <;> omega
 simp [Builtin.max_,Builtin.max2,e2]
theorem Bp (w:Zc)(F:Nat)(l:List ZN)(p:ZN->Bool)(he: ∀args w,(callFunc F args).run Zb w= .ok (.enter F args) w)(h: ∀v w1,Zv Zb F #[.agg (Zd v)] w1 fun o w2=>o= .returned (.bool (p v))/\Zp w1.heap.size w1 w2) :PA w (.func (.func F) #[] #[]) l p:=
 ⟨F,#[],rfl,he,fun w1 v _ _=>h v w1⟩
section
variable {x:Sx} {c:Nat->Int} {V:List ZN} {pd F W:List Int} {w:Zc}
theorem sG (h:DG w x c V pd F W) :Z3 53 #[.agg (Yy x),.agg (Zi c)] w (.bool (JU c (Ud x V pd F W) 0)):=by
 have T:=Za (SC.new w x c);have HH:=Za h;obtain ⟨r,hr⟩:=ZT (JU c (Ud x V pd F W) 0);rw [hr];have d:decide ((x.vn:Int)<=c 0)=r:=by rw [<-hr,<-h.sx.vn]; rfl
 clear h hr;go_enter func53,ntmps53;go_upto_region 1 with (fail);generalize (w.alloc (.cells (Yy x) 28)).alloc (.cells (Zi c) 30)=Wd at*;have zv:=QS T.o.1 2;have y0:=QS T.o.2.1 0;go_wp2_with fail;go_ret;exact ⟨rfl,T.o.2.2⟩
theorem sH (h:DG w x c V pd F W) :Z3 54 #[.agg (Yy x),.agg (Zi c)] w (.bool (JU c (Ud x V pd F W) 1)):=by
 have T:=Za (SC.new w x c);have HH:=Za h;obtain ⟨r,hr⟩:=ZT (JU c (Ud x V pd F W) 1);rw [hr];have HT:Zl (∀W1,Zp w.heap.size w W1->Z3 99 #[.slice x.va x.vn x.vc,.func (.func 100) #[] #[]] W1 (.tuple #[.int .u64 (LJ V fun _=>true),.bool (GK V fun _=>true)])):=Za fun W1 hb=>LK _ _ _ _ _ V _ W1 (h.sx.vl.below hb) h.sx.vn BZ h.sx.vf (Bp W1 _ V _ call100 Sd)
 have e1:(GK V fun _=>true)=decide (Zw V<=18446744073709551615):=by unfold GK; rw [Gr]
 have hn:=Jz h.sx.vf;have hP:=h.sx.nums.P;have hBn:=h.sx.nums.B;have hD:=h.sx.nums.D;unfold K64 at hP hBn hD;have HRB:Zl (r=decide (Zw V+x.P+x.B=x.D)):=Za hr.symm;have HN:=Za (Zn hn (Zn hP (Zn hBn hD)))
 by_cases h1:Zw V<=18446744073709551615
 ·have e2:(LJ V fun _=>true)=Zw V:=by unfold LJ; rw [Gr,if_pos h1]
  have e3:(GK V fun _=>true)=true:=by rw [e1]; exact decide_eq_true h1
  rw [e2,e3] at HT;obtain ⟨b,hb⟩:=ZT (Zw V);rw [hb] at HT HN HRB h1;have HA:Zl (∀(g:Nat) (W1:Zc),Zu W1 g 23 #[.int .u64 b,.int .u64 x.P,.int .u64 x.B]->YV 101 #[.slice (some ⟨g,0,none⟩) 3 3] W1 (.tuple #[.int .u64 (BO [b,x.P,x.B] 3),.bool (VU [b,x.P,x.B] 3)])):=Za fun g W1 hb=>DP g 0 3 3 [b,x.P,x.B] W1 Zf (fun i hi=>by
    have hc:=hb.cell i;have:i=0\/i=1\/i=2:=Zf;rw [Nat.zero_add]
    rcases this with rfl | rfl | rfl <;> exact hc) (fun i=>by
    have:=HN.o
    match i with
    | 0=>exact ⟨this.1,h1⟩
    | 1=>exact this.2.1
    | 2=>exact this.2.2.1
    | i+3=>exact ⟨by simp,by simp⟩)
  have e4:XW [b,x.P,x.B] 3=b+x.P+x.B:=by simp [XW]
  have e5:VU [b,x.P,x.B] 3=decide (b+x.P+x.B<=18446744073709551615):=by unfold VU; rw [e4]
  by_cases h2:b+x.P+x.B<=18446744073709551615
  ·have e6:BO [b,x.P,x.B] 3=b+x.P+x.B:=by unfold BO; rw [e4,if_pos h2]
   have e7:VU [b,x.P,x.B] 3=true:=by rw [e5]; exact decide_eq_true h2
   rw [e6,e7] at HA;have d:(b+x.P+x.B==x.D)=r:=by rw [HRB.o,Y2]; simp
   generalize b+x.P+x.B=sm at*;clear e1 hn hP hBn hD h h1 e2 e3 hb e4 e5 h2 e6 e7 hr;go_enter func54,ntmps54;go_upto_region 1 with (fail);generalize (w.alloc (.cells (Yy x) 28)).alloc (.cells (Zi c) 30)=Wd at*;have zv:=QS T.o.1 2;have zD:=QS T.o.1 3;have zP:=QS T.o.1 4;have zB:=QS T.o.1 5;go_wp2_with fail;refine oC ?_;rintro e w1 ⟨rfl,hb⟩;have T1:=Za (T.o.next hb);clear hb zv zD zP zB T;have zD:=QS T1.o.1 3;have zP:=QS T1.o.1 4;have zB:=QS T1.o.1 5;have N1:Zl (Zu (w1.alloc (.cells #[.int .u64 b,.int .u64 x.P,.int .u64 x.B] 23)) w1.heap.size 23 #[.int .u64 b,.int .u64 x.P,.int .u64 x.B]):=Za (Zt w1 _ _);have T2:=Za (T1.o.next ((Zo _ w1).alloc (Zh _) (.cells #[.int .u64 b,.int .u64 x.P,.int .u64 x.B] 23)));go_wp2_with fail;generalize w1.alloc (.cells #[.int .u64 b,.int .u64 x.P,.int .u64 x.B] 23)=w2 at*;refine (HA.o _ _ N1.o).mono ?_;rintro e w3 ⟨rfl,rfl⟩;clear zD zP zB T1 N1;have zD:=QS T2.o.1 3;go_wp2_with fail;go_ret;exact ⟨rfl,T2.o.2.2⟩
  ·have e7:VU [b,x.P,x.B] 3=false:=by rw [e5]; exact decide_eq_false h2
   rw [e7] at HA;have rm:r=false:=by rw [HRB.o]; exact decide_eq_false ZO
   subst rm;generalize BO [b,x.P,x.B] 3=sm at*;clear e1 hn hP hBn hD h h1 e2 e3 hb e4 e5 h2 e7 hr;exact Zhq
 ·have e3:(GK V fun _=>true)=false:=by rw [e1]; exact decide_eq_false h1
  rw [e3] at HT;have rm:r=false:=by rw [HRB.o]; exact lf
  subst rm;obtain ⟨b,hb⟩ : ∃b,(LJ V fun _=>true)=b:=⟨_,rfl⟩;have Ro:0<=b/\b<=18446744073709551615:=by rw [<-hb]; unfold LJ; rw [Gr,if_neg h1]; omega
  rw [hb] at HT;have HA:Zl (∀(g:Nat) (W1:Zc),Zu W1 g 23 #[.int .u64 b,.int .u64 x.P,.int .u64 x.B]->YV 101 #[.slice (some ⟨g,0,none⟩) 3 3] W1 (.tuple #[.int .u64 (BO [b,x.P,x.B] 3),.bool (VU [b,x.P,x.B] 3)])):=Za fun g W1 hb=>DP g 0 3 3 [b,x.P,x.B] W1 Zf (fun i hi=>by
    have hc:=hb.cell i;have:i=0\/i=1\/i=2:=Zf;rw [Nat.zero_add]
    rcases this with rfl | rfl | rfl <;> exact hc) (fun i=>by
    have:=HN.o
    match i with
    | 0=>exact Ro
    | 1=>exact this.2.1
    | 2=>exact this.2.2.1
    | i+3=>exact ⟨by simp,by simp⟩)
  generalize BO [b,x.P,x.B] 3=sm at*;generalize VU [b,x.P,x.B] 3=so at*;clear e1 hn hP hBn hD h h1 e3 hb Ro hr;exact Zhq
theorem sI (h:DG w x c V pd F W)(xh:c 4<=1152921504606846976) :Z3 55 #[.agg (Yy x),.agg (Zi c)] w (.bool (JU c (Ud x V pd F W) 2)):=by
 have T:=Za (SC.new w x c);have HH:=Za h;obtain ⟨r,hr⟩:=ZT (JU c (Ud x V pd F W) 2);rw [hr];have HT:Zl (∀W1,Zp w.heap.size w W1->Z3 99 #[.slice x.va x.vn x.vc,.func (.func 100) #[] #[]] W1 (.tuple #[.int .u64 (LJ V (fun _=>true)),.bool (GK V (fun _=>true))])):=Za fun W1 hb=>LK _ _ _ _ _ V _ W1 (h.sx.vl.below hb) h.sx.vn BZ h.sx.vf (Bp W1 _ V _ call100 Sd)
 by_cases h1:Zw V<=18446744073709551615
 ·have e2:LJ V (fun _=>true)=Zw V:=by unfold LJ; rw [Gr,if_pos h1]
  have e3:GK V (fun _=>true)=true:=by unfold GK; rw [Gr]; exact decide_eq_true h1
  rw [e2,e3] at HT;obtain ⟨b,hb⟩:=ZT (Zw V);rw [hb] at HT;have d:decide (b<=c 4)=r:=by rw [<-hr,<-hb]; rfl
  clear h h1 e2 e3 hb hr;go_enter func55,ntmps55;go_upto_region 1 with (fail);generalize (w.alloc (.cells (Yy x) 28)).alloc (.cells (Zi c) 30)=Wd at*;have zv:=QS T.o.1 2;have y4:=QS T.o.2.1 4;go_wp2_with fail;refine oC ?_;rintro e w1 ⟨rfl,hb⟩;have T1:=Za (T.o.next hb);clear hb T zv y4;have y4:=QS T1.o.2.1 4;exact dP
 ·have e3:GK V (fun _=>true)=false:=by unfold GK; rw [Gr]; exact decide_eq_false h1
  rw [e3] at HT;have rm:r=false:=by
   rw [<-hr]; exact decide_eq_false (show ¬Zw V<=c 4 by have:=xh; omega)
  subst rm;generalize LJ V (fun _=>true)=b at*;clear h h1 e3 hr;go_enter func55,ntmps55;go_upto_region 1 with (fail);generalize (w.alloc (.cells (Yy x) 28)).alloc (.cells (Zi c) 30)=Wd at*;have zv:=QS T.o.1 2;have y4:=QS T.o.2.1 4;go_wp2_with fail;refine oC ?_;rintro e w1 ⟨rfl,hb⟩;have T1:=Za (T.o.next hb);clear hb T zv y4;exact dP
theorem sJ (h:DG w x c V pd F W) :Z3 56 #[.agg (Yy x),.agg (Zi c)] w (.bool (JU c (Ud x V pd F W) 3)):=by
 have T:=Za (SC.new w x c);have HH:=Za h;obtain ⟨r,hr⟩:=ZT (JU c (Ud x V pd F W) 3);rw [hr];have HT:Zl (∀W1,Zp w.heap.size w W1->Z3 99 #[.slice x.va x.vn x.vc,.func (.func 102) #[] #[]] W1 (.tuple #[.int .u64 (LJ V (fun v=>VX v.st)),.bool (GK V (fun v=>VX v.st))])):=Za fun W1 hb=>LK _ _ _ _ _ V _ W1 (h.sx.vl.below hb) h.sx.vn BZ h.sx.vf (Bp W1 _ V _ call102 ar)
 by_cases h1:Ye V<=18446744073709551615
 ·have e2:LJ V (fun v=>VX v.st)=Ye V:=by unfold LJ; rw [MZ,if_pos h1]
  have e3:GK V (fun v=>VX v.st)=true:=by unfold GK; rw [MZ]; exact decide_eq_true h1
  rw [e2,e3] at HT;obtain ⟨b,hb⟩:=ZT (Ye V);rw [hb] at HT;have d:(b==x.ac)=r:=by
   rw [<-hr,<-hb,Y2,beq_iff_eq];show _ ↔ decide (Ye V=x.ac)=true;rw [decide_eq_true_eq]
  clear h h1 e2 e3 hb hr;go_enter func56,ntmps56;go_upto_region 1 with (fail);generalize (w.alloc (.cells (Yy x) 28)).alloc (.cells (Zi c) 30)=Wd at*;have zv:=QS T.o.1 2;have zac:=QS T.o.1 6;go_wp2_with fail;refine oC ?_;rintro e w1 ⟨rfl,hb⟩;have T1:=Za (T.o.next hb);clear hb T zv zac;have zac:=QS T1.o.1 6;exact dP
 ·have e3:GK V (fun v=>VX v.st)=false:=by unfold GK; rw [MZ]; exact decide_eq_false h1
  rw [e3] at HT;have rm:r=false:=by
   rw [<-hr]; exact decide_eq_false (show ¬Ye V=x.ac by have:=h.sx.nums.ac.2; omega)
  subst rm;generalize LJ V (fun v=>VX v.st)=b at*;clear h h1 e3 hr;go_enter func56,ntmps56;go_upto_region 1 with (fail);generalize (w.alloc (.cells (Yy x) 28)).alloc (.cells (Zi c) 30)=Wd at*;have zv:=QS T.o.1 2;have zac:=QS T.o.1 6;go_wp2_with fail;refine oC ?_;rintro e w1 ⟨rfl,hb⟩;have T1:=Za (T.o.next hb);clear hb T zv zac;exact dP
theorem sK (h:DG w x c V pd F W) :Z3 57 #[.agg (Yy x),.agg (Zi c)] w (.bool (JU c (Ud x V pd F W) 4)):=by
 have T:=Za (SC.new w x c);have HH:=Za h;obtain ⟨r,hr⟩:=ZT (JU c (Ud x V pd F W) 4);rw [hr];have HX:Zl (∀W1,Zp w.heap.size w W1->Z3 104 #[.slice x.pa x.pn x.pc,.slice x.va x.vn x.vc,.func (.func 105) #[] #[]] W1 (.bool r)):=Za fun W1 hb=>by
  rw [<-hr];exact Ms _ _ _ _ _ pd _ _ _ _ V isP W1 (h.sx.pl.below hb) h.sx.pn (by have:=h.pl; have:=h.sx.pn; omega) h.sx.pf (h.sx.vl.below hb) h.sx.vn BZ (Bp W1 _ V _ call105 Ii)
 clear h hr;go_enter func57,ntmps57;go_upto_region 1 with (fail);generalize (w.alloc (.cells (Yy x) 28)).alloc (.cells (Zi c) 30)=Wd at*;have zv:=QS T.o.1 2;have zp:=QS T.o.1 7;go_wp2_with fail;refine (HX.o Wd T.o.2.2).mono ?_;exact Zh4
theorem sL (h:DG w x c V pd F W) :Z3 58 #[.agg (Yy x),.agg (Zi c)] w (.bool (JU c (Ud x V pd F W) 5)):=by
 have T:=Za (SC.new w x c);have HH:=Za h;obtain ⟨r,hr⟩:=ZT (JU c (Ud x V pd F W) 5);rw [hr];have HX:Zl (∀(v:Zk) (W1:Zc),Zp w.heap.size w W1->Hn W1 0 v (F++W)->Z3 104 #[v,.slice x.va x.vn x.vc,.func (.func 107) #[] #[]] W1 (.bool r)):=Za fun v W1 hb ho=>by
  obtain ⟨qa,qc,rfl,q1,q2,q3,q4⟩:=Kb (S:=fun _=>False) ho fun _ _ h=>h
  rw [<-hr];exact Ms _ _ _ _ _ (F++W) _ _ _ _ V isE W1 q4 q1 (by have:=h.fl; have:=h.wl; rw [ZF]; omega) (fun y hy=>(List.mem_append.1 hy).elim (h.sx.ff y) (h.sx.wf y)) (h.sx.vl.below hb) h.sx.vn BZ (Bp W1 _ V _ call107 fm)
 have HC:Zl (∀(g:Nat) (W1:Zc),Zp w.heap.size w W1->Zu W1 g 24 #[.slice x.fa x.fn x.fc,.slice x.wa x.wn x.wc]->Zv Zb 106 #[.slice (some ⟨g,0,none⟩) 2 2] W1 fun e w'=> ∃v,e= .returned v/\Hn w' W1.heap.size v (F++W)/\Zp W1.heap.size W1 w'):=Za fun g W1 hb hB=>eP _ _ _ _ _ _ _ g F W W1 (h.sx.fl.below hb) (h.sx.wl.below hb) h.sx.fn h.sx.wn (by have:=h.fl; have:=h.sx.fn; omega) (by have:=h.wl; have:=h.sx.wn; omega) (hB.cell 0) (hB.cell 1)
 clear h hr;go_enter func58,ntmps58;go_upto_region 1 with (fail);generalize (w.alloc (.cells (Yy x) 28)).alloc (.cells (Zi c) 30)=Wd at*;have zv:=QS T.o.1 2;have zf:=QS T.o.1 8;have zw:=QS T.o.1 9;have N1:Zl (Zu (Wd.alloc (.cells #[.slice x.fa x.fn x.fc,.slice x.wa x.wn x.wc] 24)) Wd.heap.size 24 #[.slice x.fa x.fn x.fc,.slice x.wa x.wn x.wc]):=Za (Zt Wd _ _);have T1:=Za (T.o.next ((Zo _ Wd).alloc (Zh _) (.cells #[.slice x.fa x.fn x.fc,.slice x.wa x.wn x.wc] 24)));go_wp2_with fail;generalize Wd.alloc (.cells #[.slice x.fa x.fn x.fc,.slice x.wa x.wn x.wc] 24)=w2 at*;refine (HC.o _ w2 T1.o.2.2 N1.o).mono ?_;rintro e w3 ⟨v,rfl,ho,hb⟩;have O3:=Za (Fv (C:=0) ho (Nat.zero_le _));have T3:=Za (T1.o.next hb);clear ho hb zv zf zw T T1 N1;have zv:=QS T3.o.1 2;go_wp2_with fail;refine (HX.o v w3 T3.o.2.2 O3.o).mono ?_;rintro e w1 ⟨rfl,hb⟩;have B1:Zl (Zp w.heap.size w w1):=Za (T3.o.2.2.trans (hb.mono T3.o.2.2.size));clear hb;go_wp2_with fail;go_ret;exact ⟨rfl,B1.o⟩
theorem sM (h:DG w x c V pd F W) :Z3 59 #[.agg (Yy x),.agg (Zi c)] w (.bool (JU c (Ud x V pd F W) 6)):=by
 have T:=Za (SC.new w x c);have HH:=Za h;obtain ⟨r,hr⟩:=ZT (JU c (Ud x V pd F W) 6);rw [hr];have HX:Zl (∀W1,Zp w.heap.size w W1->Zu W1 (w.heap.size+1) 30 (Zi c)->Z3 108 #[.slice x.va x.vn x.vc,.func (.func 109) #[] #[.pointer (some ⟨w.heap.size+1,0,none⟩)]] W1 (.bool r)):=Za fun W1 hb hB=>by
  rw [<-hr];exact MB _ _ _ _ _ V (okE c) W1 (h.sx.vl.below hb) h.sx.vn BZ ⟨_,#[.pointer (some ⟨w.heap.size+1,0,none⟩)],rfl,call109,fun w1 v EX hv=>bd v c _ w1 (hB.below EX hB.lt) (h.wd v hv).1 (h.wd v hv).2 h.c10.1 h.c10.2⟩
 have CQ: ∀(a:Zk) (w:Zc),(Instr.makeFunc (.func 109) #[] #[a]).run Zb w= .ok (.func (.func 109) #[] #[a]) w:=fun a w=>by first | rfl | kernel_rfl
 clear h hr;go_enter func59,ntmps59;go_upto_region 1 with (fail);generalize (w.alloc (.cells (Yy x) 28)).alloc (.cells (Zi c) 30)=Wd at*;have zv:=QS T.o.1 2;go_wp2_with fail;refine (HX.o Wd T.o.2.2 T.o.2.1).mono ?_;exact Zh4
theorem sN (h:DG w x c V pd F W) :Z3 60 #[.agg (Yy x),.agg (Zi c)] w (.bool (JU c (Ud x V pd F W) 7)):=by
 have T:=Za (SC.new w x c);have HH:=Za h;obtain ⟨r,hr⟩:=ZT (JU c (Ud x V pd F W) 7);rw [hr];have HX:Zl (∀W1,Zp w.heap.size w W1->Z3 108 #[.slice x.va x.vn x.vc,.func (.func 111) #[] #[]] W1 (.bool r)):=Za fun W1 hb=>by
  rw [<-hr];exact MB _ _ _ _ _ V okZ W1 (h.sx.vl.below hb) h.sx.vn BZ (Bp W1 _ V _ call111 eX)
 clear h hr;go_enter func60,ntmps60;exact ZhH
theorem sO (h:DG w x c V pd F W) :Z3 61 #[.agg (Yy x),.agg (Zi c)] w (.bool (JU c (Ud x V pd F W) 8)):=by
 have T:=Za (SC.new w x c);have HH:=Za h;obtain ⟨r,hr⟩:=ZT (JU c (Ud x V pd F W) 8);rw [hr];obtain ⟨t,ht⟩:=ZT (V.countP isU);have HX:Zl (∀W1,Zp w.heap.size w W1->Z3 113 #[.slice x.va x.vn x.vc,.func (.func 114) #[] #[]] W1 (.int .i64 ((t:Nat) :Int))):=Za fun W1 hb=>by
  rw [<-ht];exact Hs _ _ _ _ _ V isU W1 (h.sx.vl.below hb) h.sx.vn BZ (Bp W1 _ V _ call114 tq)
 have d:(x.un==(t:Int))=r:=by
  rw [<-hr,<-ht,Y2,beq_iff_eq];show _ ↔ decide (x.un=(V.countP isU:Nat))=true;rw [decide_eq_true_eq]
 clear h hr ht;go_enter func61,ntmps61;go_upto_region 1 with (fail);generalize (w.alloc (.cells (Yy x) 28)).alloc (.cells (Zi c) 30)=Wd at*;refine J2 (fun w'=>SC w w' x c) ZC ZC (T.o.next (Zo _ _).drew) ?_;refine Gz ?_;refine Vk _ ⟨w.heap.size,14,none⟩ (.int .i64 x.un) (fun w' h=>h.1.cell 14) ?_;refine X5 ?_;refine Gz ?_;refine Vk _ ⟨w.heap.size,2,none⟩ (.slice x.va x.vn x.vc) (fun w' h=>h.1.cell 2) ?_;refine X5 ?_;refine O7 (.int .i64 (t:Int)) #[.slice x.va x.vn x.vc,.func (.func 114) #[] #[]] ZC ZC call113 (fun w' h=>(HX.o w' h.2.2).mono fun e w'' ⟨he,hb⟩=>⟨he,h.next hb⟩) ?_;try simp only [qA]
 refine B9 ?_;refine XK ?_;intro w1 NI;have T1:=Za NI;clear NI T;exact dP
theorem sP (h:DG w x c V pd F W) :Z3 62 #[.agg (Yy x),.agg (Zi c)] w (.bool (JU c (Ud x V pd F W) 9)):=by
 have T:=Za (SC.new w x c);have HH:=Za h;obtain ⟨r,hr⟩:=ZT (JU c (Ud x V pd F W) 9);rw [hr];have hp:=h.sx.pn;have hf:=h.sx.fn;have hw:=h.sx.wn;have b1:=h.pl;have b2:=h.fl;have b3:=h.wl;have b4:=h.sx.nums.mn;have b5:=h.sx.nums.tn;obtain ⟨q,hq⟩ : ∃q:Int,max (max (max (max (x.pn:Int) x.fn) x.wn) x.mn) x.tn=q:=⟨_,rfl⟩;have hmx: ∀(ts:Array ZJ) (t:ZJ) (w:Zc),(Builtin.max_ ts t #[.int .i64 (x.pn:Int),.int .i64 (x.fn:Int),.int .i64 (x.wn:Int),.int .i64 (x.mn:Int),.int .i64 (x.tn:Int)]).run Zb w= .ok (.int .i64 q) w:=fun ts t w=>by rw [sR,hq]
 have d:decide (q<=c 1)=r:=by
  rw [<-hr,Y2,decide_eq_true_eq];show _ ↔ decide ((pd.length:Int)<=c 1/\(F.length:Int)<=c 1/\(W.length:Int)<=c 1/\(x.mn:Int)<=c 1/\(x.tn:Int)<=c 1)=true;rw [decide_eq_true_eq,hp,hf,hw];omega
 have HQ:=Za hq;clear h hr hp hf hw b1 b2 b3 b4 b5 hq;go_enter func62,ntmps62;go_upto_region 1 with (fail);generalize (w.alloc (.cells (Yy x) 28)).alloc (.cells (Zi c) 30)=Wd at*;have zp:=QS T.o.1 7;have zf:=QS T.o.1 8;have zw:=QS T.o.1 9;have zm:=QS T.o.1 10;have zt:=QS T.o.1 11;have y1:=QS T.o.2.1 1;go_wp2_with fail;go_ret;exact ⟨rfl,T.o.2.2⟩
theorem nI (h:DG w x c V pd F W) :Z3 63 #[.agg (Yy x),.agg (Zi c)] w (.bool (JU c (Ud x V pd F W) 10)):=by
 have T:=Za (SC.new w x c);have HH:=Za h;obtain ⟨r,hr⟩:=ZT (JU c (Ud x V pd F W) 10);rw [hr];have c13:=h.c13;have HB:=Za h.sx.nums.bk;have HRB:Zl (r=decide (0<=x.bk/\x.ep=x.bk/c 13)):=Za hr.symm;clear h hr
 by_cases h0:0<=x.bk
 ·have d0:decide (0<=x.bk)=true:=decide_eq_true h0;have d1:decide (1<=c 13)=true:=decide_eq_true c13.1;have d:(x.ep==x.bk/c 13)=r:=by
   rw [HRB.o,Y2,beq_iff_eq,decide_eq_true_eq];omega
  have hz: ¬c 13=0:=Zf;have hq:wrap64 (x.bk.tdiv (c 13))=x.bk/c 13:=by
   have:=HB.o;unfold J64 at this;have q0:0<=x.bk/c 13:=Int.ediv_nonneg h0 Zf;have q1:x.bk/c 13<=x.bk:=Int.ediv_le_self _ h0;rw [Int.tdiv_eq_ediv_of_nonneg h0];generalize x.bk/c 13=z at*;unfold wrap64;omega
  go_enter func63,ntmps63;go_upto_region 1 with (fail);generalize (w.alloc (.cells (Yy x) 28)).alloc (.cells (Zi c) 30)=Wd at*;have zbk:=QS T.o.1 0;have zep:=QS T.o.1 1;have y13:=QS T.o.2.1 13;go_quiet (fail);go_wp2_with fail;go_ret;exact ⟨rfl,below_drewN T.o.2.2 _⟩
 ·have d0:decide (0<=x.bk)=false:=decide_eq_false h0;have rm:r=false:=by rw [HRB.o]; exact lf
  subst rm;clear h0;go_enter func63,ntmps63;go_upto_region 1 with (fail);generalize (w.alloc (.cells (Yy x) 28)).alloc (.cells (Zi c) 30)=Wd at*;have zbk:=QS T.o.1 0;have zep:=QS T.o.1 1;have y13:=QS T.o.2.1 13;go_quiet (fail);go_wp2;go_ret;exact ⟨rfl,below_drewN T.o.2.2 _⟩
theorem nJ (h:DG w x c V pd F W) :Z3 64 #[.agg (Yy x),.agg (Zi c)] w (.bool (JU c (Ud x V pd F W) 11)):=by
 have T:=Za (SC.new w x c);have HH:=Za h;obtain ⟨r,hr⟩:=ZT (JU c (Ud x V pd F W) 11);rw [hr];have HX:Zl (∀W1,Zp w.heap.size w W1->Z3 108 #[.slice x.va x.vn x.vc,.func (.func 115) #[] #[]] W1 (.bool r)):=Za fun W1 hb=>by
  rw [<-hr];exact MB _ _ _ _ _ V okS W1 (h.sx.vl.below hb) h.sx.vn BZ (Bp W1 _ V _ call115 ID)
 clear h hr;go_enter func64,ntmps64;exact ZhH
end
end
section
open Go Go.RowKit Go.Deep
def cP:Nat->ByteArray
 | 0=>⟨#[99,97,112,97,99,105,116,121]⟩
 | 1=>⟨#[115,117,109]⟩
 | 2=>⟨#[115,117,112,112,108,121]⟩
 | 3=>⟨#[97,99,116,105,118,101]⟩
 | 4=>⟨#[112,101,110,100,105,110,103]⟩
 | 5=>⟨#[101,120,105,116,115]⟩
 | 6=>⟨#[101,112,111,99,104,115]⟩
 | 7=>⟨#[101,109,112,116,121]⟩
 | 8=>⟨#[117,110,98,111,110,100,105,110,103]⟩
 | 9=>⟨#[113,117,101,117,101,115]⟩
 | 10=>⟨#[99,108,111,99,107]⟩
 | 11=>⟨#[115,108,97,115,104,101,100]⟩
 | _=>⟨#[]⟩
def Wt:Nat->Nat
 | 0=>53
 | 1=>54
 | 2=>55
 | 3=>56
 | 4=>57
 | 5=>58
 | 6=>59
 | 7=>60
 | 8=>61
 | 9=>62
 | 10=>63
 | 11=>64
 | _=>0
def JB (k:Nat) :Array Zk:= #[.string (cP k),.func (.func (Wt k)) #[] #[]]
def BS:Array Zk:= #[.string (cP 0),.func (.func (Wt 0)) #[] #[],.string (cP 1),.func (.func (Wt 1)) #[] #[],.string (cP 2),.func (.func (Wt 2)) #[] #[],.string (cP 3),.func (.func (Wt 3)) #[] #[],.string (cP 4),.func (.func (Wt 4)) #[] #[],.string (cP 5),.func (.func (Wt 5)) #[] #[],.string (cP 6),.func (.func (Wt 6)) #[] #[],.string (cP 7),.func (.func (Wt 7)) #[] #[],.string (cP 8),.func (.func (Wt 8)) #[] #[],.string (cP 9),.func (.func (Wt 9)) #[] #[],.string (cP 10),.func (.func (Wt 10)) #[] #[],.string (cP 11),.func (.func (Wt 11)) #[] #[]]
theorem kj (k:Nat) :(JB k).all (·.oneCell')=true:=by simp [JB,Kn]
theorem sQ:BS.all (·.oneCell')=true:=by simp [BS,Kn]
theorem jZ:(Tryz.prog.info? 74).map (·.size)=some 2:=ZC
theorem rB:(Tryz.prog.info? 30).map (·.size)=some 20:=ZC
theorem cv:(Tryz.prog.info? 75).map (·.size)=some 24:=ZC
theorem fU (w:Zc) :(Yn 75 (.agg BS) (.int .i64 (0:Nat))).run Zb w= .ok (.agg (JB 0)) w:=ZC
theorem fV (w:Zc) :(Yn 75 (.agg BS) (.int .i64 (1:Nat))).run Zb w= .ok (.agg (JB 1)) w:=ZC
theorem fW (w:Zc) :(Yn 75 (.agg BS) (.int .i64 (2:Nat))).run Zb w= .ok (.agg (JB 2)) w:=ZC
theorem fX (w:Zc) :(Yn 75 (.agg BS) (.int .i64 (3:Nat))).run Zb w= .ok (.agg (JB 3)) w:=ZC
theorem fY (w:Zc) :(Yn 75 (.agg BS) (.int .i64 (4:Nat))).run Zb w= .ok (.agg (JB 4)) w:=ZC
theorem fZ (w:Zc) :(Yn 75 (.agg BS) (.int .i64 (5:Nat))).run Zb w= .ok (.agg (JB 5)) w:=ZC
theorem gb (w:Zc) :(Yn 75 (.agg BS) (.int .i64 (6:Nat))).run Zb w= .ok (.agg (JB 6)) w:=ZC
theorem gd (w:Zc) :(Yn 75 (.agg BS) (.int .i64 (7:Nat))).run Zb w= .ok (.agg (JB 7)) w:=ZC
theorem gg (w:Zc) :(Yn 75 (.agg BS) (.int .i64 (8:Nat))).run Zb w= .ok (.agg (JB 8)) w:=ZC
theorem gh (w:Zc) :(Yn 75 (.agg BS) (.int .i64 (9:Nat))).run Zb w= .ok (.agg (JB 9)) w:=ZC
theorem cm (w:Zc) :(Yn 75 (.agg BS) (.int .i64 (10:Nat))).run Zb w= .ok (.agg (JB 10)) w:=ZC
theorem cn (w:Zc) :(Yn 75 (.agg BS) (.int .i64 (11:Nat))).run Zb w= .ok (.agg (JB 11)) w:=ZC
theorem OY (k:Nat)(hk:k < 12)(w:Zc) :(Yn 75 (.agg BS) (.int .i64 (k:Int))).run Zb w= .ok (.agg (JB k)) w:=by
 have:k=0\/k=1\/k=2\/k=3\/k=4\/k=5\/k=6\/k=7\/k=8\/k=9\/k=10\/k=11:=Zf
 rcases this with rfl | rfl | rfl | rfl | rfl | rfl | rfl | rfl | rfl | rfl | rfl | rfl
 ·exact fU w
 ·exact fV w
 ·exact fW w
 ·exact fX w
 ·exact fY w
 ·exact fZ w
 ·exact gb w
 ·exact gd w
 ·exact gg w
 ·exact gh w
 ·exact cm w
 ·exact cn w
theorem Am (k:Nat)(hk:k < 12)(args:Array Zk)(w:Zc) :(callFunc (Wt k) args).run Zb w= .ok (.enter (Wt k) args) w:=by
 have:k=0\/k=1\/k=2\/k=3\/k=4\/k=5\/k=6\/k=7\/k=8\/k=9\/k=10\/k=11:=Zf
 rcases this with rfl | rfl | rfl | rfl | rfl | rfl | rfl | rfl | rfl | rfl | rfl | rfl
 ·exact call53 args w
 ·exact call54 args w
 ·exact call55 args w
 ·exact call56 args w
 ·exact call57 args w
 ·exact call58 args w
 ·exact call59 args w
 ·exact call60 args w
 ·exact call61 args w
 ·exact call62 args w
 ·exact call63 args w
 ·exact call64 args w
theorem kh {x:Sx}{c:Nat->Int}{V:List ZN}{pd F W:List Int}(k:Nat)(hk:k < 12)(w:Zc)(h:DG w x c V pd F W) :Zv Zb (Wt k) #[.agg (Yy x),.agg (Zi c)] w fun e w'=>e= .returned (.bool (JU c (Ud x V pd F W) k))/\Zp w.heap.size w w':=by
 have:k=0\/k=1\/k=2\/k=3\/k=4\/k=5\/k=6\/k=7\/k=8\/k=9\/k=10\/k=11:=Zf
 rcases this with rfl | rfl | rfl | rfl | rfl | rfl | rfl | rfl | rfl | rfl | rfl | rfl
 ·exact sG h
 ·exact sH h
 ·exact sI h h.c4
 ·exact sJ h
 ·exact sK h
 ·exact sL h
 ·exact sM h
 ·exact sN h
 ·exact sO h
 ·exact sP h
 ·exact nI h
 ·exact nJ h
theorem Mc (w:Zc) :Z3 30 #[] w (.agg BS):=by
 go_enter func30,ntmps30;go_wp2_with (first | (refine UP w.heap.size BS 75 (ZA w _) cv sQ ?_; rw [Zr]));exact bodyPost_ret (v:= .agg BS) (results_cell_row (fn:=Tryz.f30) rfl _ _ w.heap.size 75 _ (0,0) _ rfl (ZA w _) underlying75 rfl cv) rfl ⟨rfl,(Zo _ _).alloc (Zh _) _⟩
theorem Oz (w:Zc) :Z3 24 #[] w (.int .i64 12):=by
 go_enter func24,ntmps24;go_wp2_with fail;refine (Mc w).mono ?_;rintro e w1 ⟨rfl,hb⟩;have HB:=Za hb;clear hb;generalize BS=q at*;exact uv
def cI (r:Int) :ByteArray:=if 1<=r/\r<=12 then cP (r - 1).toNat else⟨#[]⟩
theorem Zcu (k:Nat)(w:Zc) :(Instr.field 74 (.agg (JB k)) 0).run Zb w= .ok (.string (cP k)) w:=ZC
theorem o4 (r:Int)(w:Zc)(hr:(YJ .i64 r).wf=true) :Z3 23 #[.int .i64 r] w (.string (cI r)):=by
 obtain ⟨b0,b1⟩:=bounds_i64 hr;clear hr
 by_cases h1:r < 1
 ·have e:cI r=⟨#[]⟩:=if_neg Zf;have d:decide (r < 1)=true:=decide_eq_true h1;rw [e];clear h1 e b0 b1;go_enter func23,ntmps23;go_wp2_with fail;go_ret;exact ⟨rfl,Zo _ _⟩
 ·have d:decide (r < 1)=false:=decide_eq_false h1
  by_cases h2:12 < r
  ·have e:cI r=⟨#[]⟩:=if_neg Zf;have d2:decide (12 < r)=true:=decide_eq_true h2;rw [e];clear h1 h2 e b0 b1;go_enter func23,ntmps23;go_wp2_with fail;refine (Oz w).mono ?_;rintro e w1 ⟨rfl,hb⟩;have HB:=Za hb;clear hb;exact uv
  ·have d2:decide (12 < r)=false:=decide_eq_false h2;obtain ⟨k,hk⟩ : ∃k:Nat,r=(k:Int)+1:=⟨(r - 1).toNat,by omega⟩;have hk12:k < 12:=Zf;have e:cI r=cP k:=by unfold cI; rw [if_pos Zf,show (r - 1).toNat=k by omega]
   rw [e];have hw:wrap64 (r - 1)=(k:Int):=by unfold wrap64; omega
   have HI:=Za (OY k hk12);have HF:=Za (Zcu k);generalize hq:cP k=q at*;generalize Ov:JB k=ro at*;clear h1 h2 e b0 b1 hq Ov hk;go_enter func23,ntmps23;go_wp2_with fail;refine (Oz w).mono ?_;rintro e w1 ⟨rfl,hb⟩;have HB:=Za hb;clear hb;go_wp2_with fail;refine (Mc w1).mono ?_;rintro e w2 ⟨rfl,hb⟩;have Gv:Zl (Zp w.heap.size w w2):=Za (HB.o.trans (hb.mono HB.o.size));clear hb;have hI:=HI.o;have hF:=HF.o;generalize BS=rc at*;go_wp2_with fail;go_ret;exact ⟨rfl,Gv.o⟩
theorem Ow {x:Sx}{c:Nat->Int}{V:List ZN}{pd F W:List Int}(w:Zc)(h:DG w x c V pd F W) :Z3 16 #[.agg (Yy x),.agg (Zi c)] w (.int .i64 (Dl c (Ud x V pd F W))):=by
 have T0:=Za (SC.new w x c);have HH:=Za h;generalize hs:Ud x V pd F W=s at*;have HS:=Za hs;clear h hs;go_enter func16,ntmps16;go_upto_region 1 with (fail);generalize (w.alloc (.cells (Yy x) 28)).alloc (.cells (Zi c) 30)=Wd at*;go_wp2_with fail;refine (Mc Wd).mono ?_;rintro e w1 ⟨rfl,hb⟩;have T1:=Za (T0.o.next hb);clear hb T0;go_wp2_with fail;go_loopw [8] (fun s8 wr=> ∃k:Nat,k<=12/\s8= .int .i64 k/\Zl (KW c s k=[])/\Zl (SC w wr x c)) (fun s8 _=>12 -(intOf s8).toNat)
 case atStart=>exact ⟨0,by omega,rfl,Za rfl,T1⟩
 case round=>
  obtain ⟨k,hk,rfl,HV,T⟩:=hrel
  by_cases L1:k < 12
  ·have hix:=OY k L1;have hen:=Am k L1;have SZ:=kj k;have T2:=Za (T.o.next ((Zo _ wr).alloc (Zh _) (.cells (JB k) 74)));have N2:Zl (Zu (wr.alloc (.cells (JB k) 74)) wr.heap.size 74 (JB k)):=Za (Zt wr _ _);have HR:Zl (∀W',Zp w.heap.size w W'->Zv Zb (Wt k) #[.agg (Yy x),.agg (Zi c)] W' fun e w'=>e= .returned (.bool (JU c s k))/\Zp W'.heap.size W' w'):=Za fun W' hb=>by
    rw [<-HS.o];exact kh k L1 W' (HH.o.below hb)
   clear T;generalize hrc:BS=rc at*;clear hrc;go_upto_region 4 with (first | (refine UP wr.heap.size (JB k) 74 (ZA wr _) jZ SZ ?_; rw [Zr]));try simp only [Act.put]
   generalize wr.alloc (.cells (JB k) 74)=W2 at*;generalize wr.heap.size=g at*;have z1:W2.cell? ⟨g,1,none⟩=some (.func (.func (Wt k)) #[] #[]):=N2.o.cell 1;clear hix SZ N2;generalize Wt k=fk at*;go_wp2_with (first | (refine Kz 28 w.heap.size T2.o.1 underlying28 Lf ?_) | (refine Kz 30 (w.heap.size+1) T2.o.2.1 underlying30 rB ?_));refine (HR.o W2 T2.o.2.2).mono ?_;rintro e w3 ⟨rfl,hb⟩;have T3:=Za (T2.o.next hb);clear hb HR T2 z1
   cases hr:JU c s k with
   | true=>
    have HV2:Zl (KW c s (k+1)=[]):=Za ((TZ hr).trans HV.o);clear hr HV;go_wp2_with fail;go_roundw
    case rel=>exact ⟨k+1,by omega,by go_num,HV2,T3⟩
    case measure=>exact VL
   | false=>
    have HF:Zl (Dl c s=(k:Int)+1):=Za (qq L1 HV.o hr);clear hr HV;go_wp2_with fail;go_ret;exact ⟨by rw [HF.o]; rfl,T3.o.2.2⟩
  ·obtain rfl:k=12:=Zf;have HF:Zl (Dl c s=0):=Za (SJ HV.o);clear HV;generalize BS=rc at*;go_wp2_with fail;go_ret;exact ⟨by rw [HF.o]; rfl,T.o.2.2⟩
theorem vk {x:Sx}{c:Nat->Int}{V:List ZN}{pd F W:List Int}(w:Zc)(h:DG w x c V pd F W) :Zv Zb 13 #[.agg (Yy x),.agg (Zi c)] w fun e w'=> ∃v,e= .returned v/\Hn w' w.heap.size v (KW c (Ud x V pd F W) 12)/\Zp w.heap.size w w':=by
 have T0:=Za (SC.new w x c);have HH:=Za h;generalize hs:Ud x V pd F W=s at*;have HS:=Za hs;obtain ⟨i8,hi8,hz8,hs8,hb8⟩:=Bg;clear h hs;go_enter func13,ntmps13;go_upto_region 1 with (fail);generalize (w.alloc (.cells (Yy x) 28)).alloc (.cells (Zi c) 30)=Wd at*;go_wp2_with fail;refine (Mc Wd).mono ?_;rintro e w1 ⟨rfl,hb⟩;have T1:=Za (T0.o.next hb);clear hb T0;go_wp2_with fail;go_loopw [5,9] (fun s5 s9 wr=> ∃k:Nat,k<=12/\s9= .int .i64 k/\Zl (Hn wr (w.heap.size+2) s5 (KW c s k))/\Zl (SC w wr x c)) (fun _ s9 _=>12 -(intOf s9).toNat)
 case atStart=>exact ⟨0,by omega,rfl,Za (World.ownsRow_nil _ _ _ _),T1⟩
 case round=>
  obtain ⟨k,hk,rfl,HV,T⟩:=hrel
  by_cases L1:k < 12
  ·have hix:=OY k L1;have hen:=Am k L1;have SZ:=kj k;have T2:=Za (T.o.next ((Zo _ wr).alloc (Zh _) (.cells (JB k) 74)));have V2:=Za (HV.o.alloc (.cells (JB k) 74));have N2:Zl (Zu (wr.alloc (.cells (JB k) 74)) wr.heap.size 74 (JB k)):=Za (Zt wr _ _);have HR:Zl (∀W',Zp w.heap.size w W'->Zv Zb (Wt k) #[.agg (Yy x),.agg (Zi c)] W' fun e w'=>e= .returned (.bool (JU c s k))/\Zp W'.heap.size W' w'):=Za fun W' hb=>by
    rw [<-HS.o];exact kh k L1 W' (HH.o.below hb)
   clear T HV;generalize hrc:BS=rc at*;clear hrc;go_upto_region 5 with (first | (refine UP wr.heap.size (JB k) 74 (ZA wr _) jZ SZ ?_; rw [Zr]));try simp only [Act.put]
   generalize wr.alloc (.cells (JB k) 74)=W2 at*;generalize wr.heap.size=g at*;have z1:W2.cell? ⟨g,1,none⟩=some (.func (.func (Wt k)) #[] #[]):=N2.o.cell 1;clear hix SZ N2;generalize Wt k=fk at*;go_wp2_with (first | (refine Kz 28 w.heap.size T2.o.1 underlying28 Lf ?_) | (refine Kz 30 (w.heap.size+1) T2.o.2.1 underlying30 rB ?_));refine (HR.o W2 T2.o.2.2).mono ?_;rintro e w3 ⟨rfl,hb⟩;have T3:=Za (T2.o.next hb);have V3:=Za (Gu V2.o hb);clear hb HR T2 z1 V2
   cases hr:JU c s k with
   | true=>
    have HV2:Zl (KW c s (k+1)=KW c s k):=Za (TZ hr);clear hr;go_wp2_with fail;go_roundw
    case rel=>exact ⟨k+1,by omega,by go_num,Za (by rw [HV2.o]; exact V3.o),T3⟩
    case measure=>exact VL
   | false=>
    have HV2:Zl (KW c s (k+1)=KW c s k++[(k:Int)+1]):=Za (kC hr);have zC:Zl ((KW c s k).length<=12):=Za (Nat.le_trans (dK c s k) Zf);clear hr;generalize KW c s k=L at*;obtain ⟨m,eh⟩:=ZT (L.length);have V4:Zl (w3.ownsRow (w.heap.size+2) 3 1 u5 m (L.map (Value.int .i64))):=Za (by rw [<-eh]; exact V3.o);rw [eh] at zC;have HMM:=Za eh;clear eh V3;go_wp2_with (at_builtin; refine XU _ rfl _ _ 24 rfl (w.heap.size+2) 3 i8 _ 1 8 underlying24 hi8 hz8 hs8 hb8 rfl Nat.one_pos u5 m (L.map (Value.int .i64)) rfl (V4.o.alloc _) (some ⟨w3.heap.size,0,none⟩) 1 1 [.int .i64 ((k:Int)+1)] rfl rfl (fun _=>⟨_,rfl,cell_one_new w3 _ _⟩) (by simp [Kn]) (by have:=zC.o; unfold maxLen; omega) (by have:=zC.o; omega) (by have:=T3.o.2.1.lt; simp; omega) ?_; intro v1 w4 ho hg hv1);have HZ:Zl (Hn w4 (w.heap.size+2) v1 (KW c s (k+1))/\SC w w4 x c):=Za (by
     have XV:=T3.o.2.1.lt;have Bx:=T3.o.2.2.size;have hge: ∀q,u5.ownBlock=some q->w.heap.size+2<=q:=fun q hq=>by
      rcases V4.o.2 with ⟨h1,_⟩ | ⟨g,GP,cur,h1,h2,_⟩
      ·rw [h1] at hq; cases hq
      ·rw [h1] at hq; simp [Value.ownBlock] at hq; omega
     have hT4:=T3.o.next ((Zo _ w3).alloc (Zh _) (.cells #[.int .i64 ((k:Int)+1)] 3));refine ⟨?_,hT4.1.grown hg (fun e=>?_),hT4.2.1.grown hg (fun e=>?_),hT4.2.2.grown hg hT4.2.2.size (fun q hq=>by have:=hge q hq; omega)⟩
     ·unfold Hn;rw [HV2.o,ZF,HMM.o,List.map_append];exact ho
     ·have:=hge _ e.symm; omega
     ·have:=hge _ e.symm; omega)
    clear ho hg hv1 V4 T3;exact Zid
  ·obtain rfl:k=12:=Zf;generalize BS=rc at*;go_wp2_with fail;go_ret;exact ⟨_,rfl,Fv HV.o Zf,T.o.2.2⟩
end
end Go.Proofs.YtobgbcdgffgdhaaGreat
