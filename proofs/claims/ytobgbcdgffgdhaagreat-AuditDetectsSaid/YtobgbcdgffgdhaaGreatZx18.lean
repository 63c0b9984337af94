/- Part 18 of 34: Exa Rul Aud Rst Rfa24 Rfb24 Rfc24. -/
import Derived.Test.YtobgbcdgffgdhaaGreatZx00
import Derived.Test.YtobgbcdgffgdhaaGreatZx13
import Derived.Test.YtobgbcdgffgdhaaGreatZx15
namespace Go.Proofs.YtobgbcdgffgdhaaGreat
set_option linter.unusedVariables false
set_option linter.unusedSimpArgs false
set_option maxRecDepth 100000
set_option maxHeartbeats 8000000
open _root_.And renaming intro -> Zm
open _root_.Go.RowKit renaming Below -> Zp, intOf -> X6
open _root_.Go.RowKit.Below renaming refl -> Zn
open _root_.Go.Proofs.YtobgbcdgffgdhaaGreat.Zu renaming new -> Zs
open _root_.Bool renaming eq_false_iff -> Ux, eq_iff_iff -> YD, true_and -> GH
open _root_.Go.Builtin renaming max_ -> Vc
open _root_.Go renaming Calls -> Zv, TypeId -> ZL, Value -> Zl, World -> Zc, cell_one_new -> JN, heap_alloc_new -> ZB, maxLen -> XL
open _root_.Go.Instr renaming index -> Yy
open _root_.List renaming all_eq_true -> YP, count_cons -> Uj, getD_eq_getElem?_getD -> Zo, getElem?_eq_getElem -> Zg, getElem?_map -> ZM, length_append -> ZI, length_take -> Xl, map_append -> Xv, mem_of_getElem? -> Zz, mem_range -> XT, range -> YO, range_succ -> Kh, take_add_one -> Y8, take_of_length_le -> ZV
open _root_.Go.Lit renaming int -> YN
open _root_.Nat renaming le_refl -> Zh, one_pos -> Qx, zero_add -> ZW
open _root_.Go.Proofs.Tryz renaming prog -> Zb
open _root_.Go.Value renaming bool -> Q8, int -> ZG
open _root_.Go.World renaming ownsRow_nil -> Y4, setRow_alloc_new -> Zq
open Go.Proofs.Tryz
theorem dL {G:Prop}(h:G:=by rw [HC.o.2]; exact XJ) :G:=h
theorem dJ {G:Prop}(h:G:=by rw [<-LF]; exact O1.o) :G:=h
theorem oX {G:Prop}(h:G:=by have:=h.fl; have:=h.wl; rw [List.length_append]; omega) :G:=h
theorem dD {G:Prop}(h:G:=by rw [List.length_map,List.length_take]; omega) :G:=h
theorem dA {G:Prop}(h:G:=by rw [HS.o]; unfold jx; exact decide_eq_true Zf) :G:=h
theorem dz {G:Prop}(h:G:=by rw [HDD.o]; exact decide_eq_false (by rw [Rj.o]; simp; omega)) :G:=h
theorem Wa {G:Prop}(h:G:=by rw [Bx hv,List.all_append,HA.o]; simp) :G:=h
theorem NG {G:Prop}(h:G:=by have:=T1.o.1.lt; simp; omega) :G:=h
theorem NF {G:Prop}(h:G:=by rw [HL.o.2]; exact Nat.le_refl _) :G:=h
theorem Ft {G:Prop}(h:G:=by rw [HL.o.2]; exact XJ) :G:=h
theorem dx {G:Prop}(h:G:=by rw [HS.o,HP.o]; exact VL.grow (wr:=W) (g:=g) O1.o T1.o (by rw [HMM.o]; exact ho) hg) :G:=h
theorem GC {G:Prop}(h:G:=by have:=h.vl; have:=h.sx.vn; omega) :G:=h
theorem P7 {G H:Prop} (k:H) (h:Dq H->G:=by
  intro zk;try simp only [qA]
  exact zk.o) :G:=h ⟨k⟩
theorem Zl0 {G H:Prop} (k:H) (h:Dq H->G:=by
  intro zk;rw [<-hr,Bool.eq_iff_iff,decide_eq_true_eq];show _ ↔ decide ((pd.length:Int)<=c 1/\(F.length:Int)<=c 1/\(W.length:Int)<=c 1/\(x.mn:Int)<=c 1/\(x.tn:Int)<=c 1)=true;exact zk.o) :G:=h ⟨k⟩
theorem tf {G H:Prop} (k:H) (h:Dq H->G:=by
  intro zk;refine (HT.o Wd T.o.2.2).mono ?_;exact zk.o) :G:=h ⟨k⟩
theorem Zl3 {G H:Prop} (k:H) (h:Dq H->G:=by
  intro zk;rw [List.range_succ,List.all_append,HA.o];simp only [List.all_cons,List.all_nil,HON.o,Bool.true_and,Bool.and_true];exact zk.o) :G:=h ⟨k⟩
theorem Zgd {G:Prop} (h:G:=by
  clear ho hg Al O1 O2 T1 y1 y4;go_wp2_with fail;go_roundw
  case rel=>exact ⟨k+1,by omega,by go_num,Za HZ.o.1,Za HZ.o.2⟩
  case measure=>simp [intOf]; omega) :G:=h
theorem Zgf {G:Prop} (h:G:=by
  rintro e w1 ⟨rfl,hb⟩;have B1:Zj (Below w.heap.size w w1):=Za (T.o.2.2.trans (hb.mono T.o.2.2.size));clear hb;go_wp2_with fail;go_ret;exact ⟨rfl,B1.o⟩) :G:=h
theorem Zgg {G:Prop} (h:G:=by
  go_wp2_with fail;go_roundw
  case rel=>exact ⟨k+1,by omega,by go_num,Za HZ.o.1,Za HZ.o.2⟩
  case measure=>simp [intOf]; omega) :G:=h
theorem zW {G:Prop} (h:G:=by
  go_wp2_with fail;go_ret;exact ⟨rfl,T2.o.2.2⟩) :G:=h
theorem zY {G:Prop} (h:G:=by
  go_wp2_with fail;go_ret;exact ⟨rfl,T.o.2.2⟩) :G:=h
theorem pB {G:Prop} (h:G:=by
  go_wp2_with fail;go_ret;exact ⟨rfl,B2.o⟩) :G:=h
theorem Zl7 {G:Prop} (h:G:=by
  go_enter func54,ntmps54;go_upto_region 1 with (fail);generalize (w.alloc (.cells (ZH x) 28)).alloc (.cells (Zi c) 30)=Wd at*;have zv:=Xx T.o.1 2;have zD:=Xx T.o.1 3;have zP:=Xx T.o.1 4;have zB:=Xx T.o.1 5;go_wp2_with fail;refine tf ?_;rintro e w1 ⟨rfl,hb⟩;have T1:=Za (T.o.next hb);clear hb zv zD zP zB T;have zD:=Xx T1.o.1 3;have zP:=Xx T1.o.1 4;have zB:=Xx T1.o.1 5;have N1:Zj (Zu (w1.alloc (.cells #[.int .u64 b,.int .u64 x.P,.int .u64 x.B] 23)) w1.heap.size 23 #[.int .u64 b,.int .u64 x.P,.int .u64 x.B]):=Za (Zu.new w1 _ _);have T2:=Za (T1.o.next ((Below.refl _ w1).alloc (Nat.le_refl _) (.cells #[.int .u64 b,.int .u64 x.P,.int .u64 x.B] 23)));go_wp2_with fail;generalize w1.alloc (.cells #[.int .u64 b,.int .u64 x.P,.int .u64 x.B] 23)=w2 at*;refine (HA.o _ _ N1.o).mono ?_;rintro e w3 ⟨rfl,rfl⟩;clear zD zP zB T1 N1;exact zW) :G:=h
theorem Zmq {G:Prop} (h:G:=by
  have HZ:Zj (VL w2 (w.heap.size+1) v1 ((V.take (k+1)).map bX)/\RB w w2 x):=Za dx;exact Zgd) :G:=h
theorem ZiY {G:Prop} (h:G:=by
  have HZ:Zj (VL w2 (w.heap.size+1) v1 ((V.take (k+1)).map Tz)/\RB w w2 x):=Za dx;exact Zgd) :G:=h
theorem Zms {G:Prop} (h:G:=by
  go_upto_region 1 with (fail);generalize (w.alloc (.cells (ZH x) 28)).alloc (.cells (Zi c) 30)=Wd at*;have zv:=Xx T.o.1 2;go_wp2_with fail;refine (HX.o Wd T.o.2.2).mono ?_;exact Zgf) :G:=h
theorem Zmv {G:Prop} (h:G:=by
  have Fe:r=false:=by
   have:((List.range n).all fun i=>MH L (z.getD i false) i)=false:=by
    rw [Bool.eq_false_iff];intro Bh;have h3:=List.all_eq_true.1 Bh i (List.mem_range.2 XJ);rw [HON.o] at h3;simp [h2] at h3
   rw [HR.o,this];rfl
  subst Fe;clear h1 h2;go_wp2_with fail;go_ret;exact ⟨rfl,rfl⟩) :G:=h
theorem Zi2 {G:Prop} (h:G:=by
  obtain rfl:k=x.vn:=Zf;have hrt:r=true:=by
   have:=HA.o;rwa [List.take_of_length_le NF,HR.o] at this
  subst hrt;clear XJ HA;have XJ: ¬x.vn < x.vn:=Zf;exact zY) :G:=h
theorem ZmE {G:Prop} (h:G:=by
  have HV2:Zj (QN c s (k+1)=QN c s k):=Za (jb hr);clear hr;go_wp2_with fail;go_roundw
  case rel=>exact ⟨k+1,by omega,by go_num,Za (by rw [HV2.o]; exact V3.o),T3⟩
  case measure=>simp [intOf]; omega) :G:=h
theorem ZmG {G:Prop} (h:G:=by
  have:=HB.o;unfold J64 at this;have q0:0<=x.bk/c 13:=Int.ediv_nonneg h0 Zf;have q1:x.bk/c 13<=x.bk:=Int.ediv_le_self _ h0;rw [Int.tdiv_eq_ediv_of_nonneg h0];generalize x.bk/c 13=z at*;exact Rb) :G:=h
theorem ZmQ {G:Prop} (h:G:=by
  have:V.all NK=false:=by
   rw [Bool.eq_false_iff];intro Bh;have h3:=List.all_eq_true.1 Bh v HVM.o;rw [HF.o,decide_eq_true_eq] at h3;omega
  rw [HR.o,this];rfl) :G:=h
theorem ZmR {G:Prop} (h:G:=by
  clear h1 h2;go_wp2_with fail;go_round
  case rel=>exact ⟨i+1,t+c,by omega,by go_num,by go_num,HTU.o.2,Za HTU.o.1,ng⟩
  case measure=>simp [intOf]; omega) :G:=h
theorem ZmU {G:Prop} (h:G:=by
  clear ho hg Al V4 T3;exact Zgg) :G:=h
theorem ZmV {G:Prop} (h:G:=by
  exact Zgf) :G:=h
theorem ZmW {G:Prop} (h:G:=by
  clear h hl hz hr ho;go_enter func66,ntmps66;go_wp2_with fail;refine HA.o.mono ?_;rintro e w1 ⟨rfl,m,rfl⟩;go_wp2_with fail;go_ret;exact ⟨rfl,m,rfl⟩) :G:=h
theorem Zm2 {G:Prop} (h:G:=by
  have e2: ∀x y:Int,(if y>x then y else x)=max x y:=fun x y=>by
   rw [Int.max_def]
   split <;> split <;> omega
  simp [Builtin.max_,Builtin.max2,e2]) :G:=h
theorem Zi7 {G:Prop} (h:G:=by
  exact Zgg) :G:=h
theorem ZeM {G:Prop} (h:G:=by
  rcases V4.o.2 with ⟨h1,_⟩ | ⟨g,Bg,cur,h1,h2,_⟩
  ·exact CF
  ·rw [h1] at hq; simp [Value.ownBlock] at hq; omega) :G:=h
theorem yF {G:Prop} (h:G:=by
  clear XJ HO;have XJ: ¬x.vn < x.vn:=Zf;go_wp2_with fail;go_ret;exact ⟨_,rfl,QD HZ.o Zf,T.o.2⟩) :G:=h
theorem ZeQ {G:Prop} (h:G:=by
  go_wp2_with fail;go_roundw
  case rel=>exact ⟨j+1,by omega,by go_num,ng,M2,B2⟩
  case measure=>simp [intOf]; omega) :G:=h
theorem ZeU {G:Prop} (h:G:=by
  rw [<-hr,<-ht,Bool.eq_iff_iff,beq_iff_eq];show _ ↔ decide (x.un=(V.countP Tz:Nat))=true;rw [decide_eq_true_eq]) :G:=h
theorem aN {G:Prop} (h:G:=by
  go_wp2_with fail;go_roundw
  case rel=>exact ⟨k+1,by omega,by go_num,ng,T1⟩
  case measure=>simp [intOf]; omega) :G:=h
theorem yM {G:Prop} (h:G:=by
  rw [<-HR.o,Bool.eq_false_iff];intro Bh;have h3:=List.all_eq_true.1 Bh v HVM.o;rw [hf] at h3
  cases h3) :G:=h
theorem Zfx {G:Prop} (h:G:=by
  unfold Us;rw [HV2.o,List.length_append,HMM.o,List.map_append];exact ho) :G:=h
theorem Zfy {G:Prop} (h:G:=by
  go_wp2_with fail;go_ret;exact ⟨_,rfl,QD HV.o Zf,T.o.2.2⟩) :G:=h
theorem Zfz {G:Prop} (h:G:=by
  subst Fe;clear q0 q1 q2 q3 q4 q5;go_wp2_with fail;go_ret;exact ⟨rfl,T.o.2⟩) :G:=h
theorem ZfU {G:Prop} (h:G:=by
  rw [HRB.o,Bool.eq_iff_iff,beq_iff_eq,decide_eq_true_eq];omega) :G:=h
theorem pj {G:Prop} (h:G:=by
  exact ⟨0,by omega,rfl,Za (World.ownsRow_nil _ _ _ _),T0⟩) :G:=h
theorem ZfY {G:Prop} (h:G:=by
  exact ⟨0,0,by omega,rfl,rfl,by omega,Za ZE⟩) :G:=h
theorem LU {G:Prop} (h:G:=by
  go_wp2_with fail;go_ret;exact ⟨rfl,T1.o.2.2⟩) :G:=h
theorem pq {G:Prop} (h:G:=by
  exact ⟨0,by omega,rfl,Za ZE,T0⟩) :G:=h
theorem zF {G:Prop} (h:G:=by
  rw [HRB.o];exact decide_eq_false Zf) :G:=h
theorem aO {G:Prop} (h:G:=by
  rw [HRE.o];exact decide_eq_false Zf) :G:=h
theorem ji {G:Prop} (h:G:=by
  go_wp2_with fail;go_ret;exact ⟨rfl,T3.o⟩) :G:=h
section
open Go Go.RowKit Go.Deep
def Pf (L:List Int)(k:Nat)(x:Int) :Int:=((L.take k).count x:Nat)
theorem qk (L:List Int)(x:Int) :Pf L 0 x=0:=by simp [Pf]
theorem Zby {L:List Int}{k:Nat}{y:Int}(h:L[k]?=some y) : ∀x,PU (Pf L k) y (Pf L k y+1) x=Pf L (k+1) x:=fun x=>by
 unfold PU Pf;rw [Y8,h];simp only [Option.toList,List.count_append,Uj,List.count_nil,beq_iff_eq]
 by_cases e:x=y
 ·subst e; simp
 ·rw [if_neg e,if_neg (fun h=>e h.symm)]; simp
theorem Zbx (L:List Int)(k:Nat)(x:Int) :0<=Pf L k x/\Pf L k x<=k:=by
 unfold Pf;have h1:=List.count_le_length (a:=x) (l:=L.take k);rw [Xl] at h1;omega
theorem QQ.below {w w':Zc}{m:Nat}{c:Int->Int}(h:QQ w m c)(hb:Zp w.heap.size w w') :QQ w' m c:=h.same (hb.block m h.lt)
theorem ZpE {n:Nat}(h:n<=4096) :(YN .i64 (n:Int)).wf=true:=jf
theorem NT (S T:Nat->Prop)(qa:Option Addr)(nq cq:Nat)(L:List Int)(a:Option Addr)(n cp:Nat)(f:Zl)(l:List ZN)(p:ZN->Bool)(w:Zc)(hq:XS w T qa L)(hql:L.length=nq)(hqn:nq<=10000)(hqf: ∀x ∈ L,(YN .i64 x).wf=true)
  (h:FL w S a l) (hl:l.length=n) (hn:n<=4096) (hm:So w f l p) :
  Z3 104 #[.slice qa nq cq,.slice a n cp,f] w (.bool (Et L l p)):=by
 have HQ:=Za (Zm hq (Zm hql hqf));have HL:=Za (Zm h hl);have HME:=Za hm;obtain ⟨t,ht⟩:=ZR (l.countP p);have HTL:Zj (t<=n):=Za (by rw [<-ht,<-hl]; exact List.countP_le_length);have HCN:Zj (∀W,Zp w.heap.size w W->Z3 113 #[.slice a n cp,f] W (.int .i64 ((t:Nat) :Int))):=Za fun W hb=>by
  rw [<-ht];exact Mo S a n cp f l p W (h.below hb) hl hn (hm.below hb)
 obtain ⟨r,hr⟩:=ZR (Et L l p);have HE:Zj (r=(((YO n).all fun i=>!p (l.getD i ZU)||decide (L.count (i:Int)=1))&&decide (nq=t))):=Za (by rw [<-hr,<-hl,<-hql,<-ht]; rfl);rw [hr];have LF:= @run_makeMap Zb;obtain ⟨F,Bf,rfl,hen,Um⟩:=hm;have HC:=Za Um;have HM0:Zj (QQ (w.alloc (.map #[] 0)) w.heap.size (Pf L 0)):=Za ((WJ w).congr fun q=>(qk L q).symm);have B0:Zj (Zp w.heap.size w (w.alloc (.map #[] 0))):=Za ((Zn _ _).alloc (Zh _) _);obtain ⟨m,hmz⟩:=ZR (w.heap.size);have HMZ:=Za hmz;clear hq hql hqf h hl Um hr ht;go_enter func104,ntmps104;go_wp2_with fail;rw [hmz] at HM0;generalize w.alloc (.map #[] 0)=W0 at*;clear hmz LF;go_loopw [15] (fun s15 wr=> ∃k:Nat,k<=nq/\s15= .int .i64 k/\Zj (QQ wr m (Pf L k))/\Zj (Zp w.heap.size w wr)) (fun s15 _=>nq -(X6 s15).toNat)
 case atStart=>exact ⟨0,by omega,rfl,HM0,B0⟩
 case round=>
  obtain ⟨k,hk,rfl,HM,BR⟩:=hrel
  by_cases XJ:k < nq
  ·obtain ⟨y,hy⟩ : ∃y,L[k]?=some y:=⟨_,Zg (by rw [HQ.o.2.1]; exact XJ)⟩;obtain ⟨b,off,rfl,nU,Pq,hc⟩:=HQ.o.1 (by rw [HQ.o.2.1]; omega);have KT:wr.cell? ⟨b,off+k,none⟩=some (.int .i64 y):=by
    rw [BR.o.cell (p:=⟨b,off+k,none⟩) Pq,hc k (by rw [HQ.o.2.1]; exact XJ),Zo,hy];rfl
   have HW:Zj ((YN .i64 y).wf=true):=Za (HQ.o.2.2 y (Zz hy));have nT:=HM.o.lookup underlying3 underlying144 (Ni wr) HW.o;obtain ⟨q0,q1⟩:=Zbx L k y;have HU:=Za (Zby hy);have HG:=Za HM.o;obtain ⟨q,hq⟩:=ZR (Pf L k y);rw [hq] at nT q0 q1 HU;clear hy hc nU Pq HM hq;go_wp2_with (first | (refine Lp rfl _ _ _ rfl HG.o underlying3 underlying144 y (q+1) rfl rfl rfl HW.o ?_; intro w1 OO hg1));have HZ:Zj (QQ w1 m (Pf L (k+1))/\Zp w.heap.size w w1):=Za ⟨OO.congr HU.o,BR.o.grown hg1 BR.o.size (fun j hj=>by injection hj with hj; rw [<-hj,<-HMZ.o]; exact Zh _)⟩;clear OO hg1 nT HG BR KT;exact Zi7
  ·obtain rfl:k=nq:=Zf;have HM1:Zj (QQ wr m fun x=>((L.count x:Nat) :Int)):=Za (HM.o.congr fun x=>by unfold Pf; rw [ZV (by rw [HQ.o.2.1]; exact Zh _)]);clear XJ HM;have XJ: ¬k < k:=Zf;obtain ⟨V,hV⟩ : ∃V,V=wr:=⟨_,rfl⟩;subst hV;have HK:Zj (∀i,L.count i<=10000):=Za fun i=>Nat.le_trans List.count_le_length (by rw [HQ.o.2.1]; exact hqn)
   go_wp2_with fail;go_loopw [26] (fun s26 wr=> ∃j:Nat,j<=n/\s26= .int .i64 j/\Zj ((YO j).all (fun i=>!p (l.getD i ZU)||decide (L.count (i:Int)=1))=true)/\Zj (QQ wr m fun x=>((L.count x:Nat) :Int))/\Zj (Zp w.heap.size w wr)) (fun s26 _=>n -(X6 s26).toNat)
   case atStart=>exact ⟨0,by omega,rfl,Za rfl,HM1,BR⟩
   case round=>
    obtain ⟨j,hj,rfl,HA,HM,BR⟩:=hrel
    by_cases Pv:j < n
    ·obtain ⟨v,hv⟩ : ∃v,l[j]?=some v:=⟨_,Zg (by rw [HL.o.2]; exact Pv)⟩;obtain ⟨b,off,rfl,hr⟩:=(HL.o.1.below BR.o).at hv;have HR:=Za hr;have HVM:Zj (v ∈ l):=Za (Zz hv);have HGD:Zj (l.getD j ZU=v):=Za (by rw [Zo,hv]; rfl);have B1:Zj (Zp w.heap.size w (wr.alloc (.cells (Ze v) 68))):=Za (BR.o.alloc BR.o.size _);have M1:=Za (HM.o.alloc (.cells (Ze v) 68));have N1:Zj (Zu (wr.alloc (.cells (Ze v) 68)) wr.heap.size 68 (Ze v)):=Za (Zs wr _ _);clear hr hv BR HM;go_upto_region 10 with (first | (refine YT rfl 68 _ rfl b (off+j*7) rfl v _ HR.o underlying68 rfl Ya ?_) | (refine Up wr.heap.size (Ze v) 68 (ZB wr _) Ya (Yi _) ?_; rw [Zq]));refine DH ?_;clear HR;generalize wr.alloc (.cells (Ze v) 68)=W at*;generalize wr.heap.size=g at*;go_wp2_with (first | (refine Kl 68 g N1.o underlying68 Ya ?_));refine (HC.o W v B1.o HVM.o).mono ?_;rintro e w1 ⟨rfl,hb⟩;have B2:Zj (Zp w.heap.size w w1):=Za (B1.o.trans (hb.mono B1.o.size));have M2:=Za (M1.o.below hb);clear hb B1 N1 HVM M1
     cases hp:p v with
     | true=>
      have nT:=M2.o.lookup underlying3 underlying144 (Ni w1) (ZpE (n:=j) Zf);have hk9:=HK.o (j:Int);obtain ⟨q,hq⟩:=ZR (L.count (j:Int));rw [hq] at nT hk9
      by_cases h1:q=1
      ·have ng:Zj ((YO (j+1)).all (fun i=>!p (l.getD i ZU)||decide (L.count (i:Int)=1))=true):=Za (by
        rw [Kh,List.all_append,HA.o];simp [hq,h1])
       have d:(((q:Nat) :Int) != 1)=false:=by rw [h1]; rfl
       clear h1 hq hp hk9;exact ZeQ
      ·have Fe:r=false:=by
        rw [HE.o];have:((YO n).all fun i=>!p (l.getD i ZU)||decide (L.count (i:Int)=1))=false:=by
         rw [Ux];intro Bh;have h3:=YP.1 Bh j (XT.2 Pv);rw [HGD.o,hp,hq] at h3;simp [h1] at h3
        rw [this];rfl
       subst Fe;have d:(((q:Nat) :Int) != 1)=true:=Xo;clear h1 hq hp hk9;exact pB
     | false=>
      have ng:Zj ((YO (j+1)).all (fun i=>!p (l.getD i ZU)||decide (L.count (i:Int)=1))=true):=Za (by
       rw [Kh,List.all_append,HA.o];simp only [List.all_cons,List.all_nil,HGD.o,hp];rfl)
      clear hp;exact ZeQ
    ·obtain rfl:j=n:=Zf;have d:((k:Int)==(t:Int))=r:=by
      rw [HE.o,HA.o,GH,YD,beq_iff_eq,decide_eq_true_eq];omega
     have d2:(k==t)=r:=zq
     have HX:=Za (HCN.o wr BR.o);clear Pv HA HM;have Pv: ¬j < j:=Zf;go_wp2_with fail;refine HX.o.mono ?_;rintro e w1 ⟨rfl,hb⟩;have B2:Zj (Zp w.heap.size w w1):=Za (BR.o.trans (hb.mono BR.o.size));clear hb HX BR;exact pB
end
section
open Go Go.RowKit Go.Deep
structure Uf (w:Zc)(x:Sx)(c:Nat->Int)(V:List ZN)(pd F W:List Int) :Prop where
 sx:Be w (fun _=>False) x V pd F W
 vl:V.length<=4096
 pl:pd.length<=10000
 fl:F.length<=5000
 wl:W.length<=5000
 wd: ∀v ∈ V,-4611686018427387904<=v.wd/\v.wd<=4611686018427387904
 c10:0<=c 10/\c 10<=1048576
 c13:1<=c 13/\c 13<=4096
 c4:c 4<=1152921504606846976
theorem Uf.below {w w':Zc}{x:Sx}{c:Nat->Int}{V:List ZN}{pd F W:List Int}(h:Uf w x c V pd F W)(hb:Zp w.heap.size w w') :Uf w' x c V pd F W:= { h with sx:=h.sx.below hb}
def SC (w W:Zc)(x:Sx)(c:Nat->Int) :Prop:=Zu W w.heap.size 28 (ZH x)/\Zu W (w.heap.size+1) 30 (Zi c)/\Zp w.heap.size w W
theorem Ej (w:Zc)(A:Obj)(cs:Array Zl)(t:ZL) :Zu ((w.alloc A).alloc (.cells cs t)) (w.heap.size+1) t cs:=zA
theorem SC.new (w:Zc)(x:Sx)(c:Nat->Int) :SC w ((w.alloc (.cells (ZH x) 28)).alloc (.cells (Zi c) 30)) x c:=⟨(Zs w _ _).alloc _,Ej w _ _ _,((Zn _ _).alloc (Zh _) _).alloc ZE _⟩
theorem SC.next {w W W':Zc}{x:Sx}{c:Nat->Int}(h:SC w W x c)(hb:Zp W.heap.size W W') :SC w W' x c:=⟨h.1.below hb h.1.lt,h.2.1.below hb h.2.1.lt,h.2.2.trans (hb.mono h.2.2.size)⟩
theorem iI {P:Program}(w:Zc)(ts:Array ZL)(t:ZL)(a b c d e:Int) :(Vc ts t #[.int .i64 a,.int .i64 b,.int .i64 c,.int .i64 d,.int .i64 e]).run P w= .ok (.int .i64 (max (max (max (max a b) c) d) e)) w:=Zm2
theorem DE (w:Zc)(F:Nat)(l:List ZN)(p:ZN->Bool)(he: ∀args w,(callFunc F args).run Zb w= .ok (.enter F args) w)(h: ∀v w1,Zv Zb F #[.agg (Ze v)] w1 fun o w2=>o= .returned (.bool (p v))/\Zp w1.heap.size w1 w2) :So w (.func (.func F) #[] #[]) l p:=
 ⟨F,#[],rfl,he,fun w1 v _ _=>h v w1⟩
section
variable {x:Sx} {c:Nat->Int} {V:List ZN} {pd F W:List Int} {w:Zc}
theorem xI (h:Uf w x c V pd F W) :Z3 53 #[.agg (ZH x),.agg (Zi c)] w (.bool (XQ c (QB x V pd F W) 0)):=by
 have T:=Za (SC.new w x c);have HH:=Za h;obtain ⟨r,hr⟩:=ZR (XQ c (QB x V pd F W) 0);rw [hr];have d:decide ((x.vn:Int)<=c 0)=r:=by rw [<-hr,<-h.sx.vn]; rfl
 clear h hr;go_enter func53,ntmps53;go_upto_region 1 with (fail);generalize (w.alloc (.cells (ZH x) 28)).alloc (.cells (Zi c) 30)=Wd at*;have zv:=Xx T.o.1 2;have y0:=Xx T.o.2.1 0;exact zY
theorem xJ (h:Uf w x c V pd F W) :Z3 54 #[.agg (ZH x),.agg (Zi c)] w (.bool (XQ c (QB x V pd F W) 1)):=by
 have T:=Za (SC.new w x c);have HH:=Za h;obtain ⟨r,hr⟩:=ZR (XQ c (QB x V pd F W) 1);rw [hr];have HT:Zj (∀W1,Zp w.heap.size w W1->Z3 99 #[.slice x.va x.vn x.vc,.func (.func 100) #[] #[]] W1 (.tuple #[.int .u64 (M5 V fun _=>true),.bool (BT V fun _=>true)])):=Za fun W1 hb=>M6 _ _ _ _ _ V _ W1 (h.sx.vl.below hb) h.sx.vn GC h.sx.vf (DE W1 _ V _ call100 Wr)
 have e1:(BT V fun _=>true)=decide (Zw V<=18446744073709551615):=by unfold BT; rw [Bu]
 have hn:=JP h.sx.vf;have hP:=h.sx.nums.P;have hBn:=h.sx.nums.B;have hD:=h.sx.nums.D;unfold pI at hP hBn hD;have HRB:Zj (r=decide (Zw V+x.P+x.B=x.D)):=Za hr.symm;have HN:=Za (Zm hn (Zm hP (Zm hBn hD)))
 by_cases h1:Zw V<=18446744073709551615
 ·have e2:(M5 V fun _=>true)=Zw V:=by unfold M5; rw [Bu,if_pos h1]
  have e3:(BT V fun _=>true)=true:=by rw [e1]; exact decide_eq_true h1
  rw [e2,e3] at HT;obtain ⟨b,hb⟩:=ZR (Zw V);rw [hb] at HT HN HRB h1;have HA:Zj (∀(g:Nat) (W1:Zc),Zu W1 g 23 #[.int .u64 b,.int .u64 x.P,.int .u64 x.B]->Y6 101 #[.slice (some ⟨g,0,none⟩) 3 3] W1 (.tuple #[.int .u64 (BB [b,x.P,x.B] 3),.bool (KS [b,x.P,x.B] 3)])):=Za fun g W1 hb=>EV g 0 3 3 [b,x.P,x.B] W1 Zf (fun i hi=>by
    have hc:=hb.cell i;have:i=0\/i=1\/i=2:=Zf;rw [ZW]
    rcases this with rfl | rfl | rfl <;> exact hc) (fun i=>by
    have:=HN.o
    match i with
    | 0=>exact ⟨this.1,h1⟩
    | 1=>exact this.2.1
    | 2=>exact this.2.2.1
    | i+3=>exact ⟨by simp,by simp⟩)
  have e4:XR [b,x.P,x.B] 3=b+x.P+x.B:=by simp [XR]
  have e5:KS [b,x.P,x.B] 3=decide (b+x.P+x.B<=18446744073709551615):=by unfold KS; rw [e4]
  by_cases h2:b+x.P+x.B<=18446744073709551615
  ·have e6:BB [b,x.P,x.B] 3=b+x.P+x.B:=by unfold BB; rw [e4,if_pos h2]
   have e7:KS [b,x.P,x.B] 3=true:=by rw [e5]; exact decide_eq_true h2
   rw [e6,e7] at HA;have d:(b+x.P+x.B==x.D)=r:=by rw [HRB.o,YD]; simp
   generalize b+x.P+x.B=sm at*;clear e1 hn hP hBn hD h h1 e2 e3 hb e4 e5 h2 e6 e7 hr;go_enter func54,ntmps54;go_upto_region 1 with (fail);generalize (w.alloc (.cells (ZH x) 28)).alloc (.cells (Zi c) 30)=Wd at*;have zv:=Xx T.o.1 2;have zD:=Xx T.o.1 3;have zP:=Xx T.o.1 4;have zB:=Xx T.o.1 5;go_wp2_with fail;refine tf ?_;rintro e w1 ⟨rfl,hb⟩;have T1:=Za (T.o.next hb);clear hb zv zD zP zB T;have zD:=Xx T1.o.1 3;have zP:=Xx T1.o.1 4;have zB:=Xx T1.o.1 5;have N1:Zj (Zu (w1.alloc (.cells #[.int .u64 b,.int .u64 x.P,.int .u64 x.B] 23)) w1.heap.size 23 #[.int .u64 b,.int .u64 x.P,.int .u64 x.B]):=Za (Zs w1 _ _);have T2:=Za (T1.o.next ((Zn _ w1).alloc (Zh _) (.cells #[.int .u64 b,.int .u64 x.P,.int .u64 x.B] 23)));go_wp2_with fail;generalize w1.alloc (.cells #[.int .u64 b,.int .u64 x.P,.int .u64 x.B] 23)=w2 at*;refine (HA.o _ _ N1.o).mono ?_;rintro e w3 ⟨rfl,rfl⟩;clear zD zP zB T1 N1;have zD:=Xx T2.o.1 3;exact zW
  ·have e7:KS [b,x.P,x.B] 3=false:=by rw [e5]; exact decide_eq_false h2
   rw [e7] at HA;have Fe:r=false:=by rw [HRB.o]; exact decide_eq_false Yd
   subst Fe;generalize BB [b,x.P,x.B] 3=sm at*;clear e1 hn hP hBn hD h h1 e2 e3 hb e4 e5 h2 e7 hr;exact Zl7
 ·have e3:(BT V fun _=>true)=false:=by rw [e1]; exact decide_eq_false h1
  rw [e3] at HT;have Fe:r=false:=zF
  subst Fe;obtain ⟨b,hb⟩ : ∃b,(M5 V fun _=>true)=b:=⟨_,rfl⟩;have RF:0<=b/\b<=18446744073709551615:=by rw [<-hb]; unfold M5; rw [Bu,if_neg h1]; omega
  rw [hb] at HT;have HA:Zj (∀(g:Nat) (W1:Zc),Zu W1 g 23 #[.int .u64 b,.int .u64 x.P,.int .u64 x.B]->Y6 101 #[.slice (some ⟨g,0,none⟩) 3 3] W1 (.tuple #[.int .u64 (BB [b,x.P,x.B] 3),.bool (KS [b,x.P,x.B] 3)])):=Za fun g W1 hb=>EV g 0 3 3 [b,x.P,x.B] W1 Zf (fun i hi=>by
    have hc:=hb.cell i;have:i=0\/i=1\/i=2:=Zf;rw [ZW]
    rcases this with rfl | rfl | rfl <;> exact hc) (fun i=>by
    have:=HN.o
    match i with
    | 0=>exact RF
    | 1=>exact this.2.1
    | 2=>exact this.2.2.1
    | i+3=>exact ⟨by simp,by simp⟩)
  generalize BB [b,x.P,x.B] 3=sm at*;generalize KS [b,x.P,x.B] 3=so at*;clear e1 hn hP hBn hD h h1 e3 hb RF hr;exact Zl7
theorem xK (h:Uf w x c V pd F W)(hc4:c 4<=1152921504606846976) :Z3 55 #[.agg (ZH x),.agg (Zi c)] w (.bool (XQ c (QB x V pd F W) 2)):=by
 have T:=Za (SC.new w x c);have HH:=Za h;obtain ⟨r,hr⟩:=ZR (XQ c (QB x V pd F W) 2);rw [hr];have HT:Zj (∀W1,Zp w.heap.size w W1->Z3 99 #[.slice x.va x.vn x.vc,.func (.func 100) #[] #[]] W1 (.tuple #[.int .u64 (M5 V (fun _=>true)),.bool (BT V (fun _=>true))])):=Za fun W1 hb=>M6 _ _ _ _ _ V _ W1 (h.sx.vl.below hb) h.sx.vn GC h.sx.vf (DE W1 _ V _ call100 Wr)
 by_cases h1:Zw V<=18446744073709551615
 ·have e2:M5 V (fun _=>true)=Zw V:=by unfold M5; rw [Bu,if_pos h1]
  have e3:BT V (fun _=>true)=true:=by unfold BT; rw [Bu]; exact decide_eq_true h1
  rw [e2,e3] at HT;obtain ⟨b,hb⟩:=ZR (Zw V);rw [hb] at HT;have d:decide (b<=c 4)=r:=by rw [<-hr,<-hb]; rfl
  clear h h1 e2 e3 hb hr;go_enter func55,ntmps55;go_upto_region 1 with (fail);generalize (w.alloc (.cells (ZH x) 28)).alloc (.cells (Zi c) 30)=Wd at*;have zv:=Xx T.o.1 2;have y4:=Xx T.o.2.1 4;go_wp2_with fail;refine tf ?_;rintro e w1 ⟨rfl,hb⟩;have T1:=Za (T.o.next hb);clear hb T zv y4;have y4:=Xx T1.o.2.1 4;exact LU
 ·have e3:BT V (fun _=>true)=false:=by unfold BT; rw [Bu]; exact decide_eq_false h1
  rw [e3] at HT;have Fe:r=false:=by
   rw [<-hr]; exact decide_eq_false (show ¬Zw V<=c 4 by have:=hc4; omega)
  subst Fe;generalize M5 V (fun _=>true)=b at*;clear h h1 e3 hr;go_enter func55,ntmps55;go_upto_region 1 with (fail);generalize (w.alloc (.cells (ZH x) 28)).alloc (.cells (Zi c) 30)=Wd at*;have zv:=Xx T.o.1 2;have y4:=Xx T.o.2.1 4;go_wp2_with fail;refine tf ?_;rintro e w1 ⟨rfl,hb⟩;have T1:=Za (T.o.next hb);clear hb T zv y4;exact LU
theorem xL (h:Uf w x c V pd F W) :Z3 56 #[.agg (ZH x),.agg (Zi c)] w (.bool (XQ c (QB x V pd F W) 3)):=by
 have T:=Za (SC.new w x c);have HH:=Za h;obtain ⟨r,hr⟩:=ZR (XQ c (QB x V pd F W) 3);rw [hr];have HT:Zj (∀W1,Zp w.heap.size w W1->Z3 99 #[.slice x.va x.vn x.vc,.func (.func 102) #[] #[]] W1 (.tuple #[.int .u64 (M5 V (fun v=>QG v.st)),.bool (BT V (fun v=>QG v.st))])):=Za fun W1 hb=>M6 _ _ _ _ _ V _ W1 (h.sx.vl.below hb) h.sx.vn GC h.sx.vf (DE W1 _ V _ call102 ek)
 by_cases h1:Yh V<=18446744073709551615
 ·have e2:M5 V (fun v=>QG v.st)=Yh V:=by unfold M5; rw [Lm,if_pos h1]
  have e3:BT V (fun v=>QG v.st)=true:=by unfold BT; rw [Lm]; exact decide_eq_true h1
  rw [e2,e3] at HT;obtain ⟨b,hb⟩:=ZR (Yh V);rw [hb] at HT;have d:(b==x.ac)=r:=by
   rw [<-hr,<-hb,YD,beq_iff_eq];show _ ↔ decide (Yh V=x.ac)=true;rw [decide_eq_true_eq]
  clear h h1 e2 e3 hb hr;go_enter func56,ntmps56;go_upto_region 1 with (fail);generalize (w.alloc (.cells (ZH x) 28)).alloc (.cells (Zi c) 30)=Wd at*;have zv:=Xx T.o.1 2;have zac:=Xx T.o.1 6;go_wp2_with fail;refine tf ?_;rintro e w1 ⟨rfl,hb⟩;have T1:=Za (T.o.next hb);clear hb T zv zac;have zac:=Xx T1.o.1 6;exact LU
 ·have e3:BT V (fun v=>QG v.st)=false:=by unfold BT; rw [Lm]; exact decide_eq_false h1
  rw [e3] at HT;have Fe:r=false:=by
   rw [<-hr]; exact decide_eq_false (show ¬Yh V=x.ac by have:=h.sx.nums.ac.2; omega)
  subst Fe;generalize M5 V (fun v=>QG v.st)=b at*;clear h h1 e3 hr;go_enter func56,ntmps56;go_upto_region 1 with (fail);generalize (w.alloc (.cells (ZH x) 28)).alloc (.cells (Zi c) 30)=Wd at*;have zv:=Xx T.o.1 2;have zac:=Xx T.o.1 6;go_wp2_with fail;refine tf ?_;rintro e w1 ⟨rfl,hb⟩;have T1:=Za (T.o.next hb);clear hb T zv zac;exact LU
theorem xM (h:Uf w x c V pd F W) :Z3 57 #[.agg (ZH x),.agg (Zi c)] w (.bool (XQ c (QB x V pd F W) 4)):=by
 have T:=Za (SC.new w x c);have HH:=Za h;obtain ⟨r,hr⟩:=ZR (XQ c (QB x V pd F W) 4);rw [hr];have HX:Zj (∀W1,Zp w.heap.size w W1->Z3 104 #[.slice x.pa x.pn x.pc,.slice x.va x.vn x.vc,.func (.func 105) #[] #[]] W1 (.bool r)):=Za fun W1 hb=>by
  rw [<-hr];exact NT _ _ _ _ _ pd _ _ _ _ V dX W1 (h.sx.pl.below hb) h.sx.pn (by have:=h.pl; have:=h.sx.pn; omega) h.sx.pf (h.sx.vl.below hb) h.sx.vn GC (DE W1 _ V _ call105 cG)
 clear h hr;go_enter func57,ntmps57;go_upto_region 1 with (fail);generalize (w.alloc (.cells (ZH x) 28)).alloc (.cells (Zi c) 30)=Wd at*;have zv:=Xx T.o.1 2;have zp:=Xx T.o.1 7;go_wp2_with fail;refine (HX.o Wd T.o.2.2).mono ?_;exact ZmV
theorem xN (h:Uf w x c V pd F W) :Z3 58 #[.agg (ZH x),.agg (Zi c)] w (.bool (XQ c (QB x V pd F W) 5)):=by
 have T:=Za (SC.new w x c);have HH:=Za h;obtain ⟨r,hr⟩:=ZR (XQ c (QB x V pd F W) 5);rw [hr];have HX:Zj (∀(v:Zl) (W1:Zc),Zp w.heap.size w W1->Us W1 0 v (F++W)->Z3 104 #[v,.slice x.va x.vn x.vc,.func (.func 107) #[] #[]] W1 (.bool r)):=Za fun v W1 hb ho=>by
  obtain ⟨qa,qc,rfl,q1,q2,q3,q4⟩:=QC (S:=fun _=>False) ho fun _ _ h=>h
  rw [<-hr];exact NT _ _ _ _ _ (F++W) _ _ _ _ V bX W1 q4 q1 oX (fun y hy=>(List.mem_append.1 hy).elim (h.sx.ff y) (h.sx.wf y)) (h.sx.vl.below hb) h.sx.vn GC (DE W1 _ V _ call107 kb)
 have HC:Zj (∀(g:Nat) (W1:Zc),Zp w.heap.size w W1->Zu W1 g 24 #[.slice x.fa x.fn x.fc,.slice x.wa x.wn x.wc]->Zv Zb 106 #[.slice (some ⟨g,0,none⟩) 2 2] W1 fun e w'=> ∃v,e= .returned v/\Us w' W1.heap.size v (F++W)/\Zp W1.heap.size W1 w'):=Za fun g W1 hb hB=>jS _ _ _ _ _ _ _ g F W W1 (h.sx.fl.below hb) (h.sx.wl.below hb) h.sx.fn h.sx.wn (by have:=h.fl; have:=h.sx.fn; omega) (by have:=h.wl; have:=h.sx.wn; omega) (hB.cell 0) (hB.cell 1)
 clear h hr;go_enter func58,ntmps58;go_upto_region 1 with (fail);generalize (w.alloc (.cells (ZH x) 28)).alloc (.cells (Zi c) 30)=Wd at*;have zv:=Xx T.o.1 2;have zf:=Xx T.o.1 8;have zw:=Xx T.o.1 9;have N1:Zj (Zu (Wd.alloc (.cells #[.slice x.fa x.fn x.fc,.slice x.wa x.wn x.wc] 24)) Wd.heap.size 24 #[.slice x.fa x.fn x.fc,.slice x.wa x.wn x.wc]):=Za (Zs Wd _ _);have T1:=Za (T.o.next ((Zn _ Wd).alloc (Zh _) (.cells #[.slice x.fa x.fn x.fc,.slice x.wa x.wn x.wc] 24)));go_wp2_with fail;generalize Wd.alloc (.cells #[.slice x.fa x.fn x.fc,.slice x.wa x.wn x.wc] 24)=w2 at*;refine (HC.o _ w2 T1.o.2.2 N1.o).mono ?_;rintro e w3 ⟨v,rfl,ho,hb⟩;have O3:=Za (QD (C:=0) ho (Nat.zero_le _));have T3:=Za (T1.o.next hb);clear ho hb zv zf zw T T1 N1;have zv:=Xx T3.o.1 2;go_wp2_with fail;refine (HX.o v w3 T3.o.2.2 O3.o).mono ?_;rintro e w1 ⟨rfl,hb⟩;have B1:Zj (Zp w.heap.size w w1):=Za (T3.o.2.2.trans (hb.mono T3.o.2.2.size));clear hb;go_wp2_with fail;go_ret;exact ⟨rfl,B1.o⟩
theorem xO (h:Uf w x c V pd F W) :Z3 59 #[.agg (ZH x),.agg (Zi c)] w (.bool (XQ c (QB x V pd F W) 6)):=by
 have T:=Za (SC.new w x c);have HH:=Za h;obtain ⟨r,hr⟩:=ZR (XQ c (QB x V pd F W) 6);rw [hr];have HX:Zj (∀W1,Zp w.heap.size w W1->Zu W1 (w.heap.size+1) 30 (Zi c)->Z3 108 #[.slice x.va x.vn x.vc,.func (.func 109) #[] #[.pointer (some ⟨w.heap.size+1,0,none⟩)]] W1 (.bool r)):=Za fun W1 hb hB=>by
  rw [<-hr];exact Oc _ _ _ _ _ V (og c) W1 (h.sx.vl.below hb) h.sx.vn GC ⟨_,#[.pointer (some ⟨w.heap.size+1,0,none⟩)],rfl,call109,fun w1 v Hj hv=>fy v c _ w1 (hB.below Hj hB.lt) (h.wd v hv).1 (h.wd v hv).2 h.c10.1 h.c10.2⟩
 have bR: ∀(a:Zl) (w:Zc),(Instr.makeFunc (.func 109) #[] #[a]).run Zb w= .ok (.func (.func 109) #[] #[a]) w:=fun a w=>by first | rfl | kernel_rfl
 clear h hr;go_enter func59,ntmps59;go_upto_region 1 with (fail);generalize (w.alloc (.cells (ZH x) 28)).alloc (.cells (Zi c) 30)=Wd at*;have zv:=Xx T.o.1 2;go_wp2_with fail;refine (HX.o Wd T.o.2.2 T.o.2.1).mono ?_;exact ZmV
theorem xP (h:Uf w x c V pd F W) :Z3 60 #[.agg (ZH x),.agg (Zi c)] w (.bool (XQ c (QB x V pd F W) 7)):=by
 have T:=Za (SC.new w x c);have HH:=Za h;obtain ⟨r,hr⟩:=ZR (XQ c (QB x V pd F W) 7);rw [hr];have HX:Zj (∀W1,Zp w.heap.size w W1->Z3 108 #[.slice x.va x.vn x.vc,.func (.func 111) #[] #[]] W1 (.bool r)):=Za fun W1 hb=>by
  rw [<-hr];exact Oc _ _ _ _ _ V jx W1 (h.sx.vl.below hb) h.sx.vn GC (DE W1 _ V _ call111 jY)
 clear h hr;go_enter func60,ntmps60;exact Zms
theorem xQ (h:Uf w x c V pd F W) :Z3 61 #[.agg (ZH x),.agg (Zi c)] w (.bool (XQ c (QB x V pd F W) 8)):=by
 have T:=Za (SC.new w x c);have HH:=Za h;obtain ⟨r,hr⟩:=ZR (XQ c (QB x V pd F W) 8);rw [hr];obtain ⟨t,ht⟩:=ZR (V.countP Tz);have HX:Zj (∀W1,Zp w.heap.size w W1->Z3 113 #[.slice x.va x.vn x.vc,.func (.func 114) #[] #[]] W1 (.int .i64 ((t:Nat) :Int))):=Za fun W1 hb=>by
  rw [<-ht];exact Mo _ _ _ _ _ V Tz W1 (h.sx.vl.below hb) h.sx.vn GC (DE W1 _ V _ call114 yn)
 have d:(x.un==(t:Int))=r:=ZeU
 clear h hr ht;go_enter func61,ntmps61;go_upto_region 1 with (fail);generalize (w.alloc (.cells (ZH x) 28)).alloc (.cells (Zi c) 30)=Wd at*;refine Kk (fun w'=>SC w w' x c) ZC ZC (T.o.next (Zn _ _).drew) ?_;refine U4 ?_;refine KY _ ⟨w.heap.size,14,none⟩ (.int .i64 x.un) (fun w' h=>h.1.cell 14) ?_;refine X7 ?_;refine U4 ?_;refine KY _ ⟨w.heap.size,2,none⟩ (.slice x.va x.vn x.vc) (fun w' h=>h.1.cell 2) ?_;refine X7 ?_;refine RR (.int .i64 (t:Int)) #[.slice x.va x.vn x.vc,.func (.func 114) #[] #[]] ZC ZC call113 (fun w' h=>(HX.o w' h.2.2).mono fun e w'' ⟨he,hb⟩=>⟨he,h.next hb⟩) ?_;refine P7 ?_;refine BZ ?_;refine Yo ?_;intro w1 Px;have T1:=Za Px;clear Px T;exact LU
theorem xR (h:Uf w x c V pd F W) :Z3 62 #[.agg (ZH x),.agg (Zi c)] w (.bool (XQ c (QB x V pd F W) 9)):=by
 have T:=Za (SC.new w x c);have HH:=Za h;obtain ⟨r,hr⟩:=ZR (XQ c (QB x V pd F W) 9);rw [hr];have hp:=h.sx.pn;have hf:=h.sx.fn;have hw:=h.sx.wn;have b1:=h.pl;have b2:=h.fl;have b3:=h.wl;have b4:=h.sx.nums.mn;have b5:=h.sx.nums.tn;obtain ⟨q,hq⟩ : ∃q:Int,max (max (max (max (x.pn:Int) x.fn) x.wn) x.mn) x.tn=q:=⟨_,rfl⟩;have hmx: ∀(ts:Array ZL) (t:ZL) (w:Zc),(Vc ts t #[.int .i64 (x.pn:Int),.int .i64 (x.fn:Int),.int .i64 (x.wn:Int),.int .i64 (x.mn:Int),.int .i64 (x.tn:Int)]).run Zb w= .ok (.int .i64 q) w:=fun ts t w=>by rw [iI,hq]
 have d:decide (q<=c 1)=r:=by
  refine Zl0 ?_;rw [decide_eq_true_eq,hp,hf,hw];omega
 have HQ:=Za hq;clear h hr hp hf hw b1 b2 b3 b4 b5 hq;go_enter func62,ntmps62;go_upto_region 1 with (fail);generalize (w.alloc (.cells (ZH x) 28)).alloc (.cells (Zi c) 30)=Wd at*;have zp:=Xx T.o.1 7;have zf:=Xx T.o.1 8;have zw:=Xx T.o.1 9;have zm:=Xx T.o.1 10;have zt:=Xx T.o.1 11;have y1:=Xx T.o.2.1 1;exact zY
theorem si (h:Uf w x c V pd F W) :Z3 63 #[.agg (ZH x),.agg (Zi c)] w (.bool (XQ c (QB x V pd F W) 10)):=by
 have T:=Za (SC.new w x c);have HH:=Za h;obtain ⟨r,hr⟩:=ZR (XQ c (QB x V pd F W) 10);rw [hr];have c13:=h.c13;have HB:=Za h.sx.nums.bk;have HRB:Zj (r=decide (0<=x.bk/\x.ep=x.bk/c 13)):=Za hr.symm;clear h hr
 by_cases h0:0<=x.bk
 ·have d0:decide (0<=x.bk)=true:=decide_eq_true h0;have d1:decide (1<=c 13)=true:=decide_eq_true c13.1;have d:(x.ep==x.bk/c 13)=r:=ZfU
  have hz: ¬c 13=0:=Zf;have hq:wrap64 (x.bk.tdiv (c 13))=x.bk/c 13:=ZmG
  go_enter func63,ntmps63;go_upto_region 1 with (fail);generalize (w.alloc (.cells (ZH x) 28)).alloc (.cells (Zi c) 30)=Wd at*;have zbk:=Xx T.o.1 0;have zep:=Xx T.o.1 1;have y13:=Xx T.o.2.1 13;go_quiet (fail);go_wp2_with fail;go_ret;exact ⟨rfl,below_drewN T.o.2.2 _⟩
 ·have d0:decide (0<=x.bk)=false:=decide_eq_false h0;have Fe:r=false:=zF
  subst Fe;clear h0;go_enter func63,ntmps63;go_upto_region 1 with (fail);generalize (w.alloc (.cells (ZH x) 28)).alloc (.cells (Zi c) 30)=Wd at*;have zbk:=Xx T.o.1 0;have zep:=Xx T.o.1 1;have y13:=Xx T.o.2.1 13;go_quiet (fail);go_wp2;go_ret;exact ⟨rfl,below_drewN T.o.2.2 _⟩
theorem sj (h:Uf w x c V pd F W) :Z3 64 #[.agg (ZH x),.agg (Zi c)] w (.bool (XQ c (QB x V pd F W) 11)):=by
 have T:=Za (SC.new w x c);have HH:=Za h;obtain ⟨r,hr⟩:=ZR (XQ c (QB x V pd F W) 11);rw [hr];have HX:Zj (∀W1,Zp w.heap.size w W1->Z3 108 #[.slice x.va x.vn x.vc,.func (.func 115) #[] #[]] W1 (.bool r)):=Za fun W1 hb=>by
  rw [<-hr];exact Oc _ _ _ _ _ V rJ W1 (h.sx.vl.below hb) h.sx.vn GC (DE W1 _ V _ call115 dd)
 clear h hr;go_enter func64,ntmps64;exact Zms
end
end
section
open Go Go.RowKit Go.Deep
def gX:Nat->ByteArray
 | 0=>⟨#[99,97,112,97,99,105,116,121]⟩
 | 1=>⟨#[115,117,109]⟩
 | 2=>⟨#[115,117,112,112,108,121]⟩
 | 3=>⟨#[97,99,116,105,118,101]⟩
 | 4=>⟨#[112,101,110,100,105,110,103]⟩
 | 5=>⟨#[101,120,105,116,115]⟩
 | 6=>⟨#[101,112,111,99,104,115]⟩
 | 7=>⟨#[101,109,112,116,121]⟩
 | 8=>⟨#[117,110,98,111,110,100,105,110,103]⟩
 | 9=>⟨#[113,117,101,117,101,115]⟩
 | 10=>⟨#[99,108,111,99,107]⟩
 | 11=>⟨#[115,108,97,115,104,101,100]⟩
 | _=>⟨#[]⟩
def CP:Nat->Nat
 | 0=>53
 | 1=>54
 | 2=>55
 | 3=>56
 | 4=>57
 | 5=>58
 | 6=>59
 | 7=>60
 | 8=>61
 | 9=>62
 | 10=>63
 | 11=>64
 | _=>0
def JU (k:Nat) :Array Zl:= #[.string (gX k),.func (.func (CP k)) #[] #[]]
def D9:Array Zl:= #[.string (gX 0),.func (.func (CP 0)) #[] #[],.string (gX 1),.func (.func (CP 1)) #[] #[],.string (gX 2),.func (.func (CP 2)) #[] #[],.string (gX 3),.func (.func (CP 3)) #[] #[],.string (gX 4),.func (.func (CP 4)) #[] #[],.string (gX 5),.func (.func (CP 5)) #[] #[],.string (gX 6),.func (.func (CP 6)) #[] #[],.string (gX 7),.func (.func (CP 7)) #[] #[],.string (gX 8),.func (.func (CP 8)) #[] #[],.string (gX 9),.func (.func (CP 9)) #[] #[],.string (gX 10),.func (.func (CP 10)) #[] #[],.string (gX 11),.func (.func (CP 11)) #[] #[]]
theorem oB (k:Nat) :(JU k).all (·.oneCell')=true:=by simp [JU,Value.oneCell']
theorem xS:D9.all (·.oneCell')=true:=by simp [D9,Value.oneCell']
theorem oc:(Tryz.prog.info? 74).map (·.size)=some 2:=ZC
theorem wA:(Tryz.prog.info? 30).map (·.size)=some 20:=ZC
theorem gE:(Tryz.prog.info? 75).map (·.size)=some 24:=ZC
theorem kN (w:Zc) :(Yy 75 (.agg D9) (.int .i64 (0:Nat))).run Zb w= .ok (.agg (JU 0)) w:=ZC
theorem kO (w:Zc) :(Yy 75 (.agg D9) (.int .i64 (1:Nat))).run Zb w= .ok (.agg (JU 1)) w:=ZC
theorem kP (w:Zc) :(Yy 75 (.agg D9) (.int .i64 (2:Nat))).run Zb w= .ok (.agg (JU 2)) w:=ZC
theorem kQ (w:Zc) :(Yy 75 (.agg D9) (.int .i64 (3:Nat))).run Zb w= .ok (.agg (JU 3)) w:=ZC
theorem kR (w:Zc) :(Yy 75 (.agg D9) (.int .i64 (4:Nat))).run Zb w= .ok (.agg (JU 4)) w:=ZC
theorem kS (w:Zc) :(Yy 75 (.agg D9) (.int .i64 (5:Nat))).run Zb w= .ok (.agg (JU 5)) w:=ZC
theorem kT (w:Zc) :(Yy 75 (.agg D9) (.int .i64 (6:Nat))).run Zb w= .ok (.agg (JU 6)) w:=ZC
theorem kU (w:Zc) :(Yy 75 (.agg D9) (.int .i64 (7:Nat))).run Zb w= .ok (.agg (JU 7)) w:=ZC
theorem kV (w:Zc) :(Yy 75 (.agg D9) (.int .i64 (8:Nat))).run Zb w= .ok (.agg (JU 8)) w:=ZC
theorem kW (w:Zc) :(Yy 75 (.agg D9) (.int .i64 (9:Nat))).run Zb w= .ok (.agg (JU 9)) w:=ZC
theorem gz (w:Zc) :(Yy 75 (.agg D9) (.int .i64 (10:Nat))).run Zb w= .ok (.agg (JU 10)) w:=ZC
theorem gB (w:Zc) :(Yy 75 (.agg D9) (.int .i64 (11:Nat))).run Zb w= .ok (.agg (JU 11)) w:=ZC
theorem RJ (k:Nat)(hk:k < 12)(w:Zc) :(Yy 75 (.agg D9) (.int .i64 (k:Int))).run Zb w= .ok (.agg (JU k)) w:=by
 have:k=0\/k=1\/k=2\/k=3\/k=4\/k=5\/k=6\/k=7\/k=8\/k=9\/k=10\/k=11:=Zf
 rcases this with rfl | rfl | rfl | rfl | rfl | rfl | rfl | rfl | rfl | rfl | rfl | rfl
 ·exact kN w
 ·exact kO w
 ·exact kP w
 ·exact kQ w
 ·exact kR w
 ·exact kS w
 ·exact kT w
 ·exact kU w
 ·exact kV w
 ·exact kW w
 ·exact gz w
 ·exact gB w
theorem IQ (k:Nat)(hk:k < 12)(args:Array Zl)(w:Zc) :(callFunc (CP k) args).run Zb w= .ok (.enter (CP k) args) w:=by
 have:k=0\/k=1\/k=2\/k=3\/k=4\/k=5\/k=6\/k=7\/k=8\/k=9\/k=10\/k=11:=Zf
 rcases this with rfl | rfl | rfl | rfl | rfl | rfl | rfl | rfl | rfl | rfl | rfl | rfl
 ·exact call53 args w
 ·exact call54 args w
 ·exact call55 args w
 ·exact call56 args w
 ·exact call57 args w
 ·exact call58 args w
 ·exact call59 args w
 ·exact call60 args w
 ·exact call61 args w
 ·exact call62 args w
 ·exact call63 args w
 ·exact call64 args w
theorem oA {x:Sx}{c:Nat->Int}{V:List ZN}{pd F W:List Int}(k:Nat)(hk:k < 12)(w:Zc)(h:Uf w x c V pd F W) :Zv Zb (CP k) #[.agg (ZH x),.agg (Zi c)] w fun e w'=>e= .returned (.bool (XQ c (QB x V pd F W) k))/\Zp w.heap.size w w':=by
 have:k=0\/k=1\/k=2\/k=3\/k=4\/k=5\/k=6\/k=7\/k=8\/k=9\/k=10\/k=11:=Zf
 rcases this with rfl | rfl | rfl | rfl | rfl | rfl | rfl | rfl | rfl | rfl | rfl | rfl
 ·exact xI h
 ·exact xJ h
 ·exact xK h h.c4
 ·exact xL h
 ·exact xM h
 ·exact xN h
 ·exact xO h
 ·exact xP h
 ·exact xQ h
 ·exact xR h
 ·exact si h
 ·exact sj h
theorem NA (w:Zc) :Z3 30 #[] w (.agg D9):=by
 go_enter func30,ntmps30;go_wp2_with (first | (refine Up w.heap.size D9 75 (ZB w _) gE xS ?_; rw [Zq]));exact bodyPost_ret (v:= .agg D9) (results_cell_row (fn:=Tryz.f30) rfl _ _ w.heap.size 75 _ (0,0) _ rfl (ZB w _) underlying75 rfl gE) rfl ⟨rfl,(Zn _ _).alloc (Zh _) _⟩
theorem Rk (w:Zc) :Z3 24 #[] w (.int .i64 12):=by
 go_enter func24,ntmps24;go_wp2_with fail;refine (NA w).mono ?_;rintro e w1 ⟨rfl,hb⟩;have HB:=Za hb;clear hb;generalize D9=q at*;exact zH
def gQ (r:Int) :ByteArray:=if 1<=r/\r<=12 then gX (r - 1).toNat else⟨#[]⟩
theorem Zg5 (k:Nat)(w:Zc) :(Instr.field 74 (.agg (JU k)) 0).run Zb w= .ok (.string (gX k)) w:=ZC
theorem tL (r:Int)(w:Zc)(hr:(YN .i64 r).wf=true) :Z3 23 #[.int .i64 r] w (.string (gQ r)):=by
 obtain ⟨b0,b1⟩:=bounds_i64 hr;clear hr
 by_cases h1:r < 1
 ·have e:gQ r=⟨#[]⟩:=if_neg Zf;have d:decide (r < 1)=true:=decide_eq_true h1;rw [e];clear h1 e b0 b1;go_enter func23,ntmps23;go_wp2_with fail;go_ret;exact ⟨rfl,Zn _ _⟩
 ·have d:decide (r < 1)=false:=decide_eq_false h1
  by_cases h2:12 < r
  ·have e:gQ r=⟨#[]⟩:=if_neg Zf;have d2:decide (12 < r)=true:=decide_eq_true h2;rw [e];clear h1 h2 e b0 b1;go_enter func23,ntmps23;go_wp2_with fail;refine (Rk w).mono ?_;rintro e w1 ⟨rfl,hb⟩;have HB:=Za hb;clear hb;exact zH
  ·have d2:decide (12 < r)=false:=decide_eq_false h2;obtain ⟨k,hk⟩ : ∃k:Nat,r=(k:Int)+1:=⟨(r - 1).toNat,by omega⟩;have hk12:k < 12:=Zf;have e:gQ r=gX k:=by unfold gQ; rw [if_pos Zf,show (r - 1).toNat=k by omega]
   rw [e];have hw:wrap64 (r - 1)=(k:Int):=Rb
   have HI:=Za (RJ k hk12);have HF:=Za (Zg5 k);generalize hq:gX k=q at*;generalize Rf:JU k=ro at*;clear h1 h2 e b0 b1 hq Rf hk;go_enter func23,ntmps23;go_wp2_with fail;refine (Rk w).mono ?_;rintro e w1 ⟨rfl,hb⟩;have HB:=Za hb;clear hb;go_wp2_with fail;refine (NA w1).mono ?_;rintro e w2 ⟨rfl,hb⟩;have GI:Zj (Zp w.heap.size w w2):=Za (HB.o.trans (hb.mono HB.o.size));clear hb;have hI:=HI.o;have hF:=HF.o;generalize D9=rc at*;go_wp2_with fail;go_ret;exact ⟨rfl,GI.o⟩
theorem Iv {x:Sx}{c:Nat->Int}{V:List ZN}{pd F W:List Int}(w:Zc)(h:Uf w x c V pd F W) :Z3 16 #[.agg (ZH x),.agg (Zi c)] w (.int .i64 (Hw c (QB x V pd F W))):=by
 have T0:=Za (SC.new w x c);have HH:=Za h;generalize hs:QB x V pd F W=s at*;have HS:=Za hs;clear h hs;go_enter func16,ntmps16;go_upto_region 1 with (fail);generalize (w.alloc (.cells (ZH x) 28)).alloc (.cells (Zi c) 30)=Wd at*;go_wp2_with fail;refine (NA Wd).mono ?_;rintro e w1 ⟨rfl,hb⟩;have T1:=Za (T0.o.next hb);clear hb T0;go_wp2_with fail;go_loopw [8] (fun s8 wr=> ∃k:Nat,k<=12/\s8= .int .i64 k/\Zj (QN c s k=[])/\Zj (SC w wr x c)) (fun s8 _=>12 -(X6 s8).toNat)
 case atStart=>exact ⟨0,by omega,rfl,Za rfl,T1⟩
 case round=>
  obtain ⟨k,hk,rfl,HV,T⟩:=hrel
  by_cases L9:k < 12
  ·have hix:=RJ k L9;have hen:=IQ k L9;have Ai:=oB k;have T2:=Za (T.o.next ((Zn _ wr).alloc (Zh _) (.cells (JU k) 74)));have N2:Zj (Zu (wr.alloc (.cells (JU k) 74)) wr.heap.size 74 (JU k)):=Za (Zs wr _ _);have HR:Zj (∀W',Zp w.heap.size w W'->Zv Zb (CP k) #[.agg (ZH x),.agg (Zi c)] W' fun e w'=>e= .returned (.bool (XQ c s k))/\Zp W'.heap.size W' w'):=Za fun W' hb=>by
    rw [<-HS.o];exact oA k L9 W' (HH.o.below hb)
   clear T;generalize hrc:D9=rc at*;clear hrc;go_upto_region 4 with (first | (refine Up wr.heap.size (JU k) 74 (ZB wr _) oc Ai ?_; rw [Zq]));refine DH ?_;generalize wr.alloc (.cells (JU k) 74)=W2 at*;generalize wr.heap.size=g at*;have z1:W2.cell? ⟨g,1,none⟩=some (.func (.func (CP k)) #[] #[]):=N2.o.cell 1;clear hix Ai N2;generalize CP k=fk at*;go_wp2_with (first | (refine Kl 28 w.heap.size T2.o.1 underlying28 BM ?_) | (refine Kl 30 (w.heap.size+1) T2.o.2.1 underlying30 wA ?_));refine (HR.o W2 T2.o.2.2).mono ?_;rintro e w3 ⟨rfl,hb⟩;have T3:=Za (T2.o.next hb);clear hb HR T2 z1
   cases hr:XQ c s k with
   | true=>
    have HV2:Zj (QN c s (k+1)=[]):=Za ((jb hr).trans HV.o);clear hr HV;go_wp2_with fail;go_roundw
    case rel=>exact ⟨k+1,by omega,by go_num,HV2,T3⟩
    case measure=>exact KX
   | false=>
    have HF:Zj (Hw c s=(k:Int)+1):=Za (uZ L9 HV.o hr);clear hr HV;go_wp2_with fail;go_ret;exact ⟨by rw [HF.o]; rfl,T3.o.2.2⟩
  ·obtain rfl:k=12:=Zf;have HF:Zj (Hw c s=0):=Za (kf HV.o);clear HV;generalize D9=rc at*;go_wp2_with fail;go_ret;exact ⟨by rw [HF.o]; rfl,T.o.2.2⟩
theorem na {x:Sx}{c:Nat->Int}{V:List ZN}{pd F W:List Int}(w:Zc)(h:Uf w x c V pd F W) :Zv Zb 13 #[.agg (ZH x),.agg (Zi c)] w fun e w'=> ∃v,e= .returned v/\Us w' w.heap.size v (QN c (QB x V pd F W) 12)/\Zp w.heap.size w w':=by
 have T0:=Za (SC.new w x c);have HH:=Za h;generalize hs:QB x V pd F W=s at*;have HS:=Za hs;obtain ⟨i8,tr,wk,wi,hb8⟩:=Gj;clear h hs;go_enter func13,ntmps13;go_upto_region 1 with (fail);generalize (w.alloc (.cells (ZH x) 28)).alloc (.cells (Zi c) 30)=Wd at*;go_wp2_with fail;refine (NA Wd).mono ?_;rintro e w1 ⟨rfl,hb⟩;have T1:=Za (T0.o.next hb);clear hb T0;go_wp2_with fail;go_loopw [5,9] (fun s5 s9 wr=> ∃k:Nat,k<=12/\s9= .int .i64 k/\Zj (Us wr (w.heap.size+2) s5 (QN c s k))/\Zj (SC w wr x c)) (fun _ s9 _=>12 -(X6 s9).toNat)
 case atStart=>exact ⟨0,by omega,rfl,Za (Y4 _ _ _ _),T1⟩
 case round=>
  obtain ⟨k,hk,rfl,HV,T⟩:=hrel
  by_cases L9:k < 12
  ·have hix:=RJ k L9;have hen:=IQ k L9;have Ai:=oB k;have T2:=Za (T.o.next ((Zn _ wr).alloc (Zh _) (.cells (JU k) 74)));have V2:=Za (HV.o.alloc (.cells (JU k) 74));have N2:Zj (Zu (wr.alloc (.cells (JU k) 74)) wr.heap.size 74 (JU k)):=Za (Zs wr _ _);have HR:Zj (∀W',Zp w.heap.size w W'->Zv Zb (CP k) #[.agg (ZH x),.agg (Zi c)] W' fun e w'=>e= .returned (.bool (XQ c s k))/\Zp W'.heap.size W' w'):=Za fun W' hb=>by
    rw [<-HS.o];exact oA k L9 W' (HH.o.below hb)
   clear T HV;generalize hrc:D9=rc at*;clear hrc;go_upto_region 5 with (first | (refine Up wr.heap.size (JU k) 74 (ZB wr _) oc Ai ?_; rw [Zq]));refine DH ?_;generalize wr.alloc (.cells (JU k) 74)=W2 at*;generalize wr.heap.size=g at*;have z1:W2.cell? ⟨g,1,none⟩=some (.func (.func (CP k)) #[] #[]):=N2.o.cell 1;clear hix Ai N2;generalize CP k=fk at*;go_wp2_with (first | (refine Kl 28 w.heap.size T2.o.1 underlying28 BM ?_) | (refine Kl 30 (w.heap.size+1) T2.o.2.1 underlying30 wA ?_));refine (HR.o W2 T2.o.2.2).mono ?_;rintro e w3 ⟨rfl,hb⟩;have T3:=Za (T2.o.next hb);have V3:=Za (Vk V2.o hb);clear hb HR T2 z1 V2
   cases hr:XQ c s k with
   | true=>
    exact ZmE
   | false=>
    have HV2:Zj (QN c s (k+1)=QN c s k++[(k:Int)+1]):=Za (T9 hr);have tk:Zj ((QN c s k).length<=12):=Za (Nat.le_trans (PV c s k) Zf);clear hr;generalize QN c s k=L at*;obtain ⟨m,LF⟩:=ZR (L.length);have V4:Zj (w3.ownsRow (w.heap.size+2) 3 1 u5 m (L.map (ZG .i64))):=Za (by rw [<-LF]; exact V3.o);rw [LF] at tk;have HMM:=Za LF;clear LF V3;go_wp2_with (at_builtin; refine YR _ rfl _ _ 24 rfl (w.heap.size+2) 3 i8 _ 1 8 underlying24 tr wk wi hb8 rfl Qx u5 m (L.map (ZG .i64)) rfl (V4.o.alloc _) (some ⟨w3.heap.size,0,none⟩) 1 1 [.int .i64 ((k:Int)+1)] rfl rfl (fun _=>⟨_,rfl,JN w3 _ _⟩) BW (by have:=tk.o; unfold XL; omega) (by have:=tk.o; omega) (by have:=T3.o.2.1.lt; simp; omega) ?_; intro v1 w4 ho hg Al);have HZ:Zj (Us w4 (w.heap.size+2) v1 (QN c s (k+1))/\SC w w4 x c):=Za (by
     have XJ:=T3.o.2.1.lt;have BK:=T3.o.2.2.size;have TT: ∀q,u5.ownBlock=some q->w.heap.size+2<=q:=fun q hq=>by
      exact ZeM
     have hT4:=T3.o.next ((Zn _ w3).alloc (Zh _) (.cells #[.int .i64 ((k:Int)+1)] 3));refine ⟨?_,hT4.1.grown hg (fun e=>?_),hT4.2.1.grown hg (fun e=>?_),hT4.2.2.grown hg hT4.2.2.size (fun q hq=>by have:=TT q hq; omega)⟩
     ·exact Zfx
     ·have:=TT _ e.symm; omega
     ·have:=TT _ e.symm; omega)
    exact ZmU
  ·obtain rfl:k=12:=Zf;generalize D9=rc at*;exact Zfy
end
section
open Go Go.RowKit Go.Deep
def ZeH (x:Sx) :List Zl:= [.int .i64 x.bk,.int .i64 x.ep,.slice x.va x.vn x.vc,.int .u64 x.D,.int .u64 x.P,.int .u64 x.B,.int .u64 x.ac,.slice x.pa x.pn x.pc,.slice x.fa x.fn x.fc,.slice x.wa x.wn x.wc,.int .i64 (x.mn:Int),.int .i64 (x.tn:Int),.int .i64 x.un]
def Yu (x:Sx) :Array Zl:=(ZeH x).toArray
def stZ:Array Zl:= #[.int .i64 0,.int .i64 0,.slice none 0 0,.int .u64 0,.int .u64 0,.int .u64 0,.int .u64 0,.slice none 0 0,.slice none 0 0,.slice none 0 0,.int .i64 0,.int .i64 0,.int .i64 0]
theorem Sw (x:Sx) :(Yu x).all (·.oneCell')=true:=Array.all_eq_true_iff_forall_mem.2 fun u hu=>by
 simp only [Yu,ZeH,List.mem_toArray,List.mem_cons,List.not_mem_nil,or_false] at hu
 rcases hu with rfl | rfl | rfl | rfl | rfl | rfl | rfl | rfl | rfl | rfl | rfl | rfl | rfl <;> rfl
theorem Hz:(Tryz.prog.info? 32).map (·.size)=some 13:=ZC
def RB (w W:Zc)(x:Sx) :Prop:=Zu W w.heap.size 32 (Yu x)/\Zp w.heap.size w W
theorem RB.new (w:Zc)(x:Sx) :RB w (w.alloc (.cells (Yu x) 32)) x:=⟨Zs w _ _,(Zn _ _).alloc (Zh _) _⟩
theorem RB.next {w W W':Zc}{x:Sx}(h:RB w W x)(hb:Zp W.heap.size W W') :RB w W' x:=⟨h.1.below hb h.1.lt,h.2.trans (hb.mono h.2.size)⟩
theorem TH {ops:Array Oper}{rest:List Oper}{op:Oper}{a:Act}{w:Zc}{Q:Exit->Act->Zc->Prop}(hg:op.guard=none)(parts:Array (Nat × Operand))(ho:op.op= .build 32 parts)(x:Sx)
  (hf:Tryz.prog.built 32 (parts.map fun (i,x)=>(i,a.eval x)).toList=some (Yu x)) (h:wpList Zb ops Q rest (a.put op.dst (.agg (Yu x))) w) :wpList Zb ops Q (op::rest) a w:=
 wpList_build hg 32 parts ho CD CB
theorem sF (x:Sx)(w:Zc) :Z3 9 #[.agg (ZH x)] w (.agg (Yu x)):=by
 have N0:Zj (Zu ((w.alloc (.cells (ZH x) 28)).alloc (.cells stZ 32)) w.heap.size 28 (ZH x)):=Za ((Zs w _ _).alloc _);have N1:Zj (Zu ((w.alloc (.cells (ZH x) 28)).alloc (.cells stZ 32)) (w.heap.size+1) 32 stZ):=Za (Ej w _ _ _);have HB:Zj (Zp w.heap.size w ((w.alloc (.cells (ZH x) 28)).alloc (.cells stZ 32))):=Za (((Zn _ _).alloc (Zh _) _).alloc ZE _);go_enter func9,ntmps9;go_upto_region 1 with (fail);change Code.wp _ _ _ _ ((w.alloc (.cells (ZH x) 28)).alloc (.cells stZ 32));generalize (w.alloc (.cells (ZH x) 28)).alloc (.cells stZ 32)=Wd at*;have z0:=Xx N0.o 0;have z1:=Xx N0.o 1;have z2:=Xx N0.o 2;have z3:=Xx N0.o 3;have z4:=Xx N0.o 4;have z5:=Xx N0.o 5;have z6:=Xx N0.o 6;have z7:=Xx N0.o 7;have z8:=Xx N0.o 8;have z9:=Xx N0.o 9;have z10:=Xx N0.o 10;have z11:=Xx N0.o 11;have z14:=Xx N0.o 14;go_wp2_with (first | (refine TH (op:=⟨some 31,.build _ _,_,_,_,_⟩) rfl _ rfl x ZC ?_) | (refine wpList_store_row (o:=⟨none,.store _ _ _,_,_,_,_⟩) rfl _ _ _ rfl (w.heap.size+1) (Yu x) rfl rfl 32 _ N1.o Hz rfl (Sw x) ?_));exact bodyPost_ret (v:= .agg (Yu x)) (results_cell_row (fn:=Tryz.f9) rfl _ _ (w.heap.size+1) 32 _ (0,0) _ rfl (setRow_heap _ _ _ _ _ _ N1.o) underlying32 rfl Hz) rfl ⟨rfl,below_setRow HB.o Zf _⟩
theorem xU {P:Program}(w:Zc)(ts:Array ZL)(t:ZL)(a b c:Int) :(Vc ts t #[.int .i64 a,.int .i64 b,.int .i64 c]).run P w= .ok (.int .i64 (max (max a b) c)) w:=Zm2
theorem xV {P:Program}(w:Zc)(ts:Array ZL)(t:ZL)(a b c:Int) :(Builtin.min_ ts t #[.int .i64 a,.int .i64 b,.int .i64 c]).run P w= .ok (.int .i64 (min (min a b) c)) w:=by
 have e2: ∀x y:Int,(if y < x then y else x)=min x y:=fun x y=>by
  rw [Int.min_def]
  split <;> split <;> omega
 simp [Builtin.min_,Builtin.min2,e2]
def NK (v:ZN) :Bool:=decide (max (max v.ex v.wd) v.rq<=1152921504606846976/\ -1152921504606846976<=min (min v.ex v.wd) v.rq)
def Eu (x:Sx)(V:List ZN) :Bool:=V.all NK&&decide (x.vn<=60/\x.pn<=60/\x.fn<=60/\x.wn<=60/\x.mn<=60/\x.tn<=60)
theorem ZbP (S:Nat->Prop)(x:Sx)(V:List ZN)(w:Zc)(h:FL w S x.va V)(hl:V.length=x.vn)(hc:x.vn<=XL)(hp:x.pn<=XL)(hf:x.fn<=XL)(hw:x.wn<=XL)(hm:x.mn<=XL)(ht:x.tn<=XL) :
  Z3 11 #[.agg (Yu x)] w (.bool (Eu x V)):=by
 have T0:=Za (RB.new w x);have HL:=Za (Zm h hl);obtain ⟨r,hr⟩:=ZR (Eu x V);have HR:Zj (r=(V.all NK&&decide (x.vn<=60/\x.pn<=60/\x.fn<=60/\x.wn<=60/\x.mn<=60/\x.tn<=60))):=Za hr.symm;rw [hr];unfold XL at hc hp hf hw hm ht;clear h hl hr;go_enter func11,ntmps11;go_upto_region 1 with (fail);generalize w.alloc (.cells (Yu x) 32)=Wd at*;go_wp2_with fail;go_loopw [3] (fun s3 wr=> ∃k:Nat,k<=x.vn/\s3= .int .i64 k/\Zj ((V.take k).all NK=true)/\Zj (RB w wr x)) (fun s3 _=>x.vn -(X6 s3).toNat)
 case atStart=>exact pq
 case round=>
  obtain ⟨k,hk,rfl,HA,T⟩:=hrel;have z2:=Xx T.o.1 2
  by_cases XJ:k < x.vn
  ·obtain ⟨v,hv⟩ : ∃v,V[k]?=some v:=⟨_,Zg Ft⟩;obtain ⟨b,off,IX,My⟩:=(HL.o.1.below T.o.2).at hv;rw [IX] at z2;have Iz:=Za My;have HS:Zj ((V.take (k+1)).all NK=NK v):=Za Wa;have HVM:Zj (v ∈ V):=Za (Zz hv);have T1:=Za (T.o.next ((Zn _ wr).alloc (Zh _) (.cells (Ze v) 68)));have N1:Zj (Zu (wr.alloc (.cells (Ze v) 68)) wr.heap.size 68 (Ze v)):=Za (Zs wr _ _);clear My hv IX HA T;go_upto_region 5 with (first | (refine YT rfl 68 _ rfl b (off+k*7) rfl v _ Iz.o underlying68 rfl Ya ?_) | (refine Up wr.heap.size (Ze v) 68 (ZB wr _) Ya (Yi _) ?_; rw [Zq]));refine DH ?_;clear Iz z2;generalize wr.alloc (.cells (Ze v) 68)=W at*;generalize wr.heap.size=g at*;have y3:=Xx N1.o 3;have y4:=Xx N1.o 4;have y5:=Xx N1.o 5;obtain ⟨M,hM⟩:=ZR (max (max v.ex v.wd) v.rq);obtain ⟨m,Ia⟩:=ZR (min (min v.ex v.wd) v.rq);have hmx: ∀(ts:Array ZL) (t:ZL) (w:Zc),(Vc ts t #[.int .i64 v.ex,.int .i64 v.wd,.int .i64 v.rq]).run Zb w= .ok (.int .i64 M) w:=fun ts t w=>by rw [xU,hM]
   have hmi: ∀(ts:Array ZL) (t:ZL) (w:Zc),(Builtin.min_ ts t #[.int .i64 v.ex,.int .i64 v.wd,.int .i64 v.rq]).run Zb w= .ok (.int .i64 m) w:=fun ts t w=>by rw [xV,Ia]
   have HF:Zj (NK v=decide (M<=1152921504606846976/\ -1152921504606846976<=m)):=Za (by unfold NK; rw [hM,Ia]);clear hM Ia N1
   by_cases h1:1152921504606846976 < M
   ·have d1:decide (1152921504606846976 < M)=true:=decide_eq_true h1;have Fe:r=false:=ZmQ
    subst Fe;clear h1;exact jg
   ·have d1:decide (1152921504606846976 < M)=false:=decide_eq_false h1
    by_cases h2:m < -1152921504606846976
    ·have d2:decide (m < -1152921504606846976)=true:=decide_eq_true h2;have Fe:r=false:=ZmQ
     subst Fe;clear h1 h2;exact jg
    ·have d2:decide (m < -1152921504606846976)=false:=decide_eq_false h2;have ng:Zj ((V.take (k+1)).all NK=true):=Za (by rw [HS.o,HF.o,decide_eq_true_eq]; omega);clear h1 h2 HS HF;exact aN
  ·obtain rfl:k=x.vn:=Zf;have HRE:Zj (r=decide (x.vn<=60/\x.pn<=60/\x.fn<=60/\x.wn<=60/\x.mn<=60/\x.tn<=60)):=Za (by
    rw [HR.o];have:=HA.o;rw [ZV NF] at this;rw [this,GH])
   have z7:=Xx T.o.1 7;have z8:=Xx T.o.1 8;have z9:=Xx T.o.1 9;have z10:wr.cell? ⟨w.heap.size,10,none⟩=some (.int .i64 (x.mn:Int)):=T.o.1.cell 10;have z11:wr.cell? ⟨w.heap.size,11,none⟩=some (.int .i64 (x.tn:Int)):=T.o.1.cell 11;clear XJ HA HR;have XJ: ¬x.vn < x.vn:=Zf
   by_cases q0:x.vn<=60
   ·have d0:decide ((x.vn:Int)<=60)=true:=decide_eq_true Zf;have e0:decide (x.vn<=60)=true:=decide_eq_true q0
    by_cases q1:x.pn<=60
    ·have d1:decide ((x.pn:Int)<=60)=true:=decide_eq_true Zf;have e1:decide (x.pn<=60)=true:=decide_eq_true q1
     by_cases q2:x.fn<=60
     ·have d2:decide ((x.fn:Int)<=60)=true:=decide_eq_true Zf;have e2:decide (x.fn<=60)=true:=decide_eq_true q2
      by_cases q3:x.wn<=60
      ·have d3:decide ((x.wn:Int)<=60)=true:=decide_eq_true Zf;have e3:decide (x.wn<=60)=true:=decide_eq_true q3
       by_cases q4:x.mn<=60
       ·have d4:decide ((x.mn:Int)<=60)=true:=decide_eq_true Zf;have e4:decide (x.mn<=60)=true:=decide_eq_true q4
        by_cases q5:x.tn<=60
        ·have d5:decide ((x.tn:Int)<=60)=true:=decide_eq_true Zf;have e5:decide (x.tn<=60)=true:=decide_eq_true q5;have Fe:r=true:=by rw [HRE.o]; exact decide_eq_true Zf
         exact Zfz
        ·have d5:decide ((x.tn:Int)<=60)=false:=decide_eq_false Zf;have e5:decide (x.tn<=60)=false:=decide_eq_false q5;have Fe:r=false:=aO
         exact Zfz
       ·have d4:decide ((x.mn:Int)<=60)=false:=decide_eq_false Zf;have e4:decide (x.mn<=60)=false:=decide_eq_false q4;have Fe:r=false:=aO
        subst Fe;clear q0 q1 q2 q3 q4;exact aP
      ·have d3:decide ((x.wn:Int)<=60)=false:=decide_eq_false Zf;have e3:decide (x.wn<=60)=false:=decide_eq_false q3;have Fe:r=false:=aO
       subst Fe;clear q0 q1 q2 q3;exact aP
     ·have d2:decide ((x.fn:Int)<=60)=false:=decide_eq_false Zf;have e2:decide (x.fn<=60)=false:=decide_eq_false q2;have Fe:r=false:=aO
      subst Fe;clear q0 q1 q2;exact aP
    ·have d1:decide ((x.pn:Int)<=60)=false:=decide_eq_false Zf;have e1:decide (x.pn<=60)=false:=decide_eq_false q1;have Fe:r=false:=aO
     subst Fe;clear q0 q1;exact aP
   ·have d0:decide ((x.vn:Int)<=60)=false:=decide_eq_false Zf;have e0:decide (x.vn<=60)=false:=decide_eq_false q0;have Fe:r=false:=aO
    subst Fe;clear q0;exact aP
end
section
open Go Go.RowKit Go.Deep
theorem ZcF {w:Zc}{base g n cp:Nat}{z:List Int}(h:w.ownsRow base 23 1 (.slice (some ⟨g,0,none⟩) n cp) n (z.map (ZG .u64)))(hl:z.length=n) : ∀i,i < n->w.cell? ⟨g,0+i,none⟩=some (.int .u64 (z.getD i 0)):=fun i hi=>by
 have e:(z.map (ZG .u64))[i]?=some (.int .u64 (z.getD i 0)):=by
  rw [ZM,Zo,Zg (by omega:i < z.length)];rfl
 have:=h.cells (g:=g) rfl i _ e;rwa [add_plain] at this
theorem lX (v:Zl)(base:Nat)(z:List Int)(w:Zc)(h:w.ownsRow base 23 1 v z.length (z.map (ZG .u64)))(hl:z.length<=100000)(hz: ∀i,0<=z.getD i 0/\z.getD i 0<=18446744073709551615) :
  Xc 67 #[v] w (.tuple #[.int .u64 (BB z z.length),.bool (KS z z.length)]):=by
 rcases h.2 with ⟨rfl,h0⟩ | ⟨g,cp,cur,rfl,_⟩
 ·obtain rfl:=List.eq_nil_of_length_eq_zero h0;exact (S8 none 0 w).mono fun e w' ⟨he,hw⟩=>⟨by rw [he]; rfl,0,hw.symm⟩
 ·exact AR g 0 z.length cp z w Zf (ZcF h rfl) hz
def isB (z:List Int)(want:Int) :Bool:=KS z z.length&&decide (BB z z.length=want)
theorem wF (v:Zl)(base:Nat)(z:List Int)(want:Int)(w:Zc)(h:w.ownsRow base 23 1 v z.length (z.map (ZG .u64)))(hl:z.length<=100000)(hz: ∀i,0<=z.getD i 0/\z.getD i 0<=18446744073709551615) :
  Xc 66 #[v,.int .u64 want] w (.bool (isB z want)):=by
 have HA:=Za (lX v base z w h hl hz);obtain ⟨r,hr⟩:=ZR (isB z want);rw [hr];unfold isB at hr;generalize BB z z.length=q at*
 cases ho:KS z z.length with
 | true=>
  rw [ho] at HA hr;have d:(q==want)=r:=by rw [<-hr,GH,YD,beq_iff_eq,decide_eq_true_eq]
  exact ZmW
 | false=>
  rw [ho] at HA hr;have Fe:r=false:=by rw [<-hr]; rfl
  subst Fe;exact ZmW
theorem wP (S:Nat->Prop)(a:Option Addr)(n cp:Nat)(l:List ZN)(w:Zc)(h:FL w S a l)(hl:l.length=n)(hn:n<=4096) :
  Zv Zb 68 #[.slice a n cp] w fun e w'=> ∃v,e= .returned v/\w'.ownsRow w.heap.size 23 1 v (l.filter fun v=>QG v.st).length (Qw (l.filter fun v=>QG v.st))/\Zp w.heap.size w w':=by
 have HL:=Za (Zm h hl);obtain ⟨j0,OP,GO,GF,EO⟩:=T8;clear h hl;go_enter func68,ntmps68;go_wp2_with fail;go_loopw [3,4] (fun s3 s4 wr=> ∃k:Nat,k<=n/\s4= .int .i64 k/\Zj (wr.ownsRow w.heap.size 23 1 s3 ((l.take k).filter fun v=>QG v.st).length (Qw ((l.take k).filter fun v=>QG v.st)))/\Zj (Zp w.heap.size w wr)) (fun _ s4 _=>n -(X6 s4).toNat)
 case atStart=>exact ⟨0,by omega,rfl,Za (Y4 _ _ _ _),Za (Zn _ _)⟩
 case round=>
  obtain ⟨k,hk,rfl,HO,BR⟩:=hrel
  by_cases XJ:k < n
  ·obtain ⟨v,hv⟩ : ∃v,l[k]?=some v:=⟨_,Zg Ft⟩;obtain ⟨b,off,rfl,e0,e1,_⟩:=(HL.o.1.below BR.o).at2 hv;have HS:=Za (SD (fun v=>QG v.st) hv);have HV:=Za (fun w=>iu v.st w);have hlen:((l.take k).filter fun v=>QG v.st).length<=4096:=by have:=List.length_filter_le (fun v:ZN=>QG v.st) (l.take k); rw [Xl] at this; omega
   have CK:=Za hlen;clear hv hlen
   cases hp:QG v.st with
   | true=>
    have Hi:Zj ((l.take (k+1)).filter (fun v=>QG v.st)=(l.take k).filter (fun v=>QG v.st)++[v]):=Za We;rw [hp] at HV;clear HS hp;generalize (l.take k).filter (fun v=>QG v.st)=L at*;obtain ⟨m,LF⟩:=ZR (L.length);rw [LF] at HO CK;have HMM:=Za LF;clear LF;go_wp2_with fail;refine (HV.o _).mono ?_;rintro e w1 ⟨rfl,rfl⟩;go_wp2_with (at_builtin; refine YR _ rfl _ _ 121 rfl w.heap.size 23 j0 _ 1 8 underlying121 OP GO GF EO rfl Qx u3 m (Qw L) rfl (HO.o.alloc _) (some ⟨wr.heap.size,0,none⟩) 1 1 [.int .u64 v.bal] rfl rfl (fun _=>⟨_,rfl,JN wr _ _⟩) BW Fq Fu (by have:=BR.o.size; simp; omega) ?_; intro v1 w2 ho hg Al);have HZ:Zj (w2.ownsRow w.heap.size 23 1 v1 ((l.take (k+1)).filter fun v=>QG v.st).length (Qw ((l.take (k+1)).filter fun v=>QG v.st))/\Zp w.heap.size w w2):=Za (by
     refine ⟨by rw [Hi.o,MG,ZI,HMM.o]; exact ho,?_⟩;have BK:=BR.o.size;refine (BR.o.alloc BK _).grown hg Xo (fun q hq=>?_)
     rcases HO.o.2 with ⟨h1,_⟩ | ⟨g,Bg,cur,h1,h2,_⟩
     ·exact CF
     ·rw [h1] at hq; simp [Value.ownBlock] at hq; omega)
    clear ho hg Al e0 e1 HO BR;exact Zi7
   | false=>
    have Hi:Zj ((l.take (k+1)).filter (fun v=>QG v.st)=(l.take k).filter (fun v=>QG v.st)):=Za (by rw [HS.o,hp]; simp);rw [hp] at HV;clear HS hp;go_wp2_with fail;refine (HV.o _).mono ?_;rintro e w1 ⟨rfl,rfl⟩;go_wp2_with fail;go_roundw
    case rel=>exact ⟨k+1,by omega,by go_num,Za (by rw [Hi.o]; exact HO.o),BR⟩
    case measure=>exact KX
  ·obtain rfl:k=n:=Zf;have HZ:Zj (wr.ownsRow w.heap.size 23 1 u3 (l.filter fun v=>QG v.st).length (Qw (l.filter fun v=>QG v.st))):=Za (by
    have:=HO.o;rwa [ZV NF] at this)
   clear XJ HO;have XJ: ¬k < k:=Zf;go_wp2_with fail;go_ret;exact ⟨_,rfl,HZ.o,BR.o⟩
def VL (w:Zc)(base:Nat)(v:Zl)(z:List Bool) :Prop:=w.ownsRow base 4 1 v z.length (z.map Q8)
theorem VL.slice {w:Zc}{base:Nat}{v:Zl}{z:List Bool}(h:VL w base v z) : ∃a cp,v= .slice a z.length cp/\ ∀i,i < z.length-> ∃g,a=some ⟨g,0,none⟩/\w.cell? ⟨g,i,none⟩=some (.bool (z.getD i false)):=by
 rcases h.2 with ⟨rfl,h0⟩ | ⟨g,cp,cur,rfl,_⟩
 ·exact ⟨none,0,by rw [h0],fun i hi=>by omega⟩
 ·refine ⟨_,cp,rfl,fun i hi=>⟨g,rfl,?_⟩⟩;have e:(z.map Q8)[i]?=some (.bool (z.getD i false)):=by
   rw [ZM,Zo,Zg hi];rfl
  have:=World.ownsRow.cells h (g:=g) rfl i _ e;rwa [add_plain,ZW] at this
theorem eZ {z:List Bool}{k:Nat}(hk:k < z.length) :(z.take (k+1)).count true=(z.take k).count true+if z.getD k false=true then 1 else 0:=by
 have hz:z[k]?=some (z.getD k false):=by rw [Zo,Zg hk]; rfl
 rw [Y8,hz];simp [Uj]
theorem lS (base:Nat)(v:Zl)(z:List Bool)(w:Zc)(h:VL w base v z)(hn:z.length<=4096) :
  Zv Zb 72 #[v] w fun e w'=>e= .returned (.int .i64 ((z.count true:Nat) :Int))/\w'=w:=by
 obtain ⟨a,cp,rfl,hc⟩:=h.slice;obtain ⟨n,hnn⟩:=ZR (z.length);have HC:=Za (Zm hc hnn);rw [hnn] at hn ⊢;clear h hc hnn;go_enter func72,ntmps72;go_wp2_with fail;go_loop [3,4] (fun s3 s4=> ∃k t:Nat,k<=n/\s4= .int .i64 k/\s3= .int .i64 t/\t<=k/\Zj (t=(z.take k).count true)) (fun _ s4=>n -(X6 s4).toNat)
 case atStart=>exact ZfY
 case round=>
  obtain ⟨k,t,hk,rfl,rfl,ht,HT⟩:=hrel
  by_cases XJ:k < n
  ·obtain ⟨g,rfl,KT⟩:=HC.o.1 k dL;have HS:=Za (eZ (z:=z) (k:=k) dL)
   cases hb:z.getD k false with
   | true=>
    rw [hb] at KT;have Hi:Zj ((z.take (k+1)).count true=t+1):=Za (by rw [HS.o,hb,HT.o]; rfl);clear HS hb;go_wp2_with fail;go_round
    case rel=>exact ⟨k+1,t+1,by omega,by go_num,by go_num,by omega,Za Hi.o.symm⟩
    case measure=>exact KX
   | false=>
    rw [hb] at KT;have Hi:Zj ((z.take (k+1)).count true=t):=Za (by rw [HS.o,hb,HT.o]; rfl);clear HS hb;go_wp2_with fail;go_round
    case rel=>exact ⟨k+1,t,by omega,by go_num,rfl,by omega,Za Hi.o.symm⟩
    case measure=>exact KX
  ·obtain rfl:k=n:=Zf;have HE:Zj (t=z.count true):=Za (by rw [HT.o,ZV (by rw [HC.o.2]; exact Zh _)]);clear XJ;have XJ: ¬k < k:=Zf;go_wp2_with fail;go_ret;exact ⟨by rw [HE.o]; rfl,rfl⟩
theorem gY (T:Nat->Prop)(base:Nat)(qa:Option Addr)(nq cq:Nat)(L:List Int)(v:Zl)(z:List Bool)(w:Zc)(hq:XS w T qa L)(hql:L.length=nq)(hqn:nq<=10000)(h:VL w base v z)(hn:z.length<=4096) :
  Zv Zb 69 #[.slice qa nq cq,v] w fun e w'=>e= .returned (.bool (oh L z))/\w'=w:=by
 obtain ⟨a,cp,rfl,hc⟩:=h.slice;obtain ⟨n,hnn⟩:=ZR (z.length);have HC:=Za (Zm hc hnn);have HQ:=Za (Zm hq hql);obtain ⟨r,hr⟩:=ZR (oh L z);have HR:Zj (r=(((YO n).all fun i=>MH L (z.getD i false) i)&&decide (Vz (fun i=>L.count (i:Int)) n=nq))):=Za (by rw [<-hr,<-hnn,<-hql]; rfl);rw [hr];rw [hnn] at hn ⊢;clear h hc hnn hq hql hr;go_enter func69,ntmps69;go_wp2_with fail;go_loop [5,6] (fun s5 s6=> ∃i t:Nat,i<=n/\s6= .int .i64 i/\s5= .int .i64 t/\t<=10000/\Zj (t=Vz (fun i=>L.count (i:Int)) i)/\Zj ((YO i).all (fun i=>MH L (z.getD i false) i)=true)) (fun _ s6=>n -(X6 s6).toNat)
 case atStart=>exact ⟨0,0,by omega,rfl,rfl,by omega,Za rfl,Za rfl⟩
 case round=>
  obtain ⟨i,t,hi,rfl,rfl,ht,HT,HA⟩:=hrel
  by_cases XJ:i < n
  ·go_wp2_with fail;go_loop [7,8] (fun s7 s8=> ∃j c:Nat,j<=nq/\s8= .int .i64 j/\s7= .int .i64 c/\c<=j/\Zj (c=(L.take j).count (i:Int))) (fun _ s8=>nq -(X6 s8).toNat)
   case atStart=>exact ZfY
   case round=>
    obtain ⟨j,c,hj,rfl,rfl,hcj,HCJ⟩:=hrel
    by_cases Pv:j < nq
    ·obtain ⟨b,off,rfl,_,_,hcc⟩:=HQ.o.1 (by rw [HQ.o.2]; omega);have KT:=hcc j (by rw [HQ.o.2]; exact Pv);obtain ⟨y,hy⟩ : ∃y,L[j]?=some y:=⟨_,Zg (by rw [HQ.o.2]; exact Pv)⟩;rw [Zo,hy,Option.getD_some] at KT;have HS:Zj ((L.take (j+1)).count (i:Int)=c+if y=(i:Int) then 1 else 0):=Za (by
      rw [Y8,hy,HCJ.o];simp only [Option.toList,List.count_append,Uj,List.count_nil,beq_iff_eq,ZW])
     clear hcc hy
     by_cases hyi:y=(i:Int)
     ·have d:(y==(i:Int))=true:=by simpa using hyi
      have Hi:Zj ((L.take (j+1)).count (i:Int)=c+1):=Za (by rw [HS.o,if_pos hyi]);clear hyi HS;go_wp2_with fail;go_round
      case rel=>exact ⟨j+1,c+1,by omega,by go_num,by go_num,by omega,Za Hi.o.symm⟩
      case measure=>exact KX
     ·have d:(y==(i:Int))=false:=by simpa using hyi
      have Hi:Zj ((L.take (j+1)).count (i:Int)=c):=Za (by rw [HS.o,if_neg hyi]; rfl);clear hyi HS;go_wp2_with fail;go_round
      case rel=>exact ⟨j+1,c,by omega,by go_num,rfl,by omega,Za Hi.o.symm⟩
      case measure=>exact KX
    ·obtain rfl:j=nq:=Zf;have HE:Zj (c=L.count (i:Int)):=Za (by rw [HCJ.o,ZV (by rw [HQ.o.2]; exact Zh _)]);have HTU:Zj (t+c=Vz (fun i=>L.count (i:Int)) (i+1)/\t+c<=10000):=Za (by
      have e1:Vz (fun i=>L.count (i:Int)) (i+1)=t+c:=by rw [Vz,<-HT.o,HE.o]
      have:=R0 (i+1) L;have:=HQ.o.2;omega)
     obtain ⟨g,rfl,KT⟩:=HC.o.1 i dL;obtain ⟨bw,hbw⟩:=ZR (z.getD i false);rw [hbw] at KT;have HON:Zj (MH L (z.getD i false) i=(decide (c<=1)&&(decide (c=1)==bw))):=Za (by unfold MH; rw [HE.o,hbw]);clear hbw;clear Pv;have Pv: ¬j < j:=Zf
     by_cases h1:1 < c
     ·have d1:decide ((1:Int)< (c:Int))=true:=decide_eq_true Zf;have Fe:r=false:=by
       have:((YO n).all fun i=>MH L (z.getD i false) i)=false:=by
        rw [Ux];intro Bh;have h3:=YP.1 Bh i (XT.2 XJ);unfold MH at h3;rw [<-HE.o] at h3;simp at h3;omega
       rw [HR.o,this];rfl
      subst Fe;clear h1;go_wp2_with fail;go_ret;exact Gw
     ·have d1:decide ((1:Int)< (c:Int))=false:=decide_eq_false Zf
      cases bw with
      | true=>
       by_cases h2:c=1
       ·skip
        have d2:((c:Int)==1)=true:=by rw [h2]; rfl
        have ng:Zj ((YO (i+1)).all (fun i=>MH L (z.getD i false) i)=true):=Za (by
         refine Zl3 ?_;simp [h2])
        exact ZmR
       ·skip
        have d2:((c:Int)==1)=false:=by rw [beq_eq_false_iff_ne]; omega
        exact Zmv
      | false=>
       by_cases h2:c=1
       ·skip
        have d2:((c:Int)==1)=true:=by rw [h2]; rfl
        exact Zmv
       ·skip
        have d2:((c:Int)==1)=false:=by rw [beq_eq_false_iff_ne]; omega
        have ng:Zj ((YO (i+1)).all (fun i=>MH L (z.getD i false) i)=true):=Za (by
         refine Zl3 ?_;simp [h2];omega)
        exact ZmR
  ·obtain rfl:i=n:=Zf;have d:((t:Int)==(nq:Int))=r:=by
    rw [HR.o,HA.o,GH,<-HT.o,YD,beq_iff_eq,decide_eq_true_eq];omega
   have d2:(t==nq)=r:=zq
   clear XJ;have XJ: ¬i < i:=Zf;go_wp2_with fail;go_ret;exact Gw
end
section
open Go Go.RowKit Go.Deep
theorem Wz: ∃i,Tryz.prog.info? 4=some i/\i.zero=some (.bool false)/\i.size=1/\i.bytes=1:=by
 have h:(Tryz.prog.info? 4).map (fun i=>(i.zero,i.size,i.bytes))=some (some (.bool false),1,1):=ZC
 cases hi:Tryz.prog.info? 4 with
 | none=>exact LV
 | some i=>
  exact Oa
theorem Av {V:List ZN}{k:Nat}{v:ZN}(p:ZN->Bool)(h:V[k]?=some v) :(V.take (k+1)).map p=(V.take k).map p++[p v]:=by rw [Bx h,Xv]; rfl
theorem VL.grow {w wr w1 w2:Zc}{x:Sx}{v v1:Zl}{z:List Bool}{bq:Bool}{g:Nat}(h:VL w1 (w.heap.size+1) v z)(T:RB w w1 x)(ho:w2.ownsRow (w.heap.size+1) 4 1 v1 (z.length+1) (z.map Q8++[.bool bq]))(hg:(w1.alloc (.cells #[.bool bq] 4)).grownBy w2 v.ownBlock) :VL w2 (w.heap.size+1) v1 (z++[bq])/\RB w w2 x:=by
 have XJ:=T.1.lt;have BK:=T.2.size;have TT: ∀q,v.ownBlock=some q->w.heap.size+1<=q:=fun q hq=>by
  rcases h.2 with ⟨h1,_⟩ | ⟨g,Bg,cur,h1,h2,_⟩
  ·exact CF
  ·exact po
 have hT:=T.next ((Zn _ w1).alloc (Zh _) (.cells #[.bool bq] 4));refine ⟨?_,hT.1.grown hg (fun e=>?_),hT.2.grown hg hT.2.size (fun q hq=>by have:=TT q hq; omega)⟩
 ·unfold VL;rw [ZI,Xv];exact ho
 ·have:=TT _ e.symm; omega
theorem eQ (S:Nat->Prop)(x:Sx)(V:List ZN)(w:Zc)(h:FL w S x.va V)(hl:V.length=x.vn)(hn:x.vn<=4096) :
  Zv Zb 70 #[.agg (Yu x),.int .i64 5] w fun e w'=> ∃v,e= .returned v/\VL w' w.heap.size v (V.map dX)/\Zp w.heap.size w w':=by
 have T0:=Za (RB.new w x);have HL:=Za (Zm h hl);obtain ⟨j0,OP,GO,GF,EO⟩:=Wz;clear h hl;go_enter func70,ntmps70;go_upto_region 1 with (fail);generalize w.alloc (.cells (Yu x) 32)=Wd at*;go_wp2_with fail;go_loopw [5,6] (fun s5 s6 wr=> ∃k:Nat,k<=x.vn/\s6= .int .i64 k/\Zj (VL wr (w.heap.size+1) s5 ((V.take k).map dX))/\Zj (RB w wr x)) (fun _ s6 _=>x.vn -(X6 s6).toNat)
 case atStart=>exact pj
 case round=>
  obtain ⟨k,hk,rfl,HO,T⟩:=hrel;have z2:=Xx T.o.1 2
  by_cases XJ:k < x.vn
  ·obtain ⟨v,hv⟩ : ∃v,V[k]?=some v:=⟨_,Zg Ft⟩;obtain ⟨b,off,IX,My⟩:=(HL.o.1.below T.o.2).at hv;rw [IX] at z2;have Iz:=Za My;have HS:=Za (Av dX hv);have T1:=Za (T.o.next ((Zn _ wr).alloc (Zh _) (.cells (Ze v) 68)));have O1:=Za (HO.o.alloc (.cells (Ze v) 68));have N1:Zj (Zu (wr.alloc (.cells (Ze v) 68)) wr.heap.size 68 (Ze v)):=Za (Zs wr _ _);have CK:Zj (((V.take k).map dX).length<=4096):=Za dD;clear My hv IX HO T;generalize hZ:(V.take k).map dX=Z at*;clear hZ;go_upto_region 6 with (first | (refine YT rfl 68 _ rfl b (off+k*7) rfl v _ Iz.o underlying68 rfl Ya ?_) | (refine Up wr.heap.size (Ze v) 68 (ZB wr _) Ya (Yi _) ?_; rw [Zq]));refine DH ?_;clear Iz z2;generalize wr.alloc (.cells (Ze v) 68)=W at*;generalize wr.heap.size=g at*;have y1:=Xx N1.o 1;have y4:=Xx N1.o 4;clear N1;obtain ⟨m,LF⟩:=ZR (Z.length);have O2:Zj (W.ownsRow (w.heap.size+1) 4 1 u5 m (Z.map Q8)):=Za dJ;rw [LF] at CK;have HMM:=Za LF;clear LF;obtain ⟨bq,d⟩ : ∃bq,(v.st==1)=bq:=⟨_,rfl⟩;have HP:Zj (dX v=bq):=Za (by rw [<-d]; unfold dX; rw [YD]; simp);go_wp2_with (at_builtin; refine YR _ rfl _ _ 127 rfl (w.heap.size+1) 4 j0 _ 1 1 underlying127 OP GO GF EO rfl Qx u5 m (Z.map Q8) rfl (O2.o.alloc _) (some ⟨W.heap.size,0,none⟩) 1 1 [.bool bq] rfl rfl (fun _=>⟨_,rfl,JN W _ _⟩) BW Fq Fu NG ?_; intro v1 w2 ho hg Al);have HZ:Zj (VL w2 (w.heap.size+1) v1 ((V.take (k+1)).map dX)/\RB w w2 x):=Za dx;clear ho hg Al O1 O2 T1 y1 y4;exact Zi7
  ·obtain rfl:k=x.vn:=Zf;have HZ:Zj (VL wr (w.heap.size+1) u5 (V.map dX)):=Za (by
    have:=HO.o;rwa [ZV NF] at this)
   exact yF
theorem eR (S:Nat->Prop)(x:Sx)(V:List ZN)(w:Zc)(h:FL w S x.va V)(hl:V.length=x.vn)(hn:x.vn<=4096) :
  Zv Zb 70 #[.agg (Yu x),.int .i64 6] w fun e w'=> ∃v,e= .returned v/\VL w' w.heap.size v (V.map bX)/\Zp w.heap.size w w':=by
 have T0:=Za (RB.new w x);have HL:=Za (Zm h hl);obtain ⟨j0,OP,GO,GF,EO⟩:=Wz;clear h hl;go_enter func70,ntmps70;go_upto_region 1 with (fail);generalize w.alloc (.cells (Yu x) 32)=Wd at*;go_wp2_with fail;go_loopw [5,6] (fun s5 s6 wr=> ∃k:Nat,k<=x.vn/\s6= .int .i64 k/\Zj (VL wr (w.heap.size+1) s5 ((V.take k).map bX))/\Zj (RB w wr x)) (fun _ s6 _=>x.vn -(X6 s6).toNat)
 case atStart=>exact pj
 case round=>
  obtain ⟨k,hk,rfl,HO,T⟩:=hrel;have z2:=Xx T.o.1 2
  by_cases XJ:k < x.vn
  ·obtain ⟨v,hv⟩ : ∃v,V[k]?=some v:=⟨_,Zg Ft⟩;obtain ⟨b,off,IX,My⟩:=(HL.o.1.below T.o.2).at hv;rw [IX] at z2;have Iz:=Za My;have HS:=Za (Av bX hv);have T1:=Za (T.o.next ((Zn _ wr).alloc (Zh _) (.cells (Ze v) 68)));have O1:=Za (HO.o.alloc (.cells (Ze v) 68));have N1:Zj (Zu (wr.alloc (.cells (Ze v) 68)) wr.heap.size 68 (Ze v)):=Za (Zs wr _ _);have CK:Zj (((V.take k).map bX).length<=4096):=Za dD;clear My hv IX HO T;generalize hZ:(V.take k).map bX=Z at*;clear hZ;go_upto_region 6 with (first | (refine YT rfl 68 _ rfl b (off+k*7) rfl v _ Iz.o underlying68 rfl Ya ?_) | (refine Up wr.heap.size (Ze v) 68 (ZB wr _) Ya (Yi _) ?_; rw [Zq]));refine DH ?_;clear Iz z2;generalize wr.alloc (.cells (Ze v) 68)=W at*;generalize wr.heap.size=g at*;have y1:=Xx N1.o 1;have y4:=Xx N1.o 4;clear N1;obtain ⟨m,LF⟩:=ZR (Z.length);have O2:Zj (W.ownsRow (w.heap.size+1) 4 1 u5 m (Z.map Q8)):=Za dJ;rw [LF] at CK;have HMM:=Za LF;clear LF
   by_cases h3:v.st=3
   ·have d1:(v.st==3)=true:=by simpa using h3
    obtain ⟨bq,d⟩ : ∃bq,(v.ex== -1)=bq:=⟨_,rfl⟩;have HP:Zj (bX v=bq):=Za (by rw [<-d]; unfold bX; rw [YD]; simp [h3]);clear h3;go_wp2_with (at_builtin; refine YR _ rfl _ _ 127 rfl (w.heap.size+1) 4 j0 _ 1 1 underlying127 OP GO GF EO rfl Qx u5 m (Z.map Q8) rfl (O2.o.alloc _) (some ⟨W.heap.size,0,none⟩) 1 1 [.bool bq] rfl rfl (fun _=>⟨_,rfl,JN W _ _⟩) BW Fq Fu NG ?_; intro v1 w2 ho hg Al);exact Zmq
   ·have d1:(v.st==3)=false:=by simpa using h3
    have HP:Zj (bX v=false):=Za (by unfold bX; exact decide_eq_false Zf);clear h3;go_wp2_with (at_builtin; refine YR _ rfl _ _ 127 rfl (w.heap.size+1) 4 j0 _ 1 1 underlying127 OP GO GF EO rfl Qx u5 m (Z.map Q8) rfl (O2.o.alloc _) (some ⟨W.heap.size,0,none⟩) 1 1 [.bool false] rfl rfl (fun _=>⟨_,rfl,JN W _ _⟩) BW Fq Fu NG ?_; intro v1 w2 ho hg Al);exact Zmq
  ·obtain rfl:k=x.vn:=Zf;have HZ:Zj (VL wr (w.heap.size+1) u5 (V.map bX)):=Za (by
    have:=HO.o;rwa [ZV NF] at this)
   exact yF
theorem eS (S:Nat->Prop)(x:Sx)(V:List ZN)(w:Zc)(h:FL w S x.va V)(hl:V.length=x.vn)(hn:x.vn<=4096) :
  Zv Zb 70 #[.agg (Yu x),.int .i64 9] w fun e w'=> ∃v,e= .returned v/\VL w' w.heap.size v (V.map Tz)/\Zp w.heap.size w w':=by
 have T0:=Za (RB.new w x);have HL:=Za (Zm h hl);obtain ⟨j0,OP,GO,GF,EO⟩:=Wz;clear h hl;go_enter func70,ntmps70;go_upto_region 1 with (fail);generalize w.alloc (.cells (Yu x) 32)=Wd at*;go_wp2_with fail;go_loopw [5,6] (fun s5 s6 wr=> ∃k:Nat,k<=x.vn/\s6= .int .i64 k/\Zj (VL wr (w.heap.size+1) s5 ((V.take k).map Tz))/\Zj (RB w wr x)) (fun _ s6 _=>x.vn -(X6 s6).toNat)
 case atStart=>exact pj
 case round=>
  obtain ⟨k,hk,rfl,HO,T⟩:=hrel;have z2:=Xx T.o.1 2
  by_cases XJ:k < x.vn
  ·obtain ⟨v,hv⟩ : ∃v,V[k]?=some v:=⟨_,Zg Ft⟩;obtain ⟨b,off,IX,My⟩:=(HL.o.1.below T.o.2).at hv;rw [IX] at z2;have Iz:=Za My;have HS:=Za (Av Tz hv);have T1:=Za (T.o.next ((Zn _ wr).alloc (Zh _) (.cells (Ze v) 68)));have O1:=Za (HO.o.alloc (.cells (Ze v) 68));have N1:Zj (Zu (wr.alloc (.cells (Ze v) 68)) wr.heap.size 68 (Ze v)):=Za (Zs wr _ _);have CK:Zj (((V.take k).map Tz).length<=4096):=Za dD;clear My hv IX HO T;generalize hZ:(V.take k).map Tz=Z at*;clear hZ;go_upto_region 6 with (first | (refine YT rfl 68 _ rfl b (off+k*7) rfl v _ Iz.o underlying68 rfl Ya ?_) | (refine Up wr.heap.size (Ze v) 68 (ZB wr _) Ya (Yi _) ?_; rw [Zq]));refine DH ?_;clear Iz z2;generalize wr.alloc (.cells (Ze v) 68)=W at*;generalize wr.heap.size=g at*;have y1:=Xx N1.o 1;have y4:=Xx N1.o 4;clear N1;obtain ⟨m,LF⟩:=ZR (Z.length);have O2:Zj (W.ownsRow (w.heap.size+1) 4 1 u5 m (Z.map Q8)):=Za dJ;rw [LF] at CK;have HMM:=Za LF;clear LF
   by_cases h4:v.st=4
   ·have d1:(v.st==4)=true:=by simpa using h4
    have HP:Zj (Tz v=true):=Za (by unfold Tz; exact decide_eq_true (.inl h4));clear h4;go_wp2_with (at_builtin; refine YR _ rfl _ _ 127 rfl (w.heap.size+1) 4 j0 _ 1 1 underlying127 OP GO GF EO rfl Qx u5 m (Z.map Q8) rfl (O2.o.alloc _) (some ⟨W.heap.size,0,none⟩) 1 1 [.bool true] rfl rfl (fun _=>⟨_,rfl,JN W _ _⟩) BW Fq Fu NG ?_; intro v1 w2 ho hg Al);exact ZiY
   ·have d1:(v.st==4)=false:=by simpa using h4
    by_cases h3:v.st=3
    ·have d2:(v.st==3)=true:=by simpa using h3
     obtain ⟨bq,d⟩ : ∃bq,(v.ex != -1)=bq:=⟨_,rfl⟩;have HP:Zj (Tz v=bq):=Za (by rw [<-d]; unfold Tz; rw [YD]; simp [h3]);clear h3 h4;go_wp2_with (at_builtin; refine YR _ rfl _ _ 127 rfl (w.heap.size+1) 4 j0 _ 1 1 underlying127 OP GO GF EO rfl Qx u5 m (Z.map Q8) rfl (O2.o.alloc _) (some ⟨W.heap.size,0,none⟩) 1 1 [.bool bq] rfl rfl (fun _=>⟨_,rfl,JN W _ _⟩) BW Fq Fu NG ?_; intro v1 w2 ho hg Al);exact ZiY
    ·have d2:(v.st==3)=false:=by simpa using h3
     have HP:Zj (Tz v=false):=Za (by unfold Tz; exact decide_eq_false Zf);clear h3 h4;go_wp2_with (at_builtin; refine YR _ rfl _ _ 127 rfl (w.heap.size+1) 4 j0 _ 1 1 underlying127 OP GO GF EO rfl Qx u5 m (Z.map Q8) rfl (O2.o.alloc _) (some ⟨W.heap.size,0,none⟩) 1 1 [.bool false] rfl rfl (fun _=>⟨_,rfl,JN W _ _⟩) BW Fq Fu NG ?_; intro v1 w2 ho hg Al);exact ZiY
  ·obtain rfl:k=x.vn:=Zf;have HZ:Zj (VL wr (w.heap.size+1) u5 (V.map Tz)):=Za (by
    have:=HO.o;rwa [ZV NF] at this)
   exact yF
end
section
open Go Go.RowKit Go.Deep
theorem iv (v:ZN)(c:Nat->Int)(w:Zc)(w0:NK v=true)(c0:0<=c 10)(c1:c 10<=1048576) :
  Z3 118 #[.agg (Ze v),.agg (Zi c)] w (.bool (og c v)):=by
 have T1:Zj (Zu ((w.alloc (.cells (Ze v) 68)).alloc (.cells (Zi c) 30)) w.heap.size 68 (Ze v)):=Za ((Zs w _ _).alloc _);have T2:Zj (Zu ((w.alloc (.cells (Ze v) 68)).alloc (.cells (Zi c) 30)) (w.heap.size+1) 30 (Zi c)):=Za (Ej w _ _ _);have T3:Zj (Zp w.heap.size w ((w.alloc (.cells (Ze v) 68)).alloc (.cells (Zi c) 30))):=Za (((Zn _ _).alloc (Zh _) _).alloc ZE _);obtain ⟨r,hr⟩:=ZR (og c v);have HR:Zj (r=decide (v.ex= -1\/(3<=v.st/\v.st<=6)/\v.rq < v.ex/\c 10<=v.wd - v.ex)):=Za hr.symm;have hw:wrap64 (v.wd - v.ex)=v.wd - v.ex:=by
  unfold NK at w0;rw [decide_eq_true_eq] at w0;exact Rb
 rw [hr];clear hr w0 c0 c1;go_enter func118,ntmps118;go_upto_region 1 with (fail);generalize (w.alloc (.cells (Ze v) 68)).alloc (.cells (Zi c) 30)=W at*;have x1:=Xx T1.o 1;have x3:=Xx T1.o 3;have x4:=Xx T1.o 4;have x5:=Xx T1.o 5;have y10:=Xx T2.o 10
 by_cases h:v.ex= -1
 ·have hrt:r=true:=zI
  subst hrt;rw [h] at x4;clear h hw;exact ji
 ·have d1:(v.ex== -1)=false:=KM
  by_cases h3:3<=v.st
  ·have d3:decide (3<=v.st)=true:=decide_eq_true h3
   by_cases h6:v.st<=6
   ·have d6:decide (v.st<=6)=true:=decide_eq_true h6
    by_cases h4:v.rq < v.ex
    ·have d4:decide (v.rq < v.ex)=true:=decide_eq_true h4;have d5:decide (c 10<=v.wd - v.ex)=r:=by
      rw [HR.o,YD,decide_eq_true_eq,decide_eq_true_eq];omega
     clear h h3 h6 h4;exact ji
    ·have d4:decide (v.rq < v.ex)=false:=decide_eq_false h4;have Fe:r=false:=jh
     subst Fe;clear h h3 h6 h4 hw;exact ji
   ·have d6:decide (v.st<=6)=false:=decide_eq_false h6;have Fe:r=false:=jh
    subst Fe;clear h h3 h6 hw;exact ji
  ·have d3:decide (3<=v.st)=false:=decide_eq_false h3;have Fe:r=false:=jh
   subst Fe;clear h h3 hw;exact ji
def OX (w W:Zc)(x:Sx)(c:Nat->Int) :Prop:=Zu W w.heap.size 32 (Yu x)/\Zu W (w.heap.size+1) 30 (Zi c)/\Zp w.heap.size w W
theorem OX.new (w:Zc)(x:Sx)(c:Nat->Int) :OX w ((w.alloc (.cells (Yu x) 32)).alloc (.cells (Zi c) 30)) x c:=⟨(Zs w _ _).alloc _,Ej w _ _ _,((Zn _ _).alloc (Zh _) _).alloc ZE _⟩
theorem OX.next {w W W':Zc}{x:Sx}{c:Nat->Int}(h:OX w W x c)(hb:Zp W.heap.size W W') :OX w W' x c:=⟨h.1.below hb h.1.lt,h.2.1.below hb h.2.1.lt,h.2.2.trans (hb.mono h.2.2.size)⟩
theorem kX:(Tryz.prog.info? 30).map (·.size)=some 20:=ZC
theorem ka (S:Nat->Prop)(x:Sx)(c:Nat->Int)(V:List ZN)(w:Zc)(h:FL w S x.va V)(hl:V.length=x.vn)(hn:x.vn<=4096) :
  Z3 71 #[.agg (Yu x),.agg (Zi c),.int .i64 8] w (.bool (V.all jx)):=by
 have T0:=Za (OX.new w x c);have HL:=Za (Zm h hl);obtain ⟨r,hr⟩:=ZR (V.all jx);have HR:=Za hr;rw [hr];clear h hl hr;go_enter func71,ntmps71;go_upto_region 1 with (fail);generalize (w.alloc (.cells (Yu x) 32)).alloc (.cells (Zi c) 30)=Wd at*;go_wp2_with fail;go_loopw [7] (fun s7 wr=> ∃k:Nat,k<=x.vn/\s7= .int .i64 k/\Zj ((V.take k).all jx=true)/\Zj (OX w wr x c)) (fun s7 _=>x.vn -(X6 s7).toNat)
 case atStart=>exact pq
 case round=>
  obtain ⟨k,hk,rfl,HA,T⟩:=hrel;have z2:=Xx T.o.1 2
  by_cases XJ:k < x.vn
  ·obtain ⟨v,hv⟩ : ∃v,V[k]?=some v:=⟨_,Zg Ft⟩;obtain ⟨b,off,IX,My⟩:=(HL.o.1.below T.o.2.2).at hv;rw [IX] at z2;have Iz:=Za My;have HS:Zj ((V.take (k+1)).all jx=jx v):=Za Wa;have HVM:Zj (v ∈ V):=Za (Zz hv);have HNO:Zj (jx v=false->r=false):=Za fun hf=>by
    exact yM
   have T1:=Za (T.o.next ((Zn _ wr).alloc (Zh _) (.cells (Ze v) 68)));have N1:Zj (Zu (wr.alloc (.cells (Ze v) 68)) wr.heap.size 68 (Ze v)):=Za (Zs wr _ _);clear My hv IX HA T;go_upto_region 5 with (first | (refine YT rfl 68 _ rfl b (off+k*7) rfl v _ Iz.o underlying68 rfl Ya ?_) | (refine Up wr.heap.size (Ze v) 68 (ZB wr _) Ya (Yi _) ?_; rw [Zq]));refine DH ?_;clear Iz z2;generalize wr.alloc (.cells (Ze v) 68)=W at*;generalize wr.heap.size=g at*;have y0:=Xx N1.o 0;have y1:=Xx N1.o 1;have y2:W.cell? ⟨g,2,none⟩=some (.bool v.sl):=N1.o.cell 2;have y6:=Xx N1.o 6
   by_cases h6:v.st=6
   ·have d6:(v.st==6)=true:=by simpa using h6
    by_cases h0:v.bal=0
    ·have d0:(v.bal != 0)=false:=by simpa using h0
     have ng:Zj ((V.take (k+1)).all jx=true):=Za dA;clear h6 h0;exact aN
    ·have d0:(v.bal != 0)=true:=by simpa using h0
     obtain rfl:r=false:=HNO.o (by unfold jx; exact decide_eq_false Zf);clear h6 h0;exact LU
   ·have d6:(v.st==6)=false:=by simpa using h6
    by_cases h7:v.st=7
    ·have d7:(v.st==7)=true:=by simpa using h7
     by_cases h0:v.bal=0
     ·have d0:(v.bal != 0)=false:=by simpa using h0
      have ng:Zj ((V.take (k+1)).all jx=true):=Za dA;clear h6 h7 h0;exact aN
     ·have d0:(v.bal != 0)=true:=by simpa using h0
      obtain rfl:r=false:=HNO.o (by unfold jx; exact decide_eq_false Zf);clear h6 h7 h0;exact LU
    ·have d7:(v.st==7)=false:=by simpa using h7
     have ng:Zj ((V.take (k+1)).all jx=true):=Za dA;clear h6 h7;exact aN
  ·exact Zi2
theorem fD (S:Nat->Prop)(x:Sx)(c:Nat->Int)(V:List ZN)(w:Zc)(h:FL w S x.va V)(hl:V.length=x.vn)(hn:x.vn<=4096) :
  Z3 71 #[.agg (Yu x),.agg (Zi c),.int .i64 12] w (.bool (V.all rJ)):=by
 have T0:=Za (OX.new w x c);have HL:=Za (Zm h hl);obtain ⟨r,hr⟩:=ZR (V.all rJ);have HR:=Za hr;rw [hr];clear h hl hr;go_enter func71,ntmps71;go_upto_region 1 with (fail);generalize (w.alloc (.cells (Yu x) 32)).alloc (.cells (Zi c) 30)=Wd at*;go_wp2_with fail;go_loopw [7] (fun s7 wr=> ∃k:Nat,k<=x.vn/\s7= .int .i64 k/\Zj ((V.take k).all rJ=true)/\Zj (OX w wr x c)) (fun s7 _=>x.vn -(X6 s7).toNat)
 case atStart=>exact pq
 case round=>
  obtain ⟨k,hk,rfl,HA,T⟩:=hrel;have z2:=Xx T.o.1 2
  by_cases XJ:k < x.vn
  ·obtain ⟨v,hv⟩ : ∃v,V[k]?=some v:=⟨_,Zg Ft⟩;obtain ⟨b,off,IX,My⟩:=(HL.o.1.below T.o.2.2).at hv;rw [IX] at z2;have Iz:=Za My;have HS:Zj ((V.take (k+1)).all rJ=rJ v):=Za Wa;have HVM:Zj (v ∈ V):=Za (Zz hv);have HNO:Zj (rJ v=false->r=false):=Za fun hf=>by
    exact yM
   have T1:=Za (T.o.next ((Zn _ wr).alloc (Zh _) (.cells (Ze v) 68)));have N1:Zj (Zu (wr.alloc (.cells (Ze v) 68)) wr.heap.size 68 (Ze v)):=Za (Zs wr _ _);clear My hv IX HA T;go_upto_region 5 with (first | (refine YT rfl 68 _ rfl b (off+k*7) rfl v _ Iz.o underlying68 rfl Ya ?_) | (refine Up wr.heap.size (Ze v) 68 (ZB wr _) Ya (Yi _) ?_; rw [Zq]));refine DH ?_;clear Iz z2;generalize wr.alloc (.cells (Ze v) 68)=W at*;generalize wr.heap.size=g at*;have y0:=Xx N1.o 0;have y1:=Xx N1.o 1;have y2:W.cell? ⟨g,2,none⟩=some (.bool v.sl):=N1.o.cell 2;have y6:=Xx N1.o 6;have HD:rJ v=decide (v.sl=false\/(3<=v.st/\v.st<=6)/\v.dl= -1):=rfl;have HDD:=Za HD;clear HD
   cases hs:v.sl with
   | false=>
    have Rj:=Za hs;rw [hs] at y2;have ng:Zj ((V.take (k+1)).all rJ=true):=Za (by rw [HS.o]; rw [HDD.o]; exact decide_eq_true (.inl Rj.o));clear hs;exact aN
   | true=>
    have Rj:=Za hs;rw [hs] at y2;clear hs
    by_cases h3:v.st < 3
    ·have d3:decide (v.st < 3)=true:=decide_eq_true h3;obtain rfl:r=false:=HNO.o dz;clear h3;exact LU
    ·have d3:decide (v.st < 3)=false:=decide_eq_false h3
     by_cases h6:6 < v.st
     ·have d6:decide (6 < v.st)=true:=decide_eq_true h6;obtain rfl:r=false:=HNO.o dz;clear h3 h6;exact LU
     ·have d6:decide (6 < v.st)=false:=decide_eq_false h6
      by_cases h1:v.dl= -1
      ·have d1:(v.dl != -1)=false:=QT;have ng:Zj ((V.take (k+1)).all rJ=true):=Za (by rw [HS.o]; rw [HDD.o]; exact decide_eq_true (.inr ⟨⟨by omega,by omega⟩,h1⟩));clear h3 h6 h1;exact aN
      ·have d1:(v.dl != -1)=true:=QT;obtain rfl:r=false:=HNO.o dz;clear h3 h6 h1;exact LU
  ·exact Zi2
theorem j9 (S:Nat->Prop)(x:Sx)(c:Nat->Int)(V:List ZN)(w:Zc)(h:FL w S x.va V)(hl:V.length=x.vn)(hn:x.vn<=4096)(hf:V.all NK=true)(c0:0<=c 10)(c1:c 10<=1048576) :
  Z3 71 #[.agg (Yu x),.agg (Zi c),.int .i64 7] w (.bool (V.all (og c))):=by
 have T0:=Za (OX.new w x c);have HL:=Za (Zm h hl);have HP:Zj ((∀v ∈ V,NK v=true)/\0<=c 10/\c 10<=1048576):=Za ⟨YP.1 hf,c0,c1⟩;clear hf c0 c1;obtain ⟨r,hr⟩:=ZR (V.all (og c));have HR:=Za hr;rw [hr];clear h hl hr;go_enter func71,ntmps71;go_upto_region 1 with (fail);generalize (w.alloc (.cells (Yu x) 32)).alloc (.cells (Zi c) 30)=Wd at*;go_wp2_with fail;go_loopw [7] (fun s7 wr=> ∃k:Nat,k<=x.vn/\s7= .int .i64 k/\Zj ((V.take k).all (og c)=true)/\Zj (OX w wr x c)) (fun s7 _=>x.vn -(X6 s7).toNat)
 case atStart=>exact pq
 case round=>
  obtain ⟨k,hk,rfl,HA,T⟩:=hrel;have z2:=Xx T.o.1 2
  by_cases XJ:k < x.vn
  ·obtain ⟨v,hv⟩ : ∃v,V[k]?=some v:=⟨_,Zg Ft⟩;obtain ⟨b,off,IX,My⟩:=(HL.o.1.below T.o.2.2).at hv;rw [IX] at z2;have Iz:=Za My;have HS:Zj ((V.take (k+1)).all (og c)=(og c) v):=Za Wa;have HVM:Zj (v ∈ V):=Za (Zz hv);have HNO:Zj ((og c) v=false->r=false):=Za fun hf=>by
    exact yM
   have T1:=Za (T.o.next ((Zn _ wr).alloc (Zh _) (.cells (Ze v) 68)));have N1:Zj (Zu (wr.alloc (.cells (Ze v) 68)) wr.heap.size 68 (Ze v)):=Za (Zs wr _ _);clear My hv IX HA T;go_upto_region 5 with (first | (refine YT rfl 68 _ rfl b (off+k*7) rfl v _ Iz.o underlying68 rfl Ya ?_) | (refine Up wr.heap.size (Ze v) 68 (ZB wr _) Ya (Yi _) ?_; rw [Zq]));refine DH ?_;clear Iz z2;generalize wr.alloc (.cells (Ze v) 68)=W at*;generalize wr.heap.size=g at*;have y0:=Xx N1.o 0;have y1:=Xx N1.o 1;have y2:W.cell? ⟨g,2,none⟩=some (.bool v.sl):=N1.o.cell 2;have y6:=Xx N1.o 6;have HE:=Za (fun w1=>iv v c w1 (HP.o.1 v HVM.o) HP.o.2.1 HP.o.2.2);have HN1:=Za N1.o;clear y0 y1 y2 y6;go_wp2_with (first | (refine KD rfl 68 _ rfl g rfl 68 _ (0,0) _ HN1.o underlying68 rfl Ya ?_) | (refine KD rfl 30 _ rfl (w.heap.size+1) rfl 30 _ (0,0) _ T1.o.2.1 underlying30 rfl kX ?_));refine (HE.o _).mono ?_;rintro e w3 ⟨rfl,hb⟩;have T2:=Za (T1.o.next hb);clear hb HE T1 HN1
   cases hq:og c v with
   | true=>
    have ng:Zj ((V.take (k+1)).all (og c)=true):=Za (by rw [HS.o]; exact hq);go_wp2_with fail;go_roundw
    case rel=>exact ⟨k+1,by omega,by go_num,ng,T2⟩
    case measure=>exact KX
   | false=>
    obtain rfl:r=false:=HNO.o (by exact hq);exact zW
  ·exact Zi2
end
end Go.Proofs.YtobgbcdgffgdhaaGreat
