/- Part 33 of 34: Run Runs Law Sna Alv Wds Hld Chg Det. -/
import Derived.Test.YtobgbcdgffgdhaaGreatZx00
import Derived.Test.YtobgbcdgffgdhaaGreatZx19
import Derived.Test.YtobgbcdgffgdhaaGreatZx32
namespace Go.Proofs.YtobgbcdgffgdhaaGreat
set_option linter.unusedVariables false
set_option linter.unusedSimpArgs false
set_option maxRecDepth 100000
set_option maxHeartbeats 8000000
open _root_.And renaming intro -> Zm
open _root_.Array renaming getElem?_eq_some_iff -> Yj
open _root_.Go.RowKit renaming Below -> Zp, wrap64 -> Bm
open _root_.Go.RowKit.Below renaming refl -> Zn
open _root_.Go.Proofs.YtobgbcdgffgdhaaGreat.Zu renaming far -> Q0, new -> Zs
open _root_.Go.Builtin renaming max_ -> Vc
open _root_.Go renaming Calls -> Zv, TypeId -> ZL, Value -> Zl, World -> Zc, heap_alloc_new -> ZB
open _root_.Int renaming emod_lt_of_pos -> KF, emod_nonneg -> JR, toNat_of_nonneg -> VE
open _root_.Go.IntKind renaming bits -> Vd, signed -> J8
open _root_.Go.Proofs.YtobgbcdgffgdhaaGreat.ZA renaming refl -> ZS, setCell -> Qm, setCells -> QP, setRow -> Xz
open _root_.Go.Lib renaming run_eql_slice_nil -> Uq
open _root_.List renaming all_eq_true -> YP, cons_append -> Yf, getElem?_append_left -> Yw, getElem?_append_right -> YY, getElem?_eq_getElem -> Zg, getElem?_eq_none -> XV, getElem?_eq_some_iff -> Zk, getElem?_set_ne -> Yn, getElem?_set_self -> Yz, length_append -> ZI, length_set -> Xb, map_replicate -> Bc, mem_append -> Yb, mem_of_getElem? -> Zz, mem_or_eq_of_mem_set -> XI, replicate -> ZD
open _root_.Go.Lit renaming int -> YN
open _root_.Nat renaming le_refl -> Zh, le_trans -> ZZ, lt_of_lt_of_le -> YC, zero_add -> ZW, zero_le -> XY
open _root_.Option.some renaming inj -> ZP
open _root_.Go.Proofs.YtobgbcdgffgdhaaGreat.Rc renaming row -> Ua
open _root_.Go.Proofs.Tryz renaming prog -> Zb
open _root_.Go.Proofs.YtobgbcdgffgdhaaGreat.ZN renaming row -> JM
open _root_.Go.Value renaming int -> ZG, ownBlock -> YZ
open _root_.Go.World.ownsRow renaming alloc -> X5
open _root_.Go.World renaming setRow_alloc_new -> Zq
open Go.Proofs.Tryz
theorem NH {G:Prop}(h:G:=by have:=HS.o.vn; omega) :G:=h
theorem Zf5 {G:Prop} (h:G:=by
  refine P7 ?_;refine JC (i:=15) ?_;refine Vo rfl ZC (KL rfl #[.slice pa 1 ca,.slice (some ⟨g2,0,none⟩) 1 1] ZC call14 ((WQ (L:= [2]) (n:=1) OA.o OB.o rfl Zd).mono ?_));rintro e z0 ⟨rfl,m,rfl⟩;have Bz:Zj (Below X.heap.size X (y7.drewN m)):=Za (below_drewN By7.o m);refine ⟨_,rfl,Bz.o,?_⟩;clear OA OB;generalize y7.drewN m=z at*;refine P7 ?_;refine TS (fun w'=>Below X.heap.size X w') (m:=9) (f:=7) [16,17] (?_) ?_
  ·exact Bz.o
  refine JH ?_;refine je ?_;refine BZ ?_;refine Yo ?_;refine P7 ?_;refine JC (i:=18) ?_;refine Vo rfl ZC (KL rfl #[] ZC call24 ((Rk z).mono ?_));rintro e z1 ⟨rfl,hb⟩;have Bz1:Zj (Below X.heap.size X z1):=Za (Bz.o.trans (hb.mono Bz.o.size));clear hb;refine ⟨_,rfl,Bz1.o,?_⟩;refine P7 ?_;refine TS (fun w'=>Below X.heap.size X w') (m:=6) (f:=3) [19,20,21] (?_) ?_
  ·exact Bz1.o
  refine JH ?_;refine Nh ?_;refine Ec ?_;refine Yo ?_;refine P7 ?_;refine JC (i:=22) ?_;refine Vo rfl ZC (KL rfl #[.int .i64 2] ZC call23 ((HNM.o z1).mono ?_));rintro e z2 ⟨rfl,hb⟩;have Bz2:Zj (Below X.heap.size X z2):=Za (Bz1.o.trans (hb.mono Bz1.o.size));clear hb;refine ⟨_,rfl,Bz2.o,?_⟩;refine P7 ?_;refine TS (fun w'=>Below X.heap.size X w') (m:=2) (f:=0) [23,24] (?_) ?_
  ·exact Bz2.o
  refine JH ?_;refine je ?_;refine BZ ?_;refine Yo ?_;refine GD ?_;refine ⟨by kernel_rfl,?_⟩;refine LA ?_;go_wp2;refine U1 ?_;go_wp2_with fail;go_ret;exact ⟨rfl,BD.o.trans (Bz2.o.mono BD.o.size)⟩) :G:=h
theorem zT6 {G:Prop} (h:G:=by
  refine P7 ?_;refine JC (i:=13) ?_;refine Vo rfl ZC (KL rfl #[.agg (ZH xt),.agg (Zi Fz)] ZC call13 ((pF.o y6 By6.o).mono ?_));rintro e y7 ⟨v,rfl,ho,hb⟩;obtain ⟨pa,ca,rfl,_,_,_,hi⟩:=QC (S:=fun _=>False) ho fun _ _ h=>h
  have OA:=Za hi;have OB:=Za (OB0.o.below hb);clear OB0;have By7:Zj (Below X.heap.size X y7):=Za (By6.o.trans (hb.mono By6.o.size));clear ho hb hi;refine ⟨_,rfl,By7.o,?_⟩;exact Zf5) :G:=h
theorem Iu {G:Prop} (h:G:=by
  clear hy HS HR HLV DC;go_wp2_with (first | (refine Kl 28 g HZ.o.1 underlying28 BM ?_) | (refine Up (g+1) ((ZH y)) 28 HZ.o.2.1 BM (EZ y) ?_));refine bodyPost_ret (v:= .agg (ZH y)) (results_cell_row (fn:=Tryz.f22) rfl _ _ (g+1) 28 _ (0,0) _ rfl (setRow_heap _ _ _ _ _ _ HZ.o.2.1) underlying28 rfl BM) rfl ?_;exact ⟨y,_,_,_,rfl,SZ.o,VZ.o,HE.o.1⟩) :G:=h
theorem Zff {G:Prop} (h:G:=by
  obtain ⟨h1,h2⟩:=h;exact Zgt) :G:=h
theorem ZfL {G:Prop} (h:G:=by
  obtain rfl:=List.mem_singleton.1 hz;exact oP ⟨by omega,by omega⟩) :G:=h
theorem zl {G:Prop} (h:G:=by
  exact Nat.lt_of_lt_of_le (F.lt _ Zd i hi) hk.size) :G:=h
theorem zn {G:Prop} (h:G:=by
  exact F.ap _ l Zd Zd Zd i hi Gi) :G:=h
theorem zo {G:Prop} (h:G:=by
  exact F.ap j _ Zd Zd Zd i hi Gi) :G:=h
theorem zM {G:Prop} (h:G:=by
  injection e with e _ _;rw [e];exact hl) :G:=h
section
open Go Go.RowKit Go.Deep
theorem ag {α:Type}{row:α->List Zl}{k:Nat}{w:Zc}{e:ZL}{a:Option Addr}{n cp:Nat}{l:List α}(hk: ∀v,(row v).length=k)(h:w.ownsRow 0 e k (.slice a n cp) n (YE row l))(hl:l.length=n) :Vy row k w (fun b=> ¬(Value.slice a n cp).ownBlock=some b) a l:=fun h0=>by
 rcases h.2 with ⟨h1,h2⟩ | ⟨g,Bg,cur,h1,_,h3,_⟩
 ·injection h1 with _ h3 _; omega
 ·injection h1 with h1 _ _;subst h1;refine ⟨g,0,rfl,fun hn=>hn (by simp [YZ]),(Yj.1 h3).1,fun i v hi=>?_⟩;obtain ⟨g2,e2,h4⟩:=Ny (row:=row) (sz:=k) (l:=l) hk h Zd hi;injection e2 with e2;injection e2 with e2 _ _;rw [e2,ZW];exact h4
def ba (g n:Nat)(l:List Rp) :Zc->(Nat->Prop)->Prop:=fun w S=>
 ∃vs:List Rc,vs.length=l.length/\Zu w g 53 (YE Ua (vs++ZD (n - l.length) Bi)).toArray/\S g/\(∀i,S i->i < w.heap.size)/\
  ∀(i:Nat) (v:Rc) (r:Rp),vs[i]?=some v->l[i]?=some r->v=tC r v.aa v.ac v.pa v.pc/\Vy As.row 3 w (fun b=>b=g\/ ¬S b) v.aa r.la/\Vy Pm.row 3 w (fun b=>b=g\/ ¬S b) v.pa r.lp
theorem ay {g n:Nat}{l:List Rp} :Xh (ba g n l):=by
 refine ⟨fun w S h=>?_,fun w w' S T h hk hT=>?_⟩
 ·obtain ⟨vs,_,_,_,h,_⟩:=h;exact h
 obtain ⟨vs,h1,h2,h3,h4,h5⟩:=h;refine ⟨vs,h1,h2.kept hk (hT _ h3),h3,fun i hi=>YC (h4 i hi) hk.size,fun i v r hv hr=>?_⟩;obtain ⟨e,ha,hp⟩:=h5 i v r hv hr;have hb: ∀b,b < w.heap.size-> ¬(b=g\/ ¬S b)->w'.heap[b]?=w.heap[b]?:=fun b hb hn=>hk.block b hb (hT b (Classical.not_not.1 fun h=>hn (.inr h)))
 exact ⟨e,ha.same hk.size hb,hp.same hk.size hb⟩
section
variable {N:Nat} {w0:FP} {w w' w1:Zc} {c cf:Nat->Int} {a:Pl} {q:Ql} {X Z:Nat->Zc->(Nat->Prop)->Prop} {s s':Sg} {L L':List QZ} {k:Nat}
theorem En.join3 (h:En (N+3) w0 w cf a X s L)(hX: ∀k,8<=k->Xh (X k))(hN:8<=N){Q':Zc->(Nat->Prop)->Prop}(hQ':Xh Q')
  (hn: ∀S0 S1 S2,X N w S0->X (N+1) w S1->X (N+2) w S2->(∀i,S0 i-> ¬S1 i)->(∀i,S0 i-> ¬S2 i)->(∀i,S1 i->i < w.heap.size)->(∀i,S2 i->i < w.heap.size)->Q' w' (fun i=>S0 i\/S1 i\/S2 i)/\ZA S0 w w') :
  En (N+1) w0 w' cf a (ZK X N Q') s L:=by
 obtain ⟨Φ,F,g1,g2⟩:=h;have p0:=F.part N Zd;have p1:=F.part (N+1) Zd;have p2:=F.part (N+2) Zd;rw [Js hN] at p0;rw [Js Zd] at p1 p2;obtain ⟨q',hk⟩:=hn _ _ _ p0 p1 p2 (F.ap N (N+1) Zd Zd Zd) (F.ap N (N+2) Zd Zd Zd) (F.lt (N+1) Zd) (F.lt (N+2) Zd);refine ⟨D7 Φ N (fun i=>Φ N i\/Φ (N+1) i\/Φ (N+2) i),⟨fun j hj=>?_,fun j hj i hi=>?_,fun j l hj hl Fc i hi Gi=>?_⟩,fun j hj i hi=>?_,Ki g2 hk (g1 N Zd)⟩
 ·by_cases NW:j=N
  ·subst NW;rw [Xe,Js hN,Zr];exact q'
  ·rw [YS NW,Fi hN j Zd];exact (Xu hX j).2 w w' _ _ (F.part j Zd) hk (F.ap j N Zd Zd NW)
 ·by_cases NW:j=N
  ·subst NW;rw [Xe] at hi
   rcases hi with hi | hi | hi
   ·exact zl
   ·exact zl
   ·exact zl
  ·rw [YS NW] at hi;exact YC (F.lt j Zd i hi) hk.size
 ·by_cases NW:j=N
  ·subst NW;rw [Xe] at hi;rw [YS (fun e=>Fc e.symm)] at Gi
   rcases hi with hi | hi | hi
   ·exact zn
   ·exact zn
   ·exact zn
  ·rw [YS NW] at hi
   by_cases hlN:l=N
   ·subst hlN;rw [Xe] at Gi
    rcases Gi with Gi | Gi | Gi
    ·exact zo
    ·exact zo
    ·exact zo
   ·rw [YS hlN] at Gi;exact F.ap j l Zd Zd Fc i hi Gi
 ·by_cases NW:j=N
  ·subst NW;rw [Xe] at hi
   rcases hi with hi | hi | hi
   ·exact g1 _ Zd i hi
   ·exact g1 _ Zd i hi
   ·exact g1 _ Zd i hi
  ·exact zx
theorem Eg.join3 (h:Eg (N+3) w0 w c a q Z s L)(hN:11<=N){Q':Zc->(Nat->Prop)->Prop}(hQ':Xh Q')
  (hn: ∀S0 S1 S2,Z N w S0->Z (N+1) w S1->Z (N+2) w S2->(∀i,S0 i-> ¬S1 i)->(∀i,S0 i-> ¬S2 i)->(∀i,S1 i->i < w.heap.size)->(∀i,S2 i->i < w.heap.size)->Q' w' (fun i=>S0 i\/S1 i\/S2 i)/\ZA S0 w w') :
  Eg (N+1) w0 w' c a q (ZK Z N Q') s L:=by
 obtain ⟨X,hX,hZ,_,h⟩:=h;refine ⟨ZK X N Q',fun k hk=>?_,fun k h1 h2=>?_,by omega,?_⟩
 ·unfold ZK; split
  ·exact hQ'
  ·exact hX k hk
 ·unfold ZK; split
  ·rfl
  ·exact hZ k h1 Zd
 ·rw [<-Sb hN];refine h.join3 (EL hX) Zd hQ' ?_;rw [Dt hN,Dt Zd,Dt Zd,hZ N hN Zd,hZ (N+1) Zd Zd,hZ (N+2) Zd Zd];exact hn
theorem AQ (l:List Rc) :(YE Ua l).length=l.length*9:=Ef (row:=Ua) (k:=9) Rc.row_len l
theorem Eg.rcstore (h:Eg (N+3) w0 w c a q Z s L)(hN:11<=N){g n:Nat}{l:List Rp}{r:Rp}{ia ip:Option Addr}{ca cp:Nat}(kC:Z N=ba g n l)(hx1:Z (N+1)=YU 280 3 (.slice ia r.la.length ca) r.la.length (YE As.row r.la))(hx2:Z (N+2)=YU 252 3 (.slice ip r.lp.length cp) r.lp.length (YE Pm.row r.lp))(hl:l.length < n) :
  w.there g (l.length*9) 9/\Eg (N+1) w0 (w.setCells g (l.length*9) (Z9 (tC r ia ca ip cp)).toList) c a q (ZK Z N (ba g n (l++[r]))) s L:=by
 have e1: ∀vs:List Rc,YE Ua (vs++ZD (n - l.length) Bi)=YE Ua vs++Ua Bi++YE Ua (ZD (n -(l.length+1)) Bi):=fun vs=>by
  rw [show n - l.length=(n -(l.length+1))+1 by omega,List.replicate_succ,Ku,List.append_assoc];rfl
 refine ⟨?_,h.join3 hN ay fun S0 S1 S2 p0 p1 p2 d1 d2 l1 l2=>?_⟩
 ·obtain ⟨X,hX,_,hh,_,_,hz,_⟩:=h.open;obtain ⟨S,hp,_⟩:=hh.part (show N < N+3 by omega);rw [Js Zd,hz N hN Zd,kC] at hp;obtain ⟨vs,hvl,hB,_⟩:=hp;refine fun i hi=>⟨?_,hB.frozen _⟩
  rw [hB.cell,List.getElem?_toArray,Zg (by rw [AQ,ZI,List.length_replicate]; omega)]; rfl
 ·rw [kC] at p0;rw [hx1] at p1;rw [hx2] at p2;obtain ⟨vs,hvl,hB,hg,XJ,jt⟩:=p0;have hk:ZA (fun i=>i=g) w (w.setCells g (l.length*9) (Z9 (tC r ia ca ip cp)).toList):=QP _ _ _ (ZS _ _) (.inl rfl);have hkS: ∀T:Nat->Prop,T g->ZA T w (w.setCells g (l.length*9) (Z9 (tC r ia ca ip cp)).toList):=fun T hT=>QP _ _ _ (ZS _ _) (.inl hT)
  have hgS1: ¬S1 g:=d1 g hg;have hgS2: ¬S2 g:=d2 g hg;refine ⟨⟨vs++[tC r ia ca ip cp],by simp [hvl],?_,.inl hg,fun i hi=>?_,fun i v x hv hx=>?_⟩,hkS S0 hg⟩
  ·rw [e1] at hB;have h2:=Gf (Ua (tC r ia ca ip cp)) (YE Ua vs) (Ua Bi) _ w rfl hB;rw [AQ,hvl] at h2;rw [ZI,List.length_singleton,Ku,Ku,FV];exact h2
  ·refine YC ?_ hk.size
   rcases hi with hi | hi | hi
   ·exact XJ i hi
   ·exact l1 i hi
   ·exact l2 i hi
  ·rcases Nat.lt_or_ge i vs.length with hi | hi
   ·rw [Yw hi] at hv;rw [Yw Zd] at hx;obtain ⟨e,ha,hp⟩:=jt i v x hv hx;have hT: ∀j,j < (w.setCells g (l.length*9) (Z9 (tC r ia ca ip cp)).toList).heap.size->(j=g\/ ¬(S0 j\/S1 j\/S2 j))->(j=g\/ ¬S0 j):=fun j _ h=>by
     rcases h with h | h
     ·exact .inl h
     ·exact .inr fun h0=>h (.inl h0)
    exact ⟨e,(ha.kept (hkS _ (.inl rfl))).more hT,(hp.kept (hkS _ (.inl rfl))).more hT⟩
   ·have Gi:i=vs.length:=by
     have:=(Zk.1 hv).1;simp at this;omega
    subst Gi;rw [YY (Zh _),Nat.sub_self] at hv;rw [YY Zd,hvl,Nat.sub_self] at hx;obtain rfl:tC r ia ca ip cp=v:=P6;obtain rfl:r=x:=by simpa using hx
    have ha:=ag As.row_len p1.1 rfl;have hp:=ag Pm.row_len p2.1 rfl;refine ⟨rfl,(ha.more (T:=fun j=>j=g\/ ¬(S0 j\/S1 j\/S2 j)) fun j _ h ho=>?_).kept (hkS _ (.inl rfl)),(hp.more (T:=fun j=>j=g\/ ¬(S0 j\/S1 j\/S2 j)) fun j _ h ho=>?_).kept (hkS _ (.inl rfl))⟩
    ·have hs:=(p1.2 j).2 ho
     rcases h with rfl | h
     ·exact hgS1 hs
     ·exact h (.inr (.inl hs))
    ·have hs:=(p2.2 j).2 ho
     rcases h with rfl | h
     ·exact hgS2 hs
     ·exact h (.inr (.inr hs))
def BO (c:Nat->Int) :Sg->List QZ->List Oq->List QZ
 | _,L,[]=>L
 | s,L,o::l=>BO c (Hl c s o).2 (Bw c s L o) l
theorem oo (c:Nat->Int)(o:Oq) : ∀(A:List Oq) (s:Sg) (L:List QZ),EP c s (A++[o])=(Hl c (EP c s A) o).2/\NM c s (A++[o])=NM c s A++[(Hl c (EP c s A) o).1]/\BO c s L (A++[o])=Bw c (EP c s A) (BO c s L A) o
 | [],s,L=>⟨rfl,rfl,rfl⟩
 | x::A,s,L=>by
  obtain ⟨h1,h2,h3⟩:=oo c o A (Hl c s x).2 (Bw c s L x);refine ⟨h1,?_,h3⟩;rw [Yf];show _::_=_::_++_;rw [Yf];exact congrArg _ h2
theorem xc (c:Nat->Int)(s:Sg)(L:List QZ){l:List Oq}{k:Nat}{o:Oq}(hk:l[k]?=some o) :EP c s (l.take (k+1))=(Hl c (EP c s (l.take k)) o).2/\NM c s (l.take (k+1))=NM c s (l.take k)++[(Hl c (EP c s (l.take k)) o).1]/\BO c s L (l.take (k+1))=Bw c (EP c s (l.take k)) (BO c s L (l.take k)) o:=by
 rw [List.take_add_one,hk,Option.toList_some];exact oo c o _ s L
theorem gZ (c:Nat->Int) : ∀(l:List Oq) (s:Sg),(NM c s l).length=l.length
 | [],s=>rfl
 | o::l,s=>by show _+1=_+1; rw [gZ c l]
theorem Re.ops {c:Nat->Int} : ∀(l:List Oq) {k:Nat} {s:Sg} {L:List QZ},Re c k s L->k+l.length<=1000000->(∀o ∈ l,UG o)->Re c (k+l.length) (EP c s l) (BO c s L l)
 | [],k,s,L,h,_,_=>h
 | o::l,k,s,L,h,hk,hf=>by
  have fX:k+(l.length+1)<=1000000:=hk;have:=Re.ops l (h.op Zd o (hf o ZE)) Zd (fun x hx=>hf x Dp);rw [show k+(o::l).length=k+1+l.length by simp; omega];exact this
theorem Zin: ∃i,Tryz.prog.info? 53=some i/\i.zero=some (.agg (Z9 Bi))/\i.size=9/\i.bytes<=1000:=by
 have h:(Tryz.prog.info? 53).map (fun i=>(i.zero,i.size,decide (i.bytes<=1000)))=some (some (.agg (Z9 Bi)),9,true):=ZC
 cases hi:Tryz.prog.info? 53 with
 | none=>exact LV
 | some i=>
  exact Oa
theorem wR (cs:List Zl)(h0:0 < cs.length) : ∀n:Nat,madeCells cs.toArray (n*cs.length)=((ZD n cs).flatten).toArray:=fun n=>by
 have hf:(ZD n cs).flatten=YE (fun _:Unit=>cs) (ZD n ()):=by unfold YE; rw [List.flatMap_def,Bc]
 have hl:(YE (fun _:Unit=>cs) (ZD n ())).length=n*cs.length:=by rw [Ef (k:=cs.length) (fun _=>rfl),List.length_replicate]
 rw [hf];apply Array.toList_inj.1;unfold madeCells;rw [Array.toList_map,Array.toList_range];apply List.ext_getElem?;intro i;show _=(YE (fun _:Unit=>cs) (ZD n ()))[i]?
 rcases Nat.lt_or_ge i (n*cs.length) with hi | hi
 ·have hd:i/cs.length < n:=Nat.div_lt_of_lt_mul (by rw [Nat.mul_comm]; exact hi);have hm:i%cs.length < cs.length:=Nat.mod_lt _ h0;have h1:=Mr (row:=fun _:Unit=>cs) (k:=cs.length) (fun _=>rfl) (l:=ZD n ()) (i:=i/cs.length) (v:=()) (by rw [List.getElem?_replicate,if_pos hd]) hm;rw [Nat.mul_comm,Nat.div_add_mod] at h1;rw [h1,List.getElem?_map,List.getElem?_range hi];simp [hm]
 ·rw [XV (by rw [List.length_map,List.length_range]; exact hi),XV (by rw [hl]; exact hi)]
theorem iH (n:Nat)(hn:n<=100000)(w:Zc) :
  (Instr.makeSlice 58 (.int .i64 (n:Int)) (.int .i64 (n:Int))).run Zb w= .ok (.slice (some ⟨w.heap.size,0,none⟩) n n) (w.alloc (.cells (YE Ua (ZD n Bi)).toArray 53)):=by
 obtain ⟨i,hi,hz,hs,Ns⟩:=Zin;have hb:i.bytes*n<=281474976710656:=ZZ (Nat.mul_le_mul Ns hn) Y5;have Ew:=Jc (P:=Zb) 58 53 i _ underlying58 hi hz .i64 .i64 n n (Zh _) hb Zd w;rw [hs] at Ew;have e:YE Ua (ZD n Bi)=(ZD n (Ua Bi)).flatten:=by unfold YE; rw [List.flatMap_def,Bc]
 rw [e];have h2:=wR (Ua Bi) Y5 n;rw [show (Ua Bi).length=9 from rfl] at h2;rw [<-h2];exact Ew
end
end
section
open Go Go.RowKit Go.Deep
def tM (N:Nat)(w0:FP)(Z:Nat->Zc->(Nat->Prop)->Prop)(al:Option Addr)(l:List Oq) :Prop:=
 Vy Oq.row 4 w0.w w0.T al l\/ ∃r,11<=r/\r < N/\Z r=VM Oq.row 4 al l
section
variable {N M:Nat} {w0:FP} {w w' w1:Zc} {c cf:Nat->Int} {a:Pl} {q:Ql} {X Z Z':Nat->Zc->(Nat->Prop)->Prop} {s s':Sg} {L L':List QZ} {k:Nat} {al:Option Addr} {l:List Oq}
theorem Eg.kept0 (h:Eg N w0 w c a q Z s L) :ZA w0.T w0.w w:=by
 obtain ⟨X,_,_,_,Φ,_,_,hk⟩:=h;exact hk
theorem tM.at (hs:tM N w0 Z al l)(he:Eg M w0 w c a q Z' s L)(hM:N<=M)(hZ: ∀k,11<=k->k < N->Z' k=Z k){k:Nat}{o:Oq}(hk:l[k]?=some o) : ∃g off,al=some ⟨g,off,none⟩/\w.rangeAt g (off+k*4) o.row:=by
 rcases hs with h | ⟨r,GM,hr,hx⟩
 ·obtain ⟨g,off,e,_,_,h2⟩:=(h.kept he.kept0).at hk;exact ⟨g,off,e,h2⟩
 ·obtain ⟨X,hX,_,hh,_,_,hz,_⟩:=he.open;obtain ⟨S,hp,_⟩:=hh.part (show r < M by omega);rw [Js Zd,hz r GM Zd,hZ r GM hr,hx] at hp;obtain ⟨g,off,e,_,_,h2⟩:=hp.1.at hk;exact ⟨g,off,e,h2⟩
theorem ZoU {k0:Nat}(h:Re c k0 s L)(fY:k0+l.length<=1000000)(hll:l.length<=100000)(hf: ∀o ∈ l,UG o)(he:Eg N w0 w c a q Z s L)(hs:tM N w0 Z al l)(cl:Nat) :
  Zv Zb 21 #[.pointer (some ⟨q.e,0,none⟩),.slice al l.length cl] w fun e w'=> ∃g,e= .returned (.slice (some ⟨g,0,none⟩) l.length l.length)/\Eg (N+1) w0 w' c a q (ZK Z N (ba g l.length (NM c s l))) (EP c s l) (BO c s L l):=by
 have hN:=he.low;obtain ⟨n,hn⟩:=ZR (l.length);have Ew:=iH n Zd w;have H0:Zj (Eg (N+1) w0 (w.alloc (.cells (YE Ua (ZD n Bi)).toArray 53)) c a q (ZK Z N (ba w.heap.size n (NM c s (l.take 0)))) s L):=Za (by
  have h1:=he.box (YE Ua (ZD n Bi)).toArray 53;have h2:=h1.as (r:=N) hN Zd Zr (Q':=ba w.heap.size n (NM c s (l.take 0))) ay fun S hS=>⟨[],rfl,hS.1,(hS.2 _).2 rfl,fun i hi=>by rw [(hS.2 i).1 hi]; exact hS.1.lt,fun i v r hv=>by simp at hv⟩
  rwa [XB] at h2)
 have HS:=Za (fun (j:Nat) (hj:j<=n)=>Re.ops (l.take j) h Fv (fun o ho=>hf o (List.mem_of_mem_take ho)));have HX:=Za (Zm hf (Zm hs hn));have HN:=Za hN;have dV:n<=100000:=Zd;have TU:k0+n<=1000000:=Zd;have HK:=Za TU;rw [hn];clear h hf he hs hN hn hll fY TU;go_enter func21,ntmps21;go_wp2_with fail;clear Ew;generalize w.heap.size=z at*;generalize w.alloc (.cells (YE Ua (ZD n Bi)).toArray 53)=W at*;go_loopw [13] (fun s13 wr=> ∃(k:Nat),k<=n/\s13= .int .i64 k/\Zj (Eg (N+1) w0 wr c a q (ZK Z N (ba z n (NM c s (l.take k)))) (EP c s (l.take k)) (BO c s L (l.take k)))) (fun s13 _=>n -(intOf s13).toNat)
 case atStart=>exact ⟨0,by omega,rfl,H0⟩
 case round=>
  obtain ⟨k,hk,rfl,HE⟩:=hrel
  by_cases XJ:k < n
  ·obtain ⟨o,ho⟩ : ∃o,l[k]?=some o:=⟨_,Zg (by rw [HX.o.2.2]; exact XJ)⟩;obtain ⟨g,off,rfl,My⟩:=HX.o.2.1.at HE.o Zd (fun k h1 h2=>Zy Zd) ho;obtain ⟨e1,e2,e3⟩:=xc c s L ho;have Pv:(l.take k).length=k:=by rw [List.length_take,HX.o.2.2]; omega
   have GN:Re c (k0+k) (EP c s (l.take k)) (BO c s L (l.take k)):=by
    have:=HS.o k hk;rwa [Pv] at this
   have hfo:=HX.o.1 o (Zz ho);have hrl:(NM c s (l.take k)).length=k:=by rw [gZ]; exact Pv
   have HA:Zj (∀wx Zx,Eg (N+1+1) w0 wx c a q Zx (EP c s (l.take k)) (BO c s L (l.take k))->Zv Zb 19 #[.pointer (some ⟨q.e,0,none⟩),.agg (Z6 o)] wx (ApP (N+1+1) w0 c a q Zx (Hl c (EP c s (l.take k)) o) (Bw c (EP c s (l.take k)) (BO c s L (l.take k)) o))):=Za fun wx Zx hx=>ZgW GN (by have:=HK.o; omega) hx o hfo
   have HR:=Za My;have HT:=Za (Zm e1 (Zm e2 (Zm e3 hrl)));clear ho My e1 e2 e3 Pv GN hfo hrl;go_upto_region 4 with (fail);have CJ:=Za (HE.o.box (Z6 o) 49);go_upto_region 5 with (first | (refine wpList_load_mid rfl 49 _ rfl g (off+k*4) rfl o.row _ HR.o underlying49 rfl DO ?_) | (refine Up wr.heap.size (Z6 o) 49 (ZB wr _) DO (eN _) ?_; rw [Zq]));refine P7 ?_;generalize wr.heap.size=zp at*;generalize wr.alloc (.cells (Z6 o) 49)=W1 at*;have HBx:=Za (CJ.o.blkAt (r:=N+1) Yd Zd Zr);go_wp2_with (first | (refine Kl 49 zp HBx.o underlying49 DO ?_));refine (HA.o _ _ CJ.o).mono ?_;rintro e w2 ⟨ia,ca,ip,cp,rfl,h2⟩;have hN:=HN.o;obtain ⟨R,hR⟩:=ZR ((Hl c (EP c s (l.take k)) o).1);rw [hR] at h2 ⊢;have h3:Eg (N+3) w0 w2 c a q (ZK (ZK (ZK Z N (ba z n (NM c s (l.take k)))) (N+1) (YU 280 3 (.slice ia R.la.length ca) R.la.length (YE As.row R.la))) (N+2) (YU 252 3 (.slice ip R.lp.length cp) R.lp.length (YE Pm.row R.lp))) (Hl c (EP c s (l.take k)) o).2 (Bw c (EP c s (l.take k)) (BO c s L (l.take k)) o):=by
    refine h2.remap Zd (fun j=>if j<=N then j else j+1) (fun j hj=>if_pos Zd) (fun j hj=>by split <;> omega) (fun j hj=>by split <;> omega) (fun i j hi hj e=>by split at e <;> split at e <;> omega) fun j h1 h2=>?_
    by_cases hj:j<=N
    ·rw [if_pos hj];unfold N9
     by_cases NW:j=N
     ·subst NW;rw [Zy Zd,Zy Zd,Zr,Zy Zd,Zy Zd,Zy Zd,Zr]
     ·rw [Zy Zd,Zy Zd,Zy Zd,Zy Zd,Zy Zd,Zy Zd,Zy Zd]
    ·rw [if_neg hj];unfold N9;have hc:j=N+1\/j=N+2:=Zd
     rcases hc with rfl | rfl
     ·rw [Zy Zd,Zr,Zy Zd,Zr]
     ·rw [Zr,Zr]
   have NX:(NM c s (l.take k)).length=k:=HT.o.2.2.2;have GN:=h3.rcstore hN (g:=z) (n:=n) (l:=NM c s (l.take k)) (r:=R) dE Uv Zr Zd;rw [NX] at GN;have e2:=HT.o.2.1;rw [hR] at e2;generalize tC R ia ca ip cp=R2 at GN ⊢;have hth:w2.there z (k*9) (Z9 R2).size:=GN.1;have HST:=Za hth;have H4:Zj (Eg (N+1) w0 (w2.setCells z (k*9) (Z9 R2).toList) c a q (ZK Z N (ba z n (NM c s (l.take (k+1))))) (EP c s (l.take (k+1))) (BO c s L (l.take (k+1)))):=Za (by
    rw [e2,HT.o.1,HT.o.2.2.1];exact GN.2.ext fun j h1 h2=>by
     by_cases hj:j=N
     ·subst hj; rw [Zr,Zr]
     ·rw [Zy hj,Zy hj,Zy Zd,Zy Zd,Zy hj])
   clear hth h2 h3 GN HA HBx CJ HT hR NX e2 HE HR;go_wp2_with (first | (refine wpList_store_mid (op:=⟨none,.store _ _ _,_,_,_,_⟩) rfl 53 _ _ rfl z (k*9) (Z9 R2) rfl rfl HST.o Vs (Ka _) ?_));clear HST;generalize w2.setCells z (k*9) (Z9 R2).toList=W4 at*;go_wp2_with fail;go_roundw
   case rel=>exact ⟨k+1,by omega,by go_num,H4⟩
   case measure=>exact KX
  ·obtain rfl:k=n:=Zd;clear XJ;have XJ: ¬k < k:=Zd;have H7:=HE.o;rw [List.take_of_length_le (by rw [HX.o.2.2]; exact Zh _)] at H7;have H8:=Za H7;clear HE H7;go_wp2_with fail;go_ret;exact ⟨_,rfl,H8.o⟩
end
end
section
open Go Go.RowKit Go.Deep
section
variable {H:Type} {enc:ZL × Zl->H} {w:Zc} {base:Nat} {held:Bool}
theorem open_S42 {r:Reach}{b0:Nat}{v:Zl}{d:DataW H}{p:List MemPlace}(hv:Value.okWide Zb w r b0 42 v)(h:DataW.Trod enc Zb w base (fun _=>true) held 42 v d p) : ∃(a:Option Addr) (len cap:Nat),v= .slice a len cap/\Zd2 w a len cap:=
 open_lstR underlying42 ZC Oq.row_len Y5 (fun n cs x h _=>ZiJ h) hv h
end
theorem ZlQ {c:Nat->Int}(f:Wi c)(h:TM c=0)(h0:c 0<=100) :Re c 0 dY []:=by
 have hc:=RE f h;have h8:=f 8 Zd;have h8':c 8<=18446744073709551615:=by
  simp [Lit.wf,wJ,go_sem] at h8;exact h8.2
 exact ⟨hc,h8',h0,inv0 hc,ZlN,fun p hp=>by simp [dY] at hp⟩
section
variable {N:Nat} {w0:FP} {w w' w1:Zc} {c:Nat->Int} {a:Pl} {q:Ql} {Z Z':Nat->Zc->(Nat->Prop)->Prop} {s s':Sg} {L L':List QZ} {k:Nat}
theorem Eg.down (h:Eg N ⟨fun _=>False,w1⟩ w c a q Z s L) :Zp w1.heap.size w1 w:=by
 have k:=h.kept0;exact ⟨k.os,k.tape,k.output,k.size,fun i hi=>k.block i hi (fun h=>h)⟩
theorem Eg.kblk (h:Eg N ⟨fun _=>False,w1⟩ w c a q Z s L){b t:Nat}{cs:Array Zl}(hB:Zu w1 b t cs) :Zu w b t cs:=hB.below h.down hB.lt
structure Few (s:Sg)(L:List QZ) :Prop where
 v:s.V.length<=100
 p:s.pd.length<=4096
 f:s.F.length<=4096
 w:s.W.length<=4096
 m:s.mg.length<=4096
 t:s.pt.length<=4096
 l:L.length<=100
theorem Re.few (h:Re c k s L) :Few s L:=by
 have q1:=h.ge.q1;have i:=h.inv;have:=h.hund;have:=i.len;have:=i.pdl;have:=i.fl;have:=i.wl;have:=i.mgl;have:=i.ptl;refine ⟨by omega,by omega,by omega,by omega,by omega,by omega,?_⟩;rw [h.ring.len];have:mD s.V<=s.V.length:=List.countP_le_length;omega
theorem Re.snap (h:Re c k s L)(hk:k<=1000000)(he:Eg N w0 w c a q Z s L) :Zv Zb 20 #[.pointer (some ⟨q.e,0,none⟩)] w fun e w'=> ∃x1 x2 x3 x4 x5 x6:Sv,e= .returned (.agg (EY s (Yh s.V) L.length x1.v x2.v x3.v x4.v x5.v x6.v))/\
      Eg (N+6) w0 w' c a q (snX Z N s x1.v x2.v x3.v x4.v x5.v x6.v) s L:=by
  have f:=h.few;exact ZkL he (h.inv.tm h.ge hk) (by have:=f.l; omega) f.p f.m f.t
end
end
section
open Go Go.RowKit Go.Deep
theorem tY {c:Nat->Int}(hf:Wi c)(h:TM c=0) :(0<=c 10/\c 10<=1048576)/\(1<=c 13/\c 13<=4096)/\c 4<=1152921504606846976:=by
 rcases Nn c with ⟨_,hb⟩ | ⟨k,_,_,_,e⟩
 ·have h4:=Ko (hb 4 Zd);have SG:=Ko (hb 10 Zd);have kt:=Ko (hb 13 Zd);unfold cr at h4;exact ⟨⟨by omega,SG.2⟩,kt,h4.2⟩
 ·omega
theorem R6 {w:Zc}{k n:Nat}{e:ZL}{x:Sv}{xs:List Zl}(h:w.ownsRow 0 e k x.v n xs) :x.n=n/\n<=x.c/\x.c<=maxLen:=by
 obtain ⟨a,n',c⟩:=x
 rcases h.2 with ⟨h1,h2⟩ | ⟨g,cp,cur,h1,_,_,h4,h5,_⟩
 ·injection h1 with _ h3 h4;subst h3 h4 h2;exact ⟨rfl,Zh _,XY _⟩
 ·injection h1 with _ h3 h6;subst h3 h6;exact ⟨rfl,h4,h5⟩
theorem dh {w:Zc}{x:Sv}{L:List Int}(h:w.ownsRow 0 3 1 x.v L.length (L.map (ZG .i64))) :XS w (fun _=>False) x.a L:=by
 obtain ⟨a,cp,e,_,_,_,hi⟩:=QC (S:=fun _=>False) h fun _ _ h=>h
 injection e with e _ _;rw [e];exact hi
def anS (s:Sg)(L:List QZ) :An:=⟨s.bk,s.ep,s.V,s.D,s.P,s.B,Yh s.V,s.pd,s.F,s.W,s.mg.length,s.pt.length,(L.length:Int)⟩
theorem oE {w:Zc}{c:Nat->Int}{k:Nat}{s:Sg}{L:List QZ}{x1 x2 x3 x4 x5 x6:Sv}(h:Re c k s L)(hk:k<=1000000)(hf:Wi c)(hc:TM c=0)(IY: ∀v ∈ s.V,-4611686018427387904<=v.wd)
  (a1:w.ownsRow 0 68 7 x1.v s.V.length (XC s.V)) (a2:w.ownsRow 0 3 1 x2.v s.pd.length (s.pd.map (ZG .i64))) (a3:w.ownsRow 0 3 1 x3.v s.F.length (s.F.map (ZG .i64))) (a4:w.ownsRow 0 3 1 x4.v s.W.length (s.W.map (ZG .i64)))
  (a5:w.ownsRow 0 116 2 x5.v s.mg.length (JF s.mg)) (a6:w.ownsRow 0 119 2 x6.v s.pt.length (Jp s.pt)) :
  ∃x:Sx,EY s (Yh s.V) L.length x1.v x2.v x3.v x4.v x5.v x6.v=ZH x/\Uf w x c s.V s.pd s.F s.W/\QB x s.V s.pd s.F s.W=anS s L:=by
 have f:=h.few;have i:=h.inv;obtain ⟨c10,c13,c4⟩:=tY hf hc;obtain ⟨n1,b1,m1⟩:=R6 a1;obtain ⟨n2,b2,m2⟩:=R6 a2;obtain ⟨n3,b3,m3⟩:=R6 a3;obtain ⟨n4,b4,m4⟩:=R6 a4;obtain ⟨n5,b5,m5⟩:=R6 a5;obtain ⟨n6,b6,m6⟩:=R6 a6;have DB: ∀v ∈ s.V,Yp v:=fun v hv=>(i.vok v hv).fit
 obtain ⟨t0,t1⟩:=Da DB;have tt:=i.total h.ge;have wfi: ∀ {p:ZN->Prop} {j:Int},VU s.V p j->(YN .i64 j).wf=true:=fun {p j} hj=>by
  have:=hj.lt;have:=f.v;exact ZdG Zd Zd
 have g1:=i.sum;have g2:=i.p0;have g3:=i.b0;have g4:=i.d1;have g5:=i.bk0;have g6:=i.bk1;have g7:=i.ep0;have g8:=i.ep1;have g9:=f.l;have fv:=f.v;have fp:=f.p;have ff:=f.f;have fw:=f.w;have lV:Vy JM 7 w (fun _=>False) x1.a s.V:=by
  obtain ⟨a',Bg,e,_,_,hl⟩:=RP (S:=fun _=>False) (row:=JM) (l:=s.V) (fun _=>rfl) a1 rfl fun _ _ h=>h
  exact zM
 refine ⟨⟨s.bk,s.ep,x1.a,x1.n,x1.c,s.D,s.P,s.B,Yh s.V,x2.a,x2.n,x2.c,x3.a,x3.n,x3.c,x4.a,x4.n,x4.c,x5.a,x5.n,x5.c,x6.a,x6.n,x6.c,s.cu,s.cy,L.length⟩,rfl,⟨⟨⟨⟨?_,?_⟩,⟨?_,?_⟩,⟨?_,?_⟩,⟨?_,?_⟩,⟨?_,?_⟩,⟨?_,?_⟩,⟨?_,?_⟩,?_,?_⟩,lV,n1.symm,⟨?_,m1⟩,DB,dh a2,n2.symm,⟨?_,m2⟩,?_,dh a3,n3.symm,⟨?_,m3⟩,?_,dh a4,n4.symm,⟨?_,m4⟩,?_⟩,?_,?_,?_,?_,?_,c10,c13,c4⟩,?_⟩
 all_goals first
  | omega
  | (simp only; omega)
  | exact fun y hy=>wfi (i.pdx y hy)
  | exact fun y hy=>wfi (i.lnx y (Yb.2 (.inl hy)))
  | exact fun y hy=>wfi (i.lnx y (Yb.2 (.inr hy)))
  | exact fun v hv=>⟨IY v hv,by have:=(i.vok v hv).w; omega⟩
  | (unfold QB anS; simp only [n5,n6])
theorem ax {N:Nat}{w0:FP}{w:Zc}{c:Nat->Int}{a:Pl}{q:Ql}{Z:Nat->Zc->(Nat->Prop)->Prop}{s:Sg}{L:List QZ}{x1 x2 x3 x4 x5 x6:Sv}(hN:11<=N)(he:Eg (N+6) w0 w c a q (snX Z N s x1.v x2.v x3.v x4.v x5.v x6.v) s L) :
  w.ownsRow 0 68 7 x1.v s.V.length (XC s.V)/\w.ownsRow 0 3 1 x2.v s.pd.length (s.pd.map (ZG .i64))/\w.ownsRow 0 3 1 x3.v s.F.length (s.F.map (ZG .i64))/\w.ownsRow 0 3 1 x4.v s.W.length (s.W.map (ZG .i64))/\w.ownsRow 0 116 2 x5.v s.mg.length (JF s.mg)/\w.ownsRow 0 119 2 x6.v s.pt.length (Jp s.pt):=by
 unfold snX at he;refine ⟨he.row (r:=N) hN Zd ?_,he.row (r:=N+1) Zd Zd ?_,he.row (r:=N+2) Zd Zd ?_,he.row (r:=N+3) Zd Zd ?_,he.row (r:=N+4) Zd Zd ?_,he.row (r:=N+5) Zd Zd ?_⟩
 ·rw [Zy Zd,Zy Zd,Zy Zd,Zy Zd,Zy Zd,Zr]; rfl
 ·rw [Zy Zd,Zy Zd,Zy Zd,Zy Zd,Zr]; rfl
 ·rw [Zy Zd,Zy Zd,Zy Zd,Zr]; rfl
 ·rw [Zy Zd,Zy Zd,Zr]; rfl
 ·rw [Zy Zd,Zr]; rfl
 ·rw [Zr]; rfl
end
section
open Go Go.RowKit Go.Deep
theorem uG:GE Fz:=RE Rw Ph
theorem qP:Hw Fz (anS dY [])=0:=ZC
def anT:An:= { anS dY [] with D:=1}
theorem qQ:Hw Fz anT=2:=ZC
theorem yr:QN Fz anT 12=[2]:=ZC
theorem Am (w:Zc) :XS (w.alloc (.cells #[.int .i64 2] 3)) (fun _=>False) (some ⟨w.heap.size,0,none⟩) [2]:=XS.of_blk (t:=3) (Zs w _ _) fun h=>h
theorem Zbb (w:Zc) :Z3 12 #[] w (.bool true):=by
 have HS0:=Za (ZlQ Rw Ph Y5);have HG:=Za uG;go_enter func12,ntmps12;go_wp2_with fail;refine (DA w).mono ?_;rintro e w1 ⟨rfl,Hj⟩;have B1:=Za Hj;clear Hj;go_wp2_with fail;refine (ZkI w1 HG.o Ph).mono ?_;rintro e w2 ⟨a,q,rfl,h2⟩;have E2:=Za (h2 noP);clear h2;obtain ⟨s0,Ty⟩:=ZR (dY);obtain ⟨L0,hL0⟩:=ZR (([] :List QZ));have Rj:=Za (Zm Ty hL0);rw [Ty,hL0] at HS0 E2;clear Ty hL0;go_wp2_with fail;refine (HS0.o.snap Zd E2.o).mono ?_;rintro e w4 ⟨x1,x2,x3,x4,x5,x6,rfl,h4⟩;have B4:Zj (Zp w.heap.size w w4):=Za (B1.o.trans (h4.down.mono B1.o.size));obtain ⟨r1,r2,r3,r4,r5,r6⟩:=ax Zd h4;obtain ⟨xs,ex,qZ,han⟩:=oE HS0.o Zd Rw Ph (fun v hv=>by rw [<-Rj.o.1] at hv; simp [dY] at hv) r1 r2 r3 r4 r5 r6;rw [<-Rj.o.1,<-Rj.o.2] at han;rw [<-Rj.o.1] at qZ;have HA:Zj (Uf w4 xs Fz [] [] [] []):=Za qZ;have HAN:Zj (QB xs [] [] [] []=anS dY []):=Za han;rw [ex];clear r1 r2 r3 r4 r5 r6 ex qZ han h4 E2 HS0 Rj B1 HG;have N1:Zj (Zu (w4.alloc (.cells (ZH xs) 28)) w4.heap.size 28 (ZH xs)):=Za (Zs w4 _ _);have C5:Zj (Zp w4.heap.size w4 (w4.alloc (.cells (ZH xs) 28))):=Za ((Zn _ _).alloc (Zh _) _);go_upto_region 5 with (first | (refine Up w4.heap.size (ZH xs) 28 (ZB w4 _) BM (EZ xs) ?_; rw [Zq]));refine DH ?_;have BK:(w4.alloc (.cells (ZH xs) 28)).heap.size=w4.heap.size+1:=ZE;have eh:=Za BK;clear BK;generalize w4.alloc (.cells (ZH xs) 28)=w5 at*;generalize hsb:w4.heap.size=sb at*;have N2:Zj (Zu (w5.alloc (.cells (ZH xs) 28)) w5.heap.size 28 (ZH xs)):=Za (Zs w5 _ _);have N3:=Za (N1.o.alloc (.cells (ZH xs) 28));have C6:Zj (Zp sb w4 (w5.alloc (.cells (ZH xs) 28))):=Za (C5.o.alloc (by rw [eh.o]; omega) _);go_upto_region 6 with (first | (refine Kl 28 sb N1.o underlying28 BM ?_) | (refine Up w5.heap.size (ZH xs) 28 (ZB w5 _) BM (EZ xs) ?_; rw [Zq]));refine DH ?_;generalize w5.alloc (.cells (ZH xs) 28)=w6 at*;generalize htb:w5.heap.size=tb at*;have Kj:sb≠tb:=by have:=eh.o; omega
 have hle:sb<=tb:=by have:=eh.o; omega
 have c3:=Xx N2.o 3;have f3:=N2.o.frozen 3;obtain ⟨xt,hxt⟩ : ∃xt:Sx,{ xs with D:=1}=xt:=⟨_,rfl⟩;have N4:Zj (Zu (w6.setCell ⟨tb,3,none⟩ (.int .u64 1)) tb 28 (ZH xt)):=Za (by rw [<-hxt]; exact N2.o.set_ 3 _);have N5:Zj (Zu (w6.setCell ⟨tb,3,none⟩ (.int .u64 1)) sb 28 (ZH xs)):=Za (N3.o.far Kj _);have C7:Zj (Zp sb w4 (w6.setCell ⟨tb,3,none⟩ (.int .u64 1))):=Za (C6.o.setCell hle _);have HAX:Zj (Uf (w6.setCell ⟨tb,3,none⟩ (.int .u64 1)) xs Fz [] [] [] []):=Za (HA.o.below (by rw [hsb]; exact C7.o));have HAT:Zj (Uf (w6.setCell ⟨tb,3,none⟩ (.int .u64 1)) xt Fz [] [] [] []/\QB xt [] [] [] []=anT):=Za (by
  refine ⟨?_,?_⟩
  ·have h:=HAX.o;rw [<-hxt];exact { h with sx:= { h.sx with nums:= { h.sx.nums with D:=⟨by show (0:Int)<=1; omega,by show (1:Int)<=18446744073709551615; omega⟩}}}
  ·rw [<-hxt];show { QB xs [] [] [] [] with D:=1}=anT;rw [HAN.o];rfl)
 have BX:Zj (Zp w.heap.size w (w6.setCell ⟨tb,3,none⟩ (.int .u64 1))):=Za (B4.o.trans (C7.o.mono (by rw [<-hsb]; exact B4.o.size)));clear Kj hle hxt C5 C6 N1 N2 N3 eh;go_upto_region 7 with (fail);refine DH ?_;generalize w6.setCell ⟨tb,3,none⟩ (.int .u64 1)=X0 at*;clear c3 f3 C7 HA;have hX:Zp X0.heap.size X0 X0.drew:=(Zn _ _).drew;have M1:Zj (Zu X0.drew sb 28 (ZH xs)):=Za N5.o.drew;have M2:Zj (Zu X0.drew tb 28 (ZH xt)):=Za N4.o.drew;have MA:=Za (HAX.o.below hX);have MT:=Za (HAT.o.1.below hX);have BD:Zj (Zp w.heap.size w X0.drew):=Za BX.o.drew;obtain ⟨X,hXX⟩:=ZR (X0.drew);rw [hXX] at M1 M2 MA MT BD;have HC0:Zj (∀W',Zp X.heap.size X W'->Z3 16 #[.agg (ZH xs),.agg (Zi Fz)] W' (.int .i64 0)):=Za fun W' hb=>by
  have:=Iv W' (MA.o.below hb);rw [HAN.o,qP] at this;exact this
 have HC1:Zj (∀W',Zp X.heap.size X W'->Z3 16 #[.agg (ZH xt),.agg (Zi Fz)] W' (.int .i64 2)):=Za fun W' hb=>by
  have:=Iv W' (MT.o.below hb);rw [HAT.o.2,qQ] at this;exact this
 have pF:Zj (∀W',Zp X.heap.size X W'->Zv Zb 13 #[.agg (ZH xt),.agg (Zi Fz)] W' fun e w'=> ∃v,e= .returned v/\Us w' W'.heap.size v [2]/\Zp W'.heap.size W' w'):=Za fun W' hb=>by
  have:=na W' (MT.o.below hb);rw [HAT.o.2,yr] at this;exact this
 have HNM:Zj (∀W',Z3 23 #[.int .i64 2] W' (.string ⟨#[115,117,109]⟩)):=Za fun W'=>tL 2 W' Y5
 clear HAX HAT N4 N5 BX hX MA MT HAN;refine L5 (fun w'=>Zp X.heap.size X w') 25 24 [0] (?_) ?_
 ·rw [hXX]; exact Zn _ _
 rw [hXX];clear hXX;refine JH ?_;refine Hh ?_;refine Jb 28 _ sb 28 (ZH xs) _ rfl rfl rfl (fun w' h=>M1.o.below h M1.o.lt) underlying28 rfl BM ?_;refine X7 ?_;refine Yo ?_;refine P7 ?_;refine JC (i:=1) ?_;refine JA #[] call29 ((DA X).mono ?_);rintro e y1 ⟨rfl,hb⟩;have By1:Zj (Zp X.heap.size X y1):=Za (hb);clear hb;refine ⟨_,rfl,By1.o,?_⟩;refine P7 ?_;refine JC (i:=2) ?_;refine JA #[.agg (ZH xs),.agg (Zi Fz)] call16 ((HC0.o y1 By1.o).mono ?_);rintro e y2 ⟨rfl,hb⟩;have By2:Zj (Zp X.heap.size X y2):=Za (By1.o.trans (hb.mono By1.o.size));clear hb;refine ⟨_,rfl,By2.o,?_⟩;refine P7 ?_;refine TS (fun w'=>Zp X.heap.size X w') (m:=22) (f:=19) [3,4,5] (?_) ?_
 ·exact By2.o
 refine JH ?_;refine Nh ?_;refine BZ ?_;refine Jb 28 _ tb 28 (ZH xt) _ rfl rfl rfl (fun w' h=>M2.o.below h M2.o.lt) underlying28 rfl BM ?_;refine X7 ?_;refine Yo ?_;refine P7 ?_;refine Lz ?_;refine Vo rfl ZC (KL rfl #[] ZC call29 ((DA y2).mono ?_));rintro e y3 ⟨rfl,hb⟩;have By3:Zj (Zp X.heap.size X y3):=Za (By2.o.trans (hb.mono By2.o.size));clear hb;refine ⟨_,rfl,By3.o,?_⟩;refine P7 ?_;refine P8 ?_;refine Vo rfl ZC (KL rfl #[.agg (ZH xt),.agg (Zi Fz)] ZC call16 ((HC1.o y3 By3.o).mono ?_));rintro e y4 ⟨rfl,hb⟩;have By4:Zj (Zp X.heap.size X y4):=Za (By3.o.trans (hb.mono By3.o.size));clear hb;refine ⟨_,rfl,By4.o,?_⟩;refine P7 ?_;refine TS (fun w'=>Zp X.heap.size X w') (m:=17) (f:=13) [8,9,10,11] (?_) ?_
 ·exact By4.o
 refine JH ?_;refine Hg ?_;refine Ec ?_;refine Jb 28 _ tb 28 (ZH xt) _ rfl rfl rfl (fun w' h=>M2.o.below h M2.o.lt) underlying28 rfl BM ?_;refine X7 ?_;refine Yo ?_;obtain ⟨i8,tr,wk,wi,hb8⟩:=Gj;refine P7 ?_;refine KC (i:=12) (k:=14) ZC ZE ZE ?_ ?_
 ·skip
  refine Vo rfl ZC (KL rfl #[] ZC call29 ((DA y4).mono ?_));rintro e y5 ⟨rfl,hb⟩;have zZ:Zj (Zp X.heap.size X y5):=Za (By4.o.trans (hb.mono By4.o.size));clear hb;refine ⟨_,rfl,zZ.o,?_⟩;refine P7 ?_;refine KC (i:=13) (k:=14) ZC ZE ZE ?_ ?_
  ·skip
   refine Vo rfl ZC (KL rfl #[.agg (ZH xt),.agg (Zi Fz)] ZC call13 ((pF.o y5 zZ.o).mono ?_));rintro e y6 ⟨v,rfl,ho,hb⟩;obtain ⟨pa,ca,rfl,_,_,_,hi⟩:=QC (S:=fun _=>False) ho fun _ _ h=>h
   have OA:=Za hi;have By6:Zj (Zp X.heap.size X y6):=Za (zZ.o.trans (hb.mono zZ.o.size));clear ho hb hi;refine ⟨_,rfl,By6.o,?_⟩;refine P7 ?_;refine JC (i:=14) ?_;have By7:Zj (Zp X.heap.size X (y6.alloc (.cells #[.int .i64 2] 3))):=Za (By6.o.alloc By6.o.size _);have OB:=Za (Am y6);have OA:=Za (OA.o.below ((Zn _ y6).alloc (Zh _) (.cells #[.int .i64 2] 3)));refine Vo rfl ZC (Kd 24 3 i8 _ _ (.int .i64 2) rfl rfl underlying24 tr wk wi rfl rfl ⟨By7.o,?_⟩);generalize y6.alloc (.cells #[.int .i64 2] 3)=y7 at*;generalize y6.heap.size=g2 at*;exact Zf5
  ·skip
   have By6:Zj (Zp X.heap.size X (y5.alloc (.cells #[.int .i64 2] 3))):=Za (zZ.o.alloc zZ.o.size _);have OB0:=Za (Am y5);refine Vo rfl ZC (Kd 24 3 i8 _ _ (.int .i64 2) rfl rfl underlying24 tr wk wi rfl rfl ⟨By6.o,?_⟩);generalize y5.alloc (.cells #[.int .i64 2] 3)=y6 at*;generalize y5.heap.size=g2 at*;exact zT6
 ·skip
  have zZ:Zj (Zp X.heap.size X (y4.alloc (.cells #[.int .i64 2] 3))):=Za (By4.o.alloc By4.o.size _);have OB0:=Za (Am y4);refine Vo rfl ZC (Kd 24 3 i8 _ _ (.int .i64 2) rfl rfl underlying24 tr wk wi rfl rfl ⟨zZ.o,?_⟩);generalize y4.alloc (.cells #[.int .i64 2] 3)=y5 at*;generalize y4.heap.size=g2 at*;refine P7 ?_;refine JC (i:=12) ?_;refine Vo rfl ZC (KL rfl #[] ZC call29 ((DA y5).mono ?_));rintro e y6 ⟨rfl,hb⟩;have OB1:=Za (OB0.o.below hb);have By6:Zj (Zp X.heap.size X y6):=Za (zZ.o.trans (hb.mono zZ.o.size));clear hb OB0;refine ⟨_,rfl,By6.o,?_⟩;have OB0:=OB1;clear OB1;exact zT6
end
section
open Go Go.RowKit Go.Deep
theorem Zg6 {V:List ZN}(h:V.all NK=true) : ∀v ∈ V,-4611686018427387904<=v.wd/\v.wd<=4611686018427387904:=fun v hv=>by
 have h1:=YP.1 h v hv;unfold NK at h1;rw [decide_eq_true_eq] at h1;omega
theorem ZkA {w:Zc}{x:Sx}{c:Nat->Int}{V:List ZN}{pd F W:List Int}(h:Be w (fun _=>False) x V pd F W)(hf:Wi c)(hc:TM c=0)(hb:Eu x V=true) :Uf w x c V pd F W:=by
 obtain ⟨c10,c13,c4⟩:=tY hf hc;obtain ⟨b1,b2,b3,b4,b5,b6⟩:=TP hb;have h1:=h.vn;have h2:=h.pn;have h3:=h.fn;have h4:=h.wn;exact ⟨h,by omega,by omega,by omega,by omega,Zg6 (nG hb),c10,c13,c4⟩
theorem uY {w:Zc}{x:Sx}{V:List ZN}{pd F W:List Int}(h:Be w (fun _=>False) x V pd F W) : ∀W1,Zp w.heap.size w W1->Z3 11 #[.agg (Yu x)] W1 (.bool (Eu x V)):=fun W1 hb=>
 ZbP _ x V W1 (h.vl.below hb) h.vn (ZZ h.vc.1 h.vc.2) (ZZ h.pc.1 h.pc.2) (ZZ h.fc.1 h.fc.2) (ZZ h.wc.1 h.wc.2) h.nums.mn h.nums.tn
theorem WI (S:Nat->Prop)(a:Option Addr)(n c:Nat)(l:List Int)(w:Zc)(h:XS w S a l)(hl:l.length=n)(hn:n<=1000000) :
  Zv Zb 26 #[.slice a n c] w fun e w'=> ∃v,e= .returned v/\Us w' w.heap.size v l/\Zp w.heap.size w w':=by
 rcases a with _ | a
 ·have h0:n=0:=by
   rcases Nat.eq_zero_or_pos n with h0 | h0
   ·exact h0
   ·obtain ⟨b,off,e,_⟩:=h Zd
    cases e
  have LG:l=[]:=List.eq_nil_of_length_eq_zero Zd;subst LG;subst h0;have hq: ∀w,(binOp .eql 24 (.slice none 0 c) (.slice none 0 0)).run Zb w= .ok (.bool true) w:=fun w=>Uq w _ _ _ _ _ _ _ underlying24
  clear h hl hn;go_enter func26,ntmps26;exact y8
 ·have hq: ∀w,(binOp .eql 24 (.slice (some a) n c) (.slice none 0 0)).run Zb w= .ok (.bool false) w:=fun w=>Uq w _ _ _ _ _ _ _ underlying24
  obtain ⟨i,hi,hz,hs,Ns⟩:=Gj;have BE:Zj (Zu (w.alloc (.cells #[] 3)) w.heap.size 3 #[]):=Za (Zs w _ _);have BA:Zj (Zp w.heap.size w (w.alloc (.cells #[] 3))):=Za ((Zn _ _).alloc (Zh _) _);have HS:Zj (XS (w.alloc (.cells #[] 3)) S (some a) l):=Za (h.below BA.o);have HL:=Za hl;have O0:Zj (Us (w.alloc (.cells #[] 3)) w.heap.size (.slice (some ⟨w.heap.size,0,none⟩) 0 0) []):=Za (Oo BE.o (Zh _));clear h hl;go_enter func26,ntmps26;go_wp2_with (first | (refine Mi O0.o HS.o HL.o rfl _ _ rfl rfl rfl Xo ZE ?_; intro v w1 ho hg));have HO:Zj (Us w1 w.heap.size v l):=Za ho;have HB:Zj (Zp w.heap.size w w1):=Za (O0.o.grown BA.o ZE hg);clear ho hg O0 BE BA HS;go_wp2;go_ret;exact ⟨v,rfl,HO.o,HB.o⟩
end
section
open Go Go.RowKit
section
variable {c:Nat->Int} {k:Nat} {s:Sg} {L:List QZ}
theorem Re.rules (h:Re c k s L)(h2:Fw c s) : ∀j,j < 12->XQ c (anS s L) j=true:=fun j hj=>by
 have i:=h.inv;have tt:=i.total h.ge;have e:j=0\/j=1\/j=2\/j=3\/j=4\/j=5\/j=6\/j=7\/j=8\/j=9\/j=10\/j=11:=Zd
 rcases e with rfl | rfl | rfl | rfl | rfl | rfl | rfl | rfl | rfl | rfl | rfl | rfl
 ·exact decide_eq_true i.len
 ·exact decide_eq_true i.sum
 ·exact decide_eq_true tt.2.1
 ·exact decide_eq_true rfl
 ·exact fF (P:=Vt) (fun v=>by unfold dX Vt; rw [decide_eq_true_eq]) i.pdn i.pdx h2.pd
 ·exact fF (P:=UE) (fun v=>by unfold bX UE; rw [decide_eq_true_eq]) i.lnn i.lnx h2.qd
 ·exact YP.2 fun v hv=>decide_eq_true (h2.ok v hv).r7
 ·exact YP.2 fun v hv=>decide_eq_true (by
   by_cases h6:v.st=6\/v.st=7
   ·exact .inl ((h2.ok v hv).r8 h6)
   ·exact .inr h6)
 ·refine decide_eq_true ?_;show ((L.length:Nat) :Int)=_;rw [h.ring.len];rfl
 ·exact decide_eq_true ⟨i.pdl,i.fl,i.wl,i.mgl,i.ptl⟩
 ·exact decide_eq_true ⟨i.bk0,i.epq⟩
 ·exact YP.2 fun v hv=>decide_eq_true (by
   cases hs:v.sl with
   | false=>exact .inl rfl
   | true=>exact .inr ((h2.ok v hv).r12 hs))
theorem Fw.wd (h2:Fw c s) : ∀v ∈ s.V,-4611686018427387904<=v.wd:=fun v hv=>by
 have:=(h2.ok v hv).w0;omega
end
end
section
open Go Go.RowKit Go.Deep
theorem xT {P:Program}(w:Zc)(ts:Array ZL)(t:ZL)(a b:Int) :(Vc ts t #[.int .i64 a,.int .i64 b]).run P w= .ok (.int .i64 (max a b)) w:=by
 have e2:(if b>a then b else a)=max a b:=by
  rw [Int.max_def]
  split <;> split <;> omega
 simp [Vc,Builtin.max2,e2]
theorem Ek {c:Nat->Int}{s:An}{j:Nat}(hj:j < 12)(h:XQ c s j=false) :QN c s 12≠ []:=fun e=>by
 obtain ⟨y,l,hl⟩ : ∃y l,QN c s (j+1)=y::l:=by
  rw [T9 h]
  cases QN c s j with
  | nil=>exact ⟨_,_,rfl⟩
  | cons y l=>exact ⟨_,_,rfl⟩
 obtain ⟨l',h'⟩:=Sa hl (12 -(j+1));rw [show j+1+(12 -(j+1))=12 by omega,e] at h'
 cases h'
theorem oP {x:Int}(h:J64 x) :(YN .i64 x).wf=true:=Zff
theorem ZdH {x:Int}(h:pI x) :(YN .u64 x).wf=true:=Zff
theorem Ao (x:Int) :pI (IntKind.u64.wrap x):=by
 simp [pI,IntKind.wrap,Vd,J8];omega
theorem gH (x:Int) :J64 (Bm x):=by
 unfold J64 Bm;omega
theorem oR {x b:Int}(h:pI x)(b0:0<=b)(b1:b<=255) :IntKind.u64.wrap (x+(1+b))≠x:=by
 obtain ⟨h1,h2⟩:=h;simp [IntKind.wrap,Vd,J8];omega
theorem oS {x:Int}(h:J64 x) :Bm (x+1)≠x:=by
 obtain ⟨h1,h2⟩:=h;exact Rb
theorem Vu {w z:Zc}{g:Nat}(hg:w.heap.size=g)(h:Zp g w z) :ZA (fun _=>False) w z:=⟨h.os,h.tape,h.output,hg▸h.size,fun i hi _=>h.block i (hg▸hi)⟩
theorem Vq {w z:Zc}(h:ZA (fun _=>False) w z) :Zp w.heap.size w z:=⟨h.os,h.tape,h.output,h.size,fun i hi=>h.block i hi fun h=>h⟩
theorem SQ {w:Zc}{S:Nat->Prop}{g t i k:Nat}{cur:Array Zl}{V:List ZN}{v v':ZN}{u:Zl}(hB:Zu w g t cur)(h:Vy JM 7 w S (some ⟨g,0,none⟩) V)(hv:V[i]?=some v)(hk:k < 7)(hr:v'.row=v.row.set k u) :
  Vy JM 7 (w.setCell ⟨g,i*7+k,none⟩ u) S (some ⟨g,0,none⟩) (V.set i v'):=fun h0=>by
 rw [Xb] at h0;obtain ⟨b,off,e,h1,h2,h3⟩:=h h0;injection e with e;injection e with e1 e2 _;subst e1;subst e2;have WW:=hB.set_ (i*7+k) u;refine ⟨g,0,rfl,h1,WW.lt,fun j x hj m y hy=>?_⟩;have hm:m < 7:=by
  have:=(Zk.1 hy).1;exact this
 rw [WW.cell];have old: ∀x',V[j]?=some x'-> ∀y',x'.row[m]?=some y'->cur[0+j*7+m]?=some y':=fun x' hx y' hy'=>by rw [<-hB.cell]; exact h3 j x' hx m y' hy'
 by_cases SI:i=j
 ·subst SI;have hx:x=v':=by
   rw [Yz (Zk.1 hv).1] at hj;injection hj with hj;exact hj.symm
  subst hx;rw [hr] at hy
  by_cases hm':k=m
  ·subst hm';rw [Yz (show k < 7 from hk)] at hy;obtain ⟨y',hy'⟩ : ∃y',v.row[k]?=some y':=⟨_,Zg (show k < 7 from hk)⟩;have:=(Yj.1 (old v hv y' hy')).1;rw [ZW,<-hy,Array.getElem?_setIfInBounds_self,if_pos Zd]
  ·rw [Yn hm'] at hy;rw [Array.getElem?_setIfInBounds_ne Zd];exact old v hv y hy
 ·rw [Yn SI] at hj;rw [Array.getElem?_setIfInBounds_ne Zd];exact old x hj y hy
theorem WT {q q':List Int}{V:List ZN}{p:ZN->Bool}(h:Et q V p=true)(hl:q'.length=q.length+1) :Et q' V p=false:=by
 unfold Et at h ⊢;rw [Bool.and_eq_true] at h;have h2:=of_decide_eq_true h.2;rw [show decide (q'.length=V.countP p)=false from decide_eq_false Zd,Bool.and_false]
def cz (w:Zc)(B:Nat)(a:Option Addr)(cp:Nat)(V:List ZN) :Prop:=0 < V.length-> ∃g cur,a=some ⟨g,0,none⟩/\B<=g/\Zu w g 68 cur
theorem rL {w w':Zc}{B n cp:Nat}{a:Option Addr}{V:List ZN}(h:w.ownsRow B 68 7 (.slice a n cp) n (XC V))(hk:ZA (fun i=>i < B) w w')(hn:V.length=n) :cz w' B a cp V:=fun h0=>by
 rcases h.2 with ⟨h1,h2⟩ | ⟨g,Bg,cur,h1,h2,h3,_⟩
 ·omega
 ·injection h1 with h1 _ _;refine ⟨g,cur,h1,h2,?_⟩;have hB:Zu w g 68 cur:=h3;exact (hk.block g hB.lt Zd).trans hB
theorem cz.at {w:Zc}{B cp:Nat}{a:Option Addr}{V:List ZN}(h:cz w B a cp V)(h0:0 < V.length) : ∃g cur,a=some ⟨g,0,none⟩/\B<=g/\Zu w g 68 cur:=h h0
def ChP (c:Nat->Int)(S:Nat->Prop)(W:List Int)(k:Int)(w:Zc)(e:Ending)(w':Zc) :Prop:=
 ∃(y:Sx) (V:List ZN) (pd F:List Int),e= .returned (.agg (ZH y))/\Be w' S y V pd F W/\(k<=5->QN c (QB y V pd F W) 12≠ [])/\Zp w.heap.size w w'
theorem Dd {w Y1:Zc}{g k t:Nat}{cs cs' sz:Array Zl}{va:Option Addr}{V:List ZN}(u:Zl)(hg:w.heap.size=g)(D0:Zu Y1 g t cs)(D1:Zu Y1 (g+1) t sz)(DW:Zp w.heap.size w Y1)(DL:Vy JM 7 Y1 (fun i=>i<=g+1) va V)(e:cs.setIfInBounds k u=cs') :
  Zu (Y1.setCell ⟨g,k,none⟩ u) g t cs'/\Zu (Y1.setCell ⟨g,k,none⟩ u) (g+1) t sz/\Zp w.heap.size w (Y1.setCell ⟨g,k,none⟩ u)/\Vy JM 7 (Y1.setCell ⟨g,k,none⟩ u) (fun i=>i<=g+1) va V/\ZA (fun i=>i<=g+1) Y1 (Y1.setCell ⟨g,k,none⟩ u):=by
 have hk:ZA (fun i=>i<=g+1) Y1 (Y1.setCell ⟨g,k,none⟩ u):=Qm (S:=fun i=>i<=g+1) (ZS _ Y1) (p:=⟨g,k,none⟩) (.inl (Nat.le_succ g)) _;refine ⟨?_,Q0 (p:=⟨g,k,none⟩) D1 (show g+1≠g by omega) _,Vq (Qm (S:=fun _=>False) (Vu rfl DW) (p:=⟨g,k,none⟩) (.inr (Nat.le_of_eq hg)) _),DL.kept (S:=fun i=>i<=g+1) (hk.more fun i _ hi=>hi),hk⟩;have:=D0.set_ k u;rwa [e] at this
theorem Ds {S:Nat->Prop}{w Z:Zc}{g:Nat}{va:Option Addr}{V:List ZN}(cs:Array Zl)(hg:w.heap.size=g)(hS: ∀i,S i->i < g)(KW:Zp w.heap.size w Z)(LZ:Vy JM 7 Z (fun i=>i<=g+1) va V) :
  Zp w.heap.size w (Z.setRow (g+1) cs)/\Vy JM 7 (Z.setRow (g+1) cs) S va V/\ZA (fun i=>i<=g+1) Z (Z.setRow (g+1) cs):=by
 have hk:ZA (fun i=>i<=g+1) Z (Z.setRow (g+1) cs):=Xz (S:=fun i=>i<=g+1) (ZS _ Z) (g:=g+1) (.inl (Zh _)) _;exact ⟨Vq (Xz (S:=fun _=>False) (Vu rfl KW) (g:=g+1) (.inr Zd) _),(LZ.kept (S:=fun i=>i<=g+1) (hk.more fun i _ hi=>hi)).more (T:=S) fun i _ hi=>(show i<=g+1 by have:=hS i hi; omega),hk⟩
theorem Ob (k:Int)(hk:0<=k/\k<=7)(c:Nat->Int)(x:Sx)(V:List ZN)(pd F W:List Int)(b:Int)(w:Zc)(S:Nat->Prop)(hS: ∀i,S i->i < w.heap.size)(h:Be w S x V pd F W)(hV:x.vn<=1000/\x.pn<=10000/\x.fn<=10000)(b0:0<=b)(b1:b<=255)(hR: ∀j,j < 12->XQ c (QB x V pd F W) j=true) :
  Zv Zb 22 #[.agg (ZH x),.int .i64 k,.int .u8 b] w (ChP c S W k w):=by
 have B0:Zj (Zu ((w.alloc (.cells (ZH x) 28)).alloc (.cells Ma 28)) w.heap.size 28 (ZH x)):=Za ((Zs w _ _).alloc _);have B1:Zj (Zu ((w.alloc (.cells (ZH x) 28)).alloc (.cells Ma 28)) (w.heap.size+1) 28 Ma):=Za (Ej w _ _ _);have BL:Zj (Zp w.heap.size w ((w.alloc (.cells (ZH x) 28)).alloc (.cells Ma 28))):=Za (((Zn _ _).alloc (Zh _) _).alloc ZE _);have HS:=Za h;have HR:=Za hR;have nh:=Za hS;have hvn:=h.vn;have HLV:=Za hV;have HCV:Zj (∀W1,Zp w.heap.size w W1->Zv Zb 25 #[.slice x.va x.vn x.vc] W1 fun e w'=> ∃v,e= .returned v/\w'.ownsRow W1.heap.size 68 7 v x.vn (XC V)/\Zp W1.heap.size W1 w'):=Za fun W1 hb=>by
  have:=Np S x.va x.vc V W1 (HS.o.vl.below hb) Zd;rwa [hvn] at this
 clear h hvn hV hR hS;go_enter func22,ntmps22;go_upto_region 1 with (fail);generalize hW:(w.alloc (.cells (ZH x) 28)).alloc (.cells _ 28)=Z0;have eW:(w.alloc (.cells (ZH x) 28)).alloc (.cells Ma 28)=Z0:=hW;rw [eW] at B0 B1 BL;clear hW eW;generalize hg:w.heap.size=g at*;have HG:=Za hg;clear hg;have c2:=Xx B0.o 2;go_wp2_with fail;refine (HCV.o Z0 BL.o).mono ?_;rintro e z1 ⟨v1,rfl,ho,hb⟩;have BL1:Zj (Zp g w z1):=Za (BL.o.trans (hb.mono (by rw [<-HG.o]; exact BL.o.size)));have C0:=Za (B0.o.below hb B0.o.lt);have C1:=Za (B1.o.below hb B1.o.lt);have R1:Zj (z1.ownsRow (g+2) 68 7 v1 x.vn (XC V)):=Za (QD ho (by have:=B1.o.lt; omega));clear ho hb B0 B1 BL HCV c2;obtain ⟨va,vc,rfl,q1,p1,l1⟩:=RP (S:=fun i=>i<=g+1) (row:=JM) (l:=V) (fun _=>rfl) R1.o HS.o.vn fun i hi=>by have:=(R1.o.lt i hi).1; omega
 have dP:=Za (Zm q1 (Zm p1 l1));clear q1 p1 l1;have c2:=Xx C0.o 2;have f2:=C0.o.frozen 2;have hmx: ∀(ts:Array ZL) (t:ZL) (w:Zc),(Vc ts t #[.int .i64 x.vn,.int .i64 1]).run Zb w= .ok (.int .i64 (max (x.vn:Int) 1)) w:=fun ts t w=>xT w ts t _ _
 have Kj:max (x.vn:Int) 1≠0:=Zd;go_upto_region 2 with (fail);refine DH ?_;have D0:Zj (Zu (z1.setCell ⟨g,2,none⟩ (.slice va x.vn vc)) g 28 (ZH { x with va:=va,vc:=vc})):=Za (by
  have:=C0.o.set_ 2 (.slice va x.vn vc);exact this)
 have D1:Zj (Zu (z1.setCell ⟨g,2,none⟩ (.slice va x.vn vc)) (g+1) 28 Ma):=Za (Q0 (p:=⟨g,2,none⟩) C1.o (show g+1≠g by omega) _);have DK:Zj (ZA (fun i=>i<=g+1) z1 (z1.setCell ⟨g,2,none⟩ (.slice va x.vn vc))):=Za (Qm (S:=fun i=>i<=g+1) (ZS _ z1) (p:=⟨g,2,none⟩) (.inl (Nat.le_succ g)) _);have DW:Zj (Zp w.heap.size w (z1.setCell ⟨g,2,none⟩ (.slice va x.vn vc))):=Za (Vq (Qm (S:=fun _=>False) (Vu HG.o BL1.o) (p:=⟨g,2,none⟩) (.inr (Nat.le_of_eq HG.o)) _));have DL:Zj (Vy JM 7 (z1.setCell ⟨g,2,none⟩ (.slice va x.vn vc)) (fun i=>i<=g+1) va V):=Za (dP.o.2.2.kept (S:=fun i=>i<=g+1) (DK.o.more fun i _ hi=>hi));have DR:Zj (cz (z1.setCell ⟨g,2,none⟩ (.slice va x.vn vc)) (g+2) va vc V):=Za (rL R1.o (DK.o.more fun i _ hi=>by show i < g+2; omega) HS.o.vn);have DC:Zj (x.vn<=vc/\vc<=maxLen):=Za ⟨dP.o.1,dP.o.2.1⟩;clear c2 f2 C0 C1 DK dP R1 BL1;generalize z1.setCell ⟨g,2,none⟩ (.slice va x.vn vc)=Y1 at*;have c2:=Xx D0.o 2;go_upto_region 3 with (fail);clear hmx Kj;have hk8:k=0\/k=1\/k=2\/k=3\/k=4\/k=5\/k=6\/k=7:=Zd;clear hk
 rcases hk8 with rfl | rfl | rfl | rfl | rfl | rfl | rfl | rfl
 ·have cK:=Xx D0.o 3;have fK:=D0.o.frozen 3;obtain ⟨y0,hy0⟩:=ZR (IntKind.u64.wrap (x.D+(1+b)));have HY:Zj (y0≠x.D/\pI y0):=Za (by rw [<-hy0]; exact ⟨oR HS.o.nums.D b0 b1,Ao _⟩);go_upto_region 21 with (fail);refine DH ?_;obtain ⟨y,hy⟩ : ∃y:Sx,{ x with va:=va,vc:=vc,D:=y0}=y:=⟨_,rfl⟩;have HZ:=Za (Dd (k:=3) (.int .u64 y0) HG.o D0.o D1.o DW.o DL.o (show _=ZH y by rw [<-hy]; rfl));clear cK fK hy0 c2 D0 D1 DW DL DR;generalize Y1.setCell ⟨g,3,none⟩ (.int .u64 y0)=Z at*;have HE:=Za (Ds (ZH y) HG.o nh.o HZ.o.2.2.1 HZ.o.2.2.2.1);have SZ:Zj (Be (Z.setRow (g+1) (ZH y)) S y V pd F W):=Za (by
   have h:=HS.o.below HE.o.1;have bY:=HE.o.2.1;generalize Z.setRow (g+1) (ZH y)=WZ at*;rw [<-hy];exact { h with nums:= { h.nums with D:=HY.o.2},vl:=bY,vc:=DC.o})
  have VZ:Zj ((0:Int)<=5->QN c (QB y V pd F W) 12≠ []):=Za fun _=>by
   refine Ek (j:=1) Zd ?_;rw [<-hy];have h:Zw V+x.P+x.B=x.D:=of_decide_eq_true (HR.o 1 Zd);refine decide_eq_false (p:=Zw V+x.P+x.B=y0) fun h'=>HY.o.1 ?_
   omega
  exact Iu
 ·have cK:=Xx D0.o 6;have fK:=D0.o.frozen 6;obtain ⟨y0,hy0⟩:=ZR (IntKind.u64.wrap (x.ac+(1+b)));have HY:Zj (y0≠x.ac/\pI y0):=Za (by rw [<-hy0]; exact ⟨oR HS.o.nums.ac b0 b1,Ao _⟩);go_upto_region 21 with (fail);refine DH ?_;obtain ⟨y,hy⟩ : ∃y:Sx,{ x with va:=va,vc:=vc,ac:=y0}=y:=⟨_,rfl⟩;have HZ:=Za (Dd (k:=6) (.int .u64 y0) HG.o D0.o D1.o DW.o DL.o (show _=ZH y by rw [<-hy]; rfl));clear cK fK hy0 c2 D0 D1 DW DL DR;generalize Y1.setCell ⟨g,6,none⟩ (.int .u64 y0)=Z at*;have HE:=Za (Ds (ZH y) HG.o nh.o HZ.o.2.2.1 HZ.o.2.2.2.1);have SZ:Zj (Be (Z.setRow (g+1) (ZH y)) S y V pd F W):=Za (by
   have h:=HS.o.below HE.o.1;have bY:=HE.o.2.1;generalize Z.setRow (g+1) (ZH y)=WZ at*;rw [<-hy];exact { h with nums:= { h.nums with ac:=HY.o.2},vl:=bY,vc:=DC.o})
  have VZ:Zj ((1:Int)<=5->QN c (QB y V pd F W) 12≠ []):=Za fun _=>by
   refine Ek (j:=3) Zd ?_;rw [<-hy];have h:Yh V=x.ac:=of_decide_eq_true (HR.o 3 Zd);refine decide_eq_false (p:=Yh V=y0) fun h'=>HY.o.1 ?_
   omega
  exact Iu
 ·have cK:=Xx D0.o 7;go_wp2_with fail;refine (WI S _ _ _ pd Y1 (HS.o.pl.below DW.o) HS.o.pn (by have:=HLV.o; omega)).mono ?_;rintro e z2 ⟨v2,rfl,ho,hb⟩;have O2:Zj (Us (z2.alloc (.cells #[.int .i64 b] 3)) Y1.heap.size v2 pd):=Za (X5 ho _);have HM:Zj (XS (z2.alloc (.cells #[.int .i64 b] 3)) (fun _=>False) (some ⟨z2.heap.size,0,none⟩) [b]):=Za (XS.of_blk (t:=3) (Zs z2 _ _) fun h=>h);have GI:Zj (Zp Y1.heap.size Y1 (z2.alloc (.cells #[.int .i64 b] 3))):=Za (hb.alloc hb.size _);have HBS:Zj (Y1.heap.size<=(z2.alloc (.cells #[.int .i64 b] 3)).heap.size):=Za GI.o.size;clear ho hb cK c2;go_upto_region 21 with (first | (refine Mi (base:=Y1.heap.size) (l:=pd) (M:= [b]) (m:=1) O2.o HM.o rfl rfl _ _ rfl rfl rfl (by have:=HLV.o; have:=HS.o.pn; omega) HBS.o ?_; intro v3 z3 ho3 hg3; have Mc:Zj (Zp Y1.heap.size Y1 z3):=Za (Us.grown O2.o GI.o HBS.o hg3); have f7:=(D0.o.below Mc.o D0.o.lt).frozen 7; have c7:z3.cell? ⟨g,7,none⟩=some (.slice x.pa x.pn x.pc):=(D0.o.below Mc.o D0.o.lt).cell 7; obtain ⟨pp,cp,rfl,n2,q2,p2,l2⟩:=QC (S:=fun i=>i<=g+1) (QD ho3 (XY _)) fun i hi=>by have:=(ho3.lt i hi).1; have:=D1.o.lt; omega));refine DH ?_;have q2':pd.length+1<=cp:=by simpa using q2
  have HQ:=Za (Zm q2' p2);obtain ⟨y,hy⟩ : ∃y:Sx,{ x with va:=va,vc:=vc,pa:=pp,pn:=pd.length+1,pc:=cp}=y:=⟨_,rfl⟩;have HZ:=Za (Dd (k:=7) (.slice pp (pd.length+1) cp) HG.o (D0.o.below Mc.o D0.o.lt) (D1.o.below Mc.o D1.o.lt) (DW.o.trans (Mc.o.mono DW.o.size)) (DL.o.below Mc.o) (show _=ZH y by rw [<-hy]; rfl));have L2:=Za (l2.kept HZ.o.2.2.2.2 (T:=fun i=>i<=g+1) fun i _ hi=>hi);clear n2 q2 p2 l2 q2' ho3 Mc O2 HM GI HBS hg3 c7 f7 D0 D1 DW DL DR;generalize z3.setCell ⟨g,7,none⟩ (.slice pp (pd.length+1) cp)=Z at*;have HE:=Za (Ds (ZH y) HG.o nh.o HZ.o.2.2.1 HZ.o.2.2.2.1);have SZ:Zj (Be (Z.setRow (g+1) (ZH y)) S y V (pd++[b]) F W):=Za (by
   have h:=HS.o.below HE.o.1;have bY:=HE.o.2.1;have l2':=(L2.o.kept HE.o.2.2 (T:=fun i=>i<=g+1) fun i _ hi=>hi).other (T:=S) fun i _ hi=>(show i<=g+1 by have:=nh.o i hi; have:=HG.o; omega)
   have lf: ∀z ∈ pd++[b],(YN .i64 z).wf=true:=fun z hz=>(Yb.1 hz).elim (h.pf z) fun hz=>by
    exact ZfL
   generalize Z.setRow (g+1) (ZH y)=WZ at*;rw [<-hy];exact { h with nums:=⟨h.nums.bk,h.nums.ep,h.nums.D,h.nums.P,h.nums.B,h.nums.ac,h.nums.un,h.nums.mn,h.nums.tn⟩,vl:=bY,vc:=DC.o,pl:=l2',pn:=ZE,pc:=HQ.o,pf:=lf})
  have VZ:Zj ((2:Int)<=5->QN c (QB y V (pd++[b]) F W) 12≠ []):=Za fun _=>by
   refine Ek (j:=4) Zd ?_;rw [<-hy];exact WT (HR.o 4 Zd) (by simp [QB]; try omega)
  exact Iu
 ·have cK:=Xx D0.o 8;go_wp2_with fail;refine (WI S _ _ _ F Y1 (HS.o.fl.below DW.o) HS.o.fn (by have:=HLV.o; omega)).mono ?_;rintro e z2 ⟨v2,rfl,ho,hb⟩;have O2:Zj (Us (z2.alloc (.cells #[.int .i64 b] 3)) Y1.heap.size v2 F):=Za (X5 ho _);have HM:Zj (XS (z2.alloc (.cells #[.int .i64 b] 3)) (fun _=>False) (some ⟨z2.heap.size,0,none⟩) [b]):=Za (XS.of_blk (t:=3) (Zs z2 _ _) fun h=>h);have GI:Zj (Zp Y1.heap.size Y1 (z2.alloc (.cells #[.int .i64 b] 3))):=Za (hb.alloc hb.size _);have HBS:Zj (Y1.heap.size<=(z2.alloc (.cells #[.int .i64 b] 3)).heap.size):=Za GI.o.size;clear ho hb cK c2;go_upto_region 21 with (first | (refine Mi (base:=Y1.heap.size) (l:=F) (M:= [b]) (m:=1) O2.o HM.o rfl rfl _ _ rfl rfl rfl (by have:=HLV.o; have:=HS.o.fn; omega) HBS.o ?_; intro v3 z3 ho3 hg3; have Mc:Zj (Zp Y1.heap.size Y1 z3):=Za (Us.grown O2.o GI.o HBS.o hg3); have f7:=(D0.o.below Mc.o D0.o.lt).frozen 8; have c7:z3.cell? ⟨g,8,none⟩=some (.slice x.fa x.fn x.fc):=(D0.o.below Mc.o D0.o.lt).cell 8; obtain ⟨pp,cp,rfl,n2,q2,p2,l2⟩:=QC (S:=fun i=>i<=g+1) (QD ho3 (XY _)) fun i hi=>by have:=(ho3.lt i hi).1; have:=D1.o.lt; omega));refine DH ?_;have q2':F.length+1<=cp:=by simpa using q2
  have HQ:=Za (Zm q2' p2);obtain ⟨y,hy⟩ : ∃y:Sx,{ x with va:=va,vc:=vc,fa:=pp,fn:=F.length+1,fc:=cp}=y:=⟨_,rfl⟩;have HZ:=Za (Dd (k:=8) (.slice pp (F.length+1) cp) HG.o (D0.o.below Mc.o D0.o.lt) (D1.o.below Mc.o D1.o.lt) (DW.o.trans (Mc.o.mono DW.o.size)) (DL.o.below Mc.o) (show _=ZH y by rw [<-hy]; rfl));have L2:=Za (l2.kept HZ.o.2.2.2.2 (T:=fun i=>i<=g+1) fun i _ hi=>hi);clear n2 q2 p2 l2 q2' ho3 Mc O2 HM GI HBS hg3 c7 f7 D0 D1 DW DL DR;generalize z3.setCell ⟨g,8,none⟩ (.slice pp (F.length+1) cp)=Z at*;have HE:=Za (Ds (ZH y) HG.o nh.o HZ.o.2.2.1 HZ.o.2.2.2.1);have SZ:Zj (Be (Z.setRow (g+1) (ZH y)) S y V pd (F++[b]) W):=Za (by
   have h:=HS.o.below HE.o.1;have bY:=HE.o.2.1;have l2':=(L2.o.kept HE.o.2.2 (T:=fun i=>i<=g+1) fun i _ hi=>hi).other (T:=S) fun i _ hi=>(show i<=g+1 by have:=nh.o i hi; have:=HG.o; omega)
   have lf: ∀z ∈ F++[b],(YN .i64 z).wf=true:=fun z hz=>(Yb.1 hz).elim (h.ff z) fun hz=>by
    exact ZfL
   generalize Z.setRow (g+1) (ZH y)=WZ at*;rw [<-hy];exact { h with nums:=⟨h.nums.bk,h.nums.ep,h.nums.D,h.nums.P,h.nums.B,h.nums.ac,h.nums.un,h.nums.mn,h.nums.tn⟩,vl:=bY,vc:=DC.o,fl:=l2',fn:=ZE,fc:=HQ.o,ff:=lf})
  have VZ:Zj ((3:Int)<=5->QN c (QB y V pd (F++[b]) W) 12≠ []):=Za fun _=>by
   refine Ek (j:=5) Zd ?_;rw [<-hy];exact WT (HR.o 5 Zd) (by simp [QB]; try omega)
  exact Iu
 ·have cK:=Xx D0.o 14;have fK:=D0.o.frozen 14;obtain ⟨y0,hy0⟩:=ZR (Bm (x.un+1));have HY:Zj (y0≠x.un/\J64 y0):=Za (by rw [<-hy0]; exact ⟨oS HS.o.nums.un,gH _⟩);go_upto_region 21 with (fail);refine DH ?_;obtain ⟨y,hy⟩ : ∃y:Sx,{ x with va:=va,vc:=vc,un:=y0}=y:=⟨_,rfl⟩;have HZ:=Za (Dd (k:=14) (.int .i64 y0) HG.o D0.o D1.o DW.o DL.o (show _=ZH y by rw [<-hy]; rfl));clear cK fK hy0 c2 D0 D1 DW DL DR;generalize Y1.setCell ⟨g,14,none⟩ (.int .i64 y0)=Z at*;have HE:=Za (Ds (ZH y) HG.o nh.o HZ.o.2.2.1 HZ.o.2.2.2.1);have SZ:Zj (Be (Z.setRow (g+1) (ZH y)) S y V pd F W):=Za (by
   have h:=HS.o.below HE.o.1;have bY:=HE.o.2.1;generalize Z.setRow (g+1) (ZH y)=WZ at*;rw [<-hy];exact { h with nums:= { h.nums with un:=HY.o.2},vl:=bY,vc:=DC.o})
  have VZ:Zj ((4:Int)<=5->QN c (QB y V pd F W) 12≠ []):=Za fun _=>by
   refine Ek (j:=8) Zd ?_;rw [<-hy];have h:x.un=(V.countP Tz:Nat):=of_decide_eq_true (HR.o 8 Zd);refine decide_eq_false (p:=y0=(V.countP Tz:Nat)) fun h'=>HY.o.1 ?_
   omega
  exact Iu
 ·have cK:=Xx D0.o 1;have fK:=D0.o.frozen 1;obtain ⟨y0,hy0⟩:=ZR (Bm (x.ep+1));have HY:Zj (y0≠x.ep/\J64 y0):=Za (by rw [<-hy0]; exact ⟨oS HS.o.nums.ep,gH _⟩);go_upto_region 21 with (fail);refine DH ?_;obtain ⟨y,hy⟩ : ∃y:Sx,{ x with va:=va,vc:=vc,ep:=y0}=y:=⟨_,rfl⟩;have HZ:=Za (Dd (k:=1) (.int .i64 y0) HG.o D0.o D1.o DW.o DL.o (show _=ZH y by rw [<-hy]; rfl));clear cK fK hy0 c2 D0 D1 DW DL DR;generalize Y1.setCell ⟨g,1,none⟩ (.int .i64 y0)=Z at*;have HE:=Za (Ds (ZH y) HG.o nh.o HZ.o.2.2.1 HZ.o.2.2.2.1);have SZ:Zj (Be (Z.setRow (g+1) (ZH y)) S y V pd F W):=Za (by
   have h:=HS.o.below HE.o.1;have bY:=HE.o.2.1;generalize Z.setRow (g+1) (ZH y)=WZ at*;rw [<-hy];exact { h with nums:= { h.nums with ep:=HY.o.2},vl:=bY,vc:=DC.o})
  have VZ:Zj ((5:Int)<=5->QN c (QB y V pd F W) 12≠ []):=Za fun _=>by
   refine Ek (j:=10) Zd ?_;rw [<-hy];have h:0<=x.bk/\x.ep=x.bk/c 13:=of_decide_eq_true (HR.o 10 Zd);refine decide_eq_false (p:=0<=x.bk/\y0=x.bk/c 13) fun h'=>HY.o.1 ?_
   omega
  exact Iu
 ·by_cases h0:x.vn=0
  ·have d0:decide (0 < x.vn)=false:=decide_eq_false Zd;have d1:decide ((0:Int)< (x.vn:Int))=false:=decide_eq_false Zd;have h00: ¬0 < x.vn:=Zd;go_upto_region 21 with (fail);refine DH ?_;obtain ⟨y,hy⟩ : ∃y:Sx,{ x with va:=va,vc:=vc}=y:=⟨_,rfl⟩;have HZ:Zj (Zu Y1 g 28 (ZH y)/\Zu Y1 (g+1) 28 Ma/\Zp w.heap.size w Y1/\Vy JM 7 Y1 (fun i=>i<=g+1) va V/\True):=Za ⟨by rw [<-hy]; exact D0.o,D1.o,DW.o,DL.o,trivial⟩;clear D0 DL DR c2 D1 DW;generalize Y1=Z at*;have HE:=Za (Ds (ZH y) HG.o nh.o HZ.o.2.2.1 HZ.o.2.2.2.1);have SZ:Zj (Be (Z.setRow (g+1) (ZH y)) S y V pd F W):=Za (by
    have h:=HS.o.below HE.o.1;have bY:=HE.o.2.1;generalize Z.setRow (g+1) (ZH y)=WZ at*;rw [<-hy];exact { h with nums:=⟨h.nums.bk,h.nums.ep,h.nums.D,h.nums.P,h.nums.B,h.nums.ac,h.nums.un,h.nums.mn,h.nums.tn⟩,vl:=bY,vc:=DC.o})
   have VZ:Zj ((6:Int)<=5->QN c (QB y V pd F W) 12≠ []):=Za fun h=>by omega
   exact Iu
  ·obtain ⟨i,hi,FX⟩ : ∃i:Nat,b%max (x.vn:Int) 1=(i:Int)/\i < x.vn:=⟨(b%max (x.vn:Int) 1).toNat,(VE (JR _ Zd)).symm,by have h1:=KF b (show (0:Int)< max (x.vn:Int) 1 by omega); have h2:=JR b (show max (x.vn:Int) 1≠0 by omega); omega⟩;obtain ⟨p,cur,rfl,hp,hB⟩:=DR.o.at NH;have HB:=Za hB;obtain ⟨v,hv⟩ : ∃v,V[i]?=some v:=⟨_,Zg NH⟩;have HV:=Za hv;have cE:Y1.cell? ⟨p,i*7,none⟩=some (.int .u64 v.bal):=by
    obtain ⟨b',off,e,h1,h2,h3⟩:=DL.o NH;injection e with e;injection e with e1 e2 _;subst e1;subst e2;have:=h3 i v hv 0 _ rfl;rwa [ZW] at this
   have fE:Y1.frozen? ⟨p,i*7,none⟩=false:=HB.o.frozen (i*7);clear hv hB;obtain ⟨y0,hy0⟩:=ZR (IntKind.u64.wrap (v.bal+(1+b)));have HF:Zj (Yp { v with bal:=y0}):=Za (by
    have h:=HS.o.vf v (Zz HV.o);rw [<-hy0];exact ⟨ZdH (Ao _),h.2⟩)
   go_upto_region 21 with (fail);refine DH ?_;obtain ⟨y,hy⟩ : ∃y:Sx,{ x with va:=some ⟨p,0,none⟩,vc:=vc}=y:=⟨_,rfl⟩;have HZ:Zj (Zu (Y1.setCell ⟨p,i*7,none⟩ (.int .u64 y0)) g 28 (ZH y)/\Zu (Y1.setCell ⟨p,i*7,none⟩ (.int .u64 y0)) (g+1) 28 Ma/\Zp w.heap.size w (Y1.setCell ⟨p,i*7,none⟩ (.int .u64 y0))/\Vy JM 7 (Y1.setCell ⟨p,i*7,none⟩ (.int .u64 y0)) (fun i=>i<=g+1) (some ⟨p,0,none⟩) (V.set i { v with bal:=y0})/\True):=Za ⟨by rw [<-hy]; exact Q0 (p:=⟨p,i*7,none⟩) D0.o (show g≠p by omega) _,Q0 (p:=⟨p,i*7,none⟩) D1.o (show g+1≠p by omega) _,Vq (Qm (S:=fun _=>False) (Vu rfl DW.o) (p:=⟨p,i*7,none⟩) (.inr (show w.heap.size<=p by have:=HG.o; omega)) _),SQ (k:=0) HB.o DL.o HV.o Zd rfl,trivial⟩;clear hy0 cE fE D0 D1 DW DL DR c2;generalize Y1.setCell ⟨p,i*7,none⟩ (.int .u64 y0)=Z at*;have HE:=Za (Ds (ZH y) HG.o nh.o HZ.o.2.2.1 HZ.o.2.2.2.1);have SZ:Zj (Be (Z.setRow (g+1) (ZH y)) S y (V.set i { v with bal:=y0}) pd F W):=Za (by
    have h:=HS.o.below HE.o.1;have bY:=HE.o.2.1;generalize Z.setRow (g+1) (ZH y)=WZ at*;rw [<-hy];exact { h with nums:=⟨h.nums.bk,h.nums.ep,h.nums.D,h.nums.P,h.nums.B,h.nums.ac,h.nums.un,h.nums.mn,h.nums.tn⟩,vl:=bY,vc:=DC.o,vn:=(by rw [Xb]; exact h.vn),vf:=(fun z hz=>(XI hz).elim (h.vf z) fun e=>by rw [e]; exact HF.o)})
   have VZ:Zj ((6:Int)<=5->QN c (QB y (V.set i { v with bal:=y0}) pd F W) 12≠ []):=Za fun h=>by omega
   exact Iu
 ·by_cases h0:x.vn=0
  ·have d0:decide (0 < x.vn)=false:=decide_eq_false Zd;have d1:decide ((0:Int)< (x.vn:Int))=false:=decide_eq_false Zd;have h00: ¬0 < x.vn:=Zd;go_upto_region 21 with (fail);refine DH ?_;obtain ⟨y,hy⟩ : ∃y:Sx,{ x with va:=va,vc:=vc}=y:=⟨_,rfl⟩;have HZ:Zj (Zu Y1 g 28 (ZH y)/\Zu Y1 (g+1) 28 Ma/\Zp w.heap.size w Y1/\Vy JM 7 Y1 (fun i=>i<=g+1) va V/\True):=Za ⟨by rw [<-hy]; exact D0.o,D1.o,DW.o,DL.o,trivial⟩;clear D0 DL DR c2 D1 DW;generalize Y1=Z at*;have HE:=Za (Ds (ZH y) HG.o nh.o HZ.o.2.2.1 HZ.o.2.2.2.1);have SZ:Zj (Be (Z.setRow (g+1) (ZH y)) S y V pd F W):=Za (by
    have h:=HS.o.below HE.o.1;have bY:=HE.o.2.1;generalize Z.setRow (g+1) (ZH y)=WZ at*;rw [<-hy];exact { h with nums:=⟨h.nums.bk,h.nums.ep,h.nums.D,h.nums.P,h.nums.B,h.nums.ac,h.nums.un,h.nums.mn,h.nums.tn⟩,vl:=bY,vc:=DC.o})
   have VZ:Zj ((7:Int)<=5->QN c (QB y V pd F W) 12≠ []):=Za fun h=>by omega
   exact Iu
  ·obtain ⟨i,hi,FX⟩ : ∃i:Nat,b%max (x.vn:Int) 1=(i:Int)/\i < x.vn:=⟨(b%max (x.vn:Int) 1).toNat,(VE (JR _ Zd)).symm,by have h1:=KF b (show (0:Int)< max (x.vn:Int) 1 by omega); have h2:=JR b (show max (x.vn:Int) 1≠0 by omega); omega⟩;obtain ⟨p,cur,rfl,hp,hB⟩:=DR.o.at NH;have HB:=Za hB;obtain ⟨v,hv⟩ : ∃v,V[i]?=some v:=⟨_,Zg NH⟩;have HV:=Za hv;have cE:Y1.cell? ⟨p,i*7+1,none⟩=some (.int .i64 v.st):=by
    obtain ⟨b',off,e,h1,h2,h3⟩:=DL.o NH;injection e with e;injection e with e1 e2 _;subst e1;subst e2;have:=h3 i v hv 1 _ rfl;rwa [ZW] at this
   have fE:Y1.frozen? ⟨p,i*7+1,none⟩=false:=HB.o.frozen (i*7+1);clear hv hB;obtain ⟨y0,hy0⟩:=ZR (1+b/8%7);have HF:Zj (Yp { v with st:=y0}):=Za (by
    have h:=HS.o.vf v (Zz HV.o);rw [<-hy0];exact ⟨h.1,oP ⟨by show (-9223372036854775808:Int)<=1+b/8%7; omega,by show 1+b/8%7<=(9223372036854775807:Int); omega⟩⟩)
   go_upto_region 21 with (fail);refine DH ?_;obtain ⟨y,hy⟩ : ∃y:Sx,{ x with va:=some ⟨p,0,none⟩,vc:=vc}=y:=⟨_,rfl⟩;have HZ:Zj (Zu (Y1.setCell ⟨p,i*7+1,none⟩ (.int .i64 y0)) g 28 (ZH y)/\Zu (Y1.setCell ⟨p,i*7+1,none⟩ (.int .i64 y0)) (g+1) 28 Ma/\Zp w.heap.size w (Y1.setCell ⟨p,i*7+1,none⟩ (.int .i64 y0))/\Vy JM 7 (Y1.setCell ⟨p,i*7+1,none⟩ (.int .i64 y0)) (fun i=>i<=g+1) (some ⟨p,0,none⟩) (V.set i { v with st:=y0})/\True):=Za ⟨by rw [<-hy]; exact Q0 (p:=⟨p,i*7+1,none⟩) D0.o (show g≠p by omega) _,Q0 (p:=⟨p,i*7+1,none⟩) D1.o (show g+1≠p by omega) _,Vq (Qm (S:=fun _=>False) (Vu rfl DW.o) (p:=⟨p,i*7+1,none⟩) (.inr (show w.heap.size<=p by have:=HG.o; omega)) _),SQ (k:=1) HB.o DL.o HV.o Zd rfl,trivial⟩;clear hy0 cE fE D0 D1 DW DL DR c2;generalize Y1.setCell ⟨p,i*7+1,none⟩ (.int .i64 y0)=Z at*;have HE:=Za (Ds (ZH y) HG.o nh.o HZ.o.2.2.1 HZ.o.2.2.2.1);have SZ:Zj (Be (Z.setRow (g+1) (ZH y)) S y (V.set i { v with st:=y0}) pd F W):=Za (by
    have h:=HS.o.below HE.o.1;have bY:=HE.o.2.1;generalize Z.setRow (g+1) (ZH y)=WZ at*;rw [<-hy];exact { h with nums:=⟨h.nums.bk,h.nums.ep,h.nums.D,h.nums.P,h.nums.B,h.nums.ac,h.nums.un,h.nums.mn,h.nums.tn⟩,vl:=bY,vc:=DC.o,vn:=(by rw [Xb]; exact h.vn),vf:=(fun z hz=>(XI hz).elim (h.vf z) fun e=>by rw [e]; exact HF.o)})
   have VZ:Zj ((7:Int)<=5->QN c (QB y (V.set i { v with st:=y0}) pd F W) 12≠ []):=Za fun h=>by omega
   exact Iu
end
section
open Go Go.ChangeShapes Go.WideShapes Go.RowKit Go.Deep
def BH (p:Int × Int) :Array Zl:= #[.int .u8 p.1,.int .u8 p.2]
def jy (p:Int × Int) :Prop:=(YN .u8 p.1).wf=true/\(YN .u8 p.2).wf=true
theorem jy.le {p:Int × Int}(h:jy p) :(0<=p.1/\p.1<=255)/\0<=p.2/\p.2<=255:=by
 obtain ⟨h1,h2⟩:=h;simp [Lit.wf,IntKind.min,IntKind.max,J8,Vd] at h1 h2;omega
theorem ZiH: ∃i,Tryz.prog.info? 28=some i/\i.zero=some (.agg Ma)/\i.size=15:=by
 have h:(Tryz.prog.info? 28).map (fun i=>(i.zero,i.size))=some (some (.agg Ma),15):=ZC
 cases hi:Tryz.prog.info? 28 with
 | none=>exact LV
 | some i=>
  exact zE
theorem cY (w:Zc) :(Instr.alloc 28 true (.tuple #[])).run Zb w= .ok (.pointer (some ⟨w.heap.size,0,none⟩)) (w.alloc (.cells Ma 28)):=by
 obtain ⟨i,hi,hz,hs⟩:=ZiH;exact Zfl
theorem Nb {o:Oper}{a:Act}{w:Zc}{K:Act->Zc->Prop}{Q:Exit->Act->Zc->Prop}(ho:o.op= .alloc 28)
  (h:K (a.put o.dst (.pointer (some ⟨w.heap.size,0,none⟩))) (w.alloc (.cells Ma 28))) :o.wp Zb a w K Q:=by
 unfold Oper.wp execOp;simp only [ho,Sem.run_bind,cY w,Result.andThen_ok,Sem.run_pure];exact h
theorem Re.ops2 {c:Nat->Int} : ∀(l:List Oq) {k:Nat} {s:Sg} {L:List QZ},Re c k s L->Fw c s->k+l.length<=1000000->(∀o ∈ l,UG o)->Fw c (EP c s l)
 | [],k,s,L,_,h,_,_=>h
 | o::l,k,s,L,h,h2,hk,hf=>by
  have fX:k+(l.length+1)<=1000000:=hk;exact Re.ops2 l (h.op Zd o (hf o ZE)) (ZcH h.ge h.inv h2 Zd o) Zd fun x hx=>hf x Dp
theorem af {w:Zc}{B k n t:Nat}{e:ZL}{v:Zl}{xs:List Zl}{S:Nat->Prop}(h:w.ownsRow B e k v n xs)(hS: ∀i,S i-> ∃cs,Zu w i t cs)(Kj:e≠t) : ∀i,v.ownBlock=some i-> ¬S i:=fun i hi hs=>by
 rcases h.2 with ⟨h1,_⟩ | ⟨g,cp,cur,h1,_,h2,_⟩
 ·rw [h1] at hi
  cases hi
 ·rw [h1] at hi;simp [YZ] at hi;subst hi;obtain ⟨cs,hB⟩:=hS _ hs;have hB':w.heap[g]?=some (.cells cs t (0,0)):=hB;rw [h2] at hB';injection hB' with hB';injection hB' with _ e1 _;exact Kj e1
theorem yg {w:Zc}{S:Nat->Prop}{t:Nat}{x:Sx}{V:List ZN}{pd F W:List Int}(h:Be w (fun _=>False) x V pd F W)(a1:w.ownsRow 0 68 7 (.slice x.va x.vn x.vc) V.length (XC V))(a2:w.ownsRow 0 3 1 (.slice x.pa x.pn x.pc) pd.length (pd.map (ZG .i64)))(a3:w.ownsRow 0 3 1 (.slice x.fa x.fn x.fc) F.length (F.map (ZG .i64)))(a4:w.ownsRow 0 3 1 (.slice x.wa x.wn x.wc) W.length (W.map (ZG .i64)))(hS: ∀i,S i-> ∃cs,Zu w i t cs)(h1:68≠t)(h2:3≠t) :Be w S x V pd F W:=by
 have lv:Vy JM 7 w S x.va V:=by
  obtain ⟨_,_,e,_,_,hl⟩:=RP (S:=S) (row:=JM) (l:=V) (fun _=>rfl) a1 rfl (af a1 hS h1);exact zM
 have li: ∀ {a:Option Addr} {n cp:Nat} {l:List Int},w.ownsRow 0 3 1 (.slice a n cp) l.length (l.map (ZG .i64))->XS w S a l:=fun h=>by
  obtain ⟨_,_,e,_,_,_,hl⟩:=QC (S:=S) h (af h hS h2);exact zM
 exact { h with vl:=lv,pl:=li a2,fl:=li a3,wl:=li a4}
theorem oF {N:Nat}{w0:FP}{w:Zc}{c:Nat->Int}{k:Nat}{a:Pl}{q:Ql}{Z:Nat->Zc->(Nat->Prop)->Prop}{s:Sg}{L:List QZ}{x1 x2 x3 x4 x5 x6:Sv}(h:Re c k s L)(h2:Fw c s)(hk:k<=1000000)(hf:Wi c)(hc:TM c=0)(hN:11<=N)(he:Eg (N+6) w0 w c a q (snX Z N s x1.v x2.v x3.v x4.v x5.v x6.v) s L)(S:Nat->Prop)(hS: ∀i,S i-> ∃cs,Zu w i 28 cs) :
  ∃x:Sx,EY s (Yh s.V) L.length x1.v x2.v x3.v x4.v x5.v x6.v=ZH x/\Be w S x s.V s.pd s.F s.W/\(x.vn<=1000/\x.pn<=10000/\x.fn<=10000)/\ ∀j,j < 12->XQ c (QB x s.V s.pd s.F s.W) j=true:=by
 obtain ⟨r1,r2,r3,r4,r5,r6⟩:=ax hN he;obtain ⟨x,ex,qZ,han⟩:=oE h hk hf hc h2.wd r1 r2 r3 r4 r5 r6;have e1:x1.v= .slice x.va x.vn x.vc:=ZP (congrArg (fun a:Array Zl=>a[2]?) ex);have e2:x2.v= .slice x.pa x.pn x.pc:=ZP (congrArg (fun a:Array Zl=>a[7]?) ex);have e3:x3.v= .slice x.fa x.fn x.fc:=ZP (congrArg (fun a:Array Zl=>a[8]?) ex);have e4:x4.v= .slice x.wa x.wn x.wc:=ZP (congrArg (fun a:Array Zl=>a[9]?) ex);rw [e1] at r1;rw [e2] at r2;rw [e3] at r3;rw [e4] at r4;have fw:=h.few;have b1:=fw.v;have b2:=qZ.pl;have b3:=qZ.fl;have b4:=qZ.sx.vn;have b5:=qZ.sx.pn;have b6:=qZ.sx.fn;exact ⟨x,ex,yg qZ.sx r1 r2 r3 r4 hS Y5 Y5,⟨by omega,by omega,by omega⟩,fun j hj=>by rw [han]; exact h.rules h2 j hj⟩
theorem Be.late {w:Zc}{x:Sx}{V:List ZN}{pd F W:List Int}(h:Be w (fun _=>False) x V pd F W) :Be w (fun i=>i=w.heap.size) x V pd F W:=
 { h with vl:=Vy.more (T:=fun i=>i=w.heap.size) h.vl fun i hi e=>absurd e (Nat.ne_of_lt hi),pl:=h.pl.other (T:=fun i=>i=w.heap.size) fun i hi e=>absurd e (Nat.ne_of_lt hi),fl:=h.fl.other (T:=fun i=>i=w.heap.size) fun i hi e=>absurd e (Nat.ne_of_lt hi),wl:=h.wl.other (T:=fun i=>i=w.heap.size) fun i hi e=>absurd e (Nat.ne_of_lt hi)}
theorem Be.store {w:Zc}{g:Nat}{x:Sx}{V:List ZN}{pd F W:List Int}(h:Be w (fun i=>i=g) x V pd F W)(cs:Array Zl) :Be (w.setRow g cs) (fun _=>False) x V pd F W:=by
 have hk:ZA (fun i=>i=g) w (w.setRow g cs):=Xz (S:=fun i=>i=g) (ZS _ w) (g:=g) (.inl rfl) _;exact { h with vl:=(Vy.kept (S:=fun i=>i=g) h.vl (hk.more fun i _ hi=>hi)).more (T:=fun _=>False) fun i _ hi=>hi.elim,pl:=(h.pl.kept hk (T:=fun i=>i=g) fun i _ hi=>hi).other (T:=fun _=>False) fun i _ hi=>hi.elim,fl:=(h.fl.kept hk (T:=fun i=>i=g) fun i _ hi=>hi).other (T:=fun _=>False) fun i _ hi=>hi.elim,wl:=(h.wl.kept hk (T:=fun i=>i=g) fun i _ hi=>hi).other (T:=fun _=>False) fun i _ hi=>hi.elim}
end
end Go.Proofs.YtobgbcdgffgdhaaGreat
