/- Part 14 of 58: Table L05Tab L05Next. -/
import Derived.Test.YtianiiijaopdpaaGreatZu00
import Derived.Test.YtianiiijaopdpaaGreatZu13
import Derived.DeepKeys4
namespace Go.Proofs.YtianiiijaopdpaaGreat
set_option linter.unusedVariables false
set_option linter.unusedSimpArgs false
set_option maxRecDepth 100000
set_option maxHeartbeats 8000000
open _root_.Array renaming getElem?_eq_none → VD
open _root_.Go.RowKit renaming Below → Zt
open _root_.Bool renaming and_eq_true → Y8
open _root_.Go.Instr renaming lookup → JX, mapUpdate → Gq
open _root_.List renaming mem_map → Yj, mem_of_getElem? → ZE, mem_range → QU, range → Xo
open _root_.Go.Lit renaming int → YT
open _root_.Go.MapKept renaming run_getObj_map → Qq
open _root_.Go renaming Program → YZ, Value → Zo, World → Zc, run_underlying → Y3
open _root_.Go.Region renaming Mode → J4, binds → Xp, ready → YB
open _root_.Go.Result renaming andThen → Xd
open _root_.Go.Proofs.Tryz renaming prog → Zb, underlying3 → Yg
theorem LW {G:Prop}(h:G:=by simp [hj]) :G:=h
section
open Go Go.RowKit Go.Maps
open Go.ChangeMaps (setBlock heap_setBlock_same heap_setBlock_other)
def Jk (w:Zc)(b:Nat)(L:List (Zo × Zo)) :Prop:=
 ∃es clock,w.heap[b]?=some (.map es clock)∧(es.toList.map fun e=>(e.key,e.val)).Perm L
section
variable {P:YZ} {w w':Zc} {b B:Nat} {L:List (Zo × Zo)} {t k e:TypeId}
theorem Jk.lt (h:Jk w b L) :b < w.heap.size:=by
 obtain ⟨es,clock,hb,_⟩:=h;exact (Array.getElem?_eq_some_iff.1 hb).1
theorem Jk.below (h:Jk w b L)(hb:Zt B w w')(hB:b < B) :Jk w' b L:=by
 obtain ⟨es,clock,h1,h2⟩:=h;exact ⟨es,clock,(hb.block b hB).trans h1,h2⟩
theorem Jk.drew (h:Jk w b L) :Jk w.drew b L:=h
theorem Jk.drewN (h:Jk w b L)(n:Nat) :Jk (w.drewN n) b L:=h
theorem Jk.perm {M:List (Zo × Zo)}(h:Jk w b L)(hp:L.Perm M) :Jk w b M:=by
 obtain ⟨es,clock,h1,h2⟩:=h;exact ⟨es,clock,h1,h2.trans hp⟩
theorem TF (w:Zc) :Jk (w.alloc (.map #[] 0)) w.heap.size []:=⟨#[],0,(MapKept.heap_alloc w _).1,.nil⟩
theorem Jk.keys {es:Array MapEntry}(hp:(es.toList.map fun e=>(e.key,e.val)).Perm L)(Dr: ∀p ∈ L,∃l,keyOf P k p.1=some l) : ∀x ∈ es.toList,∃l,keyOf P k x.key=some l:=
 fun x hx=>Dr _ (hp.mem_iff.1 (Yj.2 ⟨x,hx,rfl⟩))
theorem Jk.lookup (h:Jk w b L)(K:Keyed P k)(ht:P.underlying t=some (.map k e)){z:Zo}(hz:(zeroValue e).run P w= .ok z w)(Dr: ∀p ∈ L,∃l,keyOf P k p.1=some l){key:Zo}{kl:Lit}(ES:keyOf P k key=some kl) :
  (∃v,(key,v) ∈ L∧(JX t (.map (some b)) key true).run P w= .ok (.tuple #[v,.bool true]) w)∨
   ((∀p ∈ L,p.1≠key)∧(JX t (.map (some b)) key true).run P w= .ok (.tuple #[z,.bool false]) w):=by
 obtain ⟨es,clock,hb,hp⟩:=h
 rcases K.find w ES es.toList (Jk.keys hp Dr) with ⟨h1,h2⟩ | ⟨j,e0,h1,h2,h3⟩
 ·refine .inr ⟨fun p dJ e=>?_,by simp [JX,Y3 ht,Qq hb,K.check w _ ES,h1,hz,Xd]⟩;obtain ⟨x,hx,rfl⟩:=Yj.1 (hp.mem_iff.2 dJ);exact h2 x hx e
 ·refine .inl ⟨e0.val,hp.mem_iff.1 (Yj.2 ⟨e0,ZE h2,by rw [h3]⟩),by simp [JX,Y3 ht,Qq hb,K.check w _ ES,h1,Xd]⟩
theorem Jk.insert (h:Jk w b L)(K:Keyed P k)(ht:P.underlying t=some (.map k e))(Dr: ∀p ∈ L,∃l,keyOf P k p.1=some l){key val:Zo}{kl:Lit}(ES:keyOf P k key=some kl)(Kt: ∀p ∈ L,p.1≠key) :
  ∃w',(Gq t (.map (some b)) key val).run P w= .ok () w'∧Jk w' b ((key,val)::L)∧w.grownBy w' (some b):=by
 obtain ⟨es,clock,hb,hp⟩:=h
 rcases K.find w ES es.toList (Jk.keys hp Dr) with ⟨h1,h2⟩ | ⟨j,e0,h1,h2,h3⟩
 ·refine ⟨setBlock w b (.map (es.push ⟨key,val,clock⟩) (clock+1)),?_,⟨_,_,heap_setBlock_same hb _,?_⟩,⟨rfl,rfl,rfl,by simp [setBlock],fun i _ hi=>heap_setBlock_other hb _ (fun e=>hi (by rw [e]))⟩⟩
  ·simp [Gq,Y3 ht,Qq hb,K.check w false ES,h1,MapKept.run_setObj_map _ hb,Xd,setBlock]
  ·rw [Array.toList_push,List.map_append];exact (List.perm_append_singleton _ _).trans (hp.cons _)
 ·exact absurd h3 (Kt _ (hp.mem_iff.1 (Yj.2 ⟨e0,ZE h2,rfl⟩)))
theorem AY {o:Oper}{a:Act}{K':Act→Zc→Prop}{Q:Exit→Act→Zc→Prop}(h:Jk w b L)(K:Keyed P k)(m x v:Operand)(ho:o.op= .insert t m x v)(hd:o.dst=none)(key val:Zo)(hm:a.eval m= .map (some b))(hx:a.eval x=key)(hv:a.eval v=val)
  (ht:P.underlying t=some (.map k e)) (Dr: ∀p ∈ L,∃l,keyOf P k p.1=some l) {kl:Lit} (ES:keyOf P k key=some kl) (Kt: ∀p ∈ L,p.1≠key)
  (hK: ∀w',Jk w' b ((key,val)::L)→w.grownBy w' (some b)→K' a w') :o.wp P a w K' Q:=by
 obtain ⟨w',Bd,r1,r2⟩:=h.insert K ht Dr ES Kt (val:=val);have be:=hK w' r1 r2;unfold Oper.wp;simp [execOp,ho,hm,hx,hv,Bd,Xd];show K' (a.put o.dst undef) w';rw [hd];exact be
end
section
variable {P:YZ} {ops:Array Oper} {Q:Exit→Act→Zc→Prop} {md:J4} {S:Zc→Prop} {n:Nat} {L:Array Bool→Act→Zc→Prop}
theorem Aj (J:Nat→Array Bool→Zc→Prop)(a:Act)
  (zQ: ∀f Zv w,J (f+1) Zv w→YB md ops Zv≠ []∧ ∀i ∈ YB md ops Zv,i < n∧wpOp P ops Q i (fun a' w'=>a'=a∧S w'∧J f (Zv.setIfInBounds i true) w') a w)
  (Kj: ∀Zv w,J 0 Zv w→L Zv a w) : ∀f Zv w,J f Zv w→X7 P md ops Q S n L f Zv a w
 | 0,Zv,w,h=>Kj Zv w h
 | f+1,Zv,w,h=>by
  obtain ⟨h1,h2⟩:=zQ f Zv w h;exact ⟨h1,fun i hi=>⟨(h2 i hi).1,wpOp_mono (fun a' w' ⟨ha,hS,hJ⟩=>⟨hS,by subst ha; exact Aj J a' zQ Kj f _ w' hJ⟩) (h2 i hi).2⟩⟩
def ov (ent:Nat→Zo × Zo)(at_:Nat→Nat)(base:Array Bool)(N b:Nat)(w0:Zc)(f:Nat)(Zv:Array Bool)(w:Zc) :Prop:=
 ∃D R:List Nat,R.length=f∧(D++R).Perm (Xo N)∧Zv.size=base.size∧(∀i,Zv.getD i true=(base.getD i true||D.any fun j=>at_ j==i))∧Jk w b (D.map ent)∧Zt w0.heap.size w0 w∧w0.heap.size≤b
theorem fA {ent:Nat→Zo × Zo}{at_:Nat→Nat}{base:Array Bool}{N b:Nat}{w0 w:Zc}(h:Jk w b [])(hb:Zt w0.heap.size w0 w)(h0:w0.heap.size≤b) :ov ent at_ base N b w0 N base w:=
 ⟨[],Xo N,by simp,by simp,rfl,by simp,h,hb,h0⟩
theorem q4 {ent:Nat→Zo × Zo}{at_:Nat→Nat}{base Zv:Array Bool}{N b:Nat}{w0 w:Zc}(h:ov ent at_ base N b w0 0 Zv w) :
  (∀i,Zv.getD i true=(base.getD i true||(Xo N).any fun j=>at_ j==i))∧Zv.size=base.size∧Jk w b ((Xo N).map ent)∧Zt w0.heap.size w0 w∧w0.heap.size≤b:=by
 obtain ⟨D,R,hR,hp,hs,hl,ht,hb,h0⟩:=h;obtain rfl:=List.eq_nil_of_length_eq_zero hR;rw [List.append_nil] at hp;exact ⟨fun i=>by rw [hl i,hp.any_eq],hs,ht.perm (hp.map _),hb,h0⟩
def Zco (md:J4)(ops:Array Oper)(n:Nat)(base:Array Bool)(N:Nat)(at_:Nat→Nat) :Bool:=
 ((Xo N).all fun j=>((Xo N).all fun j'=>!(at_ j==at_ j')||j==j')&&!(base.getD (at_ j) true)&&Nat.blt (at_ j) n&&
  (match ops[at_ j]? with | some o=>o.after.all fun e=>!(Xp md e)||base.getD e.on false | none=>false))&&
 (Xo base.size).all fun i=>base.getD i true||((Xo N).any fun j=>at_ j==i)||
  ((Xo N).all fun j=>(Xo base.size).any fun i'=>!(base.getD i' true)&&Region.waitsFor md ops i i'&&(i'==at_ j||(Xo N).all fun j'=>!(at_ j'==i')))
theorem l6 {ent:Nat→Zo × Zo}{at_:Nat→Nat}{base:Array Bool}{N b:Nat}{w0:Zc}{a:Act}(hB:Zco md ops n base N at_=true)
  (hwp: ∀j D w,j < N→(∀x ∈ D,x < N∧x≠j)→Jk w b (D.map ent)→ ∀K:Act→Zc→Prop,(∀w',Jk w' b ((j::D).map ent)→w.grownBy w' (some b)→K a w')→wpOp P ops Q (at_ j) K a w) (hS: ∀w,S w)
  (f:Nat) (Zv:Array Bool) (w:Zc) (h:ov ent at_ base N b w0 (f+1) Zv w) :
  YB md ops Zv≠ []∧ ∀i ∈ YB md ops Zv,i < n∧wpOp P ops Q i (fun a' w'=>a'=a∧S w'∧ov ent at_ base N b w0 f (Zv.setIfInBounds i true) w') a w:=by
 simp only [Zco,Y8,List.all_eq_true,List.any_eq_true,QU,Bool.or_eq_true,Bool.not_eq_true',beq_iff_eq,beq_eq_false_iff_ne,ne_eq] at hB;have eX: ∀j j',j < N→j' < N→at_ j=at_ j'→j=j':=fun j j' h1 h2 he=>((hB.1 j h1).1.1.1 j' h2).resolve_left (fun h=>h he)
 have Mg: ∀j,j < N→base.getD (at_ j) true=false:=fun j h1=>(hB.1 j h1).1.1.2
 have XJ: ∀j,j < N→at_ j < n:=fun j h1=>by simpa using (hB.1 j h1).1.2
 have hready: ∀j,j < N→ ∃o,ops[at_ j]?=some o∧ ∀e ∈ o.after,Xp md e=true→base.getD e.on false=true:=fun j h1=>by
  have:=(hB.1 j h1).2
  cases ho:ops[at_ j]? with
  | none=>rw [ho] at this; cases this
  | some o=>
   rw [ho] at this;refine ⟨o,rfl,fun e he hb=>?_⟩;have:=Array.all_eq_true_iff_forall_mem.1 this e he;simpa [hb] using this
 have qz: ∀i,base.getD i true=false→(∃j,j < N∧at_ j=i)∨ ∀j,j < N→ ∃i',base.getD i' true=false∧Region.waitsFor md ops i i'=true∧((∀j',j' < N→at_ j'≠i')∨i'=at_ j):=fun i hi=>by
  have hib:i < base.size:=by
   rcases Nat.lt_or_ge i base.size with h | h
   ·exact h
   ·simp [VD h] at hi
  rcases hB.2 i hib with (h1 | h1) | h1
  ·rw [hi] at h1; cases h1
  ·exact .inl h1
  ·refine .inr fun j hj=>?_
   obtain ⟨i',_,⟨h2,h3⟩,h4⟩:=h1 j hj;exact ⟨i',h2,h3,h4.symm⟩
 clear hB;obtain ⟨D,R,hR,hp,hs,hl,ht,hb,h0⟩:=h;have tP:(D++R).Nodup:=hp.nodup_iff.2 List.nodup_range;have El: ∀j,j < N ↔ j ∈ D∨j ∈ R:=fun j=>by rw [←QU,←hp.mem_iff,List.mem_append]
 have hDR: ∀j ∈ R,j ∉ D:=fun j hj hd=>(List.nodup_append.1 tP).2.2 j hd j hj rfl
 have dF: ∀j ∈ R,Zv.getD (at_ j) true=false:=fun j hj=>by
  rw [hl,Mg j ((El j).2 (.inr hj)),Bool.false_or,List.any_eq_false];intro j' Pe he;obtain rfl:=eX j' j ((El j').2 (.inl Pe)) ((El j).2 (.inr hj)) (by simpa using he);exact hDR j' hj Pe
 cases R with
 | nil=>simp at hR
 | cons r R=>
  have hbd: ∀i,base.getD i false=true→Zv.getD i false=true:=fun i hi=>by
   have hib:i < base.size:=by
    rcases Nat.lt_or_ge i base.size with h | h
    ·exact h
    ·simp [VD h] at hi
   have h2:=hl i;have h3:base.getD i true=true:=by simp [hib] at hi ⊢; exact hi
   rw [h3,Bool.true_or] at h2;simp [hs,hib] at h2 ⊢;exact h2
  refine ⟨fun he=>?_,fun i hi=>?_⟩
  ·have hrN:r < N:=(El r).2 (.inr ZO);obtain ⟨o,ho,Dr⟩:=hready r hrN;have:at_ r ∈ YB md ops Zv:=mem_ready.2 ⟨dF r ZO,o,ho,fun e he hbi=>hbd _ (Dr e he hbi)⟩;rw [he] at this
   cases this
  ·obtain ⟨Re,o,ho,Dr⟩:=mem_ready.1 hi;have qy:base.getD i true=false:=by
    have:=hl i;rw [Re] at this;simp only [Bool.false_eq,Bool.or_eq_false_iff] at this;exact this.1
   rcases qz i qy with ⟨j,hj,rfl⟩ | hw
   ·have hjD:j ∉ D:=fun hd=>by
     have:=hl (at_ j);rw [Re] at this;simp only [Bool.false_eq,Bool.or_eq_false_iff,List.any_eq_false] at this;exact this.2 j hd ZO
    have hjR:j ∈ r::R:=((El j).1 hj).resolve_left hjD;refine ⟨XJ j hj,hwp j D w hj (fun x hx=>⟨(El x).2 (.inl hx),fun e=>hjD (e▸hx)⟩) ht _ fun w' ht' hg=>⟨rfl,hS w',j::D,(r::R).erase j,?_,?_,by simpa using hs,fun i=>?_,ht',?_,h0⟩⟩
    ·rw [List.length_erase_of_mem hjR];omega
    ·refine List.Perm.trans ?_ hp;rw [List.cons_append];exact List.perm_middle.symm.trans ((List.perm_cons_erase hjR).symm.append_left D)
    ·rw [List.any_cons]
     by_cases hij:at_ j=i
     ·subst hij;rw [Array.getD_eq_getD_getElem?,Array.getElem?_setIfInBounds];simp
      split <;> simp
     ·rw [getD_set_ne true hij,hl i,show (at_ j==i)=false by simpa using hij,Bool.false_or]
    ·exact hb.grown hg hb.size (fun k hk=>by injection hk with hk; omega)
   ·obtain ⟨i',Mh,hwf,hor⟩:=hw r ((El r).2 (.inr ZO));exfalso;unfold Region.waitsFor at hwf;rw [ho] at hwf;obtain ⟨e,he,zB⟩:=Array.any_eq_true'.1 hwf;simp only [Y8,beq_iff_eq] at zB;have h1:=Dr e he zB.1;rw [zB.2] at h1;have h2:Zv.getD i' true=false:=by
     rcases hor with h | rfl
     ·rw [hl i',Mh,Bool.false_or,List.any_eq_false];intro j' Pe he';exact h j' ((El j').2 (.inl Pe)) (by simpa using he')
     ·exact dF r ZO
    rw [getD_both h2] at h1
    cases h1
end
section
variable {P:YZ} {ops:Array Oper} {Q:Exit→Act→Zc→Prop} {md:J4} {n:Nat} {L:Array Bool→Act→Zc→Prop}
def CU (base:Array Bool)(N:Nat)(at_:Nat→Nat) :Array Bool:=(Array.range base.size).map fun i=>base.getD i true||(Xo N).any fun j=>at_ j==i
theorem lP {ent:Nat→Zo × Zo}{at_:Nat→Nat}{Zv:Array Bool}{N b:Nat}{w0 w:Zc}{a:Act}(hB:Zco md ops n Zv N at_=true)
  (hwp: ∀j D w,j < N→(∀x ∈ D,x < N∧x≠j)→Jk w b (D.map ent)→ ∀K:Act→Zc→Prop,(∀w',Jk w' b ((j::D).map ent)→w.grownBy w' (some b)→K a w')→wpOp P ops Q (at_ j) K a w)
  (hT:Jk w b []) (hb:Zt w0.heap.size w0 w) (h0:w0.heap.size≤b)
  (Kj: ∀w',Jk w' b ((Xo N).map ent)→Zt w0.heap.size w0 w'→L (CU Zv N at_) a w') :X7 P md ops Q (fun _=>True) n L N Zv a w:=by
 refine Aj (ov ent at_ Zv N b w0) a (fun f l w h=>l6 hB hwp (fun _=>trivial) f l w h) (fun l w h=>?_) N Zv w (fA hT hb h0);obtain ⟨h1,h2,h3,h4,_⟩:=q4 h;have:l=CU Zv N at_:=by
  refine Array.ext (by simp [CU,h2]) fun i hi Mh=>?_
  have:=h1 i;simp [CU,hi] at this ⊢;exact this
 rw [this];exact Kj w h3 h4
theorem TU {o:Oper}{a:Act}{w:Zc}{K:Act→Zc→Prop}(t:TypeId)(ho:o.op= .makeMap t none)(h:K (a.put o.dst (.map (some w.heap.size))) (w.alloc (.map #[] 0))) :o.wp P a w K Q:=by
 unfold Oper.wp execOp;simp only [ho,Option.map_none,Sem.run_bind,run_makeMap,Result.andThen_ok,Sem.run_pure];exact h
end
section
variable {P:YZ}
theorem bV {k:TypeId}{f0 f1:Field}{q0 q1:IntKind}{n:Nat}(hu:P.underlying k=some (.struct #[f0,f1]))(h0:P.underlying f0.type=some (.int q0))(h1:P.underlying f1.type=some (.int q1))
  (hk:P.keyType k=true) (hn:P.types.size=n+1) (hC:P.cellsOf k=2) (hC0:P.cellsOf f0.type=1) (hC1:P.cellsOf f1.type=1) (ho0:f0.offset=0) (ho1:f1.offset=1) (Mm:(f0.name != "_")=true) (bz:(f1.name != "_")=true)
  {x y:Int} (hx:(YT q0 x).wf=true) (hy:(YT q1 y).wf=true) : ∃l,keyOf P k (.agg #[.int q0 x,.int q1 y])=some l:=by
 have e0: ∀d,P.keyLits (d+1) f0.type [.int q0 x]=some [.int q0 x]:=fun d=>by simp [Program.keyLits,h0,hx]
 have e1: ∀d,P.keyLits (d+1) f1.type [.int q1 y]=some [.int q1 y]:=fun d=>by simp [Program.keyLits,h1,hy]
 have e:P.keyLits (n+1+1) k [.int q0 x,.int q1 y]=some [.int q0 x,.int q1 y]:=by
  unfold Program.keyLits;simp only [hu];rw [if_pos ⟨by simp [hC],by simp [Mm,bz]⟩];simp [ho0,ho1,hC0,hC1,e0,e1]
 have hkf:(P.keyType k&&(Value.agg #[.int q0 x,.int q1 y]).formed P k)=true:=by simp [hk,Value.formed,hu,hC]
 have he:keyOf P k (.agg #[.int q0 x,.int q1 y])=(P.keyLits (P.types.size+1) k [.int q0 x,.int q1 y]).map fun ls=> .string (keyBytes ls):=by
  unfold keyOf;simp only [hu];rw [if_pos hkf];rfl
 rw [he,hn,e];exact ⟨_,rfl⟩
end
end
section
open Go Go.RowKit Go.Maps
def Jt (s e:Int) :Int:=
 if e=7 then(if s=2∨s=3 then 3 else if s=4∨s=5 then 4 else 0)
 else if e=6∧s=2 then 7 else if 1≤e∧e≤5∧s=e then s+1 else 0
def ki (s e:Int) :Zo:= .agg #[.int .i64 s,.int .i64 e]
def Gw:List (Int × Int × Int):= [(1,1,2),(2,2,3),(3,3,4),(4,4,5),(5,5,6),(2,6,7),(2,7,3),(3,7,3),(4,7,4),(5,7,4)]
def lq (x:Int × Int × Int) :Zo × Zo:=(ki x.1 x.2.1,.int .i64 x.2.2)
def BK (j:Nat) :Zo × Zo:=lq (Gw.getD j (0,0,0))
theorem vD:(Xo 10).map BK=Gw.map lq:=rfl
theorem rN {s e:Int}(h:Jt s e≠0) :(s,e,Jt s e) ∈ Gw:=by
 unfold Jt at h ⊢
 by_cases h7:e=7
 ·subst h7;rw [if_pos rfl] at h ⊢
  by_cases a:s=2∨s=3
  ·rw [if_pos a]
   rcases a with rfl | rfl <;> decide
  ·rw [if_neg a] at h ⊢
   by_cases b:s=4∨s=5
   ·rw [if_pos b]
    rcases b with rfl | rfl <;> decide
   ·rw [if_neg b] at h;exact absurd rfl h
 ·rw [if_neg h7] at h ⊢
  by_cases a:e=6∧s=2
  ·obtain ⟨rfl,rfl⟩:=a;decide
  ·rw [if_neg a] at h ⊢
   by_cases b:1≤e∧e≤5∧s=e
   ·rw [if_pos b];obtain ⟨b1,b2,rfl⟩:=b;obtain rfl | rfl | rfl | rfl | rfl:s=1∨s=2∨s=3∨s=4∨s=5:=by omega
    all_goals decide
   ·rw [if_neg b] at h;exact absurd rfl h
theorem q9: ∀x ∈ Gw,Jt x.1 x.2.1=x.2.2∧x.2.2≠0:=by decide
theorem qU {s e s' e':Int}(h:ki s e=ki s' e') :s=s'∧e=e':=by
 unfold ki at h;simp only [Value.agg.injEq,Array.mk.injEq,List.cons.injEq,Value.int.injEq,true_and,and_true] at h;exact h
theorem qR:Keyed Zb 352:=Keyed.of_law (deep_law_laid (m:=2) Yi Zp (of_decide_eq_true Yi) Yi Yi)
theorem Zdb: ∃n,Tryz.prog.types.size=n+1:=⟨_,show Tryz.prog.types.size=(Tryz.prog.types.size - 1)+1 by kernel_rfl⟩
theorem qQ {s e:Int}(hs:(YT .i64 s).wf=true)(he:(YT .i64 e).wf=true) : ∃l,keyOf Zb 352 (ki s e)=some l:=by
 obtain ⟨n,hn⟩:=Zdb;exact bV Tryz.underlying352 Yg Yg Yi hn Yi Yi Yi rfl rfl rfl rfl hs he
theorem Ao: ∀p ∈ Gw.map lq,∃l,keyOf Zb 352 p.1=some l:=fun p hp=>by
 obtain ⟨x,hx,rfl⟩:=Yj.1 hp;have: ∀x ∈ Gw,(YT .i64 x.1).wf=true∧(YT .i64 x.2.1).wf=true:=by decide
 exact qQ (this x hx).1 (this x hx).2
theorem Zg8 (w:Zc) :(zeroValue 3).run Zb w= .ok (.int .i64 0) w:=by kernel_rfl
theorem look {w:Zc}{b:Nat}(h:Jk w b (Gw.map lq)){s e:Int}(hs:(YT .i64 s).wf=true)(he:(YT .i64 e).wf=true) :
  (JX 349 (.map (some b)) (ki s e) true).run Zb w= .ok (.tuple #[.int .i64 (Jt s e),.bool (Jt s e != 0)]) w:=by
 obtain ⟨l,hl⟩:=qQ hs he
 rcases h.lookup qR Tryz.underlying349 (Zg8 w) Ao hl with ⟨v,hv,hr⟩ | ⟨Kt,hr⟩
 ·obtain ⟨x,hx,hxe⟩:=Yj.1 hv;unfold lq at hxe;simp only [Prod.mk.injEq] at hxe;obtain ⟨h1,h2⟩:=qU hxe.1;obtain ⟨h3,h4⟩:=q9 x hx;rw [h1,h2] at h3;rw [hr,h3,←hxe.2];simp [h4]
 ·have h0:Jt s e=0:=by
   rcases Decidable.em (Jt s e=0) with h | h
   ·exact h
   ·exact absurd rfl (Kt _ (Yj.2 ⟨_,rN h,rfl⟩))
  rw [hr,h0];rfl
theorem aN {D:List Nat}(h: ∀x ∈ D,x < 10) : ∀p ∈ D.map BK,∃l,keyOf Zb 352 p.1=some l:=fun p hp=>by
 obtain ⟨x,hx,rfl⟩:=Yj.1 hp;refine Ao _ ?_;rw [←vD];exact Yj.2 ⟨x,QU.2 (h x hx),rfl⟩
theorem Zbq: ∀x,x < 10→ ∀j,j < 10→x≠j→(BK x).1≠(BK j).1:=fun x hx j hj Kt he=>by
 have key: ∀x,x < 10→ ∀j,j < 10→(Gw.getD x (0,0,0)).1=(Gw.getD j (0,0,0)).1→(Gw.getD x (0,0,0)).2.1=(Gw.getD j (0,0,0)).2.1→x=j:=by decide
 obtain ⟨h1,h2⟩:=qU he;exact Kt (key x hx j hj h1 h2)
theorem Gi {P:YZ}{ops:Array Oper}{Q:Exit→Act→Zc→Prop}{a:Act}{b j:Nat}{D:List Nat}{w:Zc}{K:Act→Zc→Prop}{i s:Nat}{o:Oper}(hP:P=Zb)
  (ho:ops[i]?=some o) (hg:o.guard=none) (hd:o.dst=none) (hop:o.op= .insert 349 (.tmp 1) (.tmp s) (.const (BK j).2)) (hm:a.eval (.tmp 1)= .map (some b)) (hx:a.eval (.tmp s)=(BK j).1)
  (hj:j < 10) (hD: ∀x ∈ D,x < 10∧x≠j) (hT:Jk w b (D.map BK)) (hK: ∀w',Jk w' b ((j::D).map BK)→w.grownBy w' (some b)→K a w') :wpOp P ops Q i K a w:=by
 subst hP;obtain ⟨l,hl⟩:=aN (D:= [j]) LW (BK j) ZO;exact YE ho hg (AY hT qR _ _ _ hop hd (BK j).1 (BK j).2 hm hx rfl Tryz.underlying349 (aN fun x hx=>(hD x hx).1) hl (fun p hp=>by
  obtain ⟨x,hx,rfl⟩:=Yj.1 hp;exact Zbq x (hD x hx).1 j hj (hD x hx).2) hK)
theorem np (w:Zc) :Calls Zb 281 #[] w fun e w'=> ∃b,e= .returned (.map (some b))∧Jk w' b (Gw.map lq)∧Zt w.heap.size w w':=by
 go_enter Tryz.func281,Tryz.ntmps281;go_wp2;refine MZ (fun _=>True) 21 11 [1,3,5,7,9,11,13,15,17,19] trivial ?_;simp only [qF,qH];show wpQuiet _ _ _ _ [_,_,_,_,_,_,_,_,_,_] _;refine GU (ki 1 1) rfl (fun w=>by kernel_rfl) ?_;refine GU (ki 2 2) rfl (fun w=>by kernel_rfl) ?_;refine GU (ki 3 3) rfl (fun w=>by kernel_rfl) ?_;refine GU (ki 4 4) rfl (fun w=>by kernel_rfl) ?_;refine GU (ki 5 5) rfl (fun w=>by kernel_rfl) ?_;refine GU (ki 2 6) rfl (fun w=>by kernel_rfl) ?_;refine GU (ki 2 7) rfl (fun w=>by kernel_rfl) ?_;refine GU (ki 3 7) rfl (fun w=>by kernel_rfl) ?_;refine GU (ki 4 7) rfl (fun w=>by kernel_rfl) ?_;refine GU (ki 5 7) rfl (fun w=>by kernel_rfl) ?_;refine wpQuiet_nil ?_;simp only [qB];refine Qt (i:=0) ?_;refine YE rfl rfl (TU 349 rfl ⟨trivial,?_⟩);simp only [qB];refine lP (ent:=BK) (at_:=fun j=>2*j+2) (w0:=w) (b:=w.heap.size) Yi ?_ (TF w.drew) ((Below.refl _ w).drew.alloc (Nat.le_refl _) _) (Nat.le_refl _) ?_
 ·intro j D w1 hj hD hT K hK;obtain rfl | rfl | rfl | rfl | rfl | rfl | rfl | rfl | rfl | rfl:j=0∨j=1∨j=2∨j=3∨j=4∨j=5∨j=6∨j=7∨j=8∨j=9:=by omega
  ·exact Gi (i:=2) (s:=2) rfl rfl rfl rfl rfl rfl rfl hj hD hT hK
  ·exact Gi (i:=4) (s:=3) rfl rfl rfl rfl rfl rfl rfl hj hD hT hK
  ·exact Gi (i:=6) (s:=4) rfl rfl rfl rfl rfl rfl rfl hj hD hT hK
  ·exact Gi (i:=8) (s:=5) rfl rfl rfl rfl rfl rfl rfl hj hD hT hK
  ·exact Gi (i:=10) (s:=6) rfl rfl rfl rfl rfl rfl rfl hj hD hT hK
  ·exact Gi (i:=12) (s:=7) rfl rfl rfl rfl rfl rfl rfl hj hD hT hK
  ·exact Gi (i:=14) (s:=8) rfl rfl rfl rfl rfl rfl rfl hj hD hT hK
  ·exact Gi (i:=16) (s:=9) rfl rfl rfl rfl rfl rfl rfl hj hD hT hK
  ·exact Gi (i:=18) (s:=10) rfl rfl rfl rfl rfl rfl rfl hj hD hT hK
  ·exact Gi (i:=20) (s:=11) rfl rfl rfl rfl rfl rfl rfl hj hD hT hK
 ·intro w1 hT hb;refine ⟨by kernel_rfl,?_⟩;simp only [qD];have HT:=Lib.hid hT;have HB:=Lib.hid hb;clear hT hb;go_wp2;refine NoPanic.normal ?_;go_wp2;go_ret;exact ⟨_,rfl,HT.out,HB.out⟩
end
section
open Go Go.RowKit Go.Maps
theorem cg (s e:Int)(w:Zc)(hs:(YT .i64 s).wf=true)(he:(YT .i64 e).wf=true) :
  Calls Zb 245 #[.int .i64 s,.int .i64 e] w fun x w'=>x= .returned (.tuple #[.int .i64 (Jt s e),.bool (Jt s e != 0)])∧Zt w.heap.size w w':=by
 go_enter Tryz.func245,Tryz.ntmps245;go_wp2_with (go_at_call 281; refine (np _).mono ?_; rintro x w' ⟨b,rfl,hT,hb⟩; have hl:=look hT hs he; unfold ki at hl; have HB:=Lib.hid hb; clear hT hb);go_ret2;exact ⟨rfl,HB.out⟩
end
end Go.Proofs.YtianiiijaopdpaaGreat
