/- Part 6 of 58: Tail WrapT Long. -/
import Derived.Test.YtianiiijaopdpaaGreatZu00
import Derived.Test.YtianiiijaopdpaaGreatZu03
import Derived.StillTailTactics
namespace Go.Proofs.YtianiiijaopdpaaGreat
set_option linter.unusedVariables false
set_option linter.unusedSimpArgs false
set_option maxRecDepth 100000
set_option maxHeartbeats 8000000
open _root_.Array renaming all_eq_true_iff_forall_mem → ZV, any_eq_true' → Gx, replicate → Qu
open _root_.Bool renaming and_eq_true → Y8
open _root_.Go.Code renaming region → Vt
open _root_.List renaming all_eq_true → QD, append_nil → XL, length_cons → Yu
open _root_.Nat renaming eq_of_beq_eq_true → VX, lt_or_ge → YA
open _root_.Option.some renaming inj → ZZ
open _root_.Go renaming Program → YZ, World → Zc, getD_replicate_false → Up, mem_ready → Vo, ready_mono → Uv, wpQuiet → ZB
open _root_.Go.Region renaming Mode → J4, binds → Xp, chainB → Va, lexTailB → VT, noSelect → Qe, ready → YB, seqB → YH, sinkB → KU
theorem Vq {G:Prop}(h:G:=by simp; omega) :G:=h
theorem ZaK {G:Prop} (h:G:=by
  simp only [Bool.and_eq_true] at this;exact ⟨this.1,by simpa using this.2⟩) :G:=h
section
open Go.RowKit
section
variable {P:YZ} {ops:Array Oper} {md:J4} {C:Zc→Prop}
def TL (P:YZ)(md:J4)(ops:Array Oper)(C:Zc→Prop)(n:Nat)(L:Array Bool→Act→Prop) :Nat→Array Bool→Act→Prop
 | 0,Zv,a=>L Zv a
 | f+1,Zv,a=>
  YB md ops Zv≠ []∧ ∀i ∈ YB md ops Zv,i < n∧qOp P ops C i (TL P md ops C n L f (Zv.setIfInBounds i true)) a
theorem F5 {n g:Nat}{L:Array Bool→Act→Prop}{Q':Exit→Act→Zc→Prop}(hL: ∀Zv a w,C w→L Zv a→wpAny P md ops Q' g Zv a w) :
  ∀(f:Nat) (Zv:Array Bool) (a:Act) (w:Zc),C w→TL P md ops C n L f Zv a→wpAny P md ops Q' (f+g) Zv a w
 | 0,Zv,a,w,hw,h=>by rw [Nat.zero_add]; exact hL _ _ _ hw h
 | f+1,Zv,a,w,hw,h=>by
  rw [show f+1+g=(f+g)+1 by omega];exact ⟨fun h0=>absurd h0 h.1,fun i hi=>wpOp_of_qOp hw (fun a' w' Jw h'=>F5 hL f _ a' w' Jw h') (h.2 i hi).2⟩
theorem IG {n i:Nat}{oi:Oper}{v:Value}{L:Array Bool→Act→Prop}(hi:ops[i]?=some oi)(Bv: ∀(j:Nat) (o:Oper) cs b,ops[j]?=some o→o.op≠ .select cs b)
  (hs:KU md ops n=true) (hc:Va md ops n=true) (hn:n < ops.size) (Ak:i < n)
  (EP: ∀Zv a,L Zv a→ ∀j ∈ YB md ops Zv,n≤j) :
  ∀(f:Nat) (Zv:Array Bool) (a:Act),HeadInv md ops n Zv→
   (∀j oj,ops[j]?=some oj→j≠i→Zv.getD j true=false→(∀e ∈ oj.after,Xp md e=true→e.on≠i)→oi.apart ops oj=true)→
   i ∈ YB md ops Zv→YieldsIn P ops C oi v a→
   TL P md ops C n L f (Zv.setIfInBounds i true) (a.put oi.dst v)→TL P md ops C n L (f+1) Zv a:=by
 intro f
 induction f with
 | zero=>
  intro Zv a inv _ hr hy H;have Re:=(Vo.1 hr).1;refine ⟨fun h=>(by rw [h] at hr; cases hr),fun j hj=>?_⟩;have Da:j < n:=by
   rcases YA j n with h | h
   ·exact h
   ·exact absurd hj (tail_waits hs hc hn inv _ i rfl Ak Re j h)
  refine ⟨Da,?_⟩
  by_cases Mj:j=i
  ·subst Mj; exact hy.qOp hi H
  ·have:=EP _ _ H j (Uv hj Mj);omega
 | succ f ih=>
  intro Zv a inv Mg hr hy H;have Re:=(Vo.1 hr).1;refine ⟨fun h=>(by rw [h] at hr; cases hr),fun j hj=>?_⟩;have Da:j < n:=by
   rcases YA j n with h | h
   ·exact h
   ·exact absurd hj (tail_waits hs hc hn inv _ i rfl Ak Re j h)
  refine ⟨Da,?_⟩
  by_cases Mj:j=i
  ·subst Mj; exact hy.qOp hi H
  ·have h1:=(H.2 j (Uv hj Mj)).2;obtain ⟨bu,oj,qm,Dr⟩:=Vo.1 hj;have Fw: ∀e ∈ oj.after,Xp md e=true→e.on≠i:=fun e he hb heq=>by
    have h1:=Dr e he hb;rw [heq,getD_both Re] at h1
    cases h1
   have h2:=qOp_put qm (Mg j oj qm Mj bu Fw) (fun cs b=>Bv i oi cs b hi) (fun cs b=>Bv j oj cs b qm) hy h1;have SD: ∀k ok,ops[k]?=some ok→k≠i→(Zv.setIfInBounds j true).getD k true=false→
     (∀e ∈ ok.after,Xp md e=true→e.on≠i)→oi.apart ops ok=true:=fun k ok hk we Re ql=>by
    refine Mg k ok hk we ?_ ql
    by_cases ER:j=k
    ·subst ER; exact bu
    ·rw [getD_set_ne true ER] at Re; exact Re
   refine qOp_mono (fun a' h3=>ih (Zv.setIfInBounds j true) a' (inv.set hj Da) SD (Uv hr (Ne.symm Mj)) h3.1 ?_) h2;rw [Array.setIfInBounds_comm _ _ Mj];exact h3.2
theorem TN {n g:Nat}{Lq:Act→Prop}(Bv:Qe ops=true)(hs:KU md ops n=true)(hc:Va md ops n=true)(hn:n < ops.size) :
  ∀(l:List Oper) (k:Nat) (Zv:Array Bool) (a:Act),(∀j,j < l.length→l[j]?=ops[k+j]?)→k+l.length=n→HeadInv md ops n Zv→
  Region.lexHead md ops g l.length k Zv=true→ZB P ops C Lq l a→
  TL P md ops C n (fun ju a'=>YH md ops g n ju=true∧Lq a') l.length Zv a
 | [],k,Zv,a,_,hk,_,hB,h=>by
  have:k=n:=by simpa using hk
  subst this;exact ⟨by simpa [Region.lexHead] using hB,h⟩
 | o::l,k,Zv,a,hl,hk,inv,hB,h=>by
  have h0:ops[k]?=some o:=by simpa using (hl 0 ZO).symm
  simp only [Yu,Region.lexHead,Y8] at hB;obtain ⟨⟨hr,hf⟩,hB'⟩:=hB;have ET:k < n:=by simp only [Yu] at hk; omega
  have qw:k ∈ YB md ops Zv:=by simpa using hr
  have Gm:qOp P ops C k (ZB P ops C Lq l) a:=by unfold qOp; simp only [h0]; exact h
  obtain ⟨v,hy,hK⟩:=yieldsIn_of_qOp h0 Gm;exact IG h0 (Region.noSelect_spec Bv) hs hc hn ET (fun ju a' hL=>seqB_ready hL.1) l.length Zv a inv (Region.free_spec h0 hf) qw hy
   (TN Bv hs hc hn l (k+1) _ _ (fun j hj=>by have:=hl (j+1) Vq; simpa [Nat.add_assoc,Nat.add_comm 1 j] using this) (by simp only [Yu] at hk; omega) (inv.set qw ET) hB' hK)
theorem Lz {id:Nat}{Q:Exit→Act→Zc→Prop}{a:Act}{w:Zc}{l:List Oper}(C:Zc→Prop)(n:Nat)(hm:P.follows .mixedOrders=true)(hB:VT .any l.toArray n=true)(hC:C w.drew)
  (h:ZB P l.toArray C (fun a'=> ∀w',C w'→wpList P l.toArray Q (l.drop n) a' w') (l.take n) a) :(Vt id l.toArray true).wp P Q a w:=by
 simp only [VT,Y8,decide_eq_true_eq] at hB;obtain ⟨⟨⟨⟨Bv,hn⟩,hs⟩,hc⟩,hlex⟩:=hB;have hn':n < l.length:=by simpa using hn
 have jn:(l.take n).length=n:=by simp; omega
 have hdl:(l.drop n).length=l.toArray.size - n:=by simp
 have inv0:HeadInv .any l.toArray n (Qu l.toArray.size false):=
  ⟨by simp,fun j oj _ hl=>(by rw [Up] at hl; cases hl),fun t _ ht=>getD_in (by simpa using ht) (Up _ _)⟩
 have H:=TN (md:= .any) (g:=l.toArray.size - n) Bv hs hc hn (l.take n) 0 _ a (fun j hj=>by
  have Pe:j < n:=by rw [jn] at hj; exact hj
  simp [Pe]) (by simpa using jn) inv0 (by rw [jn]; exact hlex) h
 refine wp_region_any hm ?_;have:=F5 (Q':=Q) (g:=l.toArray.size - n) (fun Zv a' w' Jw hL=>by
  have:=wpAny_of_seq (md:= .any) (Q':=Q) (l.drop n) n Zv a' w' (fun j=>by simp [List.getElem?_drop]) (by rw [hdl]; exact hL.1) (hL.2 _ Jw);rwa [hdl] at this) _ _ _ w.drew hC H
 rw [jn,show n+(l.toArray.size - n)=l.toArray.size by omega] at this;exact this
theorem LA {id:Nat}{Q:Exit→Act→Zc→Prop}{a:Act}{w:Zc}{l:List Oper}(n:Nat)(hm:P.follows .mixedOrders=true)(hB:VT .any l.toArray n=true)
  (h:ZB P l.toArray (fun w'=> ∃n,w'=w.drewN n) (fun a'=> ∀w',(∃n,w'=w.drewN n)→wpList P l.toArray Q (l.drop n) a' w') (l.take n) a) :(Vt id l.toArray true).wp P Q a w:=
 Lz (fun w'=> ∃n,w'=w.drewN n) n hm hB ⟨1,rfl⟩ h
end
end
section
open Go Go.RowKit
theorem Bj {P:YZ}{id:Nat}{Q:Exit→Act→Zc→Prop}{a:Act}{w:Zc}{l:List Oper}(n:Nat)
  (h:ZB P l.toArray (fun w'=> ∃n,w'=w.drewN n) (fun a'=> ∀w',(∃n,w'=w.drewN n)→wpList P l.toArray Q (l.drop n) a' w') (l.take n) a) (hm:P.follows .mixedOrders=true:=by kernel_rfl) (hB:VT .any l.toArray n=true:=by kernel_rfl) :(Vt id l.toArray true).wp P Q a w:=
 LA n hm hB h
end
section
def db (base i:Nat)(o:Oper) :Bool:=
 (match o.dst with | some d=>Nat.beq d (base+i) | Option.none=>false)&&(match o.guard with | Option.none=>true | some _=>false)&&(match o.op with | .select .. =>false | _=>true)&&
 (o.after.toList.all fun e=>Xp .any e&&Nat.blt e.on i)&&
 (o.op.operands.toList.all fun | .tmp t=>Nat.blt t base||(o.after.toList.any fun e=>Nat.beq (base+e.on) t) | _=>true)
def dm (n:Nat)(o:Oper) :Bool:=
 (match o.op with | .select .. =>false | _=>true)&&(o.after.toList.all fun e=>Xp .any e&&Nat.blt e.on n)&&
 ((List.range n).all fun i=>o.after.toList.any fun e=>Nat.beq e.on i)
def MT (base:Nat) :Nat→List Oper→Bool
 | _,[]=>false
 | i,[o]=>dm i o
 | i,o::o'::rest=>db base i o&&MT base (i+1) (o'::rest)
theorem PE {base:Nat} : ∀ {l:List Oper} {s:Nat},MT base s l=true→
  ∃n,l.length=n+1∧(∀i,i < n→ ∃o,l[i]?=some o∧db base (s+i) o=true)∧ ∃o,l[n]?=some o∧dm (s+n) o=true
 | [],_,h=>by simp [MT] at h
 | [o],s,h=>⟨0,rfl,fun i hi=>by omega,o,rfl,by simpa [MT] using h⟩
 | o::o'::rest,s,h=>by
  simp only [MT,Y8] at h;obtain ⟨n,hn,hh,t,ht,htb⟩:=PE h.2;refine ⟨n+1,by simpa using hn,fun i hi=>?_,t,by simpa using ht,by rw [show s+(n+1)=s+1+n by omega]; exact htb⟩
  rcases i with _ | i
  ·exact ⟨o,rfl,h.1⟩
  ·obtain ⟨x,hx,hxb⟩:=hh i Zp;exact ⟨x,by simpa using hx,by rw [show s+(i+1)=s+1+i by omega]; exact hxb⟩
theorem FG {base i:Nat}{o:Oper}(h:db base i o=true) :
  o.dst=some (base+i)∧o.guard=Option.none∧(match o.op with | .select .. =>false | _=>true)=true∧(∀e ∈ o.after,Xp .any e=true∧e.on < i)∧
   ∀t:Nat,Operand.tmp t ∈ o.op.operands→t < base∨ ∃e ∈ o.after,base+e.on=t:=by
 simp only [db,Y8] at h;obtain ⟨⟨⟨⟨h1,h2⟩,h3⟩,h4⟩,h5⟩:=h;refine ⟨?_,?_,h3,fun e he=>?_,fun t ht=>?_⟩
 ·cases hd:o.dst with
  | none=>rw [hd] at h1; cases h1
  | some d=>rw [hd] at h1; rw [VX h1]
 ·cases hd:o.guard with
  | none=>rfl
  | some d=>rw [hd] at h2; cases h2
 ·have:=QD.1 h4 e (by simpa using he);exact ZaK
 ·have:=QD.1 h5 _ (by simpa using ht);simp only [Bool.or_eq_true] at this
  rcases this with h | h
  ·exact .inl IU
  ·obtain ⟨e,he,hb⟩:=List.any_eq_true.1 h;exact .inr ⟨e,by simpa using he,VX hb⟩
theorem FI {n:Nat}{o:Oper}(h:dm n o=true) :
  (match o.op with | .select .. =>false | _=>true)=true∧(∀e ∈ o.after,Xp .any e=true∧e.on < n)∧ ∀i,i < n→ ∃e ∈ o.after,e.on=i:=by
 simp only [dm,Y8] at h;obtain ⟨⟨h1,h2⟩,h3⟩:=h;refine ⟨h1,fun e he=>?_,fun i hi=>?_⟩
 ·have:=QD.1 h2 e (by simpa using he);exact ZaK
 ·have:=QD.1 h3 i (by simpa using hi);obtain ⟨e,he,hb⟩:=List.any_eq_true.1 this;exact ⟨e,by simpa using he,VX hb⟩
def GZ (m k:Nat)(Zv:Array Bool) :Prop:=Zv.size=m∧ ∀j,j < m→Zv[j]?=some (decide (j < k))
theorem GZ.getD {m k:Nat}{Zv:Array Bool}(h:GZ m k Zv){j:Nat}(hj:j < m)(b:Bool) :Zv.getD j b=decide (j < k):=by
 rw [Array.getD_eq_getD_getElem?,h.2 j hj]; rfl
theorem GZ.set {m k:Nat}{Zv:Array Bool}(h:GZ m k Zv)(hk:k < m) :GZ m (k+1) (Zv.setIfInBounds k true):=by
 refine ⟨by simpa using h.1,fun j hj=>?_⟩;rw [Array.getElem?_setIfInBounds]
 by_cases e:k=j
 ·subst e; simp [h.1,hk]
 ·rw [if_neg e,h.2 j hj]
  congr 1
  by_cases h1:j < k
  ·simp [h1,show j < k+1 by omega]
  ·simp [h1,show ¬j < k+1 by omega]
theorem GZ.start (m:Nat) :GZ m 0 (Qu m false):=⟨by simp,fun j hj=>by simp [hj]⟩
def Hg (l:List Oper)(base n:Nat) :Prop:=l.length=n+1∧(∀i,i < n→ ∃o,l[i]?=some o∧db base i o=true)∧ ∃o,l[n]?=some o∧dm n o=true
section
variable {l:List Oper} {n base:Nat}
theorem fB (hA:Hg l base n){k:Nat}{Zv:Array Bool}(hL:GZ (n+1) k Zv)(hk:k < n) :k ∈ YB .any l.toArray Zv:=by
 obtain ⟨_,hh,_⟩:=hA;obtain ⟨o,ho,hb⟩:=hh k hk;obtain ⟨_,_,_,he,_⟩:=FG hb;refine Vo.2 ⟨by rw [hL.getD Zp]; simp,o,by simpa using ho,fun e hm _=>?_⟩;have:=(he e hm).2;rw [hL.getD Zp];simpa using this
theorem l7 (hA:Hg l base n){k:Nat}{Zv:Array Bool}(hL:GZ (n+1) k Zv)(hk:k < n) :Region.free .any l.toArray Zv k=true:=by
 obtain ⟨hlen,hh,ht⟩:=hA;obtain ⟨o,ho,hb⟩:=hh k hk;obtain ⟨hd,hg,_,he,hop⟩:=FG hb;have ho':l.toArray[k]?=some o:=by simpa using ho
 unfold Region.free;rw [ho'];simp only [QD,List.mem_range];intro j hj;have Pe:j < n+1:=by simpa [hlen] using hj
 by_cases ER:j=k
 ·simp [ER]
 ·rcases YA j k with h | h
  ·rw [hL.getD Pe]; simp [h]
  ·by_cases Da:j=n
   ·obtain ⟨t,htn,htb⟩:=ht;obtain ⟨_,h2,h3⟩:=FI htb;obtain ⟨e,nL,hon⟩:=h3 k hk;have:l.toArray[j]?=some t:=by rw [Da]; simpa using htn
    rw [this];have ha:(t.after.any fun e=>Xp .any e&&e.on==k)=true:=Gx.2 ⟨e,nL,by simp [(h2 e nL).1,hon]⟩;simp [ha]
   ·obtain ⟨x,hx,hxb⟩:=hh j Zp;obtain ⟨xd,xg,_,xe,xop⟩:=FG hxb;have:l.toArray[j]?=some x:=by simpa using hx
    rw [this]
    by_cases hw: ∃e ∈ x.after,e.on=k
    ·obtain ⟨e,nL,hon⟩:=hw;have ha:(x.after.any fun e=>Xp .any e&&e.on==k)=true:=Gx.2 ⟨e,nL,by simp [(xe e nL).1,hon]⟩;simp [ha]
    ·have h1:base+k ∉ x.looksAt l.toArray:=by
      intro hc;simp only [Oper.looksAt,xg,XL,List.mem_filterMap] at hc;obtain ⟨p,hp,e9⟩:=hc
      split at e9
      ·rename_i t
       obtain rfl:=ZZ e9
       rcases xop _ (by simpa using hp) with h | ⟨e,nL,hon⟩
       ·omega
       ·exact hw ⟨e,nL,by omega⟩
      ·cases e9
     have h2:base+j ∉ o.looksAt l.toArray:=by
      intro hc;simp only [Oper.looksAt,hg,XL,List.mem_filterMap] at hc;obtain ⟨p,hp,e9⟩:=hc
      split at e9
      ·rename_i t
       obtain rfl:=ZZ e9
       rcases hop _ (by simpa using hp) with h | ⟨e,nL,hon⟩
       ·omega
       ·have:=(he e nL).2; omega
      ·cases e9
     have ha:o.apart l.toArray x=true:=by
      unfold Oper.apart;rw [hd,xd];simp [h1,h2];omega
     simp [ha]
theorem PR (hA:Hg l base n){Zv:Array Bool}(hL:GZ (n+1) (n+1) Zv) :YB .any l.toArray Zv=[]:=by
 obtain ⟨hlen,_,_⟩:=hA;unfold YB;rw [List.filter_eq_nil_iff];intro i hi;have Mh:i < n+1:=by simpa [hlen] using hi
 rw [hL.getD Mh];simp [Mh]
theorem PS (hA:Hg l base n){Zv:Array Bool}(hL:GZ (n+1) n Zv) :YB .any l.toArray Zv=[n]:=by
 obtain ⟨hlen,_,ht⟩:=hA;obtain ⟨t,htn,htb⟩:=ht;obtain ⟨_,h2,_⟩:=FI htb;have ht':l.toArray[n]?=some t:=by simpa using htn
 unfold YB;rw [show l.toArray.size=n+1 by simpa using hlen,List.range_succ,List.filter_append];have hE:((List.range n).filter fun i=>!Zv.getD i true&&((l.toArray[i]?).map (·.after.all fun e=>!Xp .any e||Zv.getD e.on false)).getD false)=[]:=by
  rw [List.filter_eq_nil_iff];intro i hi;have Mh:i < n:=by simpa using hi
  rw [hL.getD (show i < n+1 by omega)];simp [Mh]
 have hB:(!Zv.getD n true&&((l.toArray[n]?).map (·.after.all fun e=>!Xp .any e||Zv.getD e.on false)).getD false)=true:=by
  rw [hL.getD (show n < n+1 by omega),ht'];have:(t.after.all fun e=>!Xp .any e||Zv.getD e.on false)=true:=ZV.2 fun e he=>by
   have:=(h2 e he).2;rw [hL.getD (show e.on < n+1 by omega)];simp [this]
  simp only [Option.map_some,Option.getD_some,this];simp
 rw [hE,List.filter_cons_of_pos (p:=fun i=>!Zv.getD i true&&((l.toArray[i]?).map (·.after.all fun e=>!Xp .any e||Zv.getD e.on false)).getD false) hB];rfl
theorem q5 (hA:Hg l base n){Zv:Array Bool}(hL:GZ (n+1) n Zv) :YH .any l.toArray 1 n Zv=true:=by
 simp only [YH,Y8,decide_eq_true_eq];exact ⟨PS hA hL,by rw [PR hA (hL.set Zp)]; rfl⟩
theorem Ar (hA:Hg l base n) : ∀(f k:Nat) (Zv:Array Bool),k+f=n→GZ (n+1) k Zv→Region.lexHead .any l.toArray 1 f k Zv=true
 | 0,k,Zv,hk,hL=>by
  obtain rfl:k=n:=by omega
  exact q5 hA hL
 | f+1,k,Zv,hk,hL=>by
  simp only [Region.lexHead,Y8];exact ⟨⟨by simpa using fB hA hL Zp,l7 hA hL Zp⟩,Ar hA f (k+1) _ Zp (hL.set Zp)⟩
theorem Wy (hA:Hg l base n) :Qe l.toArray=true:=by
 obtain ⟨hlen,hh,ht⟩:=hA;unfold Qe;refine ZV.2 fun o ho=>?_
 obtain ⟨i,hi⟩:=List.getElem?_of_mem (by simpa using ho:o ∈ l);have EB:i < n+1:=by
  have:=(List.getElem?_eq_some_iff.1 hi).1;omega
 rcases YA i n with h | h
 ·obtain ⟨x,hx,hb⟩:=hh i h;obtain rfl:x=o:=ZZ (hx.symm.trans hi);exact (FG hb).2.2.1
 ·obtain ⟨x,hx,hb⟩:=ht;obtain rfl:i=n:=by omega
  obtain rfl:x=o:=ZZ (hx.symm.trans hi);exact (FI hb).1
theorem l8 (hA:Hg l base n) :KU .any l.toArray n=true:=by
 obtain ⟨_,_,ht⟩:=hA;obtain ⟨t,htn,htb⟩:=ht;obtain ⟨_,h2,h3⟩:=FI htb;have ht':l.toArray[n]?=some t:=by simpa using htn
 refine QD.2 fun i hi=>List.any_eq_true.2 ⟨n,by simp,?_⟩
 have Mh:i < n:=by simpa using hi
 obtain ⟨e,nL,hon⟩:=h3 i Mh;have ha:(t.after.any fun e=>Xp .any e&&e.on==i)=true:=Gx.2 ⟨e,nL,by simp [(h2 e nL).1,hon]⟩;simp only [Y8,decide_eq_true_eq];exact ⟨Mh,by unfold Region.waitsFor; rw [ht']; exact ha⟩
end
theorem CV {l:List Oper}{n base:Nat}(hlen:l.length=n+1)(h:MT base 0 l=true) :VT .any l.toArray n=true:=by
 obtain ⟨m,hm,hh,ht⟩:=PE h;obtain rfl:m=n:=by omega
 simp only [Nat.zero_add] at hh ht;simp only [VT,Y8,decide_eq_true_eq];refine ⟨⟨⟨⟨Wy (base:=base) ⟨hm,hh,ht⟩,by simp [hm]⟩,l8 (base:=base) ⟨hm,hh,ht⟩⟩,?_⟩,?_⟩
 ·refine QD.2 fun t h=>?_
  have:t < m+1:=by simpa [hm] using h
  simp [show t≤m by omega]
 ·have hs:l.toArray.size=m+1:=by simpa using hm
  rw [hs,show m+1 - m=1 by omega];exact Ar (base:=base) ⟨hm,hh,ht⟩ m 0 _ Zp (GZ.start _)
theorem TV {P:YZ}{id:Nat}{Q:Exit→Act→Zc→Prop}{a:Act}{w:Zc}{l:List Oper}{o:Oper}(n base:Nat)(hm:P.follows .mixedOrders=true)(hlen:l.length=n+1)(hB:MT base 0 l=true)
  (hD:l.drop n=[o]) (h: ∀(ops:Array Oper) (W:Zc),W=w.drew→wpStill P ops W (fun a'=>wpList P ops Q [o] a' W) (l.take n) a) :(Vt id l.toArray true).wp P Q a w:=
 wp_region_still_tail n hm (CV hlen hB) (by rw [hD]; exact h _ _ rfl)
end
end Go.Proofs.YtianiiijaopdpaaGreat
