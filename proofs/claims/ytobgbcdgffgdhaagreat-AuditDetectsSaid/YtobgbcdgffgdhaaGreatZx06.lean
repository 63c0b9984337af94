/- Part 6 of 34: L04AllReq Long. -/
import Derived.Test.YtobgbcdgffgdhaaGreatZx00
import Derived.Test.YtobgbcdgffgdhaaGreatZx05
namespace Go.Proofs.YtobgbcdgffgdhaaGreat
set_option linter.unusedVariables false
set_option linter.unusedSimpArgs false
set_option maxRecDepth 100000
set_option maxHeartbeats 8000000
open _root_.Array renaming all_eq_true_iff_forall_mem -> ZQ, any_eq_true' -> GY
open _root_.Bool renaming and_eq_true -> YL
open _root_.List renaming all_eq_true -> YP, append_nil -> X8
open _root_.Nat renaming eq_of_beq_eq_true -> Ur
open _root_.Option.some renaming inj -> ZP
open _root_.Go.Region renaming binds -> Xp, lexTailB -> Uk, noSelect -> Qp, ready -> YA, seqB -> JT
open _root_.Go.Value renaming cells -> Yr
open Go.Proofs.Tryz
theorem ZfI {G:Prop} (h:G:=by
  simp only [Bool.and_eq_true] at this;exact ⟨this.1,by simpa using this.2⟩) :G:=h
section
open Go.RowKit
theorem mf (b size c:Nat)(go:Option Nat)(F:List Value)(w:World)(hi:YG 154 119 2 w b go size c F) :
  Calls Tryz.prog 48 #[.pointer (some ⟨b,0,none⟩)] w fun e w'=>e= .returned (.slice (some ⟨w.heap.size,0,none⟩) c c)/\Zu w' w.heap.size 119 F.toArray/\Below w.heap.size w w':=by
 obtain ⟨c0,c3⟩:=hi.cells;obtain ⟨Hk,gd,hs⟩:=hi.size_le;have fV: ∀i,go=some i->i < w.heap.size:=fun i e=>hi.lt i (.inr e.symm)
 have SH:=hi.1;have HFl:=Za SH;have HI:=Za hi;clear hi SH;have hT:(Tryz.prog.info? 119).map (fun i=>(i.zero,i.size,i.bytes))=some (some (.agg #[.int .i64 0,.int .u64 0]),2,16):=ZC;obtain ⟨i0,Oi,GO,GF,EO⟩:=info_parts hT;have Ew:=fun W=>Jc (P:=Tryz.prog) 26 119 i0 _ underlying26 Oi GO .i64 .i64 c c (Nat.le_refl _) Sj Zf W
 rw [GF] at Ew;have Fa:(madeCells (Yr (.agg #[.int .i64 0,.int .u64 0])) (c*2)).toList.length=c*2:=aQ
 have vq:(madeCells (Yr (.agg #[.int .i64 0,.int .u64 0])) (c*2))=((madeCells (Yr (.agg #[.int .i64 0,.int .u64 0])) (c*2)).toList).toArray:=ZE;generalize madeCells (Yr (.agg #[.int .i64 0,.int .u64 0])) (c*2)=D0 at*;generalize D0.toList=D at*;subst vq;have Wj:=Za Fa;clear hT Oi GO GF EO i0 Fa;go_enter func48,ntmps48;go_wp2_with fail;refine (PR b _ size c c c go D F _ (YG.kept (S:=fun _=>False) HI.o ((ZA.refl _ w).alloc _) (fun _ _ h=>h)) (Zu.new _ _ _) Wj.o Zf Zf Zf (fun e=>by have:=fV _ e; simp at this)).mono ?_;rintro e w1 ⟨rfl,FN,fQ,IU⟩;have WW:Zu w1 w.heap.size 119 F.toArray:=yH
 exact Zi1
end
section
def iP (base i:Nat)(o:Oper) :Bool:=
 (match o.dst with | some d=>Nat.beq d (base+i) | Option.none=>false)&&(match o.guard with | Option.none=>true | some _=>false)&&(match o.op with | .select .. =>false | _=>true)&&
 (o.after.toList.all fun e=>Xp .any e&&Nat.blt e.on i)&&
 (o.op.operands.toList.all fun | .tmp t=>Nat.blt t base||(o.after.toList.any fun e=>Nat.beq (base+e.on) t) | _=>true)
def iX (n:Nat)(o:Oper) :Bool:=
 (match o.op with | .select .. =>false | _=>true)&&(o.after.toList.all fun e=>Xp .any e&&Nat.blt e.on n)&&
 ((List.range n).all fun i=>o.after.toList.any fun e=>Nat.beq e.on i)
def OD (base:Nat) :Nat->List Oper->Bool
 | _,[]=>false
 | i,[o]=>iX i o
 | i,o::o'::rest=>iP base i o&&OD base (i+1) (o'::rest)
theorem Te {base:Nat} : ∀ {l:List Oper} {s:Nat},OD base s l=true->
  ∃n,l.length=n+1/\(∀i,i < n-> ∃o,l[i]?=some o/\iP base (s+i) o=true)/\ ∃o,l[n]?=some o/\iX (s+n) o=true
 | [],_,h=>by simp [OD] at h
 | [o],s,h=>⟨0,rfl,fun i hi=>by omega,o,rfl,by simpa [OD] using h⟩
 | o::o'::rest,s,h=>by
  simp only [OD,YL] at h;obtain ⟨n,hn,hh,t,ht,htb⟩:=Te h.2;refine ⟨n+1,by simpa using hn,fun i hi=>?_,t,by simpa using ht,by rw [show s+(n+1)=s+1+n by omega]; exact htb⟩
  rcases i with _ | i
  ·exact ⟨o,rfl,h.1⟩
  ·obtain ⟨x,hx,hxb⟩:=hh i Zf;exact ⟨x,by simpa using hx,by rw [show s+(i+1)=s+1+i by omega]; exact hxb⟩
theorem Li {base i:Nat}{o:Oper}(h:iP base i o=true) :
  o.dst=some (base+i)/\o.guard=Option.none/\(match o.op with | .select .. =>false | _=>true)=true/\(∀e ∈ o.after,Xp .any e=true/\e.on < i)/\
   ∀t:Nat,Operand.tmp t ∈ o.op.operands->t < base\/ ∃e ∈ o.after,base+e.on=t:=by
 simp only [iP,YL] at h;obtain ⟨⟨⟨⟨h1,h2⟩,h3⟩,h4⟩,h5⟩:=h;refine ⟨?_,?_,h3,fun e he=>?_,fun t ht=>?_⟩
 ·cases hd:o.dst with
  | none=>rw [hd] at h1; cases h1
  | some d=>rw [hd] at h1; rw [Ur h1]
 ·cases hd:o.guard with
  | none=>rfl
  | some d=>rw [hd] at h2; cases h2
 ·have:=YP.1 h4 e (by simpa using he);exact ZfI
 ·have:=YP.1 h5 _ (by simpa using ht);simp only [Bool.or_eq_true] at this
  rcases this with h | h
  ·exact .inl KM
  ·obtain ⟨e,he,hb⟩:=List.any_eq_true.1 h;exact .inr ⟨e,by simpa using he,Ur hb⟩
theorem Ll {n:Nat}{o:Oper}(h:iX n o=true) :
  (match o.op with | .select .. =>false | _=>true)=true/\(∀e ∈ o.after,Xp .any e=true/\e.on < n)/\ ∀i,i < n-> ∃e ∈ o.after,e.on=i:=by
 simp only [iX,YL] at h;obtain ⟨⟨h1,h2⟩,h3⟩:=h;refine ⟨h1,fun e he=>?_,fun i hi=>?_⟩
 ·have:=YP.1 h2 e (by simpa using he);exact ZfI
 ·have:=YP.1 h3 i (by simpa using hi);obtain ⟨e,he,hb⟩:=List.any_eq_true.1 this;exact ⟨e,by simpa using he,Ur hb⟩
def BG (m k:Nat)(Zt:Array Bool) :Prop:=Zt.size=m/\ ∀j,j < m->Zt[j]?=some (decide (j < k))
theorem BG.getD {m k:Nat}{Zt:Array Bool}(h:BG m k Zt){j:Nat}(hj:j < m)(b:Bool) :Zt.getD j b=decide (j < k):=by
 rw [Array.getD_eq_getD_getElem?,h.2 j hj]; rfl
theorem BG.set {m k:Nat}{Zt:Array Bool}(h:BG m k Zt)(hk:k < m) :BG m (k+1) (Zt.setIfInBounds k true):=by
 refine ⟨by simpa using h.1,fun j hj=>?_⟩;rw [Array.getElem?_setIfInBounds]
 by_cases e:k=j
 ·subst e; simp [h.1,hk]
 ·rw [if_neg e,h.2 j hj]
  congr 1
  by_cases h1:j < k
  ·simp [h1,show j < k+1 by omega]
  ·simp [h1,show ¬j < k+1 by omega]
theorem BG.start (m:Nat) :BG m 0 (Array.replicate m false):=⟨by simp,fun j hj=>by simp [hj]⟩
def Mh (l:List Oper)(base n:Nat) :Prop:=l.length=n+1/\(∀i,i < n-> ∃o,l[i]?=some o/\iP base i o=true)/\ ∃o,l[n]?=some o/\iX n o=true
section
variable {l:List Oper} {n base:Nat}
theorem lh (hA:Mh l base n){k:Nat}{Zt:Array Bool}(hL:BG (n+1) k Zt)(hk:k < n) :k ∈ YA .any l.toArray Zt:=by
 obtain ⟨_,hh,_⟩:=hA;obtain ⟨o,ho,hb⟩:=hh k hk;obtain ⟨_,_,_,he,_⟩:=Li hb;refine mem_ready.2 ⟨by rw [hL.getD Zf]; simp,o,by simpa using ho,fun e hm _=>?_⟩;have:=(he e hm).2;rw [hL.getD Zf];exact DI
theorem ru (hA:Mh l base n){k:Nat}{Zt:Array Bool}(hL:BG (n+1) k Zt)(hk:k < n) :Region.free .any l.toArray Zt k=true:=by
 obtain ⟨hlen,hh,ht⟩:=hA;obtain ⟨o,ho,hb⟩:=hh k hk;obtain ⟨hd,hg,_,he,hop⟩:=Li hb;have ho':l.toArray[k]?=some o:=by simpa using ho
 unfold Region.free;rw [ho'];simp only [YP,List.mem_range];intro j hj;have SI:j < n+1:=by simpa [hlen] using hj
 by_cases FY:j=k
 ·simp [FY]
 ·rcases Nat.lt_or_ge j k with h | h
  ·rw [hL.getD SI]; simp [h]
  ·by_cases Ei:j=n
   ·obtain ⟨t,htn,htb⟩:=ht;obtain ⟨_,h2,h3⟩:=Ll htb;obtain ⟨e,tq,hon⟩:=h3 k hk;have:l.toArray[j]?=some t:=by rw [Ei]; simpa using htn
    rw [this];have ha:(t.after.any fun e=>Xp .any e&&e.on==k)=true:=GY.2 ⟨e,tq,by simp [(h2 e tq).1,hon]⟩;simp [ha]
   ·obtain ⟨x,hx,hxb⟩:=hh j Zf;obtain ⟨xd,xg,_,xe,xop⟩:=Li hxb;have:l.toArray[j]?=some x:=by simpa using hx
    rw [this]
    by_cases hw: ∃e ∈ x.after,e.on=k
    ·obtain ⟨e,tq,hon⟩:=hw;have ha:(x.after.any fun e=>Xp .any e&&e.on==k)=true:=GY.2 ⟨e,tq,by simp [(xe e tq).1,hon]⟩;simp [ha]
    ·have h1:base+k ∉ x.looksAt l.toArray:=by
      intro hc;simp only [Oper.looksAt,xg,X8,List.mem_filterMap] at hc;obtain ⟨p,hp,Ib⟩:=hc
      split at Ib
      ·rename_i t
       obtain rfl:=ZP Ib
       rcases xop _ (by simpa using hp) with h | ⟨e,tq,hon⟩
       ·omega
       ·exact hw ⟨e,tq,by omega⟩
      ·cases Ib
     have h2:base+j ∉ o.looksAt l.toArray:=by
      intro hc;simp only [Oper.looksAt,hg,X8,List.mem_filterMap] at hc;obtain ⟨p,hp,Ib⟩:=hc
      split at Ib
      ·rename_i t
       obtain rfl:=ZP Ib
       rcases hop _ (by simpa using hp) with h | ⟨e,tq,hon⟩
       ·omega
       ·have:=(he e tq).2; omega
      ·cases Ib
     have ha:o.apart l.toArray x=true:=by
      unfold Oper.apart;rw [hd,xd];simp [h1,h2];omega
     simp [ha]
theorem TA (hA:Mh l base n){Zt:Array Bool}(hL:BG (n+1) (n+1) Zt) :YA .any l.toArray Zt=[]:=by
 obtain ⟨hlen,_,_⟩:=hA;unfold YA;rw [List.filter_eq_nil_iff];intro i hi;have NV:i < n+1:=by simpa [hlen] using hi
 rw [hL.getD NV];simp [NV]
theorem TB (hA:Mh l base n){Zt:Array Bool}(hL:BG (n+1) n Zt) :YA .any l.toArray Zt=[n]:=by
 obtain ⟨hlen,_,ht⟩:=hA;obtain ⟨t,htn,htb⟩:=ht;obtain ⟨_,h2,_⟩:=Ll htb;have ht':l.toArray[n]?=some t:=by simpa using htn
 unfold YA;rw [show l.toArray.size=n+1 by simpa using hlen,List.range_succ,List.filter_append];have hE:((List.range n).filter fun i=>!Zt.getD i true&&((l.toArray[i]?).map (·.after.all fun e=>!Xp .any e||Zt.getD e.on false)).getD false)=[]:=by
  rw [List.filter_eq_nil_iff];intro i hi;have NV:i < n:=by simpa using hi
  rw [hL.getD (show i < n+1 by omega)];simp [NV]
 have hB:(!Zt.getD n true&&((l.toArray[n]?).map (·.after.all fun e=>!Xp .any e||Zt.getD e.on false)).getD false)=true:=by
  rw [hL.getD (show n < n+1 by omega),ht'];have:(t.after.all fun e=>!Xp .any e||Zt.getD e.on false)=true:=ZQ.2 fun e he=>by
   have:=(h2 e he).2;rw [hL.getD (show e.on < n+1 by omega)];simp [this]
  simp only [Option.map_some,Option.getD_some,this];simp
 rw [hE,List.filter_cons_of_pos (p:=fun i=>!Zt.getD i true&&((l.toArray[i]?).map (·.after.all fun e=>!Xp .any e||Zt.getD e.on false)).getD false) hB];rfl
theorem wQ (hA:Mh l base n){Zt:Array Bool}(hL:BG (n+1) n Zt) :JT .any l.toArray 1 n Zt=true:=by
 simp only [JT,YL,decide_eq_true_eq];exact ⟨TB hA hL,by rw [TA hA (hL.set Zf)]; rfl⟩
theorem I4 (hA:Mh l base n) : ∀(f k:Nat) (Zt:Array Bool),k+f=n->BG (n+1) k Zt->Region.lexHead .any l.toArray 1 f k Zt=true
 | 0,k,Zt,hk,hL=>by
  obtain rfl:k=n:=Zf;exact wQ hA hL
 | f+1,k,Zt,hk,hL=>by
  simp only [Region.lexHead,YL];exact ⟨⟨by simpa using lh hA hL Zf,ru hA hL Zf⟩,I4 hA f (k+1) _ Zf (hL.set Zf)⟩
theorem If (hA:Mh l base n) :Qp l.toArray=true:=by
 obtain ⟨hlen,hh,ht⟩:=hA;unfold Qp;refine ZQ.2 fun o ho=>?_
 obtain ⟨i,hi⟩:=List.getElem?_of_mem (by simpa using ho:o ∈ l);have FX:i < n+1:=by
  have:=(List.getElem?_eq_some_iff.1 hi).1;omega
 rcases Nat.lt_or_ge i n with h | h
 ·obtain ⟨x,hx,hb⟩:=hh i h;obtain rfl:x=o:=ZP (hx.symm.trans hi);exact (Li hb).2.2.1
 ·obtain ⟨x,hx,hb⟩:=ht;obtain rfl:i=n:=Zf;obtain rfl:x=o:=ZP (hx.symm.trans hi);exact (Ll hb).1
theorem rv (hA:Mh l base n) :Region.sinkB .any l.toArray n=true:=by
 obtain ⟨_,_,ht⟩:=hA;obtain ⟨t,htn,htb⟩:=ht;obtain ⟨_,h2,h3⟩:=Ll htb;have ht':l.toArray[n]?=some t:=by simpa using htn
 refine YP.2 fun i hi=>List.any_eq_true.2 ⟨n,by simp,?_⟩
 have NV:i < n:=by simpa using hi
 obtain ⟨e,tq,hon⟩:=h3 i NV;have ha:(t.after.any fun e=>Xp .any e&&e.on==i)=true:=GY.2 ⟨e,tq,by simp [(h2 e tq).1,hon]⟩;simp only [YL,decide_eq_true_eq];exact ⟨NV,by unfold Region.waitsFor; rw [ht']; exact ha⟩
end
theorem ck {l:List Oper}{n base:Nat}(hlen:l.length=n+1)(h:OD base 0 l=true) :Uk .any l.toArray n=true:=by
 obtain ⟨m,hm,hh,ht⟩:=Te h;obtain rfl:m=n:=Zf;simp only [Nat.zero_add] at hh ht;simp only [Uk,YL,decide_eq_true_eq];refine ⟨⟨⟨⟨If (base:=base) ⟨hm,hh,ht⟩,by simp [hm]⟩,rv (base:=base) ⟨hm,hh,ht⟩⟩,?_⟩,?_⟩
 ·refine YP.2 fun t h=>?_
  have:t < m+1:=by simpa [hm] using h
  simp [show t<=m by omega]
 ·have hs:l.toArray.size=m+1:=by simpa using hm
  rw [hs,show m+1 - m=1 by omega];exact I4 (base:=base) ⟨hm,hh,ht⟩ m 0 _ Zf (BG.start _)
theorem CA {P:Program}{id:Nat}{Q:Exit->Act->World->Prop}{a:Act}{w:World}{l:List Oper}{o:Oper}(n base:Nat)(hm:P.follows .mixedOrders=true)(hlen:l.length=n+1)(hB:OD base 0 l=true)
  (hD:l.drop n=[o]) (h: ∀(ops:Array Oper) (W:World),W=w.drew->wpStill P ops W (fun a'=>wpList P ops Q [o] a' W) (l.take n) a) :(Code.region id l.toArray true).wp P Q a w:=
 wp_region_still_tail n hm (ck hlen hB) (by rw [hD]; exact h _ _ rfl)
end
end Go.Proofs.YtobgbcdgffgdhaaGreat
