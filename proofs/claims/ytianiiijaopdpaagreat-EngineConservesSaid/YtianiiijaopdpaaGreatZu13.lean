/- Part 13 of 58: First Build WrapF Whole WrapW. -/
import Derived.Test.YtianiiijaopdpaaGreatZu00
import Derived.Test.YtianiiijaopdpaaGreatZu03
import Derived.Deep.RegionHeld3
import Derived.StillTailTactics
namespace Go.Proofs.YtianiiijaopdpaaGreat
set_option linter.unusedVariables false
set_option linter.unusedSimpArgs false
set_option maxRecDepth 100000
set_option maxHeartbeats 8000000
open _root_.Array renaming getElem?_eq_some_iff → Ys, replicate → Qu, setIfInBounds_comm → Gc
open _root_.Bool renaming and_eq_true → Y8
open _root_.Go.Code renaming region → Vt
open _root_.Go.Instr renaming buildSlice → Y1, fill → VF
open _root_.List renaming all_eq_true → QD, map_cons → YW, map_nil → JB, map_toArray → QF
open _root_.Go renaming NoPanic → QB, Operand → YI, Program → YZ, TypeId → ZT, TypeInfo → Vk, Value → Zo, World → Zc, execOp → Xr, getD_replicate_false → Up, mem_ready → Vo, ready_mono → Uv, run_underlying → Y3, typeInfo → Ky, wpList → YU, wpQuiet → ZB, zeroValue → J9
open _root_.Go.Oper renaming wp → Q8
open _root_.Go.Region renaming Mode → J4, binds → Xp, chainB → Va, noSelect → Qe, ready → YB, seqB → YH, sinkB → KU, wanted → Xc
open _root_.Go.Result renaming andThen_ok → ZW
open _root_.Go.Sem renaming run_bind → Yl, run_pure → YJ
theorem Rn {G:Prop}(h:G:=by rw [h] at hr; cases hr) :G:=h
section
open Go Go.RowKit
def Ri (o:Oper) :Bool:=
 match o.op with
 | .move _ | .assign _ | .build .. | .load .. | .nilCheck _ | .binOp .. | .unOp .. | .convert .. | .slice .. | .fieldAddr .. | .field .. | .indexAddr .. | .index .. | .extract .. | .pick .. =>true
 | .call { callee:= .builtin .len,..} | .call { callee:= .builtin .cap,..} | .call { callee:= .builtin .min,..} | .call { callee:= .builtin .max,..}=>true
 | _=>false
section
variable {P:YZ} {ops:Array Oper} {Q:Exit→Act→Zc→Prop} {md:J4} {S:Zc→Prop}
def Dk (P:YZ)(m:Sem Next) :Prop:= ∀w n w',m.run P w= .ok n w'→ ∃v,n= .value v
theorem Eb (v:Zo) :Dk P (pure (.value v)):=fun w n w' h=>by
 rw [YJ] at h;injection h with h _;exact ⟨v,h.symm⟩
theorem NT {α:Type}{m:Sem α}{k:α→Sem Next}(h: ∀x,Dk P (k x)) :Dk P (m>>=k):=fun w n w' hr=>by
 rw [Yl] at hr
 cases hm:m.run P w with
 | ok x w1=>rw [hm,ZW] at hr; exact h x _ _ _ hr
 | halt x w1=>rw [hm] at hr; cases hr
theorem NU:Dk P (runtimePanic (.nilDeref:RuntimeError)):=fun w n w' h=>by simp [runtimePanic,goPanic] at h
theorem yv {r:Result Zo}{n:Next}{w':Zc}(h:(r.andThen fun a w1=> .ok (Next.value a) w1)= .ok n w') : ∃v,n= .value v:=by
 cases r with
 | ok x w1=>rw [ZW] at h; injection h with h _; exact ⟨x,h.symm⟩
 | halt x w1=>cases h
theorem Ic {o:Oper}(hp:Ri o=true)(ρ:YI→Zo) :Dk P (Xr ρ o):=by
 unfold Xr;unfold Ri at hp
 cases ho:o.op <;> rw [ho] at hp <;> try (cases hp; done)
 case nilCheck x=>
  dsimp only
  split
  ·exact NU
  ·exact NU
  ·exact NU
  ·split
   ·exact NU
   ·exact NT fun _=>NT fun _=>by
     split
     ·exact NT fun _=>Eb _
     ·exact Eb _
   ·exact Eb _
  ·exact Eb _
 case move=>exact Eb _
 case assign=>exact Eb _
 case pick=>exact NT fun _=>Eb _
 case call c=>
  obtain ⟨cal,args,u9⟩:=c
  cases cal with
  | builtin b=>
   cases b <;> try (cases hp; done)
   all_goals
    intro w n w' h;simp only [resolve,Yl,YJ,ZW,invoke,builtin] at h;exact yv h
  | invoke=>cases hp
  | value=>cases hp
 all_goals exact NT fun _=>Eb _
def X7 (P:YZ)(md:J4)(ops:Array Oper)(Q:Exit→Act→Zc→Prop)(S:Zc→Prop)(n:Nat)(L:Array Bool→Act→Zc→Prop) :Nat→Array Bool→Act→Zc→Prop
 | 0,Zv,a,w=>L Zv a w
 | f+1,Zv,a,w=>
  YB md ops Zv≠ []∧ ∀i ∈ YB md ops Zv,i < n∧wpOp P ops Q i (fun a' w'=>S w'∧X7 P md ops Q S n L f (Zv.setIfInBounds i true) a' w') a w
theorem DL {n g:Nat}{L:Array Bool→Act→Zc→Prop}(hL: ∀Zv a w,L Zv a w→wpAny P md ops Q g Zv a w) :
  ∀(f:Nat) (Zv:Array Bool) (a:Act) (w:Zc),X7 P md ops Q S n L f Zv a w→wpAny P md ops Q (f+g) Zv a w
 | 0,Zv,a,w,h=>by rw [Nat.zero_add]; exact hL _ _ _ h
 | f+1,Zv,a,w,h=>by
  rw [show f+1+g=(f+g)+1 by omega];exact ⟨fun h0=>absurd h0 h.1,fun i hi=>wpOp_mono (fun a' w' h'=>DL hL f _ a' w' h'.2) (h.2 i hi).2⟩
theorem WJ {n i:Nat}{oi:Oper}{v:Zo}{L:Array Bool→Act→Zc→Prop}(hi:ops[i]?=some oi)(Bv: ∀(j:Nat) (o:Oper) cs b,ops[j]?=some o→o.op≠ .select cs b)
  (hs:KU md ops n=true) (hc:Va md ops n=true) (hn:n < ops.size) (Ak:i < n)
  (hQ: ∀c a w,Q (.panic c) (a.put oi.dst v) w→Q (.panic c) a w)
  (EP: ∀Zv a w,L Zv a w→ ∀j ∈ YB md ops Zv,n≤j) :
  ∀(f:Nat) (Zv:Array Bool) (a:Act) (w:Zc),HeadInv md ops n Zv→
   (∀j oj,ops[j]?=some oj→j≠i→Zv.getD j true=false→(∀e ∈ oj.after,Xp md e=true→e.on≠i)→oi.apart ops oj=true)→
   i ∈ YB md ops Zv→YieldsIf P ops S oi v a→S w→
   X7 P md ops Q S n L f (Zv.setIfInBounds i true) (a.put oi.dst v) w→X7 P md ops Q S n L (f+1) Zv a w:=by
 intro f
 induction f with
 | zero=>
  intro Zv a w inv _ hr hy hS H;have Re:=(Vo.1 hr).1;refine ⟨fun h=>Rn,fun j hj=>?_⟩;have Da:j < n:=by
   rcases Nat.lt_or_ge j n with h | h
   ·exact h
   ·exact absurd hj (tail_waits hs hc hn inv _ i rfl Ak Re j h)
  refine ⟨Da,?_⟩
  by_cases Mj:j=i
  ·subst Mj; exact hy.wpOp hi hS ⟨hS,H⟩
  ·have:=EP _ _ _ H j (Uv hj Mj);omega
 | succ f ih=>
  intro Zv a w inv Mg hr hy hS H;have Re:=(Vo.1 hr).1;refine ⟨fun h=>Rn,fun j hj=>?_⟩;have Da:j < n:=by
   rcases Nat.lt_or_ge j n with h | h
   ·exact h
   ·exact absurd hj (tail_waits hs hc hn inv _ i rfl Ak Re j h)
  refine ⟨Da,?_⟩
  by_cases Mj:j=i
  ·subst Mj; exact hy.wpOp hi hS ⟨hS,H⟩
  ·have h1:=(H.2 j (Uv hj Mj)).2;obtain ⟨bu,oj,qm,Dr⟩:=Vo.1 hj;have Fw: ∀e ∈ oj.after,Xp md e=true→e.on≠i:=fun e he hb heq=>by
    have h1:=Dr e he hb;rw [heq,getD_both Re] at h1
    cases h1
   have h2:=wpOp_putIf qm (Mg j oj qm Mj bu Fw) (fun cs b=>Bv i oi cs b hi) (fun cs b=>Bv j oj cs b qm) hQ hy h1;have SD: ∀k ok,ops[k]?=some ok→k≠i→(Zv.setIfInBounds j true).getD k true=false→
     (∀e ∈ ok.after,Xp md e=true→e.on≠i)→oi.apart ops ok=true:=fun k ok hk we Re ql=>by
    refine Mg k ok hk we ?_ ql
    by_cases ER:j=k
    ·subst ER; exact bu
    ·rw [getD_set_ne true ER] at Re; exact Re
   refine wpOp_mono (fun a' w' h3=>⟨h3.2.1,ih (Zv.setIfInBounds j true) a' w' (inv.set hj Da) SD (Uv hr (Ne.symm Mj)) h3.1 h3.2.1 ?_⟩) h2;rw [Gc _ _ Mj];exact h3.2.2
def Fb (md:J4)(ops:Array Oper)(n:Nat) :List Nat→Array Bool→Bool
 | [],_=>true
 | k::ks,Zv=>decide (k < n)&&(match ops[k]? with | some o=>Ri o | none=>false)&&(YB md ops Zv).contains k&&Region.free md ops Zv k&&Fb md ops n ks (Zv.setIfInBounds k true)
def UJ:List Nat→Array Bool→Array Bool
 | [],Zv=>Zv
 | k::ks,Zv=>UJ ks (Zv.setIfInBounds k true)
theorem Ed {o:Oper}{a:Act}{K:Act→Prop}{i:Nat}(hi:ops[i]?=some o)(hp:Ri o=true)(h:qOp P ops S i K a) : ∃v,YieldsIf P ops S o v a∧K (a.put o.dst v):=by
 obtain ⟨v,hy,hk⟩:=yieldsIn_of_qOp hi h;refine ⟨v,?_,hk⟩
 rcases hy with ⟨hw,hv⟩ | ⟨hw,hv⟩
 ·refine .inl ⟨hw,fun w hS=>?_⟩;have h3:=hv w hS;have hpv:=Ic (P:=P) hp a.eval w;unfold Oper.quietAt at h3;generalize (Xr a.eval o).run P w=r at*
  cases r with
  | ok x w'=>
   obtain ⟨u,rfl⟩:=hpv x w' rfl;simp only [Oper.quietUpon] at h3;rw [h3.1,h3.2]
  | halt x w'=>simp only [Oper.quietUpon] at h3
 ·exact .inr ⟨hw,hv⟩
theorem Ew {n:Nat}{L:Array Bool→Act→Zc→Prop}{w:Zc}(Bv:Qe ops=true)
  (hs:KU md ops n=true) (hc:Va md ops n=true) (hn:n < ops.size) (hQ: ∀c a w,Q (.panic c) a w→False)
  (EP: ∀Zv a w,L Zv a w→ ∀j ∈ YB md ops Zv,n≤j) (hS:S w) (f:Nat) :
  ∀(ks:List Nat) (Zv:Array Bool) (a:Act),HeadInv md ops n Zv→Fb md ops n ks Zv=true→
   ZB P ops S (fun a'=>X7 P md ops Q S n L f (UJ ks Zv) a' w) (ks.filterMap fun k=>ops[k]?) a→X7 P md ops Q S n L (f+ks.length) Zv a w
 | [],Zv,a,_,_,h=>h
 | k::ks,Zv,a,inv,hB,h=>by
  simp only [Fb,Y8,decide_eq_true_eq] at hB;obtain ⟨⟨⟨⟨ET,hp⟩,hr⟩,hf⟩,hB'⟩:=hB
  cases ho:ops[k]? with
  | none=>rw [ho] at hp; cases hp
  | some o=>
   rw [ho] at hp;rw [List.filterMap_cons_some ho] at h;have qw:k ∈ YB md ops Zv:=by simpa using hr
   have hq:qOp P ops S k (ZB P ops S (fun a'=>X7 P md ops Q S n L f (UJ ks (Zv.setIfInBounds k true)) a' w) (ks.filterMap fun k=>ops[k]?)) a:=by unfold qOp; simp only [ho]; exact h
   obtain ⟨v,hy,hK⟩:=Ed ho hp hq;exact WJ ho (Region.noSelect_spec Bv) hs hc hn ET (fun c a w h=>(hQ _ _ _ h).elim) EP (f+ks.length) Zv a w inv (Region.free_spec ho hf) qw hy hS
    (Ew Bv hs hc hn hQ EP hS f ks _ _ (inv.set qw ET) hB' hK)
theorem PY {P:YZ}{id:Nat}{Q:Exit→Act→Zc→Prop}{a:Act}{w:Zc}{l:List Oper}(S:Zc→Prop)(n f:Nat)(ks:List Nat)(hm:P.follows .mixedOrders=true)
  (hB:(Qe l.toArray&&decide (n < l.toArray.size)&&KU .any l.toArray n&&Va .any l.toArray n&&Fb .any l.toArray n ks (Qu l.toArray.size false)&&decide (f+ks.length=n))=true)
  (hS:S w.drew)
  (h:ZB P l.toArray S (fun a'=>X7 P .any l.toArray (QB Q) S n (fun Zv a' w'=>YH .any l.toArray (l.toArray.size - n) n Zv=true∧YU P l.toArray (QB Q) (l.drop n) a' w') f (UJ ks (Qu l.toArray.size false)) a' w.drew) (ks.filterMap fun k=>l.toArray[k]?) a) :
  (Vt id l.toArray true).wp P Q a w:=by
 simp only [Y8,decide_eq_true_eq] at hB;obtain ⟨⟨⟨⟨⟨Bv,hn⟩,hs⟩,hc⟩,ht⟩,hf⟩:=hB;refine wp_region_noPanic (wp_region_any hm ?_);have hdl:(l.drop n).length=l.toArray.size - n:=by simp
 have inv0:HeadInv .any l.toArray n (Qu l.toArray.size false):=
  ⟨by simp,fun j oj _ hl=>(by rw [Up] at hl; cases hl),fun t _ ht=>getD_in (by simpa using ht) (Up _ _)⟩
 have H:=Ew (Q:=QB Q) Bv hs hc hn (fun _ _ _ h=>h) (fun Zv a w hL=>seqB_ready hL.1) hS f ks _ a inv0 ht h;have:=DL (Q:=QB Q) (g:=l.toArray.size - n) (fun Zv a' w' hL=>by
  have:=wpAny_of_seq (md:= .any) (Q':=QB Q) (l.drop n) n Zv a' w' (fun j=>by simp [List.getElem?_drop]) (by rw [hdl]; exact hL.1) hL.2;rwa [hdl] at this) _ _ _ _ H
 rw [hf,show n+(l.toArray.size - n)=l.toArray.size by omega] at this;exact this
theorem FJ {S':Zc→Prop}(hS: ∀w,S' w→S w){n:Nat}{L:Array Bool→Act→Zc→Prop} : ∀(f:Nat) (Zv:Array Bool) (a:Act) (w:Zc),X7 P md ops Q S' n L f Zv a w→X7 P md ops Q S n L f Zv a w
 | 0,_,_,_,h=>h
 | f+1,_,_,_,h=>⟨h.1,fun i hi=>⟨(h.2 i hi).1,wpOp_mono (fun a' w' h'=>⟨hS _ h'.1,FJ hS f _ a' w' h'.2⟩) (h.2 i hi).2⟩⟩
def Nt (md:J4)(ops:Array Oper)(n:Nat)(Zv:Array Bool) :Bool:=
 Nat.beq Zv.size ops.size&&((List.range ops.size).all fun j=>!(Zv.getD j false)||(match ops[j]? with | some o=>o.after.toList.all fun e=>!(Xp md e)||Zv.getD e.on false | none=>true))&&
  ((List.range ops.size).all fun t=>Nat.blt t n||!(Zv.getD t true))
theorem eV {n:Nat}{Zv:Array Bool}(h:Nt md ops n Zv=true) :HeadInv md ops n Zv:=by
 simp only [Nt,Y8,QD,List.mem_range,Bool.or_eq_true,Bool.not_eq_true'] at h;obtain ⟨⟨h1,h2⟩,h3⟩:=h;refine ⟨Nat.eq_of_beq_eq_true h1,fun j oj hj hl e he hb=>?_,fun t ht jn=>?_⟩
 ·have Df:j < ops.size:=(Ys.1 hj).1
  rcases h2 j Df with h | h
  ·rw [hl] at h; cases h
  ·rw [hj] at h;simp only [QD,Bool.or_eq_true,Bool.not_eq_true'] at h
   rcases h e (by simpa using he) with h | h
   ·rw [hb] at h; cases h
   ·exact h
 ·rcases h3 t jn with h | h
  ·have:t < n:=by simpa using h
   omega
  ·exact h
theorem KX {n f m:Nat}{l:List Oper}{Q:Exit→Act→Zc→Prop}{a:Act}{w:Zc}{Zv:Array Bool}(S':Zc→Prop)(ks:List Nat)(hSS: ∀w,S' w→S w)
  (hB:(Qe l.toArray&&decide (n < l.toArray.size)&&KU .any l.toArray n&&Va .any l.toArray n&&Nt .any l.toArray n Zv&&Fb .any l.toArray n ks Zv&&decide (f+ks.length=m))=true) (hS:S' w)
  (h:ZB P l.toArray S' (fun a'=>X7 P .any l.toArray (QB Q) S' n (fun Zv a' w'=>YH .any l.toArray (l.toArray.size - n) n Zv=true∧YU P l.toArray (QB Q) (l.drop n) a' w') f (UJ ks Zv) a' w) (ks.filterMap fun k=>l.toArray[k]?) a) :
  X7 P .any l.toArray (QB Q) S n (fun Zv a' w'=>YH .any l.toArray (l.toArray.size - n) n Zv=true∧YU P l.toArray (QB Q) (l.drop n) a' w') m Zv a w:=by
 simp only [Y8,decide_eq_true_eq] at hB;obtain ⟨⟨⟨⟨⟨⟨Bv,hn⟩,hs⟩,hc⟩,hi⟩,ht⟩,hf⟩:=hB;refine FJ hSS m Zv a w ?_;rw [←hf];exact Ew (Q:=QB Q) Bv hs hc hn (fun _ _ _ h=>h) (fun Zv a w hL=>seqB_ready hL.1) hS f ks _ a (eV hi) ht h
theorem De {n f i:Nat}{L:Array Bool→Act→Zc→Prop}{Zv:Array Bool}{a:Act}{w:Zc}(hr:YB md ops Zv=[i])(hi:i < n)
  (h:wpOp P ops Q i (fun a' w'=>S w'∧X7 P md ops Q S n L f (Zv.setIfInBounds i true) a' w') a w) :X7 P md ops Q S n L (f+1) Zv a w:=by
 refine ⟨by rw [hr]; simp,fun j hj=>?_⟩;rw [hr] at hj;obtain rfl:j=i:=by simpa using hj
 exact ⟨hi,h⟩
theorem UI {n f i k:Nat}{L:Array Bool→Act→Zc→Prop}{Zv:Array Bool}{a:Act}{w:Zc}(hr:YB md ops Zv=[i,k])(hi:i < n)(hk:k < n)
  (h1:wpOp P ops Q i (fun a' w'=>S w'∧X7 P md ops Q S n L f (Zv.setIfInBounds i true) a' w') a w)
  (h2:wpOp P ops Q k (fun a' w'=>S w'∧X7 P md ops Q S n L f (Zv.setIfInBounds k true) a' w') a w) :X7 P md ops Q S n L (f+1) Zv a w:=by
 refine ⟨by rw [hr]; simp,fun j hj=>?_⟩;rw [hr] at hj
 rcases (by simpa using hj:j=i∨j=k) with rfl | rfl
 ·exact ⟨hi,h1⟩
 ·exact ⟨hk,h2⟩
theorem YE {i:Nat}{o:Oper}{K:Act→Zc→Prop}{a:Act}{w:Zc}(ho:ops[i]?=some o)(hg:o.guard=none)(h:o.wp P a w K Q) :wpOp P ops Q i K a w:=by
 unfold wpOp;rw [ho];simp only [Xc,hg,if_true];exact .inl h
theorem du {i:Nat}{o:Oper}{K:Act→Zc→Prop}{a:Act}{w:Zc}(ho:ops[i]?=some o)(hg:Xc o (yielded ops a.tmps)=true)(h:o.wp P a w K Q) :wpOp P ops Q i K a w:=by
 unfold wpOp;rw [ho];simp only [hg,if_true];exact .inl h
theorem Yw {Qa:Act→Prop}{a:Act}{o:Oper}{rest:List Oper}(ty:ZT)(x:YI)(p:Addr)(v:Zo)(hw:Xc o (yielded ops a.tmps)=true)(ho:o.op= .load ty x)(hx:a.eval x= .pointer (some p))
  (hl: ∀w,w.cell? p=some v→(Instr.loadAt ty (.pointer (some p))).run P w= .ok v w) (hS: ∀w,S w→w.cell? p=some v) (h:ZB P ops S Qa rest (a.put o.dst v)) :ZB P ops S Qa (o::rest) a:=by
 refine Ig v hw (fun w hc=>?_) h;unfold Xr;simp only [ho,hx,Yl,YJ,ZW,hl w (hS w hc)]
end
section
variable {P:YZ}
theorem MP (w:Zc)(T e:ZT)(i:Vk)(z v:Zo)(ht:P.underlying T=some (.slice e))(hi:P.info? e=some i)(hz:i.zero=some z)(hs:i.size=1)(BN:z.cells.size=1)(h1:v.cells= #[v]) :
  (Y1 T 1 #[(0,v)]).run P w= .ok (.slice (some ⟨w.heap.size,0,none⟩) 1 1) (w.alloc (.cells #[v] e)):=by
 simp [Y1,Y3 ht,sizeOf,Ky,hi,hs,J9,hz,VF,newRow,h1,BN];simp [go_sem]
theorem Bi {o:Oper}{a:Act}{w:Zc}{K:Act→Zc→Prop}{Q:Exit→Act→Zc→Prop}(T e:ZT)(i:Vk)(x:YI)(z v:Zo)(ho:o.op= .buildSlice T 1 #[(0,x)])(hx:a.eval x=v)(ht:P.underlying T=some (.slice e))(hi:P.info? e=some i)(hz:i.zero=some z)(hs:i.size=1)(BN:z.cells.size=1)(h1:v.cells= #[v])
  (h:K (a.put o.dst (.slice (some ⟨w.heap.size,0,none⟩) 1 1)) (w.alloc (.cells #[v] e))) :o.wp P a w K Q:=by
 unfold Q8 Xr;simp only [ho,QF,YW,JB,hx,Yl,MP w T e i z v ht hi hz hs BN h1,ZW,YJ];exact h
theorem TT {o:Oper}{a:Act}{w:Zc}{K:Act→Zc→Prop}{Q:Exit→Act→Zc→Prop}{f:FuncId}{xs:Array YI}{u9:Array ZT}(ho:o.op= .call { callee:= .value (.func f),args:=xs,argTypes:=u9})(vs:Array Zo)
  (zR: #[]++xs.map a.eval++ #[]=vs) (BT: ∀args w,(callFunc f args).run P w= .ok (.enter f args) w) (hC:Calls P f vs w fun e w'=> ∃v,e= .returned v∧K (a.put o.dst v) w') :o.wp P a w K Q:=by
 obtain ⟨dst,op,ty,pos,after,guard⟩:=o
 dsimp only at ho hC
 subst ho;unfold Q8;have e:Xr a.eval { dst,op:= .call { callee:= .value (.func f),args:=xs,argTypes:=u9},type:=ty,pos,after,guard}=callFunc f (#[]++xs.map a.eval++ #[]):=rfl;rw [e,BT,zR];exact hC.mono fun e w' ⟨v,he,hk⟩=>by subst he; exact hk
end
end
section
open Go Go.RowKit
theorem ZK {w:Zc}{p:Addr}{v:Zo}(o:Obj)(h:w.cell? p=some v) :(w.alloc o).cell? p=some v:=by
 have:=(Below.refl w.heap.size w).alloc (Nat.le_refl _) o;exact (this.cell (UH h)).trans h
section
variable {P:YZ}
theorem Nx {t:ZT}{z:Zo}{n:Nat}(h:(P.info? t).map (fun i=>(i.zero,i.size))=some (some z,n)) : ∃i,P.info? t=some i∧i.zero=some z∧i.size=n:=by
 cases hi:P.info? t with
 | none=>rw [hi] at h; cases h
 | some i=>
  rw [hi] at h;simp at h;exact ⟨i,rfl,h.1,h.2⟩
theorem MQ (w:Zc)(T e:ZT)(i:Vk)(z q v u:Zo)(ht:P.underlying T=some (.slice e))(hi:P.info? e=some i)(hz:i.zero=some z)(hs:i.size=1)(BN:z.cells= #[q])(h1:v.cells= #[v])(h2:u.cells= #[u]) :
  (Y1 T 2 #[(0,v),(1,u)]).run P w= .ok (.slice (some ⟨w.heap.size,0,none⟩) 2 2) (w.alloc (.cells #[v,u] e)):=by
 simp [Y1,Y3 ht,sizeOf,Ky,hi,hs,J9,hz,VF,newRow,h1,h2,BN];simp [go_sem]
theorem QN {o:Oper}{a:Act}{w:Zc}{K:Act→Zc→Prop}{Q:Exit→Act→Zc→Prop}(T e:ZT)(x y:YI)(z q v u:Zo)(ho:o.op= .buildSlice T 2 #[(0,x),(1,y)])(hx:a.eval x=v)(hy:a.eval y=u)(ht:P.underlying T=some (.slice e))(hI:(P.info? e).map (fun i=>(i.zero,i.size))=some (some z,1))(BN:z.cells= #[q])(h1:v.cells= #[v])(h2:u.cells= #[u])
  (h:K (a.put o.dst (.slice (some ⟨w.heap.size,0,none⟩) 2 2)) (w.alloc (.cells #[v,u] e))) :o.wp P a w K Q:=by
 obtain ⟨i,hi,hz,hs⟩:=Nx hI;unfold Q8 Xr;simp only [ho,QF,YW,JB,hx,hy,Yl,MQ w T e i z q v u ht hi hz hs BN h1 h2,ZW,YJ];exact h
theorem Lj (w:Zc)(T e:ZT)(i:Vk)(z q v u t:Zo)(ht:P.underlying T=some (.slice e))(hi:P.info? e=some i)(hz:i.zero=some z)(hs:i.size=1)(BN:z.cells= #[q])(h1:v.cells= #[v])(h2:u.cells= #[u])(h3:t.cells= #[t]) :
  (Y1 T 3 #[(0,v),(1,u),(2,t)]).run P w= .ok (.slice (some ⟨w.heap.size,0,none⟩) 3 3) (w.alloc (.cells #[v,u,t] e)):=by
 simp [Y1,Y3 ht,sizeOf,Ky,hi,hs,J9,hz,VF,newRow,h1,h2,h3,BN];simp [go_sem]
theorem Ga {o:Oper}{a:Act}{w:Zc}{K:Act→Zc→Prop}{Q:Exit→Act→Zc→Prop}(T e:ZT)(x y p:YI)(z q v u t:Zo)(ho:o.op= .buildSlice T 3 #[(0,x),(1,y),(2,p)])(hx:a.eval x=v)(hy:a.eval y=u)(hp:a.eval p=t)(ht:P.underlying T=some (.slice e))(hI:(P.info? e).map (fun i=>(i.zero,i.size))=some (some z,1))(BN:z.cells= #[q])(h1:v.cells= #[v])(h2:u.cells= #[u])(h3:t.cells= #[t])
  (h:K (a.put o.dst (.slice (some ⟨w.heap.size,0,none⟩) 3 3)) (w.alloc (.cells #[v,u,t] e))) :o.wp P a w K Q:=by
 obtain ⟨i,hi,hz,hs⟩:=Nx hI;unfold Q8 Xr;simp only [ho,QF,YW,JB,hx,hy,hp,Yl,Lj w T e i z q v u t ht hi hz hs BN h1 h2 h3,ZW,YJ];exact h
theorem L9 (w:Zc)(T e:ZT)(i:Vk)(z v u:Zo)(ht:P.underlying T=some (.slice e))(hi:P.info? e=some i)(hz:i.zero=some z)(hs:i.size=2) :
  (Y1 T 1 #[(0,.agg #[v,u])]).run P w= .ok (.slice (some ⟨w.heap.size,0,none⟩) 1 1) (w.alloc (.cells #[v,u] e)):=by
 simp [Y1,Y3 ht,sizeOf,Ky,hi,hs,J9,hz,VF,newRow,Value.cells];simp [go_sem]
theorem Jq {o:Oper}{a:Act}{w:Zc}{K:Act→Zc→Prop}{Q:Exit→Act→Zc→Prop}(T e:ZT)(x:YI)(z v u:Zo)(ho:o.op= .buildSlice T 1 #[(0,x)])(hx:a.eval x= .agg #[v,u])(ht:P.underlying T=some (.slice e))(hI:(P.info? e).map (fun i=>(i.zero,i.size))=some (some z,2))
  (h:K (a.put o.dst (.slice (some ⟨w.heap.size,0,none⟩) 1 1)) (w.alloc (.cells #[v,u] e))) :o.wp P a w K Q:=by
 obtain ⟨i,hi,hz,hs⟩:=Nx hI;unfold Q8 Xr;simp only [ho,QF,YW,JB,hx,Yl,L9 w T e i z v u ht hi hz hs,ZW,YJ];exact h
end
end
section
open Go Go.RowKit
section
variable {P:YZ} {ops:Array Oper} {Q:Exit→Act→Zc→Prop} {md:J4} {S:Zc→Prop}
theorem Qt {n f i:Nat}{L:Array Bool→Act→Zc→Prop}{Zv:Array Bool}{a:Act}{w:Zc}
  (h:wpOp P ops Q i (fun a' w'=>S w'∧X7 P md ops Q S n L f (Zv.setIfInBounds i true) a' w') a w) (hr:YB md ops Zv=[i]:=by kernel_rfl) (hi:i < n:=by first | omega | simp) :X7 P md ops Q S n L (f+1) Zv a w:=De hr hi h
theorem MZ {P:YZ}{id:Nat}{Q:Exit→Act→Zc→Prop}{a:Act}{w:Zc}{l:List Oper}(S:Zc→Prop)(n f:Nat)(ks:List Nat)(hS:S w.drew)
  (h:ZB P l.toArray S (fun a'=>X7 P .any l.toArray (QB Q) S n (fun Zv a' w'=>YH .any l.toArray (l.toArray.size - n) n Zv=true∧YU P l.toArray (QB Q) (l.drop n) a' w') f (UJ ks (Qu l.toArray.size false)) a' w.drew) (ks.filterMap fun k=>l.toArray[k]?) a)
  (hm:P.follows .mixedOrders=true:=by kernel_rfl)
  (hB:(Qe l.toArray&&decide (n < l.toArray.size)&&KU .any l.toArray n&&Va .any l.toArray n&&Fb .any l.toArray n ks (Qu l.toArray.size false)&&decide (f+ks.length=n))=true:=by kernel_rfl) :
  (Vt id l.toArray true).wp P Q a w:=PY S n f ks hm hB hS h
theorem Wv {n f m:Nat}{l:List Oper}{Q:Exit→Act→Zc→Prop}{a:Act}{w:Zc}{Zv:Array Bool}(S':Zc→Prop)(ks:List Nat)(hS:S' w)
  (h:ZB P l.toArray S' (fun a'=>X7 P .any l.toArray (QB Q) S' n (fun Zv a' w'=>YH .any l.toArray (l.toArray.size - n) n Zv=true∧YU P l.toArray (QB Q) (l.drop n) a' w') f (UJ ks Zv) a' w) (ks.filterMap fun k=>l.toArray[k]?) a)
  (hSS: ∀w,S' w→S w:=by exact fun _ h=>h)
  (hB:(Qe l.toArray&&decide (n < l.toArray.size)&&KU .any l.toArray n&&Va .any l.toArray n&&Nt .any l.toArray n Zv&&Fb .any l.toArray n ks Zv&&decide (f+ks.length=m))=true:=by kernel_rfl) :
  X7 P .any l.toArray (QB Q) S n (fun Zv a' w'=>YH .any l.toArray (l.toArray.size - n) n Zv=true∧YU P l.toArray (QB Q) (l.drop n) a' w') m Zv a w:=KX S' ks hSS hB hS h
theorem JM {i:Nat}{o:Oper}{a:Act}{w:Zc}{K:Act→Zc→Prop}{f:FuncId}{xs:Array YI}{u9:Array ZT}(vs:Array Zo)
  (BT: ∀args w,(callFunc f args).run P w= .ok (.enter f args) w) (hC:Calls P f vs w fun e w'=> ∃v,e= .returned v∧K (a.put o.dst v) w') (hi:ops[i]?=some o:=by rfl) (hg:o.guard=none:=by rfl)
  (ho:o.op= .call { callee:= .value (.func f),args:=xs,argTypes:=u9}:=by rfl) (zR: #[]++xs.map a.eval++ #[]=vs:=by kernel_rfl) :wpOp P ops Q i K a w:=YE hi hg (TT ho vs zR BT hC)
end
end
section
open Go Go.RowKit
section
variable {P:YZ} {ops:Array Oper} {Q:Exit→Act→Zc→Prop} {md:J4} {S:Zc→Prop}
theorem cG {Zv:Array Bool}{j:Nat}(h:j ∈ YB md ops Zv) :j < ops.size:=by
 obtain ⟨_,o,ho,_⟩:=Vo.1 h;exact (Ys.1 ho).1
theorem TM {i:Nat}{oi:Oper}{v:Zo}{L:Array Bool→Act→Zc→Prop}(hi:ops[i]?=some oi)(Bv: ∀(j:Nat) (o:Oper) cs b,ops[j]?=some o→o.op≠ .select cs b)
  (hQ: ∀c a w,Q (.panic c) (a.put oi.dst v) w→Q (.panic c) a w)
  (EP: ∀Zv a w,L Zv a w→YB md ops Zv=[]) :
  ∀(f:Nat) (Zv:Array Bool) (a:Act) (w:Zc),
   (∀j oj,ops[j]?=some oj→j≠i→Zv.getD j true=false→(∀e ∈ oj.after,Xp md e=true→e.on≠i)→oi.apart ops oj=true)→
   i ∈ YB md ops Zv→YieldsIf P ops S oi v a→S w→
   X7 P md ops Q S ops.size L f (Zv.setIfInBounds i true) (a.put oi.dst v) w→X7 P md ops Q S ops.size L (f+1) Zv a w:=by
 intro f
 induction f with
 | zero=>
  intro Zv a w _ hr hy hS H;refine ⟨fun h=>Rn,fun j hj=>⟨cG hj,?_⟩⟩
  by_cases Mj:j=i
  ·subst Mj; exact hy.wpOp hi hS ⟨hS,H⟩
  ·have:=EP _ _ _ H;have hm:=Uv hj Mj;rw [this] at hm
   cases hm
 | succ f ih=>
  intro Zv a w Mg hr hy hS H;have Re:=(Vo.1 hr).1;refine ⟨fun h=>Rn,fun j hj=>⟨cG hj,?_⟩⟩
  by_cases Mj:j=i
  ·subst Mj; exact hy.wpOp hi hS ⟨hS,H⟩
  ·have h1:=(H.2 j (Uv hj Mj)).2;obtain ⟨bu,oj,qm,Dr⟩:=Vo.1 hj;have Fw: ∀e ∈ oj.after,Xp md e=true→e.on≠i:=fun e he hb heq=>by
    have h1:=Dr e he hb;rw [heq,getD_both Re] at h1
    cases h1
   have h2:=wpOp_putIf qm (Mg j oj qm Mj bu Fw) (fun cs b=>Bv i oi cs b hi) (fun cs b=>Bv j oj cs b qm) hQ hy h1;have SD: ∀k ok,ops[k]?=some ok→k≠i→(Zv.setIfInBounds j true).getD k true=false→
     (∀e ∈ ok.after,Xp md e=true→e.on≠i)→oi.apart ops ok=true:=fun k ok hk we Re ql=>by
    refine Mg k ok hk we ?_ ql
    by_cases ER:j=k
    ·subst ER; exact bu
    ·rw [getD_set_ne true ER] at Re; exact Re
   refine wpOp_mono (fun a' w' h3=>⟨h3.2.1,ih (Zv.setIfInBounds j true) a' w' SD (Uv hr (Ne.symm Mj)) h3.1 h3.2.1 ?_⟩) h2;rw [Gc _ _ Mj];exact h3.2.2
theorem DM {L:Array Bool→Act→Zc→Prop}{w:Zc}(Bv:Qe ops=true)(hQ: ∀c a w,Q (.panic c) a w→False)
  (EP: ∀Zv a w,L Zv a w→YB md ops Zv=[]) (hS:S w) (f:Nat) :
  ∀(ks:List Nat) (Zv:Array Bool) (a:Act),Fb md ops ops.size ks Zv=true→
   ZB P ops S (fun a'=>X7 P md ops Q S ops.size L f (UJ ks Zv) a' w) (ks.filterMap fun k=>ops[k]?) a→X7 P md ops Q S ops.size L (f+ks.length) Zv a w
 | [],Zv,a,_,h=>h
 | k::ks,Zv,a,hB,h=>by
  simp only [Fb,Y8,decide_eq_true_eq] at hB;obtain ⟨⟨⟨⟨ET,hp⟩,hr⟩,hf⟩,hB'⟩:=hB
  cases ho:ops[k]? with
  | none=>rw [ho] at hp; cases hp
  | some o=>
   rw [ho] at hp;rw [List.filterMap_cons_some ho] at h;have qw:k ∈ YB md ops Zv:=by simpa using hr
   have hq:qOp P ops S k (ZB P ops S (fun a'=>X7 P md ops Q S ops.size L f (UJ ks (Zv.setIfInBounds k true)) a' w) (ks.filterMap fun k=>ops[k]?)) a:=by unfold qOp; simp only [ho]; exact h
   obtain ⟨v,hy,hK⟩:=Ed ho hp hq;exact TM ho (Region.noSelect_spec Bv) (fun c a w h=>(hQ _ _ _ h).elim) EP (f+ks.length) Zv a w (Region.free_spec ho hf) qw hy hS
    (DM Bv hQ EP hS f ks _ _ hB' hK)
theorem PZ {id:Nat}{a:Act}{w:Zc}{l:List Oper}(S:Zc→Prop)(f:Nat)(ks:List Nat)(hm:P.follows .mixedOrders=true)
  (hB:(Qe l.toArray&&Fb .any l.toArray l.toArray.size ks (Qu l.toArray.size false)&&decide (f+ks.length=l.toArray.size))=true)
  (hS:S w.drew)
  (h:ZB P l.toArray S (fun a'=>X7 P .any l.toArray (QB Q) S l.toArray.size (fun Zv a' w'=>YB .any l.toArray Zv=[]∧QB Q .normal a' w') f (UJ ks (Qu l.toArray.size false)) a' w.drew) (ks.filterMap fun k=>l.toArray[k]?) a) :
  (Vt id l.toArray true).wp P Q a w:=by
 simp only [Y8,decide_eq_true_eq] at hB;obtain ⟨⟨Bv,ht⟩,hf⟩:=hB;refine wp_region_noPanic (wp_region_any hm ?_);have H:=DM (Q:=QB Q) Bv (fun _ _ _ h=>h) (fun Zv a w hL=>hL.1) hS f ks _ a ht h;have:=DL (Q:=QB Q) (g:=0) (fun Zv a' w' hL=>⟨hL.1,hL.2⟩) _ _ _ _ H;rw [hf] at this;exact this
theorem Fv {f m:Nat}{l:List Oper}{a:Act}{w:Zc}{Zv:Array Bool}(S':Zc→Prop)(ks:List Nat)(hSS: ∀w,S' w→S w)
  (hB:(Qe l.toArray&&Fb .any l.toArray l.toArray.size ks Zv&&decide (f+ks.length=m))=true) (hS:S' w)
  (h:ZB P l.toArray S' (fun a'=>X7 P .any l.toArray (QB Q) S' l.toArray.size (fun Zv a' w'=>YB .any l.toArray Zv=[]∧QB Q .normal a' w') f (UJ ks Zv) a' w) (ks.filterMap fun k=>l.toArray[k]?) a) :
  X7 P .any l.toArray (QB Q) S l.toArray.size (fun Zv a' w'=>YB .any l.toArray Zv=[]∧QB Q .normal a' w') m Zv a w:=by
 simp only [Y8,decide_eq_true_eq] at hB;obtain ⟨⟨Bv,ht⟩,hf⟩:=hB;refine FJ hSS m Zv a w ?_;rw [←hf];exact DM (Q:=QB Q) Bv (fun _ _ _ h=>h) (fun Zv a w hL=>hL.1) hS f ks _ a ht h
theorem wp_load_mid {o:Oper}{a:Act}{w:Zc}{K:Act→Zc→Prop}(ty:ZT)(x:YI)(ho:o.op= .load ty x)
  (b off:Nat) (hx:a.eval x= .pointer (some ⟨b,off,none⟩)) (cs:List Zo) (d:TypeDesc) (hc:w.rangeAt b off cs)
  (hu:P.underlying ty=some d) (hd:d.isRow=true) (hi:(P.info? ty).map (·.size)=some cs.length) (h:K (a.put o.dst (.agg cs.toArray)) w) :o.wp P a w K Q:=by
 unfold Q8 Xr;simp only [ho,hx,Instr.loadAt,Instr.sureAddr,Yl,YJ,ZW,run_loadVar_mid w b off ty cs d hc hu hd hi];exact h
end
end
section
open Go Go.RowKit
section
variable {P:YZ} {ops:Array Oper} {Q:Exit→Act→Zc→Prop} {md:J4} {S:Zc→Prop}
theorem PG {id:Nat}{a:Act}{w:Zc}{l:List Oper}(S:Zc→Prop)(f:Nat)(ks:List Nat)(hS:S w.drew)
  (h:ZB P l.toArray S (fun a'=>X7 P .any l.toArray (QB Q) S l.toArray.size (fun Zv a' w'=>YB .any l.toArray Zv=[]∧QB Q .normal a' w') f (UJ ks (Qu l.toArray.size false)) a' w.drew) (ks.filterMap fun k=>l.toArray[k]?) a)
  (hm:P.follows .mixedOrders=true:=by kernel_rfl)
  (hB:(Qe l.toArray&&Fb .any l.toArray l.toArray.size ks (Qu l.toArray.size false)&&decide (f+ks.length=l.toArray.size))=true:=by kernel_rfl) :
  (Vt id l.toArray true).wp P Q a w:=PZ S f ks hm hB hS h
theorem FR {f m:Nat}{l:List Oper}{a:Act}{w:Zc}{Zv:Array Bool}(S':Zc→Prop)(ks:List Nat)(hS:S' w)
  (h:ZB P l.toArray S' (fun a'=>X7 P .any l.toArray (QB Q) S' l.toArray.size (fun Zv a' w'=>YB .any l.toArray Zv=[]∧QB Q .normal a' w') f (UJ ks Zv) a' w) (ks.filterMap fun k=>l.toArray[k]?) a)
  (hSS: ∀w,S' w→S w:=by exact fun _ h=>h)
  (hB:(Qe l.toArray&&Fb .any l.toArray l.toArray.size ks Zv&&decide (f+ks.length=m))=true:=by kernel_rfl) :
  X7 P .any l.toArray (QB Q) S l.toArray.size (fun Zv a' w'=>YB .any l.toArray Zv=[]∧QB Q .normal a' w') m Zv a w:=Fv S' ks hSS hB hS h
end
end
end Go.Proofs.YtianiiijaopdpaaGreat
