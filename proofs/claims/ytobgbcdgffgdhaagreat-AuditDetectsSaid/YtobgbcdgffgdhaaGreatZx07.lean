/- Part 7 of 34: First Build Structs L16Val L07Base L07Get Table WrapF L05Tab L05Next WrapQ L03Open L06Base L06Book L07Sums. -/
import Derived.Test.YtobgbcdgffgdhaaGreatZx00
import Derived.Test.YtobgbcdgffgdhaaGreatZx02
import Derived.Test.YtobgbcdgffgdhaaGreatZx04
import Derived.ChangeAt
import Derived.Deep.Fields
import Derived.Deep.RegionHeld3
import Derived.Deep.WholeRow
namespace Go.Proofs.YtobgbcdgffgdhaaGreat
set_option linter.unusedVariables false
set_option linter.unusedSimpArgs false
set_option maxRecDepth 100000
set_option maxHeartbeats 8000000
open _root_.Array renaming all_eq_true_iff_forall_mem -> ZQ, getElem?_eq_some_iff -> Yj, replicate -> QI
open _root_.Go.RowKit renaming Below -> Zp
open _root_.Go.RowKit.Below renaming refl -> Zn
open _root_.Go.Proofs.YtobgbcdgffgdhaaGreat.Zu renaming alloc -> YK, cell -> Qc, drewN -> XD, frozen -> KE, new -> Zs, set_ -> VH
open _root_.Bool renaming and_eq_true -> YL, not_eq_true' -> Vb, or_eq_true -> Ug
open _root_.Go renaming Calls -> Zv, NoPanic -> QO, Operand -> YW, Program -> YV, TypeId -> ZL, TypeInfo -> KG, Value -> Zl, World -> Zc, bodyPost_ret -> Ye, execOp -> XU, getD_replicate_false -> UP, heap_alloc_new -> ZB, mem_ready -> VQ, ready_mono -> UW, run_part_plain -> Qr, run_underlying -> Xf, typeInfo -> VR, wpList -> Y2, wpList_load_mid -> Jt, wpQuiet -> Yl, yielded -> Ue, zeroValue -> Ke
open _root_.Go.Instr renaming buildSlice -> Xs, fill -> Ba, loadAt -> Gc, lookup -> J5, mapUpdate -> GS
open _root_.List renaming all_eq_true -> YP, cons_append -> Yf, flatMap_cons -> Jh, getElem?_eq_getElem -> Zg, getElem?_eq_some_iff -> Zk, length_cons -> Yg, map_cons -> Xa, map_nil -> Kr, map_toArray -> JD, mem_cons -> ZX, mem_map -> Yc, mem_of_getElem? -> Zz, mem_range -> XT, not_mem_nil -> Yk, range -> YO
open _root_.Go.Lit renaming int -> YN
open _root_.Go.MapKept renaming run_getObj_map -> Qy
open _root_.Nat renaming le_refl -> Zh, zero_add -> ZW
open _root_.Go.Op renaming eqFields -> Vh
open _root_.Go.Oper renaming quietAt -> V8, wp -> Jj
open _root_.Option.some renaming inj -> ZP
open _root_.Go.Region renaming Mode -> J9, binds -> Xp, chainB -> Vp, noSelect -> Qp, ready -> YA, seqB -> JT, sinkB -> Vi, wanted -> X3
open _root_.Go.Result renaming andThen -> Xd, andThen_ok -> ZY
open _root_.Go.Sem renaming run_bind -> Yq, run_pure -> YX
open _root_.Go.Proofs.Tryz renaming prog -> Zb
open _root_.Go.World renaming setRow_alloc_new -> Zq
open Go.Proofs.Tryz
theorem CD {G:Prop}(h:G:=by rw [hf]; rfl) :G:=h
theorem CB {G:Prop}(h:G:=by rw [hf]; exact h) :G:=h
theorem Ng {G:Prop}(h:G:=by simp [hj]) :G:=h
theorem mL {G:Prop}(h:G:=by have:=(List.getElem?_eq_some_iff.1 hi).1; omega) :G:=h
theorem Dp {G:Prop}(h:G:=by simp [hx]) :G:=h
theorem Nf {G:Prop}(h:G:=by simp [Program.plainKey,hk]) :G:=h
theorem JH {G H:Prop} (k:H) (h:Dq H->G:=by
  intro zk;simp only [qF,qH];exact zk.o) :G:=h ⟨k⟩
theorem X7 {G H:Prop} (k:H) (h:Dq H->G:=by
  intro zk;simp only [qB];exact zk.o) :G:=h ⟨k⟩
theorem Ee {G H:Prop} (k:H) (h:Dq H->G:=by
  intro zk;simp only [Act.put,qG,qS];exact zk.o) :G:=h ⟨k⟩
theorem LA {G H:Prop} (k:H) (h:Dq H->G:=by
  intro zk;simp only [qA];exact zk.o) :G:=h ⟨k⟩
theorem U4 {G H:Prop} (k:H) (h:Dq H->G:=by
  intro zk;iterate 1 (go_big_quiet_step ((intros; rfl)))
  exact zk.o) :G:=h ⟨k⟩
theorem Dw {G H:Prop} (k:H) (h:Dq H->G:=by
  intro zk;iterate 4 (go_big_quiet_step ((intros; rfl)))
  exact zk.o) :G:=h ⟨k⟩
theorem BZ {G H:Prop} (k:H) (h:Dq H->G:=by
  intro zk;iterate 2 (go_big_quiet_step ((intros; rfl)))
  exact zk.o) :G:=h ⟨k⟩
theorem GD {G H:Prop} (k:H) (h:Dq H->G:=by
  intro zk;show Region.seqB _ _ _ _ _=true/\_;exact zk.o) :G:=h ⟨k⟩
theorem Hg {G H:Prop} (k:H) (h:Dq H->G:=by
  intro zk;show wpQuiet _ _ _ _ [_,_,_,_] _;exact zk.o) :G:=h ⟨k⟩
theorem U1 {G H:Prop} (k:H) (h:Dq H->G:=by
  intro zk;refine NoPanic.normal ?_;exact zk.o) :G:=h ⟨k⟩
theorem OJ {G H:Prop} (k:H) (h:Dq H->G:=by
  intro zk;show wpQuiet _ _ _ _ [_,_,_,_,_] _;exact zk.o) :G:=h ⟨k⟩
theorem ZlW {G H:Prop} (k:H) (h:Dq H->G:=by
  intro zk;refine Hs func214 rfl ?_;simp only [ntmps214,List.size_toArray,List.length_cons,List.length_nil,Nat.reduceAdd,Nat.reduceSub,Array.replicate_succ,Array.replicate_zero,List.push_toArray,List.append_toArray,List.nil_append,List.cons_append];exact zk.o) :G:=h ⟨k⟩
theorem mX {G H:Prop} (k:H) (h:Dq H->G:=by
  intro zk;show wpQuiet _ _ _ _ [_,_,_,_,_,_,_,_,_,_] _;exact zk.o) :G:=h ⟨k⟩
theorem ZlX {G H:Prop} (k:H) (h:Dq H->G:=by
  intro zk;refine UQ (fun w'=>w'.cell? ⟨wr.heap.size,1,none⟩=some (.int .u64 x)/\w'.cell? ⟨w.heap.size,s,none⟩=some (.int .u64 y)) (m:=11) (f:=6) [0,1,2,3,4] (fun _ _=>trivial) ZC ⟨x1,y1⟩ ?_;exact zk.o) :G:=h ⟨k⟩
theorem Ed {G H:Prop} (k:H) (h:Dq H->G:=by
  intro zk;refine JC (i:=5) ?_;exact zk.o) :G:=h ⟨k⟩
theorem ZlZ {G H:Prop} (k:H) (h:Dq H->G:=by
  intro zk;iterate 6 (go_big_quiet_step (fail))
  refine ou _ _ rfl rfl (fun w h=>by obtain ⟨n,rfl⟩:=h; exact HR.o.2.drewN n) underlying3 underlying144 Ni v.st rfl rfl HW.o ?_;rw [HCS.o];exact zk.o) :G:=h ⟨k⟩
theorem Zl1 {G H:Prop} (k:H) (h:Dq H->G:=by
  intro zk;refine TS (fun w'=>w'.cell? ⟨wr.heap.size,1,none⟩=some (.int .u64 x)/\w'.cell? ⟨w.heap.size,s,none⟩=some (.int .u64 y)) (m:=4) (f:=0) [7,8,9,10] ⟨x2,y2⟩ ?_;exact zk.o) :G:=h ⟨k⟩
theorem Lz {G H:Prop} (k:H) (h:Dq H->G:=by
  intro zk;refine JC (i:=6) ?_;exact zk.o) :G:=h ⟨k⟩
theorem Zma {G:Prop} (h:G:=by
  clear x0 x1 c2 c3 c4 f3 f4 HB HK HE W;obtain ⟨-,-,c2,-,-⟩:=HR.o.cells;refine BU 8 ?_;refine BY ?_;refine ZlZ ?_;refine X7 ?_
  repeat (go_big_quiet_step (fail))
  refine Yo ?_;intro _ JG;obtain ⟨n3,Xk⟩:=JG;subst Xk;refine Lp rfl _ _ _ rfl (HR.o.2.drewN n3) underlying3 underlying144 v.st (cs+1) rfl rfl rfl HW.o ?_;intro W3 hc3 hg3;have HZ:=Za (And.intro ((HR.o.drewN n3).counted hc3 hg3) ((Sn.o.drewN n3).trans (ZA.of_grown (S:=fun i=>i=m) hg3 (fun i hi=>by injection hi)) (fun i _ e=> .inr e)));clear hc3 hg3;go_wp2;go_end0;exact ⟨rfl,HZ.o⟩) :G:=h
theorem Zi6 {G:Prop} (h:G:=by
  rcases h.2 with ⟨rfl,rfl⟩ | ⟨g,cp,cur,rfl,_,_,h1,h2,_⟩
  ·exact ⟨none,0,rfl,by omega,by unfold maxLen; omega⟩
  ·exact ⟨_,cp,rfl,h1,h2⟩) :G:=h
theorem yI {G:Prop} (h:G:=by
  refine ⟨h.1,h.2.imp id ?_⟩;rintro ⟨g,cp,cur,rfl,h1,h2,h3⟩;exact ⟨g,cp,cur,rfl,h1,(hb g rfl).trans h2,h3⟩) :G:=h
theorem Zfk {G:Prop} (h:G:=by
  rcases Nat.lt_or_ge i base.size with h | h
  ·exact h
  ·simp [Array.getElem?_eq_none h] at hi) :G:=h
theorem ZfA {G:Prop} (h:G:=by
  obtain rfl | rfl | rfl:j=0\/j=1\/j=2:=Zf
  all_goals exact hv) :G:=h
theorem ZfH {G:Prop} (h:G:=by
  simp [asAddr,run_loadVar_row w g t ty cs fr d hg hu hd hi,Result.andThen]) :G:=h
theorem ZfP {G:Prop} (h:G:=by
  go_enter func103,ntmps103;exact Ra) :G:=h
theorem ZfQ {G:Prop} (h:G:=by
  go_enter func117,ntmps117;exact Ra) :G:=h
theorem zg {G:Prop} (h:G:=by
  go_enter func250,ntmps250;exact Ra) :G:=h
theorem ZfT {G:Prop} (h:G:=by
  exact ((Below.refl _ _).alloc (Nat.le_refl _) _).alloc ZE _) :G:=h
theorem zu {G:Prop} (h:G:=by
  rintro e w' ⟨rfl,rfl⟩;exact Ra) :G:=h
theorem zE {G:Prop} (h:G:=by
  rw [hi] at h;simp at h;exact ⟨i,rfl,h.1,h.2⟩) :G:=h
theorem px {G:Prop} (h:G:=by
  subst Pu;exact hy.wpOp hi hS ⟨hS,H⟩) :G:=h
section
open Go Go.RowKit
def TY (o:Oper) :Bool:=
 match o.op with
 | .move _ | .assign _ | .build .. | .load .. | .nilCheck _ | .binOp .. | .unOp .. | .convert .. | .slice .. | .fieldAddr .. | .field .. | .indexAddr .. | .index .. | .extract .. | .pick .. | .lookup .. =>true
 | .call { callee:= .builtin .len,..} | .call { callee:= .builtin .cap,..} | .call { callee:= .builtin .min,..} | .call { callee:= .builtin .max,..}=>true
 | _=>false
section
variable {P:YV} {ops:Array Oper} {Q:Exit->Act->Zc->Prop} {md:J9} {S:Zc->Prop}
def Eo (P:YV)(m:Sem Next) :Prop:= ∀w n w',m.run P w= .ok n w'-> ∃v,n= .value v
theorem Fo (v:Zl) :Eo P (pure (.value v)):=fun w n w' h=>by
 rw [YX] at h;injection h with h _;exact ⟨v,h.symm⟩
theorem PW {α:Type}{m:Sem α}{k:α->Sem Next}(h: ∀x,Eo P (k x)) :Eo P (m>>=k):=fun w n w' hr=>by
 rw [Yq] at hr
 cases hm:m.run P w with
 | ok x w1=>rw [hm,ZY] at hr; exact h x _ _ _ hr
 | halt x w1=>rw [hm] at hr; cases hr
theorem PX:Eo P (runtimePanic (.nilDeref:RuntimeError)):=fun w n w' h=>by simp [runtimePanic,goPanic] at h
theorem ZdF {r:Result Zl}{n:Next}{w':Zc}(h:(r.andThen fun a w1=> .ok (Next.value a) w1)= .ok n w') : ∃v,n= .value v:=by
 cases r with
 | ok x w1=>rw [ZY] at h; injection h with h _; exact ⟨x,h.symm⟩
 | halt x w1=>cases h
theorem cH {o:Oper}(hp:TY o=true)(ρ:YW->Zl) :Eo P (XU ρ o):=by
 unfold XU;unfold TY at hp
 cases ho:o.op <;> rw [ho] at hp <;> try (cases hp; done)
 case nilCheck x=>
  dsimp only
  split
  ·exact PX
  ·exact PX
  ·exact PX
  ·split
   ·exact PX
   ·exact PW fun _=>PW fun _=>by
     split
     ·exact PW fun _=>Fo _
     ·exact Fo _
   ·exact Fo _
  ·exact Fo _
 case move=>exact Fo _
 case assign=>exact Fo _
 case pick=>exact PW fun _=>Fo _
 case call c=>
  obtain ⟨cal,args,ats⟩:=c
  cases cal with
  | builtin b=>
   cases b <;> try (cases hp; done)
   all_goals
    intro w n w' h;simp only [resolve,Yq,YX,ZY,invoke,builtin] at h;exact ZdF h
  | invoke=>cases hp
  | value=>cases hp
 all_goals exact PW fun _=>Fo _
def Qh (P:YV)(md:J9)(ops:Array Oper)(Q:Exit->Act->Zc->Prop)(S:Zc->Prop)(n:Nat)(L:Array Bool->Act->Zc->Prop) :Nat->Array Bool->Act->Zc->Prop
 | 0,Zt,a,w=>L Zt a w
 | f+1,Zt,a,w=>
  YA md ops Zt≠ []/\ ∀i ∈ YA md ops Zt,i < n/\wpOp P ops Q i (fun a' w'=>S w'/\Qh P md ops Q S n L f (Zt.setIfInBounds i true) a' w') a w
theorem EJ {n g:Nat}{L:Array Bool->Act->Zc->Prop}(hL: ∀Zt a w,L Zt a w->wpAny P md ops Q g Zt a w) :
  ∀(f:Nat) (Zt:Array Bool) (a:Act) (w:Zc),Qh P md ops Q S n L f Zt a w->wpAny P md ops Q (f+g) Zt a w
 | 0,Zt,a,w,h=>by rw [ZW]; exact hL _ _ _ h
 | f+1,Zt,a,w,h=>by
  rw [show f+1+g=(f+g)+1 by omega];exact ⟨fun h0=>absurd h0 h.1,fun i hi=>wpOp_mono (fun a' w' h'=>EJ hL f _ a' w' h'.2) (h.2 i hi).2⟩
theorem Ir {n i:Nat}{oi:Oper}{v:Zl}{L:Array Bool->Act->Zc->Prop}(hi:ops[i]?=some oi)(Dh: ∀(j:Nat) (o:Oper) cs b,ops[j]?=some o->o.op≠ .select cs b)
  (hs:Vi md ops n=true) (hc:Vp md ops n=true) (hn:n < ops.size) (C9:i < n)
  (hQ: ∀c a w,Q (.panic c) (a.put oi.dst v) w->Q (.panic c) a w)
  (FW: ∀Zt a w,L Zt a w-> ∀j ∈ YA md ops Zt,n<=j) :
  ∀(f:Nat) (Zt:Array Bool) (a:Act) (w:Zc),HeadInv md ops n Zt->
   (∀j oj,ops[j]?=some oj->j≠i->Zt.getD j true=false->(∀e ∈ oj.after,Xp md e=true->e.on≠i)->oi.apart ops oj=true)->
   i ∈ YA md ops Zt->YieldsIf P ops S oi v a->S w->
   Qh P md ops Q S n L f (Zt.setIfInBounds i true) (a.put oi.dst v) w->Qh P md ops Q S n L (f+1) Zt a w:=by
 intro f
 induction f with
 | zero=>
  intro Zt a w inv _ hr hy hS H;have bW:=(VQ.1 hr).1;refine ⟨fun h=>Sh,fun j hj=>?_⟩;have Ei:j < n:=o5
  refine ⟨Ei,?_⟩
  by_cases Pu:j=i
  ·exact px
  ·have:=FW _ _ _ H j (UW hj Pu);omega
 | succ f ih=>
  intro Zt a w inv NU hr hy hS H;have bW:=(VQ.1 hr).1;refine ⟨fun h=>Sh,fun j hj=>?_⟩;have Ei:j < n:=o5
  refine ⟨Ei,?_⟩
  by_cases Pu:j=i
  ·exact px
  ·have h1:=(H.2 j (UW hj Pu)).2;obtain ⟨fW,oj,vZ,Bh⟩:=VQ.1 hj;have Hy: ∀e ∈ oj.after,Xp md e=true->e.on≠i:=fun e he hb heq=>by
    exact zi
   have h2:=wpOp_putIf vZ (NU j oj vZ Pu fW Hy) (fun cs b=>Dh i oi cs b hi) (fun cs b=>Dh j oj cs b vZ) hQ hy h1;have Ac: ∀k ok,ops[k]?=some ok->k≠i->(Zt.setIfInBounds j true).getD k true=false->
     (∀e ∈ ok.after,Xp md e=true->e.on≠i)->oi.apart ops ok=true:=fun k ok hk hki bW vY=>by
    refine NU k ok hk hki ?_ vY
    by_cases FY:j=k
    ·subst FY; exact fW
    ·rw [getD_set_ne true FY] at bW; exact bW
   refine wpOp_mono (fun a' w' h3=>⟨h3.2.1,ih (Zt.setIfInBounds j true) a' w' (inv.set hj Ei) Ac (UW hr (Ne.symm Pu)) h3.1 h3.2.1 ?_⟩) h2;rw [Array.setIfInBounds_comm _ _ Pu];exact h3.2.2
def Hf (md:J9)(ops:Array Oper)(n:Nat) :List Nat->Array Bool->Bool
 | [],_=>true
 | k::ks,Zt=>decide (k < n)&&(match ops[k]? with | some o=>TY o | none=>false)&&(YA md ops Zt).contains k&&Region.free md ops Zt k&&Hf md ops n ks (Zt.setIfInBounds k true)
def Gk:List Nat->Array Bool->Array Bool
 | [],Zt=>Zt
 | k::ks,Zt=>Gk ks (Zt.setIfInBounds k true)
theorem Fp {o:Oper}{a:Act}{K:Act->Prop}{i:Nat}(hi:ops[i]?=some o)(hp:TY o=true)(h:qOp P ops S i K a) : ∃v,YieldsIf P ops S o v a/\K (a.put o.dst v):=by
 obtain ⟨v,hy,hk⟩:=yieldsIn_of_qOp hi h;refine ⟨v,?_,hk⟩
 rcases hy with ⟨hw,hv⟩ | ⟨hw,hv⟩
 ·refine .inl ⟨hw,fun w hS=>?_⟩;have h3:=hv w hS;have hpv:=cH (P:=P) hp a.eval w;unfold V8 at h3;generalize (XU a.eval o).run P w=r at*
  cases r with
  | ok x w'=>
   obtain ⟨u,rfl⟩:=hpv x w' rfl;simp only [Oper.quietUpon] at h3;rw [h3.1,h3.2]
  | halt x w'=>simp only [Oper.quietUpon] at h3
 ·exact .inr ⟨hw,hv⟩
theorem FI {n:Nat}{L:Array Bool->Act->Zc->Prop}{w:Zc}(Dh:Qp ops=true)
  (hs:Vi md ops n=true) (hc:Vp md ops n=true) (hn:n < ops.size) (hQ: ∀c a w,Q (.panic c) a w->False)
  (FW: ∀Zt a w,L Zt a w-> ∀j ∈ YA md ops Zt,n<=j) (hS:S w) (f:Nat) :
  ∀(ks:List Nat) (Zt:Array Bool) (a:Act),HeadInv md ops n Zt->Hf md ops n ks Zt=true->
   Yl P ops S (fun a'=>Qh P md ops Q S n L f (Gk ks Zt) a' w) (ks.filterMap fun k=>ops[k]?) a->Qh P md ops Q S n L (f+ks.length) Zt a w
 | [],Zt,a,_,_,h=>h
 | k::ks,Zt,a,inv,hB,h=>by
  simp only [Hf,YL,decide_eq_true_eq] at hB;obtain ⟨⟨⟨⟨L4,hp⟩,hr⟩,hf⟩,hB'⟩:=hB
  cases ho:ops[k]? with
  | none=>rw [ho] at hp; cases hp
  | some o=>
   rw [ho] at hp;rw [List.filterMap_cons_some ho] at h;have hr':k ∈ YA md ops Zt:=by simpa using hr
   have hq:qOp P ops S k (Yl P ops S (fun a'=>Qh P md ops Q S n L f (Gk ks (Zt.setIfInBounds k true)) a' w) (ks.filterMap fun k=>ops[k]?)) a:=by unfold qOp; simp only [ho]; exact h
   obtain ⟨v,hy,hK⟩:=Fp ho hp hq;exact Ir ho (Region.noSelect_spec Dh) hs hc hn L4 (fun c a w h=>(hQ _ _ _ h).elim) FW (f+ks.length) Zt a w inv (Region.free_spec ho hf) hr' hy hS
    (FI Dh hs hc hn hQ FW hS f ks _ _ (inv.set hr' L4) hB' hK)
theorem TI {P:YV}{id:Nat}{Q:Exit->Act->Zc->Prop}{a:Act}{w:Zc}{l:List Oper}(S:Zc->Prop)(n f:Nat)(ks:List Nat)(hm:P.follows .mixedOrders=true)
  (hB:(Qp l.toArray&&decide (n < l.toArray.size)&&Vi .any l.toArray n&&Vp .any l.toArray n&&Hf .any l.toArray n ks (QI l.toArray.size false)&&decide (f+ks.length=n))=true)
  (hS:S w.drew)
  (h:Yl P l.toArray S (fun a'=>Qh P .any l.toArray (QO Q) S n (fun Zt a' w'=>JT .any l.toArray (l.toArray.size - n) n Zt=true/\Y2 P l.toArray (QO Q) (l.drop n) a' w') f (Gk ks (QI l.toArray.size false)) a' w.drew) (ks.filterMap fun k=>l.toArray[k]?) a) :
  (Code.region id l.toArray true).wp P Q a w:=by
 simp only [YL,decide_eq_true_eq] at hB;obtain ⟨⟨⟨⟨⟨Dh,hn⟩,hs⟩,hc⟩,ht⟩,hf⟩:=hB;refine wp_region_noPanic (wp_region_any hm ?_);have hdl:(l.drop n).length=l.toArray.size - n:=ZE;have inv0:HeadInv .any l.toArray n (QI l.toArray.size false):=
  ⟨by simp,fun j oj _ hl=>(by rw [UP] at hl; cases hl),fun t _ ht=>getD_in (by simpa using ht) (UP _ _)⟩
 have H:=FI (Q:=QO Q) Dh hs hc hn (fun _ _ _ h=>h) (fun Zt a w hL=>seqB_ready hL.1) hS f ks _ a inv0 ht h;have:=EJ (Q:=QO Q) (g:=l.toArray.size - n) (fun Zt a' w' hL=>by
  have:=wpAny_of_seq (md:= .any) (Q':=QO Q) (l.drop n) n Zt a' w' (fun j=>by simp [List.getElem?_drop]) (by rw [hdl]; exact hL.1) hL.2;rwa [hdl] at this) _ _ _ _ H
 rw [hf,show n+(l.toArray.size - n)=l.toArray.size by omega] at this;exact this
theorem Lo {S':Zc->Prop}(hS: ∀w,S' w->S w){n:Nat}{L:Array Bool->Act->Zc->Prop} : ∀(f:Nat) (Zt:Array Bool) (a:Act) (w:Zc),Qh P md ops Q S' n L f Zt a w->Qh P md ops Q S n L f Zt a w
 | 0,_,_,_,h=>h
 | f+1,_,_,_,h=>⟨h.1,fun i hi=>⟨(h.2 i hi).1,wpOp_mono (fun a' w' h'=>⟨hS _ h'.1,Lo hS f _ a' w' h'.2⟩) (h.2 i hi).2⟩⟩
def Pr (md:J9)(ops:Array Oper)(n:Nat)(Zt:Array Bool) :Bool:=
 Nat.beq Zt.size ops.size&&((YO ops.size).all fun j=>!(Zt.getD j false)||(match ops[j]? with | some o=>o.after.toList.all fun e=>!(Xp md e)||Zt.getD e.on false | none=>true))&&
  ((YO ops.size).all fun t=>Nat.blt t n||!(Zt.getD t true))
theorem ky {n:Nat}{Zt:Array Bool}(h:Pr md ops n Zt=true) :HeadInv md ops n Zt:=by
 simp only [Pr,YL,YP,XT,Ug,Vb] at h;obtain ⟨⟨h1,h2⟩,h3⟩:=h;refine ⟨Nat.eq_of_beq_eq_true h1,fun j oj hj hl e he hb=>?_,fun t ht nY=>?_⟩
 ·have Fc:j < ops.size:=(Yj.1 hj).1
  rcases h2 j Fc with h | h
  ·rw [hl] at h; cases h
  ·rw [hj] at h;simp only [YP,Ug,Vb] at h
   rcases h e (by simpa using he) with h | h
   ·rw [hb] at h; cases h
   ·exact h
 ·rcases h3 t nY with h | h
  ·have:t < n:=KM;omega
  ·exact h
theorem UQ {n f m:Nat}{l:List Oper}{Q:Exit->Act->Zc->Prop}{a:Act}{w:Zc}{Zt:Array Bool}(S':Zc->Prop)(ks:List Nat)(hSS: ∀w,S' w->S w)
  (hB:(Qp l.toArray&&decide (n < l.toArray.size)&&Vi .any l.toArray n&&Vp .any l.toArray n&&Pr .any l.toArray n Zt&&Hf .any l.toArray n ks Zt&&decide (f+ks.length=m))=true) (hS:S' w)
  (h:Yl P l.toArray S' (fun a'=>Qh P .any l.toArray (QO Q) S' n (fun Zt a' w'=>JT .any l.toArray (l.toArray.size - n) n Zt=true/\Y2 P l.toArray (QO Q) (l.drop n) a' w') f (Gk ks Zt) a' w) (ks.filterMap fun k=>l.toArray[k]?) a) :
  Qh P .any l.toArray (QO Q) S n (fun Zt a' w'=>JT .any l.toArray (l.toArray.size - n) n Zt=true/\Y2 P l.toArray (QO Q) (l.drop n) a' w') m Zt a w:=by
 simp only [YL,decide_eq_true_eq] at hB;obtain ⟨⟨⟨⟨⟨⟨Dh,hn⟩,hs⟩,hc⟩,hi⟩,ht⟩,hf⟩:=hB;refine Lo hSS m Zt a w ?_;rw [<-hf];exact FI (Q:=QO Q) Dh hs hc hn (fun _ _ _ h=>h) (fun Zt a w hL=>seqB_ready hL.1) hS f ks _ a (ky hi) ht h
theorem Eh {n f i:Nat}{L:Array Bool->Act->Zc->Prop}{Zt:Array Bool}{a:Act}{w:Zc}(hr:YA md ops Zt=[i])(hi:i < n)
  (h:wpOp P ops Q i (fun a' w'=>S w'/\Qh P md ops Q S n L f (Zt.setIfInBounds i true) a' w') a w) :Qh P md ops Q S n L (f+1) Zt a w:=by
 refine ⟨by rw [hr]; simp,fun j hj=>?_⟩;rw [hr] at hj;obtain rfl:j=i:=by simpa using hj
 exact ⟨hi,h⟩
theorem KC {n f i k:Nat}{L:Array Bool->Act->Zc->Prop}{Zt:Array Bool}{a:Act}{w:Zc}(hr:YA md ops Zt=[i,k])(hi:i < n)(hk:k < n)
  (h1:wpOp P ops Q i (fun a' w'=>S w'/\Qh P md ops Q S n L f (Zt.setIfInBounds i true) a' w') a w)
  (h2:wpOp P ops Q k (fun a' w'=>S w'/\Qh P md ops Q S n L f (Zt.setIfInBounds k true) a' w') a w) :Qh P md ops Q S n L (f+1) Zt a w:=by
 refine ⟨by rw [hr]; simp,fun j hj=>?_⟩;rw [hr] at hj
 rcases (by simpa using hj:j=i\/j=k) with rfl | rfl
 ·exact ⟨hi,h1⟩
 ·exact ⟨hk,h2⟩
theorem Yv {i:Nat}{o:Oper}{K:Act->Zc->Prop}{a:Act}{w:Zc}(ho:ops[i]?=some o)(hg:o.guard=none)(h:o.wp P a w K Q) :wpOp P ops Q i K a w:=by
 unfold wpOp;rw [ho];simp only [X3,hg,if_true];exact .inl h
theorem Vo {i:Nat}{o:Oper}{K:Act->Zc->Prop}{a:Act}{w:Zc}(ho:ops[i]?=some o)(hg:X3 o (Ue ops a.tmps)=true)(h:o.wp P a w K Q) :wpOp P ops Q i K a w:=by
 unfold wpOp;rw [ho];simp only [hg,if_true];exact .inl h
theorem Zil {Qa:Act->Prop}{a:Act}{o:Oper}{rest:List Oper}(ty:ZL)(x:YW)(p:Addr)(v:Zl)(hw:X3 o (Ue ops a.tmps)=true)(ho:o.op= .load ty x)(hx:a.eval x= .pointer (some p))
  (hl: ∀w,w.cell? p=some v->(Gc ty (.pointer (some p))).run P w= .ok v w) (hS: ∀w,S w->w.cell? p=some v) (h:Yl P ops S Qa rest (a.put o.dst v)) :Yl P ops S Qa (o::rest) a:=by
 refine cJ v hw (fun w hc=>?_) h;unfold XU;simp only [ho,hx,Yq,YX,ZY,hl w (hS w hc)]
end
section
variable {P:YV}
theorem NQ (w:Zc)(T e:ZL)(i:KG)(ht:P.underlying T=some (.slice e))(hi:P.info? e=some i) :
  (Xs T 0 #[]).run P w= .ok (.slice (some ⟨w.heap.size,0,none⟩) 0 0) (w.alloc (.cells #[] e)):=by
 simp [Xs,Xf ht,sizeOf,VR,hi,Ba,newRow,go_sem]
theorem OH {o:Oper}{a:Act}{w:Zc}{K:Act->Zc->Prop}{Q:Exit->Act->Zc->Prop}(T e:ZL)(i:KG)(ho:o.op= .buildSlice T 0 #[])(ht:P.underlying T=some (.slice e))(hi:P.info? e=some i)
  (h:K (a.put o.dst (.slice (some ⟨w.heap.size,0,none⟩) 0 0)) (w.alloc (.cells #[] e))) :o.wp P a w K Q:=by
 unfold Jj XU;simp only [ho,JD,Kr,Yq,NQ w T e i ht hi,ZY,YX];exact h
theorem Ox (w:Zc)(T e:ZL)(i:KG)(z v:Zl)(ht:P.underlying T=some (.slice e))(hi:P.info? e=some i)(hz:i.zero=some z)(hs:i.size=1)(GF:z.cells.size=1)(h1:v.cells= #[v]) :
  (Xs T 1 #[(0,v)]).run P w= .ok (.slice (some ⟨w.heap.size,0,none⟩) 1 1) (w.alloc (.cells #[v] e)):=by
 simp [Xs,Xf ht,sizeOf,VR,hi,hs,Ke,hz,Ba,newRow,h1,GF];simp [go_sem]
theorem Kd {o:Oper}{a:Act}{w:Zc}{K:Act->Zc->Prop}{Q:Exit->Act->Zc->Prop}(T e:ZL)(i:KG)(x:YW)(z v:Zl)(ho:o.op= .buildSlice T 1 #[(0,x)])(hx:a.eval x=v)(ht:P.underlying T=some (.slice e))(hi:P.info? e=some i)(hz:i.zero=some z)(hs:i.size=1)(GF:z.cells.size=1)(h1:v.cells= #[v])
  (h:K (a.put o.dst (.slice (some ⟨w.heap.size,0,none⟩) 1 1)) (w.alloc (.cells #[v] e))) :o.wp P a w K Q:=by
 unfold Jj XU;simp only [ho,JD,Xa,Kr,hx,Yq,Ox w T e i z v ht hi hz hs GF h1,ZY,YX];exact h
theorem KL {o:Oper}{a:Act}{w:Zc}{K:Act->Zc->Prop}{Q:Exit->Act->Zc->Prop}{f:FuncId}{xs:Array YW}{ats:Array ZL}(ho:o.op= .call { callee:= .value (.func f),args:=xs,argTypes:=ats})(vs:Array Zl)
  (hvs: #[]++xs.map a.eval++ #[]=vs) (Um: ∀args w,(callFunc f args).run P w= .ok (.enter f args) w) (hC:Zv P f vs w fun e w'=> ∃v,e= .returned v/\K (a.put o.dst v) w') :o.wp P a w K Q:=by
 obtain ⟨dst,op,ty,pos,after,guard⟩:=o
 dsimp only at ho hC
 subst ho;unfold Jj;have e:XU a.eval { dst,op:= .call { callee:= .value (.func f),args:=xs,argTypes:=ats},type:=ty,pos,after,guard}=callFunc f (#[]++xs.map a.eval++ #[]):=rfl;rw [e,Um,hvs];exact hC.mono fun e w' ⟨v,he,hk⟩=>by subst he; exact hk
end
end
section
open Go Go.RowKit
theorem ZJ {w:Zc}{p:Addr}{v:Zl}(o:Obj)(h:w.cell? p=some v) :(w.alloc o).cell? p=some v:=by
 have:=(Zn w.heap.size w).alloc (Zh _) o;exact (this.cell (GW h)).trans h
section
variable {P:YV}
theorem PB {t:ZL}{z:Zl}{n:Nat}(h:(P.info? t).map (fun i=>(i.zero,i.size))=some (some z,n)) : ∃i,P.info? t=some i/\i.zero=some z/\i.size=n:=by
 cases hi:P.info? t with
 | none=>rw [hi] at h; cases h
 | some i=>
  exact zE
theorem Oy (w:Zc)(T e:ZL)(i:KG)(z q v u:Zl)(ht:P.underlying T=some (.slice e))(hi:P.info? e=some i)(hz:i.zero=some z)(hs:i.size=1)(GF:z.cells= #[q])(h1:v.cells= #[v])(h2:u.cells= #[u]) :
  (Xs T 2 #[(0,v),(1,u)]).run P w= .ok (.slice (some ⟨w.heap.size,0,none⟩) 2 2) (w.alloc (.cells #[v,u] e)):=by
 simp [Xs,Xf ht,sizeOf,VR,hi,hs,Ke,hz,Ba,newRow,h1,h2,GF];simp [go_sem]
theorem Qu {o:Oper}{a:Act}{w:Zc}{K:Act->Zc->Prop}{Q:Exit->Act->Zc->Prop}(T e:ZL)(x y:YW)(z q v u:Zl)(ho:o.op= .buildSlice T 2 #[(0,x),(1,y)])(hx:a.eval x=v)(hy:a.eval y=u)(ht:P.underlying T=some (.slice e))(hI:(P.info? e).map (fun i=>(i.zero,i.size))=some (some z,1))(GF:z.cells= #[q])(h1:v.cells= #[v])(h2:u.cells= #[u])
  (h:K (a.put o.dst (.slice (some ⟨w.heap.size,0,none⟩) 2 2)) (w.alloc (.cells #[v,u] e))) :o.wp P a w K Q:=by
 obtain ⟨i,hi,hz,hs⟩:=PB hI;unfold Jj XU;simp only [ho,JD,Xa,Kr,hx,hy,Yq,Oy w T e i z q v u ht hi hz hs GF h1 h2,ZY,YX];exact h
theorem MU (w:Zc)(T e:ZL)(i:KG)(z q v u t:Zl)(ht:P.underlying T=some (.slice e))(hi:P.info? e=some i)(hz:i.zero=some z)(hs:i.size=1)(GF:z.cells= #[q])(h1:v.cells= #[v])(h2:u.cells= #[u])(h3:t.cells= #[t]) :
  (Xs T 3 #[(0,v),(1,u),(2,t)]).run P w= .ok (.slice (some ⟨w.heap.size,0,none⟩) 3 3) (w.alloc (.cells #[v,u,t] e)):=by
 simp [Xs,Xf ht,sizeOf,VR,hi,hs,Ke,hz,Ba,newRow,h1,h2,h3,GF];simp [go_sem]
theorem DY {o:Oper}{a:Act}{w:Zc}{K:Act->Zc->Prop}{Q:Exit->Act->Zc->Prop}(T e:ZL)(x y p:YW)(z q v u t:Zl)(ho:o.op= .buildSlice T 3 #[(0,x),(1,y),(2,p)])(hx:a.eval x=v)(hy:a.eval y=u)(hp:a.eval p=t)(ht:P.underlying T=some (.slice e))(hI:(P.info? e).map (fun i=>(i.zero,i.size))=some (some z,1))(GF:z.cells= #[q])(h1:v.cells= #[v])(h2:u.cells= #[u])(h3:t.cells= #[t])
  (h:K (a.put o.dst (.slice (some ⟨w.heap.size,0,none⟩) 3 3)) (w.alloc (.cells #[v,u,t] e))) :o.wp P a w K Q:=by
 obtain ⟨i,hi,hz,hs⟩:=PB hI;unfold Jj XU;simp only [ho,JD,Xa,Kr,hx,hy,hp,Yq,MU w T e i z q v u t ht hi hz hs GF h1 h2 h3,ZY,YX];exact h
theorem NP (w:Zc)(T e:ZL)(i:KG)(z v u:Zl)(ht:P.underlying T=some (.slice e))(hi:P.info? e=some i)(hz:i.zero=some z)(hs:i.size=2) :
  (Xs T 1 #[(0,.agg #[v,u])]).run P w= .ok (.slice (some ⟨w.heap.size,0,none⟩) 1 1) (w.alloc (.cells #[v,u] e)):=by
 simp [Xs,Xf ht,sizeOf,VR,hi,hs,Ke,hz,Ba,newRow,Value.cells];simp [go_sem]
theorem JB {o:Oper}{a:Act}{w:Zc}{K:Act->Zc->Prop}{Q:Exit->Act->Zc->Prop}(T e:ZL)(x:YW)(z v u:Zl)(ho:o.op= .buildSlice T 1 #[(0,x)])(hx:a.eval x= .agg #[v,u])(ht:P.underlying T=some (.slice e))(hI:(P.info? e).map (fun i=>(i.zero,i.size))=some (some z,2))
  (h:K (a.put o.dst (.slice (some ⟨w.heap.size,0,none⟩) 1 1)) (w.alloc (.cells #[v,u] e))) :o.wp P a w K Q:=by
 obtain ⟨i,hi,hz,hs⟩:=PB hI;unfold Jj XU;simp only [ho,JD,Xa,Kr,hx,Yq,NP w T e i z v u ht hi hz hs,ZY,YX];exact h
end
end
section
open Go Go.ChangeShapes Go.WideShapes Go.RowKit Go.Deep
section
variable {H:Type} {enc:ZL × Zl->H} {P:YV} {w:Zc} {base:Nat} {spare:Nat->Bool} {held:Bool}
theorem open_struct_ints {r:Reach}{b0:Nat}{t:ZL}{fs:Array Field}{v:Zl}{d:DataW H}{p:List MemPlace}(hs:P.underlying t=some (.struct fs))(Ai:oneCellFields P fs=true)(hC:P.cellsOf t=fs.size)
  (hv:Value.okWide P w r b0 t v) (h:DataW.Trod enc P w base spare held t v d p) :
  ∃cs:Array Zl,v= .agg cs/\cs.size=fs.size/\ ∀(j:Nat) (f:Field) (k:IntKind),fs[j]?=some f->P.underlying f.type=some (.int k)-> ∃n,cs[j]?=some (.int k n)/\(YN k n).wf=true:=by
 obtain ⟨cs,rfl,BK⟩:=okWide_struct hs hv;refine ⟨cs,rfl,BK.trans hC,fun j f k hj hk=>?_⟩;obtain ⟨fuel,hf⟩:=h;obtain ⟨xs,n,_,hx,_,hlen,hg⟩:=DataW.trod_struct hs hf;obtain ⟨o,kk⟩:=hone_of Ai j f hj;have Fc:j < fs.size:=(Yj.1 hj).1;have hjc:j < cs.size:=Zf;have h1:=hg j f hj;have hxj:xs[j]?=some (xs[j]'Zf):=Zg Zf;rw [o,kk,hxj] at h1;have hone':((Value.agg cs).cells.toList.drop j).take 1=[cs[j]'hjc]:=by
  have hl:j < cs.toList.length:=by simpa using hjc
  show (cs.toList.drop j).take 1=_;rw [List.drop_eq_getElem_cons hl];simp
 rw [hone'] at h1;obtain ⟨m,hm,_,hw⟩:=DataW.trod_int hk h1;exact ⟨m,by rw [Array.getElem?_eq_getElem hjc]; simpa using hm,hw⟩
end
theorem Qg {P:YV}{fn:Func}{p u:Tmp}{ty:ZL}(h:fn.results= #[.cell p ty,.tmp u])(tmps:Array Zl)(w:Zc)(g:Nat)(t:ZL)(cs:Array Zl)(fr:Nat × Nat)(d:TypeDesc)
  (hp:tmps.getD p undef= .pointer (some ⟨g,0,none⟩)) (hg:w.heap[g]?=some (.cells cs t fr))
  (hu:P.underlying ty=some d) (hd:(match d with | .struct _ | .array _ _=>true | _=>false)=true) (hi:(P.info? ty).map (·.size)=some cs.size) :
  (results fn tmps).run P w= .ok (.tuple #[.agg cs,tmps.getD u undef]) w:=by
 rw [results_cell_tmp h,hp];exact ZfH
theorem FE (w:Zc)(A:Obj)(c c':Array Zl)(t:ZL) :((w.alloc A).alloc (.cells c t)).setRow (w.heap.size+1) c'=(w.alloc A).alloc (.cells c' t):=by
 have:=Zq (w.alloc A) c c' t;exact DI
theorem below_drewN {B:Nat}{a w:Zc}(h:Zp B a w)(n:Nat) :Zp B a (w.drewN n):=⟨h.os,h.tape,h.output,h.size,h.block⟩
theorem Wy {B:Nat}{w w1 w2:Zc}(h:Zp B w w1)(h2:Zp w1.heap.size w1 w2)(hB:B<=w1.heap.size) :Zp B w w2:=h.trans (h2.mono hB)
end
section
open Go Go.ChangeShapes Go.WideShapes Go.RowKit Go.Deep
structure ZN where
 bal:Int
 st:Int
 sl:Bool
 rq:Int
 ex:Int
 wd:Int
 dl:Int
deriving DecidableEq,Inhabited
def ZN.row (v:ZN) :List Zl:= [.int .u64 v.bal,.int .i64 v.st,.bool v.sl,.int .i64 v.rq,.int .i64 v.ex,.int .i64 v.wd,.int .i64 v.dl]
def Ze (v:ZN) :Array Zl:=v.row.toArray
def Yp (v:ZN) :Prop:=(YN .u64 v.bal).wf=true/\(YN .i64 v.st).wf=true
def ZU:ZN:=⟨0,0,false,0,0,0,0⟩
theorem PQ (v:ZN) :v.row.length=7:=rfl
theorem row_one (v:ZN) : ∀u ∈ v.row,u.oneCell'=true:=by
 intro u hu;simp only [ZN.row,ZX,Yk,or_false] at hu
 rcases hu with rfl | rfl | rfl | rfl | rfl | rfl | rfl <;> rfl
theorem Yi (v:ZN) :(Ze v).all (·.oneCell')=true:=by
 refine ZQ.2 (fun u hu=>row_one v u (by simpa [Ze] using hu))
theorem Sy (v:ZN) :(Ze v).size=7:=rfl
theorem Ya:(Tryz.prog.info? 68).map (·.size)=some 7:=ZC
theorem Yp.bal {v:ZN}(h:Yp v) :0<=v.bal/\v.bal<=18446744073709551615:=bounds_u64 h.1
section
variable {P:YV} (w:Zc)
theorem Pk (d:Nat)(xs ys:Array Zl) :
  ∀(fs:List Field),(∀f ∈ fs,f.name≠ "_" /\((∃k n m,P.underlying f.type=some (.int k)/\xs[f.offset]?=some (.int k n)/\ys[f.offset]?=some (.int k m))\/ ∃n m,P.underlying f.type=some .bool/\xs[f.offset]?=some (.bool n)/\ys[f.offset]?=some (.bool m)))->
   ∃r,(Vh (d+1) xs ys fs).run P w= .ok r w/\(r=true ↔ ∀f ∈ fs,xs[f.offset]?=ys[f.offset]?)
 | [],_=>⟨true,by simp [Vh],by simp⟩
 | f::fs,h=>by
  obtain ⟨Ae,h1⟩:=h f ZE;obtain ⟨r,hr,Pw⟩:=Pk d xs ys fs (fun j hj=>h j Ng)
  rcases h1 with ⟨k,n,m,hk,hn,hm⟩ | ⟨n,m,hk,hn,hm⟩
  ·have hp:=Qr w (Gn hk) hn;have Aj:=Qr w (Gn hk) hm;have hq:=run_equalIn_int (P:=P) w d f.type k k n m hk
   by_cases he:n=m
   ·subst he;refine ⟨r,by simp only [Vh,Ae,ne_eq,not_false_eq_true,if_true,Yq,hp,Aj,hq,ZY]; simpa using hr,?_⟩;simp only [ZX,forall_eq_or_imp,hn,hm,true_and];exact Pw
   ·refine ⟨false,by simp only [Vh,Ae,ne_eq,not_false_eq_true,if_true,Yq,hp,Aj,hq,ZY]; simp [he],?_⟩;simp [hn,hm,he]
  ·have hp:=Qr (P:=P) w (e:=f.type) Nf hn;have Aj:=Qr (P:=P) w (e:=f.type) Nf hm;have hq:=run_equalIn_bool' (P:=P) w d f.type n m hk
   by_cases he:n=m
   ·subst he;refine ⟨r,by simp only [Vh,Ae,ne_eq,not_false_eq_true,if_true,Yq,hp,Aj,hq,ZY]; simpa using hr,?_⟩;simp only [ZX,forall_eq_or_imp,hn,hm,true_and];exact Pw
   ·refine ⟨false,by simp only [Vh,Ae,ne_eq,not_false_eq_true,if_true,Yq,hp,Aj,hq,ZY]; simp [he],?_⟩;simp [hn,hm,he]
theorem Rx {t:ZL}{fs:Array Field}(xs ys:Array Zl)(hu:P.underlying t=some (.struct fs))(hp:P.stoodInHeld t=false)
  (hx: ∀f ∈ fs.toList,f.name≠ "_" /\((∃k n m,P.underlying f.type=some (.int k)/\xs[f.offset]?=some (.int k n)/\ys[f.offset]?=some (.int k m))\/ ∃n m,P.underlying f.type=some .bool/\xs[f.offset]?=some (.bool n)/\ys[f.offset]?=some (.bool m))) :
  ∃r,(Op.equalIn 10000 t (.agg xs) (.agg ys)).run P w= .ok r w/\(r=true ↔ ∀f ∈ fs.toList,xs[f.offset]?=ys[f.offset]?):=by
 have hf:P.fieldsOf t=fs:=by simp [Program.fieldsOf,hu]
 rw [run_equalIn_struct w 9999 t xs ys (by rw [hf]; exact hu) hp,hf];exact Pk w 9998 xs ys _ hx
end
theorem Zg2 (x y:ZN)(w:Zc) :(Op.equalIn 10000 68 (.agg (Ze x)) (.agg (Ze y))).run Zb w= .ok (decide (x=y)) w:=by
 obtain ⟨r,hr,Pw⟩:=Rx (P:=Zb) w (Ze x) (Ze y) underlying68 ZC (fun f hf=>by
  simp only [ZX,Yk,or_false] at hf
  rcases hf with rfl | rfl | rfl | rfl | rfl | rfl | rfl
  ·exact ⟨by decide,.inl ⟨.u64,x.bal,y.bal,underlying23,rfl,rfl⟩⟩
  ·exact ⟨by decide,.inl ⟨.i64,x.st,y.st,underlying3,rfl,rfl⟩⟩
  ·exact ⟨by decide,.inr ⟨x.sl,y.sl,underlying4,rfl,rfl⟩⟩
  ·exact ⟨by decide,.inl ⟨.i64,x.rq,y.rq,underlying3,rfl,rfl⟩⟩
  ·exact ⟨by decide,.inl ⟨.i64,x.ex,y.ex,underlying3,rfl,rfl⟩⟩
  ·exact ⟨by decide,.inl ⟨.i64,x.wd,y.wd,underlying3,rfl,rfl⟩⟩
  ·exact ⟨by decide,.inl ⟨.i64,x.dl,y.dl,underlying3,rfl,rfl⟩⟩)
 refine hr.trans ?_;have:r=decide (x=y):=by
  rw [Bool.eq_iff_iff,Pw,decide_eq_true_eq];constructor
  ·intro h;simp only [ZX,Yk,or_false,forall_eq_or_imp,forall_eq] at h;obtain ⟨h0,h1,h2,h3,h4,h5,h6⟩:=h;obtain ⟨a0,a1,a2,a3,a4,a5,a6⟩:=x;obtain ⟨b0,b1,b2,b3,b4,b5,b6⟩:=y;simp [Ze,ZN.row] at h0 h1 h2 h3 h4 h5 h6;simp [*]
  ·rintro rfl;simp
 rw [this]
def XC (l:List ZN) :List Zl:=l.flatMap ZN.row
theorem Mu (l:List ZN) :(XC l).length=l.length*7:=by
 induction l with
 | nil=>rfl
 | cons x l ih=>simp only [XC,Jh,List.length_append,PQ,Yg] at ih ⊢; omega
theorem Ms (l m:List ZN) :XC (l++m)=XC l++XC m:=by simp [XC]
theorem u9 (v:ZN) :XC [v]=v.row:=by simp [XC]
theorem u4 {l:List ZN} : ∀u ∈ XC l,u.oneCell'=true:=by
 intro u hu;obtain ⟨v,_,hv⟩:=List.mem_flatMap.1 hu;exact row_one v u hv
theorem nH {l:List ZN}{i:Nat}{v:ZN}(h:l[i]?=some v){j:Nat}(hj:j < 7) :(XC l)[i*7+j]?=v.row[j]?:=by
 induction l generalizing i with
 | nil=>simp at h
 | cons x l ih=>
  cases i with
  | zero=>
   simp at h;subst h;simp only [XC,Jh,Nat.zero_mul,ZW];rw [List.getElem?_append_left (by rw [PQ]; exact hj)]
  | succ i=>
   simp only [List.getElem?_cons_succ] at h;have:=ih h;simp only [XC,Jh] at this ⊢;rw [List.getElem?_append_right (by rw [PQ]; omega),PQ,show (i+1)*7+j - 7=i*7+j by omega];exact this
theorem N8 {w:Zc}{b off:Nat}{l:List ZN}(h: ∀j u,(XC l)[j]?=some u->w.cell? ⟨b,off+j,none⟩=some u){i:Nat}{v:ZN}(hi:l[i]?=some v) :w.rangeAt b (off+i*7) v.row:=by
 intro j u hu;have hj:j < 7:=(Zk.1 hu).1;rw [Nat.add_assoc];exact h _ _ ((nH hi hj).trans hu)
theorem CZ {w:Zc}{b off:Nat}{l:List ZN}(h: ∀i v,l[i]?=some v->w.rangeAt b (off+i*7) v.row) : ∀j u,(XC l)[j]?=some u->w.cell? ⟨b,off+j,none⟩=some u:=by
 intro j u hu;have hj:j < l.length*7:=by rw [<-Mu]; exact (Zk.1 hu).1
 have hq:j/7 < l.length:=Zf;have hr:j%7 < 7:=Zf;have e:=nH (Zg hq) hr;rw [show j/7*7+j%7=j by omega,hu] at e;have:=h _ _ (Zg hq) (j%7) u e.symm;rwa [show off+j/7*7+j%7=off+j by omega] at this
theorem World.rangeAt.same {w w':Zc}{b o:Nat}{cs:List Zl}(h:w.rangeAt b o cs)(hb:w'.heap[b]?=w.heap[b]?) :w'.rangeAt b o cs:=fun j v hv=>(World.cell?_of_block (w:=w) (a:=⟨b,o+j,none⟩) hb).trans (h j v hv)
theorem Zu.range {w:Zc}{b t:Nat}{v:ZN}(h:Zu w b t (Ze v)) :w.rangeAt b 0 v.row:=fun j u hu=>by
 rw [ZW,h.cell j];simpa [Ze] using hu
def FL (w:Zc)(S:Nat->Prop)(a:Option Addr)(l:List ZN) :Prop:=
 0 < l.length-> ∃b off,a=some ⟨b,off,none⟩/\ ¬S b/\b < w.heap.size/\ ∀i v,l[i]?=some v->w.rangeAt b (off+i*7) v.row
section
variable {w w':Zc} {S T:Nat->Prop} {a:Option Addr} {l:List ZN} {B:Nat}
theorem FL.same (h:FL w S a l)(hs:w.heap.size<=w'.heap.size)(hb: ∀b,b < w.heap.size-> ¬S b->w'.heap[b]?=w.heap[b]?) :FL w' S a l:=fun h0=>by
 obtain ⟨b,off,h1,h2,h3,h4⟩:=h h0;exact ⟨b,off,h1,h2,by omega,fun i v hi=>World.rangeAt.same (h4 i v hi) (hb b h3 h2)⟩
theorem FL.below (h:FL w S a l)(hb:Zp w.heap.size w w') :FL w' S a l:=h.same hb.size fun b XJ _=>hb.block b XJ
theorem FL.at (h:FL w S a l){i:Nat}{v:ZN}(hi:l[i]?=some v) : ∃b off,a=some ⟨b,off,none⟩/\w.rangeAt b (off+i*7) v.row:=by
 obtain ⟨b,off,h1,_,_,h4⟩:=h mL;exact ⟨b,off,h1,h4 i v hi⟩
theorem FL.flat (h:FL w S a l)(h0:0 < l.length) : ∃ad,a=some ad/\ ∀j u,(XC l)[j]?=some u->w.cell? (ad.add j)=some u:=by
 obtain ⟨b,off,h1,_,_,h4⟩:=h h0;refine ⟨⟨b,off,none⟩,h1,fun j u hu=>?_⟩;rw [add_plain];exact CZ h4 j u hu
end
section
variable {P:YV} {ops:Array Oper} {rest:List Oper} {op:Oper} {a:Act} {w:Zc} {Q:Exit->Act->Zc->Prop}
theorem YT (DD:op.guard=none)(ty:ZL)(x:YW)(ho:op.op= .load ty x)
  (b o:Nat) (hx:a.eval x= .pointer (some ⟨b,o,none⟩)) (v:ZN) (d:TypeDesc) (hc:w.rangeAt b o v.row)
  (hu:P.underlying ty=some d) (hd:d.isRow=true) (hi:(P.info? ty).map (·.size)=some 7)
  (h:Y2 P ops Q rest (a.put op.dst (.agg (Ze v))) w) :Y2 P ops Q (op::rest) a w:=
 Jt DD ty x ho b o hx v.row d hc hu hd hi h
theorem Vv {C:Zc->Prop}{Qa:Act->Prop}(ty:ZL)(x:YW)(b o:Nat)(v:ZN)(d:TypeDesc)(hw:X3 op (Ue ops a.tmps)=true)(ho:op.op= .load ty x)(hx:a.eval x= .pointer (some ⟨b,o,none⟩))
  (hC: ∀w,C w->w.rangeAt b o v.row) (hu:P.underlying ty=some d) (hd:d.isRow=true) (hi:(P.info? ty).map (·.size)=some 7)
  (h:Yl P ops C Qa rest (a.put op.dst (.agg (Ze v)))) :Yl P ops C Qa (op::rest) a:=by
 unfold Yl;rw [if_pos hw];refine ⟨_,fun w hc=>?_,h⟩;unfold V8 XU;simp only [ho,hx,Gc,Instr.sureAddr,Yq,YX,ZY,run_loadVar_mid w b o ty v.row d (hC w hc) hu hd hi];exact Gw
end
end
section
open Go Go.RowKit Go.Deep
def QG (s:Int) :Bool:=decide (s=2\/s=3)
def Zw:List ZN->Int
 | []=>0
 | v::l=>v.bal+Zw l
def XN (v:ZN) :Int:=if QG v.st=true then v.bal else 0
def Yh:List ZN->Int
 | []=>0
 | v::l=>XN v+Yh l
def Xj:List ZN->Int->Int
 | [],_=>0
 | v::l,s=>(if v.st=s then 1 else 0)+Xj l s
theorem Au {v:ZN}(h:0<=v.bal) :0<=XN v/\XN v<=v.bal:=by unfold XN; split <;> omega
theorem Gq (l m:List ZN) :Zw (l++m)=Zw l+Zw m:=by
 induction l with
 | nil=>simp [Zw]
 | cons v l ih=>simp only [Yf,Zw,ih]; omega
theorem Fx (l m:List ZN) :Yh (l++m)=Yh l+Yh m:=by
 induction l with
 | nil=>simp [Yh]
 | cons v l ih=>simp only [Yf,Yh,ih]; omega
theorem D6 (l m:List ZN)(s:Int) :Xj (l++m) s=Xj l s+Xj m s:=by
 induction l with
 | nil=>simp [Xj]
 | cons v l ih=>simp only [Yf,Xj,ih]; omega
theorem JP {l:List ZN}(h: ∀v ∈ l,Yp v) :0<=Zw l:=by
 induction l with
 | nil=>simp [Zw]
 | cons v l ih=>
  have h1:=(h v ZE).bal;have h2:=ih (fun x hx=>h x Dp);simp only [Zw]; omega
theorem Da {l:List ZN}(h: ∀v ∈ l,Yp v) :0<=Yh l/\Yh l<=Zw l:=by
 induction l with
 | nil=>simp [Zw,Yh]
 | cons v l ih=>
  have h1:=Au (h v ZE).bal.1;have h2:=ih (fun x hx=>h x Dp);simp only [Zw,Yh]; omega
theorem Gg (l:List ZN)(s:Int) :0<=Xj l s/\Xj l s<=l.length:=by
 induction l with
 | nil=>simp [Xj]
 | cons v l ih=>
  simp only [Xj,Yg]
  split <;> omega
theorem Cg {l:List ZN}{i:Nat}{old:ZN}(h:l[i]?=some old) : ∃l1 l2,l=l1++old::l2/\ ∀v,l.set i v=l1++v::l2:=by
 have hi:=(Zk.1 h).1;have he:=(Zk.1 h).2;refine ⟨l.take i,l.drop (i+1),?_,fun v=>?_⟩
 ·rw [<-he];rw [List.getElem_cons_drop,List.take_append_drop]
 ·rw [List.set_eq_take_append_cons_drop,if_pos hi]
theorem J4 {l:List ZN}{i:Nat}{old:ZN}(h:l[i]?=some old)(v:ZN) :Zw (l.set i v)=Zw l - old.bal+v.bal:=by
 obtain ⟨l1,l2,h1,h2⟩:=Cg h;rw [h2,h1,Gq,Gq];simp only [Zw]; omega
theorem Hn {l:List ZN}{i:Nat}{old:ZN}(h:l[i]?=some old)(v:ZN) :Yh (l.set i v)=Yh l - XN old+XN v:=by
 obtain ⟨l1,l2,h1,h2⟩:=Cg h;rw [h2,h1,Fx,Fx];simp only [Yh]; omega
theorem IJ {l:List ZN}{i:Nat}{old:ZN}(h:l[i]?=some old)(v:ZN)(s:Int) :Xj (l.set i v) s=Xj l s -(if old.st=s then 1 else 0)+(if v.st=s then 1 else 0):=by
 obtain ⟨l1,l2,h1,h2⟩:=Cg h;rw [h2,h1,D6,D6];simp only [Xj]; omega
def J3 (w:Zc)(b m:Nat)(s:Zl)(cap:Nat)(c:Int->Int)(A T:Int) :Prop:=
 Zu w b 146 #[.int .i64 cap,s,.map (some m),.int .u64 A,.int .u64 T]/\QQ w m c
def OY (w:Zc)(b:Nat)(S:Nat->Prop)(cap:Nat)(l:List ZN) :Prop:=
 ∃m s,J3 w b m s cap (Xj l) (Yh l) (Zw l)/\w.ownsRow 0 68 7 s l.length (XC l)/\1<=cap/\cap<=4096/\l.length<=cap/\Zw l<=18446744073709551615/\(∀v ∈ l,Yp v)/\ ∀i,S i ↔ i=b\/i=m\/s.ownBlock=some i
section
variable {w w':Zc} {b m cap:Nat} {s:Zl} {S T:Nat->Prop} {l:List ZN} {c:Int->Int} {A Tt:Int}
theorem J3.ne (h:J3 w b m s cap c A Tt) :b≠m:=by
 rintro rfl;obtain ⟨h1,es,clock,h2,_⟩:=h;unfold Zu at h1;rw [h1] at h2
 cases h2
theorem J3.cells (h:J3 w b m s cap c A Tt) :w.cell? ⟨b,0,none⟩=some (.int .i64 cap)/\w.cell? ⟨b,1,none⟩=some s/\w.cell? ⟨b,2,none⟩=some (.map (some m))/\w.cell? ⟨b,3,none⟩=some (.int .u64 A)/\w.cell? ⟨b,4,none⟩=some (.int .u64 Tt):=
 ⟨h.1.cell 0,h.1.cell 1,h.1.cell 2,h.1.cell 3,h.1.cell 4⟩
theorem J3.same (h:J3 w b m s cap c A Tt)(hb:w'.heap[b]?=w.heap[b]?)(hm:w'.heap[m]?=w.heap[m]?) :J3 w' b m s cap c A Tt:=⟨hb.trans h.1,h.2.same hm⟩
theorem UT {n:Nat}{xs:List Zl}(h:w.ownsRow 0 68 7 s n xs) : ∃a cp,s= .slice a n cp/\n<=cp/\cp<=maxLen:=Zi6
theorem F8 {l:List ZN}{a:Option Addr}{cp:Nat}(h:w.ownsRow 0 68 7 (.slice a l.length cp) l.length (XC l))(hS: ∀i,(Value.slice a l.length cp).ownBlock=some i-> ¬S i) :FL w S a l:=fun h0=>by
 rcases h.2 with ⟨h1,h2⟩ | ⟨g,Bg,cur,h1,_,h3,_⟩
 ·omega
 ·injection h1 with h1 _ _;subst h1;refine ⟨g,0,rfl,hS g rfl,(Yj.1 h3).1,fun i v hi=>?_⟩;exact N8 (fun j u hu=>by
   have:=h.cells rfl j u hu;rwa [add_plain] at this) hi
theorem Va {n:Nat}{xs:List Zl}(h:w.ownsRow 0 68 7 s n xs)(hb: ∀i,s.ownBlock=some i->w'.heap[i]?=w.heap[i]?) :w'.ownsRow 0 68 7 s n xs:=yI
theorem OY.lt (h:OY w b S cap l) : ∀i,S i->i < w.heap.size:=fun i hi=>by
 obtain ⟨m,s,h1,h2,_,_,_,_,_,hS⟩:=h
 rcases (hS i).1 hi with rfl | rfl | hs
 ·exact h1.1.lt
 ·exact h1.2.lt
 ·exact (h2.lt i hs).2
theorem OY.same (h:OY w b S cap l)(hb: ∀i,S i->w'.heap[i]?=w.heap[i]?) :OY w' b S cap l:=by
 obtain ⟨m,s,h1,h2,h3,h4,h5,h6,h7,hS⟩:=h;exact ⟨m,s,h1.same (hb b ((hS b).2 (.inl rfl))) (hb m ((hS m).2 (.inr (.inl rfl)))),Va h2 (fun i hi=>hb i ((hS i).2 (.inr (.inr hi)))),h3,h4,h5,h6,h7,hS⟩
theorem OY.kept (h:OY w b S cap l)(k:ZA T w w')(hT: ∀i,S i-> ¬T i) :OY w' b S cap l:=h.same fun i hi=>k.block i (h.lt i hi) (hT i hi)
theorem OY.below (h:OY w b S cap l)(k:Zp w.heap.size w w') :OY w' b S cap l:=h.same fun i hi=>k.block i (h.lt i hi)
theorem OY.fits (h:OY w b S cap l) :1<=cap/\cap<=4096/\l.length<=cap/\Zw l<=18446744073709551615/\ ∀v ∈ l,Yp v:=by
 obtain ⟨m,s,h1,h2,h3,h4,h5,h6,h7,hS⟩:=h;exact ⟨h3,h4,h5,h6,h7⟩
theorem OY.cells (h:OY w b S cap l) : ∃m a cp,w.cell? ⟨b,0,none⟩=some (.int .i64 cap)/\w.cell? ⟨b,1,none⟩=some (.slice a l.length cp)/\w.cell? ⟨b,2,none⟩=some (.map (some m))/\w.cell? ⟨b,3,none⟩=some (.int .u64 (Yh l))/\w.cell? ⟨b,4,none⟩=some (.int .u64 (Zw l))/\
  l.length<=cp/\cp<=maxLen/\QQ w m (Xj l)/\FL w (fun _=>False) a l:=by
 obtain ⟨m,s,h1,h2,h3,h4,h5,h6,h7,hS⟩:=h;obtain ⟨a,cp,rfl,q1,q2⟩:=UT h2;exact ⟨m,a,cp,h1.cells.1,h1.cells.2.1,h1.cells.2.2.1,h1.cells.2.2.2.1,h1.cells.2.2.2.2,q1,q2,h1.2,F8 h2 (fun _ _ h=>h)⟩
end
theorem MF (s:Int)(w:Zc) :Y6 103 #[.int .i64 s] w (.bool (QG s)):=by
 by_cases h2:s=2
 ·subst h2;exact ZfP
 ·by_cases h3:s=3
  ·subst h3;exact ZfP
  ·have hb:Zj (QG s=false):=Za (by unfold QG; simp [h2,h3]);go_enter func103,ntmps103;go_wp2;go_ret;exact ⟨by rw [hb.o]; simp [h2,h3],rfl⟩
theorem iu (s:Int)(w:Zc) :Y6 117 #[.int .i64 s] w (.bool (QG s)):=by
 by_cases h2:s=2
 ·subst h2;exact ZfQ
 ·by_cases h3:s=3
  ·subst h3;exact ZfQ
  ·have hb:Zj (QG s=false):=Za (by unfold QG; simp [h2,h3]);go_enter func117,ntmps117;go_wp2;go_ret;exact ⟨by rw [hb.o]; simp [h2,h3],rfl⟩
theorem ZcC (s:Nat)(w:Zc)(h:1<=s)(h2:s<=4096) :
  Zv Zb 75 #[.int .i64 s] w fun e w'=>e= .returned (.pointer (some ⟨w.heap.size+1,0,none⟩))/\(w.alloc (.map #[] 0)).alloc (.cells #[.int .i64 s,.slice none 0 0,.map (some w.heap.size),.int .u64 0,.int .u64 0] 146)=w':=by
 have h0: ¬(s:Int)< 1:=Zf;have h3: ¬(4096:Int)< (s:Int):=Zf;have LF:= @run_makeMap Zb;go_enter func75,ntmps75;exact UD
theorem ll (cap:Nat)(w:Zc)(h:1<=cap)(h2:cap<=4096) :
  Zv Zb 75 #[.int .i64 cap] w fun e w'=> ∃b S,e= .returned (.pointer (some ⟨b,0,none⟩))/\OY w' b S cap []/\(∀i,S i->w.heap.size<=i)/\Zp w.heap.size w w':=by
 refine (ZcC cap w h h2).mono ?_;rintro e w' ⟨rfl,rfl⟩;refine ⟨w.heap.size+1,fun i=>i=w.heap.size+1\/i=w.heap.size,rfl,⟨w.heap.size,.slice none 0 0,⟨?_,?_⟩,World.ownsRow_nil _ _ _ _,h,h2,by simp,by simp [Zw],by simp,fun i=>by simp [Value.ownBlock]⟩,fun i hi=>by omega,?_⟩
 ·have:=Zs (w.alloc (.map #[] 0)) 146 #[.int .i64 cap,.slice none 0 0,.map (some w.heap.size),.int .u64 0,.int .u64 0];simpa [Yh,Zw] using this
 ·exact ((WJ w).alloc _).congr (fun q=>by simp [Xj])
 ·exact ZfT
theorem ch (b n cp:Nat)(a:Option Addr)(w:Zc)(h:w.cell? ⟨b,1,none⟩=some (.slice a n cp)) :Y6 120 #[.pointer (some ⟨b,0,none⟩)] w (.int .i64 n):=by
 go_enter func120,ntmps120;exact UD
theorem jE (b:Nat)(A:Int)(w:Zc)(h:w.cell? ⟨b,3,none⟩=some (.int .u64 A)) :Y6 44 #[.pointer (some ⟨b,0,none⟩)] w (.int .u64 A):=by
 go_enter func44,ntmps44;exact UD
theorem Ni (w:Zc) :(Ke 3).run Zb w= .ok (.int .i64 0) w:=by
 obtain ⟨i,hi,hz,_⟩:=PB (P:=Zb) (t:=3) (z:= .int .i64 0) (n:=1) ZC;simp [Ke,VR,hi,hz,Xd]
theorem ql (b m:Nat)(c:Int->Int)(s:Int)(w:Zc)(h:w.cell? ⟨b,2,none⟩=some (.map (some m)))(hc:QQ w m c)(hs:(YN .i64 s).wf=true) :
  Y6 261 #[.pointer (some ⟨b,0,none⟩),.int .i64 s] w (.int .i64 (c s)):=by
 have hl:=hc.lookup underlying3 underlying144 (Ni w) hs;generalize c s=q at*;clear hc;go_enter func261,ntmps261;exact UD
theorem Zb0 (p:Option Addr)(i:Int)(w:Zc)(h:i < 0) :Y6 176 #[.pointer p,.int .i64 i] w (.bool false):=by
 have h1: ¬0<=i:=Zf;go_enter func176,ntmps176;exact UD
theorem nP (b n cp:Nat)(a:Option Addr)(i:Int)(w:Zc)(h:w.cell? ⟨b,1,none⟩=some (.slice a n cp))(ho:i < 0\/n<=i) :Y6 176 #[.pointer (some ⟨b,0,none⟩),.int .i64 i] w (.bool false):=by
 by_cases h0:i < 0
 ·exact Zb0 _ i w h0
 ·have h1:0<=i:=Zf;have h2: ¬i < n:=Zf;clear ho;go_enter func176,ntmps176;go_wp2_with fail;refine (ch b n cp a _ h).mono ?_;rintro e w' ⟨rfl,rfl⟩;go_wp2;go_ret;exact ⟨Uo Xo,rfl⟩
theorem bP (b n cp i:Nat)(a:Option Addr)(w:Zc)(h:w.cell? ⟨b,1,none⟩=some (.slice a n cp))(ho:i < n) :Y6 176 #[.pointer (some ⟨b,0,none⟩),.int .i64 i] w (.bool true):=by
 have h1:(0:Int)<=i:=Zf;have h2:(i:Int)< n:=Zf;go_enter func176,ntmps176;go_wp2_with fail;refine (ch b n cp a _ h).mono ?_;exact zu
end
section
open Go Go.RowKit Go.Deep
theorem Gr {P:YV}{ops:Array Oper}{rest:List Oper}{o:Oper}{a:Act}{w:Zc}{Q:Exit->Act->Zc->Prop}(hg:o.guard=none)(t:ZL)(parts:Array (Nat × YW))(ho:o.op= .build t parts)(v:ZN)
  (hf:P.built t (parts.map fun (i,x)=>(i,a.eval x)).toList=some (Ze v)) (h:Y2 P ops Q rest (a.put o.dst (.agg (Ze v))) w) :Y2 P ops Q (o::rest) a w:=
 wpList_build hg t parts ho CD CB
theorem Zg8 (p:Option Addr)(i:Int)(w:Zc)(h: ∀w',Zp w.heap.size w w'->Zv Zb 176 #[.pointer p,.int .i64 i] w' fun e w''=>e= .returned (.bool false)/\w'=w'') :
  Z3 126 #[.pointer p,.int .i64 i] w (.tuple #[.agg (Ze ZU),.bool false]):=by
 have H:=Za (h (w.alloc (.cells (Ze ZU) 68)) ((Zn _ _).alloc (Zh _) _));clear h;go_enter func126,ntmps126;go_wp2_with fail;refine H.o.mono ?_;rintro e w' ⟨rfl,rfl⟩;go_wp2_with (first | (refine Gr rfl 68 _ rfl ZU ZC ?_) | (refine Up w.heap.size (Ze ZU) 68 (ZB w _) Ya (Yi _) ?_; rw [Zq]));exact Ye (v:= .tuple #[.agg (Ze ZU),.bool false]) (Qg (fn:=Tryz.f126) rfl _ _ w.heap.size 68 _ (0,0) _ rfl (ZB w _) underlying68 rfl Ya) rfl ⟨rfl,(Zn _ _).alloc (Zh _) _⟩
theorem Zg7 (b n cp i g off:Nat)(v:ZN)(w:Zc)(h:w.cell? ⟨b,1,none⟩=some (.slice (some ⟨g,off,none⟩) n cp))(hi:i < n)(hr:w.rangeAt g (off+i*7) v.row) :
  Z3 126 #[.pointer (some ⟨b,0,none⟩),.int .i64 i] w (.tuple #[.agg (Ze v),.bool true]):=by
 have hB:=(Zn w.heap.size w).alloc (Zh _) (.cells (Ze ZU) 68);have h1:(w.alloc (.cells (Ze ZU) 68)).cell? ⟨b,1,none⟩=some (.slice (some ⟨g,off,none⟩) n cp):=ZJ _ h;have wh:(w.alloc (.cells (Ze ZU) 68)).rangeAt g (off+i*7) v.row:=fun j u hu=>ZJ _ (hr j u hu)
 have H:=Za (bP b n cp i (some ⟨g,off,none⟩) _ h1 hi);have HR:=Za wh;have hi1: ¬(i:Int)< 0:=Zf;have Gi: ¬(n:Int)<=(i:Int):=Zf;have hi3:(i:Int)< (n:Int):=Zf;clear h hr wh;go_enter func126,ntmps126;go_wp2_with fail;refine H.o.mono ?_;rintro e w' ⟨rfl,rfl⟩;go_wp2_with (first | (refine YT rfl 68 _ rfl g (off+i*7) rfl v _ HR.o underlying68 rfl Ya ?_) | (refine Up w.heap.size (Ze v) 68 (ZB w _) Ya (Yi v) ?_; rw [Zq]));exact Ye (v:= .tuple #[.agg (Ze v),.bool true]) (Qg (fn:=Tryz.f126) rfl _ _ w.heap.size 68 _ (0,0) _ rfl (ZB w _) underlying68 rfl Ya) rfl ⟨rfl,(Zn _ _).alloc (Zh _) _⟩
end
section
open Go Go.RowKit Go.Maps
open Go.ChangeMaps (setBlock heap_setBlock_same heap_setBlock_other)
def Kx (w:Zc)(b:Nat)(L:List (Zl × Zl)) :Prop:=
 ∃es clock,w.heap[b]?=some (.map es clock)/\(es.toList.map fun e=>(e.key,e.val)).Perm L
section
variable {P:YV} {w w':Zc} {b B:Nat} {L:List (Zl × Zl)} {t k e:ZL}
theorem Kx.perm {M:List (Zl × Zl)}(h:Kx w b L)(hp:L.Perm M) :Kx w b M:=by
 obtain ⟨es,clock,h1,h2⟩:=h;exact ⟨es,clock,h1,h2.trans hp⟩
theorem Cn (w:Zc) :Kx (w.alloc (.map #[] 0)) w.heap.size []:=⟨#[],0,(MapKept.heap_alloc w _).1,.nil⟩
theorem Kx.keys {es:Array MapEntry}(hp:(es.toList.map fun e=>(e.key,e.val)).Perm L)(Bh: ∀p ∈ L,∃l,keyOf P k p.1=some l) : ∀x ∈ es.toList,∃l,keyOf P k x.key=some l:=
 fun x hx=>Bh _ (hp.mem_iff.1 (Yc.2 ⟨x,hx,rfl⟩))
theorem Kx.lookup (h:Kx w b L)(K:Keyed P k)(ht:P.underlying t=some (.map k e)){z:Zl}(hz:(Ke e).run P w= .ok z w)(Bh: ∀p ∈ L,∃l,keyOf P k p.1=some l){key:Zl}{kl:Lit}(FZ:keyOf P k key=some kl) :
  (∃v,(key,v) ∈ L/\(J5 t (.map (some b)) key true).run P w= .ok (.tuple #[v,.bool true]) w)\/
   ((∀p ∈ L,p.1≠key)/\(J5 t (.map (some b)) key true).run P w= .ok (.tuple #[z,.bool false]) w):=by
 obtain ⟨es,clock,hb,hp⟩:=h
 rcases K.find w FZ es.toList (Kx.keys hp Bh) with ⟨h1,h2⟩ | ⟨j,e0,h1,h2,h3⟩
 ·refine .inr ⟨fun p Aj e=>?_,by simp [J5,Xf ht,Qy hb,K.check w _ FZ,h1,hz,Xd]⟩;obtain ⟨x,hx,rfl⟩:=Yc.1 (hp.mem_iff.2 Aj);exact h2 x hx e
 ·refine .inl ⟨e0.val,hp.mem_iff.1 (Yc.2 ⟨e0,Zz h2,by rw [h3]⟩),by simp [J5,Xf ht,Qy hb,K.check w _ FZ,h1,Xd]⟩
theorem Kx.insert (h:Kx w b L)(K:Keyed P k)(ht:P.underlying t=some (.map k e))(Bh: ∀p ∈ L,∃l,keyOf P k p.1=some l){key val:Zl}{kl:Lit}(FZ:keyOf P k key=some kl)(Kj: ∀p ∈ L,p.1≠key) :
  ∃w',(GS t (.map (some b)) key val).run P w= .ok () w'/\Kx w' b ((key,val)::L)/\w.grownBy w' (some b):=by
 obtain ⟨es,clock,hb,hp⟩:=h
 rcases K.find w FZ es.toList (Kx.keys hp Bh) with ⟨h1,h2⟩ | ⟨j,e0,h1,h2,h3⟩
 ·refine ⟨setBlock w b (.map (es.push ⟨key,val,clock⟩) (clock+1)),?_,⟨_,_,heap_setBlock_same hb _,?_⟩,⟨rfl,rfl,rfl,by simp [setBlock],fun i _ hi=>heap_setBlock_other hb _ (fun e=>hi FK)⟩⟩
  ·simp [GS,Xf ht,Qy hb,K.check w false FZ,h1,MapKept.run_setObj_map _ hb,Xd,setBlock]
  ·rw [Array.toList_push,List.map_append];exact (List.perm_append_singleton _ _).trans (hp.cons _)
 ·exact absurd h3 (Kj _ (hp.mem_iff.1 (Yc.2 ⟨e0,Zz h2,rfl⟩)))
theorem aL {o:Oper}{a:Act}{K':Act->Zc->Prop}{Q:Exit->Act->Zc->Prop}(h:Kx w b L)(K:Keyed P k)(m x v:YW)(ho:o.op= .insert t m x v)(hd:o.dst=none)(key val:Zl)(hm:a.eval m= .map (some b))(hx:a.eval x=key)(hv:a.eval v=val)
  (ht:P.underlying t=some (.map k e)) (Bh: ∀p ∈ L,∃l,keyOf P k p.1=some l) {kl:Lit} (FZ:keyOf P k key=some kl) (Kj: ∀p ∈ L,p.1≠key)
  (hK: ∀w',Kx w' b ((key,val)::L)->w.grownBy w' (some b)->K' a w') :o.wp P a w K' Q:=by
 obtain ⟨w',BJ,r1,r2⟩:=h.insert K ht Bh FZ Kj (val:=val);have fQ:=hK w' r1 r2;unfold Jj;simp [XU,ho,hm,hx,hv,BJ,Xd];show K' (a.put o.dst undef) w';rw [hd];exact fQ
end
section
variable {P:YV} {ops:Array Oper} {Q:Exit->Act->Zc->Prop} {md:J9} {S:Zc->Prop} {n:Nat} {L:Array Bool->Act->Zc->Prop}
theorem IV (J:Nat->Array Bool->Zc->Prop)(a:Act)
  (ZeA: ∀f Zt w,J (f+1) Zt w->YA md ops Zt≠ []/\ ∀i ∈ YA md ops Zt,i < n/\wpOp P ops Q i (fun a' w'=>a'=a/\S w'/\J f (Zt.setIfInBounds i true) w') a w)
  (Ub: ∀Zt w,J 0 Zt w->L Zt a w) : ∀f Zt w,J f Zt w->Qh P md ops Q S n L f Zt a w
 | 0,Zt,w,h=>Ub Zt w h
 | f+1,Zt,w,h=>by
  obtain ⟨h1,h2⟩:=ZeA f Zt w h;exact ⟨h1,fun i hi=>⟨(h2 i hi).1,wpOp_mono (fun a' w' ⟨ha,hS,hJ⟩=>⟨hS,by subst ha; exact IV J a' ZeA Ub f _ w' hJ⟩) (h2 i hi).2⟩⟩
def tK (ent:Nat->Zl × Zl)(at_:Nat->Nat)(base:Array Bool)(N b:Nat)(w0:Zc)(f:Nat)(Zt:Array Bool)(w:Zc) :Prop:=
 ∃D R:List Nat,R.length=f/\(D++R).Perm (YO N)/\Zt.size=base.size/\(∀i,Zt.getD i true=(base.getD i true||D.any fun j=>at_ j==i))/\Kx w b (D.map ent)/\Zp w0.heap.size w0 w/\w0.heap.size<=b
theorem lg {ent:Nat->Zl × Zl}{at_:Nat->Nat}{base:Array Bool}{N b:Nat}{w0 w:Zc}(h:Kx w b [])(hb:Zp w0.heap.size w0 w)(h0:w0.heap.size<=b) :tK ent at_ base N b w0 N base w:=
 ⟨[],YO N,by simp,by simp,rfl,by simp,h,hb,h0⟩
theorem wO {ent:Nat->Zl × Zl}{at_:Nat->Nat}{base Zt:Array Bool}{N b:Nat}{w0 w:Zc}(h:tK ent at_ base N b w0 0 Zt w) :
  (∀i,Zt.getD i true=(base.getD i true||(YO N).any fun j=>at_ j==i))/\Zt.size=base.size/\Kx w b ((YO N).map ent)/\Zp w0.heap.size w0 w/\w0.heap.size<=b:=by
 obtain ⟨D,R,hR,hp,hs,hl,ht,hb,h0⟩:=h;obtain rfl:=List.eq_nil_of_length_eq_zero hR;rw [List.append_nil] at hp;exact ⟨fun i=>by rw [hl i,hp.any_eq],hs,ht.perm (hp.map _),hb,h0⟩
def ZhY (md:J9)(ops:Array Oper)(n:Nat)(base:Array Bool)(N:Nat)(at_:Nat->Nat) :Bool:=
 ((YO N).all fun j=>((YO N).all fun j'=>!(at_ j==at_ j')||j==j')&&!(base.getD (at_ j) true)&&Nat.blt (at_ j) n&&
  (match ops[at_ j]? with | some o=>o.after.all fun e=>!(Xp md e)||base.getD e.on false | none=>false))&&
 (YO base.size).all fun i=>base.getD i true||((YO N).any fun j=>at_ j==i)||
  ((YO N).all fun j=>(YO base.size).any fun i'=>!(base.getD i' true)&&Region.waitsFor md ops i i'&&(i'==at_ j||(YO N).all fun j'=>!(at_ j'==i')))
theorem rr {ent:Nat->Zl × Zl}{at_:Nat->Nat}{base:Array Bool}{N b:Nat}{w0:Zc}{a:Act}(hB:ZhY md ops n base N at_=true)
  (hwp: ∀j D w,j < N->(∀x ∈ D,x < N/\x≠j)->Kx w b (D.map ent)-> ∀K:Act->Zc->Prop,(∀w',Kx w' b ((j::D).map ent)->w.grownBy w' (some b)->K a w')->wpOp P ops Q (at_ j) K a w) (hS: ∀w,S w)
  (f:Nat) (Zt:Array Bool) (w:Zc) (h:tK ent at_ base N b w0 (f+1) Zt w) :
  YA md ops Zt≠ []/\ ∀i ∈ YA md ops Zt,i < n/\wpOp P ops Q i (fun a' w'=>a'=a/\S w'/\tK ent at_ base N b w0 f (Zt.setIfInBounds i true) w') a w:=by
 simp only [ZhY,YL,YP,List.any_eq_true,XT,Ug,Vb,beq_iff_eq,beq_eq_false_iff_ne,ne_eq] at hB;have kz: ∀j j',j < N->j' < N->at_ j=at_ j'->j=j':=fun j j' h1 h2 he=>((hB.1 j h1).1.1.1 j' h2).resolve_left (fun h=>h he)
 have NU: ∀j,j < N->base.getD (at_ j) true=false:=fun j h1=>(hB.1 j h1).1.1.2
 have XJ: ∀j,j < N->at_ j < n:=fun j h1=>by simpa using (hB.1 j h1).1.2
 have hready: ∀j,j < N-> ∃o,ops[at_ j]?=some o/\ ∀e ∈ o.after,Xp md e=true->base.getD e.on false=true:=fun j h1=>by
  have:=(hB.1 j h1).2
  cases ho:ops[at_ j]? with
  | none=>rw [ho] at this; cases this
  | some o=>
   rw [ho] at this;refine ⟨o,rfl,fun e he hb=>?_⟩;have:=ZQ.1 this e he;simpa [hb] using this
 have wj: ∀i,base.getD i true=false->(∃j,j < N/\at_ j=i)\/ ∀j,j < N-> ∃i',base.getD i' true=false/\Region.waitsFor md ops i i'=true/\((∀j',j' < N->at_ j'≠i')\/i'=at_ j):=fun i hi=>by
  have hib:i < base.size:=Zfk
  rcases hB.2 i hib with (h1 | h1) | h1
  ·rw [hi] at h1; cases h1
  ·exact .inl h1
  ·refine .inr fun j hj=>?_
   obtain ⟨i',_,⟨h2,h3⟩,h4⟩:=h1 j hj;exact ⟨i',h2,h3,h4.symm⟩
 clear hB;obtain ⟨D,R,hR,hp,hs,hl,ht,hb,h0⟩:=h;have vX:(D++R).Nodup:=hp.nodup_iff.2 List.nodup_range;have D8: ∀j,j < N ↔ j ∈ D\/j ∈ R:=fun j=>by rw [<-XT,<-hp.mem_iff,List.mem_append]
 have hDR: ∀j ∈ R,j ∉ D:=fun j hj hd=>(List.nodup_append.1 vX).2.2 j hd j hj rfl
 have jt: ∀j ∈ R,Zt.getD (at_ j) true=false:=fun j hj=>by
  rw [hl,NU j ((D8 j).2 (.inr hj)),Bool.false_or,List.any_eq_false];intro j' SI he;obtain rfl:=kz j' j ((D8 j').2 (.inl SI)) ((D8 j).2 (.inr hj)) (by simpa using he);exact hDR j' hj SI
 cases R with
 | nil=>simp at hR
 | cons r R=>
  have hbd: ∀i,base.getD i false=true->Zt.getD i false=true:=fun i hi=>by
   have hib:i < base.size:=Zfk
   have h2:=hl i;have h3:base.getD i true=true:=by simp [hib] at hi ⊢; exact hi
   rw [h3,Bool.true_or] at h2;simp [hs,hib] at h2 ⊢;exact h2
  refine ⟨fun he=>?_,fun i hi=>?_⟩
  ·have hrN:r < N:=(D8 r).2 (.inr ZE);obtain ⟨o,ho,Bh⟩:=hready r hrN;have:at_ r ∈ YA md ops Zt:=VQ.2 ⟨jt r ZE,o,ho,fun e he hbi=>hbd _ (Bh e he hbi)⟩;rw [he] at this
   cases this
  ·obtain ⟨bW,o,ho,Bh⟩:=VQ.1 hi;have hub:base.getD i true=false:=by
    have:=hl i;rw [bW] at this;simp only [Bool.false_eq,Bool.or_eq_false_iff] at this;exact this.1
   rcases wj i hub with ⟨j,hj,rfl⟩ | hw
   ·have hjD:j ∉ D:=fun hd=>by
     have:=hl (at_ j);rw [bW] at this;simp only [Bool.false_eq,Bool.or_eq_false_iff,List.any_eq_false] at this;exact this.2 j hd ZE
    have hjR:j ∈ r::R:=((D8 j).1 hj).resolve_left hjD;refine ⟨XJ j hj,hwp j D w hj (fun x hx=>⟨(D8 x).2 (.inl hx),fun e=>hjD (e▸hx)⟩) ht _ fun w' ht' hg=>⟨rfl,hS w',j::D,(r::R).erase j,?_,?_,by simpa using hs,fun i=>?_,ht',?_,h0⟩⟩
    ·rw [List.length_erase_of_mem hjR];omega
    ·refine List.Perm.trans ?_ hp;rw [Yf];exact List.perm_middle.symm.trans ((List.perm_cons_erase hjR).symm.append_left D)
    ·rw [List.any_cons]
     by_cases hij:at_ j=i
     ·subst hij;rw [Array.getD_eq_getD_getElem?,Array.getElem?_setIfInBounds];simp
      split <;> simp
     ·rw [getD_set_ne true hij,hl i,show (at_ j==i)=false by simpa using hij,Bool.false_or]
    ·exact hb.grown hg hb.size (fun k hk=>by injection hk with hk; omega)
   ·obtain ⟨i',NV,hwf,hor⟩:=hw r ((D8 r).2 (.inr ZE));exfalso;unfold Region.waitsFor at hwf;rw [ho] at hwf;obtain ⟨e,he,hbe⟩:=Array.any_eq_true'.1 hwf;simp only [YL,beq_iff_eq] at hbe;have h1:=Bh e he hbe.1;rw [hbe.2] at h1;have h2:Zt.getD i' true=false:=by
     rcases hor with h | rfl
     ·rw [hl i',NV,Bool.false_or,List.any_eq_false];intro j' SI he';exact h j' ((D8 j').2 (.inl SI)) (by simpa using he')
     ·exact jt r ZE
    rw [getD_both h2] at h1
    cases h1
end
section
variable {P:YV} {ops:Array Oper} {Q:Exit->Act->Zc->Prop} {md:J9} {n:Nat} {L:Array Bool->Act->Zc->Prop}
def cj (base:Array Bool)(N:Nat)(at_:Nat->Nat) :Array Bool:=(Array.range base.size).map fun i=>base.getD i true||(YO N).any fun j=>at_ j==i
theorem q7 {ent:Nat->Zl × Zl}{at_:Nat->Nat}{Zt:Array Bool}{N b:Nat}{w0 w:Zc}{a:Act}(hB:ZhY md ops n Zt N at_=true)
  (hwp: ∀j D w,j < N->(∀x ∈ D,x < N/\x≠j)->Kx w b (D.map ent)-> ∀K:Act->Zc->Prop,(∀w',Kx w' b ((j::D).map ent)->w.grownBy w' (some b)->K a w')->wpOp P ops Q (at_ j) K a w)
  (hT:Kx w b []) (hb:Zp w0.heap.size w0 w) (h0:w0.heap.size<=b)
  (Ub: ∀w',Kx w' b ((YO N).map ent)->Zp w0.heap.size w0 w'->L (cj Zt N at_) a w') :Qh P md ops Q (fun _=>True) n L N Zt a w:=by
 refine IV (tK ent at_ Zt N b w0) a (fun f l w h=>rr hB hwp (fun _=>trivial) f l w h) (fun l w h=>?_) N Zt w (lg hT hb h0);obtain ⟨h1,h2,h3,h4,_⟩:=wO h;have:l=cj Zt N at_:=by
  refine Array.ext (by simp [cj,h2]) fun i hi NV=>?_
  have:=h1 i;simp [cj,hi] at this ⊢;exact this
 rw [this];exact Ub w h3 h4
theorem Cz {o:Oper}{a:Act}{w:Zc}{K:Act->Zc->Prop}(t:ZL)(ho:o.op= .makeMap t none)(h:K (a.put o.dst (.map (some w.heap.size))) (w.alloc (.map #[] 0))) :o.wp P a w K Q:=by
 unfold Jj XU;simp only [ho,Option.map_none,Yq,run_makeMap,ZY,YX];exact h
end
section
variable {P:YV}
theorem gJ {k:ZL}{f0 f1:Field}{q0 q1:IntKind}{n:Nat}(hu:P.underlying k=some (.struct #[f0,f1]))(h0:P.underlying f0.type=some (.int q0))(h1:P.underlying f1.type=some (.int q1))
  (hk:P.keyType k=true) (hn:P.types.size=n+1) (hC:P.cellsOf k=2) (hC0:P.cellsOf f0.type=1) (hC1:P.cellsOf f1.type=1) (ho0:f0.offset=0) (ho1:f1.offset=1) (LG:(f0.name != "_")=true) (dV:(f1.name != "_")=true)
  {x y:Int} (hx:(YN q0 x).wf=true) (hy:(YN q1 y).wf=true) : ∃l,keyOf P k (.agg #[.int q0 x,.int q1 y])=some l:=by
 have e0: ∀d,P.keyLits (d+1) f0.type [.int q0 x]=some [.int q0 x]:=fun d=>by simp [Program.keyLits,h0,hx]
 have e1: ∀d,P.keyLits (d+1) f1.type [.int q1 y]=some [.int q1 y]:=fun d=>by simp [Program.keyLits,h1,hy]
 have e:P.keyLits (n+1+1) k [.int q0 x,.int q1 y]=some [.int q0 x,.int q1 y]:=by
  unfold Program.keyLits;simp only [hu];rw [if_pos ⟨by simp [hC],by simp [LG,dV]⟩];simp [ho0,ho1,hC0,hC1,e0,e1]
 have hkf:(P.keyType k&&(Value.agg #[.int q0 x,.int q1 y]).formed P k)=true:=by simp [hk,Value.formed,hu,hC]
 have he:keyOf P k (.agg #[.int q0 x,.int q1 y])=(P.keyLits (P.types.size+1) k [.int q0 x,.int q1 y]).map fun ls=> .string (keyBytes ls):=by
  unfold keyOf;simp only [hu];rw [if_pos hkf];rfl
 rw [he,hn,e];exact ⟨_,rfl⟩
end
end
section
open Go Go.RowKit
section
variable {P:YV} {ops:Array Oper} {Q:Exit->Act->Zc->Prop} {md:J9} {S:Zc->Prop}
theorem JC {n f i:Nat}{L:Array Bool->Act->Zc->Prop}{Zt:Array Bool}{a:Act}{w:Zc}
  (h:wpOp P ops Q i (fun a' w'=>S w'/\Qh P md ops Q S n L f (Zt.setIfInBounds i true) a' w') a w) (hr:YA md ops Zt=[i]:=by kernel_rfl) (hi:i < n:=by first | omega | simp) :Qh P md ops Q S n L (f+1) Zt a w:=Eh hr hi h
theorem L5 {P:YV}{id:Nat}{Q:Exit->Act->Zc->Prop}{a:Act}{w:Zc}{l:List Oper}(S:Zc->Prop)(n f:Nat)(ks:List Nat)(hS:S w.drew)
  (h:Yl P l.toArray S (fun a'=>Qh P .any l.toArray (QO Q) S n (fun Zt a' w'=>JT .any l.toArray (l.toArray.size - n) n Zt=true/\Y2 P l.toArray (QO Q) (l.drop n) a' w') f (Gk ks (QI l.toArray.size false)) a' w.drew) (ks.filterMap fun k=>l.toArray[k]?) a)
  (hm:P.follows .mixedOrders=true:=by kernel_rfl)
  (hB:(Qp l.toArray&&decide (n < l.toArray.size)&&Vi .any l.toArray n&&Vp .any l.toArray n&&Hf .any l.toArray n ks (QI l.toArray.size false)&&decide (f+ks.length=n))=true:=by kernel_rfl) :
  (Code.region id l.toArray true).wp P Q a w:=TI S n f ks hm hB hS h
theorem TS {n f m:Nat}{l:List Oper}{Q:Exit->Act->Zc->Prop}{a:Act}{w:Zc}{Zt:Array Bool}(S':Zc->Prop)(ks:List Nat)(hS:S' w)
  (h:Yl P l.toArray S' (fun a'=>Qh P .any l.toArray (QO Q) S' n (fun Zt a' w'=>JT .any l.toArray (l.toArray.size - n) n Zt=true/\Y2 P l.toArray (QO Q) (l.drop n) a' w') f (Gk ks Zt) a' w) (ks.filterMap fun k=>l.toArray[k]?) a)
  (hSS: ∀w,S' w->S w:=by exact fun _ h=>h)
  (hB:(Qp l.toArray&&decide (n < l.toArray.size)&&Vi .any l.toArray n&&Vp .any l.toArray n&&Pr .any l.toArray n Zt&&Hf .any l.toArray n ks Zt&&decide (f+ks.length=m))=true:=by kernel_rfl) :
  Qh P .any l.toArray (QO Q) S n (fun Zt a' w'=>JT .any l.toArray (l.toArray.size - n) n Zt=true/\Y2 P l.toArray (QO Q) (l.drop n) a' w') m Zt a w:=UQ S' ks hSS hB hS h
theorem JA {i:Nat}{o:Oper}{a:Act}{w:Zc}{K:Act->Zc->Prop}{f:FuncId}{xs:Array YW}{ats:Array ZL}(vs:Array Zl)
  (Um: ∀args w,(callFunc f args).run P w= .ok (.enter f args) w) (hC:Zv P f vs w fun e w'=> ∃v,e= .returned v/\K (a.put o.dst v) w') (hi:ops[i]?=some o:=by rfl) (hg:o.guard=none:=by rfl)
  (ho:o.op= .call { callee:= .value (.func f),args:=xs,argTypes:=ats}:=by rfl) (hvs: #[]++xs.map a.eval++ #[]=vs:=by kernel_rfl) :wpOp P ops Q i K a w:=Yv hi hg (KL ho vs hvs Um hC)
end
end
section
open Go Go.RowKit Go.Maps
def Jz (s e:Int) :Int:=
 if e=7 then(if s=2\/s=3 then 3 else if s=4\/s=5 then 4 else 0)
 else if e=6/\s=2 then 7 else if 1<=e/\e<=5/\s=e then s+1 else 0
def ki (s e:Int) :Zl:= .agg #[.int .i64 s,.int .i64 e]
def GX:List (Int × Int × Int):= [(1,1,2),(2,2,3),(3,3,4),(4,4,5),(5,5,6),(2,6,7),(2,7,3),(3,7,3),(4,7,4),(5,7,4)]
def qy (x:Int × Int × Int) :Zl × Zl:=(ki x.1 x.2.1,.int .i64 x.2.2)
def DM (j:Nat) :Zl × Zl:=qy (GX.getD j (0,0,0))
theorem ZbI:(YO 10).map DM=GX.map qy:=rfl
theorem xz {s e:Int}(h:Jz s e≠0) :(s,e,Jz s e) ∈ GX:=by
 unfold Jz at h ⊢
 by_cases h7:e=7
 ·subst h7;rw [if_pos rfl] at h ⊢
  by_cases a:s=2\/s=3
  ·rw [if_pos a]
   rcases a with rfl | rfl <;> decide
  ·rw [if_neg a] at h ⊢
   by_cases b:s=4\/s=5
   ·rw [if_pos b]
    rcases b with rfl | rfl <;> decide
   ·rw [if_neg b] at h;exact absurd rfl h
 ·rw [if_neg h7] at h ⊢
  by_cases a:e=6/\s=2
  ·obtain ⟨rfl,rfl⟩:=a;decide
  ·rw [if_neg a] at h ⊢
   by_cases b:1<=e/\e<=5/\s=e
   ·rw [if_pos b];obtain ⟨b1,b2,rfl⟩:=b;obtain rfl | rfl | rfl | rfl | rfl:s=1\/s=2\/s=3\/s=4\/s=5:=Zf
    all_goals decide
   ·rw [if_neg b] at h;exact absurd rfl h
theorem wT: ∀x ∈ GX,Jz x.1 x.2.1=x.2.2/\x.2.2≠0:=Y5
theorem wI {s e s' e':Int}(h:ki s e=ki s' e') :s=s'/\e=e':=by
 unfold ki at h;simp only [Value.agg.injEq,Array.mk.injEq,List.cons.injEq,Value.int.injEq,true_and,and_true] at h;exact h
theorem wH:Keyed Zb 310:=Keyed.of_law (deep_law_laid (m:=2) ZC Zf (of_decide_eq_true ZC) ZC ZC)
theorem ZiK: ∃n,Tryz.prog.types.size=n+1:=⟨_,show Tryz.prog.types.size=(Tryz.prog.types.size - 1)+1 by kernel_rfl⟩
theorem wG {s e:Int}(hs:(YN .i64 s).wf=true)(he:(YN .i64 e).wf=true) : ∃l,keyOf Zb 310 (ki s e)=some l:=by
 obtain ⟨n,hn⟩:=ZiK;exact gJ underlying310 underlying3 underlying3 ZC hn ZC ZC ZC rfl rfl rfl rfl hs he
theorem I1: ∀p ∈ GX.map qy,∃l,keyOf Zb 310 p.1=some l:=fun p hp=>by
 obtain ⟨x,hx,rfl⟩:=Yc.1 hp;have: ∀x ∈ GX,(YN .i64 x.1).wf=true/\(YN .i64 x.2.1).wf=true:=Y5;exact wG (this x hx).1 (this x hx).2
theorem Znc (w:Zc) :(Ke 3).run Zb w= .ok (.int .i64 0) w:=ZC
theorem look {w:Zc}{b:Nat}(h:Kx w b (GX.map qy)){s e:Int}(hs:(YN .i64 s).wf=true)(he:(YN .i64 e).wf=true) :
  (J5 307 (.map (some b)) (ki s e) true).run Zb w= .ok (.tuple #[.int .i64 (Jz s e),.bool (Jz s e != 0)]) w:=by
 obtain ⟨l,hl⟩:=wG hs he
 rcases h.lookup wH underlying307 (Znc w) I1 hl with ⟨v,hv,hr⟩ | ⟨Kj,hr⟩
 ·obtain ⟨x,hx,hxe⟩:=Yc.1 hv;unfold qy at hxe;simp only [Prod.mk.injEq] at hxe;obtain ⟨h1,h2⟩:=wI hxe.1;obtain ⟨h3,h4⟩:=wT x hx;rw [h1,h2] at h3;rw [hr,h3,<-hxe.2];simp [h4]
 ·have h0:Jz s e=0:=by
   rcases Decidable.em (Jz s e=0) with h | h
   ·exact h
   ·exact absurd rfl (Kj _ (Yc.2 ⟨_,xz h,rfl⟩))
  rw [hr,h0];rfl
theorem fm {D:List Nat}(h: ∀x ∈ D,x < 10) : ∀p ∈ D.map DM,∃l,keyOf Zb 310 p.1=some l:=fun p hp=>by
 obtain ⟨x,hx,rfl⟩:=Yc.1 hp;refine I1 _ ?_;rw [<-ZbI];exact Yc.2 ⟨x,XT.2 (h x hx),rfl⟩
theorem ZgZ: ∀x,x < 10-> ∀j,j < 10->x≠j->(DM x).1≠(DM j).1:=fun x hx j hj Kj he=>by
 have key: ∀x,x < 10-> ∀j,j < 10->(GX.getD x (0,0,0)).1=(GX.getD j (0,0,0)).1->(GX.getD x (0,0,0)).2.1=(GX.getD j (0,0,0)).2.1->x=j:=Y5;obtain ⟨h1,h2⟩:=wI he;exact Kj (key x hx j hj h1 h2)
theorem GL {P:YV}{ops:Array Oper}{Q:Exit->Act->Zc->Prop}{a:Act}{b j:Nat}{D:List Nat}{w:Zc}{K:Act->Zc->Prop}{i s:Nat}{o:Oper}(hP:P=Zb)
  (ho:ops[i]?=some o) (hg:o.guard=none) (hd:o.dst=none) (hop:o.op= .insert 307 (.tmp 1) (.tmp s) (.const (DM j).2)) (hm:a.eval (.tmp 1)= .map (some b)) (hx:a.eval (.tmp s)=(DM j).1)
  (hj:j < 10) (hD: ∀x ∈ D,x < 10/\x≠j) (hT:Kx w b (D.map DM)) (hK: ∀w',Kx w' b ((j::D).map DM)->w.grownBy w' (some b)->K a w') :wpOp P ops Q i K a w:=by
 subst hP;obtain ⟨l,hl⟩:=fm (D:= [j]) Ng (DM j) ZE;exact Yv ho hg (aL hT wH _ _ _ hop hd (DM j).1 (DM j).2 hm hx rfl underlying307 (fm fun x hx=>(hD x hx).1) hl (fun p hp=>by
  obtain ⟨x,hx,rfl⟩:=Yc.1 hp;exact ZgZ x (hD x hx).1 j hj (hD x hx).2) hK)
theorem sO (w:Zc) :Zv Zb 255 #[] w fun e w'=> ∃b,e= .returned (.map (some b))/\Kx w' b (GX.map qy)/\Zp w.heap.size w w':=by
 go_enter func255,ntmps255;go_wp2;refine L5 (fun _=>True) 21 11 [1,3,5,7,9,11,13,15,17,19] trivial ?_;refine JH ?_;refine mX ?_;refine DX (ki 1 1) rfl (fun w=>by kernel_rfl) ?_;refine DX (ki 2 2) rfl (fun w=>by kernel_rfl) ?_;refine DX (ki 3 3) rfl (fun w=>by kernel_rfl) ?_;refine DX (ki 4 4) rfl (fun w=>by kernel_rfl) ?_;refine DX (ki 5 5) rfl (fun w=>by kernel_rfl) ?_;refine DX (ki 2 6) rfl (fun w=>by kernel_rfl) ?_;refine DX (ki 2 7) rfl (fun w=>by kernel_rfl) ?_;refine DX (ki 3 7) rfl (fun w=>by kernel_rfl) ?_;refine DX (ki 4 7) rfl (fun w=>by kernel_rfl) ?_;refine DX (ki 5 7) rfl (fun w=>by kernel_rfl) ?_;refine Yo ?_;refine X7 ?_;refine JC (i:=0) ?_;refine Yv rfl rfl (Cz 307 rfl ⟨trivial,?_⟩);refine X7 ?_;refine q7 (ent:=DM) (at_:=fun j=>2*j+2) (w0:=w) (b:=w.heap.size) ZC ?_ (Cn w.drew) ((Zn _ w).drew.alloc (Zh _) _) (Zh _) ?_
 ·intro j D w1 hj hD hT K hK;obtain rfl | rfl | rfl | rfl | rfl | rfl | rfl | rfl | rfl | rfl:j=0\/j=1\/j=2\/j=3\/j=4\/j=5\/j=6\/j=7\/j=8\/j=9:=Zf
  ·exact GL (i:=2) (s:=2) rfl rfl rfl rfl rfl rfl rfl hj hD hT hK
  ·exact GL (i:=4) (s:=3) rfl rfl rfl rfl rfl rfl rfl hj hD hT hK
  ·exact GL (i:=6) (s:=4) rfl rfl rfl rfl rfl rfl rfl hj hD hT hK
  ·exact GL (i:=8) (s:=5) rfl rfl rfl rfl rfl rfl rfl hj hD hT hK
  ·exact GL (i:=10) (s:=6) rfl rfl rfl rfl rfl rfl rfl hj hD hT hK
  ·exact GL (i:=12) (s:=7) rfl rfl rfl rfl rfl rfl rfl hj hD hT hK
  ·exact GL (i:=14) (s:=8) rfl rfl rfl rfl rfl rfl rfl hj hD hT hK
  ·exact GL (i:=16) (s:=9) rfl rfl rfl rfl rfl rfl rfl hj hD hT hK
  ·exact GL (i:=18) (s:=10) rfl rfl rfl rfl rfl rfl rfl hj hD hT hK
  ·exact GL (i:=20) (s:=11) rfl rfl rfl rfl rfl rfl rfl hj hD hT hK
 ·intro w1 hT hb;refine ⟨by kernel_rfl,?_⟩;simp only [qD];have HT:=Za hT;have HB:=Za hb;clear hT hb;go_wp2;refine U1 ?_;go_wp2;go_ret;exact ⟨_,rfl,HT.o,HB.o⟩
end
section
open Go Go.RowKit Go.Maps
theorem gS (s e:Int)(w:Zc)(hs:(YN .i64 s).wf=true)(he:(YN .i64 e).wf=true) :
  Z3 223 #[.int .i64 s,.int .i64 e] w (.tuple #[.int .i64 (Jz s e),.bool (Jz s e != 0)]):=by
 go_enter func223,ntmps223;go_wp2_with (go_at_call 255; refine (sO _).mono ?_; rintro x w' ⟨b,rfl,hT,hb⟩; have hl:=look hT hs he; unfold ki at hl; have HB:=Za hb; clear hT hb);go_ret2;exact ⟨rfl,HB.o⟩
end
section
open Go Go.RowKit
section
variable {P:YV} {ops:Array Oper} {S:Zc->Prop}
theorem KY {Qa:Act->Prop}{a:Act}{o:Oper}{rest:List Oper}(ty:ZL)(p:Addr)(v:Zl){x:YW}(hS: ∀w,S w->w.cell? p=some v)(h:Yl P ops S Qa rest (a.put o.dst v))
  (hw:X3 o (Ue ops a.tmps)=true:=by exact rfl) (ho:o.op= .load ty x:=by exact rfl) (hx:a.eval x= .pointer (some p):=by exact rfl)
  (hl: ∀w,w.cell? p=some v->(Gc ty (.pointer (some p))).run P w= .ok v w:=by exact fun w h=>by simp [go_sem,h]) :Yl P ops S Qa (o::rest) a:=Zil ty x p v hw ho hx hl hS h
end
end
section
open Go Go.ChangeShapes Go.WideShapes Go.RowKit Go.Deep
def ZkD (x0 x1 x2 x3 x4 x5 x6 x7 x8 x9 x10 x11 x12 x13 x14 x15 x16 x17 x18 x19:Int) :Nat->Int
 | 0=>x0
 | 1=>x1
 | 2=>x2
 | 3=>x3
 | 4=>x4
 | 5=>x5
 | 6=>x6
 | 7=>x7
 | 8=>x8
 | 9=>x9
 | 10=>x10
 | 11=>x11
 | 12=>x12
 | 13=>x13
 | 14=>x14
 | 15=>x15
 | 16=>x16
 | 17=>x17
 | 18=>x18
 | 19=>x19
 | _=>0
theorem open_T30 {H:Type}{enc:ZL × Zl->H}{w:Zc}{base:Nat}{spare:Nat->Bool}{held:Bool}{r:Reach}{b0:Nat}{v:Zl}{d:DataW H}{p:List MemPlace}
  (hv:Value.okWide Zb w r b0 30 v) (h:DataW.Trod enc Zb w base spare held 30 v d p) : ∃c:Nat->Int,v= .agg (Zi c)/\Wi c:=by
 obtain ⟨cs,rfl,BK,H⟩:=open_struct_ints underlying30 ZC ZC hv h;obtain ⟨n0,h0,w0⟩:=H 0 _ .i64 rfl underlying3;obtain ⟨n1,h1,w1⟩:=H 1 _ .i64 rfl underlying3;obtain ⟨n2,h2,w2⟩:=H 2 _ .u64 rfl underlying23;obtain ⟨n3,h3,w3⟩:=H 3 _ .u64 rfl underlying23;obtain ⟨n4,h4,w4⟩:=H 4 _ .u64 rfl underlying23;obtain ⟨n5,h5,w5⟩:=H 5 _ .u64 rfl underlying23;obtain ⟨n6,h6,w6⟩:=H 6 _ .u64 rfl underlying23;obtain ⟨n7,h7,w7⟩:=H 7 _ .u64 rfl underlying23;obtain ⟨n8,h8,w8⟩:=H 8 _ .u64 rfl underlying23;obtain ⟨n9,h9,w9⟩:=H 9 _ .u64 rfl underlying23;obtain ⟨n10,SG,w10⟩:=H 10 _ .i64 rfl underlying3;obtain ⟨n11,GM,w11⟩:=H 11 _ .i64 rfl underlying3;obtain ⟨n12,L9,w12⟩:=H 12 _ .i64 rfl underlying3;obtain ⟨n13,kt,w13⟩:=H 13 _ .i64 rfl underlying3;obtain ⟨n14,h14,w14⟩:=H 14 _ .i64 rfl underlying3;obtain ⟨n15,h15,w15⟩:=H 15 _ .i64 rfl underlying3;obtain ⟨n16,vp,w16⟩:=H 16 _ .i64 rfl underlying3;obtain ⟨n17,h17,w17⟩:=H 17 _ .i64 rfl underlying3;obtain ⟨n18,h18,w18⟩:=H 18 _ .u64 rfl underlying23;obtain ⟨n19,h19,w19⟩:=H 19 _ .u64 rfl underlying23;obtain ⟨l⟩:=cs
 match l,BK with
 | [c0,c1,c2,c3,c4,c5,c6,c7,c8,c9,c10,c11,c12,c13,c14,c15,c16,c17,c18,c19],_=>
  obtain rfl:=ZP h0;obtain rfl:=ZP h1;obtain rfl:=ZP h2;obtain rfl:=ZP h3;obtain rfl:=ZP h4;obtain rfl:=ZP h5;obtain rfl:=ZP h6;obtain rfl:=ZP h7;obtain rfl:=ZP h8;obtain rfl:=ZP h9;obtain rfl:=ZP SG;obtain rfl:=ZP GM;obtain rfl:=ZP L9;obtain rfl:=ZP kt;obtain rfl:=ZP h14;obtain rfl:=ZP h15;obtain rfl:=ZP vp;obtain rfl:=ZP h17;obtain rfl:=ZP h18;obtain rfl:=ZP h19;refine ⟨ZkD n0 n1 n2 n3 n4 n5 n6 n7 n8 n9 n10 n11 n12 n13 n14 n15 n16 n17 n18 n19,rfl,fun k hk=>?_⟩;have:k=0\/k=1\/k=2\/k=3\/k=4\/k=5\/k=6\/k=7\/k=8\/k=9\/k=10\/k=11\/k=12\/k=13\/k=14\/k=15\/k=16\/k=17\/k=18\/k=19:=Zf
  rcases this with rfl | rfl | rfl | rfl | rfl | rfl | rfl | rfl | rfl | rfl | rfl | rfl | rfl | rfl | rfl | rfl | rfl | rfl | rfl | rfl
  ·exact w0
  ·exact w1
  ·exact w2
  ·exact w3
  ·exact w4
  ·exact w5
  ·exact w6
  ·exact w7
  ·exact w8
  ·exact w9
  ·exact w10
  ·exact w11
  ·exact w12
  ·exact w13
  ·exact w14
  ·exact w15
  ·exact w16
  ·exact w17
  ·exact w18
  ·exact w19
end
section
open Go.RowKit
def KR (w:Zc)(b:Nat)(D P B C:Int) :Prop:=Zu w b 142 #[.int .u64 D,.int .u64 P,.int .u64 B,.int .u64 C]
def JJ (D P B C:Int) :Prop:=0<=P/\0<=B/\P+B<=D/\D<=18446744073709551615/\D - P - B<=C/\C<=18446744073709551615
section
variable {w w':Zc} {b d:Nat} {D P B C:Int}
theorem KR.cells (h:KR w b D P B C) :w.cell? ⟨b,0,none⟩=some (.int .u64 D)/\w.cell? ⟨b,1,none⟩=some (.int .u64 P)/\w.cell? ⟨b,2,none⟩=some (.int .u64 B)/\w.cell? ⟨b,3,none⟩=some (.int .u64 C):=
 ⟨Qc h 0,Qc h 1,Qc h 2,Qc h 3⟩
end
theorem eG (b:Nat)(D P B:Int)(w:Zc)(h0:w.cell? ⟨b,0,none⟩=some (.int .u64 D))(h1:w.cell? ⟨b,1,none⟩=some (.int .u64 P))(h2:w.cell? ⟨b,2,none⟩=some (.int .u64 B))
  (hP:0<=P) (hB:0<=B) (hD:P+B<=D) (hm:D<=18446744073709551615) :
  Xc 212 #[.pointer (some ⟨b,0,none⟩)] w (.int .u64 (D - P - B)):=by
 go_enter func212,ntmps212;go_wp2;go_quiet (skip);go_wp2;go_ret;exact ⟨rfl,_,rfl⟩
theorem ZdC (b:Nat)(w:Zc) :Y6 250 #[.pointer (some ⟨b,0,none⟩),.int .i64 0] w (.pointer (some ⟨b,0,none⟩)):=zg
theorem ZdD (b:Nat)(w:Zc) :Y6 250 #[.pointer (some ⟨b,0,none⟩),.int .i64 1] w (.pointer (some ⟨b,1,none⟩)):=zg
theorem ZdE (b:Nat)(w:Zc) :Y6 250 #[.pointer (some ⟨b,0,none⟩),.int .i64 2] w (.pointer (some ⟨b,2,none⟩)):=zg
theorem ZcB (C:Int)(w:Zc) :
  Zv Zb 76 #[.int .u64 C] w fun e w'=>e= .returned (.pointer (some ⟨w.heap.size,0,none⟩))/\w.alloc (.cells #[.int .u64 0,.int .u64 0,.int .u64 0,.int .u64 C] 142)=w':=by
 go_enter func76,ntmps76;exact UD
theorem Zif (C:Int)(w:Zc)(c0:0<=C)(c1:C<=18446744073709551615) :
  Zv Zb 76 #[.int .u64 C] w fun e w'=>e= .returned (.pointer (some ⟨w.heap.size,0,none⟩))/\KR w' w.heap.size 0 0 0 C/\JJ 0 0 0 C/\Zp w.heap.size w w'/\w'.heap.size=w.heap.size+1:=
 (ZcB C w).mono fun e w' ⟨he,hw⟩=>⟨he,hw▸Zs _ _ _,⟨by omega,by omega,by omega,by omega,by omega,c1⟩,hw▸(Zn _ _).alloc (Zh _) _,by rw [<-hw]; simp⟩
theorem ZeD:(Tryz.prog.info? 109).map (·.size)=some 3:=ZC
theorem I0:(Tryz.prog.info? 140).map (·.size)=some 3:=ZC
theorem mB (b:Nat)(D P B C:Int)(w:Zc)(h:KR w b D P B C) :
  Z3 40 #[.pointer (some ⟨b,0,none⟩)] w (.agg #[.int .u64 D,.int .u64 P,.int .u64 B]):=by
 have hr:(w.alloc (.cells #[.int .u64 0,.int .u64 0,.int .u64 0] 109)).rangeAt b 0 [.int .u64 D,.int .u64 P,.int .u64 B]:=by
  have hb:=YK h (.cells #[.int .u64 0,.int .u64 0,.int .u64 0] 109);intro j v hv;have hj:j < 3:=(Zk.1 hv).1;rw [ZW,Qc hb j];exact ZfA
 have HR:=Za hr;clear h hr;go_enter func40,ntmps40;go_wp2_with (first | (refine Jt rfl 140 _ rfl b 0 rfl _ _ HR.o underlying140 rfl I0 ?_) | (refine Up w.heap.size #[.int .u64 D,.int .u64 P,.int .u64 B] 109 (ZB w _) ZeD rfl ?_; rw [Zq]));exact Ye (v:= .agg #[.int .u64 D,.int .u64 P,.int .u64 B]) (results_cell_row (fn:=Tryz.f40) rfl _ _ w.heap.size 109 _ (0,0) _ rfl (ZB w _) underlying109 rfl ZeD) rfl ⟨rfl,(Zn _ _).alloc (Zh _) _⟩
end
section
open Go.RowKit
theorem vi (y x:Int)(i:Nat)(hy0:0<=y)(hy1:y<=18446744073709551615)(kC:0<=x)(hx1:x<=18446744073709551615) :0<= [y,x].getD i 0/\[y,x].getD i 0<=18446744073709551615:=by
 match i with
 | 0=>exact ⟨hy0,hy1⟩
 | 1=>exact ⟨kC,hx1⟩
 | i+2=>simp
theorem en (g:Nat)(y x:Int)(w:Zc)(h:Zu w g 23 #[.int .u64 y,.int .u64 x])(hy0:0<=y)(hy1:y<=18446744073709551615)(kC:0<=x)(hx1:x<=18446744073709551615) :
  Y6 101 #[.slice (some ⟨g,0,none⟩) 2 2] w (.tuple #[.int .u64 (BB [y,x] 2),.bool (KS [y,x] 2)]):=
 EV g 0 2 2 [y,x] w Zf (fun i hi=>by
  rw [ZW,Qc h i];obtain rfl | rfl:i=0\/i=1:=Zf
  all_goals rfl) (fun i=>vi y x i hy0 hy1 kC hx1)
theorem oN {y x:Int}(h:y+x<=18446744073709551615) :KS [y,x] 2=true/\BB [y,x] 2=y+x:=by
 have e:XR [y,x] 2=y+x:=by simp [XR]
 have:=Nj (z:= [y,x]) (n:=2) (by rw [e]; exact h);rwa [e] at this
theorem oM {y x:Int}(h: ¬y+x<=18446744073709551615) :KS [y,x] 2=false/\BB [y,x] 2=0:=by
 have e:XR [y,x] 2=y+x:=by simp [XR]
 exact OZ (z:= [y,x]) (n:=2) (by rw [e]; exact h)
theorem Wo (g:Nat)(y x:Int)(w:Zc)(h:Zu w g 23 #[.int .u64 y,.int .u64 x])(hy0:0<=y)(kC:0<=x)(hs:y+x<=18446744073709551615) :
  Y6 101 #[.slice (some ⟨g,0,none⟩) 2 2] w (.tuple #[.int .u64 (y+x),.bool true]):=by
 have:=en g y x w h hy0 Zf kC Zf;rwa [(oN hs).1,(oN hs).2] at this
theorem Wn (g:Nat)(y x:Int)(w:Zc)(h:Zu w g 23 #[.int .u64 y,.int .u64 x])(hy0:0<=y)(hy1:y<=18446744073709551615)(kC:0<=x)(hx1:x<=18446744073709551615)(hs: ¬y+x<=18446744073709551615) :
  Y6 101 #[.slice (some ⟨g,0,none⟩) 2 2] w (.tuple #[.int .u64 0,.bool false]):=by
 have:=en g y x w h hy0 hy1 kC hx1;rwa [(oM hs).1,(oM hs).2] at this
theorem wB:(Tryz.prog.info? 260).map (·.size)=some 2:=ZC
theorem EI:(Tryz.prog.info? 23).map (fun i=>(i.zero,i.size))=some (some (.int .u64 0),1):=ZC
theorem aG (s b:Nat)(hs:s < 3)(w:Zc) :Y6 250 #[.pointer (some ⟨b,0,none⟩),.int .i64 s] w (.pointer (some ⟨b,s,none⟩)):=by
 obtain rfl | rfl | rfl:s=0\/s=1\/s=2:=Zf
 ·exact ZdC b w
 ·exact ZdD b w
 ·exact ZdE b w
theorem I3 {w:Zc}{b:Nat}{D P B C:Int}(h:KR w b D P B C) :w.rangeAt b 0 [.int .u64 D,.int .u64 P,.int .u64 B]:=by
 intro j v hv;have hj:j < 3:=(Zk.1 hv).1;rw [ZW,Qc h j];exact ZfA
theorem cg {w:Zc}{b:Nat}{D P B C D' P' B':Int}(h:KR w b D P B C) :KR (w.setCells b 0 [.int .u64 D',.int .u64 P',.int .u64 B']) b D' P' B' C:=
 VH (VH (VH h 0 (.int .u64 D')) 1 (.int .u64 P')) 2 (.int .u64 B')
theorem Ig {a w:Zc}{b:Nat}(h:a.grownBy w (some b))(u0 u1 u2:Zl) :a.grownBy (w.setCells b 0 [u0,u1,u2]) (some b):=
 QX (QX (QX h (.inl rfl) u0) (.inl rfl) u1) (.inl rfl) u2
theorem eJ (s b g:Nat)(D P B C D' P' B' x y:Int)(w:Zc)(hb:KR w b D P B C)(hg:Zu w g 260 #[.int .i64 s,.int .u64 x])(hs:s < 3)
  (hy:(#[.int .u64 D,.int .u64 P,.int .u64 B] :Array Zl)[s]?=some (.int .u64 y)) (hup:(#[.int .u64 D,.int .u64 P,.int .u64 B] :Array Zl).setIfInBounds s (.int .u64 (y+x))= #[.int .u64 D',.int .u64 P',.int .u64 B'])
  (y0:0<=y) (x0:0<=x) (MB:y+x<=18446744073709551615) :
  Zv Zb 213 #[.pointer (some ⟨b,0,none⟩),.slice (some ⟨g,0,none⟩) 1 1] w fun e w'=>e= .returned (.bool true)/\KR w' b D' P' B' C/\w.grownBy w' (some b):=by
 have HR:=Za (I3 hb);have HB:=Za hb;have HG:=Za hg;have HY:=Za hy;have HU:=Za hup;have HT:=Za (fun b w=>aG s b hs w);have HL:=Za (Zu.lt hb);have HLg:=Za (Zu.lt hg);have HN:Zj (∀(w:Zc),Zu (w.alloc (.cells #[.int .u64 D,.int .u64 P,.int .u64 B] 140)) w.heap.size 140 #[.int .u64 D,.int .u64 P,.int .u64 B]):=Za (fun w=>Zs w _ _);clear hb hg hy hup;go_enter func213,ntmps213;go_wp2_with (first | (refine Jt rfl 140 _ rfl b 0 rfl _ _ HR.o underlying140 rfl I0 ?_) | (refine Up w.heap.size #[.int .u64 D,.int .u64 P,.int .u64 B] 140 (ZB w _) I0 rfl ?_; rw [Zq]));go_loopw [16] (fun s16 wr=> ∃(k:Nat) (cs:Array Zl),s16= .int .i64 k/\Zj (k=0/\cs= #[.int .u64 D,.int .u64 P,.int .u64 B]\/k=1/\cs= #[.int .u64 D',.int .u64 P',.int .u64 B'])/\Zj (Zu wr w.heap.size 140 cs)/\Zp w.heap.size w wr) (fun s16 _=>1 -(intOf s16).toNat)
 case atStart=>exact ⟨0,_,rfl,Za (.inl ⟨rfl,rfl⟩),Za (Zs w _ _),(Zn _ _).alloc (Zh _) _⟩
 case round=>
  obtain ⟨k,cs,rfl,HK,HC,BR⟩:=hrel;have hk:k=0\/k=1:=HK.o.elim (fun h=> .inl h.1) (fun h=> .inr h.1)
  rcases hk with rfl | rfl
  ·have Hk:cs= #[.int .u64 D,.int .u64 P,.int .u64 B]:=HK.o.elim (fun h=>h.2) (fun h=>by cases h.1);subst Hk;clear HK;have g0:wr.cell? ⟨g,0,none⟩=some (.int .i64 s):=(BR.cell (p:=⟨g,0,none⟩) HLg.o).trans (HG.o.cell 0);have g1:wr.cell? ⟨g,1,none⟩=some (.int .u64 x):=(BR.cell (p:=⟨g,1,none⟩) HLg.o).trans (HG.o.cell 1);go_wp2_with (first | (refine Up wr.heap.size #[.int .i64 s,.int .u64 x] 260 (ZB wr _) wB rfl ?_; rw [Zq]) | fail);refine (HT.o _ _).mono ?_;rintro e w1 ⟨rfl,Px⟩;have B1:Zp w.heap.size w w1:=Px▸BR.alloc BR.size _;have C1:Zj (Zu w1 w.heap.size 140 #[.int .u64 D,.int .u64 P,.int .u64 B]):=Za (Px▸YK HC.o _);have x1:w1.cell? ⟨wr.heap.size,1,none⟩=some (.int .u64 x):=by rw [<-Px]; exact Qc (Zs _ _ _) 1
   have y1:w1.cell? ⟨w.heap.size,s,none⟩=some (.int .u64 y):=(C1.o.cell s).trans HY.o;clear Px g0 g1 HC BR;go_wp2;refine L5 (fun _=>True) 11 11 [] trivial ?_;refine Yo ?_;refine ZlX ?_;refine JH ?_;refine OJ ?_;refine BZ ?_;refine KY 23 _ (.int .u64 y) (fun w h=>h.2) ?_;refine X7 ?_;refine U4 ?_;refine KY 23 _ (.int .u64 x) (fun w h=>h.1) ?_;refine X7 ?_;refine Yo ?_;refine Ed ?_;refine Yv rfl rfl (Qu 121 23 (.tmp 26) (.tmp 28) _ _ (.int .u64 y) (.int .u64 x) rfl rfl rfl underlying121 EI rfl rfl rfl ⟨⟨ZJ _ x1,ZJ _ y1⟩,?_⟩);refine Lz ?_;refine Ee ?_;refine JA #[.slice (some ⟨w1.drew.heap.size,0,none⟩) 2 2] call101 ((Wo w1.drew.heap.size y x _ (Zs w1.drew _ _) y0 x0 MB).mono ?_);rintro e w2 ⟨rfl,OQ⟩;have B2:Zp w.heap.size w w2:=OQ▸B1.drew.alloc B1.size _;have C2:Zj (Zu w2 w.heap.size 140 #[.int .u64 D,.int .u64 P,.int .u64 B]):=Za (OQ▸YK (Zu.drew C1.o) _);have y2:w2.cell? ⟨w.heap.size,s,none⟩=some (.int .u64 y):=(C2.o.cell s).trans HY.o;have x2:w2.cell? ⟨wr.heap.size,1,none⟩=some (.int .u64 x):=by rw [<-OQ]; exact ZJ _ x1
   have z2:w2.frozen? ⟨w.heap.size,s,none⟩=false:=C2.o.frozen s;have C3:Zj (Zu (w2.setCell ⟨w.heap.size,s,none⟩ (.int .u64 (y+x))) w.heap.size 140 #[.int .u64 D',.int .u64 P',.int .u64 B']):=Za (by have:=C2.o.set_ s (.int .u64 (y+x)); rwa [HU.o] at this);have B3:Zj (Zp w.heap.size w (w2.setCell ⟨w.heap.size,s,none⟩ (.int .u64 (y+x)))):=Za (B2.setCell (Zh _) _);refine ⟨_,rfl,⟨x2,y2⟩,?_⟩;clear OQ C1 B1 x1 y1;refine Ee ?_;refine Zl1 ?_;refine JH ?_;refine Hg ?_;refine Dw ?_;refine Yo ?_;refine GD ?_;refine ⟨by kernel_rfl,?_⟩;refine LA ?_;go_wp2;refine U1 ?_;go_wp2;go_roundw
   case rel=>exact ⟨1,_,rfl,Za (.inr ⟨rfl,rfl⟩),C3,B3.o⟩
   case measure=>simp [intOf]
  ·have Hk:cs= #[.int .u64 D',.int .u64 P',.int .u64 B']:=HK.o.elim (fun h=>by cases h.1) (fun h=>h.2);subst Hk;clear HK;have hb:KR wr b D P B C:=Zu.below HB.o BR HL.o;have HE:Zj (KR (((wr.setCell ⟨b,0,none⟩ (.int .u64 D')).setCell ⟨b,1,none⟩ (.int .u64 P')).setCell ⟨b,2,none⟩ (.int .u64 B')) b D' P' B' C/\w.grownBy (((wr.setCell ⟨b,0,none⟩ (.int .u64 D')).setCell ⟨b,1,none⟩ (.int .u64 P')).setCell ⟨b,2,none⟩ (.int .u64 B')) (some b)):=Za ⟨cg hb,Ig (FC BR _) _ _ _⟩;obtain ⟨c0,c1,c2,c3⟩:=hb.cells;have z0:=KE hb 0;have z1:=KE hb 1;have z2:=KE hb 2;clear hb;go_wp2_with (refine wpList_load_row rfl 140 _ rfl w.heap.size rfl _ _ (0,0) _ HC.o underlying140 rfl I0 ?_);go_ret;exact ⟨rfl,HE.o⟩
theorem Zbu (s b g:Nat)(D P B C x y:Int)(w:Zc)(hb:KR w b D P B C)(hg:Zu w g 260 #[.int .i64 s,.int .u64 x])(hs:s < 3)
  (hy:(#[.int .u64 D,.int .u64 P,.int .u64 B] :Array Zl)[s]?=some (.int .u64 y))
  (y0:0<=y) (ym:y<=18446744073709551615) (x0:0<=x) (x1':x<=18446744073709551615) (MB: ¬y+x<=18446744073709551615) :
  Z3 213 #[.pointer (some ⟨b,0,none⟩),.slice (some ⟨g,0,none⟩) 1 1] w (.bool false):=by
 have HR:=Za (I3 hb);have HB:=Za hb;have HG:=Za hg;have HY:=Za hy;have HT:=Za (fun b w=>aG s b hs w);have HL:=Za (Zu.lt hb);have HLg:=Za (Zu.lt hg);have HN:Zj (∀(w:Zc),Zu (w.alloc (.cells #[.int .u64 D,.int .u64 P,.int .u64 B] 140)) w.heap.size 140 #[.int .u64 D,.int .u64 P,.int .u64 B]):=Za (fun w=>Zs w _ _);clear hb hg hy;go_enter func213,ntmps213;go_wp2_with (first | (refine Jt rfl 140 _ rfl b 0 rfl _ _ HR.o underlying140 rfl I0 ?_) | (refine Up w.heap.size #[.int .u64 D,.int .u64 P,.int .u64 B] 140 (ZB w _) I0 rfl ?_; rw [Zq]));go_loopw [16] (fun s16 wr=> ∃(k:Nat) (cs:Array Zl),s16= .int .i64 k/\Zj (k=0/\cs= #[.int .u64 D,.int .u64 P,.int .u64 B])/\Zj (Zu wr w.heap.size 140 cs)/\Zp w.heap.size w wr) (fun s16 _=>1 -(intOf s16).toNat)
 case atStart=>exact ⟨0,_,rfl,Za ⟨rfl,rfl⟩,Za (Zs w _ _),(Zn _ _).alloc (Zh _) _⟩
 case round=>
  obtain ⟨k,cs,rfl,HK,HC,BR⟩:=hrel;obtain ⟨rfl,rfl⟩:=HK.o
  ·clear HK;have g0:wr.cell? ⟨g,0,none⟩=some (.int .i64 s):=(BR.cell (p:=⟨g,0,none⟩) HLg.o).trans (HG.o.cell 0);have g1:wr.cell? ⟨g,1,none⟩=some (.int .u64 x):=(BR.cell (p:=⟨g,1,none⟩) HLg.o).trans (HG.o.cell 1);go_wp2_with (first | (refine Up wr.heap.size #[.int .i64 s,.int .u64 x] 260 (ZB wr _) wB rfl ?_; rw [Zq]) | fail);refine (HT.o _ _).mono ?_;rintro e w1 ⟨rfl,Px⟩;have B1:Zp w.heap.size w w1:=Px▸BR.alloc BR.size _;have C1:Zj (Zu w1 w.heap.size 140 #[.int .u64 D,.int .u64 P,.int .u64 B]):=Za (Px▸YK HC.o _);have x1:w1.cell? ⟨wr.heap.size,1,none⟩=some (.int .u64 x):=by rw [<-Px]; exact Qc (Zs _ _ _) 1
   have y1:w1.cell? ⟨w.heap.size,s,none⟩=some (.int .u64 y):=(C1.o.cell s).trans HY.o;clear Px g0 g1 HC BR;go_wp2;refine L5 (fun _=>True) 11 11 [] trivial ?_;refine Yo ?_;refine ZlX ?_;refine JH ?_;refine OJ ?_;refine BZ ?_;refine KY 23 _ (.int .u64 y) (fun w h=>h.2) ?_;refine X7 ?_;refine U4 ?_;refine KY 23 _ (.int .u64 x) (fun w h=>h.1) ?_;refine X7 ?_;refine Yo ?_;refine Ed ?_;refine Yv rfl rfl (Qu 121 23 (.tmp 26) (.tmp 28) _ _ (.int .u64 y) (.int .u64 x) rfl rfl rfl underlying121 EI rfl rfl rfl ⟨⟨ZJ _ x1,ZJ _ y1⟩,?_⟩);refine Lz ?_;refine Ee ?_;refine JA #[.slice (some ⟨w1.drew.heap.size,0,none⟩) 2 2] call101 ((Wn w1.drew.heap.size y x _ (Zs w1.drew _ _) y0 ym x0 x1' Zf).mono ?_);rintro e w2 ⟨rfl,OQ⟩;have B2:Zp w.heap.size w w2:=OQ▸B1.drew.alloc B1.size _;have C2:Zj (Zu w2 w.heap.size 140 #[.int .u64 D,.int .u64 P,.int .u64 B]):=Za (OQ▸YK (Zu.drew C1.o) _);have y2:w2.cell? ⟨w.heap.size,s,none⟩=some (.int .u64 y):=(C2.o.cell s).trans HY.o;have x2:w2.cell? ⟨wr.heap.size,1,none⟩=some (.int .u64 x):=by rw [<-OQ]; exact ZJ _ x1
   refine ⟨_,rfl,⟨x2,y2⟩,?_⟩;clear OQ C1 B1 x1 y1;refine Ee ?_;refine Zl1 ?_;refine JH ?_;refine Hg ?_;refine Dw ?_;refine Yo ?_;refine GD ?_;refine ⟨by kernel_rfl,?_⟩;refine LA ?_;go_wp2;refine U1 ?_;go_wp2;go_ret;exact ⟨rfl,B2⟩
end
section
open Go Go.RowKit Go.Deep
def Mb (P:YV)(f:FuncId)(args:Array Zl)(w:Zc)(R:Ending->Zc->Prop) :Prop:=
 Zv P f args w R/\ ∀u,CallsD P f args u w fun e u' w'=>u'=u/\R e w'
theorem Hs {P:YV}{f:FuncId}{fn:Func}{c:Code}{args:Array Zl}{w:Zc}{R:Ending->Zc->Prop}(hf:P.funcs[f]?=some fn)(hb:fn.body=some c)
  (h:c.wp P (bodyPost P fn R) { tmps:=args++QI (fn.ntmps - args.size) undef,defers:= []} w) :Mb P f args w R:=
 ⟨calls_of_wp hf hb h,fun _=>callsD_of_wp hf hb h⟩
section
variable {w w':Zc} {b m cap:Nat} {s:Zl} {c:Int->Int} {A T:Int}
theorem J3.alloc (h:J3 w b m s cap c A T)(o:Obj) :J3 (w.alloc o) b m s cap c A T:=⟨h.1.alloc o,h.2.alloc o⟩
theorem J3.drewN (h:J3 w b m s cap c A T)(n:Nat) :J3 (w.drewN n) b m s cap c A T:=h
theorem J3.total (h:J3 w b m s cap c A T)(x:Int) :J3 (w.setCell ⟨b,4,none⟩ (.int .u64 x)) b m s cap c A x:=⟨h.1.set_ 4 _,h.2.setCell (fun e=>h.ne e.symm) _⟩
theorem J3.active (h:J3 w b m s cap c A T)(x:Int) :J3 (w.setCell ⟨b,3,none⟩ (.int .u64 x)) b m s cap c x T:=⟨h.1.set_ 3 _,h.2.setCell (fun e=>h.ne e.symm) _⟩
theorem J3.list (h:J3 w b m s cap c A T)(x:Zl) :J3 (w.setCell ⟨b,1,none⟩ x) b m x cap c A T:=⟨h.1.set_ 1 _,h.2.setCell (fun e=>h.ne e.symm) _⟩
theorem J3.counted (h:J3 w b m s cap c A T){c':Int->Int}(hc:QQ w' m c')(hg:w.grownBy w' (some m)) :J3 w' b m s cap c' A T:=⟨h.1.grown hg (fun e=>h.ne (by injection e)),hc⟩
end
theorem gi (b m cap:Nat)(s:Zl)(c:Int->Int)(A T:Int)(v:ZN)(w:Zc)(h:J3 w b m s cap c A T)(hv:Yp v)(hl:QG v.st=true)
  (Tv:0<=A) (hA:A+v.bal<=18446744073709551615) (kx:0<=T) (hT:T+v.bal<=18446744073709551615) (RG:0<=c v.st) (OO:c v.st<=4096) :
  Mb Zb 214 #[.pointer (some ⟨b,0,none⟩),.agg (Ze v)] w fun e w'=>e= .returned (.tuple #[])/\J3 w' b m s cap (PU c v.st (c v.st+1)) (A+v.bal) (T+v.bal)/\ZA (fun i=>i=b\/i=m) w w':=by
 have HL:Zj (∀w,Y6 103 #[.int .i64 v.st] w (.bool true)):=Za (fun w=>by have:=MF v.st w; rwa [hl] at this);have hK:ZA (fun i=>i=b\/i=m) w (w.alloc (.cells (Ze v) 68)):=(ZA.refl _ w).alloc _;have hE:Zu (w.alloc (.cells (Ze v) 68)) w.heap.size 68 (Ze v):=Zs _ _ _;have Kj: ¬w.heap.size=b:=by have:=h.1.lt; omega
 have HB:=Za (h.alloc (.cells (Ze v) 68));have x0:(w.alloc (.cells (Ze v) 68)).cell? ⟨w.heap.size,0,none⟩=some (.int .u64 v.bal):=hE.cell 0;have x1:(w.alloc (.cells (Ze v) 68)).cell? ⟨w.heap.size,1,none⟩=some (.int .i64 v.st):=hE.cell 1;obtain ⟨-,-,c2,c3,c4⟩:=HB.o.cells;have f3:=HB.o.1.frozen 3;have f4:=HB.o.1.frozen 4;have v0:=hv.bal.1;have HE:=Za hE;have HK:=Za hK;have HW:=Za hv.2;obtain ⟨cs,Hk⟩:=ZR (c v.st);rw [Hk] at RG OO ⊢;have HCS:=Za Hk;obtain ⟨n0,LG⟩:=ZR (w.heap.size);have nU: ¬n0=b:=by rw [<-LG]; exact Kj
 clear Kj;clear h hE hK hv hl Hk;refine ZlW ?_;go_wp2;generalize w.alloc (.cells (Ze v) 68)=W at*;rw [LG] at*;refine BU 9 ?_;refine BY ?_
 repeat (go_big_quiet_step (fail))
 refine Yo ?_;intro _ JG;obtain ⟨n1,Xk⟩:=JG;subst Xk;go_wp2_with fail;refine (HL.o _).mono ?_;rintro e w2 ⟨rfl,rfl⟩;go_wp2_with fail;refine BU 9 ?_;refine BY ?_
 repeat (go_big_quiet_step (fail))
 refine Yo ?_;intro _ JG;obtain ⟨n2,Xk⟩:=JG;subst Xk;go_wp2_with fail;have HR:=Za ((((HB.o.drewN n1).total (T+v.bal)).drewN n2).active (A+v.bal));have Sn:Zj (ZA (fun i=>i=b\/i=m) w ((((W.drewN n1).setCell ⟨b,4,none⟩ (.int .u64 (T+v.bal))).drewN n2).setCell ⟨b,3,none⟩ (.int .u64 (A+v.bal)))):=Za ((((HK.o.drewN n1).setCell (.inl (.inl rfl)) _).drewN n2).setCell (.inl (.inl rfl)) _);have y1:((((W.drewN n1).setCell ⟨b,4,none⟩ (.int .u64 (T+v.bal))).drewN n2).setCell ⟨b,3,none⟩ (.int .u64 (A+v.bal))).cell? ⟨n0,1,none⟩=some (.int .i64 v.st):=(Zu.far (XD (Zu.far (XD HE.o n1) nU _) n2) nU _).cell 1;generalize (((W.drewN n1).setCell ⟨b,4,none⟩ (.int .u64 (T+v.bal))).drewN n2).setCell ⟨b,3,none⟩ (.int .u64 (A+v.bal))=W2 at*;exact Zma
theorem gh (b m cap:Nat)(s:Zl)(c:Int->Int)(A T:Int)(v:ZN)(w:Zc)(h:J3 w b m s cap c A T)(hv:Yp v)(hl:QG v.st=false)
  (kx:0<=T) (hT:T+v.bal<=18446744073709551615) (RG:0<=c v.st) (OO:c v.st<=4096) :
  Mb Zb 214 #[.pointer (some ⟨b,0,none⟩),.agg (Ze v)] w fun e w'=>e= .returned (.tuple #[])/\J3 w' b m s cap (PU c v.st (c v.st+1)) A (T+v.bal)/\ZA (fun i=>i=b\/i=m) w w':=by
 have HL:Zj (∀w,Y6 103 #[.int .i64 v.st] w (.bool false)):=Za (fun w=>by have:=MF v.st w; rwa [hl] at this);have hK:ZA (fun i=>i=b\/i=m) w (w.alloc (.cells (Ze v) 68)):=(ZA.refl _ w).alloc _;have hE:Zu (w.alloc (.cells (Ze v) 68)) w.heap.size 68 (Ze v):=Zs _ _ _;have Kj: ¬w.heap.size=b:=by have:=h.1.lt; omega
 have HB:=Za (h.alloc (.cells (Ze v) 68));have x0:(w.alloc (.cells (Ze v) 68)).cell? ⟨w.heap.size,0,none⟩=some (.int .u64 v.bal):=hE.cell 0;have x1:(w.alloc (.cells (Ze v) 68)).cell? ⟨w.heap.size,1,none⟩=some (.int .i64 v.st):=hE.cell 1;obtain ⟨-,-,c2,c3,c4⟩:=HB.o.cells;have f3:=HB.o.1.frozen 3;have f4:=HB.o.1.frozen 4;have v0:=hv.bal.1;have HE:=Za hE;have HK:=Za hK;have HW:=Za hv.2;obtain ⟨cs,Hk⟩:=ZR (c v.st);rw [Hk] at RG OO ⊢;have HCS:=Za Hk;obtain ⟨n0,LG⟩:=ZR (w.heap.size);have nU: ¬n0=b:=by rw [<-LG]; exact Kj
 clear Kj;clear h hE hK hv hl Hk;refine ZlW ?_;go_wp2;generalize w.alloc (.cells (Ze v) 68)=W at*;rw [LG] at*;refine BU 9 ?_;refine BY ?_
 repeat (go_big_quiet_step (fail))
 refine Yo ?_;intro _ JG;obtain ⟨n1,Xk⟩:=JG;subst Xk;go_wp2_with fail;refine (HL.o _).mono ?_;rintro e w2 ⟨rfl,rfl⟩;go_wp2_with fail;have HR:=Za ((HB.o.drewN n1).total (T+v.bal));have Sn:Zj (ZA (fun i=>i=b\/i=m) w ((W.drewN n1).setCell ⟨b,4,none⟩ (.int .u64 (T+v.bal)))):=Za ((HK.o.drewN n1).setCell (.inl (.inl rfl)) _);have y1:((W.drewN n1).setCell ⟨b,4,none⟩ (.int .u64 (T+v.bal))).cell? ⟨n0,1,none⟩=some (.int .i64 v.st):=(Zu.far (XD HE.o n1) nU _).cell 1;generalize (W.drewN n1).setCell ⟨b,4,none⟩ (.int .u64 (T+v.bal))=W2 at*;exact Zma
theorem SK (b m cap:Nat)(s:Zl)(c:Int->Int)(A T:Int)(v:ZN)(w:Zc)(h:J3 w b m s cap c A T)(hv:Yp v)
  (Tv:0<=A) (hA:A<=T) (hT:T+v.bal<=18446744073709551615) (RG:0<=c v.st) (OO:c v.st<=4096) :
  Mb Zb 214 #[.pointer (some ⟨b,0,none⟩),.agg (Ze v)] w fun e w'=>e= .returned (.tuple #[])/\J3 w' b m s cap (PU c v.st (c v.st+1)) (A+XN v) (T+v.bal)/\ZA (fun i=>i=b\/i=m) w w':=by
 have v0:=hv.bal.1
 cases hl:QG v.st with
 | true=>
  have e:XN v=v.bal:=by simp [XN,hl]
  rw [e];exact gi b m cap s c A T v w h hv hl Tv Zf Zf hT RG OO
 | false=>
  have e:A+XN v=A:=by simp [XN,hl]
  rw [e];exact gh b m cap s c A T v w h hv hl Zf hT RG OO
end
end Go.Proofs.YtobgbcdgffgdhaaGreat
