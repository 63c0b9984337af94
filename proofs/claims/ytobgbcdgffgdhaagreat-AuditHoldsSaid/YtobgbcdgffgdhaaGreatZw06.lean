/- Part 6 of 31: First Build Structs L16Val L07Base L07Get Table WrapF L05Tab L05Next WrapQ L03Open L06Base L06Book L07Sums. -/
import Derived.Test.YtobgbcdgffgdhaaGreatZw00
import Derived.Test.YtobgbcdgffgdhaaGreatZw02
import Derived.Test.YtobgbcdgffgdhaaGreatZw04
import Derived.ChangeAt
import Derived.Deep.Fields
import Derived.Deep.RegionHeld3
import Derived.Deep.WholeRow
namespace Go.Proofs.YtobgbcdgffgdhaaGreat
set_option linter.unusedVariables false
set_option linter.unusedSimpArgs false
set_option maxRecDepth 100000
set_option maxHeartbeats 8000000
open _root_.Array renaming all_eq_true_iff_forall_mem -> ZK, getElem?_eq_some_iff -> Ym, replicate -> Qk
open _root_.Go.RowKit renaming Below -> Zp
open _root_.Go.RowKit.Below renaming refl -> Zo
open _root_.Go.Proofs.YtobgbcdgffgdhaaGreat.Zu renaming alloc -> Yw, cell -> XP, drewN -> Xq, frozen -> Km, new -> Zt, set_ -> Va
open _root_.Bool renaming and_eq_true -> YO, not_eq_true' -> VR, or_eq_true -> UU
open _root_.Go renaming Calls -> Zv, FuncId -> UK, NoPanic -> Qq, Operand -> YN, Program -> YL, TypeId -> ZJ, TypeInfo -> Ve, Value -> Zk, World -> Zc, bodyPost_ret -> Yd, execOp -> XL, getD_replicate_false -> Uj, heap_alloc_new -> ZA, mem_ready -> Vj, ready_mono -> Uo, run_part_plain -> X9, run_underlying -> Xa, typeInfo -> VK, wpList -> YQ, wpList_load_mid -> Je, wpQuiet -> ZZ, yielded -> VD, zeroValue -> JZ
open _root_.Go.Instr renaming buildSlice -> XD, loadAt -> Uv, lookup -> JN, mapUpdate -> UZ
open _root_.List renaming all_eq_true -> Xh, cons_append -> Yf, flatMap_cons -> QZ, getElem?_eq_getElem -> Zg, getElem?_eq_some_iff -> Zj, length_cons -> Yc, map_cons -> YY, map_nil -> KG, map_toArray -> JI, mem_cons -> ZU, mem_map -> Z6, mem_of_getElem? -> Zy, mem_range -> Qo, not_mem_nil -> Yg, range -> YS
open _root_.Go.Lit renaming int -> YJ
open _root_.Go.MapKept renaming run_getObj_map -> Qg
open _root_.Nat renaming le_refl -> Zh, zero_add -> ZV
open _root_.Go.Op renaming eqFields -> KJ
open _root_.Go.Oper renaming quietAt -> Vv, wp -> Jp
open _root_.Option.some renaming inj -> ZL
open _root_.Go.Region renaming Mode -> JS, binds -> Xd, chainB -> KR, noSelect -> X3, ready -> Yq, seqB -> JT, sinkB -> KK, wanted -> XJ
open _root_.Go.Result renaming andThen -> YZ, andThen_ok -> ZW
open _root_.Go.Sem renaming run_bind -> Yr, run_pure -> YU
open _root_.Go.Proofs.Tryz renaming prog -> Zb
open _root_.Go.World renaming setRow_alloc_new -> Zr
open Go.Proofs.Tryz
theorem IX {G:Prop}(h:G:=by rw [hf]; exact h) :G:=h
theorem LS {G:Prop}(h:G:=by simp [hj]) :G:=h
theorem iX {G:Prop}(h:G:=by have:=(List.getElem?_eq_some_iff.1 hi).1; omega) :G:=h
theorem DD {G:Prop}(h:G:=by simp [hx]) :G:=h
theorem LR {G:Prop}(h:G:=by simp [Program.plainKey,hk]) :G:=h
theorem X5 {G H:Prop} (k:H) (h:DE H->G:=by
  intro zk;simp only [qB];exact zk.o) :G:=h ⟨k⟩
theorem JL {G H:Prop} (k:H) (h:DE H->G:=by
  intro zk;simp only [qF,qH];exact zk.o) :G:=h ⟨k⟩
theorem Da {G H:Prop} (k:H) (h:DE H->G:=by
  intro zk;simp only [Act.put,qG,qS];exact zk.o) :G:=h ⟨k⟩
theorem Mh {G H:Prop} (k:H) (h:DE H->G:=by
  intro zk;simp only [qA];exact zk.o) :G:=h ⟨k⟩
theorem Gz {G H:Prop} (k:H) (h:DE H->G:=by
  intro zk;iterate 1 (go_big_quiet_step ((intros; rfl)))
  exact zk.o) :G:=h ⟨k⟩
theorem Bi {G H:Prop} (k:H) (h:DE H->G:=by
  intro zk;iterate 4 (go_big_quiet_step ((intros; rfl)))
  exact zk.o) :G:=h ⟨k⟩
theorem B9 {G H:Prop} (k:H) (h:DE H->G:=by
  intro zk;iterate 2 (go_big_quiet_step ((intros; rfl)))
  exact zk.o) :G:=h ⟨k⟩
theorem GO {G H:Prop} (k:H) (h:DE H->G:=by
  intro zk;show Region.seqB _ _ _ _ _=true/\_;exact zk.o) :G:=h ⟨k⟩
theorem He {G H:Prop} (k:H) (h:DE H->G:=by
  intro zk;show wpQuiet _ _ _ _ [_,_,_,_] _;exact zk.o) :G:=h ⟨k⟩
theorem Ol {G H:Prop} (k:H) (h:DE H->G:=by
  intro zk;show wpQuiet _ _ _ _ [_,_,_,_,_] _;exact zk.o) :G:=h ⟨k⟩
theorem Gy {G H:Prop} (k:H) (h:DE H->G:=by
  intro zk;refine NoPanic.normal ?_;exact zk.o) :G:=h ⟨k⟩
theorem Zhi {G H:Prop} (k:H) (h:DE H->G:=by
  intro zk;refine Fh func214 rfl ?_;simp only [ntmps214,List.size_toArray,List.length_cons,List.length_nil,Nat.reduceAdd,Nat.reduceSub,Array.replicate_succ,Array.replicate_zero,List.push_toArray,List.append_toArray,List.nil_append,List.cons_append];exact zk.o) :G:=h ⟨k⟩
theorem jk {G H:Prop} (k:H) (h:DE H->G:=by
  intro zk;show wpQuiet _ _ _ _ [_,_,_,_,_,_,_,_,_,_] _;exact zk.o) :G:=h ⟨k⟩
theorem Zhj {G H:Prop} (k:H) (h:DE H->G:=by
  intro zk;refine Uk (fun w'=>w'.cell? ⟨wr.heap.size,1,none⟩=some (.int .u64 x)/\w'.cell? ⟨w.heap.size,s,none⟩=some (.int .u64 y)) (m:=11) (f:=6) [0,1,2,3,4] (fun _ _=>trivial) ZC ⟨x1,y1⟩ ?_;exact zk.o) :G:=h ⟨k⟩
theorem Zhl {G H:Prop} (k:H) (h:DE H->G:=by
  intro zk;iterate 6 (go_big_quiet_step (fail))
  refine j8 _ _ rfl rfl (fun w h=>by obtain ⟨n,rfl⟩:=h; exact HR.o.2.drewN n) underlying3 underlying144 LU v.st rfl rfl HW.o ?_;rw [HCS.o];exact zk.o) :G:=h ⟨k⟩
theorem DM {G H:Prop} (k:H) (h:DE H->G:=by
  intro zk;refine Jg (i:=5) ?_;exact zk.o) :G:=h ⟨k⟩
theorem Zhm {G H:Prop} (k:H) (h:DE H->G:=by
  intro zk;refine SR (fun w'=>w'.cell? ⟨wr.heap.size,1,none⟩=some (.int .u64 x)/\w'.cell? ⟨w.heap.size,s,none⟩=some (.int .u64 y)) (m:=4) (f:=0) [7,8,9,10] ⟨x2,y2⟩ ?_;exact zk.o) :G:=h ⟨k⟩
theorem Mo {G H:Prop} (k:H) (h:DE H->G:=by
  intro zk;refine Jg (i:=6) ?_;exact zk.o) :G:=h ⟨k⟩
theorem ZbU {G:Prop} (h:G:=by
  obtain rfl | rfl | rfl:j=0\/j=1\/j=2:=Zf
  all_goals exact hv) :G:=h
theorem Zht {G:Prop} (h:G:=by
  clear x0 x1 c2 c3 c4 f3 f4 HB HK HE W;obtain ⟨-,-,c2,-,-⟩:=HR.o.cells;refine GL 8 ?_;refine GM ?_;refine Zhl ?_;refine X5 ?_
  repeat (go_big_quiet_step (fail))
  refine XK ?_;intro _ Jq;obtain ⟨n3,Y9⟩:=Jq;subst Y9;refine FG rfl _ _ _ rfl (HR.o.2.drewN n3) underlying3 underlying144 v.st (cs+1) rfl rfl rfl HW.o ?_;intro W3 xf hg3;have HZ:=Za (And.intro ((HR.o.drewN n3).counted xf hg3) ((Pz.o.drewN n3).trans (Zx.of_grown (S:=fun i=>i=m) hg3 (fun i hi=>by injection hi)) (fun i _ e=> .inr e)));clear xf hg3;go_wp2;go_end0;exact ⟨rfl,HZ.o⟩) :G:=h
theorem Zh1 {G:Prop} (h:G:=by
  intro j v hv;have hj:j < 3:=(List.getElem?_eq_some_iff.1 hv).1;rw [Nat.zero_add,Zu.cell h j];exact ZbU) :G:=h
theorem Zer {G:Prop} (h:G:=by
  rcases h.2 with ⟨rfl,rfl⟩ | ⟨g,cp,cur,rfl,_,_,h1,h2,_⟩
  ·exact ⟨none,0,rfl,by omega,by unfold maxLen; omega⟩
  ·exact ⟨_,cp,rfl,h1,h2⟩) :G:=h
theorem Zey {G:Prop} (h:G:=by
  refine ⟨h.1,h.2.imp id ?_⟩;rintro ⟨g,cp,cur,rfl,h1,h2,h3⟩;exact ⟨g,cp,cur,rfl,h1,(hb g rfl).trans h2,h3⟩) :G:=h
theorem ZaW {G:Prop} (h:G:=by
  rcases Nat.lt_or_ge i base.size with h | h
  ·exact h
  ·simp [Array.getElem?_eq_none h] at hi) :G:=h
theorem Zbd {G:Prop} (h:G:=by
  simp [asAddr,run_loadVar_row w g t ty cs fr d hg hu hd hi,Result.andThen]) :G:=h
theorem Zbm {G:Prop} (h:G:=by
  go_enter func103,ntmps103;exact On) :G:=h
theorem Zbn {G:Prop} (h:G:=by
  go_enter func261,ntmps261;exact On) :G:=h
theorem ud {G:Prop} (h:G:=by
  go_enter func250,ntmps250;exact On) :G:=h
theorem Zbq {G:Prop} (h:G:=by
  exact ((Below.refl _ _).alloc (Nat.le_refl _) _).alloc ZE _) :G:=h
theorem uj {G:Prop} (h:G:=by
  rintro e w' ⟨rfl,rfl⟩;exact On) :G:=h
theorem uy {G:Prop} (h:G:=by
  exact (List.getElem?_eq_some_iff.1 hu).1) :G:=h
theorem kY {G:Prop} (h:G:=by
  subst NF;exact hy.wpOp hi hS ⟨hS,H⟩) :G:=h
section
open Go Go.RowKit
def RT (o:Oper) :Bool:=
 match o.op with
 | .move _ | .assign _ | .build .. | .load .. | .nilCheck _ | .binOp .. | .unOp .. | .convert .. | .slice .. | .fieldAddr .. | .field .. | .indexAddr .. | .index .. | .extract .. | .pick .. | .lookup .. =>true
 | .call { callee:= .builtin .len,..} | .call { callee:= .builtin .cap,..} | .call { callee:= .builtin .min,..} | .call { callee:= .builtin .max,..}=>true
 | _=>false
section
variable {P:YL} {ops:Array Oper} {Q:Exit->Act->Zc->Prop} {md:JS} {S:Zc->Prop}
def Dh (P:YL)(m:Sem Next) :Prop:= ∀w n w',m.run P w= .ok n w'-> ∃v,n= .value v
theorem D7 (v:Zk) :Dh P (pure (.value v)):=fun w n w' h=>by
 rw [YU] at h;injection h with h _;exact ⟨v,h.symm⟩
theorem Ob {α:Type}{m:Sem α}{k:α->Sem Next}(h: ∀x,Dh P (k x)) :Dh P (m>>=k):=fun w n w' hr=>by
 rw [Yr] at hr
 cases hm:m.run P w with
 | ok x w1=>rw [hm,ZW] at hr; exact h x _ _ _ hr
 | halt x w1=>rw [hm] at hr; cases hr
theorem Oc:Dh P (runtimePanic (.nilDeref:RuntimeError)):=fun w n w' h=>by simp [runtimePanic,goPanic] at h
theorem zi {r:Result Zk}{n:Next}{w':Zc}(h:(r.andThen fun a w1=> .ok (Next.value a) w1)= .ok n w') : ∃v,n= .value v:=by
 cases r with
 | ok x w1=>rw [ZW] at h; injection h with h _; exact ⟨x,h.symm⟩
 | halt x w1=>cases h
theorem Ij {o:Oper}(hp:RT o=true)(ρ:YN->Zk) :Dh P (XL ρ o):=by
 unfold XL;unfold RT at hp
 cases ho:o.op <;> rw [ho] at hp <;> try (cases hp; done)
 case nilCheck x=>
  dsimp only
  split
  ·exact Oc
  ·exact Oc
  ·exact Oc
  ·split
   ·exact Oc
   ·exact Ob fun _=>Ob fun _=>by
     split
     ·exact Ob fun _=>D7 _
     ·exact D7 _
   ·exact D7 _
  ·exact D7 _
 case move=>exact D7 _
 case assign=>exact D7 _
 case pick=>exact Ob fun _=>D7 _
 case call c=>
  obtain ⟨cal,args,vU⟩:=c
  cases cal with
  | builtin b=>
   cases b <;> try (cases hp; done)
   all_goals
    intro w n w' h;simp only [resolve,Yr,YU,ZW,invoke,builtin] at h;exact zi h
  | invoke=>cases hp
  | value=>cases hp
 all_goals exact Ob fun _=>D7 _
def XT (P:YL)(md:JS)(ops:Array Oper)(Q:Exit->Act->Zc->Prop)(S:Zc->Prop)(n:Nat)(L:Array Bool->Act->Zc->Prop) :Nat->Array Bool->Act->Zc->Prop
 | 0,Zs,a,w=>L Zs a w
 | f+1,Zs,a,w=>
  Yq md ops Zs≠ []/\ ∀i ∈ Yq md ops Zs,i < n/\wpOp P ops Q i (fun a' w'=>S w'/\XT P md ops Q S n L f (Zs.setIfInBounds i true) a' w') a w
theorem DA {n g:Nat}{L:Array Bool->Act->Zc->Prop}(hL: ∀Zs a w,L Zs a w->wpAny P md ops Q g Zs a w) :
  ∀(f:Nat) (Zs:Array Bool) (a:Act) (w:Zc),XT P md ops Q S n L f Zs a w->wpAny P md ops Q (f+g) Zs a w
 | 0,Zs,a,w,h=>by rw [ZV]; exact hL _ _ _ h
 | f+1,Zs,a,w,h=>by
  rw [show f+1+g=(f+g)+1 by omega];exact ⟨fun h0=>absurd h0 h.1,fun i hi=>wpOp_mono (fun a' w' h'=>DA hL f _ a' w' h'.2) (h.2 i hi).2⟩
theorem WV {n i:Nat}{oi:Oper}{v:Zk}{L:Array Bool->Act->Zc->Prop}(hi:ops[i]?=some oi)(G9: ∀(j:Nat) (o:Oper) cs b,ops[j]?=some o->o.op≠ .select cs b)
  (hs:KK md ops n=true) (hc:KR md ops n=true) (hn:n < ops.size) (WG:i < n)
  (hQ: ∀c a w,Q (.panic c) (a.put oi.dst v) w->Q (.panic c) a w)
  (EC: ∀Zs a w,L Zs a w-> ∀j ∈ Yq md ops Zs,n<=j) :
  ∀(f:Nat) (Zs:Array Bool) (a:Act) (w:Zc),HeadInv md ops n Zs->
   (∀j oj,ops[j]?=some oj->j≠i->Zs.getD j true=false->(∀e ∈ oj.after,Xd md e=true->e.on≠i)->oi.apart ops oj=true)->
   i ∈ Yq md ops Zs->YieldsIf P ops S oi v a->S w->
   XT P md ops Q S n L f (Zs.setIfInBounds i true) (a.put oi.dst v) w->XT P md ops Q S n L (f+1) Zs a w:=by
 intro f
 induction f with
 | zero=>
  intro Zs a w inv _ hr hy hS H;have CU:=(Vj.1 hr).1;refine ⟨fun h=>Pq,fun j hj=>?_⟩;have Dc:j < n:=kO
  refine ⟨Dc,?_⟩
  by_cases NF:j=i
  ·exact kY
  ·have:=EC _ _ _ H j (Uo hj NF);omega
 | succ f ih=>
  intro Zs a w inv Mt hr hy hS H;have CU:=(Vj.1 hr).1;refine ⟨fun h=>Pq,fun j hj=>?_⟩;have Dc:j < n:=kO
  refine ⟨Dc,?_⟩
  by_cases NF:j=i
  ·exact kY
  ·have h1:=(H.2 j (Uo hj NF)).2;obtain ⟨bL,oj,ri,Dn⟩:=Vj.1 hj;have Fp: ∀e ∈ oj.after,Xd md e=true->e.on≠i:=fun e he hb heq=>by
    exact uf
   have h2:=wpOp_putIf ri (Mt j oj ri NF bL Fp) (fun cs b=>G9 i oi cs b hi) (fun cs b=>G9 j oj cs b ri) hQ hy h1;have SS: ∀k ok,ops[k]?=some ok->k≠i->(Zs.setIfInBounds j true).getD k true=false->
     (∀e ∈ ok.after,Xd md e=true->e.on≠i)->oi.apart ops ok=true:=fun k ok hk hki CU rh=>by
    refine Mt k ok hk hki ?_ rh
    by_cases ED:j=k
    ·subst ED; exact bL
    ·rw [getD_set_ne true ED] at CU; exact CU
   refine wpOp_mono (fun a' w' h3=>⟨h3.2.1,ih (Zs.setIfInBounds j true) a' w' (inv.set hj Dc) SS (Uo hr (Ne.symm NF)) h3.1 h3.2.1 ?_⟩) h2;rw [Array.setIfInBounds_comm _ _ NF];exact h3.2.2
def ER (md:JS)(ops:Array Oper)(n:Nat) :List Nat->Array Bool->Bool
 | [],_=>true
 | k::ks,Zs=>decide (k < n)&&(match ops[k]? with | some o=>RT o | none=>false)&&(Yq md ops Zs).contains k&&Region.free md ops Zs k&&ER md ops n ks (Zs.setIfInBounds k true)
def UA:List Nat->Array Bool->Array Bool
 | [],Zs=>Zs
 | k::ks,Zs=>UA ks (Zs.setIfInBounds k true)
theorem D8 {o:Oper}{a:Act}{K:Act->Prop}{i:Nat}(hi:ops[i]?=some o)(hp:RT o=true)(h:qOp P ops S i K a) : ∃v,YieldsIf P ops S o v a/\K (a.put o.dst v):=by
 obtain ⟨v,hy,hk⟩:=yieldsIn_of_qOp hi h;refine ⟨v,?_,hk⟩
 rcases hy with ⟨hw,hv⟩ | ⟨hw,hv⟩
 ·refine .inl ⟨hw,fun w hS=>?_⟩;have h3:=hv w hS;have hpv:=Ij (P:=P) hp a.eval w;unfold Vv at h3;generalize (XL a.eval o).run P w=r at*
  cases r with
  | ok x w'=>
   obtain ⟨u,rfl⟩:=hpv x w' rfl;simp only [Oper.quietUpon] at h3;rw [h3.1,h3.2]
  | halt x w'=>simp only [Oper.quietUpon] at h3
 ·exact .inr ⟨hw,hv⟩
theorem El {n:Nat}{L:Array Bool->Act->Zc->Prop}{w:Zc}(G9:X3 ops=true)
  (hs:KK md ops n=true) (hc:KR md ops n=true) (hn:n < ops.size) (hQ: ∀c a w,Q (.panic c) a w->False)
  (EC: ∀Zs a w,L Zs a w-> ∀j ∈ Yq md ops Zs,n<=j) (hS:S w) (f:Nat) :
  ∀(ks:List Nat) (Zs:Array Bool) (a:Act),HeadInv md ops n Zs->ER md ops n ks Zs=true->
   ZZ P ops S (fun a'=>XT P md ops Q S n L f (UA ks Zs) a' w) (ks.filterMap fun k=>ops[k]?) a->XT P md ops Q S n L (f+ks.length) Zs a w
 | [],Zs,a,_,_,h=>h
 | k::ks,Zs,a,inv,hB,h=>by
  simp only [ER,YO,decide_eq_true_eq] at hB;obtain ⟨⟨⟨⟨Hd,hp⟩,hr⟩,hf⟩,hB'⟩:=hB
  cases ho:ops[k]? with
  | none=>rw [ho] at hp; cases hp
  | some o=>
   rw [ho] at hp;rw [List.filterMap_cons_some ho] at h;have xA:k ∈ Yq md ops Zs:=by simpa using hr
   have hq:qOp P ops S k (ZZ P ops S (fun a'=>XT P md ops Q S n L f (UA ks (Zs.setIfInBounds k true)) a' w) (ks.filterMap fun k=>ops[k]?)) a:=by unfold qOp; simp only [ho]; exact h
   obtain ⟨v,hy,hK⟩:=D8 ho hp hq;exact WV ho (Region.noSelect_spec G9) hs hc hn Hd (fun c a w h=>(hQ _ _ _ h).elim) EC (f+ks.length) Zs a w inv (Region.free_spec ho hf) xA hy hS
    (El G9 hs hc hn hQ EC hS f ks _ _ (inv.set xA Hd) hB' hK)
theorem RD {P:YL}{id:Nat}{Q:Exit->Act->Zc->Prop}{a:Act}{w:Zc}{l:List Oper}(S:Zc->Prop)(n f:Nat)(ks:List Nat)(hm:P.follows .mixedOrders=true)
  (hB:(X3 l.toArray&&decide (n < l.toArray.size)&&KK .any l.toArray n&&KR .any l.toArray n&&ER .any l.toArray n ks (Qk l.toArray.size false)&&decide (f+ks.length=n))=true)
  (hS:S w.drew)
  (h:ZZ P l.toArray S (fun a'=>XT P .any l.toArray (Qq Q) S n (fun Zs a' w'=>JT .any l.toArray (l.toArray.size - n) n Zs=true/\YQ P l.toArray (Qq Q) (l.drop n) a' w') f (UA ks (Qk l.toArray.size false)) a' w.drew) (ks.filterMap fun k=>l.toArray[k]?) a) :
  (Code.region id l.toArray true).wp P Q a w:=by
 simp only [YO,decide_eq_true_eq] at hB;obtain ⟨⟨⟨⟨⟨G9,hn⟩,hs⟩,hc⟩,ht⟩,hf⟩:=hB;refine wp_region_noPanic (wp_region_any hm ?_);have hdl:(l.drop n).length=l.toArray.size - n:=ZE;have inv0:HeadInv .any l.toArray n (Qk l.toArray.size false):=
  ⟨by simp,fun j oj _ hl=>(by rw [Uj] at hl; cases hl),fun t _ ht=>getD_in (by simpa using ht) (Uj _ _)⟩
 have H:=El (Q:=Qq Q) G9 hs hc hn (fun _ _ _ h=>h) (fun Zs a w hL=>seqB_ready hL.1) hS f ks _ a inv0 ht h;have:=DA (Q:=Qq Q) (g:=l.toArray.size - n) (fun Zs a' w' hL=>by
  have:=wpAny_of_seq (md:= .any) (Q':=Qq Q) (l.drop n) n Zs a' w' (fun j=>by simp [List.getElem?_drop]) (by rw [hdl]; exact hL.1) hL.2;rwa [hdl] at this) _ _ _ _ H
 rw [hf,show n+(l.toArray.size - n)=l.toArray.size by omega] at this;exact this
theorem FF {S':Zc->Prop}(hS: ∀w,S' w->S w){n:Nat}{L:Array Bool->Act->Zc->Prop} : ∀(f:Nat) (Zs:Array Bool) (a:Act) (w:Zc),XT P md ops Q S' n L f Zs a w->XT P md ops Q S n L f Zs a w
 | 0,_,_,_,h=>h
 | f+1,_,_,_,h=>⟨h.1,fun i hi=>⟨(h.2 i hi).1,wpOp_mono (fun a' w' h'=>⟨hS _ h'.1,FF hS f _ a' w' h'.2⟩) (h.2 i hi).2⟩⟩
def ND (md:JS)(ops:Array Oper)(n:Nat)(Zs:Array Bool) :Bool:=
 Nat.beq Zs.size ops.size&&((YS ops.size).all fun j=>!(Zs.getD j false)||(match ops[j]? with | some o=>o.after.toList.all fun e=>!(Xd md e)||Zs.getD e.on false | none=>true))&&
  ((YS ops.size).all fun t=>Nat.blt t n||!(Zs.getD t true))
theorem fD {n:Nat}{Zs:Array Bool}(h:ND md ops n Zs=true) :HeadInv md ops n Zs:=by
 simp only [ND,YO,Xh,Qo,UU,VR] at h;obtain ⟨⟨h1,h2⟩,h3⟩:=h;refine ⟨Nat.eq_of_beq_eq_true h1,fun j oj hj hl e he hb=>?_,fun t ht jV=>?_⟩
 ·have EE:j < ops.size:=(Ym.1 hj).1
  rcases h2 j EE with h | h
  ·rw [hl] at h; cases h
  ·rw [hj] at h;simp only [Xh,UU,VR] at h
   rcases h e (by simpa using he) with h | h
   ·rw [hb] at h; cases h
   ·exact h
 ·rcases h3 t jV with h | h
  ·have:t < n:=KB;omega
  ·exact h
theorem Uk {n f m:Nat}{l:List Oper}{Q:Exit->Act->Zc->Prop}{a:Act}{w:Zc}{Zs:Array Bool}(S':Zc->Prop)(ks:List Nat)(hSS: ∀w,S' w->S w)
  (hB:(X3 l.toArray&&decide (n < l.toArray.size)&&KK .any l.toArray n&&KR .any l.toArray n&&ND .any l.toArray n Zs&&ER .any l.toArray n ks Zs&&decide (f+ks.length=m))=true) (hS:S' w)
  (h:ZZ P l.toArray S' (fun a'=>XT P .any l.toArray (Qq Q) S' n (fun Zs a' w'=>JT .any l.toArray (l.toArray.size - n) n Zs=true/\YQ P l.toArray (Qq Q) (l.drop n) a' w') f (UA ks Zs) a' w) (ks.filterMap fun k=>l.toArray[k]?) a) :
  XT P .any l.toArray (Qq Q) S n (fun Zs a' w'=>JT .any l.toArray (l.toArray.size - n) n Zs=true/\YQ P l.toArray (Qq Q) (l.drop n) a' w') m Zs a w:=by
 simp only [YO,decide_eq_true_eq] at hB;obtain ⟨⟨⟨⟨⟨⟨G9,hn⟩,hs⟩,hc⟩,hi⟩,ht⟩,hf⟩:=hB;refine FF hSS m Zs a w ?_;rw [<-hf];exact El (Q:=Qq Q) G9 hs hc hn (fun _ _ _ h=>h) (fun Zs a w hL=>seqB_ready hL.1) hS f ks _ a (fD hi) ht h
theorem Db {n f i:Nat}{L:Array Bool->Act->Zc->Prop}{Zs:Array Bool}{a:Act}{w:Zc}(hr:Yq md ops Zs=[i])(hi:i < n)
  (h:wpOp P ops Q i (fun a' w'=>S w'/\XT P md ops Q S n L f (Zs.setIfInBounds i true) a' w') a w) :XT P md ops Q S n L (f+1) Zs a w:=by
 refine ⟨by rw [hr]; simp,fun j hj=>?_⟩;rw [hr] at hj;obtain rfl:j=i:=by simpa using hj
 exact ⟨hi,h⟩
theorem Vh {n f i k:Nat}{L:Array Bool->Act->Zc->Prop}{Zs:Array Bool}{a:Act}{w:Zc}(hr:Yq md ops Zs=[i,k])(hi:i < n)(hk:k < n)
  (h1:wpOp P ops Q i (fun a' w'=>S w'/\XT P md ops Q S n L f (Zs.setIfInBounds i true) a' w') a w)
  (h2:wpOp P ops Q k (fun a' w'=>S w'/\XT P md ops Q S n L f (Zs.setIfInBounds k true) a' w') a w) :XT P md ops Q S n L (f+1) Zs a w:=by
 refine ⟨by rw [hr]; simp,fun j hj=>?_⟩;rw [hr] at hj
 rcases (by simpa using hj:j=i\/j=k) with rfl | rfl
 ·exact ⟨hi,h1⟩
 ·exact ⟨hk,h2⟩
theorem Yz {i:Nat}{o:Oper}{K:Act->Zc->Prop}{a:Act}{w:Zc}(ho:ops[i]?=some o)(hg:o.guard=none)(h:o.wp P a w K Q) :wpOp P ops Q i K a w:=by
 unfold wpOp;rw [ho];simp only [XJ,hg,if_true];exact .inl h
theorem KQ {i:Nat}{o:Oper}{K:Act->Zc->Prop}{a:Act}{w:Zc}(ho:ops[i]?=some o)(hg:XJ o (VD ops a.tmps)=true)(h:o.wp P a w K Q) :wpOp P ops Q i K a w:=by
 unfold wpOp;rw [ho];simp only [hg,if_true];exact .inl h
theorem ZdN {Qa:Act->Prop}{a:Act}{o:Oper}{rest:List Oper}(ty:ZJ)(x:YN)(p:Addr)(v:Zk)(hw:XJ o (VD ops a.tmps)=true)(ho:o.op= .load ty x)(hx:a.eval x= .pointer (some p))
  (hl: ∀w,w.cell? p=some v->(Uv ty (.pointer (some p))).run P w= .ok v w) (hS: ∀w,S w->w.cell? p=some v) (h:ZZ P ops S Qa rest (a.put o.dst v)) :ZZ P ops S Qa (o::rest) a:=by
 refine Il v hw (fun w hc=>?_) h;unfold XL;simp only [ho,hx,Yr,YU,ZW,hl w (hS w hc)]
end
section
variable {P:YL}
theorem MS (w:Zc)(T e:ZJ)(i:Ve)(z v:Zk)(ht:P.underlying T=some (.slice e))(hi:P.info? e=some i)(hz:i.zero=some z)(hs:i.size=1)(By:z.cells.size=1)(h1:v.cells= #[v]) :
  (XD T 1 #[(0,v)]).run P w= .ok (.slice (some ⟨w.heap.size,0,none⟩) 1 1) (w.alloc (.cells #[v] e)):=by
 simp [XD,Xa ht,sizeOf,VK,hi,hs,JZ,hz,Instr.fill,newRow,h1,By];simp [go_sem]
theorem JY {o:Oper}{a:Act}{w:Zc}{K:Act->Zc->Prop}{Q:Exit->Act->Zc->Prop}(T e:ZJ)(i:Ve)(x:YN)(z v:Zk)(ho:o.op= .buildSlice T 1 #[(0,x)])(hx:a.eval x=v)(ht:P.underlying T=some (.slice e))(hi:P.info? e=some i)(hz:i.zero=some z)(hs:i.size=1)(By:z.cells.size=1)(h1:v.cells= #[v])
  (h:K (a.put o.dst (.slice (some ⟨w.heap.size,0,none⟩) 1 1)) (w.alloc (.cells #[v] e))) :o.wp P a w K Q:=by
 unfold Jp XL;simp only [ho,JI,YY,KG,hx,Yr,MS w T e i z v ht hi hz hs By h1,ZW,YU];exact h
theorem Kt {o:Oper}{a:Act}{w:Zc}{K:Act->Zc->Prop}{Q:Exit->Act->Zc->Prop}{f:UK}{xs:Array YN}{vU:Array ZJ}(ho:o.op= .call { callee:= .value (.func f),args:=xs,argTypes:=vU})(vs:Array Zk)
  (hvs: #[]++xs.map a.eval++ #[]=vs) (VH: ∀args w,(callFunc f args).run P w= .ok (.enter f args) w) (hC:Zv P f vs w fun e w'=> ∃v,e= .returned v/\K (a.put o.dst v) w') :o.wp P a w K Q:=by
 obtain ⟨dst,op,ty,pos,after,guard⟩:=o
 dsimp only at ho hC
 subst ho;unfold Jp;have e:XL a.eval { dst,op:= .call { callee:= .value (.func f),args:=xs,argTypes:=vU},type:=ty,pos,after,guard}=callFunc f (#[]++xs.map a.eval++ #[]):=rfl;rw [e,VH,hvs];exact hC.mono fun e w' ⟨v,he,hk⟩=>by subst he; exact hk
end
end
section
open Go Go.RowKit
theorem ZD {w:Zc}{p:Addr}{v:Zk}(o:Obj)(h:w.cell? p=some v) :(w.alloc o).cell? p=some v:=by
 have:=(Zo w.heap.size w).alloc (Zh _) o;exact (this.cell (Ga h)).trans h
section
variable {P:YL}
theorem NL {t:ZJ}{z:Zk}{n:Nat}(h:(P.info? t).map (fun i=>(i.zero,i.size))=some (some z,n)) : ∃i,P.info? t=some i/\i.zero=some z/\i.size=n:=by
 cases hi:P.info? t with
 | none=>rw [hi] at h; cases h
 | some i=>
  rw [hi] at h;simp at h;exact ⟨i,rfl,h.1,h.2⟩
theorem MU (w:Zc)(T e:ZJ)(i:Ve)(z q v u:Zk)(ht:P.underlying T=some (.slice e))(hi:P.info? e=some i)(hz:i.zero=some z)(hs:i.size=1)(By:z.cells= #[q])(h1:v.cells= #[v])(h2:u.cells= #[u]) :
  (XD T 2 #[(0,v),(1,u)]).run P w= .ok (.slice (some ⟨w.heap.size,0,none⟩) 2 2) (w.alloc (.cells #[v,u] e)):=by
 simp [XD,Xa ht,sizeOf,VK,hi,hs,JZ,hz,Instr.fill,newRow,h1,h2,By];simp [go_sem]
theorem QE {o:Oper}{a:Act}{w:Zc}{K:Act->Zc->Prop}{Q:Exit->Act->Zc->Prop}(T e:ZJ)(x y:YN)(z q v u:Zk)(ho:o.op= .buildSlice T 2 #[(0,x),(1,y)])(hx:a.eval x=v)(hy:a.eval y=u)(ht:P.underlying T=some (.slice e))(hI:(P.info? e).map (fun i=>(i.zero,i.size))=some (some z,1))(By:z.cells= #[q])(h1:v.cells= #[v])(h2:u.cells= #[u])
  (h:K (a.put o.dst (.slice (some ⟨w.heap.size,0,none⟩) 2 2)) (w.alloc (.cells #[v,u] e))) :o.wp P a w K Q:=by
 obtain ⟨i,hi,hz,hs⟩:=NL hI;unfold Jp XL;simp only [ho,JI,YY,KG,hx,hy,Yr,MU w T e i z q v u ht hi hz hs By h1 h2,ZW,YU];exact h
theorem Ly (w:Zc)(T e:ZJ)(i:Ve)(z q v u t:Zk)(ht:P.underlying T=some (.slice e))(hi:P.info? e=some i)(hz:i.zero=some z)(hs:i.size=1)(By:z.cells= #[q])(h1:v.cells= #[v])(h2:u.cells= #[u])(h3:t.cells= #[t]) :
  (XD T 3 #[(0,v),(1,u),(2,t)]).run P w= .ok (.slice (some ⟨w.heap.size,0,none⟩) 3 3) (w.alloc (.cells #[v,u,t] e)):=by
 simp [XD,Xa ht,sizeOf,VK,hi,hs,JZ,hz,Instr.fill,newRow,h1,h2,h3,By];simp [go_sem]
theorem BM {o:Oper}{a:Act}{w:Zc}{K:Act->Zc->Prop}{Q:Exit->Act->Zc->Prop}(T e:ZJ)(x y p:YN)(z q v u t:Zk)(ho:o.op= .buildSlice T 3 #[(0,x),(1,y),(2,p)])(hx:a.eval x=v)(hy:a.eval y=u)(hp:a.eval p=t)(ht:P.underlying T=some (.slice e))(hI:(P.info? e).map (fun i=>(i.zero,i.size))=some (some z,1))(By:z.cells= #[q])(h1:v.cells= #[v])(h2:u.cells= #[u])(h3:t.cells= #[t])
  (h:K (a.put o.dst (.slice (some ⟨w.heap.size,0,none⟩) 3 3)) (w.alloc (.cells #[v,u,t] e))) :o.wp P a w K Q:=by
 obtain ⟨i,hi,hz,hs⟩:=NL hI;unfold Jp XL;simp only [ho,JI,YY,KG,hx,hy,hp,Yr,Ly w T e i z q v u t ht hi hz hs By h1 h2 h3,ZW,YU];exact h
theorem Mn (w:Zc)(T e:ZJ)(i:Ve)(z v u:Zk)(ht:P.underlying T=some (.slice e))(hi:P.info? e=some i)(hz:i.zero=some z)(hs:i.size=2) :
  (XD T 1 #[(0,.agg #[v,u])]).run P w= .ok (.slice (some ⟨w.heap.size,0,none⟩) 1 1) (w.alloc (.cells #[v,u] e)):=by
 simp [XD,Xa ht,sizeOf,VK,hi,hs,JZ,hz,Instr.fill,newRow,Value.cells];simp [go_sem]
theorem Jl {o:Oper}{a:Act}{w:Zc}{K:Act->Zc->Prop}{Q:Exit->Act->Zc->Prop}(T e:ZJ)(x:YN)(z v u:Zk)(ho:o.op= .buildSlice T 1 #[(0,x)])(hx:a.eval x= .agg #[v,u])(ht:P.underlying T=some (.slice e))(hI:(P.info? e).map (fun i=>(i.zero,i.size))=some (some z,2))
  (h:K (a.put o.dst (.slice (some ⟨w.heap.size,0,none⟩) 1 1)) (w.alloc (.cells #[v,u] e))) :o.wp P a w K Q:=by
 obtain ⟨i,hi,hz,hs⟩:=NL hI;unfold Jp XL;simp only [ho,JI,YY,KG,hx,Yr,Mn w T e i z v u ht hi hz hs,ZW,YU];exact h
end
end
section
open Go Go.ChangeShapes Go.WideShapes Go.RowKit Go.Deep
section
variable {H:Type} {enc:ZJ × Zk->H} {P:YL} {w:Zc} {base:Nat} {spare:Nat->Bool} {held:Bool}
theorem open_struct_ints {r:Reach}{b0:Nat}{t:ZJ}{fs:Array Field}{v:Zk}{d:DataW H}{p:List MemPlace}(hs:P.underlying t=some (.struct fs))(SZ:oneCellFields P fs=true)(hC:P.cellsOf t=fs.size)
  (hv:Value.okWide P w r b0 t v) (h:DataW.Trod enc P w base spare held t v d p) :
  ∃cs:Array Zk,v= .agg cs/\cs.size=fs.size/\ ∀(j:Nat) (f:Field) (k:IntKind),fs[j]?=some f->P.underlying f.type=some (.int k)-> ∃n,cs[j]?=some (.int k n)/\(YJ k n).wf=true:=by
 obtain ⟨cs,rfl,Bx⟩:=okWide_struct hs hv;refine ⟨cs,rfl,Bx.trans hC,fun j f k hj hk=>?_⟩;obtain ⟨fuel,hf⟩:=h;obtain ⟨xs,n,_,hx,_,hlen,hg⟩:=DataW.trod_struct hs hf;obtain ⟨o,kk⟩:=hone_of SZ j f hj;have EE:j < fs.size:=(Ym.1 hj).1;have hjc:j < cs.size:=Zf;have h1:=hg j f hj;have hxj:xs[j]?=some (xs[j]'Zf):=Zg Zf;rw [o,kk,hxj] at h1;have hone':((Value.agg cs).cells.toList.drop j).take 1=[cs[j]'hjc]:=by
  have hl:j < cs.toList.length:=by simpa using hjc
  show (cs.toList.drop j).take 1=_;rw [List.drop_eq_getElem_cons hl];simp
 rw [hone'] at h1;obtain ⟨m,hm,_,hw⟩:=DataW.trod_int hk h1;exact ⟨m,by rw [Array.getElem?_eq_getElem hjc]; simpa using hm,hw⟩
end
theorem XS {P:YL}{fn:Func}{p u:Tmp}{ty:ZJ}(h:fn.results= #[.cell p ty,.tmp u])(tmps:Array Zk)(w:Zc)(g:Nat)(t:ZJ)(cs:Array Zk)(fr:Nat × Nat)(d:TypeDesc)
  (hp:tmps.getD p undef= .pointer (some ⟨g,0,none⟩)) (hg:w.heap[g]?=some (.cells cs t fr))
  (hu:P.underlying ty=some d) (hd:(match d with | .struct _ | .array _ _=>true | _=>false)=true) (hi:(P.info? ty).map (·.size)=some cs.size) :
  (results fn tmps).run P w= .ok (.tuple #[.agg cs,tmps.getD u undef]) w:=by
 rw [results_cell_tmp h,hp];exact Zbd
theorem Eh (w:Zc)(A:Obj)(c c':Array Zk)(t:ZJ) :((w.alloc A).alloc (.cells c t)).setRow (w.heap.size+1) c'=(w.alloc A).alloc (.cells c' t):=by
 have:=Zr (w.alloc A) c c' t;exact Bt
theorem below_drewN {B:Nat}{a w:Zc}(h:Zp B a w)(n:Nat) :Zp B a (w.drewN n):=⟨h.os,h.tape,h.output,h.size,h.block⟩
theorem Sn {B:Nat}{w w1 w2:Zc}(h:Zp B w w1)(h2:Zp w1.heap.size w1 w2)(hB:B<=w1.heap.size) :Zp B w w2:=h.trans (h2.mono hB)
end
section
open Go Go.ChangeShapes Go.WideShapes Go.RowKit Go.Deep
structure ZN where
 bal:Int
 st:Int
 sl:Bool
 rq:Int
 ex:Int
 wd:Int
 dl:Int
deriving DecidableEq,Inhabited
def ZN.row (v:ZN) :List Zk:= [.int .u64 v.bal,.int .i64 v.st,.bool v.sl,.int .i64 v.rq,.int .i64 v.ex,.int .i64 v.wd,.int .i64 v.dl]
def Zd (v:ZN) :Array Zk:=v.row.toArray
def Yh (v:ZN) :Prop:=(YJ .u64 v.bal).wf=true/\(YJ .i64 v.st).wf=true
def ZS:ZN:=⟨0,0,false,0,0,0,0⟩
theorem N6 (v:ZN) :v.row.length=7:=rfl
theorem row_one (v:ZN) : ∀u ∈ v.row,u.oneCell'=true:=by
 intro u hu;simp only [ZN.row,ZU,Yg,or_false] at hu
 rcases hu with rfl | rfl | rfl | rfl | rfl | rfl | rfl <;> rfl
theorem Ys (v:ZN) :(Zd v).all (·.oneCell')=true:=by
 refine ZK.2 (fun u hu=>row_one v u (by simpa [Zd] using hu))
theorem PF (v:ZN) :(Zd v).size=7:=rfl
theorem Yb:(Tryz.prog.info? 68).map (·.size)=some 7:=ZC
theorem Yh.bal {v:ZN}(h:Yh v) :0<=v.bal/\v.bal<=18446744073709551615:=bounds_u64 h.1
section
variable {P:YL} (w:Zc)
theorem Ny (d:Nat)(xs ys:Array Zk) :
  ∀(fs:List Field),(∀f ∈ fs,f.name≠ "_" /\((∃k n m,P.underlying f.type=some (.int k)/\xs[f.offset]?=some (.int k n)/\ys[f.offset]?=some (.int k m))\/ ∃n m,P.underlying f.type=some .bool/\xs[f.offset]?=some (.bool n)/\ys[f.offset]?=some (.bool m)))->
   ∃r,(KJ (d+1) xs ys fs).run P w= .ok r w/\(r=true ↔ ∀f ∈ fs,xs[f.offset]?=ys[f.offset]?)
 | [],_=>⟨true,by simp [KJ],by simp⟩
 | f::fs,h=>by
  obtain ⟨SV,h1⟩:=h f ZE;obtain ⟨r,hr,NH⟩:=Ny d xs ys fs (fun j hj=>h j LS)
  rcases h1 with ⟨k,n,m,hk,hn,hm⟩ | ⟨n,m,hk,hn,hm⟩
  ·have hp:=X9 w (UD hk) hn;have S7:=X9 w (UD hk) hm;have hq:=run_equalIn_int (P:=P) w d f.type k k n m hk
   by_cases he:n=m
   ·subst he;refine ⟨r,by simp only [KJ,SV,ne_eq,not_false_eq_true,if_true,Yr,hp,S7,hq,ZW]; simpa using hr,?_⟩;simp only [ZU,forall_eq_or_imp,hn,hm,true_and];exact NH
   ·refine ⟨false,by simp only [KJ,SV,ne_eq,not_false_eq_true,if_true,Yr,hp,S7,hq,ZW]; simp [he],?_⟩;simp [hn,hm,he]
  ·have hp:=X9 (P:=P) w (e:=f.type) LR hn;have S7:=X9 (P:=P) w (e:=f.type) LR hm;have hq:=run_equalIn_bool' (P:=P) w d f.type n m hk
   by_cases he:n=m
   ·subst he;refine ⟨r,by simp only [KJ,SV,ne_eq,not_false_eq_true,if_true,Yr,hp,S7,hq,ZW]; simpa using hr,?_⟩;simp only [ZU,forall_eq_or_imp,hn,hm,true_and];exact NH
   ·refine ⟨false,by simp only [KJ,SV,ne_eq,not_false_eq_true,if_true,Yr,hp,S7,hq,ZW]; simp [he],?_⟩;simp [hn,hm,he]
theorem ON {t:ZJ}{fs:Array Field}(xs ys:Array Zk)(hu:P.underlying t=some (.struct fs))(hp:P.stoodInHeld t=false)
  (hx: ∀f ∈ fs.toList,f.name≠ "_" /\((∃k n m,P.underlying f.type=some (.int k)/\xs[f.offset]?=some (.int k n)/\ys[f.offset]?=some (.int k m))\/ ∃n m,P.underlying f.type=some .bool/\xs[f.offset]?=some (.bool n)/\ys[f.offset]?=some (.bool m))) :
  ∃r,(Op.equalIn 10000 t (.agg xs) (.agg ys)).run P w= .ok r w/\(r=true ↔ ∀f ∈ fs.toList,xs[f.offset]?=ys[f.offset]?):=by
 have hf:P.fieldsOf t=fs:=by simp [Program.fieldsOf,hu]
 rw [run_equalIn_struct w 9999 t xs ys (by rw [hf]; exact hu) hp,hf];exact Ny w 9998 xs ys _ hx
end
theorem Zcr (x y:ZN)(w:Zc) :(Op.equalIn 10000 68 (.agg (Zd x)) (.agg (Zd y))).run Zb w= .ok (decide (x=y)) w:=by
 obtain ⟨r,hr,NH⟩:=ON (P:=Zb) w (Zd x) (Zd y) underlying68 ZC (fun f hf=>by
  simp only [ZU,Yg,or_false] at hf
  rcases hf with rfl | rfl | rfl | rfl | rfl | rfl | rfl
  ·exact ⟨by decide,.inl ⟨.u64,x.bal,y.bal,underlying23,rfl,rfl⟩⟩
  ·exact ⟨by decide,.inl ⟨.i64,x.st,y.st,underlying3,rfl,rfl⟩⟩
  ·exact ⟨by decide,.inr ⟨x.sl,y.sl,underlying4,rfl,rfl⟩⟩
  ·exact ⟨by decide,.inl ⟨.i64,x.rq,y.rq,underlying3,rfl,rfl⟩⟩
  ·exact ⟨by decide,.inl ⟨.i64,x.ex,y.ex,underlying3,rfl,rfl⟩⟩
  ·exact ⟨by decide,.inl ⟨.i64,x.wd,y.wd,underlying3,rfl,rfl⟩⟩
  ·exact ⟨by decide,.inl ⟨.i64,x.dl,y.dl,underlying3,rfl,rfl⟩⟩)
 refine hr.trans ?_;have:r=decide (x=y):=by
  rw [Bool.eq_iff_iff,NH,decide_eq_true_eq];constructor
  ·intro h;simp only [ZU,Yg,or_false,forall_eq_or_imp,forall_eq] at h;obtain ⟨h0,h1,h2,h3,h4,h5,h6⟩:=h;obtain ⟨a0,a1,a2,a3,a4,a5,a6⟩:=x;obtain ⟨b0,b1,b2,b3,b4,b5,b6⟩:=y;simp [Zd,ZN.row] at h0 h1 h2 h3 h4 h5 h6;simp [*]
  ·rintro rfl;simp
 rw [this]
def Xz (l:List ZN) :List Zk:=l.flatMap ZN.row
theorem Hy (l:List ZN) :(Xz l).length=l.length*7:=by
 induction l with
 | nil=>rfl
 | cons x l ih=>simp only [Xz,QZ,List.length_append,N6,Yc] at ih ⊢; omega
theorem Hw (l m:List ZN) :Xz (l++m)=Xz l++Xz m:=by simp [Xz]
theorem qu (v:ZN) :Xz [v]=v.row:=by simp [Xz]
theorem qt {l:List ZN} : ∀u ∈ Xz l,u.oneCell'=true:=by
 intro u hu;obtain ⟨v,_,hv⟩:=List.mem_flatMap.1 hu;exact row_one v u hv
theorem jG {l:List ZN}{i:Nat}{v:ZN}(h:l[i]?=some v){j:Nat}(hj:j < 7) :(Xz l)[i*7+j]?=v.row[j]?:=by
 induction l generalizing i with
 | nil=>simp at h
 | cons x l ih=>
  cases i with
  | zero=>
   simp at h;subst h;simp only [Xz,QZ,Nat.zero_mul,ZV];rw [List.getElem?_append_left (by rw [N6]; exact hj)]
  | succ i=>
   simp only [List.getElem?_cons_succ] at h;have:=ih h;simp only [Xz,QZ] at this ⊢;rw [List.getElem?_append_right (by rw [N6]; omega),N6,show (i+1)*7+j - 7=i*7+j by omega];exact this
theorem My {w:Zc}{b off:Nat}{l:List ZN}(h: ∀j u,(Xz l)[j]?=some u->w.cell? ⟨b,off+j,none⟩=some u){i:Nat}{v:ZN}(hi:l[i]?=some v) :w.rangeAt b (off+i*7) v.row:=by
 intro j u hu;have hj:j < 7:=(Zj.1 hu).1;rw [Nat.add_assoc];exact h _ _ ((jG hi hj).trans hu)
theorem WD {w:Zc}{b off:Nat}{l:List ZN}(h: ∀i v,l[i]?=some v->w.rangeAt b (off+i*7) v.row) : ∀j u,(Xz l)[j]?=some u->w.cell? ⟨b,off+j,none⟩=some u:=by
 intro j u hu;have hj:j < l.length*7:=by rw [<-Hy]; exact uy
 have hq:j/7 < l.length:=Zf;have hr:j%7 < 7:=Zf;have e:=jG (Zg hq) hr;rw [show j/7*7+j%7=j by omega,hu] at e;have:=h _ _ (Zg hq) (j%7) u e.symm;rwa [show off+j/7*7+j%7=off+j by omega] at this
theorem World.rangeAt.same {w w':Zc}{b o:Nat}{cs:List Zk}(h:w.rangeAt b o cs)(hb:w'.heap[b]?=w.heap[b]?) :w'.rangeAt b o cs:=fun j v hv=>(World.cell?_of_block (w:=w) (a:=⟨b,o+j,none⟩) hb).trans (h j v hv)
theorem Zu.range {w:Zc}{b t:Nat}{v:ZN}(h:Zu w b t (Zd v)) :w.rangeAt b 0 v.row:=fun j u hu=>by
 rw [ZV,h.cell j];simpa [Zd] using hu
def DH (w:Zc)(S:Nat->Prop)(a:Option Addr)(l:List ZN) :Prop:=
 0 < l.length-> ∃b off,a=some ⟨b,off,none⟩/\ ¬S b/\b < w.heap.size/\ ∀i v,l[i]?=some v->w.rangeAt b (off+i*7) v.row
section
variable {w w':Zc} {S T:Nat->Prop} {a:Option Addr} {l:List ZN} {B:Nat}
theorem DH.nil (w:Zc)(S:Nat->Prop)(a:Option Addr) :DH w S a []:=fun h=>by simp at h
theorem DH.same (h:DH w S a l)(hs:w.heap.size<=w'.heap.size)(hb: ∀b,b < w.heap.size-> ¬S b->w'.heap[b]?=w.heap[b]?) :DH w' S a l:=fun h0=>by
 obtain ⟨b,off,h1,h2,h3,h4⟩:=h h0;exact ⟨b,off,h1,h2,by omega,fun i v hi=>World.rangeAt.same (h4 i v hi) (hb b h3 h2)⟩
theorem DH.below (h:DH w S a l)(hb:Zp w.heap.size w w') :DH w' S a l:=h.same hb.size fun b XV _=>hb.block b XV
theorem DH.alloc (h:DH w S a l)(o:Obj) :DH (w.alloc o) S a l:=h.same ZE fun b XV _=>Below.heap_alloc w o b XV
theorem DH.drewN (h:DH w S a l)(n:Nat) :DH (w.drewN n) S a l:=h
theorem DH.drew (h:DH w S a l) :DH w.drew S a l:=h
theorem DH.more (h:DH w S a l)(hT: ∀i,i < w.heap.size->T i->S i) :DH w T a l:=fun h0=>by
 obtain ⟨b,off,h1,h2,h3,h4⟩:=h h0;exact ⟨b,off,h1,fun ht=>h2 (hT b h3 ht),h3,h4⟩
theorem DH.at (h:DH w S a l){i:Nat}{v:ZN}(hi:l[i]?=some v) : ∃b off,a=some ⟨b,off,none⟩/\w.rangeAt b (off+i*7) v.row:=by
 obtain ⟨b,off,h1,_,_,h4⟩:=h iX;exact ⟨b,off,h1,h4 i v hi⟩
theorem DH.flat (h:DH w S a l)(h0:0 < l.length) : ∃ad,a=some ad/\ ∀j u,(Xz l)[j]?=some u->w.cell? (ad.add j)=some u:=by
 obtain ⟨b,off,h1,_,_,h4⟩:=h h0;refine ⟨⟨b,off,none⟩,h1,fun j u hu=>?_⟩;rw [add_plain];exact WD h4 j u hu
end
section
variable {P:YL} {ops:Array Oper} {rest:List Oper} {op:Oper} {a:Act} {w:Zc} {Q:Exit->Act->Zc->Prop}
theorem Xk (BJ:op.guard=none)(ty:ZJ)(x:YN)(ho:op.op= .load ty x)
  (b o:Nat) (hx:a.eval x= .pointer (some ⟨b,o,none⟩)) (v:ZN) (d:TypeDesc) (hc:w.rangeAt b o v.row)
  (hu:P.underlying ty=some d) (hd:d.isRow=true) (hi:(P.info? ty).map (·.size)=some 7)
  (h:YQ P ops Q rest (a.put op.dst (.agg (Zd v))) w) :YQ P ops Q (op::rest) a w:=
 Je BJ ty x ho b o hx v.row d hc hu hd hi h
theorem KU {C:Zc->Prop}{Qa:Act->Prop}(ty:ZJ)(x:YN)(b o:Nat)(v:ZN)(d:TypeDesc)(hw:XJ op (VD ops a.tmps)=true)(ho:op.op= .load ty x)(hx:a.eval x= .pointer (some ⟨b,o,none⟩))
  (hC: ∀w,C w->w.rangeAt b o v.row) (hu:P.underlying ty=some d) (hd:d.isRow=true) (hi:(P.info? ty).map (·.size)=some 7)
  (h:ZZ P ops C Qa rest (a.put op.dst (.agg (Zd v)))) :ZZ P ops C Qa (op::rest) a:=by
 unfold ZZ;rw [if_pos hw];refine ⟨_,fun w hc=>?_,h⟩;unfold Vv XL;simp only [ho,hx,Uv,Instr.sureAddr,Yr,YU,ZW,run_loadVar_mid w b o ty v.row d (hC w hc) hu hd hi];exact DF
end
end
section
open Go Go.RowKit Go.Deep
def VX (s:Int) :Bool:=decide (s=2\/s=3)
def Zw:List ZN->Int
 | []=>0
 | v::l=>v.bal+Zw l
def XB (v:ZN) :Int:=if VX v.st=true then v.bal else 0
def Ye:List ZN->Int
 | []=>0
 | v::l=>XB v+Ye l
def Y8:List ZN->Int->Int
 | [],_=>0
 | v::l,s=>(if v.st=s then 1 else 0)+Y8 l s
theorem Td {v:ZN}(h:0<=v.bal) :0<=XB v/\XB v<=v.bal:=by unfold XB; split <;> omega
theorem UF (l m:List ZN) :Zw (l++m)=Zw l+Zw m:=by
 induction l with
 | nil=>simp [Zw]
 | cons v l ih=>simp only [Yf,Zw,ih]; omega
theorem D9 (l m:List ZN) :Ye (l++m)=Ye l+Ye m:=by
 induction l with
 | nil=>simp [Ye]
 | cons v l ih=>simp only [Yf,Ye,ih]; omega
theorem BP (l m:List ZN)(s:Int) :Y8 (l++m) s=Y8 l s+Y8 m s:=by
 induction l with
 | nil=>simp [Y8]
 | cons v l ih=>simp only [Yf,Y8,ih]; omega
theorem Jz {l:List ZN}(h: ∀v ∈ l,Yh v) :0<=Zw l:=by
 induction l with
 | nil=>simp [Zw]
 | cons v l ih=>
  have h1:=(h v ZE).bal;have h2:=ih (fun x hx=>h x DD);simp only [Zw]; omega
theorem GV {l:List ZN}(h: ∀v ∈ l,Yh v) :0<=Ye l/\Ye l<=Zw l:=by
 induction l with
 | nil=>simp [Zw,Ye]
 | cons v l ih=>
  have h1:=Td (h v ZE).bal.1;have h2:=ih (fun x hx=>h x DD);simp only [Zw,Ye]; omega
theorem Ux (l:List ZN)(s:Int) :0<=Y8 l s/\Y8 l s<=l.length:=by
 induction l with
 | nil=>simp [Y8]
 | cons v l ih=>
  simp only [Y8,Yc]
  split <;> omega
theorem TP {l:List ZN}{i:Nat}{old:ZN}(h:l[i]?=some old) : ∃l1 l2,l=l1++old::l2/\ ∀v,l.set i v=l1++v::l2:=by
 have hi:=(Zj.1 h).1;have he:=(Zj.1 h).2;refine ⟨l.take i,l.drop (i+1),?_,fun v=>?_⟩
 ·rw [<-he];rw [List.getElem_cons_drop,List.take_append_drop]
 ·rw [List.set_eq_take_append_cons_drop,if_pos hi]
theorem JK {l:List ZN}{i:Nat}{old:ZN}(h:l[i]?=some old)(v:ZN) :Zw (l.set i v)=Zw l - old.bal+v.bal:=by
 obtain ⟨l1,l2,h1,h2⟩:=TP h;rw [h2,h1,UF,UF];simp only [Zw]; omega
theorem Fc {l:List ZN}{i:Nat}{old:ZN}(h:l[i]?=some old)(v:ZN) :Ye (l.set i v)=Ye l - XB old+XB v:=by
 obtain ⟨l1,l2,h1,h2⟩:=TP h;rw [h2,h1,D9,D9];simp only [Ye]; omega
theorem Ag {l:List ZN}{i:Nat}{old:ZN}(h:l[i]?=some old)(v:ZN)(s:Int) :Y8 (l.set i v) s=Y8 l s -(if old.st=s then 1 else 0)+(if v.st=s then 1 else 0):=by
 obtain ⟨l1,l2,h1,h2⟩:=TP h;rw [h2,h1,BP,BP];simp only [Y8]; omega
def JJ (w:Zc)(b m:Nat)(s:Zk)(cap:Nat)(c:Int->Int)(A T:Int) :Prop:=
 Zu w b 146 #[.int .i64 cap,s,.map (some m),.int .u64 A,.int .u64 T]/\Qd w m c
def EW (w:Zc)(b:Nat)(S:Nat->Prop)(cap:Nat)(l:List ZN) :Prop:=
 ∃m s,JJ w b m s cap (Y8 l) (Ye l) (Zw l)/\w.ownsRow 0 68 7 s l.length (Xz l)/\1<=cap/\cap<=4096/\l.length<=cap/\Zw l<=18446744073709551615/\(∀v ∈ l,Yh v)/\ ∀i,S i ↔ i=b\/i=m\/s.ownBlock=some i
section
variable {w w':Zc} {b m cap:Nat} {s:Zk} {S T:Nat->Prop} {l:List ZN} {c:Int->Int} {A Tt:Int}
theorem JJ.ne (h:JJ w b m s cap c A Tt) :b≠m:=by
 rintro rfl;obtain ⟨h1,es,clock,h2,_⟩:=h;unfold Zu at h1;rw [h1] at h2
 cases h2
theorem JJ.cells (h:JJ w b m s cap c A Tt) :w.cell? ⟨b,0,none⟩=some (.int .i64 cap)/\w.cell? ⟨b,1,none⟩=some s/\w.cell? ⟨b,2,none⟩=some (.map (some m))/\w.cell? ⟨b,3,none⟩=some (.int .u64 A)/\w.cell? ⟨b,4,none⟩=some (.int .u64 Tt):=
 ⟨h.1.cell 0,h.1.cell 1,h.1.cell 2,h.1.cell 3,h.1.cell 4⟩
theorem JJ.same (h:JJ w b m s cap c A Tt)(hb:w'.heap[b]?=w.heap[b]?)(hm:w'.heap[m]?=w.heap[m]?) :JJ w' b m s cap c A Tt:=⟨hb.trans h.1,h.2.same hm⟩
theorem Um {n:Nat}{xs:List Zk}(h:w.ownsRow 0 68 7 s n xs) : ∃a cp,s= .slice a n cp/\n<=cp/\cp<=maxLen:=Zer
theorem EK {l:List ZN}{a:Option Addr}{cp:Nat}(h:w.ownsRow 0 68 7 (.slice a l.length cp) l.length (Xz l))(hS: ∀i,(Value.slice a l.length cp).ownBlock=some i-> ¬S i) :DH w S a l:=fun h0=>by
 rcases h.2 with ⟨h1,h2⟩ | ⟨g,GP,cur,h1,_,h3,_⟩
 ·omega
 ·injection h1 with h1 _ _;subst h1;refine ⟨g,0,rfl,hS g rfl,(Ym.1 h3).1,fun i v hi=>?_⟩;exact My (fun j u hu=>by
   have:=h.cells rfl j u hu;rwa [add_plain] at this) hi
theorem KE {n:Nat}{xs:List Zk}(h:w.ownsRow 0 68 7 s n xs)(hb: ∀i,s.ownBlock=some i->w'.heap[i]?=w.heap[i]?) :w'.ownsRow 0 68 7 s n xs:=Zey
theorem EW.lt (h:EW w b S cap l) : ∀i,S i->i < w.heap.size:=fun i hi=>by
 obtain ⟨m,s,h1,h2,_,_,_,_,_,hS⟩:=h
 rcases (hS i).1 hi with rfl | rfl | hs
 ·exact h1.1.lt
 ·exact h1.2.lt
 ·exact (h2.lt i hs).2
theorem EW.same (h:EW w b S cap l)(hb: ∀i,S i->w'.heap[i]?=w.heap[i]?) :EW w' b S cap l:=by
 obtain ⟨m,s,h1,h2,h3,h4,h5,h6,h7,hS⟩:=h;exact ⟨m,s,h1.same (hb b ((hS b).2 (.inl rfl))) (hb m ((hS m).2 (.inr (.inl rfl)))),KE h2 (fun i hi=>hb i ((hS i).2 (.inr (.inr hi)))),h3,h4,h5,h6,h7,hS⟩
theorem EW.kept (h:EW w b S cap l)(k:Zx T w w')(hT: ∀i,S i-> ¬T i) :EW w' b S cap l:=h.same fun i hi=>k.block i (h.lt i hi) (hT i hi)
theorem EW.below (h:EW w b S cap l)(k:Zp w.heap.size w w') :EW w' b S cap l:=h.same fun i hi=>k.block i (h.lt i hi)
theorem EW.alloc (h:EW w b S cap l)(o:Obj) :EW (w.alloc o) b S cap l:=h.below ((Zo _ _).alloc (Zh _) o)
theorem EW.drewN (h:EW w b S cap l)(n:Nat) :EW (w.drewN n) b S cap l:=h
theorem EW.drew (h:EW w b S cap l) :EW w.drew b S cap l:=h
theorem EW.pos (h:EW w b S cap l) :S b:=by
 obtain ⟨m,s,h1,h2,h3,h4,h5,h6,h7,hS⟩:=h;exact (hS b).2 (.inl rfl)
theorem EW.fits (h:EW w b S cap l) :1<=cap/\cap<=4096/\l.length<=cap/\Zw l<=18446744073709551615/\ ∀v ∈ l,Yh v:=by
 obtain ⟨m,s,h1,h2,h3,h4,h5,h6,h7,hS⟩:=h;exact ⟨h3,h4,h5,h6,h7⟩
theorem EW.cells (h:EW w b S cap l) : ∃m a cp,w.cell? ⟨b,0,none⟩=some (.int .i64 cap)/\w.cell? ⟨b,1,none⟩=some (.slice a l.length cp)/\w.cell? ⟨b,2,none⟩=some (.map (some m))/\w.cell? ⟨b,3,none⟩=some (.int .u64 (Ye l))/\w.cell? ⟨b,4,none⟩=some (.int .u64 (Zw l))/\
  l.length<=cp/\cp<=maxLen/\Qd w m (Y8 l)/\DH w (fun _=>False) a l:=by
 obtain ⟨m,s,h1,h2,h3,h4,h5,h6,h7,hS⟩:=h;obtain ⟨a,cp,rfl,q1,q2⟩:=Um h2;exact ⟨m,a,cp,h1.cells.1,h1.cells.2.1,h1.cells.2.2.1,h1.cells.2.2.2.1,h1.cells.2.2.2.2,q1,q2,h1.2,EK h2 (fun _ _ h=>h)⟩
end
theorem Lh (s:Int)(w:Zc) :YV 103 #[.int .i64 s] w (.bool (VX s)):=by
 by_cases h2:s=2
 ·subst h2;exact Zbm
 ·by_cases h3:s=3
  ·subst h3;exact Zbm
  ·have hb:Zl (VX s=false):=Za (by unfold VX; simp [h2,h3]);go_enter func103,ntmps103;go_wp2;go_ret;exact ⟨by rw [hb.o]; simp [h2,h3],rfl⟩
theorem xQ (s:Nat)(w:Zc)(h:1<=s)(h2:s<=4096) :
  Zv Zb 75 #[.int .i64 s] w fun e w'=>e= .returned (.pointer (some ⟨w.heap.size+1,0,none⟩))/\(w.alloc (.map #[] 0)).alloc (.cells #[.int .i64 s,.slice none 0 0,.map (some w.heap.size),.int .u64 0,.int .u64 0] 146)=w':=by
 have h0: ¬(s:Int)< 1:=Zf;have h3: ¬(4096:Int)< (s:Int):=Zf;have eh:= @run_makeMap Zb;go_enter func75,ntmps75;exact Uu
theorem gw (cap:Nat)(w:Zc)(h:1<=cap)(h2:cap<=4096) :
  Zv Zb 75 #[.int .i64 cap] w fun e w'=> ∃b S,e= .returned (.pointer (some ⟨b,0,none⟩))/\EW w' b S cap []/\(∀i,S i->w.heap.size<=i)/\Zp w.heap.size w w':=by
 refine (xQ cap w h h2).mono ?_;rintro e w' ⟨rfl,rfl⟩;refine ⟨w.heap.size+1,fun i=>i=w.heap.size+1\/i=w.heap.size,rfl,⟨w.heap.size,.slice none 0 0,⟨?_,?_⟩,World.ownsRow_nil _ _ _ _,h,h2,by simp,by simp [Zw],by simp,fun i=>by simp [Value.ownBlock]⟩,fun i hi=>by omega,?_⟩
 ·have:=Zt (w.alloc (.map #[] 0)) 146 #[.int .i64 cap,.slice none 0 0,.map (some w.heap.size),.int .u64 0,.int .u64 0];simpa [Ye,Zw] using this
 ·exact ((Sz w).alloc _).congr (fun q=>by simp [Y8])
 ·exact Zbq
theorem CZ (b n cp:Nat)(a:Option Addr)(w:Zc)(h:w.cell? ⟨b,1,none⟩=some (.slice a n cp)) :YV 120 #[.pointer (some ⟨b,0,none⟩)] w (.int .i64 n):=by
 go_enter func120,ntmps120;exact Uu
theorem ey (b:Nat)(A:Int)(w:Zc)(h:w.cell? ⟨b,3,none⟩=some (.int .u64 A)) :YV 44 #[.pointer (some ⟨b,0,none⟩)] w (.int .u64 A):=by
 go_enter func44,ntmps44;exact Uu
theorem LU (w:Zc) :(JZ 3).run Zb w= .ok (.int .i64 0) w:=by
 obtain ⟨i,hi,hz,_⟩:=NL (P:=Zb) (t:=3) (z:= .int .i64 0) (n:=1) ZC;simp [JZ,VK,hi,hz,YZ]
theorem ZeQ (s:Int)(w:Zc) :YV 261 #[.pointer none,.int .i64 s] w (.int .i64 0):=Zbn
theorem lS (b m:Nat)(c:Int->Int)(s:Int)(w:Zc)(h:w.cell? ⟨b,2,none⟩=some (.map (some m)))(hc:Qd w m c)(hs:(YJ .i64 s).wf=true) :
  YV 261 #[.pointer (some ⟨b,0,none⟩),.int .i64 s] w (.int .i64 (c s)):=by
 have hl:=hc.lookup underlying3 underlying144 (LU w) hs;generalize c s=q at*;clear hc;exact Zbn
theorem xa (p:Option Addr)(i:Int)(w:Zc)(h:i < 0) :YV 176 #[.pointer p,.int .i64 i] w (.bool false):=by
 have h1: ¬0<=i:=Zf;go_enter func176,ntmps176;exact Uu
theorem jM (b n cp:Nat)(a:Option Addr)(i:Int)(w:Zc)(h:w.cell? ⟨b,1,none⟩=some (.slice a n cp))(ho:i < 0\/n<=i) :YV 176 #[.pointer (some ⟨b,0,none⟩),.int .i64 i] w (.bool false):=by
 by_cases h0:i < 0
 ·exact xa _ i w h0
 ·have h1:0<=i:=Zf;have h2: ¬i < n:=Zf;clear ho;go_enter func176,ntmps176;go_wp2_with fail;refine (CZ b n cp a _ h).mono ?_;rintro e w' ⟨rfl,rfl⟩;go_wp2;go_ret;exact ⟨VJ Xl,rfl⟩
theorem CN (b n cp i:Nat)(a:Option Addr)(w:Zc)(h:w.cell? ⟨b,1,none⟩=some (.slice a n cp))(ho:i < n) :YV 176 #[.pointer (some ⟨b,0,none⟩),.int .i64 i] w (.bool true):=by
 have h1:(0:Int)<=i:=Zf;have h2:(i:Int)< n:=Zf;go_enter func176,ntmps176;go_wp2_with fail;refine (CZ b n cp a _ h).mono ?_;exact uj
end
section
open Go Go.RowKit Go.Deep
theorem UG {P:YL}{ops:Array Oper}{rest:List Oper}{o:Oper}{a:Act}{w:Zc}{Q:Exit->Act->Zc->Prop}(hg:o.guard=none)(t:ZJ)(parts:Array (Nat × YN))(ho:o.op= .build t parts)(v:ZN)
  (hf:P.built t (parts.map fun (i,x)=>(i,a.eval x)).toList=some (Zd v)) (h:YQ P ops Q rest (a.put o.dst (.agg (Zd v))) w) :YQ P ops Q (o::rest) a w:=
 wpList_build hg t parts ho (by rw [hf]; rfl) IX
theorem Zcw (p:Option Addr)(i:Int)(w:Zc)(h: ∀w',Zp w.heap.size w w'->Zv Zb 176 #[.pointer p,.int .i64 i] w' fun e w''=>e= .returned (.bool false)/\w'=w'') :
  Z3 126 #[.pointer p,.int .i64 i] w (.tuple #[.agg (Zd ZS),.bool false]):=by
 have H:=Za (h (w.alloc (.cells (Zd ZS) 68)) ((Zo _ _).alloc (Zh _) _));clear h;go_enter func126,ntmps126;go_wp2_with fail;refine H.o.mono ?_;rintro e w' ⟨rfl,rfl⟩;go_wp2_with (first | (refine UG rfl 68 _ rfl ZS ZC ?_) | (refine UP w.heap.size (Zd ZS) 68 (ZA w _) Yb (Ys _) ?_; rw [Zr]));exact Yd (v:= .tuple #[.agg (Zd ZS),.bool false]) (XS (fn:=Tryz.f126) rfl _ _ w.heap.size 68 _ (0,0) _ rfl (ZA w _) underlying68 rfl Yb) rfl ⟨rfl,(Zo _ _).alloc (Zh _) _⟩
theorem Zcv (b n cp i g off:Nat)(v:ZN)(w:Zc)(h:w.cell? ⟨b,1,none⟩=some (.slice (some ⟨g,off,none⟩) n cp))(hi:i < n)(hr:w.rangeAt g (off+i*7) v.row) :
  Z3 126 #[.pointer (some ⟨b,0,none⟩),.int .i64 i] w (.tuple #[.agg (Zd v),.bool true]):=by
 have hB:=(Zo w.heap.size w).alloc (Zh _) (.cells (Zd ZS) 68);have h1:(w.alloc (.cells (Zd ZS) 68)).cell? ⟨b,1,none⟩=some (.slice (some ⟨g,off,none⟩) n cp):=ZD _ h;have rl:(w.alloc (.cells (Zd ZS) 68)).rangeAt g (off+i*7) v.row:=fun j u hu=>ZD _ (hr j u hu)
 have H:=Za (CN b n cp i (some ⟨g,off,none⟩) _ h1 hi);have HR:=Za rl;have hi1: ¬(i:Int)< 0:=Zf;have GQ: ¬(n:Int)<=(i:Int):=Zf;have hi3:(i:Int)< (n:Int):=Zf;clear h hr rl;go_enter func126,ntmps126;go_wp2_with fail;refine H.o.mono ?_;rintro e w' ⟨rfl,rfl⟩;go_wp2_with (first | (refine Xk rfl 68 _ rfl g (off+i*7) rfl v _ HR.o underlying68 rfl Yb ?_) | (refine UP w.heap.size (Zd v) 68 (ZA w _) Yb (Ys v) ?_; rw [Zr]));exact Yd (v:= .tuple #[.agg (Zd v),.bool true]) (XS (fn:=Tryz.f126) rfl _ _ w.heap.size 68 _ (0,0) _ rfl (ZA w _) underlying68 rfl Yb) rfl ⟨rfl,(Zo _ _).alloc (Zh _) _⟩
end
section
open Go Go.RowKit Go.Maps
open Go.ChangeMaps (setBlock heap_setBlock_same heap_setBlock_other)
def Q9 (w:Zc)(b:Nat)(L:List (Zk × Zk)) :Prop:=
 ∃es clock,w.heap[b]?=some (.map es clock)/\(es.toList.map fun e=>(e.key,e.val)).Perm L
section
variable {P:YL} {w w':Zc} {b B:Nat} {L:List (Zk × Zk)} {t k e:ZJ}
theorem Q9.lt (h:Q9 w b L) :b < w.heap.size:=Zbh
theorem Q9.below (h:Q9 w b L)(hb:Zp B w w')(hB:b < B) :Q9 w' b L:=by
 obtain ⟨es,clock,h1,h2⟩:=h;exact ⟨es,clock,(hb.block b hB).trans h1,h2⟩
theorem Q9.drew (h:Q9 w b L) :Q9 w.drew b L:=h
theorem Q9.drewN (h:Q9 w b L)(n:Nat) :Q9 (w.drewN n) b L:=h
theorem Q9.perm {M:List (Zk × Zk)}(h:Q9 w b L)(hp:L.Perm M) :Q9 w b M:=by
 obtain ⟨es,clock,h1,h2⟩:=h;exact ⟨es,clock,h1,h2.trans hp⟩
theorem TV (w:Zc) :Q9 (w.alloc (.map #[] 0)) w.heap.size []:=⟨#[],0,(MapKept.heap_alloc w _).1,.nil⟩
theorem Q9.keys {es:Array MapEntry}(hp:(es.toList.map fun e=>(e.key,e.val)).Perm L)(Dn: ∀p ∈ L,∃l,keyOf P k p.1=some l) : ∀x ∈ es.toList,∃l,keyOf P k x.key=some l:=
 fun x hx=>Dn _ (hp.mem_iff.1 (Z6.2 ⟨x,hx,rfl⟩))
theorem Q9.lookup (h:Q9 w b L)(K:Keyed P k)(ht:P.underlying t=some (.map k e)){z:Zk}(hz:(JZ e).run P w= .ok z w)(Dn: ∀p ∈ L,∃l,keyOf P k p.1=some l){key:Zk}{kl:Lit}(EG:keyOf P k key=some kl) :
  (∃v,(key,v) ∈ L/\(JN t (.map (some b)) key true).run P w= .ok (.tuple #[v,.bool true]) w)\/
   ((∀p ∈ L,p.1≠key)/\(JN t (.map (some b)) key true).run P w= .ok (.tuple #[z,.bool false]) w):=by
 obtain ⟨es,clock,hb,hp⟩:=h
 rcases K.find w EG es.toList (Q9.keys hp Dn) with ⟨h1,h2⟩ | ⟨j,e0,h1,h2,h3⟩
 ·refine .inr ⟨fun p S7 e=>?_,by simp [JN,Xa ht,Qg hb,K.check w _ EG,h1,hz,YZ]⟩;obtain ⟨x,hx,rfl⟩:=Z6.1 (hp.mem_iff.2 S7);exact h2 x hx e
 ·refine .inl ⟨e0.val,hp.mem_iff.1 (Z6.2 ⟨e0,Zy h2,by rw [h3]⟩),by simp [JN,Xa ht,Qg hb,K.check w _ EG,h1,YZ]⟩
theorem Q9.insert (h:Q9 w b L)(K:Keyed P k)(ht:P.underlying t=some (.map k e))(Dn: ∀p ∈ L,∃l,keyOf P k p.1=some l){key val:Zk}{kl:Lit}(EG:keyOf P k key=some kl)(Ka: ∀p ∈ L,p.1≠key) :
  ∃w',(UZ t (.map (some b)) key val).run P w= .ok () w'/\Q9 w' b ((key,val)::L)/\w.grownBy w' (some b):=by
 obtain ⟨es,clock,hb,hp⟩:=h
 rcases K.find w EG es.toList (Q9.keys hp Dn) with ⟨h1,h2⟩ | ⟨j,e0,h1,h2,h3⟩
 ·refine ⟨setBlock w b (.map (es.push ⟨key,val,clock⟩) (clock+1)),?_,⟨_,_,heap_setBlock_same hb _,?_⟩,⟨rfl,rfl,rfl,by simp [setBlock],fun i _ hi=>heap_setBlock_other hb _ (fun e=>hi Er)⟩⟩
  ·simp [UZ,Xa ht,Qg hb,K.check w false EG,h1,MapKept.run_setObj_map _ hb,YZ,setBlock]
  ·rw [Array.toList_push,List.map_append];exact (List.perm_append_singleton _ _).trans (hp.cons _)
 ·exact absurd h3 (Ka _ (hp.mem_iff.1 (Z6.2 ⟨e0,Zy h2,rfl⟩)))
theorem Cc {o:Oper}{a:Act}{K':Act->Zc->Prop}{Q:Exit->Act->Zc->Prop}(h:Q9 w b L)(K:Keyed P k)(m x v:YN)(ho:o.op= .insert t m x v)(hd:o.dst=none)(key val:Zk)(hm:a.eval m= .map (some b))(hx:a.eval x=key)(hv:a.eval v=val)
  (ht:P.underlying t=some (.map k e)) (Dn: ∀p ∈ L,∃l,keyOf P k p.1=some l) {kl:Lit} (EG:keyOf P k key=some kl) (Ka: ∀p ∈ L,p.1≠key)
  (hK: ∀w',Q9 w' b ((key,val)::L)->w.grownBy w' (some b)->K' a w') :o.wp P a w K' Q:=by
 obtain ⟨w',GH,r1,r2⟩:=h.insert K ht Dn EG Ka (val:=val);have bF:=hK w' r1 r2;unfold Jp;simp [XL,ho,hm,hx,hv,GH,YZ];show K' (a.put o.dst undef) w';rw [hd];exact bF
end
section
variable {P:YL} {ops:Array Oper} {Q:Exit->Act->Zc->Prop} {md:JS} {S:Zc->Prop} {n:Nat} {L:Array Bool->Act->Zc->Prop}
theorem Au (J:Nat->Array Bool->Zc->Prop)(a:Act)
  (Zas: ∀f Zs w,J (f+1) Zs w->Yq md ops Zs≠ []/\ ∀i ∈ Yq md ops Zs,i < n/\wpOp P ops Q i (fun a' w'=>a'=a/\S w'/\J f (Zs.setIfInBounds i true) w') a w)
  (Vx: ∀Zs w,J 0 Zs w->L Zs a w) : ∀f Zs w,J f Zs w->XT P md ops Q S n L f Zs a w
 | 0,Zs,w,h=>Vx Zs w h
 | f+1,Zs,w,h=>by
  obtain ⟨h1,h2⟩:=Zas f Zs w h;exact ⟨h1,fun i hi=>⟨(h2 i hi).1,wpOp_mono (fun a' w' ⟨ha,hS,hJ⟩=>⟨hS,by subst ha; exact Au J a' Zas Vx f _ w' hJ⟩) (h2 i hi).2⟩⟩
def o3 (ent:Nat->Zk × Zk)(at_:Nat->Nat)(base:Array Bool)(N b:Nat)(w0:Zc)(f:Nat)(Zs:Array Bool)(w:Zc) :Prop:=
 ∃D R:List Nat,R.length=f/\(D++R).Perm (YS N)/\Zs.size=base.size/\(∀i,Zs.getD i true=(base.getD i true||D.any fun j=>at_ j==i))/\Q9 w b (D.map ent)/\Zp w0.heap.size w0 w/\w0.heap.size<=b
theorem gm {ent:Nat->Zk × Zk}{at_:Nat->Nat}{base:Array Bool}{N b:Nat}{w0 w:Zc}(h:Q9 w b [])(hb:Zp w0.heap.size w0 w)(h0:w0.heap.size<=b) :o3 ent at_ base N b w0 N base w:=
 ⟨[],YS N,by simp,by simp,rfl,by simp,h,hb,h0⟩
theorem rN {ent:Nat->Zk × Zk}{at_:Nat->Nat}{base Zs:Array Bool}{N b:Nat}{w0 w:Zc}(h:o3 ent at_ base N b w0 0 Zs w) :
  (∀i,Zs.getD i true=(base.getD i true||(YS N).any fun j=>at_ j==i))/\Zs.size=base.size/\Q9 w b ((YS N).map ent)/\Zp w0.heap.size w0 w/\w0.heap.size<=b:=by
 obtain ⟨D,R,hR,hp,hs,hl,ht,hb,h0⟩:=h;obtain rfl:=List.eq_nil_of_length_eq_zero hR;rw [List.append_nil] at hp;exact ⟨fun i=>by rw [hl i,hp.any_eq],hs,ht.perm (hp.map _),hb,h0⟩
def Zdp (md:JS)(ops:Array Oper)(n:Nat)(base:Array Bool)(N:Nat)(at_:Nat->Nat) :Bool:=
 ((YS N).all fun j=>((YS N).all fun j'=>!(at_ j==at_ j')||j==j')&&!(base.getD (at_ j) true)&&Nat.blt (at_ j) n&&
  (match ops[at_ j]? with | some o=>o.after.all fun e=>!(Xd md e)||base.getD e.on false | none=>false))&&
 (YS base.size).all fun i=>base.getD i true||((YS N).any fun j=>at_ j==i)||
  ((YS N).all fun j=>(YS base.size).any fun i'=>!(base.getD i' true)&&Region.waitsFor md ops i i'&&(i'==at_ j||(YS N).all fun j'=>!(at_ j'==i')))
theorem mM {ent:Nat->Zk × Zk}{at_:Nat->Nat}{base:Array Bool}{N b:Nat}{w0:Zc}{a:Act}(hB:Zdp md ops n base N at_=true)
  (hwp: ∀j D w,j < N->(∀x ∈ D,x < N/\x≠j)->Q9 w b (D.map ent)-> ∀K:Act->Zc->Prop,(∀w',Q9 w' b ((j::D).map ent)->w.grownBy w' (some b)->K a w')->wpOp P ops Q (at_ j) K a w) (hS: ∀w,S w)
  (f:Nat) (Zs:Array Bool) (w:Zc) (h:o3 ent at_ base N b w0 (f+1) Zs w) :
  Yq md ops Zs≠ []/\ ∀i ∈ Yq md ops Zs,i < n/\wpOp P ops Q i (fun a' w'=>a'=a/\S w'/\o3 ent at_ base N b w0 f (Zs.setIfInBounds i true) w') a w:=by
 simp only [Zdp,YO,Xh,List.any_eq_true,Qo,UU,VR,beq_iff_eq,beq_eq_false_iff_ne,ne_eq] at hB;have fE: ∀j j',j < N->j' < N->at_ j=at_ j'->j=j':=fun j j' h1 h2 he=>((hB.1 j h1).1.1.1 j' h2).resolve_left (fun h=>h he)
 have Mt: ∀j,j < N->base.getD (at_ j) true=false:=fun j h1=>(hB.1 j h1).1.1.2
 have XV: ∀j,j < N->at_ j < n:=fun j h1=>by simpa using (hB.1 j h1).1.2
 have hready: ∀j,j < N-> ∃o,ops[at_ j]?=some o/\ ∀e ∈ o.after,Xd md e=true->base.getD e.on false=true:=fun j h1=>by
  have:=(hB.1 j h1).2
  cases ho:ops[at_ j]? with
  | none=>rw [ho] at this; cases this
  | some o=>
   rw [ho] at this;refine ⟨o,rfl,fun e he hb=>?_⟩;have:=ZK.1 this e he;simpa [hb] using this
 have rn: ∀i,base.getD i true=false->(∃j,j < N/\at_ j=i)\/ ∀j,j < N-> ∃i',base.getD i' true=false/\Region.waitsFor md ops i i'=true/\((∀j',j' < N->at_ j'≠i')\/i'=at_ j):=fun i hi=>by
  have hib:i < base.size:=ZaW
  rcases hB.2 i hib with (h1 | h1) | h1
  ·rw [hi] at h1; cases h1
  ·exact .inl h1
  ·refine .inr fun j hj=>?_
   obtain ⟨i',_,⟨h2,h3⟩,h4⟩:=h1 j hj;exact ⟨i',h2,h3,h4.symm⟩
 clear hB;obtain ⟨D,R,hR,hp,hs,hl,ht,hb,h0⟩:=h;have rf:(D++R).Nodup:=hp.nodup_iff.2 List.nodup_range;have BQ: ∀j,j < N ↔ j ∈ D\/j ∈ R:=fun j=>by rw [<-Qo,<-hp.mem_iff,List.mem_append]
 have hDR: ∀j ∈ R,j ∉ D:=fun j hj hd=>(List.nodup_append.1 rf).2.2 j hd j hj rfl
 have jN: ∀j ∈ R,Zs.getD (at_ j) true=false:=fun j hj=>by
  rw [hl,Mt j ((BQ j).2 (.inr hj)),Bool.false_or,List.any_eq_false];intro j' Ou he;obtain rfl:=fE j' j ((BQ j').2 (.inl Ou)) ((BQ j).2 (.inr hj)) (by simpa using he);exact hDR j' hj Ou
 cases R with
 | nil=>simp at hR
 | cons r R=>
  have hbd: ∀i,base.getD i false=true->Zs.getD i false=true:=fun i hi=>by
   have hib:i < base.size:=ZaW
   have h2:=hl i;have h3:base.getD i true=true:=by simp [hib] at hi ⊢; exact hi
   rw [h3,Bool.true_or] at h2;simp [hs,hib] at h2 ⊢;exact h2
  refine ⟨fun he=>?_,fun i hi=>?_⟩
  ·have hrN:r < N:=(BQ r).2 (.inr ZE);obtain ⟨o,ho,Dn⟩:=hready r hrN;have:at_ r ∈ Yq md ops Zs:=Vj.2 ⟨jN r ZE,o,ho,fun e he hbi=>hbd _ (Dn e he hbi)⟩;rw [he] at this
   cases this
  ·obtain ⟨CU,o,ho,Dn⟩:=Vj.1 hi;have hub:base.getD i true=false:=by
    have:=hl i;rw [CU] at this;simp only [Bool.false_eq,Bool.or_eq_false_iff] at this;exact this.1
   rcases rn i hub with ⟨j,hj,rfl⟩ | hw
   ·have hjD:j ∉ D:=fun hd=>by
     have:=hl (at_ j);rw [CU] at this;simp only [Bool.false_eq,Bool.or_eq_false_iff,List.any_eq_false] at this;exact this.2 j hd ZE
    have hjR:j ∈ r::R:=((BQ j).1 hj).resolve_left hjD;refine ⟨XV j hj,hwp j D w hj (fun x hx=>⟨(BQ x).2 (.inl hx),fun e=>hjD (e▸hx)⟩) ht _ fun w' ht' hg=>⟨rfl,hS w',j::D,(r::R).erase j,?_,?_,by simpa using hs,fun i=>?_,ht',?_,h0⟩⟩
    ·rw [List.length_erase_of_mem hjR];omega
    ·refine List.Perm.trans ?_ hp;rw [Yf];exact List.perm_middle.symm.trans ((List.perm_cons_erase hjR).symm.append_left D)
    ·rw [List.any_cons]
     by_cases hij:at_ j=i
     ·subst hij;rw [Array.getD_eq_getD_getElem?,Array.getElem?_setIfInBounds];simp
      split <;> simp
     ·rw [getD_set_ne true hij,hl i,show (at_ j==i)=false by simpa using hij,Bool.false_or]
    ·exact hb.grown hg hb.size (fun k hk=>by injection hk with hk; omega)
   ·obtain ⟨i',Mu,hwf,hor⟩:=hw r ((BQ r).2 (.inr ZE));exfalso;unfold Region.waitsFor at hwf;rw [ho] at hwf;obtain ⟨e,he,hbe⟩:=Array.any_eq_true'.1 hwf;simp only [YO,beq_iff_eq] at hbe;have h1:=Dn e he hbe.1;rw [hbe.2] at h1;have h2:Zs.getD i' true=false:=by
     rcases hor with h | rfl
     ·rw [hl i',Mu,Bool.false_or,List.any_eq_false];intro j' Ou he';exact h j' ((BQ j').2 (.inl Ou)) (by simpa using he')
     ·exact jN r ZE
    rw [getD_both h2] at h1
    cases h1
end
section
variable {P:YL} {ops:Array Oper} {Q:Exit->Act->Zc->Prop} {md:JS} {n:Nat} {L:Array Bool->Act->Zc->Prop}
def C0 (base:Array Bool)(N:Nat)(at_:Nat->Nat) :Array Bool:=(Array.range base.size).map fun i=>base.getD i true||(YS N).any fun j=>at_ j==i
theorem mB {ent:Nat->Zk × Zk}{at_:Nat->Nat}{Zs:Array Bool}{N b:Nat}{w0 w:Zc}{a:Act}(hB:Zdp md ops n Zs N at_=true)
  (hwp: ∀j D w,j < N->(∀x ∈ D,x < N/\x≠j)->Q9 w b (D.map ent)-> ∀K:Act->Zc->Prop,(∀w',Q9 w' b ((j::D).map ent)->w.grownBy w' (some b)->K a w')->wpOp P ops Q (at_ j) K a w)
  (hT:Q9 w b []) (hb:Zp w0.heap.size w0 w) (h0:w0.heap.size<=b)
  (Vx: ∀w',Q9 w' b ((YS N).map ent)->Zp w0.heap.size w0 w'->L (C0 Zs N at_) a w') :XT P md ops Q (fun _=>True) n L N Zs a w:=by
 refine Au (o3 ent at_ Zs N b w0) a (fun f l w h=>mM hB hwp (fun _=>trivial) f l w h) (fun l w h=>?_) N Zs w (gm hT hb h0);obtain ⟨h1,h2,h3,h4,_⟩:=rN h;have:l=C0 Zs N at_:=by
  refine Array.ext (by simp [C0,h2]) fun i hi Mu=>?_
  have:=h1 i;simp [C0,hi] at this ⊢;exact this
 rw [this];exact Vx w h3 h4
theorem Wi {o:Oper}{a:Act}{w:Zc}{K:Act->Zc->Prop}(t:ZJ)(ho:o.op= .makeMap t none)(h:K (a.put o.dst (.map (some w.heap.size))) (w.alloc (.map #[] 0))) :o.wp P a w K Q:=by
 unfold Jp XL;simp only [ho,Option.map_none,Yr,run_makeMap,ZW,YU];exact h
end
section
variable {P:YL}
theorem cC {k:ZJ}{f0 f1:Field}{q0 q1:IntKind}{n:Nat}(hu:P.underlying k=some (.struct #[f0,f1]))(h0:P.underlying f0.type=some (.int q0))(h1:P.underlying f1.type=some (.int q1))
  (hk:P.keyType k=true) (hn:P.types.size=n+1) (hC:P.cellsOf k=2) (hC0:P.cellsOf f0.type=1) (hC1:P.cellsOf f1.type=1) (ho0:f0.offset=0) (ho1:f1.offset=1) (Hi:(f0.name != "_")=true) (bO:(f1.name != "_")=true)
  {x y:Int} (hx:(YJ q0 x).wf=true) (hy:(YJ q1 y).wf=true) : ∃l,keyOf P k (.agg #[.int q0 x,.int q1 y])=some l:=by
 have e0: ∀d,P.keyLits (d+1) f0.type [.int q0 x]=some [.int q0 x]:=fun d=>by simp [Program.keyLits,h0,hx]
 have e1: ∀d,P.keyLits (d+1) f1.type [.int q1 y]=some [.int q1 y]:=fun d=>by simp [Program.keyLits,h1,hy]
 have e:P.keyLits (n+1+1) k [.int q0 x,.int q1 y]=some [.int q0 x,.int q1 y]:=by
  unfold Program.keyLits;simp only [hu];rw [if_pos ⟨by simp [hC],by simp [Hi,bO]⟩];simp [ho0,ho1,hC0,hC1,e0,e1]
 have hkf:(P.keyType k&&(Value.agg #[.int q0 x,.int q1 y]).formed P k)=true:=by simp [hk,Value.formed,hu,hC]
 have he:keyOf P k (.agg #[.int q0 x,.int q1 y])=(P.keyLits (P.types.size+1) k [.int q0 x,.int q1 y]).map fun ls=> .string (keyBytes ls):=by
  unfold keyOf;simp only [hu];rw [if_pos hkf];rfl
 rw [he,hn,e];exact ⟨_,rfl⟩
end
end
section
open Go Go.RowKit
section
variable {P:YL} {ops:Array Oper} {Q:Exit->Act->Zc->Prop} {md:JS} {S:Zc->Prop}
theorem Jg {n f i:Nat}{L:Array Bool->Act->Zc->Prop}{Zs:Array Bool}{a:Act}{w:Zc}
  (h:wpOp P ops Q i (fun a' w'=>S w'/\XT P md ops Q S n L f (Zs.setIfInBounds i true) a' w') a w) (hr:Yq md ops Zs=[i]:=by kernel_rfl) (hi:i < n:=by first | omega | simp) :XT P md ops Q S n L (f+1) Zs a w:=Db hr hi h
theorem Mz {P:YL}{id:Nat}{Q:Exit->Act->Zc->Prop}{a:Act}{w:Zc}{l:List Oper}(S:Zc->Prop)(n f:Nat)(ks:List Nat)(hS:S w.drew)
  (h:ZZ P l.toArray S (fun a'=>XT P .any l.toArray (Qq Q) S n (fun Zs a' w'=>JT .any l.toArray (l.toArray.size - n) n Zs=true/\YQ P l.toArray (Qq Q) (l.drop n) a' w') f (UA ks (Qk l.toArray.size false)) a' w.drew) (ks.filterMap fun k=>l.toArray[k]?) a)
  (hm:P.follows .mixedOrders=true:=by kernel_rfl)
  (hB:(X3 l.toArray&&decide (n < l.toArray.size)&&KK .any l.toArray n&&KR .any l.toArray n&&ER .any l.toArray n ks (Qk l.toArray.size false)&&decide (f+ks.length=n))=true:=by kernel_rfl) :
  (Code.region id l.toArray true).wp P Q a w:=RD S n f ks hm hB hS h
theorem SR {n f m:Nat}{l:List Oper}{Q:Exit->Act->Zc->Prop}{a:Act}{w:Zc}{Zs:Array Bool}(S':Zc->Prop)(ks:List Nat)(hS:S' w)
  (h:ZZ P l.toArray S' (fun a'=>XT P .any l.toArray (Qq Q) S' n (fun Zs a' w'=>JT .any l.toArray (l.toArray.size - n) n Zs=true/\YQ P l.toArray (Qq Q) (l.drop n) a' w') f (UA ks Zs) a' w) (ks.filterMap fun k=>l.toArray[k]?) a)
  (hSS: ∀w,S' w->S w:=by exact fun _ h=>h)
  (hB:(X3 l.toArray&&decide (n < l.toArray.size)&&KK .any l.toArray n&&KR .any l.toArray n&&ND .any l.toArray n Zs&&ER .any l.toArray n ks Zs&&decide (f+ks.length=m))=true:=by kernel_rfl) :
  XT P .any l.toArray (Qq Q) S n (fun Zs a' w'=>JT .any l.toArray (l.toArray.size - n) n Zs=true/\YQ P l.toArray (Qq Q) (l.drop n) a' w') m Zs a w:=Uk S' ks hSS hB hS h
theorem JC {i:Nat}{o:Oper}{a:Act}{w:Zc}{K:Act->Zc->Prop}{f:UK}{xs:Array YN}{vU:Array ZJ}(vs:Array Zk)
  (VH: ∀args w,(callFunc f args).run P w= .ok (.enter f args) w) (hC:Zv P f vs w fun e w'=> ∃v,e= .returned v/\K (a.put o.dst v) w') (hi:ops[i]?=some o:=by rfl) (hg:o.guard=none:=by rfl)
  (ho:o.op= .call { callee:= .value (.func f),args:=xs,argTypes:=vU}:=by rfl) (hvs: #[]++xs.map a.eval++ #[]=vs:=by kernel_rfl) :wpOp P ops Q i K a w:=Yz hi hg (Kt ho vs hvs VH hC)
end
end
section
open Go Go.RowKit Go.Maps
def Jk (s e:Int) :Int:=
 if e=7 then(if s=2\/s=3 then 3 else if s=4\/s=5 then 4 else 0)
 else if e=6/\s=2 then 7 else if 1<=e/\e<=5/\s=e then s+1 else 0
def ki (s e:Int) :Zk:= .agg #[.int .i64 s,.int .i64 e]
def Gb:List (Int × Int × Int):= [(1,1,2),(2,2,3),(3,3,4),(4,4,5),(5,5,6),(2,6,7),(2,7,3),(3,7,3),(4,7,4),(5,7,4)]
def l4 (x:Int × Int × Int) :Zk × Zk:=(ki x.1 x.2.1,.int .i64 x.2.2)
def Bv (j:Nat) :Zk × Zk:=l4 (Gb.getD j (0,0,0))
theorem wJ:(YS 10).map Bv=Gb.map l4:=rfl
theorem su {s e:Int}(h:Jk s e≠0) :(s,e,Jk s e) ∈ Gb:=by
 unfold Jk at h ⊢
 by_cases h7:e=7
 ·subst h7;rw [if_pos rfl] at h ⊢
  by_cases a:s=2\/s=3
  ·rw [if_pos a]
   rcases a with rfl | rfl <;> decide
  ·rw [if_neg a] at h ⊢
   by_cases b:s=4\/s=5
   ·rw [if_pos b]
    rcases b with rfl | rfl <;> decide
   ·rw [if_neg b] at h;exact absurd rfl h
 ·rw [if_neg h7] at h ⊢
  by_cases a:e=6/\s=2
  ·obtain ⟨rfl,rfl⟩:=a;decide
  ·rw [if_neg a] at h ⊢
   by_cases b:1<=e/\e<=5/\s=e
   ·rw [if_pos b];obtain ⟨b1,b2,rfl⟩:=b;obtain rfl | rfl | rfl | rfl | rfl:s=1\/s=2\/s=3\/s=4\/s=5:=Zf
    all_goals decide
   ·rw [if_neg b] at h;exact absurd rfl h
theorem rR: ∀x ∈ Gb,Jk x.1 x.2.1=x.2.2/\x.2.2≠0:=YW
theorem rH {s e s' e':Int}(h:ki s e=ki s' e') :s=s'/\e=e':=by
 unfold ki at h;simp only [Value.agg.injEq,Array.mk.injEq,List.cons.injEq,Value.int.injEq,true_and,and_true] at h;exact h
theorem rG:Keyed Zb 310:=Keyed.of_law (deep_law_laid (m:=2) ZC Zf (of_decide_eq_true ZC) ZC ZC)
theorem Zd9: ∃n,Tryz.prog.types.size=n+1:=⟨_,show Tryz.prog.types.size=(Tryz.prog.types.size - 1)+1 by kernel_rfl⟩
theorem rF {s e:Int}(hs:(YJ .i64 s).wf=true)(he:(YJ .i64 e).wf=true) : ∃l,keyOf Zb 310 (ki s e)=some l:=by
 obtain ⟨n,hn⟩:=Zd9;exact cC underlying310 underlying3 underlying3 ZC hn ZC ZC ZC rfl rfl rfl rfl hs he
theorem Az: ∀p ∈ Gb.map l4,∃l,keyOf Zb 310 p.1=some l:=fun p hp=>by
 obtain ⟨x,hx,rfl⟩:=Z6.1 hp;have: ∀x ∈ Gb,(YJ .i64 x.1).wf=true/\(YJ .i64 x.2.1).wf=true:=YW;exact rF (this x hx).1 (this x hx).2
theorem Ziw (w:Zc) :(JZ 3).run Zb w= .ok (.int .i64 0) w:=ZC
theorem look {w:Zc}{b:Nat}(h:Q9 w b (Gb.map l4)){s e:Int}(hs:(YJ .i64 s).wf=true)(he:(YJ .i64 e).wf=true) :
  (JN 307 (.map (some b)) (ki s e) true).run Zb w= .ok (.tuple #[.int .i64 (Jk s e),.bool (Jk s e != 0)]) w:=by
 obtain ⟨l,hl⟩:=rF hs he
 rcases h.lookup rG underlying307 (Ziw w) Az hl with ⟨v,hv,hr⟩ | ⟨Ka,hr⟩
 ·obtain ⟨x,hx,hxe⟩:=Z6.1 hv;unfold l4 at hxe;simp only [Prod.mk.injEq] at hxe;obtain ⟨h1,h2⟩:=rH hxe.1;obtain ⟨h3,h4⟩:=rR x hx;rw [h1,h2] at h3;rw [hr,h3,<-hxe.2];simp [h4]
 ·have h0:Jk s e=0:=by
   rcases Decidable.em (Jk s e=0) with h | h
   ·exact h
   ·exact absurd rfl (Ka _ (Z6.2 ⟨_,su h,rfl⟩))
  rw [hr,h0];rfl
theorem aY {D:List Nat}(h: ∀x ∈ D,x < 10) : ∀p ∈ D.map Bv,∃l,keyOf Zb 310 p.1=some l:=fun p hp=>by
 obtain ⟨x,hx,rfl⟩:=Z6.1 hp;refine Az _ ?_;rw [<-wJ];exact Z6.2 ⟨x,Qo.2 (h x hx),rfl⟩
theorem Zco: ∀x,x < 10-> ∀j,j < 10->x≠j->(Bv x).1≠(Bv j).1:=fun x hx j hj Ka he=>by
 have key: ∀x,x < 10-> ∀j,j < 10->(Gb.getD x (0,0,0)).1=(Gb.getD j (0,0,0)).1->(Gb.getD x (0,0,0)).2.1=(Gb.getD j (0,0,0)).2.1->x=j:=YW;obtain ⟨h1,h2⟩:=rH he;exact Ka (key x hx j hj h1 h2)
theorem US {P:YL}{ops:Array Oper}{Q:Exit->Act->Zc->Prop}{a:Act}{b j:Nat}{D:List Nat}{w:Zc}{K:Act->Zc->Prop}{i s:Nat}{o:Oper}(hP:P=Zb)
  (ho:ops[i]?=some o) (hg:o.guard=none) (hd:o.dst=none) (hop:o.op= .insert 307 (.tmp 1) (.tmp s) (.const (Bv j).2)) (hm:a.eval (.tmp 1)= .map (some b)) (hx:a.eval (.tmp s)=(Bv j).1)
  (hj:j < 10) (hD: ∀x ∈ D,x < 10/\x≠j) (hT:Q9 w b (D.map Bv)) (hK: ∀w',Q9 w' b ((j::D).map Bv)->w.grownBy w' (some b)->K a w') :wpOp P ops Q i K a w:=by
 subst hP;obtain ⟨l,hl⟩:=aY (D:= [j]) LS (Bv j) ZE;exact Yz ho hg (Cc hT rG _ _ _ hop hd (Bv j).1 (Bv j).2 hm hx rfl underlying307 (aY fun x hx=>(hD x hx).1) hl (fun p hp=>by
  obtain ⟨x,hx,rfl⟩:=Z6.1 hp;exact Zco x (hD x hx).1 j hj (hD x hx).2) hK)
theorem oh (w:Zc) :Zv Zb 255 #[] w fun e w'=> ∃b,e= .returned (.map (some b))/\Q9 w' b (Gb.map l4)/\Zp w.heap.size w w':=by
 go_enter func255,ntmps255;go_wp2;refine Mz (fun _=>True) 21 11 [1,3,5,7,9,11,13,15,17,19] trivial ?_;refine JL ?_;refine jk ?_;refine BL (ki 1 1) rfl (fun w=>by kernel_rfl) ?_;refine BL (ki 2 2) rfl (fun w=>by kernel_rfl) ?_;refine BL (ki 3 3) rfl (fun w=>by kernel_rfl) ?_;refine BL (ki 4 4) rfl (fun w=>by kernel_rfl) ?_;refine BL (ki 5 5) rfl (fun w=>by kernel_rfl) ?_;refine BL (ki 2 6) rfl (fun w=>by kernel_rfl) ?_;refine BL (ki 2 7) rfl (fun w=>by kernel_rfl) ?_;refine BL (ki 3 7) rfl (fun w=>by kernel_rfl) ?_;refine BL (ki 4 7) rfl (fun w=>by kernel_rfl) ?_;refine BL (ki 5 7) rfl (fun w=>by kernel_rfl) ?_;refine XK ?_;refine X5 ?_;refine Jg (i:=0) ?_;refine Yz rfl rfl (Wi 307 rfl ⟨trivial,?_⟩);refine X5 ?_;refine mB (ent:=Bv) (at_:=fun j=>2*j+2) (w0:=w) (b:=w.heap.size) ZC ?_ (TV w.drew) ((Zo _ w).drew.alloc (Zh _) _) (Zh _) ?_
 ·intro j D w1 hj hD hT K hK;obtain rfl | rfl | rfl | rfl | rfl | rfl | rfl | rfl | rfl | rfl:j=0\/j=1\/j=2\/j=3\/j=4\/j=5\/j=6\/j=7\/j=8\/j=9:=Zf
  ·exact US (i:=2) (s:=2) rfl rfl rfl rfl rfl rfl rfl hj hD hT hK
  ·exact US (i:=4) (s:=3) rfl rfl rfl rfl rfl rfl rfl hj hD hT hK
  ·exact US (i:=6) (s:=4) rfl rfl rfl rfl rfl rfl rfl hj hD hT hK
  ·exact US (i:=8) (s:=5) rfl rfl rfl rfl rfl rfl rfl hj hD hT hK
  ·exact US (i:=10) (s:=6) rfl rfl rfl rfl rfl rfl rfl hj hD hT hK
  ·exact US (i:=12) (s:=7) rfl rfl rfl rfl rfl rfl rfl hj hD hT hK
  ·exact US (i:=14) (s:=8) rfl rfl rfl rfl rfl rfl rfl hj hD hT hK
  ·exact US (i:=16) (s:=9) rfl rfl rfl rfl rfl rfl rfl hj hD hT hK
  ·exact US (i:=18) (s:=10) rfl rfl rfl rfl rfl rfl rfl hj hD hT hK
  ·exact US (i:=20) (s:=11) rfl rfl rfl rfl rfl rfl rfl hj hD hT hK
 ·intro w1 hT hb;refine ⟨by kernel_rfl,?_⟩;simp only [qD];have HT:=Za hT;have HB:=Za hb;clear hT hb;go_wp2;refine Gy ?_;go_wp2;go_ret;exact ⟨_,rfl,HT.o,HB.o⟩
end
section
open Go Go.RowKit Go.Maps
theorem cK (s e:Int)(w:Zc)(hs:(YJ .i64 s).wf=true)(he:(YJ .i64 e).wf=true) :
  Z3 223 #[.int .i64 s,.int .i64 e] w (.tuple #[.int .i64 (Jk s e),.bool (Jk s e != 0)]):=by
 go_enter func223,ntmps223;go_wp2_with (go_at_call 255; refine (oh _).mono ?_; rintro x w' ⟨b,rfl,hT,hb⟩; have hl:=look hT hs he; unfold ki at hl; have HB:=Za hb; clear hT hb);go_ret2;exact ⟨rfl,HB.o⟩
end
section
open Go Go.RowKit
section
variable {P:YL} {ops:Array Oper} {S:Zc->Prop}
theorem Vk {Qa:Act->Prop}{a:Act}{o:Oper}{rest:List Oper}(ty:ZJ)(p:Addr)(v:Zk){x:YN}(hS: ∀w,S w->w.cell? p=some v)(h:ZZ P ops S Qa rest (a.put o.dst v))
  (hw:XJ o (VD ops a.tmps)=true:=by exact rfl) (ho:o.op= .load ty x:=by exact rfl) (hx:a.eval x= .pointer (some p):=by exact rfl)
  (hl: ∀w,w.cell? p=some v->(Uv ty (.pointer (some p))).run P w= .ok v w:=by exact fun w h=>by simp [go_sem,h]) :ZZ P ops S Qa (o::rest) a:=ZdN ty x p v hw ho hx hl hS h
end
end
section
open Go Go.ChangeShapes Go.WideShapes Go.RowKit Go.Deep
def ZfY (x0 x1 x2 x3 x4 x5 x6 x7 x8 x9 x10 x11 x12 x13 x14 x15 x16 x17 x18 x19:Int) :Nat->Int
 | 0=>x0
 | 1=>x1
 | 2=>x2
 | 3=>x3
 | 4=>x4
 | 5=>x5
 | 6=>x6
 | 7=>x7
 | 8=>x8
 | 9=>x9
 | 10=>x10
 | 11=>x11
 | 12=>x12
 | 13=>x13
 | 14=>x14
 | 15=>x15
 | 16=>x16
 | 17=>x17
 | 18=>x18
 | 19=>x19
 | _=>0
theorem open_T30 {H:Type}{enc:ZJ × Zk->H}{w:Zc}{base:Nat}{spare:Nat->Bool}{held:Bool}{r:Reach}{b0:Nat}{v:Zk}{d:DataW H}{p:List MemPlace}
  (hv:Value.okWide Zb w r b0 30 v) (h:DataW.Trod enc Zb w base spare held 30 v d p) : ∃c:Nat->Int,v= .agg (Zi c)/\Ci c:=by
 obtain ⟨cs,rfl,Bx,H⟩:=open_struct_ints underlying30 ZC ZC hv h;obtain ⟨n0,h0,w0⟩:=H 0 _ .i64 rfl underlying3;obtain ⟨n1,h1,w1⟩:=H 1 _ .i64 rfl underlying3;obtain ⟨n2,h2,w2⟩:=H 2 _ .u64 rfl underlying23;obtain ⟨n3,h3,w3⟩:=H 3 _ .u64 rfl underlying23;obtain ⟨n4,h4,w4⟩:=H 4 _ .u64 rfl underlying23;obtain ⟨n5,h5,w5⟩:=H 5 _ .u64 rfl underlying23;obtain ⟨n6,h6,w6⟩:=H 6 _ .u64 rfl underlying23;obtain ⟨n7,h7,w7⟩:=H 7 _ .u64 rfl underlying23;obtain ⟨n8,h8,w8⟩:=H 8 _ .u64 rfl underlying23;obtain ⟨n9,h9,w9⟩:=H 9 _ .u64 rfl underlying23;obtain ⟨n10,PK,w10⟩:=H 10 _ .i64 rfl underlying3;obtain ⟨n11,UT,w11⟩:=H 11 _ .i64 rfl underlying3;obtain ⟨n12,L1,w12⟩:=H 12 _ .i64 rfl underlying3;obtain ⟨n13,fA,w13⟩:=H 13 _ .i64 rfl underlying3;obtain ⟨n14,h14,w14⟩:=H 14 _ .i64 rfl underlying3;obtain ⟨n15,h15,w15⟩:=H 15 _ .i64 rfl underlying3;obtain ⟨n16,qK,w16⟩:=H 16 _ .i64 rfl underlying3;obtain ⟨n17,h17,w17⟩:=H 17 _ .i64 rfl underlying3;obtain ⟨n18,h18,w18⟩:=H 18 _ .u64 rfl underlying23;obtain ⟨n19,h19,w19⟩:=H 19 _ .u64 rfl underlying23;obtain ⟨l⟩:=cs
 match l,Bx with
 | [c0,c1,c2,c3,c4,c5,c6,c7,c8,c9,c10,c11,c12,c13,c14,c15,c16,c17,c18,c19],_=>
  obtain rfl:=ZL h0;obtain rfl:=ZL h1;obtain rfl:=ZL h2;obtain rfl:=ZL h3;obtain rfl:=ZL h4;obtain rfl:=ZL h5;obtain rfl:=ZL h6;obtain rfl:=ZL h7;obtain rfl:=ZL h8;obtain rfl:=ZL h9;obtain rfl:=ZL PK;obtain rfl:=ZL UT;obtain rfl:=ZL L1;obtain rfl:=ZL fA;obtain rfl:=ZL h14;obtain rfl:=ZL h15;obtain rfl:=ZL qK;obtain rfl:=ZL h17;obtain rfl:=ZL h18;obtain rfl:=ZL h19;refine ⟨ZfY n0 n1 n2 n3 n4 n5 n6 n7 n8 n9 n10 n11 n12 n13 n14 n15 n16 n17 n18 n19,rfl,fun k hk=>?_⟩;have:k=0\/k=1\/k=2\/k=3\/k=4\/k=5\/k=6\/k=7\/k=8\/k=9\/k=10\/k=11\/k=12\/k=13\/k=14\/k=15\/k=16\/k=17\/k=18\/k=19:=Zf
  rcases this with rfl | rfl | rfl | rfl | rfl | rfl | rfl | rfl | rfl | rfl | rfl | rfl | rfl | rfl | rfl | rfl | rfl | rfl | rfl | rfl
  ·exact w0
  ·exact w1
  ·exact w2
  ·exact w3
  ·exact w4
  ·exact w5
  ·exact w6
  ·exact w7
  ·exact w8
  ·exact w9
  ·exact w10
  ·exact w11
  ·exact w12
  ·exact w13
  ·exact w14
  ·exact w15
  ·exact w16
  ·exact w17
  ·exact w18
  ·exact w19
end
section
open Go.RowKit
def Kw (w:Zc)(b:Nat)(D P B C:Int) :Prop:=Zu w b 142 #[.int .u64 D,.int .u64 P,.int .u64 B,.int .u64 C]
def Jt (D P B C:Int) :Prop:=0<=P/\0<=B/\P+B<=D/\D<=18446744073709551615/\D - P - B<=C/\C<=18446744073709551615
section
variable {w w':Zc} {b d:Nat} {D P B C:Int}
theorem Kw.cells (h:Kw w b D P B C) :w.cell? ⟨b,0,none⟩=some (.int .u64 D)/\w.cell? ⟨b,1,none⟩=some (.int .u64 P)/\w.cell? ⟨b,2,none⟩=some (.int .u64 B)/\w.cell? ⟨b,3,none⟩=some (.int .u64 C):=
 ⟨XP h 0,XP h 1,XP h 2,XP h 3⟩
end
theorem aF (b:Nat)(D P B:Int)(w:Zc)(h0:w.cell? ⟨b,0,none⟩=some (.int .u64 D))(h1:w.cell? ⟨b,1,none⟩=some (.int .u64 P))(h2:w.cell? ⟨b,2,none⟩=some (.int .u64 B))
  (hP:0<=P) (hB:0<=B) (hD:P+B<=D) (hm:D<=18446744073709551615) :
  Xb 212 #[.pointer (some ⟨b,0,none⟩)] w (.int .u64 (D - P - B)):=by
 go_enter func212,ntmps212;go_wp2;go_quiet (skip);go_wp2;go_ret;exact ⟨rfl,_,rfl⟩
theorem zd (b:Nat)(w:Zc) :YV 250 #[.pointer (some ⟨b,0,none⟩),.int .i64 0] w (.pointer (some ⟨b,0,none⟩)):=ud
theorem ze (b:Nat)(w:Zc) :YV 250 #[.pointer (some ⟨b,0,none⟩),.int .i64 1] w (.pointer (some ⟨b,1,none⟩)):=ud
theorem zg (b:Nat)(w:Zc) :YV 250 #[.pointer (some ⟨b,0,none⟩),.int .i64 2] w (.pointer (some ⟨b,2,none⟩)):=ud
theorem xP (C:Int)(w:Zc) :
  Zv Zb 76 #[.int .u64 C] w fun e w'=>e= .returned (.pointer (some ⟨w.heap.size,0,none⟩))/\w.alloc (.cells #[.int .u64 0,.int .u64 0,.int .u64 0,.int .u64 C] 142)=w':=by
 go_enter func76,ntmps76;exact Uu
theorem ZdG (C:Int)(w:Zc)(c0:0<=C)(c1:C<=18446744073709551615) :
  Zv Zb 76 #[.int .u64 C] w fun e w'=>e= .returned (.pointer (some ⟨w.heap.size,0,none⟩))/\Kw w' w.heap.size 0 0 0 C/\Jt 0 0 0 C/\Zp w.heap.size w w'/\w'.heap.size=w.heap.size+1:=
 (xP C w).mono fun e w' ⟨he,hw⟩=>⟨he,hw▸Zt _ _ _,⟨by omega,by omega,by omega,by omega,by omega,c1⟩,hw▸(Zo _ _).alloc (Zh _) _,by rw [<-hw]; simp⟩
theorem Zax:(Tryz.prog.info? 109).map (·.size)=some 3:=ZC
theorem Ay:(Tryz.prog.info? 140).map (·.size)=some 3:=ZC
theorem iM (b:Nat)(D P B C:Int)(w:Zc)(h:Kw w b D P B C) :
  Z3 40 #[.pointer (some ⟨b,0,none⟩)] w (.agg #[.int .u64 D,.int .u64 P,.int .u64 B]):=by
 have hr:(w.alloc (.cells #[.int .u64 0,.int .u64 0,.int .u64 0] 109)).rangeAt b 0 [.int .u64 D,.int .u64 P,.int .u64 B]:=by
  have hb:=Yw h (.cells #[.int .u64 0,.int .u64 0,.int .u64 0] 109);intro j v hv;have hj:j < 3:=(Zj.1 hv).1;rw [ZV,XP hb j];exact ZbU
 have HR:=Za hr;clear h hr;go_enter func40,ntmps40;go_wp2_with (first | (refine Je rfl 140 _ rfl b 0 rfl _ _ HR.o underlying140 rfl Ay ?_) | (refine UP w.heap.size #[.int .u64 D,.int .u64 P,.int .u64 B] 109 (ZA w _) Zax rfl ?_; rw [Zr]));exact Yd (v:= .agg #[.int .u64 D,.int .u64 P,.int .u64 B]) (results_cell_row (fn:=Tryz.f40) rfl _ _ w.heap.size 109 _ (0,0) _ rfl (ZA w _) underlying109 rfl Zax) rfl ⟨rfl,(Zo _ _).alloc (Zh _) _⟩
end
section
open Go.RowKit
theorem qz (y x:Int)(i:Nat)(hy0:0<=y)(hy1:y<=18446744073709551615)(oR:0<=x)(hx1:x<=18446744073709551615) :0<= [y,x].getD i 0/\[y,x].getD i 0<=18446744073709551615:=by
 match i with
 | 0=>exact ⟨hy0,hy1⟩
 | 1=>exact ⟨oR,hx1⟩
 | i+2=>simp
theorem au (g:Nat)(y x:Int)(w:Zc)(h:Zu w g 23 #[.int .u64 y,.int .u64 x])(hy0:0<=y)(hy1:y<=18446744073709551615)(oR:0<=x)(hx1:x<=18446744073709551615) :
  YV 101 #[.slice (some ⟨g,0,none⟩) 2 2] w (.tuple #[.int .u64 (BO [y,x] 2),.bool (VU [y,x] 2)]):=
 DP g 0 2 2 [y,x] w Zf (fun i hi=>by
  rw [ZV,XP h i];obtain rfl | rfl:i=0\/i=1:=Zf
  all_goals rfl) (fun i=>qz y x i hy0 hy1 oR hx1)
theorem kB {y x:Int}(h:y+x<=18446744073709551615) :VU [y,x] 2=true/\BO [y,x] 2=y+x:=by
 have e:XW [y,x] 2=y+x:=by simp [XW]
 have:=Nk (z:= [y,x]) (n:=2) (by rw [e]; exact h);rwa [e] at this
theorem kA {y x:Int}(h: ¬y+x<=18446744073709551615) :VU [y,x] 2=false/\BO [y,x] 2=0:=by
 have e:XW [y,x] 2=y+x:=by simp [XW]
 exact RH (z:= [y,x]) (n:=2) (by rw [e]; exact h)
theorem Sa (g:Nat)(y x:Int)(w:Zc)(h:Zu w g 23 #[.int .u64 y,.int .u64 x])(hy0:0<=y)(oR:0<=x)(hs:y+x<=18446744073709551615) :
  YV 101 #[.slice (some ⟨g,0,none⟩) 2 2] w (.tuple #[.int .u64 (y+x),.bool true]):=by
 have:=au g y x w h hy0 Zf oR Zf;rwa [(kB hs).1,(kB hs).2] at this
theorem R9 (g:Nat)(y x:Int)(w:Zc)(h:Zu w g 23 #[.int .u64 y,.int .u64 x])(hy0:0<=y)(hy1:y<=18446744073709551615)(oR:0<=x)(hx1:x<=18446744073709551615)(hs: ¬y+x<=18446744073709551615) :
  YV 101 #[.slice (some ⟨g,0,none⟩) 2 2] w (.tuple #[.int .u64 0,.bool false]):=by
 have:=au g y x w h hy0 hy1 oR hx1;rwa [(kA hs).1,(kA hs).2] at this
theorem rC:(Tryz.prog.info? 260).map (·.size)=some 2:=ZC
theorem ET:(Tryz.prog.info? 23).map (fun i=>(i.zero,i.size))=some (some (.int .u64 0),1):=ZC
theorem A5 (s b:Nat)(hs:s < 3)(w:Zc) :YV 250 #[.pointer (some ⟨b,0,none⟩),.int .i64 s] w (.pointer (some ⟨b,s,none⟩)):=by
 obtain rfl | rfl | rfl:s=0\/s=1\/s=2:=Zf
 ·exact zd b w
 ·exact ze b w
 ·exact zg b w
theorem AB {w:Zc}{b:Nat}{D P B C:Int}(h:Kw w b D P B C) :w.rangeAt b 0 [.int .u64 D,.int .u64 P,.int .u64 B]:=Zh1
theorem CY {w:Zc}{b:Nat}{D P B C D' P' B':Int}(h:Kw w b D P B C) :Kw (w.setCells b 0 [.int .u64 D',.int .u64 P',.int .u64 B']) b D' P' B' C:=
 Va (Va (Va h 0 (.int .u64 D')) 1 (.int .u64 P')) 2 (.int .u64 B')
theorem WK {a w:Zc}{b:Nat}(h:a.grownBy w (some b))(u0 u1 u2:Zk) :a.grownBy (w.setCells b 0 [u0,u1,u2]) (some b):=
 QD (QD (QD h (.inl rfl) u0) (.inl rfl) u1) (.inl rfl) u2
theorem aI (s b g:Nat)(D P B C D' P' B' x y:Int)(w:Zc)(hb:Kw w b D P B C)(hg:Zu w g 260 #[.int .i64 s,.int .u64 x])(hs:s < 3)
  (hy:(#[.int .u64 D,.int .u64 P,.int .u64 B] :Array Zk)[s]?=some (.int .u64 y)) (hup:(#[.int .u64 D,.int .u64 P,.int .u64 B] :Array Zk).setIfInBounds s (.int .u64 (y+x))= #[.int .u64 D',.int .u64 P',.int .u64 B'])
  (y0:0<=y) (x0:0<=x) (MJ:y+x<=18446744073709551615) :
  Zv Zb 213 #[.pointer (some ⟨b,0,none⟩),.slice (some ⟨g,0,none⟩) 1 1] w fun e w'=>e= .returned (.bool true)/\Kw w' b D' P' B' C/\w.grownBy w' (some b):=by
 have HR:=Za (AB hb);have HB:=Za hb;have HG:=Za hg;have HY:=Za hy;have HU:=Za hup;have HT:=Za (fun b w=>A5 s b hs w);have HL:=Za (Zu.lt hb);have HLg:=Za (Zu.lt hg);have HN:Zl (∀(w:Zc),Zu (w.alloc (.cells #[.int .u64 D,.int .u64 P,.int .u64 B] 140)) w.heap.size 140 #[.int .u64 D,.int .u64 P,.int .u64 B]):=Za (fun w=>Zt w _ _);clear hb hg hy hup;go_enter func213,ntmps213;go_wp2_with (first | (refine Je rfl 140 _ rfl b 0 rfl _ _ HR.o underlying140 rfl Ay ?_) | (refine UP w.heap.size #[.int .u64 D,.int .u64 P,.int .u64 B] 140 (ZA w _) Ay rfl ?_; rw [Zr]));go_loopw [16] (fun s16 wr=> ∃(k:Nat) (cs:Array Zk),s16= .int .i64 k/\Zl (k=0/\cs= #[.int .u64 D,.int .u64 P,.int .u64 B]\/k=1/\cs= #[.int .u64 D',.int .u64 P',.int .u64 B'])/\Zl (Zu wr w.heap.size 140 cs)/\Zp w.heap.size w wr) (fun s16 _=>1 -(intOf s16).toNat)
 case atStart=>exact ⟨0,_,rfl,Za (.inl ⟨rfl,rfl⟩),Za (Zt w _ _),(Zo _ _).alloc (Zh _) _⟩
 case round=>
  obtain ⟨k,cs,rfl,HK,HC,BR⟩:=hrel;have hk:k=0\/k=1:=HK.o.elim (fun h=> .inl h.1) (fun h=> .inr h.1)
  rcases hk with rfl | rfl
  ·have EY:cs= #[.int .u64 D,.int .u64 P,.int .u64 B]:=HK.o.elim (fun h=>h.2) (fun h=>by cases h.1);subst EY;clear HK;have g0:wr.cell? ⟨g,0,none⟩=some (.int .i64 s):=(BR.cell (p:=⟨g,0,none⟩) HLg.o).trans (HG.o.cell 0);have g1:wr.cell? ⟨g,1,none⟩=some (.int .u64 x):=(BR.cell (p:=⟨g,1,none⟩) HLg.o).trans (HG.o.cell 1);go_wp2_with (first | (refine UP wr.heap.size #[.int .i64 s,.int .u64 x] 260 (ZA wr _) rC rfl ?_; rw [Zr]) | fail);refine (HT.o _ _).mono ?_;rintro e w1 ⟨rfl,NI⟩;have B1:Zp w.heap.size w w1:=NI▸BR.alloc BR.size _;have C1:Zl (Zu w1 w.heap.size 140 #[.int .u64 D,.int .u64 P,.int .u64 B]):=Za (NI▸Yw HC.o _);have x1:w1.cell? ⟨wr.heap.size,1,none⟩=some (.int .u64 x):=by rw [<-NI]; exact XP (Zt _ _ _) 1
   have y1:w1.cell? ⟨w.heap.size,s,none⟩=some (.int .u64 y):=(C1.o.cell s).trans HY.o;clear NI g0 g1 HC BR;go_wp2;refine Mz (fun _=>True) 11 11 [] trivial ?_;refine XK ?_;refine Zhj ?_;refine JL ?_;refine Ol ?_;refine B9 ?_;refine Vk 23 _ (.int .u64 y) (fun w h=>h.2) ?_;refine X5 ?_;refine Gz ?_;refine Vk 23 _ (.int .u64 x) (fun w h=>h.1) ?_;refine X5 ?_;refine XK ?_;refine DM ?_;refine Yz rfl rfl (QE 121 23 (.tmp 26) (.tmp 28) _ _ (.int .u64 y) (.int .u64 x) rfl rfl rfl underlying121 ET rfl rfl rfl ⟨⟨ZD _ x1,ZD _ y1⟩,?_⟩);refine Mo ?_;refine Da ?_;refine JC #[.slice (some ⟨w1.drew.heap.size,0,none⟩) 2 2] call101 ((Sa w1.drew.heap.size y x _ (Zt w1.drew _ _) y0 x0 MJ).mono ?_);rintro e w2 ⟨rfl,Na⟩;have B2:Zp w.heap.size w w2:=Na▸B1.drew.alloc B1.size _;have C2:Zl (Zu w2 w.heap.size 140 #[.int .u64 D,.int .u64 P,.int .u64 B]):=Za (Na▸Yw (Zu.drew C1.o) _);have y2:w2.cell? ⟨w.heap.size,s,none⟩=some (.int .u64 y):=(C2.o.cell s).trans HY.o;have x2:w2.cell? ⟨wr.heap.size,1,none⟩=some (.int .u64 x):=by rw [<-Na]; exact ZD _ x1
   have z2:w2.frozen? ⟨w.heap.size,s,none⟩=false:=C2.o.frozen s;have C3:Zl (Zu (w2.setCell ⟨w.heap.size,s,none⟩ (.int .u64 (y+x))) w.heap.size 140 #[.int .u64 D',.int .u64 P',.int .u64 B']):=Za (by have:=C2.o.set_ s (.int .u64 (y+x)); rwa [HU.o] at this);have B3:Zl (Zp w.heap.size w (w2.setCell ⟨w.heap.size,s,none⟩ (.int .u64 (y+x)))):=Za (B2.setCell (Zh _) _);refine ⟨_,rfl,⟨x2,y2⟩,?_⟩;clear Na C1 B1 x1 y1;refine Da ?_;refine Zhm ?_;refine JL ?_;refine He ?_;refine Bi ?_;refine XK ?_;refine GO ?_;refine ⟨by kernel_rfl,?_⟩;refine Mh ?_;go_wp2;refine Gy ?_;go_wp2;go_roundw
   case rel=>exact ⟨1,_,rfl,Za (.inr ⟨rfl,rfl⟩),C3,B3.o⟩
   case measure=>simp [intOf]
  ·have EY:cs= #[.int .u64 D',.int .u64 P',.int .u64 B']:=HK.o.elim (fun h=>by cases h.1) (fun h=>h.2);subst EY;clear HK;have hb:Kw wr b D P B C:=Zu.below HB.o BR HL.o;have HE:Zl (Kw (((wr.setCell ⟨b,0,none⟩ (.int .u64 D')).setCell ⟨b,1,none⟩ (.int .u64 P')).setCell ⟨b,2,none⟩ (.int .u64 B')) b D' P' B' C/\w.grownBy (((wr.setCell ⟨b,0,none⟩ (.int .u64 D')).setCell ⟨b,1,none⟩ (.int .u64 P')).setCell ⟨b,2,none⟩ (.int .u64 B')) (some b)):=Za ⟨CY hb,WK (Ee BR _) _ _ _⟩;obtain ⟨c0,c1,c2,c3⟩:=hb.cells;have z0:=Km hb 0;have z1:=Km hb 1;have z2:=Km hb 2;clear hb;go_wp2_with (refine wpList_load_row rfl 140 _ rfl w.heap.size rfl _ _ (0,0) _ HC.o underlying140 rfl Ay ?_);go_ret;exact ⟨rfl,HE.o⟩
theorem wo (s b g:Nat)(D P B C x y:Int)(w:Zc)(hb:Kw w b D P B C)(hg:Zu w g 260 #[.int .i64 s,.int .u64 x])(hs:s < 3)
  (hy:(#[.int .u64 D,.int .u64 P,.int .u64 B] :Array Zk)[s]?=some (.int .u64 y))
  (y0:0<=y) (ym:y<=18446744073709551615) (x0:0<=x) (x1':x<=18446744073709551615) (MJ: ¬y+x<=18446744073709551615) :
  Z3 213 #[.pointer (some ⟨b,0,none⟩),.slice (some ⟨g,0,none⟩) 1 1] w (.bool false):=by
 have HR:=Za (AB hb);have HB:=Za hb;have HG:=Za hg;have HY:=Za hy;have HT:=Za (fun b w=>A5 s b hs w);have HL:=Za (Zu.lt hb);have HLg:=Za (Zu.lt hg);have HN:Zl (∀(w:Zc),Zu (w.alloc (.cells #[.int .u64 D,.int .u64 P,.int .u64 B] 140)) w.heap.size 140 #[.int .u64 D,.int .u64 P,.int .u64 B]):=Za (fun w=>Zt w _ _);clear hb hg hy;go_enter func213,ntmps213;go_wp2_with (first | (refine Je rfl 140 _ rfl b 0 rfl _ _ HR.o underlying140 rfl Ay ?_) | (refine UP w.heap.size #[.int .u64 D,.int .u64 P,.int .u64 B] 140 (ZA w _) Ay rfl ?_; rw [Zr]));go_loopw [16] (fun s16 wr=> ∃(k:Nat) (cs:Array Zk),s16= .int .i64 k/\Zl (k=0/\cs= #[.int .u64 D,.int .u64 P,.int .u64 B])/\Zl (Zu wr w.heap.size 140 cs)/\Zp w.heap.size w wr) (fun s16 _=>1 -(intOf s16).toNat)
 case atStart=>exact ⟨0,_,rfl,Za ⟨rfl,rfl⟩,Za (Zt w _ _),(Zo _ _).alloc (Zh _) _⟩
 case round=>
  obtain ⟨k,cs,rfl,HK,HC,BR⟩:=hrel;obtain ⟨rfl,rfl⟩:=HK.o
  ·clear HK;have g0:wr.cell? ⟨g,0,none⟩=some (.int .i64 s):=(BR.cell (p:=⟨g,0,none⟩) HLg.o).trans (HG.o.cell 0);have g1:wr.cell? ⟨g,1,none⟩=some (.int .u64 x):=(BR.cell (p:=⟨g,1,none⟩) HLg.o).trans (HG.o.cell 1);go_wp2_with (first | (refine UP wr.heap.size #[.int .i64 s,.int .u64 x] 260 (ZA wr _) rC rfl ?_; rw [Zr]) | fail);refine (HT.o _ _).mono ?_;rintro e w1 ⟨rfl,NI⟩;have B1:Zp w.heap.size w w1:=NI▸BR.alloc BR.size _;have C1:Zl (Zu w1 w.heap.size 140 #[.int .u64 D,.int .u64 P,.int .u64 B]):=Za (NI▸Yw HC.o _);have x1:w1.cell? ⟨wr.heap.size,1,none⟩=some (.int .u64 x):=by rw [<-NI]; exact XP (Zt _ _ _) 1
   have y1:w1.cell? ⟨w.heap.size,s,none⟩=some (.int .u64 y):=(C1.o.cell s).trans HY.o;clear NI g0 g1 HC BR;go_wp2;refine Mz (fun _=>True) 11 11 [] trivial ?_;refine XK ?_;refine Zhj ?_;refine JL ?_;refine Ol ?_;refine B9 ?_;refine Vk 23 _ (.int .u64 y) (fun w h=>h.2) ?_;refine X5 ?_;refine Gz ?_;refine Vk 23 _ (.int .u64 x) (fun w h=>h.1) ?_;refine X5 ?_;refine XK ?_;refine DM ?_;refine Yz rfl rfl (QE 121 23 (.tmp 26) (.tmp 28) _ _ (.int .u64 y) (.int .u64 x) rfl rfl rfl underlying121 ET rfl rfl rfl ⟨⟨ZD _ x1,ZD _ y1⟩,?_⟩);refine Mo ?_;refine Da ?_;refine JC #[.slice (some ⟨w1.drew.heap.size,0,none⟩) 2 2] call101 ((R9 w1.drew.heap.size y x _ (Zt w1.drew _ _) y0 ym x0 x1' Zf).mono ?_);rintro e w2 ⟨rfl,Na⟩;have B2:Zp w.heap.size w w2:=Na▸B1.drew.alloc B1.size _;have C2:Zl (Zu w2 w.heap.size 140 #[.int .u64 D,.int .u64 P,.int .u64 B]):=Za (Na▸Yw (Zu.drew C1.o) _);have y2:w2.cell? ⟨w.heap.size,s,none⟩=some (.int .u64 y):=(C2.o.cell s).trans HY.o;have x2:w2.cell? ⟨wr.heap.size,1,none⟩=some (.int .u64 x):=by rw [<-Na]; exact ZD _ x1
   refine ⟨_,rfl,⟨x2,y2⟩,?_⟩;clear Na C1 B1 x1 y1;refine Da ?_;refine Zhm ?_;refine JL ?_;refine He ?_;refine Bi ?_;refine XK ?_;refine GO ?_;refine ⟨by kernel_rfl,?_⟩;refine Mh ?_;go_wp2;refine Gy ?_;go_wp2;go_ret;exact ⟨rfl,B2⟩
end
section
open Go Go.RowKit Go.Deep
def Dg (P:YL)(f:UK)(args:Array Zk)(w:Zc)(R:Ending->Zc->Prop) :Prop:=
 Zv P f args w R/\ ∀u,CallsD P f args u w fun e u' w'=>u'=u/\R e w'
theorem Fh {P:YL}{f:UK}{fn:Func}{c:Code}{args:Array Zk}{w:Zc}{R:Ending->Zc->Prop}(hf:P.funcs[f]?=some fn)(hb:fn.body=some c)
  (h:c.wp P (bodyPost P fn R) { tmps:=args++Qk (fn.ntmps - args.size) undef,defers:= []} w) :Dg P f args w R:=
 ⟨calls_of_wp hf hb h,fun _=>callsD_of_wp hf hb h⟩
theorem Dg.mono {P:YL}{f:UK}{args:Array Zk}{w:Zc}{R R':Ending->Zc->Prop}(h:Dg P f args w R)(hr: ∀e w',R e w'->R' e w') :Dg P f args w R':=
 ⟨h.1.mono hr,fun u=>(h.2 u).mono fun e u' w' ⟨h1,h2⟩=>⟨h1,hr e w' h2⟩⟩
section
variable {w w':Zc} {b m cap:Nat} {s:Zk} {c:Int->Int} {A T:Int}
theorem JJ.alloc (h:JJ w b m s cap c A T)(o:Obj) :JJ (w.alloc o) b m s cap c A T:=⟨h.1.alloc o,h.2.alloc o⟩
theorem JJ.drewN (h:JJ w b m s cap c A T)(n:Nat) :JJ (w.drewN n) b m s cap c A T:=h
theorem JJ.total (h:JJ w b m s cap c A T)(x:Int) :JJ (w.setCell ⟨b,4,none⟩ (.int .u64 x)) b m s cap c A x:=⟨h.1.set_ 4 _,h.2.setCell (fun e=>h.ne e.symm) _⟩
theorem JJ.active (h:JJ w b m s cap c A T)(x:Int) :JJ (w.setCell ⟨b,3,none⟩ (.int .u64 x)) b m s cap c x T:=⟨h.1.set_ 3 _,h.2.setCell (fun e=>h.ne e.symm) _⟩
theorem JJ.list (h:JJ w b m s cap c A T)(x:Zk) :JJ (w.setCell ⟨b,1,none⟩ x) b m x cap c A T:=⟨h.1.set_ 1 _,h.2.setCell (fun e=>h.ne e.symm) _⟩
theorem JJ.counted (h:JJ w b m s cap c A T){c':Int->Int}(hc:Qd w' m c')(hg:w.grownBy w' (some m)) :JJ w' b m s cap c' A T:=⟨h.1.grown hg (fun e=>h.ne (by injection e)),hc⟩
end
theorem bV (b m cap:Nat)(s:Zk)(c:Int->Int)(A T:Int)(v:ZN)(w:Zc)(h:JJ w b m s cap c A T)(hv:Yh v)(hl:VX v.st=true)
  (Rn:0<=A) (hA:A+v.bal<=18446744073709551615) (fC:0<=T) (hT:T+v.bal<=18446744073709551615) (OV:0<=c v.st) (M9:c v.st<=4096) :
  Dg Zb 214 #[.pointer (some ⟨b,0,none⟩),.agg (Zd v)] w fun e w'=>e= .returned (.tuple #[])/\JJ w' b m s cap (Oa c v.st (c v.st+1)) (A+v.bal) (T+v.bal)/\Zx (fun i=>i=b\/i=m) w w':=by
 have HL:Zl (∀w,YV 103 #[.int .i64 v.st] w (.bool true)):=Za (fun w=>by have:=Lh v.st w; rwa [hl] at this);have hK:Zx (fun i=>i=b\/i=m) w (w.alloc (.cells (Zd v) 68)):=(Zx.refl _ w).alloc _;have hE:Zu (w.alloc (.cells (Zd v) 68)) w.heap.size 68 (Zd v):=Zt _ _ _;have Ka: ¬w.heap.size=b:=by have:=h.1.lt; omega
 have HB:=Za (h.alloc (.cells (Zd v) 68));have x0:(w.alloc (.cells (Zd v) 68)).cell? ⟨w.heap.size,0,none⟩=some (.int .u64 v.bal):=hE.cell 0;have x1:(w.alloc (.cells (Zd v) 68)).cell? ⟨w.heap.size,1,none⟩=some (.int .i64 v.st):=hE.cell 1;obtain ⟨-,-,c2,c3,c4⟩:=HB.o.cells;have f3:=HB.o.1.frozen 3;have f4:=HB.o.1.frozen 4;have v0:=hv.bal.1;have HE:=Za hE;have HK:=Za hK;have HW:=Za hv.2;obtain ⟨cs,EY⟩:=ZT (c v.st);rw [EY] at OV M9 ⊢;have HCS:=Za EY;obtain ⟨n0,Hi⟩:=ZT (w.heap.size);have jR: ¬n0=b:=by rw [<-Hi]; exact Ka
 clear Ka;clear h hE hK hv hl EY;refine Zhi ?_;go_wp2;generalize w.alloc (.cells (Zd v) 68)=W at*;rw [Hi] at*;refine GL 9 ?_;refine GM ?_
 repeat (go_big_quiet_step (fail))
 refine XK ?_;intro _ Jq;obtain ⟨n1,Y9⟩:=Jq;subst Y9;go_wp2_with fail;refine (HL.o _).mono ?_;rintro e w2 ⟨rfl,rfl⟩;go_wp2_with fail;refine GL 9 ?_;refine GM ?_
 repeat (go_big_quiet_step (fail))
 refine XK ?_;intro _ Jq;obtain ⟨n2,Y9⟩:=Jq;subst Y9;go_wp2_with fail;have HR:=Za ((((HB.o.drewN n1).total (T+v.bal)).drewN n2).active (A+v.bal));have Pz:Zl (Zx (fun i=>i=b\/i=m) w ((((W.drewN n1).setCell ⟨b,4,none⟩ (.int .u64 (T+v.bal))).drewN n2).setCell ⟨b,3,none⟩ (.int .u64 (A+v.bal)))):=Za ((((HK.o.drewN n1).setCell (.inl (.inl rfl)) _).drewN n2).setCell (.inl (.inl rfl)) _);have y1:((((W.drewN n1).setCell ⟨b,4,none⟩ (.int .u64 (T+v.bal))).drewN n2).setCell ⟨b,3,none⟩ (.int .u64 (A+v.bal))).cell? ⟨n0,1,none⟩=some (.int .i64 v.st):=(Zu.far (Xq (Zu.far (Xq HE.o n1) jR _) n2) jR _).cell 1;generalize (((W.drewN n1).setCell ⟨b,4,none⟩ (.int .u64 (T+v.bal))).drewN n2).setCell ⟨b,3,none⟩ (.int .u64 (A+v.bal))=W2 at*;exact Zht
theorem bU (b m cap:Nat)(s:Zk)(c:Int->Int)(A T:Int)(v:ZN)(w:Zc)(h:JJ w b m s cap c A T)(hv:Yh v)(hl:VX v.st=false)
  (fC:0<=T) (hT:T+v.bal<=18446744073709551615) (OV:0<=c v.st) (M9:c v.st<=4096) :
  Dg Zb 214 #[.pointer (some ⟨b,0,none⟩),.agg (Zd v)] w fun e w'=>e= .returned (.tuple #[])/\JJ w' b m s cap (Oa c v.st (c v.st+1)) A (T+v.bal)/\Zx (fun i=>i=b\/i=m) w w':=by
 have HL:Zl (∀w,YV 103 #[.int .i64 v.st] w (.bool false)):=Za (fun w=>by have:=Lh v.st w; rwa [hl] at this);have hK:Zx (fun i=>i=b\/i=m) w (w.alloc (.cells (Zd v) 68)):=(Zx.refl _ w).alloc _;have hE:Zu (w.alloc (.cells (Zd v) 68)) w.heap.size 68 (Zd v):=Zt _ _ _;have Ka: ¬w.heap.size=b:=by have:=h.1.lt; omega
 have HB:=Za (h.alloc (.cells (Zd v) 68));have x0:(w.alloc (.cells (Zd v) 68)).cell? ⟨w.heap.size,0,none⟩=some (.int .u64 v.bal):=hE.cell 0;have x1:(w.alloc (.cells (Zd v) 68)).cell? ⟨w.heap.size,1,none⟩=some (.int .i64 v.st):=hE.cell 1;obtain ⟨-,-,c2,c3,c4⟩:=HB.o.cells;have f3:=HB.o.1.frozen 3;have f4:=HB.o.1.frozen 4;have v0:=hv.bal.1;have HE:=Za hE;have HK:=Za hK;have HW:=Za hv.2;obtain ⟨cs,EY⟩:=ZT (c v.st);rw [EY] at OV M9 ⊢;have HCS:=Za EY;obtain ⟨n0,Hi⟩:=ZT (w.heap.size);have jR: ¬n0=b:=by rw [<-Hi]; exact Ka
 clear Ka;clear h hE hK hv hl EY;refine Zhi ?_;go_wp2;generalize w.alloc (.cells (Zd v) 68)=W at*;rw [Hi] at*;refine GL 9 ?_;refine GM ?_
 repeat (go_big_quiet_step (fail))
 refine XK ?_;intro _ Jq;obtain ⟨n1,Y9⟩:=Jq;subst Y9;go_wp2_with fail;refine (HL.o _).mono ?_;rintro e w2 ⟨rfl,rfl⟩;go_wp2_with fail;have HR:=Za ((HB.o.drewN n1).total (T+v.bal));have Pz:Zl (Zx (fun i=>i=b\/i=m) w ((W.drewN n1).setCell ⟨b,4,none⟩ (.int .u64 (T+v.bal)))):=Za ((HK.o.drewN n1).setCell (.inl (.inl rfl)) _);have y1:((W.drewN n1).setCell ⟨b,4,none⟩ (.int .u64 (T+v.bal))).cell? ⟨n0,1,none⟩=some (.int .i64 v.st):=(Zu.far (Xq HE.o n1) jR _).cell 1;generalize (W.drewN n1).setCell ⟨b,4,none⟩ (.int .u64 (T+v.bal))=W2 at*;exact Zht
theorem PN (b m cap:Nat)(s:Zk)(c:Int->Int)(A T:Int)(v:ZN)(w:Zc)(h:JJ w b m s cap c A T)(hv:Yh v)
  (Rn:0<=A) (hA:A<=T) (hT:T+v.bal<=18446744073709551615) (OV:0<=c v.st) (M9:c v.st<=4096) :
  Dg Zb 214 #[.pointer (some ⟨b,0,none⟩),.agg (Zd v)] w fun e w'=>e= .returned (.tuple #[])/\JJ w' b m s cap (Oa c v.st (c v.st+1)) (A+XB v) (T+v.bal)/\Zx (fun i=>i=b\/i=m) w w':=by
 have v0:=hv.bal.1
 cases hl:VX v.st with
 | true=>
  have e:XB v=v.bal:=by simp [XB,hl]
  rw [e];exact bV b m cap s c A T v w h hv hl Rn Zf Zf hT OV M9
 | false=>
  have e:A+XB v=A:=by simp [XB,hl]
  rw [e];exact bU b m cap s c A T v w h hv hl Zf hT OV M9
end
end Go.Proofs.YtobgbcdgffgdhaaGreat
