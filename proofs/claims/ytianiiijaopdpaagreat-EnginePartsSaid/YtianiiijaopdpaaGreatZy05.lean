/- Part 5 of 29: First Build Structs L16Val L07Base L07Get Table WrapF L05Tab L05Next L03Open L06Base L06Book L07Sums. -/
import Derived.Test.YtianiiijaopdpaaGreatZy00
import Derived.Test.YtianiiijaopdpaaGreatZy03
import Derived.ChangeAt
import Derived.Deep.Fields
import Derived.Deep.RegionHeld3
import Derived.Deep.WholeRow
namespace Go.Proofs.YtianiiijaopdpaaGreat
set_option linter.unusedVariables false
set_option linter.unusedSimpArgs false
set_option maxRecDepth 100000
set_option maxHeartbeats 8000000
open _root_.Array renaming all_eq_true_iff_forall_mem → ZT, getElem?_eq_none → VN, getElem?_eq_some_iff → Yu, replicate → Qv
open _root_.Go.RowKit renaming Below → Zs
open _root_.Go.RowKit.Below renaming refl → Zp
open _root_.Go.Proofs.YtianiiijaopdpaaGreat.Blk renaming alloc → YA, cell → Yg, drewN → Xy, frozen → KG, new → Zv, set_ → Vy
open _root_.Bool renaming and_eq_true → YZ
open _root_.Go renaming Calls → Zj, NoPanic → QE, Operand → Yz, Program → YO, TypeId → ZN, TypeInfo → VA, Value → Zl, World → Zc, bodyPost_ret → ZL, execOp → Xn, getD_replicate_false → Uy, heap_alloc_new → ZG, mem_ready → VF, ready_mono → UD, run_part_plain → Qj, run_underlying → Y9, typeInfo → Vl, wpList → YY, wpList_load_mid → Jt, wpList_store_row → Zo, wpQuiet → ZW, zeroValue → Kj
open _root_.Go.Instr renaming buildSlice → Xc, fill → Uo, lookup → J5, mapUpdate → Gr
open _root_.Go.Lib renaming hid → Za
open _root_.List renaming all_eq_true → QG, cons_append → Yh, flatMap_cons → Jf, getElem?_eq_getElem → Zf, getElem?_eq_some_iff → Zi, length_cons → Yp, map_cons → Y2, map_nil → J6, map_toArray → Q3, mem_cons → ZY, mem_map → Yk, mem_of_getElem? → ZB, mem_range → QV, not_mem_nil → Yf, range → Xm
open _root_.Go.Lit renaming int → Xg
open _root_.Go.MapKept renaming run_getObj_map → Qr
open _root_.Nat renaming le_refl → Zg, lt_or_ge → Ys, zero_add → ZX
open _root_.Go.Op renaming eqFields → Vf
open _root_.Go.Oper renaming wp → Jj
open _root_.Option.some renaming inj → ZS
open _root_.Go.Region renaming Mode → Kd, binds → Xp, chainB → Vp, noSelect → Qh, ready → Yw, seqB → Vg, sinkB → Vh, wanted → YQ
open _root_.Go.Result renaming andThen → Xe, andThen_ok → ZQ
open _root_.Go.Sem renaming run_bind → Yi, run_pure → YC
open _root_.Go.Proofs.Tryz renaming prog → Zb, underlying143 → J1, underlying180 → GH, underlying22 → Xz, underlying3 → Yc, underlying63 → Zr
open _root_.Go.World renaming setRow_alloc_new → Zu
theorem Io {G:Prop}(h:G:=by rw [hf]; exact h) :G:=h
theorem LF {G:Prop}(h:G:=by simp [hj]) :G:=h
theorem gn {G:Prop}(h:G:=by have:=(List.getElem?_eq_some_iff.1 hi).1; omega) :G:=h
theorem Bj {G:Prop}(h:G:=by simp [hx]) :G:=h
theorem LC {G:Prop}(h:G:=by simp [Program.plainKey,hk]) :G:=h
theorem Qe {G H:Prop} (k:H) (h:BZ H→G:=by
  intro zk;simp only [qB];exact zk.out) :G:=h ⟨k⟩
theorem Kg {G H:Prop} (k:H) (h:BZ H→G:=by
  intro zk;simp only [qF,qH];exact zk.out) :G:=h ⟨k⟩
theorem Dg {G H:Prop} (k:H) (h:BZ H→G:=by
  intro zk;simp only [Act.put,qG,qS];exact zk.out) :G:=h ⟨k⟩
theorem LY {G H:Prop} (k:H) (h:BZ H→G:=by
  intro zk;simp only [qA];exact zk.out) :G:=h ⟨k⟩
theorem GN {G H:Prop} (k:H) (h:BZ H→G:=by
  intro zk;iterate 1 (go_big_quiet_step ((intros; rfl)))
  exact zk.out) :G:=h ⟨k⟩
theorem BN {G H:Prop} (k:H) (h:BZ H→G:=by
  intro zk;iterate 4 (go_big_quiet_step ((intros; rfl)))
  exact zk.out) :G:=h ⟨k⟩
theorem BL {G H:Prop} (k:H) (h:BZ H→G:=by
  intro zk;iterate 2 (go_big_quiet_step ((intros; rfl)))
  exact zk.out) :G:=h ⟨k⟩
theorem Bn {G H:Prop} (k:H) (h:BZ H→G:=by
  intro zk;show Region.seqB _ _ _ _ _=true∧_;exact zk.out) :G:=h ⟨k⟩
theorem Ma {G H:Prop} (k:H) (h:BZ H→G:=by
  intro zk;show wpQuiet _ _ _ _ [_,_,_,_] _;exact zk.out) :G:=h ⟨k⟩
theorem GM {G H:Prop} (k:H) (h:BZ H→G:=by
  intro zk;refine NoPanic.normal ?_;exact zk.out) :G:=h ⟨k⟩
theorem NX {G H:Prop} (k:H) (h:BZ H→G:=by
  intro zk;show wpQuiet _ _ _ _ [_,_,_,_,_] _;exact zk.out) :G:=h ⟨k⟩
theorem gK {G H:Prop} (k:H) (h:BZ H→G:=by
  intro zk;show wpQuiet _ _ _ _ [_,_,_,_,_,_,_,_,_,_] _;exact zk.out) :G:=h ⟨k⟩
theorem Zfr {G H:Prop} (k:H) (h:BZ H→G:=by
  intro zk;refine headF_takes (fun w'=>w'.cell? ⟨wr.heap.size,1,none⟩=some (.int .u64 x)∧w'.cell? ⟨w.heap.size,s,none⟩=some (.int .u64 y)) (m:=11) (f:=6) [0,1,2,3,4] (fun _ _=>trivial) Ye ⟨x1,y1⟩ ?_;exact zk.out) :G:=h ⟨k⟩
theorem Zft {G H:Prop} (k:H) (h:BZ H→G:=by
  intro zk;iterate 6 (go_big_quiet_step (fail))
  refine iQ _ _ rfl rfl (fun w h=>by obtain ⟨n,rfl⟩:=h; exact HR.out.2.drewN n) Tryz.underlying3 Tryz.underlying185 zero_int v.st rfl rfl HW.out ?_;rw [zX.out];exact zk.out) :G:=h ⟨k⟩
theorem EE {G H:Prop} (k:H) (h:BZ H→G:=by
  intro zk;refine hfO (i:=5) ?_;exact zk.out) :G:=h ⟨k⟩
theorem Zfu {G H:Prop} (k:H) (h:BZ H→G:=by
  intro zk;refine hfT (fun w'=>w'.cell? ⟨wr.heap.size,1,none⟩=some (.int .u64 x)∧w'.cell? ⟨w.heap.size,s,none⟩=some (.int .u64 y)) (m:=4) (f:=0) [7,8,9,10] ⟨x2,y2⟩ ?_;exact zk.out) :G:=h ⟨k⟩
theorem Mb {G H:Prop} (k:H) (h:BZ H→G:=by
  intro zk;refine hfO (i:=6) ?_;exact zk.out) :G:=h ⟨k⟩
theorem ZfF {G:Prop} (h:G:=by
  clear x0 x1 c2 c3 c4 f3 f4 HB HK HE W;obtain ⟨-,-,c2,-,-⟩:=HR.out.cells;refine wqT 8 ?_;refine BA ?_;refine Zft ?_;refine Qe ?_
  repeat (go_big_quiet_step (fail))
  refine Qc ?_;intro _ JB;obtain ⟨n3,Xh⟩:=JB;subst Xh;refine NR rfl _ _ _ rfl (HR.out.2.drewN n3) Tryz.underlying3 Tryz.underlying185 v.st (cs+1) rfl rfl rfl HW.out ?_;intro W3 kO hg3;have HZ:=Lib.hid (And.intro ((HR.out.drewN n3).counted kO hg3) ((M4.out.drewN n3).trans (Kept.of_grown (S:=fun i=>i=m) hg3 (fun i hi=>by injection hi)) (fun i _ e=> .inr e)));clear kO hg3;go_wp2;go_end0;exact ⟨rfl,HZ.out⟩) :G:=h
theorem sE {G:Prop} (h:G:=by
  unfold wpQuiet;rw [if_pos hw];refine ⟨_,fun w hc=>?_,h⟩;unfold Oper.quietAt execOp;simp only [ho,hx,Instr.loadAt,Instr.sureAddr,Sem.run_bind,Sem.run_pure,Result.andThen_ok,run_loadVar_mid w b o ty v.row d (hC w hc) hu hd hi];exact ⟨rfl,rfl⟩) :G:=h
theorem Zf6 {G:Prop} (h:G:=by
  intro j v hv;have hj:j < 3:=(List.getElem?_eq_some_iff.1 hv).1;rw [Nat.zero_add,Blk.cell h j];obtain rfl | rfl | rfl:j=0∨j=1∨j=2:=by omega
  all_goals exact hv) :G:=h
theorem Zcy {G:Prop} (h:G:=by
  rcases h.2 with ⟨rfl,rfl⟩ | ⟨g,cp,cur,rfl,_,_,h1,h2,_⟩
  ·exact ⟨none,0,rfl,by omega,by unfold maxLen; omega⟩
  ·exact ⟨_,cp,rfl,h1,h2⟩) :G:=h
theorem ZcF {G:Prop} (h:G:=by
  refine ⟨h.1,h.2.imp id ?_⟩;rintro ⟨g,cp,cur,rfl,h1,h2,h3⟩;exact ⟨g,cp,cur,rfl,h1,(hb g rfl).trans h2,h3⟩) :G:=h
theorem zJ {G:Prop} (h:G:=by
  simp [asAddr,run_loadVar_row w g t ty cs fr d hg hu hd hi,Result.andThen]) :G:=h
theorem zQ {G:Prop} (h:G:=by
  go_enter Tryz.func276,Tryz.ntmps276;go_wp2;go_ret;exact ⟨rfl,rfl⟩) :G:=h
theorem sd {G:Prop} (h:G:=by
  go_enter Tryz.func275,Tryz.ntmps275;go_wp2;go_ret;exact ⟨rfl,rfl⟩) :G:=h
theorem sn {G:Prop} (h:G:=by
  rintro e w' ⟨rfl,rfl⟩;go_wp2;go_ret;exact ⟨rfl,rfl⟩) :G:=h
theorem sC {G:Prop} (h:G:=by
  exact (List.getElem?_eq_some_iff.1 hu).1) :G:=h
section
open Go Go.RowKit
def Rd (o:Oper) :Bool:=
 match o.op with
 | .move _ | .assign _ | .build .. | .load .. | .nilCheck _ | .binOp .. | .unOp .. | .convert .. | .slice .. | .fieldAddr .. | .field .. | .indexAddr .. | .index .. | .extract .. | .pick .. =>true
 | .call { callee:= .builtin .len,..} | .call { callee:= .builtin .cap,..} | .call { callee:= .builtin .min,..} | .call { callee:= .builtin .max,..}=>true
 | _=>false
section
variable {P:YO} {ops:Array Oper} {Q:Exit→Act→Zc→Prop} {md:Kd} {S:Zc→Prop}
def Dp (P:YO)(m:Sem Next) :Prop:= ∀w n w',m.run P w= .ok n w'→ ∃v,n= .value v
theorem Ef (v:Zl) :Dp P (pure (.value v)):=fun w n w' h=>by
 rw [YC] at h;injection h with h _;exact ⟨v,h.symm⟩
theorem NM {α:Type}{m:Sem α}{k:α→Sem Next}(h: ∀x,Dp P (k x)) :Dp P (m>>=k):=fun w n w' hr=>by
 rw [Yi] at hr
 cases hm:m.run P w with
 | ok x w1=>rw [hm,ZQ] at hr; exact h x _ _ _ hr
 | halt x w1=>rw [hm] at hr; cases hr
theorem NN:Dp P (runtimePanic (.nilDeref:RuntimeError)):=fun w n w' h=>by simp [runtimePanic,goPanic] at h
theorem xy {r:Result Zl}{n:Next}{w':Zc}(h:(r.andThen fun a w1=> .ok (Next.value a) w1)= .ok n w') : ∃v,n= .value v:=by
 cases r with
 | ok x w1=>rw [ZQ] at h; injection h with h _; exact ⟨x,h.symm⟩
 | halt x w1=>cases h
theorem CM {o:Oper}(hp:Rd o=true)(ρ:Yz→Zl) :Dp P (Xn ρ o):=by
 unfold Xn;unfold Rd at hp
 cases ho:o.op <;> rw [ho] at hp <;> try (cases hp; done)
 case nilCheck x=>
  dsimp only
  split
  ·exact NN
  ·exact NN
  ·exact NN
  ·split
   ·exact NN
   ·exact NM fun _=>NM fun _=>by
     split
     ·exact NM fun _=>Ef _
     ·exact Ef _
   ·exact Ef _
  ·exact Ef _
 case move=>exact Ef _
 case assign=>exact Ef _
 case pick=>exact NM fun _=>Ef _
 case call c=>
  obtain ⟨cal,args,ui⟩:=c
  cases cal with
  | builtin b=>
   cases b <;> try (cases hp; done)
   all_goals
    intro w n w' h;simp only [resolve,Yi,YC,ZQ,invoke,builtin] at h;exact xy h
  | invoke=>cases hp
  | value=>cases hp
 all_goals exact NM fun _=>Ef _
def XZ (P:YO)(md:Kd)(ops:Array Oper)(Q:Exit→Act→Zc→Prop)(S:Zc→Prop)(n:Nat)(L:Array Bool→Act→Zc→Prop) :Nat→Array Bool→Act→Zc→Prop
 | 0,Zt,a,w=>L Zt a w
 | f+1,Zt,a,w=>
  Yw md ops Zt≠ []∧ ∀i ∈ Yw md ops Zt,i < n∧wpOp P ops Q i (fun a' w'=>S w'∧XZ P md ops Q S n L f (Zt.setIfInBounds i true) a' w') a w
theorem DI {n g:Nat}{L:Array Bool→Act→Zc→Prop}(hL: ∀Zt a w,L Zt a w→wpAny P md ops Q g Zt a w) :
  ∀(f:Nat) (Zt:Array Bool) (a:Act) (w:Zc),XZ P md ops Q S n L f Zt a w→wpAny P md ops Q (f+g) Zt a w
 | 0,Zt,a,w,h=>by rw [ZX]; exact hL _ _ _ h
 | f+1,Zt,a,w,h=>by
  rw [show f+1+g=(f+g)+1 by omega];exact ⟨fun h0=>absurd h0 h.1,fun i hi=>wpOp_mono (fun a' w' h'=>DI hL f _ a' w' h'.2) (h.2 i hi).2⟩
theorem Wr {n i:Nat}{oi:Oper}{v:Zl}{L:Array Bool→Act→Zc→Prop}(hi:ops[i]?=some oi)(Bv: ∀(j:Nat) (o:Oper) cs b,ops[j]?=some o→o.op≠ .select cs b)
  (hs:Vh md ops n=true) (hc:Vp md ops n=true) (hn:n < ops.size) (WU:i < n)
  (hQ: ∀c a w,Q (.panic c) (a.put oi.dst v) w→Q (.panic c) a w)
  (ET: ∀Zt a w,L Zt a w→ ∀j ∈ Yw md ops Zt,n≤j) :
  ∀(f:Nat) (Zt:Array Bool) (a:Act) (w:Zc),HeadInv md ops n Zt→
   (∀j oj,ops[j]?=some oj→j≠i→Zt.getD j true=false→(∀e ∈ oj.after,Xp md e=true→e.on≠i)→oi.apart ops oj=true)→
   i ∈ Yw md ops Zt→YieldsIf P ops S oi v a→S w→
   XZ P md ops Q S n L f (Zt.setIfInBounds i true) (a.put oi.dst v) w→XZ P md ops Q S n L (f+1) Zt a w:=by
 intro f
 induction f with
 | zero=>
  intro Zt a w inv _ hr hy hS H;have P9:=(VF.1 hr).1;refine ⟨fun h=>OO,fun j hj=>?_⟩;have Dj:j < n:=by
   rcases Ys j n with h | h
   ·exact h
   ·exact absurd hj (tail_waits hs hc hn inv _ i rfl WU P9 j h)
  refine ⟨Dj,?_⟩
  by_cases Mj:j=i
  ·subst Mj; exact hy.wpOp hi hS ⟨hS,H⟩
  ·have:=ET _ _ _ H j (UD hj Mj);omega
 | succ f ih=>
  intro Zt a w inv Mg hr hy hS H;have P9:=(VF.1 hr).1;refine ⟨fun h=>OO,fun j hj=>?_⟩;have Dj:j < n:=by
   rcases Ys j n with h | h
   ·exact h
   ·exact absurd hj (tail_waits hs hc hn inv _ i rfl WU P9 j h)
  refine ⟨Dj,?_⟩
  by_cases Mj:j=i
  ·subst Mj; exact hy.wpOp hi hS ⟨hS,H⟩
  ·have h1:=(H.2 j (UD hj Mj)).2;obtain ⟨aJ,oj,pA,Du⟩:=VF.1 hj;have FA: ∀e ∈ oj.after,Xp md e=true→e.on≠i:=fun e he hb heq=>by
    have h1:=Du e he hb;rw [heq,getD_both P9] at h1
    cases h1
   have h2:=wpOp_putIf pA (Mg j oj pA Mj aJ FA) (fun cs b=>Bv i oi cs b hi) (fun cs b=>Bv j oj cs b pA) hQ hy h1;have Si: ∀k ok,ops[k]?=some ok→k≠i→(Zt.setIfInBounds j true).getD k true=false→
     (∀e ∈ ok.after,Xp md e=true→e.on≠i)→oi.apart ops ok=true:=fun k ok hk mR P9 pz=>by
    refine Mg k ok hk mR ?_ pz
    by_cases EU:j=k
    ·subst EU; exact aJ
    ·rw [getD_set_ne true EU] at P9; exact P9
   refine wpOp_mono (fun a' w' h3=>⟨h3.2.1,ih (Zt.setIfInBounds j true) a' w' (inv.set hj Dj) Si (UD hr (Ne.symm Mj)) h3.1 h3.2.1 ?_⟩) h2;rw [Array.setIfInBounds_comm _ _ Mj];exact h3.2.2
def Fe (md:Kd)(ops:Array Oper)(n:Nat) :List Nat→Array Bool→Bool
 | [],_=>true
 | k::ks,Zt=>decide (k < n)&&(match ops[k]? with | some o=>Rd o | none=>false)&&(Yw md ops Zt).contains k&&Region.free md ops Zt k&&Fe md ops n ks (Zt.setIfInBounds k true)
def US:List Nat→Array Bool→Array Bool
 | [],Zt=>Zt
 | k::ks,Zt=>US ks (Zt.setIfInBounds k true)
theorem Ei {o:Oper}{a:Act}{K:Act→Prop}{i:Nat}(hi:ops[i]?=some o)(hp:Rd o=true)(h:qOp P ops S i K a) : ∃v,YieldsIf P ops S o v a∧K (a.put o.dst v):=by
 obtain ⟨v,hy,hk⟩:=yieldsIn_of_qOp hi h;refine ⟨v,?_,hk⟩
 rcases hy with ⟨hw,hv⟩ | ⟨hw,hv⟩
 ·refine .inl ⟨hw,fun w hS=>?_⟩;have h3:=hv w hS;have hpv:=CM (P:=P) hp a.eval w;unfold Oper.quietAt at h3;generalize (Xn a.eval o).run P w=r at*
  cases r with
  | ok x w'=>
   obtain ⟨u,rfl⟩:=hpv x w' rfl;simp only [Oper.quietUpon] at h3;rw [h3.1,h3.2]
  | halt x w'=>simp only [Oper.quietUpon] at h3
 ·exact .inr ⟨hw,hv⟩
theorem EA {n:Nat}{L:Array Bool→Act→Zc→Prop}{w:Zc}(Bv:Qh ops=true)
  (hs:Vh md ops n=true) (hc:Vp md ops n=true) (hn:n < ops.size) (hQ: ∀c a w,Q (.panic c) a w→False)
  (ET: ∀Zt a w,L Zt a w→ ∀j ∈ Yw md ops Zt,n≤j) (hS:S w) (f:Nat) :
  ∀(ks:List Nat) (Zt:Array Bool) (a:Act),HeadInv md ops n Zt→Fe md ops n ks Zt=true→
   ZW P ops S (fun a'=>XZ P md ops Q S n L f (US ks Zt) a' w) (ks.filterMap fun k=>ops[k]?) a→XZ P md ops Q S n L (f+ks.length) Zt a w
 | [],Zt,a,_,_,h=>h
 | k::ks,Zt,a,inv,hB,h=>by
  simp only [Fe,YZ,decide_eq_true_eq] at hB;obtain ⟨⟨⟨⟨DX,hp⟩,hr⟩,hf⟩,hB'⟩:=hB
  cases ho:ops[k]? with
  | none=>rw [ho] at hp; cases hp
  | some o=>
   rw [ho] at hp;rw [List.filterMap_cons_some ho] at h;have pF:k ∈ Yw md ops Zt:=by simpa using hr
   have hq:qOp P ops S k (ZW P ops S (fun a'=>XZ P md ops Q S n L f (US ks (Zt.setIfInBounds k true)) a' w) (ks.filterMap fun k=>ops[k]?)) a:=by unfold qOp; simp only [ho]; exact h
   obtain ⟨v,hy,hK⟩:=Ei ho hp hq;exact Wr ho (Region.noSelect_spec Bv) hs hc hn DX (fun c a w h=>(hQ _ _ _ h).elim) ET (f+ks.length) Zt a w inv (Region.free_spec ho hf) pF hy hS
    (EA Bv hs hc hn hQ ET hS f ks _ _ (inv.set pF DX) hB' hK)
theorem PT {P:YO}{id:Nat}{Q:Exit→Act→Zc→Prop}{a:Act}{w:Zc}{l:List Oper}(S:Zc→Prop)(n f:Nat)(ks:List Nat)(hm:P.follows .mixedOrders=true)
  (hB:(Qh l.toArray&&decide (n < l.toArray.size)&&Vh .any l.toArray n&&Vp .any l.toArray n&&Fe .any l.toArray n ks (Qv l.toArray.size false)&&decide (f+ks.length=n))=true)
  (hS:S w.drew)
  (h:ZW P l.toArray S (fun a'=>XZ P .any l.toArray (QE Q) S n (fun Zt a' w'=>Vg .any l.toArray (l.toArray.size - n) n Zt=true∧YY P l.toArray (QE Q) (l.drop n) a' w') f (US ks (Qv l.toArray.size false)) a' w.drew) (ks.filterMap fun k=>l.toArray[k]?) a) :
  (Code.region id l.toArray true).wp P Q a w:=by
 simp only [YZ,decide_eq_true_eq] at hB;obtain ⟨⟨⟨⟨⟨Bv,hn⟩,hs⟩,hc⟩,ht⟩,hf⟩:=hB;refine wp_region_noPanic (wp_region_any hm ?_);have hdl:(l.drop n).length=l.toArray.size - n:=by simp
 have inv0:HeadInv .any l.toArray n (Qv l.toArray.size false):=
  ⟨by simp,fun j oj _ hl=>(by rw [Uy] at hl; cases hl),fun t _ ht=>getD_in (by simpa using ht) (Uy _ _)⟩
 have H:=EA (Q:=QE Q) Bv hs hc hn (fun _ _ _ h=>h) (fun Zt a w hL=>seqB_ready hL.1) hS f ks _ a inv0 ht h;have:=DI (Q:=QE Q) (g:=l.toArray.size - n) (fun Zt a' w' hL=>by
  have:=wpAny_of_seq (md:= .any) (Q':=QE Q) (l.drop n) n Zt a' w' (fun j=>by simp [List.getElem?_drop]) (by rw [hdl]; exact hL.1) hL.2;rwa [hdl] at this) _ _ _ _ H
 rw [hf,show n+(l.toArray.size - n)=l.toArray.size by omega] at this;exact this
theorem FO {S':Zc→Prop}(hS: ∀w,S' w→S w){n:Nat}{L:Array Bool→Act→Zc→Prop} : ∀(f:Nat) (Zt:Array Bool) (a:Act) (w:Zc),XZ P md ops Q S' n L f Zt a w→XZ P md ops Q S n L f Zt a w
 | 0,_,_,_,h=>h
 | f+1,_,_,_,h=>⟨h.1,fun i hi=>⟨(h.2 i hi).1,wpOp_mono (fun a' w' h'=>⟨hS _ h'.1,FO hS f _ a' w' h'.2⟩) (h.2 i hi).2⟩⟩
def Nl (md:Kd)(ops:Array Oper)(n:Nat)(Zt:Array Bool) :Bool:=
 Nat.beq Zt.size ops.size&&((Xm ops.size).all fun j=>!(Zt.getD j false)||(match ops[j]? with | some o=>o.after.toList.all fun e=>!(Xp md e)||Zt.getD e.on false | none=>true))&&
  ((Xm ops.size).all fun t=>Nat.blt t n||!(Zt.getD t true))
theorem ea {n:Nat}{Zt:Array Bool}(h:Nl md ops n Zt=true) :HeadInv md ops n Zt:=by
 simp only [Nl,YZ,QG,QV,Bool.or_eq_true,Bool.not_eq_true'] at h;obtain ⟨⟨h1,h2⟩,h3⟩:=h;refine ⟨Nat.eq_of_beq_eq_true h1,fun j oj hj hl e he hb=>?_,fun t ht iE=>?_⟩
 ·have DW:j < ops.size:=(Yu.1 hj).1
  rcases h2 j DW with h | h
  ·rw [hl] at h; cases h
  ·rw [hj] at h;simp only [QG,Bool.or_eq_true,Bool.not_eq_true'] at h
   rcases h e (by simpa using he) with h | h
   ·rw [hb] at h; cases h
   ·exact h
 ·rcases h3 t iE with h | h
  ·have:t < n:=by simpa using h
   omega
  ·exact h
theorem headF_takes {n f m:Nat}{l:List Oper}{Q:Exit→Act→Zc→Prop}{a:Act}{w:Zc}{Zt:Array Bool}(S':Zc→Prop)(ks:List Nat)(sR: ∀w,S' w→S w)
  (hB:(Qh l.toArray&&decide (n < l.toArray.size)&&Vh .any l.toArray n&&Vp .any l.toArray n&&Nl .any l.toArray n Zt&&Fe .any l.toArray n ks Zt&&decide (f+ks.length=m))=true) (hS:S' w)
  (h:ZW P l.toArray S' (fun a'=>XZ P .any l.toArray (QE Q) S' n (fun Zt a' w'=>Vg .any l.toArray (l.toArray.size - n) n Zt=true∧YY P l.toArray (QE Q) (l.drop n) a' w') f (US ks Zt) a' w) (ks.filterMap fun k=>l.toArray[k]?) a) :
  XZ P .any l.toArray (QE Q) S n (fun Zt a' w'=>Vg .any l.toArray (l.toArray.size - n) n Zt=true∧YY P l.toArray (QE Q) (l.drop n) a' w') m Zt a w:=by
 simp only [YZ,decide_eq_true_eq] at hB;obtain ⟨⟨⟨⟨⟨⟨Bv,hn⟩,hs⟩,hc⟩,hi⟩,ht⟩,hf⟩:=hB;refine FO sR m Zt a w ?_;rw [←hf];exact EA (Q:=QE Q) Bv hs hc hn (fun _ _ _ h=>h) (fun Zt a w hL=>seqB_ready hL.1) hS f ks _ a (ea hi) ht h
theorem Di {n f i:Nat}{L:Array Bool→Act→Zc→Prop}{Zt:Array Bool}{a:Act}{w:Zc}(hr:Yw md ops Zt=[i])(hi:i < n)
  (h:wpOp P ops Q i (fun a' w'=>S w'∧XZ P md ops Q S n L f (Zt.setIfInBounds i true) a' w') a w) :XZ P md ops Q S n L (f+1) Zt a w:=by
 refine ⟨by rw [hr]; simp,fun j hj=>?_⟩;rw [hr] at hj;obtain rfl:j=i:=by simpa using hj
 exact ⟨hi,h⟩
theorem UQ {n f i k:Nat}{L:Array Bool→Act→Zc→Prop}{Zt:Array Bool}{a:Act}{w:Zc}(hr:Yw md ops Zt=[i,k])(hi:i < n)(hk:k < n)
  (h1:wpOp P ops Q i (fun a' w'=>S w'∧XZ P md ops Q S n L f (Zt.setIfInBounds i true) a' w') a w)
  (h2:wpOp P ops Q k (fun a' w'=>S w'∧XZ P md ops Q S n L f (Zt.setIfInBounds k true) a' w') a w) :XZ P md ops Q S n L (f+1) Zt a w:=by
 refine ⟨by rw [hr]; simp,fun j hj=>?_⟩;rw [hr] at hj
 rcases (by simpa using hj:j=i∨j=k) with rfl | rfl
 ·exact ⟨hi,h1⟩
 ·exact ⟨hk,h2⟩
theorem YD {i:Nat}{o:Oper}{K:Act→Zc→Prop}{a:Act}{w:Zc}(ho:ops[i]?=some o)(hg:o.guard=none)(h:o.wp P a w K Q) :wpOp P ops Q i K a w:=by
 unfold wpOp;rw [ho];simp only [YQ,hg,if_true];exact .inl h
theorem cL {i:Nat}{o:Oper}{K:Act→Zc→Prop}{a:Act}{w:Zc}(ho:ops[i]?=some o)(hg:YQ o (yielded ops a.tmps)=true)(h:o.wp P a w K Q) :wpOp P ops Q i K a w:=by
 unfold wpOp;rw [ho];simp only [hg,if_true];exact .inl h
theorem YJ {Qa:Act→Prop}{a:Act}{o:Oper}{rest:List Oper}(ty:ZN)(x:Yz)(p:Addr)(v:Zl)(hw:YQ o (yielded ops a.tmps)=true)(ho:o.op= .load ty x)(hx:a.eval x= .pointer (some p))
  (hl: ∀w,w.cell? p=some v→(Instr.loadAt ty (.pointer (some p))).run P w= .ok v w) (hS: ∀w,S w→w.cell? p=some v) (h:ZW P ops S Qa rest (a.put o.dst v)) :ZW P ops S Qa (o::rest) a:=by
 refine CO v hw (fun w hc=>?_) h;unfold Xn;simp only [ho,hx,Yi,YC,ZQ,hl w (hS w hc)]
end
section
variable {P:YO}
theorem MN (w:Zc)(T e:ZN)(i:VA)(z v:Zl)(ht:P.underlying T=some (.slice e))(hi:P.info? e=some i)(hz:i.zero=some z)(hs:i.size=1)(BG:z.cells.size=1)(h1:v.cells= #[v]) :
  (Xc T 1 #[(0,v)]).run P w= .ok (.slice (some ⟨w.heap.size,0,none⟩) 1 1) (w.alloc (.cells #[v] e)):=by
 simp [Xc,Y9 ht,sizeOf,Vl,hi,hs,Kj,hz,Uo,newRow,h1,BG];simp [go_sem]
theorem Bh {o:Oper}{a:Act}{w:Zc}{K:Act→Zc→Prop}{Q:Exit→Act→Zc→Prop}(T e:ZN)(i:VA)(x:Yz)(z v:Zl)(ho:o.op= .buildSlice T 1 #[(0,x)])(hx:a.eval x=v)(ht:P.underlying T=some (.slice e))(hi:P.info? e=some i)(hz:i.zero=some z)(hs:i.size=1)(BG:z.cells.size=1)(h1:v.cells= #[v])
  (h:K (a.put o.dst (.slice (some ⟨w.heap.size,0,none⟩) 1 1)) (w.alloc (.cells #[v] e))) :o.wp P a w K Q:=by
 unfold Jj Xn;simp only [ho,Q3,Y2,J6,hx,Yi,MN w T e i z v ht hi hz hs BG h1,ZQ,YC];exact h
theorem TF {o:Oper}{a:Act}{w:Zc}{K:Act→Zc→Prop}{Q:Exit→Act→Zc→Prop}{f:FuncId}{xs:Array Yz}{ui:Array ZN}(ho:o.op= .call { callee:= .value (.func f),args:=xs,argTypes:=ui})(vs:Array Zl)
  (hvs: #[]++xs.map a.eval++ #[]=vs) (BX: ∀args w,(callFunc f args).run P w= .ok (.enter f args) w) (hC:Zj P f vs w fun e w'=> ∃v,e= .returned v∧K (a.put o.dst v) w') :o.wp P a w K Q:=by
 obtain ⟨dst,op,ty,pos,after,guard⟩:=o
 dsimp only at ho hC
 subst ho;unfold Jj;have e:Xn a.eval { dst,op:= .call { callee:= .value (.func f),args:=xs,argTypes:=ui},type:=ty,pos,after,guard}=callFunc f (#[]++xs.map a.eval++ #[]):=rfl;rw [e,BX,hvs];exact hC.mono fun e w' ⟨v,he,hk⟩=>by subst he; exact hk
end
end
section
open Go Go.RowKit
theorem ZF {w:Zc}{p:Addr}{v:Zl}(o:Obj)(h:w.cell? p=some v) :(w.alloc o).cell? p=some v:=by
 have:=(Zp w.heap.size w).alloc (Zg _) o;exact (this.cell (cell_lt h)).trans h
section
variable {P:YO}
theorem Ns {t:ZN}{z:Zl}{n:Nat}(h:(P.info? t).map (fun i=>(i.zero,i.size))=some (some z,n)) : ∃i,P.info? t=some i∧i.zero=some z∧i.size=n:=by
 cases hi:P.info? t with
 | none=>rw [hi] at h; cases h
 | some i=>
  rw [hi] at h;simp at h;exact ⟨i,rfl,h.1,h.2⟩
theorem MO (w:Zc)(T e:ZN)(i:VA)(z q v u:Zl)(ht:P.underlying T=some (.slice e))(hi:P.info? e=some i)(hz:i.zero=some z)(hs:i.size=1)(BG:z.cells= #[q])(h1:v.cells= #[v])(h2:u.cells= #[u]) :
  (Xc T 2 #[(0,v),(1,u)]).run P w= .ok (.slice (some ⟨w.heap.size,0,none⟩) 2 2) (w.alloc (.cells #[v,u] e)):=by
 simp [Xc,Y9 ht,sizeOf,Vl,hi,hs,Kj,hz,Uo,newRow,h1,h2,BG];simp [go_sem]
theorem QO {o:Oper}{a:Act}{w:Zc}{K:Act→Zc→Prop}{Q:Exit→Act→Zc→Prop}(T e:ZN)(x y:Yz)(z q v u:Zl)(ho:o.op= .buildSlice T 2 #[(0,x),(1,y)])(hx:a.eval x=v)(hy:a.eval y=u)(ht:P.underlying T=some (.slice e))(hI:(P.info? e).map (fun i=>(i.zero,i.size))=some (some z,1))(BG:z.cells= #[q])(h1:v.cells= #[v])(h2:u.cells= #[u])
  (h:K (a.put o.dst (.slice (some ⟨w.heap.size,0,none⟩) 2 2)) (w.alloc (.cells #[v,u] e))) :o.wp P a w K Q:=by
 obtain ⟨i,hi,hz,hs⟩:=Ns hI;unfold Jj Xn;simp only [ho,Q3,Y2,J6,hx,hy,Yi,MO w T e i z q v u ht hi hz hs BG h1 h2,ZQ,YC];exact h
theorem Ll (w:Zc)(T e:ZN)(i:VA)(z q v u t:Zl)(ht:P.underlying T=some (.slice e))(hi:P.info? e=some i)(hz:i.zero=some z)(hs:i.size=1)(BG:z.cells= #[q])(h1:v.cells= #[v])(h2:u.cells= #[u])(h3:t.cells= #[t]) :
  (Xc T 3 #[(0,v),(1,u),(2,t)]).run P w= .ok (.slice (some ⟨w.heap.size,0,none⟩) 3 3) (w.alloc (.cells #[v,u,t] e)):=by
 simp [Xc,Y9 ht,sizeOf,Vl,hi,hs,Kj,hz,Uo,newRow,h1,h2,h3,BG];simp [go_sem]
theorem BY {o:Oper}{a:Act}{w:Zc}{K:Act→Zc→Prop}{Q:Exit→Act→Zc→Prop}(T e:ZN)(x y p:Yz)(z q v u t:Zl)(ho:o.op= .buildSlice T 3 #[(0,x),(1,y),(2,p)])(hx:a.eval x=v)(hy:a.eval y=u)(hp:a.eval p=t)(ht:P.underlying T=some (.slice e))(hI:(P.info? e).map (fun i=>(i.zero,i.size))=some (some z,1))(BG:z.cells= #[q])(h1:v.cells= #[v])(h2:u.cells= #[u])(h3:t.cells= #[t])
  (h:K (a.put o.dst (.slice (some ⟨w.heap.size,0,none⟩) 3 3)) (w.alloc (.cells #[v,u,t] e))) :o.wp P a w K Q:=by
 obtain ⟨i,hi,hz,hs⟩:=Ns hI;unfold Jj Xn;simp only [ho,Q3,Y2,J6,hx,hy,hp,Yi,Ll w T e i z q v u t ht hi hz hs BG h1 h2 h3,ZQ,YC];exact h
theorem L9 (w:Zc)(T e:ZN)(i:VA)(z v u:Zl)(ht:P.underlying T=some (.slice e))(hi:P.info? e=some i)(hz:i.zero=some z)(hs:i.size=2) :
  (Xc T 1 #[(0,.agg #[v,u])]).run P w= .ok (.slice (some ⟨w.heap.size,0,none⟩) 1 1) (w.alloc (.cells #[v,u] e)):=by
 simp [Xc,Y9 ht,sizeOf,Vl,hi,hs,Kj,hz,Uo,newRow,Value.cells];simp [go_sem]
theorem Jy {o:Oper}{a:Act}{w:Zc}{K:Act→Zc→Prop}{Q:Exit→Act→Zc→Prop}(T e:ZN)(x:Yz)(z v u:Zl)(ho:o.op= .buildSlice T 1 #[(0,x)])(hx:a.eval x= .agg #[v,u])(ht:P.underlying T=some (.slice e))(hI:(P.info? e).map (fun i=>(i.zero,i.size))=some (some z,2))
  (h:K (a.put o.dst (.slice (some ⟨w.heap.size,0,none⟩) 1 1)) (w.alloc (.cells #[v,u] e))) :o.wp P a w K Q:=by
 obtain ⟨i,hi,hz,hs⟩:=Ns hI;unfold Jj Xn;simp only [ho,Q3,Y2,J6,hx,Yi,L9 w T e i z v u ht hi hz hs,ZQ,YC];exact h
end
end
section
open Go Go.ChangeShapes Go.WideShapes Go.RowKit Go.Deep
section
variable {H:Type} {enc:ZN × Zl→H} {P:YO} {w:Zc} {base:Nat} {spare:Nat→Bool} {held:Bool}
theorem open_struct_ints {r:Reach}{b0:Nat}{t:ZN}{fs:Array Field}{v:Zl}{d:DataW H}{p:List MemPlace}(hs:P.underlying t=some (.struct fs))(pB:oneCellFields P fs=true)(hC:P.cellsOf t=fs.size)
  (hv:Value.okWide P w r b0 t v) (h:DataW.Trod enc P w base spare held t v d p) :
  ∃cs:Array Zl,v= .agg cs∧cs.size=fs.size∧ ∀(j:Nat) (f:Field) (k:IntKind),fs[j]?=some f→P.underlying f.type=some (.int k)→ ∃n,cs[j]?=some (.int k n)∧(Xg k n).wf=true:=by
 obtain ⟨cs,rfl,Er⟩:=okWide_struct hs hv;refine ⟨cs,rfl,Er.trans hC,fun j f k hj hk=>?_⟩;obtain ⟨fuel,hf⟩:=h;obtain ⟨xs,n,_,hx,_,hlen,hg⟩:=DataW.trod_struct hs hf;obtain ⟨o,kk⟩:=hone_of pB j f hj;have DW:j < fs.size:=(Yu.1 hj).1;have hjc:j < cs.size:=by omega
 have h1:=hg j f hj;have hxj:xs[j]?=some (xs[j]'Zm):=Zf Zm;rw [o,kk,hxj] at h1;have hone':((Value.agg cs).cells.toList.drop j).take 1=[cs[j]'hjc]:=by
  have hl:j < cs.toList.length:=by simpa using hjc
  show (cs.toList.drop j).take 1=_;rw [List.drop_eq_getElem_cons hl];simp
 rw [hone'] at h1;obtain ⟨m,hm,_,hw⟩:=DataW.trod_int hk h1;exact ⟨m,by rw [Array.getElem?_eq_getElem hjc]; simpa using hm,hw⟩
end
theorem XY {P:YO}{fn:Func}{p u:Tmp}{ty:ZN}(h:fn.results= #[.cell p ty,.tmp u])(tmps:Array Zl)(w:Zc)(g:Nat)(t:ZN)(cs:Array Zl)(fr:Nat × Nat)(d:TypeDesc)
  (hp:tmps.getD p undef= .pointer (some ⟨g,0,none⟩)) (hg:w.heap[g]?=some (.cells cs t fr))
  (hu:P.underlying ty=some d) (hd:(match d with | .struct _ | .array _ _=>true | _=>false)=true) (hi:(P.info? ty).map (·.size)=some cs.size) :
  (results fn tmps).run P w= .ok (.tuple #[.agg cs,tmps.getD u undef]) w:=by
 rw [results_cell_tmp h,hp];exact zJ
theorem Ew (w:Zc)(A:Obj)(c c':Array Zl)(t:ZN) :((w.alloc A).alloc (.cells c t)).setRow (w.heap.size+1) c'=(w.alloc A).alloc (.cells c' t):=by
 have:=Zu (w.alloc A) c c' t;simpa using this
theorem below_drewN {B:Nat}{a w:Zc}(h:Zs B a w)(n:Nat) :Zs B a (w.drewN n):=⟨h.os,h.tape,h.output,h.size,h.block⟩
theorem RL {B:Nat}{w w1 w2:Zc}(h:Zs B w w1)(h2:Zs w1.heap.size w1 w2)(hB:B≤w1.heap.size) :Zs B w w2:=h.trans (h2.mono hB)
end
section
open Go Go.ChangeShapes Go.WideShapes Go.RowKit Go.Deep
structure Yd where
 bal:Int
 st:Int
 sl:Bool
 rq:Int
 ex:Int
 wd:Int
 dl:Int
deriving DecidableEq,Inhabited
def Yd.row (v:Yd) :List Zl:= [.int .u64 v.bal,.int .i64 v.st,.bool v.sl,.int .i64 v.rq,.int .i64 v.ex,.int .i64 v.wd,.int .i64 v.dl]
def Zd (v:Yd) :Array Zl:=v.row.toArray
def Yo (v:Yd) :Prop:=(Xg .u64 v.bal).wf=true∧(Xg .i64 v.st).wf=true
def ZZ:Yd:=⟨0,0,false,0,0,0,0⟩
theorem NH (v:Yd) :v.row.length=7:=rfl
theorem row_one (v:Yd) : ∀u ∈ v.row,u.oneCell'=true:=by
 intro u hu;simp only [Yd.row,ZY,Yf,or_false] at hu
 rcases hu with rfl | rfl | rfl | rfl | rfl | rfl | rfl <;> rfl
theorem Yx (v:Yd) :(Zd v).all (·.oneCell')=true:=by
 refine ZT.2 (fun u hu=>row_one v u (by simpa [Zd] using hu))
theorem OV (v:Yd) :(Zd v).size=7:=rfl
theorem Ym:(Tryz.prog.info? 63).map (·.size)=some 7:=by kernel_rfl
theorem Yo.bal {v:Yd}(h:Yo v) :0≤v.bal∧v.bal≤18446744073709551615:=bounds_u64 h.1
section
variable {P:YO} (w:Zc)
theorem Nj (d:Nat)(xs ys:Array Zl) :
  ∀(fs:List Field),(∀f ∈ fs,f.name≠ "_" ∧((∃k n m,P.underlying f.type=some (.int k)∧xs[f.offset]?=some (.int k n)∧ys[f.offset]?=some (.int k m))∨ ∃n m,P.underlying f.type=some .bool∧xs[f.offset]?=some (.bool n)∧ys[f.offset]?=some (.bool m)))→
   ∃r,(Vf (d+1) xs ys fs).run P w= .ok r w∧(r=true ↔ ∀f ∈ fs,xs[f.offset]?=ys[f.offset]?)
 | [],_=>⟨true,by simp [Vf],by simp⟩
 | f::fs,h=>by
  obtain ⟨Sm,h1⟩:=h f ZI;obtain ⟨r,hr,L5⟩:=Nj d xs ys fs (fun j hj=>h j LF)
  rcases h1 with ⟨k,n,m,hk,hn,hm⟩ | ⟨n,m,hk,hn,hm⟩
  ·have hp:=Qj w (UW hk) hn;have cY:=Qj w (UW hk) hm;have hq:=run_equalIn_int (P:=P) w d f.type k k n m hk
   by_cases he:n=m
   ·subst he;refine ⟨r,by simp only [Vf,Sm,ne_eq,not_false_eq_true,if_true,Yi,hp,cY,hq,ZQ]; simpa using hr,?_⟩;simp only [ZY,forall_eq_or_imp,hn,hm,true_and];exact L5
   ·refine ⟨false,by simp only [Vf,Sm,ne_eq,not_false_eq_true,if_true,Yi,hp,cY,hq,ZQ]; simp [he],?_⟩;simp [hn,hm,he]
  ·have hp:=Qj (P:=P) w (e:=f.type) LC hn;have cY:=Qj (P:=P) w (e:=f.type) LC hm;have hq:=run_equalIn_bool' (P:=P) w d f.type n m hk
   by_cases he:n=m
   ·subst he;refine ⟨r,by simp only [Vf,Sm,ne_eq,not_false_eq_true,if_true,Yi,hp,cY,hq,ZQ]; simpa using hr,?_⟩;simp only [ZY,forall_eq_or_imp,hn,hm,true_and];exact L5
   ·refine ⟨false,by simp only [Vf,Sm,ne_eq,not_false_eq_true,if_true,Yi,hp,cY,hq,ZQ]; simp [he],?_⟩;simp [hn,hm,he]
theorem Oe {t:ZN}{fs:Array Field}(xs ys:Array Zl)(hu:P.underlying t=some (.struct fs))(hp:P.stoodInHeld t=false)
  (hx: ∀f ∈ fs.toList,f.name≠ "_" ∧((∃k n m,P.underlying f.type=some (.int k)∧xs[f.offset]?=some (.int k n)∧ys[f.offset]?=some (.int k m))∨ ∃n m,P.underlying f.type=some .bool∧xs[f.offset]?=some (.bool n)∧ys[f.offset]?=some (.bool m))) :
  ∃r,(Op.equalIn 10000 t (.agg xs) (.agg ys)).run P w= .ok r w∧(r=true ↔ ∀f ∈ fs.toList,xs[f.offset]?=ys[f.offset]?):=by
 have hf:P.fieldsOf t=fs:=by simp [Program.fieldsOf,hu]
 rw [run_equalIn_struct w 9999 t xs ys (by rw [hf]; exact hu) hp,hf];exact Nj w 9998 xs ys _ hx
end
theorem oH (x y:Yd)(w:Zc) :(Op.equalIn 10000 63 (.agg (Zd x)) (.agg (Zd y))).run Zb w= .ok (decide (x=y)) w:=by
 obtain ⟨r,hr,L5⟩:=Oe (P:=Zb) w (Zd x) (Zd y) Zr Ye (fun f hf=>by
  simp only [ZY,Yf,or_false] at hf
  rcases hf with rfl | rfl | rfl | rfl | rfl | rfl | rfl
  ·exact ⟨by decide,.inl ⟨.u64,x.bal,y.bal,Xz,rfl,rfl⟩⟩
  ·exact ⟨by decide,.inl ⟨.i64,x.st,y.st,Yc,rfl,rfl⟩⟩
  ·exact ⟨by decide,.inr ⟨x.sl,y.sl,Tryz.underlying4,rfl,rfl⟩⟩
  ·exact ⟨by decide,.inl ⟨.i64,x.rq,y.rq,Yc,rfl,rfl⟩⟩
  ·exact ⟨by decide,.inl ⟨.i64,x.ex,y.ex,Yc,rfl,rfl⟩⟩
  ·exact ⟨by decide,.inl ⟨.i64,x.wd,y.wd,Yc,rfl,rfl⟩⟩
  ·exact ⟨by decide,.inl ⟨.i64,x.dl,y.dl,Yc,rfl,rfl⟩⟩)
 refine hr.trans ?_;have:r=decide (x=y):=by
  rw [Bool.eq_iff_iff,L5,decide_eq_true_eq];constructor
  ·intro h;simp only [ZY,Yf,or_false,forall_eq_or_imp,forall_eq] at h;obtain ⟨h0,h1,h2,h3,h4,h5,h6⟩:=h;obtain ⟨a0,a1,a2,a3,a4,a5,a6⟩:=x;obtain ⟨b0,b1,b2,b3,b4,b5,b6⟩:=y;simp [Zd,Yd.row] at h0 h1 h2 h3 h4 h5 h6;simp [*]
  ·rintro rfl;simp
 rw [this]
def XD (l:List Yd) :List Zl:=l.flatMap Yd.row
theorem Hv (l:List Yd) :(XD l).length=l.length*7:=by
 induction l with
 | nil=>rfl
 | cons x l ih=>simp only [XD,Jf,List.length_append,NH,Yp] at ih ⊢; omega
theorem Ht (l m:List Yd) :XD (l++m)=XD l++XD m:=by simp [XD]
theorem oQ (v:Yd) :XD [v]=v.row:=by simp [XD]
theorem oP {l:List Yd} : ∀u ∈ XD l,u.oneCell'=true:=by
 intro u hu;obtain ⟨v,_,hv⟩:=List.mem_flatMap.1 hu;exact row_one v u hv
theorem il {l:List Yd}{i:Nat}{v:Yd}(h:l[i]?=some v){j:Nat}(hj:j < 7) :(XD l)[i*7+j]?=v.row[j]?:=by
 induction l generalizing i with
 | nil=>simp at h
 | cons x l ih=>
  cases i with
  | zero=>
   simp at h;subst h;simp only [XD,Jf,Nat.zero_mul,ZX];rw [List.getElem?_append_left (by rw [NH]; exact hj)]
  | succ i=>
   simp only [List.getElem?_cons_succ] at h;have:=ih h;simp only [XD,Jf] at this ⊢;rw [List.getElem?_append_right (by rw [NH]; omega),NH,show (i+1)*7+j - 7=i*7+j by omega];exact this
theorem Ms {w:Zc}{b off:Nat}{l:List Yd}(h: ∀j u,(XD l)[j]?=some u→w.cell? ⟨b,off+j,none⟩=some u){i:Nat}{v:Yd}(hi:l[i]?=some v) :w.rangeAt b (off+i*7) v.row:=by
 intro j u hu;have hj:j < 7:=(Zi.1 hu).1;rw [Nat.add_assoc];exact h _ _ ((il hi hj).trans hu)
theorem Wa {w:Zc}{b off:Nat}{l:List Yd}(h: ∀i v,l[i]?=some v→w.rangeAt b (off+i*7) v.row) : ∀j u,(XD l)[j]?=some u→w.cell? ⟨b,off+j,none⟩=some u:=by
 intro j u hu;have hj:j < l.length*7:=by rw [←Hv]; exact sC
 have hq:j/7 < l.length:=by omega
 have hr:j%7 < 7:=by omega
 have e:=il (Zf hq) hr;rw [show j/7*7+j%7=j by omega,hu] at e;have:=h _ _ (Zf hq) (j%7) u e.symm;rwa [show off+j/7*7+j%7=off+j by omega] at this
theorem World.rangeAt.same {w w':Zc}{b o:Nat}{cs:List Zl}(h:w.rangeAt b o cs)(hb:w'.heap[b]?=w.heap[b]?) :w'.rangeAt b o cs:=fun j v hv=>(World.cell?_of_block (w:=w) (a:=⟨b,o+j,none⟩) hb).trans (h j v hv)
theorem Blk.range {w:Zc}{b t:Nat}{v:Yd}(h:Blk w b t (Zd v)) :w.rangeAt b 0 v.row:=fun j u hu=>by
 rw [ZX,h.cell j];simpa [Zd] using hu
def Fm (w:Zc)(S:Nat→Prop)(a:Option Addr)(l:List Yd) :Prop:=
 0 < l.length→ ∃b off,a=some ⟨b,off,none⟩∧ ¬S b∧b < w.heap.size∧ ∀i v,l[i]?=some v→w.rangeAt b (off+i*7) v.row
section
variable {w w':Zc} {S T:Nat→Prop} {a:Option Addr} {l:List Yd} {B:Nat}
theorem Fm.nil (w:Zc)(S:Nat→Prop)(a:Option Addr) :Fm w S a []:=fun h=>by simp at h
theorem Fm.same (h:Fm w S a l)(hs:w.heap.size≤w'.heap.size)(hb: ∀b,b < w.heap.size→ ¬S b→w'.heap[b]?=w.heap[b]?) :Fm w' S a l:=fun h0=>by
 obtain ⟨b,off,h1,h2,h3,h4⟩:=h h0;exact ⟨b,off,h1,h2,by omega,fun i v hi=>World.rangeAt.same (h4 i v hi) (hb b h3 h2)⟩
theorem Fm.below (h:Fm w S a l)(hb:Zs w.heap.size w w') :Fm w' S a l:=h.same hb.size fun b XP _=>hb.block b XP
theorem Fm.alloc (h:Fm w S a l)(o:Obj) :Fm (w.alloc o) S a l:=h.same ZI fun b XP _=>Below.heap_alloc w o b XP
theorem Fm.drewN (h:Fm w S a l)(n:Nat) :Fm (w.drewN n) S a l:=h
theorem Fm.drew (h:Fm w S a l) :Fm w.drew S a l:=h
theorem Fm.more (h:Fm w S a l)(hT: ∀i,i < w.heap.size→T i→S i) :Fm w T a l:=fun h0=>by
 obtain ⟨b,off,h1,h2,h3,h4⟩:=h h0;exact ⟨b,off,h1,fun ht=>h2 (hT b h3 ht),h3,h4⟩
theorem Fm.at (h:Fm w S a l){i:Nat}{v:Yd}(hi:l[i]?=some v) : ∃b off,a=some ⟨b,off,none⟩∧w.rangeAt b (off+i*7) v.row:=by
 obtain ⟨b,off,h1,_,_,h4⟩:=h gn;exact ⟨b,off,h1,h4 i v hi⟩
theorem Fm.flat (h:Fm w S a l)(h0:0 < l.length) : ∃ad,a=some ad∧ ∀j u,(XD l)[j]?=some u→w.cell? (ad.add j)=some u:=by
 obtain ⟨b,off,h1,_,_,h4⟩:=h h0;refine ⟨⟨b,off,none⟩,h1,fun j u hu=>?_⟩;rw [add_plain];exact Wa h4 j u hu
end
section
variable {P:YO} {ops:Array Oper} {rest:List Oper} {op:Oper} {a:Act} {w:Zc} {Q:Exit→Act→Zc→Prop}
theorem XT (DV:op.guard=none)(ty:ZN)(x:Yz)(ho:op.op= .load ty x)
  (b o:Nat) (hx:a.eval x= .pointer (some ⟨b,o,none⟩)) (v:Yd) (d:TypeDesc) (hc:w.rangeAt b o v.row)
  (hu:P.underlying ty=some d) (hd:d.isRow=true) (hi:(P.info? ty).map (·.size)=some 7)
  (h:YY P ops Q rest (a.put op.dst (.agg (Zd v))) w) :YY P ops Q (op::rest) a w:=
 Jt DV ty x ho b o hx v.row d hc hu hd hi h
theorem JQ {C:Zc→Prop}{Qa:Act→Prop}(ty:ZN)(x:Yz)(b o:Nat)(v:Yd)(d:TypeDesc)(hw:YQ op (yielded ops a.tmps)=true)(ho:op.op= .load ty x)(hx:a.eval x= .pointer (some ⟨b,o,none⟩))
  (hC: ∀w,C w→w.rangeAt b o v.row) (hu:P.underlying ty=some d) (hd:d.isRow=true) (hi:(P.info? ty).map (·.size)=some 7)
  (h:ZW P ops C Qa rest (a.put op.dst (.agg (Zd v)))) :ZW P ops C Qa (op::rest) a:=by
 exact sE
end
end
section
open Go Go.RowKit Go.Deep
def D6 (s:Int) :Bool:=decide (s=2∨s=3)
def Zz:List Yd→Int
 | []=>0
 | v::l=>v.bal+Zz l
def XJ (v:Yd) :Int:=if D6 v.st=true then v.bal else 0
def Yy:List Yd→Int
 | []=>0
 | v::l=>XJ v+Yy l
def Xj:List Yd→Int→Int
 | [],_=>0
 | v::l,s=>(if v.st=s then 1 else 0)+Xj l s
theorem Sw {v:Yd}(h:0≤v.bal) :0≤XJ v∧XJ v≤v.bal:=by unfold XJ; split <;> omega
theorem Bg (l m:List Yd) :Zz (l++m)=Zz l+Zz m:=by
 induction l with
 | nil=>simp [Zz]
 | cons v l ih=>simp only [Yh,Zz,ih]; omega
theorem El (l m:List Yd) :Yy (l++m)=Yy l+Yy m:=by
 induction l with
 | nil=>simp [Yy]
 | cons v l ih=>simp only [Yh,Yy,ih]; omega
theorem Db (l m:List Yd)(s:Int) :Xj (l++m) s=Xj l s+Xj m s:=by
 induction l with
 | nil=>simp [Xj]
 | cons v l ih=>simp only [Yh,Xj,ih]; omega
theorem Ka {l:List Yd}(h: ∀v ∈ l,Yo v) :0≤Zz l:=by
 induction l with
 | nil=>simp [Zz]
 | cons v l ih=>
  have h1:=(h v ZI).bal;have h2:=ih (fun x hx=>h x Bj);simp only [Zz]; omega
theorem Dh {l:List Yd}(h: ∀v ∈ l,Yo v) :0≤Yy l∧Yy l≤Zz l:=by
 induction l with
 | nil=>simp [Zz,Yy]
 | cons v l ih=>
  have h1:=Sw (h v ZI).bal.1;have h2:=ih (fun x hx=>h x Bj);simp only [Zz,Yy]; omega
theorem UN (l:List Yd)(s:Int) :0≤Xj l s∧Xj l s≤l.length:=by
 induction l with
 | nil=>simp [Xj]
 | cons v l ih=>
  simp only [Xj,Yp]
  split <;> omega
theorem To {l:List Yd}{i:Nat}{Qo:Yd}(h:l[i]?=some Qo) : ∃l1 l2,l=l1++Qo::l2∧ ∀v,l.set i v=l1++v::l2:=by
 have hi:=(Zi.1 h).1;have he:=(Zi.1 h).2;refine ⟨l.take i,l.drop (i+1),?_,fun v=>?_⟩
 ·rw [←he];rw [List.getElem_cons_drop,List.take_append_drop]
 ·rw [List.set_eq_take_append_cons_drop,if_pos hi]
theorem J3 {l:List Yd}{i:Nat}{Qo:Yd}(h:l[i]?=some Qo)(v:Yd) :Zz (l.set i v)=Zz l - Qo.bal+v.bal:=by
 obtain ⟨l1,l2,h1,h2⟩:=To h;rw [h2,h1,Bg,Bg];simp only [Zz]; omega
theorem Fp {l:List Yd}{i:Nat}{Qo:Yd}(h:l[i]?=some Qo)(v:Yd) :Yy (l.set i v)=Yy l - XJ Qo+XJ v:=by
 obtain ⟨l1,l2,h1,h2⟩:=To h;rw [h2,h1,El,El];simp only [Yy]; omega
theorem WJ {l:List Yd}{i:Nat}{Qo:Yd}(h:l[i]?=some Qo)(v:Yd)(s:Int) :Xj (l.set i v) s=Xj l s -(if Qo.st=s then 1 else 0)+(if v.st=s then 1 else 0):=by
 obtain ⟨l1,l2,h1,h2⟩:=To h;rw [h2,h1,Db,Db];simp only [Xj]; omega
def J0 (w:Zc)(b m:Nat)(s:Zl)(cap:Nat)(c:Int→Int)(A T:Int) :Prop:=
 Blk w b 187 #[.int .i64 cap,s,.map (some m),.int .u64 A,.int .u64 T]∧Q8 w m c
def Fh (w:Zc)(b:Nat)(S:Nat→Prop)(cap:Nat)(l:List Yd) :Prop:=
 ∃m s,J0 w b m s cap (Xj l) (Yy l) (Zz l)∧w.ownsRow 0 63 7 s l.length (XD l)∧1≤cap∧cap≤4096∧l.length≤cap∧Zz l≤18446744073709551615∧(∀v ∈ l,Yo v)∧ ∀i,S i ↔ i=b∨i=m∨s.ownBlock=some i
section
variable {w w':Zc} {b m cap:Nat} {s:Zl} {S T:Nat→Prop} {l:List Yd} {c:Int→Int} {A Tt:Int}
theorem J0.ne (h:J0 w b m s cap c A Tt) :b≠m:=by
 rintro rfl;obtain ⟨h1,es,clock,h2,_⟩:=h;unfold Blk at h1;rw [h1] at h2
 cases h2
theorem J0.cells (h:J0 w b m s cap c A Tt) :w.cell? ⟨b,0,none⟩=some (.int .i64 cap)∧w.cell? ⟨b,1,none⟩=some s∧w.cell? ⟨b,2,none⟩=some (.map (some m))∧w.cell? ⟨b,3,none⟩=some (.int .u64 A)∧w.cell? ⟨b,4,none⟩=some (.int .u64 Tt):=
 ⟨h.1.cell 0,h.1.cell 1,h.1.cell 2,h.1.cell 3,h.1.cell 4⟩
theorem J0.same (h:J0 w b m s cap c A Tt)(hb:w'.heap[b]?=w.heap[b]?)(hm:w'.heap[m]?=w.heap[m]?) :J0 w' b m s cap c A Tt:=⟨hb.trans h.1,h.2.same hm⟩
theorem UB {n:Nat}{xs:List Zl}(h:w.ownsRow 0 63 7 s n xs) : ∃a cp,s= .slice a n cp∧n≤cp∧cp≤maxLen:=by
 exact Zcy
theorem EY {l:List Yd}{a:Option Addr}{cp:Nat}(h:w.ownsRow 0 63 7 (.slice a l.length cp) l.length (XD l))(hS: ∀i,(Value.slice a l.length cp).ownBlock=some i→ ¬S i) :Fm w S a l:=fun h0=>by
 rcases h.2 with ⟨h1,h2⟩ | ⟨g,BB,cur,h1,_,h3,_⟩
 ·omega
 ·injection h1 with h1 _ _;subst h1;refine ⟨g,0,rfl,hS g rfl,(Yu.1 h3).1,fun i v hi=>?_⟩;exact Ms (fun j u hu=>by
   have:=h.cells rfl j u hu;rwa [add_plain] at this) hi
theorem K9 {n:Nat}{xs:List Zl}(h:w.ownsRow 0 63 7 s n xs)(hb: ∀i,s.ownBlock=some i→w'.heap[i]?=w.heap[i]?) :w'.ownsRow 0 63 7 s n xs:=by
 exact ZcF
theorem Fh.lt (h:Fh w b S cap l) : ∀i,S i→i < w.heap.size:=fun i hi=>by
 obtain ⟨m,s,h1,h2,_,_,_,_,_,hS⟩:=h
 rcases (hS i).1 hi with rfl | rfl | hs
 ·exact h1.1.lt
 ·exact h1.2.lt
 ·exact (h2.lt i hs).2
theorem Fh.same (h:Fh w b S cap l)(hb: ∀i,S i→w'.heap[i]?=w.heap[i]?) :Fh w' b S cap l:=by
 obtain ⟨m,s,h1,h2,h3,h4,h5,h6,h7,hS⟩:=h;exact ⟨m,s,h1.same (hb b ((hS b).2 (.inl rfl))) (hb m ((hS m).2 (.inr (.inl rfl)))),K9 h2 (fun i hi=>hb i ((hS i).2 (.inr (.inr hi)))),h3,h4,h5,h6,h7,hS⟩
theorem Fh.kept (h:Fh w b S cap l)(k:Kept T w w')(hT: ∀i,S i→ ¬T i) :Fh w' b S cap l:=h.same fun i hi=>k.block i (h.lt i hi) (hT i hi)
theorem Fh.below (h:Fh w b S cap l)(k:Zs w.heap.size w w') :Fh w' b S cap l:=h.same fun i hi=>k.block i (h.lt i hi)
theorem Fh.alloc (h:Fh w b S cap l)(o:Obj) :Fh (w.alloc o) b S cap l:=h.below ((Zp _ _).alloc (Zg _) o)
theorem Fh.drewN (h:Fh w b S cap l)(n:Nat) :Fh (w.drewN n) b S cap l:=h
theorem Fh.drew (h:Fh w b S cap l) :Fh w.drew b S cap l:=h
theorem Fh.pos (h:Fh w b S cap l) :S b:=by
 obtain ⟨m,s,h1,h2,h3,h4,h5,h6,h7,hS⟩:=h;exact (hS b).2 (.inl rfl)
theorem Fh.fits (h:Fh w b S cap l) :1≤cap∧cap≤4096∧l.length≤cap∧Zz l≤18446744073709551615∧ ∀v ∈ l,Yo v:=by
 obtain ⟨m,s,h1,h2,h3,h4,h5,h6,h7,hS⟩:=h;exact ⟨h3,h4,h5,h6,h7⟩
theorem Fh.cells (h:Fh w b S cap l) : ∃m a cp,w.cell? ⟨b,0,none⟩=some (.int .i64 cap)∧w.cell? ⟨b,1,none⟩=some (.slice a l.length cp)∧w.cell? ⟨b,2,none⟩=some (.map (some m))∧w.cell? ⟨b,3,none⟩=some (.int .u64 (Yy l))∧w.cell? ⟨b,4,none⟩=some (.int .u64 (Zz l))∧
  l.length≤cp∧cp≤maxLen∧Q8 w m (Xj l)∧Fm w (fun _=>False) a l:=by
 obtain ⟨m,s,h1,h2,h3,h4,h5,h6,h7,hS⟩:=h;obtain ⟨a,cp,rfl,q1,q2⟩:=UB h2;exact ⟨m,a,cp,h1.cells.1,h1.cells.2.1,h1.cells.2.2.1,h1.cells.2.2.2.1,h1.cells.2.2.2.2,q1,q2,h1.2,EY h2 (fun _ _ h=>h)⟩
end
theorem Nu (s:Int)(w:Zc) :Zj Zb 276 #[.int .i64 s] w fun e w'=>e= .returned (.bool (D6 s))∧w=w':=by
 by_cases h2:s=2
 ·subst h2;exact zQ
 ·by_cases h3:s=3
  ·subst h3;exact zQ
  ·have hb:Hid (D6 s=false):=Za (by unfold D6; simp [h2,h3]);go_enter Tryz.func276,Tryz.ntmps276;go_wp2;go_ret;exact ⟨by rw [hb.out]; simp [h2,h3],rfl⟩
theorem vQ (s:Nat)(w:Zc)(h:1≤s)(h2:s≤4096) :
  Zj Zb 73 #[.int .i64 s] w fun e w'=>e= .returned (.pointer (some ⟨w.heap.size+1,0,none⟩))∧(w.alloc (.map #[] 0)).alloc (.cells #[.int .i64 s,.slice none 0 0,.map (some w.heap.size),.int .u64 0,.int .u64 0] 187)=w':=by
 have h0: ¬(s:Int)< 1:=by omega
 have h3: ¬(4096:Int)< (s:Int):=by omega
 have hmm:= @run_makeMap Zb;go_enter Tryz.func73,Tryz.ntmps73;exact UI
theorem eQ (cap:Nat)(w:Zc)(h:1≤cap)(h2:cap≤4096) :
  Zj Zb 73 #[.int .i64 cap] w fun e w'=> ∃b S,e= .returned (.pointer (some ⟨b,0,none⟩))∧Fh w' b S cap []∧(∀i,S i→w.heap.size≤i)∧Zs w.heap.size w w':=by
 refine (vQ cap w h h2).mono ?_;rintro e w' ⟨rfl,rfl⟩;refine ⟨w.heap.size+1,fun i=>i=w.heap.size+1∨i=w.heap.size,rfl,⟨w.heap.size,.slice none 0 0,⟨?_,?_⟩,World.ownsRow_nil _ _ _ _,h,h2,by simp,by simp [Zz],by simp,fun i=>by simp [Value.ownBlock]⟩,fun i hi=>by omega,?_⟩
 ·have:=Zv (w.alloc (.map #[] 0)) 187 #[.int .i64 cap,.slice none 0 0,.map (some w.heap.size),.int .u64 0,.int .u64 0];simpa [Yy,Zz] using this
 ·exact ((dD w).alloc _).congr (fun q=>by simp [Xj])
 ·exact ((Zp _ _).alloc (Zg _) _).alloc ZI _
theorem Cy (b n cp:Nat)(a:Option Addr)(w:Zc)(h:w.cell? ⟨b,1,none⟩=some (.slice a n cp)) :Zj Zb 119 #[.pointer (some ⟨b,0,none⟩)] w fun e w'=>e= .returned (.int .i64 n)∧w=w':=by
 go_enter Tryz.func119,Tryz.ntmps119;exact UI
theorem dm (b:Nat)(A:Int)(w:Zc)(h:w.cell? ⟨b,3,none⟩=some (.int .u64 A)) :Zj Zb 56 #[.pointer (some ⟨b,0,none⟩)] w fun e w'=>e= .returned (.int .u64 A)∧w=w':=by
 go_enter Tryz.func56,Tryz.ntmps56;exact UI
theorem zero_int (w:Zc) :(Kj 3).run Zb w= .ok (.int .i64 0) w:=by
 obtain ⟨i,hi,hz,_⟩:=Ns (P:=Zb) (t:=3) (z:= .int .i64 0) (n:=1) Ye;simp [Kj,Vl,hi,hz,Xe]
theorem j7 (b m:Nat)(c:Int→Int)(s:Int)(w:Zc)(h:w.cell? ⟨b,2,none⟩=some (.map (some m)))(hc:Q8 w m c)(hs:(Xg .i64 s).wf=true) :
  Zj Zb 287 #[.pointer (some ⟨b,0,none⟩),.int .i64 s] w fun e w'=>e= .returned (.int .i64 (c s))∧w=w':=by
 have hl:=hc.lookup Yc Tryz.underlying185 (zero_int w) hs;generalize c s=q at*;clear hc;go_enter Tryz.func287,Tryz.ntmps287;exact UI
theorem u6 (p:Option Addr)(i:Int)(w:Zc)(h:i < 0) :Zj Zb 117 #[.pointer p,.int .i64 i] w fun e w'=>e= .returned (.bool false)∧w=w':=by
 have h1: ¬0≤i:=by omega
 go_enter Tryz.func117,Tryz.ntmps117;exact UI
theorem iv (b n cp:Nat)(a:Option Addr)(i:Int)(w:Zc)(h:w.cell? ⟨b,1,none⟩=some (.slice a n cp))(ho:i < 0∨n≤i) :Zj Zb 117 #[.pointer (some ⟨b,0,none⟩),.int .i64 i] w fun e w'=>e= .returned (.bool false)∧w=w':=by
 by_cases h0:i < 0
 ·exact u6 _ i w h0
 ·have h1:0≤i:=by omega
  have h2: ¬i < n:=by omega
  clear ho;go_enter Tryz.func117,Tryz.ntmps117;go_wp2_with fail;refine (Cy b n cp a _ h).mono ?_;rintro e w' ⟨rfl,rfl⟩;go_wp2;go_ret;exact ⟨JY zB13_2,rfl⟩
theorem Cs (b n cp i:Nat)(a:Option Addr)(w:Zc)(h:w.cell? ⟨b,1,none⟩=some (.slice a n cp))(ho:i < n) :Zj Zb 117 #[.pointer (some ⟨b,0,none⟩),.int .i64 i] w fun e w'=>e= .returned (.bool true)∧w=w':=by
 have h1:(0:Int)≤i:=by omega
 have h2:(i:Int)< n:=by omega
 go_enter Tryz.func117,Tryz.ntmps117;go_wp2_with fail;refine (Cy b n cp a _ h).mono ?_;exact sn
end
section
open Go Go.RowKit Go.Deep
theorem UY {P:YO}{ops:Array Oper}{rest:List Oper}{o:Oper}{a:Act}{w:Zc}{Q:Exit→Act→Zc→Prop}(hg:o.guard=none)(t:ZN)(parts:Array (Nat × Yz))(ho:o.op= .build t parts)(v:Yd)
  (hf:P.built t (parts.map fun (i,x)=>(i,a.eval x)).toList=some (Zd v)) (h:YY P ops Q rest (a.put o.dst (.agg (Zd v))) w) :YY P ops Q (o::rest) a w:=
 wpList_build hg t parts ho (by rw [hf]; rfl) Io
theorem ZaH (p:Option Addr)(i:Int)(w:Zc)(h: ∀w',Zs w.heap.size w w'→Zj Zb 117 #[.pointer p,.int .i64 i] w' fun e w''=>e= .returned (.bool false)∧w'=w'') :
  Zj Zb 70 #[.pointer p,.int .i64 i] w fun e w'=>e= .returned (.tuple #[.agg (Zd ZZ),.bool false])∧Zs w.heap.size w w':=by
 have H:=Za (h (w.alloc (.cells (Zd ZZ) 63)) ((Zp _ _).alloc (Zg _) _));clear h;go_enter Tryz.func70,Tryz.ntmps70;go_wp2_with fail;refine H.out.mono ?_;rintro e w' ⟨rfl,rfl⟩;go_wp2_with (first | (refine UY rfl 63 _ rfl ZZ Ye ?_) | (refine Zo rfl _ _ _ rfl w.heap.size (Zd ZZ) rfl rfl 63 _ (ZG w _) Ym rfl (Yx _) ?_; rw [Zu]));exact ZL (v:= .tuple #[.agg (Zd ZZ),.bool false]) (XY (fn:=Tryz.f70) rfl _ _ w.heap.size 63 _ (0,0) _ rfl (ZG w _) Zr rfl Ym) rfl ⟨rfl,(Zp _ _).alloc (Zg _) _⟩
theorem ZaG (b n cp i g off:Nat)(v:Yd)(w:Zc)(h:w.cell? ⟨b,1,none⟩=some (.slice (some ⟨g,off,none⟩) n cp))(hi:i < n)(hr:w.rangeAt g (off+i*7) v.row) :
  Zj Zb 70 #[.pointer (some ⟨b,0,none⟩),.int .i64 i] w fun e w'=>e= .returned (.tuple #[.agg (Zd v),.bool true])∧Zs w.heap.size w w':=by
 have hB:=(Zp w.heap.size w).alloc (Zg _) (.cells (Zd ZZ) 63);have h1:(w.alloc (.cells (Zd ZZ) 63)).cell? ⟨b,1,none⟩=some (.slice (some ⟨g,off,none⟩) n cp):=ZF _ h;have pG:(w.alloc (.cells (Zd ZZ) 63)).rangeAt g (off+i*7) v.row:=fun j u hu=>ZF _ (hr j u hu)
 have H:=Za (Cs b n cp i (some ⟨g,off,none⟩) _ h1 hi);have HR:=Za pG;have hi1: ¬(i:Int)< 0:=by omega
 have UR: ¬(n:Int)≤(i:Int):=by omega
 have hi3:(i:Int)< (n:Int):=by omega
 clear h hr pG;go_enter Tryz.func70,Tryz.ntmps70;go_wp2_with fail;refine H.out.mono ?_;rintro e w' ⟨rfl,rfl⟩;go_wp2_with (first | (refine XT rfl 63 _ rfl g (off+i*7) rfl v _ HR.out Zr rfl Ym ?_) | (refine Zo rfl _ _ _ rfl w.heap.size (Zd v) rfl rfl 63 _ (ZG w _) Ym rfl (Yx v) ?_; rw [Zu]));exact ZL (v:= .tuple #[.agg (Zd v),.bool true]) (XY (fn:=Tryz.f70) rfl _ _ w.heap.size 63 _ (0,0) _ rfl (ZG w _) Zr rfl Ym) rfl ⟨rfl,(Zp _ _).alloc (Zg _) _⟩
end
section
open Go Go.RowKit Go.Maps
open Go.ChangeMaps (setBlock heap_setBlock_same heap_setBlock_other)
def Jn (w:Zc)(b:Nat)(L:List (Zl × Zl)) :Prop:=
 ∃es clock,w.heap[b]?=some (.map es clock)∧(es.toList.map fun e=>(e.key,e.val)).Perm L
section
variable {P:YO} {w w':Zc} {b B:Nat} {L:List (Zl × Zl)} {t k e:ZN}
theorem Jn.lt (h:Jn w b L) :b < w.heap.size:=by
 exact zM
theorem Jn.below (h:Jn w b L)(hb:Zs B w w')(hB:b < B) :Jn w' b L:=by
 obtain ⟨es,clock,h1,h2⟩:=h;exact ⟨es,clock,(hb.block b hB).trans h1,h2⟩
theorem Jn.drew (h:Jn w b L) :Jn w.drew b L:=h
theorem Jn.drewN (h:Jn w b L)(n:Nat) :Jn (w.drewN n) b L:=h
theorem Jn.perm {M:List (Zl × Zl)}(h:Jn w b L)(hp:L.Perm M) :Jn w b M:=by
 obtain ⟨es,clock,h1,h2⟩:=h;exact ⟨es,clock,h1,h2.trans hp⟩
theorem Ts (w:Zc) :Jn (w.alloc (.map #[] 0)) w.heap.size []:=⟨#[],0,(MapKept.heap_alloc w _).1,.nil⟩
theorem Jn.keys {es:Array MapEntry}(hp:(es.toList.map fun e=>(e.key,e.val)).Perm L)(Du: ∀p ∈ L,∃l,keyOf P k p.1=some l) : ∀x ∈ es.toList,∃l,keyOf P k x.key=some l:=
 fun x hx=>Du _ (hp.mem_iff.1 (Yk.2 ⟨x,hx,rfl⟩))
theorem Jn.lookup (h:Jn w b L)(K:Keyed P k)(ht:P.underlying t=some (.map k e)){z:Zl}(hz:(Kj e).run P w= .ok z w)(Du: ∀p ∈ L,∃l,keyOf P k p.1=some l){key:Zl}{kl:Lit}(EV:keyOf P k key=some kl) :
  (∃v,(key,v) ∈ L∧(J5 t (.map (some b)) key true).run P w= .ok (.tuple #[v,.bool true]) w)∨
   ((∀p ∈ L,p.1≠key)∧(J5 t (.map (some b)) key true).run P w= .ok (.tuple #[z,.bool false]) w):=by
 obtain ⟨es,clock,hb,hp⟩:=h
 rcases K.find w EV es.toList (Jn.keys hp Du) with ⟨h1,h2⟩ | ⟨j,e0,h1,h2,h3⟩
 ·refine .inr ⟨fun p cY e=>?_,by simp [J5,Y9 ht,Qr hb,K.check w _ EV,h1,hz,Xe]⟩;obtain ⟨x,hx,rfl⟩:=Yk.1 (hp.mem_iff.2 cY);exact h2 x hx e
 ·refine .inl ⟨e0.val,hp.mem_iff.1 (Yk.2 ⟨e0,ZB h2,by rw [h3]⟩),by simp [J5,Y9 ht,Qr hb,K.check w _ EV,h1,Xe]⟩
theorem Jn.insert (h:Jn w b L)(K:Keyed P k)(ht:P.underlying t=some (.map k e))(Du: ∀p ∈ L,∃l,keyOf P k p.1=some l){key val:Zl}{kl:Lit}(EV:keyOf P k key=some kl)(KF: ∀p ∈ L,p.1≠key) :
  ∃w',(Gr t (.map (some b)) key val).run P w= .ok () w'∧Jn w' b ((key,val)::L)∧w.grownBy w' (some b):=by
 obtain ⟨es,clock,hb,hp⟩:=h
 rcases K.find w EV es.toList (Jn.keys hp Du) with ⟨h1,h2⟩ | ⟨j,e0,h1,h2,h3⟩
 ·refine ⟨setBlock w b (.map (es.push ⟨key,val,clock⟩) (clock+1)),?_,⟨_,_,heap_setBlock_same hb _,?_⟩,⟨rfl,rfl,rfl,by simp [setBlock],fun i _ hi=>heap_setBlock_other hb _ (fun e=>hi ED)⟩⟩
  ·simp [Gr,Y9 ht,Qr hb,K.check w false EV,h1,MapKept.run_setObj_map _ hb,Xe,setBlock]
  ·rw [Array.toList_push,List.map_append];exact (List.perm_append_singleton _ _).trans (hp.cons _)
 ·exact absurd h3 (KF _ (hp.mem_iff.1 (Yk.2 ⟨e0,ZB h2,rfl⟩)))
theorem AJ {o:Oper}{a:Act}{K':Act→Zc→Prop}{Q:Exit→Act→Zc→Prop}(h:Jn w b L)(K:Keyed P k)(m x v:Yz)(ho:o.op= .insert t m x v)(hd:o.dst=none)(key val:Zl)(hm:a.eval m= .map (some b))(hx:a.eval x=key)(hv:a.eval v=val)
  (ht:P.underlying t=some (.map k e)) (Du: ∀p ∈ L,∃l,keyOf P k p.1=some l) {kl:Lit} (EV:keyOf P k key=some kl) (KF: ∀p ∈ L,p.1≠key)
  (hK: ∀w',Jn w' b ((key,val)::L)→w.grownBy w' (some b)→K' a w') :o.wp P a w K' Q:=by
 obtain ⟨w',Be,r1,r2⟩:=h.insert K ht Du EV KF (val:=val);have aB:=hK w' r1 r2;unfold Jj;simp [Xn,ho,hm,hx,hv,Be,Xe];show K' (a.put o.dst undef) w';rw [hd];exact aB
end
section
variable {P:YO} {ops:Array Oper} {Q:Exit→Act→Zc→Prop} {md:Kd} {S:Zc→Prop} {n:Nat} {L:Array Bool→Act→Zc→Prop}
theorem WT (J:Nat→Array Bool→Zc→Prop)(a:Act)
  (yY: ∀f Zt w,J (f+1) Zt w→Yw md ops Zt≠ []∧ ∀i ∈ Yw md ops Zt,i < n∧wpOp P ops Q i (fun a' w'=>a'=a∧S w'∧J f (Zt.setIfInBounds i true) w') a w)
  (Ku: ∀Zt w,J 0 Zt w→L Zt a w) : ∀f Zt w,J f Zt w→XZ P md ops Q S n L f Zt a w
 | 0,Zt,w,h=>Ku Zt w h
 | f+1,Zt,w,h=>by
  obtain ⟨h1,h2⟩:=yY f Zt w h;exact ⟨h1,fun i hi=>⟨(h2 i hi).1,wpOp_mono (fun a' w' ⟨ha,hS,hJ⟩=>⟨hS,by subst ha; exact WT J a' yY Ku f _ w' hJ⟩) (h2 i hi).2⟩⟩
def ny (ent:Nat→Zl × Zl)(at_:Nat→Nat)(base:Array Bool)(N b:Nat)(w0:Zc)(f:Nat)(Zt:Array Bool)(w:Zc) :Prop:=
 ∃D R:List Nat,R.length=f∧(D++R).Perm (Xm N)∧Zt.size=base.size∧(∀i,Zt.getD i true=(base.getD i true||D.any fun j=>at_ j==i))∧Jn w b (D.map ent)∧Zs w0.heap.size w0 w∧w0.heap.size≤b
theorem eK {ent:Nat→Zl × Zl}{at_:Nat→Nat}{base:Array Bool}{N b:Nat}{w0 w:Zc}(h:Jn w b [])(hb:Zs w0.heap.size w0 w)(h0:w0.heap.size≤b) :ny ent at_ base N b w0 N base w:=
 ⟨[],Xm N,by simp,by simp,rfl,by simp,h,hb,h0⟩
theorem p8 {ent:Nat→Zl × Zl}{at_:Nat→Nat}{base Zt:Array Bool}{N b:Nat}{w0 w:Zc}(h:ny ent at_ base N b w0 0 Zt w) :
  (∀i,Zt.getD i true=(base.getD i true||(Xm N).any fun j=>at_ j==i))∧Zt.size=base.size∧Jn w b ((Xm N).map ent)∧Zs w0.heap.size w0 w∧w0.heap.size≤b:=by
 obtain ⟨D,R,hR,hp,hs,hl,ht,hb,h0⟩:=h;obtain rfl:=List.eq_nil_of_length_eq_zero hR;rw [List.append_nil] at hp;exact ⟨fun i=>by rw [hl i,hp.any_eq],hs,ht.perm (hp.map _),hb,h0⟩
def Zbx (md:Kd)(ops:Array Oper)(n:Nat)(base:Array Bool)(N:Nat)(at_:Nat→Nat) :Bool:=
 ((Xm N).all fun j=>((Xm N).all fun j'=>!(at_ j==at_ j')||j==j')&&!(base.getD (at_ j) true)&&Nat.blt (at_ j) n&&
  (match ops[at_ j]? with | some o=>o.after.all fun e=>!(Xp md e)||base.getD e.on false | none=>false))&&
 (Xm base.size).all fun i=>base.getD i true||((Xm N).any fun j=>at_ j==i)||
  ((Xm N).all fun j=>(Xm base.size).any fun i'=>!(base.getD i' true)&&Region.waitsFor md ops i i'&&(i'==at_ j||(Xm N).all fun j'=>!(at_ j'==i')))
theorem ld {ent:Nat→Zl × Zl}{at_:Nat→Nat}{base:Array Bool}{N b:Nat}{w0:Zc}{a:Act}(hB:Zbx md ops n base N at_=true)
  (hwp: ∀j D w,j < N→(∀x ∈ D,x < N∧x≠j)→Jn w b (D.map ent)→ ∀K:Act→Zc→Prop,(∀w',Jn w' b ((j::D).map ent)→w.grownBy w' (some b)→K a w')→wpOp P ops Q (at_ j) K a w) (hS: ∀w,S w)
  (f:Nat) (Zt:Array Bool) (w:Zc) (h:ny ent at_ base N b w0 (f+1) Zt w) :
  Yw md ops Zt≠ []∧ ∀i ∈ Yw md ops Zt,i < n∧wpOp P ops Q i (fun a' w'=>a'=a∧S w'∧ny ent at_ base N b w0 f (Zt.setIfInBounds i true) w') a w:=by
 simp only [Zbx,YZ,QG,List.any_eq_true,QV,Bool.or_eq_true,Bool.not_eq_true',beq_iff_eq,beq_eq_false_iff_ne,ne_eq] at hB;have ec: ∀j j',j < N→j' < N→at_ j=at_ j'→j=j':=fun j j' h1 h2 he=>((hB.1 j h1).1.1.1 j' h2).resolve_left (fun h=>h he)
 have Mg: ∀j,j < N→base.getD (at_ j) true=false:=fun j h1=>(hB.1 j h1).1.1.2
 have XP: ∀j,j < N→at_ j < n:=fun j h1=>by simpa using (hB.1 j h1).1.2
 have hready: ∀j,j < N→ ∃o,ops[at_ j]?=some o∧ ∀e ∈ o.after,Xp md e=true→base.getD e.on false=true:=fun j h1=>by
  have:=(hB.1 j h1).2
  cases ho:ops[at_ j]? with
  | none=>rw [ho] at this; cases this
  | some o=>
   rw [ho] at this;refine ⟨o,rfl,fun e he hb=>?_⟩;have:=ZT.1 this e he;simpa [hb] using this
 have pH: ∀i,base.getD i true=false→(∃j,j < N∧at_ j=i)∨ ∀j,j < N→ ∃i',base.getD i' true=false∧Region.waitsFor md ops i i'=true∧((∀j',j' < N→at_ j'≠i')∨i'=at_ j):=fun i hi=>by
  have hib:i < base.size:=by
   rcases Ys i base.size with h | h
   ·exact h
   ·simp [VN h] at hi
  rcases hB.2 i hib with (h1 | h1) | h1
  ·rw [hi] at h1; cases h1
  ·exact .inl h1
  ·refine .inr fun j hj=>?_
   obtain ⟨i',_,⟨h2,h3⟩,h4⟩:=h1 j hj;exact ⟨i',h2,h3,h4.symm⟩
 clear hB;obtain ⟨D,R,hR,hp,hs,hl,ht,hb,h0⟩:=h;have yT:(D++R).Nodup:=hp.nodup_iff.2 List.nodup_range;have Eo: ∀j,j < N ↔ j ∈ D∨j ∈ R:=fun j=>by rw [←QV,←hp.mem_iff,List.mem_append]
 have hDR: ∀j ∈ R,j ∉ D:=fun j hj hd=>(List.nodup_append.1 yT).2.2 j hd j hj rfl
 have cU: ∀j ∈ R,Zt.getD (at_ j) true=false:=fun j hj=>by
  rw [hl,Mg j ((Eo j).2 (.inr hj)),Bool.false_or,List.any_eq_false];intro j' O3 he;obtain rfl:=ec j' j ((Eo j').2 (.inl O3)) ((Eo j).2 (.inr hj)) (by simpa using he);exact hDR j' hj O3
 cases R with
 | nil=>simp at hR
 | cons r R=>
  have hbd: ∀i,base.getD i false=true→Zt.getD i false=true:=fun i hi=>by
   have hib:i < base.size:=by
    rcases Ys i base.size with h | h
    ·exact h
    ·simp [VN h] at hi
   have h2:=hl i;have h3:base.getD i true=true:=by simp [hib] at hi ⊢; exact hi
   rw [h3,Bool.true_or] at h2;simp [hs,hib] at h2 ⊢;exact h2
  refine ⟨fun he=>?_,fun i hi=>?_⟩
  ·have hrN:r < N:=(Eo r).2 (.inr ZI);obtain ⟨o,ho,Du⟩:=hready r hrN;have:at_ r ∈ Yw md ops Zt:=VF.2 ⟨cU r ZI,o,ho,fun e he hbi=>hbd _ (Du e he hbi)⟩;rw [he] at this
   cases this
  ·obtain ⟨P9,o,ho,Du⟩:=VF.1 hi;have hub:base.getD i true=false:=by
    have:=hl i;rw [P9] at this;simp only [Bool.false_eq,Bool.or_eq_false_iff] at this;exact this.1
   rcases pH i hub with ⟨j,hj,rfl⟩ | hw
   ·have hjD:j ∉ D:=fun hd=>by
     have:=hl (at_ j);rw [P9] at this;simp only [Bool.false_eq,Bool.or_eq_false_iff,List.any_eq_false] at this;exact this.2 j hd ZI
    have hjR:j ∈ r::R:=((Eo j).1 hj).resolve_left hjD;refine ⟨XP j hj,hwp j D w hj (fun x hx=>⟨(Eo x).2 (.inl hx),fun e=>hjD (e▸hx)⟩) ht _ fun w' ht' hg=>⟨rfl,hS w',j::D,(r::R).erase j,?_,?_,by simpa using hs,fun i=>?_,ht',?_,h0⟩⟩
    ·rw [List.length_erase_of_mem hjR];omega
    ·refine List.Perm.trans ?_ hp;rw [Yh];exact List.perm_middle.symm.trans ((List.perm_cons_erase hjR).symm.append_left D)
    ·rw [List.any_cons]
     by_cases hij:at_ j=i
     ·subst hij;rw [Array.getD_eq_getD_getElem?,Array.getElem?_setIfInBounds];simp
      split <;> simp
     ·rw [getD_set_ne true hij,hl i,show (at_ j==i)=false by simpa using hij,Bool.false_or]
    ·exact hb.grown hg hb.size (fun k hk=>by injection hk with hk; omega)
   ·obtain ⟨i',Mh,hwf,hor⟩:=hw r ((Eo r).2 (.inr ZI));exfalso;unfold Region.waitsFor at hwf;rw [ho] at hwf;obtain ⟨e,he,yH⟩:=Array.any_eq_true'.1 hwf;simp only [YZ,beq_iff_eq] at yH;have h1:=Du e he yH.1;rw [yH.2] at h1;have h2:Zt.getD i' true=false:=by
     rcases hor with h | rfl
     ·rw [hl i',Mh,Bool.false_or,List.any_eq_false];intro j' O3 he';exact h j' ((Eo j').2 (.inl O3)) (by simpa using he')
     ·exact cU r ZI
    rw [getD_both h2] at h1
    cases h1
end
section
variable {P:YO} {ops:Array Oper} {Q:Exit→Act→Zc→Prop} {md:Kd} {n:Nat} {L:Array Bool→Act→Zc→Prop}
def Cz (base:Array Bool)(N:Nat)(at_:Nat→Nat) :Array Bool:=(Array.range base.size).map fun i=>base.getD i true||(Xm N).any fun j=>at_ j==i
theorem kP {ent:Nat→Zl × Zl}{at_:Nat→Nat}{Zt:Array Bool}{N b:Nat}{w0 w:Zc}{a:Act}(hB:Zbx md ops n Zt N at_=true)
  (hwp: ∀j D w,j < N→(∀x ∈ D,x < N∧x≠j)→Jn w b (D.map ent)→ ∀K:Act→Zc→Prop,(∀w',Jn w' b ((j::D).map ent)→w.grownBy w' (some b)→K a w')→wpOp P ops Q (at_ j) K a w)
  (hT:Jn w b []) (hb:Zs w0.heap.size w0 w) (h0:w0.heap.size≤b)
  (Ku: ∀w',Jn w' b ((Xm N).map ent)→Zs w0.heap.size w0 w'→L (Cz Zt N at_) a w') :XZ P md ops Q (fun _=>True) n L N Zt a w:=by
 refine WT (ny ent at_ Zt N b w0) a (fun f l w h=>ld hB hwp (fun _=>trivial) f l w h) (fun l w h=>?_) N Zt w (eK hT hb h0);obtain ⟨h1,h2,h3,h4,_⟩:=p8 h;have:l=Cz Zt N at_:=by
  refine Array.ext (by simp [Cz,h2]) fun i hi Mh=>?_
  have:=h1 i;simp [Cz,hi] at this ⊢;exact this
 rw [this];exact Ku w h3 h4
theorem TG {o:Oper}{a:Act}{w:Zc}{K:Act→Zc→Prop}(t:ZN)(ho:o.op= .makeMap t none)(h:K (a.put o.dst (.map (some w.heap.size))) (w.alloc (.map #[] 0))) :o.wp P a w K Q:=by
 unfold Jj Xn;simp only [ho,Option.map_none,Yi,run_makeMap,ZQ,YC];exact h
end
section
variable {P:YO}
theorem bo {k:ZN}{f0 f1:Field}{q0 q1:IntKind}{n:Nat}(hu:P.underlying k=some (.struct #[f0,f1]))(h0:P.underlying f0.type=some (.int q0))(h1:P.underlying f1.type=some (.int q1))
  (hk:P.keyType k=true) (hn:P.types.size=n+1) (hC:P.cellsOf k=2) (hC0:P.cellsOf f0.type=1) (hC1:P.cellsOf f1.type=1) (ho0:f0.offset=0) (ho1:f1.offset=1) (Mm:(f0.name != "_")=true) (aM:(f1.name != "_")=true)
  {x y:Int} (hx:(Xg q0 x).wf=true) (hy:(Xg q1 y).wf=true) : ∃l,keyOf P k (.agg #[.int q0 x,.int q1 y])=some l:=by
 have e0: ∀d,P.keyLits (d+1) f0.type [.int q0 x]=some [.int q0 x]:=fun d=>by simp [Program.keyLits,h0,hx]
 have e1: ∀d,P.keyLits (d+1) f1.type [.int q1 y]=some [.int q1 y]:=fun d=>by simp [Program.keyLits,h1,hy]
 have e:P.keyLits (n+1+1) k [.int q0 x,.int q1 y]=some [.int q0 x,.int q1 y]:=by
  unfold Program.keyLits;simp only [hu];rw [if_pos ⟨by simp [hC],by simp [Mm,aM]⟩];simp [ho0,ho1,hC0,hC1,e0,e1]
 have hkf:(P.keyType k&&(Value.agg #[.int q0 x,.int q1 y]).formed P k)=true:=by simp [hk,Value.formed,hu,hC]
 have he:keyOf P k (.agg #[.int q0 x,.int q1 y])=(P.keyLits (P.types.size+1) k [.int q0 x,.int q1 y]).map fun ls=> .string (keyBytes ls):=by
  unfold keyOf;simp only [hu];rw [if_pos hkf];rfl
 rw [he,hn,e];exact ⟨_,rfl⟩
end
end
section
open Go Go.RowKit
section
variable {P:YO} {ops:Array Oper} {Q:Exit→Act→Zc→Prop} {md:Kd} {S:Zc→Prop}
theorem hfO {n f i:Nat}{L:Array Bool→Act→Zc→Prop}{Zt:Array Bool}{a:Act}{w:Zc}
  (h:wpOp P ops Q i (fun a' w'=>S w'∧XZ P md ops Q S n L f (Zt.setIfInBounds i true) a' w') a w) (hr:Yw md ops Zt=[i]:=by kernel_rfl) (hi:i < n:=by first | omega | simp) :XZ P md ops Q S n L (f+1) Zt a w:=Di hr hi h
theorem M0 {P:YO}{id:Nat}{Q:Exit→Act→Zc→Prop}{a:Act}{w:Zc}{l:List Oper}(S:Zc→Prop)(n f:Nat)(ks:List Nat)(hS:S w.drew)
  (h:ZW P l.toArray S (fun a'=>XZ P .any l.toArray (QE Q) S n (fun Zt a' w'=>Vg .any l.toArray (l.toArray.size - n) n Zt=true∧YY P l.toArray (QE Q) (l.drop n) a' w') f (US ks (Qv l.toArray.size false)) a' w.drew) (ks.filterMap fun k=>l.toArray[k]?) a)
  (hm:P.follows .mixedOrders=true:=by kernel_rfl)
  (hB:(Qh l.toArray&&decide (n < l.toArray.size)&&Vh .any l.toArray n&&Vp .any l.toArray n&&Fe .any l.toArray n ks (Qv l.toArray.size false)&&decide (f+ks.length=n))=true:=by kernel_rfl) :
  (Code.region id l.toArray true).wp P Q a w:=PT S n f ks hm hB hS h
theorem hfT {n f m:Nat}{l:List Oper}{Q:Exit→Act→Zc→Prop}{a:Act}{w:Zc}{Zt:Array Bool}(S':Zc→Prop)(ks:List Nat)(hS:S' w)
  (h:ZW P l.toArray S' (fun a'=>XZ P .any l.toArray (QE Q) S' n (fun Zt a' w'=>Vg .any l.toArray (l.toArray.size - n) n Zt=true∧YY P l.toArray (QE Q) (l.drop n) a' w') f (US ks Zt) a' w) (ks.filterMap fun k=>l.toArray[k]?) a)
  (sR: ∀w,S' w→S w:=by exact fun _ h=>h)
  (hB:(Qh l.toArray&&decide (n < l.toArray.size)&&Vh .any l.toArray n&&Vp .any l.toArray n&&Nl .any l.toArray n Zt&&Fe .any l.toArray n ks Zt&&decide (f+ks.length=m))=true:=by kernel_rfl) :
  XZ P .any l.toArray (QE Q) S n (fun Zt a' w'=>Vg .any l.toArray (l.toArray.size - n) n Zt=true∧YY P l.toArray (QE Q) (l.drop n) a' w') m Zt a w:=headF_takes S' ks sR hB hS h
theorem JZ {i:Nat}{o:Oper}{a:Act}{w:Zc}{K:Act→Zc→Prop}{f:FuncId}{xs:Array Yz}{ui:Array ZN}(vs:Array Zl)
  (BX: ∀args w,(callFunc f args).run P w= .ok (.enter f args) w) (hC:Zj P f vs w fun e w'=> ∃v,e= .returned v∧K (a.put o.dst v) w') (hi:ops[i]?=some o:=by rfl) (hg:o.guard=none:=by rfl)
  (ho:o.op= .call { callee:= .value (.func f),args:=xs,argTypes:=ui}:=by rfl) (hvs: #[]++xs.map a.eval++ #[]=vs:=by kernel_rfl) :wpOp P ops Q i K a w:=YD hi hg (TF ho vs hvs BX hC)
end
end
section
open Go Go.RowKit Go.Maps
def JC (s e:Int) :Int:=
 if e=7 then(if s=2∨s=3 then 3 else if s=4∨s=5 then 4 else 0)
 else if e=6∧s=2 then 7 else if 1≤e∧e≤5∧s=e then s+1 else 0
def ki (s e:Int) :Zl:= .agg #[.int .i64 s,.int .i64 e]
def Gx:List (Int × Int × Int):= [(1,1,2),(2,2,3),(3,3,4),(4,4,5),(5,5,6),(2,6,7),(2,7,3),(3,7,3),(4,7,4),(5,7,4)]
def kh (x:Int × Int × Int) :Zl × Zl:=(ki x.1 x.2.1,.int .i64 x.2.2)
def BP (j:Nat) :Zl × Zl:=kh (Gx.getD j (0,0,0))
theorem uO:(Xm 10).map BP=Gx.map kh:=rfl
theorem qQ {s e:Int}(h:JC s e≠0) :(s,e,JC s e) ∈ Gx:=by
 unfold JC at h ⊢
 by_cases h7:e=7
 ·subst h7;rw [if_pos rfl] at h ⊢
  by_cases a:s=2∨s=3
  ·rw [if_pos a]
   rcases a with rfl | rfl <;> decide
  ·rw [if_neg a] at h ⊢
   by_cases b:s=4∨s=5
   ·rw [if_pos b]
    rcases b with rfl | rfl <;> decide
   ·rw [if_neg b] at h;exact absurd rfl h
 ·rw [if_neg h7] at h ⊢
  by_cases a:e=6∧s=2
  ·obtain ⟨rfl,rfl⟩:=a;decide
  ·rw [if_neg a] at h ⊢
   by_cases b:1≤e∧e≤5∧s=e
   ·rw [if_pos b];obtain ⟨b1,b2,rfl⟩:=b;obtain rfl | rfl | rfl | rfl | rfl:s=1∨s=2∨s=3∨s=4∨s=5:=by omega
    all_goals decide
   ·rw [if_neg b] at h;exact absurd rfl h
theorem qg: ∀x ∈ Gx,JC x.1 x.2.1=x.2.2∧x.2.2≠0:=by decide
theorem pX {s e s' e':Int}(h:ki s e=ki s' e') :s=s'∧e=e':=by
 unfold ki at h;simp only [Value.agg.injEq,Array.mk.injEq,List.cons.injEq,Value.int.injEq,true_and,and_true] at h;exact h
theorem pW:Keyed Zb 352:=Keyed.of_law (deep_law_laid (m:=2) Ye Zm (of_decide_eq_true Ye) Ye Ye)
theorem Zci: ∃n,Tryz.prog.types.size=n+1:=⟨_,show Tryz.prog.types.size=(Tryz.prog.types.size - 1)+1 by kernel_rfl⟩
theorem pU {s e:Int}(hs:(Xg .i64 s).wf=true)(he:(Xg .i64 e).wf=true) : ∃l,keyOf Zb 352 (ki s e)=some l:=by
 obtain ⟨n,hn⟩:=Zci;exact bo Tryz.underlying352 Yc Yc Ye hn Ye Ye Ye rfl rfl rfl rfl hs he
theorem WY: ∀p ∈ Gx.map kh,∃l,keyOf Zb 352 p.1=some l:=fun p hp=>by
 obtain ⟨x,hx,rfl⟩:=Yk.1 hp;have: ∀x ∈ Gx,(Xg .i64 x.1).wf=true∧(Xg .i64 x.2.1).wf=true:=by decide
 exact pU (this x hx).1 (this x hx).2
theorem ZgI (w:Zc) :(Kj 3).run Zb w= .ok (.int .i64 0) w:=by kernel_rfl
theorem look {w:Zc}{b:Nat}(h:Jn w b (Gx.map kh)){s e:Int}(hs:(Xg .i64 s).wf=true)(he:(Xg .i64 e).wf=true) :
  (J5 349 (.map (some b)) (ki s e) true).run Zb w= .ok (.tuple #[.int .i64 (JC s e),.bool (JC s e != 0)]) w:=by
 obtain ⟨l,hl⟩:=pU hs he
 rcases h.lookup pW Tryz.underlying349 (ZgI w) WY hl with ⟨v,hv,hr⟩ | ⟨KF,hr⟩
 ·obtain ⟨x,hx,hxe⟩:=Yk.1 hv;unfold kh at hxe;simp only [Prod.mk.injEq] at hxe;obtain ⟨h1,h2⟩:=pX hxe.1;obtain ⟨h3,h4⟩:=qg x hx;rw [h1,h2] at h3;rw [hr,h3,←hxe.2];simp [h4]
 ·have h0:JC s e=0:=by
   rcases Decidable.em (JC s e=0) with h | h
   ·exact h
   ·exact absurd rfl (KF _ (Yk.2 ⟨_,qQ h,rfl⟩))
  rw [hr,h0];rfl
theorem af {D:List Nat}(h: ∀x ∈ D,x < 10) : ∀p ∈ D.map BP,∃l,keyOf Zb 352 p.1=some l:=fun p hp=>by
 obtain ⟨x,hx,rfl⟩:=Yk.1 hp;refine WY _ ?_;rw [←uO];exact Yk.2 ⟨x,QV.2 (h x hx),rfl⟩
theorem Zaz: ∀x,x < 10→ ∀j,j < 10→x≠j→(BP x).1≠(BP j).1:=fun x hx j hj KF he=>by
 have key: ∀x,x < 10→ ∀j,j < 10→(Gx.getD x (0,0,0)).1=(Gx.getD j (0,0,0)).1→(Gx.getD x (0,0,0)).2.1=(Gx.getD j (0,0,0)).2.1→x=j:=by decide
 obtain ⟨h1,h2⟩:=pX he;exact KF (key x hx j hj h1 h2)
theorem Gk {P:YO}{ops:Array Oper}{Q:Exit→Act→Zc→Prop}{a:Act}{b j:Nat}{D:List Nat}{w:Zc}{K:Act→Zc→Prop}{i s:Nat}{o:Oper}(hP:P=Zb)
  (ho:ops[i]?=some o) (hg:o.guard=none) (hd:o.dst=none) (hop:o.op= .insert 349 (.tmp 1) (.tmp s) (.const (BP j).2)) (hm:a.eval (.tmp 1)= .map (some b)) (hx:a.eval (.tmp s)=(BP j).1)
  (hj:j < 10) (hD: ∀x ∈ D,x < 10∧x≠j) (hT:Jn w b (D.map BP)) (hK: ∀w',Jn w' b ((j::D).map BP)→w.grownBy w' (some b)→K a w') :wpOp P ops Q i K a w:=by
 subst hP;obtain ⟨l,hl⟩:=af (D:= [j]) LF (BP j) ZI;exact YD ho hg (AJ hT pW _ _ _ hop hd (BP j).1 (BP j).2 hm hx rfl Tryz.underlying349 (af fun x hx=>(hD x hx).1) hl (fun p hp=>by
  obtain ⟨x,hx,rfl⟩:=Yk.1 hp;exact Zaz x (hD x hx).1 j hj (hD x hx).2) hK)
theorem mr (w:Zc) :Zj Zb 281 #[] w fun e w'=> ∃b,e= .returned (.map (some b))∧Jn w' b (Gx.map kh)∧Zs w.heap.size w w':=by
 go_enter Tryz.func281,Tryz.ntmps281;go_wp2;refine M0 (fun _=>True) 21 11 [1,3,5,7,9,11,13,15,17,19] trivial ?_;refine Kg ?_;refine gK ?_;refine Gm (ki 1 1) rfl (fun w=>by kernel_rfl) ?_;refine Gm (ki 2 2) rfl (fun w=>by kernel_rfl) ?_;refine Gm (ki 3 3) rfl (fun w=>by kernel_rfl) ?_;refine Gm (ki 4 4) rfl (fun w=>by kernel_rfl) ?_;refine Gm (ki 5 5) rfl (fun w=>by kernel_rfl) ?_;refine Gm (ki 2 6) rfl (fun w=>by kernel_rfl) ?_;refine Gm (ki 2 7) rfl (fun w=>by kernel_rfl) ?_;refine Gm (ki 3 7) rfl (fun w=>by kernel_rfl) ?_;refine Gm (ki 4 7) rfl (fun w=>by kernel_rfl) ?_;refine Gm (ki 5 7) rfl (fun w=>by kernel_rfl) ?_;refine Qc ?_;refine Qe ?_;refine hfO (i:=0) ?_;refine YD rfl rfl (TG 349 rfl ⟨trivial,?_⟩);refine Qe ?_;refine kP (ent:=BP) (at_:=fun j=>2*j+2) (w0:=w) (b:=w.heap.size) Ye ?_ (Ts w.drew) ((Zp _ w).drew.alloc (Zg _) _) (Zg _) ?_
 ·intro j D w1 hj hD hT K hK;obtain rfl | rfl | rfl | rfl | rfl | rfl | rfl | rfl | rfl | rfl:j=0∨j=1∨j=2∨j=3∨j=4∨j=5∨j=6∨j=7∨j=8∨j=9:=by omega
  ·exact Gk (i:=2) (s:=2) rfl rfl rfl rfl rfl rfl rfl hj hD hT hK
  ·exact Gk (i:=4) (s:=3) rfl rfl rfl rfl rfl rfl rfl hj hD hT hK
  ·exact Gk (i:=6) (s:=4) rfl rfl rfl rfl rfl rfl rfl hj hD hT hK
  ·exact Gk (i:=8) (s:=5) rfl rfl rfl rfl rfl rfl rfl hj hD hT hK
  ·exact Gk (i:=10) (s:=6) rfl rfl rfl rfl rfl rfl rfl hj hD hT hK
  ·exact Gk (i:=12) (s:=7) rfl rfl rfl rfl rfl rfl rfl hj hD hT hK
  ·exact Gk (i:=14) (s:=8) rfl rfl rfl rfl rfl rfl rfl hj hD hT hK
  ·exact Gk (i:=16) (s:=9) rfl rfl rfl rfl rfl rfl rfl hj hD hT hK
  ·exact Gk (i:=18) (s:=10) rfl rfl rfl rfl rfl rfl rfl hj hD hT hK
  ·exact Gk (i:=20) (s:=11) rfl rfl rfl rfl rfl rfl rfl hj hD hT hK
 ·intro w1 hT hb;refine ⟨by kernel_rfl,?_⟩;simp only [qD];have HT:=Za hT;have HB:=Za hb;clear hT hb;go_wp2;refine GM ?_;go_wp2;go_ret;exact ⟨_,rfl,HT.out,HB.out⟩
end
section
open Go Go.RowKit Go.Maps
theorem bB (s e:Int)(w:Zc)(hs:(Xg .i64 s).wf=true)(he:(Xg .i64 e).wf=true) :
  Zj Zb 245 #[.int .i64 s,.int .i64 e] w fun x w'=>x= .returned (.tuple #[.int .i64 (JC s e),.bool (JC s e != 0)])∧Zs w.heap.size w w':=by
 go_enter Tryz.func245,Tryz.ntmps245;go_wp2_with (go_at_call 281; refine (mr _).mono ?_; rintro x w' ⟨b,rfl,hT,hb⟩; have hl:=look hT hs he; unfold ki at hl; have HB:=Za hb; clear hT hb);go_ret2;exact ⟨rfl,HB.out⟩
end
section
open Go Go.ChangeShapes Go.WideShapes Go.RowKit Go.Deep
def Zd8 (x0 x1 x2 x3 x4 x5 x6 x7 x8 x9 x10 x11 x12 x13 x14 x15 x16 x17 x18 x19:Int) :Nat→Int
 | 0=>x0
 | 1=>x1
 | 2=>x2
 | 3=>x3
 | 4=>x4
 | 5=>x5
 | 6=>x6
 | 7=>x7
 | 8=>x8
 | 9=>x9
 | 10=>x10
 | 11=>x11
 | 12=>x12
 | 13=>x13
 | 14=>x14
 | 15=>x15
 | 16=>x16
 | 17=>x17
 | 18=>x18
 | 19=>x19
 | _=>0
theorem open_T24 {H:Type}{enc:ZN × Zl→H}{w:Zc}{base:Nat}{spare:Nat→Bool}{held:Bool}{r:Reach}{b0:Nat}{v:Zl}{d:DataW H}{p:List MemPlace}
  (hv:Value.okWide Zb w r b0 24 v) (h:DataW.Trod enc Zb w base spare held 24 v d p) : ∃c:Nat→Int,v= .agg (Zk c)∧AQ c:=by
 obtain ⟨cs,rfl,Er,H⟩:=open_struct_ints Tryz.underlying24 Ye Ye hv h;obtain ⟨n0,h0,w0⟩:=H 0 _ .i64 rfl Yc;obtain ⟨n1,h1,w1⟩:=H 1 _ .i64 rfl Yc;obtain ⟨n2,h2,w2⟩:=H 2 _ .u64 rfl Xz;obtain ⟨n3,h3,w3⟩:=H 3 _ .u64 rfl Xz;obtain ⟨n4,h4,w4⟩:=H 4 _ .u64 rfl Xz;obtain ⟨n5,h5,w5⟩:=H 5 _ .u64 rfl Xz;obtain ⟨n6,h6,w6⟩:=H 6 _ .u64 rfl Xz;obtain ⟨n7,h7,w7⟩:=H 7 _ .u64 rfl Xz;obtain ⟨n8,h8,w8⟩:=H 8 _ .u64 rfl Xz;obtain ⟨n9,h9,w9⟩:=H 9 _ .u64 rfl Xz;obtain ⟨n10,TQ,zi⟩:=H 10 _ .i64 rfl Yc;obtain ⟨n11,UP,zj⟩:=H 11 _ .i64 rfl Yc;obtain ⟨n12,TR,w12⟩:=H 12 _ .i64 rfl Yc;obtain ⟨n13,kL,w13⟩:=H 13 _ .i64 rfl Yc;obtain ⟨n14,h14,w14⟩:=H 14 _ .i64 rfl Yc;obtain ⟨n15,kM,w15⟩:=H 15 _ .i64 rfl Yc;obtain ⟨n16,oY,w16⟩:=H 16 _ .i64 rfl Yc;obtain ⟨n17,h17,w17⟩:=H 17 _ .i64 rfl Yc;obtain ⟨n18,h18,w18⟩:=H 18 _ .u64 rfl Xz;obtain ⟨n19,h19,w19⟩:=H 19 _ .u64 rfl Xz;obtain ⟨l⟩:=cs
 match l,Er with
 | [c0,c1,c2,c3,c4,c5,c6,c7,c8,c9,c10,c11,c12,c13,c14,c15,c16,c17,c18,c19],_=>
  obtain rfl:=ZS h0;obtain rfl:=ZS h1;obtain rfl:=ZS h2;obtain rfl:=ZS h3;obtain rfl:=ZS h4;obtain rfl:=ZS h5;obtain rfl:=ZS h6;obtain rfl:=ZS h7;obtain rfl:=ZS h8;obtain rfl:=ZS h9;obtain rfl:=ZS TQ;obtain rfl:=ZS UP;obtain rfl:=ZS TR;obtain rfl:=ZS kL;obtain rfl:=ZS h14;obtain rfl:=ZS kM;obtain rfl:=ZS oY;obtain rfl:=ZS h17;obtain rfl:=ZS h18;obtain rfl:=ZS h19;refine ⟨Zd8 n0 n1 n2 n3 n4 n5 n6 n7 n8 n9 n10 n11 n12 n13 n14 n15 n16 n17 n18 n19,rfl,fun k hk=>?_⟩;have:k=0∨k=1∨k=2∨k=3∨k=4∨k=5∨k=6∨k=7∨k=8∨k=9∨k=10∨k=11∨k=12∨k=13∨k=14∨k=15∨k=16∨k=17∨k=18∨k=19:=by omega
  rcases this with rfl | rfl | rfl | rfl | rfl | rfl | rfl | rfl | rfl | rfl | rfl | rfl | rfl | rfl | rfl | rfl | rfl | rfl | rfl | rfl
  ·exact w0
  ·exact w1
  ·exact w2
  ·exact w3
  ·exact w4
  ·exact w5
  ·exact w6
  ·exact w7
  ·exact w8
  ·exact w9
  ·exact zi
  ·exact zj
  ·exact w12
  ·exact w13
  ·exact w14
  ·exact w15
  ·exact w16
  ·exact w17
  ·exact w18
  ·exact w19
end
section
open Go.RowKit
def KR (w:Zc)(b:Nat)(D P B C:Int) :Prop:=Blk w b 182 #[.int .u64 D,.int .u64 P,.int .u64 B,.int .u64 C]
def yk (w:Zc)(d:Nat)(D P B C:Int) :Prop:=Blk w d 111 #[.int .u64 C,.int .u64 D,.int .u64 P,.int .u64 B]
def JJ (D P B C:Int) :Prop:=0≤P∧0≤B∧P+B≤D∧D≤18446744073709551615∧D - P - B≤C∧C≤18446744073709551615
section
variable {w w':Zc} {b d:Nat} {D P B C:Int}
theorem KR.cells (h:KR w b D P B C) :w.cell? ⟨b,0,none⟩=some (.int .u64 D)∧w.cell? ⟨b,1,none⟩=some (.int .u64 P)∧w.cell? ⟨b,2,none⟩=some (.int .u64 B)∧w.cell? ⟨b,3,none⟩=some (.int .u64 C):=
 ⟨Yg h 0,Yg h 1,Yg h 2,Yg h 3⟩
theorem yk.cells (h:yk w d D P B C) :w.cell? ⟨d,0,none⟩=some (.int .u64 C)∧w.cell? ⟨d,1,none⟩=some (.int .u64 D)∧w.cell? ⟨d,2,none⟩=some (.int .u64 P)∧w.cell? ⟨d,3,none⟩=some (.int .u64 B):=
 ⟨Yg h 0,Yg h 1,Yg h 2,Yg h 3⟩
end
theorem IU (b:Nat)(D P B:Int)(w:Zc)(h0:w.cell? ⟨b,0,none⟩=some (.int .u64 D))(h1:w.cell? ⟨b,1,none⟩=some (.int .u64 P))(h2:w.cell? ⟨b,2,none⟩=some (.int .u64 B))
  (hP:0≤P) (hB:0≤B) (hD:P+B≤D) (hm:D≤18446744073709551615) :
  Zj Zb 234 #[.pointer (some ⟨b,0,none⟩)] w fun e w'=>e= .returned (.int .u64 (D - P - B))∧ ∃m,w'=w.drewN m:=by
 go_enter Tryz.func234,Tryz.ntmps234;go_wp2;go_quiet (skip);go_wp2;go_ret;exact ⟨rfl,_,rfl⟩
theorem xu (b:Nat)(w:Zc) :Zj Zb 275 #[.pointer (some ⟨b,0,none⟩),.int .i64 0] w fun e w'=>e= .returned (.pointer (some ⟨b,0,none⟩))∧w=w':=by
 exact sd
theorem xw (b:Nat)(w:Zc) :Zj Zb 275 #[.pointer (some ⟨b,0,none⟩),.int .i64 1] w fun e w'=>e= .returned (.pointer (some ⟨b,1,none⟩))∧w=w':=by
 exact sd
theorem xx (b:Nat)(w:Zc) :Zj Zb 275 #[.pointer (some ⟨b,0,none⟩),.int .i64 2] w fun e w'=>e= .returned (.pointer (some ⟨b,2,none⟩))∧w=w':=by
 exact sd
theorem vO (C:Int)(w:Zc) :
  Zj Zb 74 #[.int .u64 C] w fun e w'=>e= .returned (.pointer (some ⟨w.heap.size,0,none⟩))∧w.alloc (.cells #[.int .u64 0,.int .u64 0,.int .u64 0,.int .u64 C] 182)=w':=by
 go_enter Tryz.func74,Tryz.ntmps74;exact UI
theorem ZbO (C:Int)(w:Zc)(c0:0≤C)(c1:C≤18446744073709551615) :
  Zj Zb 74 #[.int .u64 C] w fun e w'=>e= .returned (.pointer (some ⟨w.heap.size,0,none⟩))∧KR w' w.heap.size 0 0 0 C∧JJ 0 0 0 C∧Zs w.heap.size w w'∧w'.heap.size=w.heap.size+1:=
 (vO C w).mono fun e w' ⟨he,hw⟩=>⟨he,hw▸Zv _ _ _,⟨by omega,by omega,by omega,by omega,by omega,c1⟩,hw▸(Zp _ _).alloc (Zg _) _,by rw [←hw]; simp⟩
theorem zd:(Tryz.prog.info? 132).map (·.size)=some 3:=by kernel_rfl
theorem WX:(Tryz.prog.info? 180).map (·.size)=some 3:=by kernel_rfl
theorem fY (b:Nat)(D P B C:Int)(w:Zc)(h:KR w b D P B C) :
  Zj Zb 52 #[.pointer (some ⟨b,0,none⟩)] w fun e w'=>e= .returned (.agg #[.int .u64 D,.int .u64 P,.int .u64 B])∧Zs w.heap.size w w':=by
 have hr:(w.alloc (.cells #[.int .u64 0,.int .u64 0,.int .u64 0] 132)).rangeAt b 0 [.int .u64 D,.int .u64 P,.int .u64 B]:=by
  have hb:=YA h (.cells #[.int .u64 0,.int .u64 0,.int .u64 0] 132);intro j v hv;have hj:j < 3:=(Zi.1 hv).1;rw [ZX,Yg hb j];obtain rfl | rfl | rfl:j=0∨j=1∨j=2:=by omega
  all_goals exact hv
 have HR:=Za hr;clear h hr;go_enter Tryz.func52,Tryz.ntmps52;go_wp2_with (first | (refine Jt rfl 180 _ rfl b 0 rfl _ _ HR.out GH rfl WX ?_) | (refine Zo rfl _ _ _ rfl w.heap.size #[.int .u64 D,.int .u64 P,.int .u64 B] rfl rfl 132 _ (ZG w _) zd rfl rfl ?_; rw [Zu]));exact ZL (v:= .agg #[.int .u64 D,.int .u64 P,.int .u64 B]) (results_cell_row (fn:=Tryz.f52) rfl _ _ w.heap.size 132 _ (0,0) _ rfl (ZG w _) Tryz.underlying132 rfl zd) rfl ⟨rfl,(Zp _ _).alloc (Zg _) _⟩
end
section
open Go.RowKit
theorem oU (y x:Int)(i:Nat)(hy0:0≤y)(hy1:y≤18446744073709551615)(ej:0≤x)(iH:x≤18446744073709551615) :0≤ [y,x].getD i 0∧[y,x].getD i 0≤18446744073709551615:=by
 match i with
 | 0=>exact ⟨hy0,hy1⟩
 | 1=>exact ⟨ej,iH⟩
 | i+2=>simp
theorem IH (g:Nat)(y x:Int)(w:Zc)(h:Blk w g 22 #[.int .u64 y,.int .u64 x])(hy0:0≤y)(hy1:y≤18446744073709551615)(ej:0≤x)(iH:x≤18446744073709551615) :
  Zj Zb 23 #[.slice (some ⟨g,0,none⟩) 2 2] w fun e w'=>e= .returned (.tuple #[.int .u64 (Hl [y,x] 2),.bool (BW [y,x] 2)])∧w=w':=
 M7 g 0 2 2 [y,x] w Zm (fun i hi=>by
  rw [ZX,Yg h i];obtain rfl | rfl:i=0∨i=1:=by omega
  all_goals rfl) (fun i=>oU y x i hy0 hy1 ej iH)
theorem jd {y x:Int}(h:y+x≤18446744073709551615) :BW [y,x] 2=true∧Hl [y,x] 2=y+x:=by
 have e:QB [y,x] 2=y+x:=by simp [QB]
 have:=M8 (z:= [y,x]) (n:=2) (by rw [e]; exact h);rwa [e] at this
theorem jc {y x:Int}(h: ¬y+x≤18446744073709551615) :BW [y,x] 2=false∧Hl [y,x] 2=0:=by
 have e:QB [y,x] 2=y+x:=by simp [QB]
 exact PZ (z:= [y,x]) (n:=2) (by rw [e]; exact h)
theorem RD (g:Nat)(y x:Int)(w:Zc)(h:Blk w g 22 #[.int .u64 y,.int .u64 x])(hy0:0≤y)(ej:0≤x)(hs:y+x≤18446744073709551615) :
  Zj Zb 23 #[.slice (some ⟨g,0,none⟩) 2 2] w fun e w'=>e= .returned (.tuple #[.int .u64 (y+x),.bool true])∧w=w':=by
 have:=IH g y x w h hy0 Zm ej Zm;rwa [(jd hs).1,(jd hs).2] at this
theorem RB (g:Nat)(y x:Int)(w:Zc)(h:Blk w g 22 #[.int .u64 y,.int .u64 x])(hy0:0≤y)(hy1:y≤18446744073709551615)(ej:0≤x)(iH:x≤18446744073709551615)(hs: ¬y+x≤18446744073709551615) :
  Zj Zb 23 #[.slice (some ⟨g,0,none⟩) 2 2] w fun e w'=>e= .returned (.tuple #[.int .u64 0,.bool false])∧w=w':=by
 have:=IH g y x w h hy0 hy1 ej iH;rwa [(jc hs).1,(jc hs).2] at this
theorem pN:(Tryz.prog.info? 305).map (·.size)=some 2:=by kernel_rfl
theorem Ff:(Tryz.prog.info? 22).map (fun i=>(i.zero,i.size))=some (some (.int .u64 0),1):=by kernel_rfl
theorem AD (s b:Nat)(hs:s < 3)(w:Zc) :Zj Zb 275 #[.pointer (some ⟨b,0,none⟩),.int .i64 s] w fun e w'=>e= .returned (.pointer (some ⟨b,s,none⟩))∧w=w':=by
 obtain rfl | rfl | rfl:s=0∨s=1∨s=2:=by omega
 ·exact xu b w
 ·exact xw b w
 ·exact xx b w
theorem Aa {w:Zc}{b:Nat}{D P B C:Int}(h:KR w b D P B C) :w.rangeAt b 0 [.int .u64 D,.int .u64 P,.int .u64 B]:=by
 exact Zf6
theorem Cx {w:Zc}{b:Nat}{D P B C D' P' B':Int}(h:KR w b D P B C) :KR (w.setCells b 0 [.int .u64 D',.int .u64 P',.int .u64 B']) b D' P' B' C:=
 Vy (Vy (Vy h 0 (.int .u64 D')) 1 (.int .u64 P')) 2 (.int .u64 B')
theorem Wi {a w:Zc}{b:Nat}(h:a.grownBy w (some b))(u0 u1 u2:Zl) :a.grownBy (w.setCells b 0 [u0,u1,u2]) (some b):=
 QN (QN (QN h (.inl rfl) u0) (.inl rfl) u1) (.inl rfl) u2
theorem IX (s b g:Nat)(D P B C D' P' B' x y:Int)(w:Zc)(hb:KR w b D P B C)(hg:Blk w g 305 #[.int .i64 s,.int .u64 x])(hs:s < 3)
  (hy:(#[.int .u64 D,.int .u64 P,.int .u64 B] :Array Zl)[s]?=some (.int .u64 y)) (hup:(#[.int .u64 D,.int .u64 P,.int .u64 B] :Array Zl).setIfInBounds s (.int .u64 (y+x))= #[.int .u64 D',.int .u64 P',.int .u64 B'])
  (y0:0≤y) (x0:0≤x) (ME:y+x≤18446744073709551615) :
  Zj Zb 235 #[.pointer (some ⟨b,0,none⟩),.slice (some ⟨g,0,none⟩) 1 1] w fun e w'=>e= .returned (.bool true)∧KR w' b D' P' B' C∧w.grownBy w' (some b):=by
 have HR:=Za (Aa hb);have HB:=Za hb;have HG:=Za hg;have HY:=Za hy;have HU:=Za hup;have HT:=Za (fun b w=>AD s b hs w);have HL:=Za (Blk.lt hb);have HLg:=Za (Blk.lt hg);have HN:Hid (∀(w:Zc),Blk (w.alloc (.cells #[.int .u64 D,.int .u64 P,.int .u64 B] 180)) w.heap.size 180 #[.int .u64 D,.int .u64 P,.int .u64 B]):=Za (fun w=>Zv w _ _);clear hb hg hy hup;go_enter Tryz.func235,Tryz.ntmps235;go_wp2_with (first | (refine Jt rfl 180 _ rfl b 0 rfl _ _ HR.out GH rfl WX ?_) | (refine Zo rfl _ _ _ rfl w.heap.size #[.int .u64 D,.int .u64 P,.int .u64 B] rfl rfl 180 _ (ZG w _) WX rfl rfl ?_; rw [Zu]));go_loopw [16] (fun s16 wr=> ∃(k:Nat) (cs:Array Zl),s16= .int .i64 k∧Hid (k=0∧cs= #[.int .u64 D,.int .u64 P,.int .u64 B]∨k=1∧cs= #[.int .u64 D',.int .u64 P',.int .u64 B'])∧Hid (Blk wr w.heap.size 180 cs)∧Zs w.heap.size w wr) (fun s16 _=>1 -(intOf s16).toNat)
 case atStart=>exact ⟨0,_,rfl,Za (.inl ⟨rfl,rfl⟩),Za (Zv w _ _),(Zp _ _).alloc (Zg _) _⟩
 case round=>
  obtain ⟨k,cs,rfl,HK,HC,BR⟩:=hrel;have hk:k=0∨k=1:=HK.out.elim (fun h=> .inl h.1) (fun h=> .inr h.1)
  rcases hk with rfl | rfl
  ·have Fi:cs= #[.int .u64 D,.int .u64 P,.int .u64 B]:=HK.out.elim (fun h=>h.2) (fun h=>by cases h.1);subst Fi;clear HK;have g0:wr.cell? ⟨g,0,none⟩=some (.int .i64 s):=(BR.cell (p:=⟨g,0,none⟩) HLg.out).trans (HG.out.cell 0);have g1:wr.cell? ⟨g,1,none⟩=some (.int .u64 x):=(BR.cell (p:=⟨g,1,none⟩) HLg.out).trans (HG.out.cell 1);go_wp2_with (first | (refine Zo rfl _ _ _ rfl wr.heap.size #[.int .i64 s,.int .u64 x] rfl rfl 305 _ (ZG wr _) pN rfl rfl ?_; rw [Zu]) | fail);refine (HT.out _ _).mono ?_;rintro e w1 ⟨rfl,PK⟩;have B1:Zs w.heap.size w w1:=PK▸BR.alloc BR.size _;have C1:Hid (Blk w1 w.heap.size 180 #[.int .u64 D,.int .u64 P,.int .u64 B]):=Za (PK▸YA HC.out _);have x1:w1.cell? ⟨wr.heap.size,1,none⟩=some (.int .u64 x):=by rw [←PK]; exact Yg (Zv _ _ _) 1
   have y1:w1.cell? ⟨w.heap.size,s,none⟩=some (.int .u64 y):=(C1.out.cell s).trans HY.out;clear PK g0 g1 HC BR;go_wp2;refine M0 (fun _=>True) 11 11 [] trivial ?_;refine Qc ?_;refine Zfr ?_;refine Kg ?_;refine NX ?_;refine BL ?_;refine YJ 22 _ _ (.int .u64 y) rfl rfl rfl (fun w h=>by simp [go_sem,h]) (fun w h=>h.2) ?_;refine Qe ?_;refine GN ?_;refine YJ 22 _ _ (.int .u64 x) rfl rfl rfl (fun w h=>by simp [go_sem,h]) (fun w h=>h.1) ?_;refine Qe ?_;refine Qc ?_;refine EE ?_;refine YD rfl rfl (QO 143 22 (.tmp 26) (.tmp 28) _ _ (.int .u64 y) (.int .u64 x) rfl rfl rfl J1 Ff rfl rfl rfl ⟨⟨ZF _ x1,ZF _ y1⟩,?_⟩);refine Mb ?_;refine Dg ?_;refine JZ #[.slice (some ⟨w1.drew.heap.size,0,none⟩) 2 2] Tryz.call23 ((RD w1.drew.heap.size y x _ (Zv w1.drew _ _) y0 x0 ME).mono ?_);rintro e w2 ⟨rfl,Np⟩;have B2:Zs w.heap.size w w2:=Np▸B1.drew.alloc B1.size _;have C2:Hid (Blk w2 w.heap.size 180 #[.int .u64 D,.int .u64 P,.int .u64 B]):=Za (Np▸YA (Blk.drew C1.out) _);have y2:w2.cell? ⟨w.heap.size,s,none⟩=some (.int .u64 y):=(C2.out.cell s).trans HY.out;have x2:w2.cell? ⟨wr.heap.size,1,none⟩=some (.int .u64 x):=by rw [←Np]; exact ZF _ x1
   have z2:w2.frozen? ⟨w.heap.size,s,none⟩=false:=C2.out.frozen s;have C3:Hid (Blk (w2.setCell ⟨w.heap.size,s,none⟩ (.int .u64 (y+x))) w.heap.size 180 #[.int .u64 D',.int .u64 P',.int .u64 B']):=Za (by have:=C2.out.set_ s (.int .u64 (y+x)); rwa [HU.out] at this);have B3:Hid (Zs w.heap.size w (w2.setCell ⟨w.heap.size,s,none⟩ (.int .u64 (y+x)))):=Za (B2.setCell (Zg _) _);refine ⟨_,rfl,⟨x2,y2⟩,?_⟩;clear Np C1 B1 x1 y1;refine Dg ?_;refine Zfu ?_;refine Kg ?_;refine Ma ?_;refine BN ?_;refine Qc ?_;refine Bn ?_;refine ⟨by kernel_rfl,?_⟩;refine LY ?_;go_wp2;refine GM ?_;go_wp2;go_roundw
   case rel=>exact ⟨1,_,rfl,Za (.inr ⟨rfl,rfl⟩),C3,B3.out⟩
   case measure=>simp [intOf]
  ·have Fi:cs= #[.int .u64 D',.int .u64 P',.int .u64 B']:=HK.out.elim (fun h=>by cases h.1) (fun h=>h.2);subst Fi;clear HK;have hb:KR wr b D P B C:=Blk.below HB.out BR HL.out;have HE:Hid (KR (((wr.setCell ⟨b,0,none⟩ (.int .u64 D')).setCell ⟨b,1,none⟩ (.int .u64 P')).setCell ⟨b,2,none⟩ (.int .u64 B')) b D' P' B' C∧w.grownBy (((wr.setCell ⟨b,0,none⟩ (.int .u64 D')).setCell ⟨b,1,none⟩ (.int .u64 P')).setCell ⟨b,2,none⟩ (.int .u64 B')) (some b)):=Za ⟨Cx hb,Wi (Es BR _) _ _ _⟩;obtain ⟨c0,c1,c2,c3⟩:=hb.cells;have z0:=KG hb 0;have z1:=KG hb 1;have z2:=KG hb 2;clear hb;go_wp2_with (refine wpList_load_row rfl 180 _ rfl w.heap.size rfl _ _ (0,0) _ HC.out GH rfl WX ?_);go_ret;exact ⟨rfl,HE.out⟩
theorem uA (s b g:Nat)(D P B C x y:Int)(w:Zc)(hb:KR w b D P B C)(hg:Blk w g 305 #[.int .i64 s,.int .u64 x])(hs:s < 3)
  (hy:(#[.int .u64 D,.int .u64 P,.int .u64 B] :Array Zl)[s]?=some (.int .u64 y))
  (y0:0≤y) (ym:y≤18446744073709551615) (x0:0≤x) (x1':x≤18446744073709551615) (ME: ¬y+x≤18446744073709551615) :
  Zj Zb 235 #[.pointer (some ⟨b,0,none⟩),.slice (some ⟨g,0,none⟩) 1 1] w fun e w'=>e= .returned (.bool false)∧Zs w.heap.size w w':=by
 have HR:=Za (Aa hb);have HB:=Za hb;have HG:=Za hg;have HY:=Za hy;have HT:=Za (fun b w=>AD s b hs w);have HL:=Za (Blk.lt hb);have HLg:=Za (Blk.lt hg);have HN:Hid (∀(w:Zc),Blk (w.alloc (.cells #[.int .u64 D,.int .u64 P,.int .u64 B] 180)) w.heap.size 180 #[.int .u64 D,.int .u64 P,.int .u64 B]):=Za (fun w=>Zv w _ _);clear hb hg hy;go_enter Tryz.func235,Tryz.ntmps235;go_wp2_with (first | (refine Jt rfl 180 _ rfl b 0 rfl _ _ HR.out GH rfl WX ?_) | (refine Zo rfl _ _ _ rfl w.heap.size #[.int .u64 D,.int .u64 P,.int .u64 B] rfl rfl 180 _ (ZG w _) WX rfl rfl ?_; rw [Zu]));go_loopw [16] (fun s16 wr=> ∃(k:Nat) (cs:Array Zl),s16= .int .i64 k∧Hid (k=0∧cs= #[.int .u64 D,.int .u64 P,.int .u64 B])∧Hid (Blk wr w.heap.size 180 cs)∧Zs w.heap.size w wr) (fun s16 _=>1 -(intOf s16).toNat)
 case atStart=>exact ⟨0,_,rfl,Za ⟨rfl,rfl⟩,Za (Zv w _ _),(Zp _ _).alloc (Zg _) _⟩
 case round=>
  obtain ⟨k,cs,rfl,HK,HC,BR⟩:=hrel;obtain ⟨rfl,rfl⟩:=HK.out
  ·clear HK;have g0:wr.cell? ⟨g,0,none⟩=some (.int .i64 s):=(BR.cell (p:=⟨g,0,none⟩) HLg.out).trans (HG.out.cell 0);have g1:wr.cell? ⟨g,1,none⟩=some (.int .u64 x):=(BR.cell (p:=⟨g,1,none⟩) HLg.out).trans (HG.out.cell 1);go_wp2_with (first | (refine Zo rfl _ _ _ rfl wr.heap.size #[.int .i64 s,.int .u64 x] rfl rfl 305 _ (ZG wr _) pN rfl rfl ?_; rw [Zu]) | fail);refine (HT.out _ _).mono ?_;rintro e w1 ⟨rfl,PK⟩;have B1:Zs w.heap.size w w1:=PK▸BR.alloc BR.size _;have C1:Hid (Blk w1 w.heap.size 180 #[.int .u64 D,.int .u64 P,.int .u64 B]):=Za (PK▸YA HC.out _);have x1:w1.cell? ⟨wr.heap.size,1,none⟩=some (.int .u64 x):=by rw [←PK]; exact Yg (Zv _ _ _) 1
   have y1:w1.cell? ⟨w.heap.size,s,none⟩=some (.int .u64 y):=(C1.out.cell s).trans HY.out;clear PK g0 g1 HC BR;go_wp2;refine M0 (fun _=>True) 11 11 [] trivial ?_;refine Qc ?_;refine Zfr ?_;refine Kg ?_;refine NX ?_;refine BL ?_;refine YJ 22 _ _ (.int .u64 y) rfl rfl rfl (fun w h=>by simp [go_sem,h]) (fun w h=>h.2) ?_;refine Qe ?_;refine GN ?_;refine YJ 22 _ _ (.int .u64 x) rfl rfl rfl (fun w h=>by simp [go_sem,h]) (fun w h=>h.1) ?_;refine Qe ?_;refine Qc ?_;refine EE ?_;refine YD rfl rfl (QO 143 22 (.tmp 26) (.tmp 28) _ _ (.int .u64 y) (.int .u64 x) rfl rfl rfl J1 Ff rfl rfl rfl ⟨⟨ZF _ x1,ZF _ y1⟩,?_⟩);refine Mb ?_;refine Dg ?_;refine JZ #[.slice (some ⟨w1.drew.heap.size,0,none⟩) 2 2] Tryz.call23 ((RB w1.drew.heap.size y x _ (Zv w1.drew _ _) y0 ym x0 x1' Zm).mono ?_);rintro e w2 ⟨rfl,Np⟩;have B2:Zs w.heap.size w w2:=Np▸B1.drew.alloc B1.size _;have C2:Hid (Blk w2 w.heap.size 180 #[.int .u64 D,.int .u64 P,.int .u64 B]):=Za (Np▸YA (Blk.drew C1.out) _);have y2:w2.cell? ⟨w.heap.size,s,none⟩=some (.int .u64 y):=(C2.out.cell s).trans HY.out;have x2:w2.cell? ⟨wr.heap.size,1,none⟩=some (.int .u64 x):=by rw [←Np]; exact ZF _ x1
   refine ⟨_,rfl,⟨x2,y2⟩,?_⟩;clear Np C1 B1 x1 y1;refine Dg ?_;refine Zfu ?_;refine Kg ?_;refine Ma ?_;refine BN ?_;refine Qc ?_;refine Bn ?_;refine ⟨by kernel_rfl,?_⟩;refine LY ?_;go_wp2;refine GM ?_;go_wp2;go_ret;exact ⟨rfl,B2⟩
end
section
open Go Go.RowKit Go.Deep
def Dn (P:YO)(f:FuncId)(args:Array Zl)(w:Zc)(R:Ending→Zc→Prop) :Prop:=
 Zj P f args w R∧ ∀u,CallsD P f args u w fun e u' w'=>u'=u∧R e w'
theorem Cc {P:YO}{f:FuncId}{fn:Func}{c:Code}{args:Array Zl}{w:Zc}{R:Ending→Zc→Prop}(hf:P.funcs[f]?=some fn)(hb:fn.body=some c)
  (h:c.wp P (bodyPost P fn R) { tmps:=args++Qv (fn.ntmps - args.size) undef,defers:= []} w) :Dn P f args w R:=
 ⟨calls_of_wp hf hb h,fun _=>callsD_of_wp hf hb h⟩
theorem Dn.mono {P:YO}{f:FuncId}{args:Array Zl}{w:Zc}{R R':Ending→Zc→Prop}(h:Dn P f args w R)(hr: ∀e w',R e w'→R' e w') :Dn P f args w R':=
  ⟨h.1.mono hr,fun u=>(h.2 u).mono fun e u' w' ⟨h1,h2⟩=>⟨h1,hr e w' h2⟩⟩
section
variable {w w':Zc} {b m cap:Nat} {s:Zl} {c:Int→Int} {A T:Int}
theorem J0.alloc (h:J0 w b m s cap c A T)(o:Obj) :J0 (w.alloc o) b m s cap c A T:=⟨h.1.alloc o,h.2.alloc o⟩
theorem J0.drewN (h:J0 w b m s cap c A T)(n:Nat) :J0 (w.drewN n) b m s cap c A T:=h
theorem J0.total (h:J0 w b m s cap c A T)(x:Int) :J0 (w.setCell ⟨b,4,none⟩ (.int .u64 x)) b m s cap c A x:=⟨h.1.set_ 4 _,h.2.setCell (fun e=>h.ne e.symm) _⟩
theorem J0.active (h:J0 w b m s cap c A T)(x:Int) :J0 (w.setCell ⟨b,3,none⟩ (.int .u64 x)) b m s cap c x T:=⟨h.1.set_ 3 _,h.2.setCell (fun e=>h.ne e.symm) _⟩
theorem J0.list (h:J0 w b m s cap c A T)(x:Zl) :J0 (w.setCell ⟨b,1,none⟩ x) b m x cap c A T:=⟨h.1.set_ 1 _,h.2.setCell (fun e=>h.ne e.symm) _⟩
theorem J0.counted (h:J0 w b m s cap c A T){c':Int→Int}(hc:Q8 w' m c')(hg:w.grownBy w' (some m)) :J0 w' b m s cap c' A T:=⟨h.1.grown hg (fun e=>h.ne (by injection e)),hc⟩
end
theorem aS (b m cap:Nat)(s:Zl)(c:Int→Int)(A T:Int)(v:Yd)(w:Zc)(h:J0 w b m s cap c A T)(hv:Yo v)(hl:D6 v.st=true)
  (PG:0≤A) (hA:A+v.bal≤18446744073709551615) (Cr:0≤T) (hT:T+v.bal≤18446744073709551615) (Ol:0≤c v.st) (Om:c v.st≤4096) :
  Dn Zb 236 #[.pointer (some ⟨b,0,none⟩),.agg (Zd v)] w fun e w'=>e= .returned (.tuple #[])∧J0 w' b m s cap (OF c v.st (c v.st+1)) (A+v.bal) (T+v.bal)∧Kept (fun i=>i=b∨i=m) w w':=by
 have HL:Hid (∀w,Zj Zb 276 #[.int .i64 v.st] w fun e w'=>e= .returned (.bool true)∧w=w'):=Za (fun w=>by have:=Nu v.st w; rwa [hl] at this);have hK:Kept (fun i=>i=b∨i=m) w (w.alloc (.cells (Zd v) 63)):=(Kept.refl _ w).alloc _;have hE:Blk (w.alloc (.cells (Zd v) 63)) w.heap.size 63 (Zd v):=Zv _ _ _;have KF: ¬w.heap.size=b:=by have:=h.1.lt; omega
 have HB:=Za (h.alloc (.cells (Zd v) 63));have x0:(w.alloc (.cells (Zd v) 63)).cell? ⟨w.heap.size,0,none⟩=some (.int .u64 v.bal):=hE.cell 0;have x1:(w.alloc (.cells (Zd v) 63)).cell? ⟨w.heap.size,1,none⟩=some (.int .i64 v.st):=hE.cell 1;obtain ⟨-,-,c2,c3,c4⟩:=HB.out.cells;have f3:=HB.out.1.frozen 3;have f4:=HB.out.1.frozen 4;have v0:=hv.bal.1;have HE:=Za hE;have HK:=Za hK;have HW:=Za hv.2;obtain ⟨cs,Fi⟩ : ∃q,c v.st=q:=⟨_,rfl⟩;rw [Fi] at Ol Om ⊢;have zX:=Za Fi;obtain ⟨n0,Mm⟩ : ∃n,w.heap.size=n:=⟨_,rfl⟩;have mV: ¬n0=b:=by rw [←Mm]; exact KF
 clear KF;clear h hE hK hv hl Fi;refine Cc Tryz.func236 rfl ?_;simp only [Tryz.ntmps236,List.size_toArray,List.length_cons,List.length_nil,Nat.reduceAdd,Nat.reduceSub,Array.replicate_succ,Array.replicate_zero,List.push_toArray,List.append_toArray,List.nil_append,List.cons_append];go_wp2;generalize w.alloc (.cells (Zd v) 63)=W at*;rw [Mm] at*;refine wqT 9 ?_;refine BA ?_
 repeat (go_big_quiet_step (fail))
 refine Qc ?_;intro _ JB;obtain ⟨n1,Xh⟩:=JB;subst Xh;go_wp2_with fail;refine (HL.out _).mono ?_;rintro e w2 ⟨rfl,rfl⟩;go_wp2_with fail;refine wqT 9 ?_;refine BA ?_
 repeat (go_big_quiet_step (fail))
 refine Qc ?_;intro _ JB;obtain ⟨n2,Xh⟩:=JB;subst Xh;go_wp2_with fail;have HR:=Za ((((HB.out.drewN n1).total (T+v.bal)).drewN n2).active (A+v.bal));have M4:Hid (Kept (fun i=>i=b∨i=m) w ((((W.drewN n1).setCell ⟨b,4,none⟩ (.int .u64 (T+v.bal))).drewN n2).setCell ⟨b,3,none⟩ (.int .u64 (A+v.bal)))):=Za ((((HK.out.drewN n1).setCell (.inl (.inl rfl)) _).drewN n2).setCell (.inl (.inl rfl)) _);have y1:((((W.drewN n1).setCell ⟨b,4,none⟩ (.int .u64 (T+v.bal))).drewN n2).setCell ⟨b,3,none⟩ (.int .u64 (A+v.bal))).cell? ⟨n0,1,none⟩=some (.int .i64 v.st):=(Blk.far (Xy (Blk.far (Xy HE.out n1) mV _) n2) mV _).cell 1;generalize (((W.drewN n1).setCell ⟨b,4,none⟩ (.int .u64 (T+v.bal))).drewN n2).setCell ⟨b,3,none⟩ (.int .u64 (A+v.bal))=W2 at*;exact ZfF
theorem aR (b m cap:Nat)(s:Zl)(c:Int→Int)(A T:Int)(v:Yd)(w:Zc)(h:J0 w b m s cap c A T)(hv:Yo v)(hl:D6 v.st=false)
  (Cr:0≤T) (hT:T+v.bal≤18446744073709551615) (Ol:0≤c v.st) (Om:c v.st≤4096) :
  Dn Zb 236 #[.pointer (some ⟨b,0,none⟩),.agg (Zd v)] w fun e w'=>e= .returned (.tuple #[])∧J0 w' b m s cap (OF c v.st (c v.st+1)) A (T+v.bal)∧Kept (fun i=>i=b∨i=m) w w':=by
 have HL:Hid (∀w,Zj Zb 276 #[.int .i64 v.st] w fun e w'=>e= .returned (.bool false)∧w=w'):=Za (fun w=>by have:=Nu v.st w; rwa [hl] at this);have hK:Kept (fun i=>i=b∨i=m) w (w.alloc (.cells (Zd v) 63)):=(Kept.refl _ w).alloc _;have hE:Blk (w.alloc (.cells (Zd v) 63)) w.heap.size 63 (Zd v):=Zv _ _ _;have KF: ¬w.heap.size=b:=by have:=h.1.lt; omega
 have HB:=Za (h.alloc (.cells (Zd v) 63));have x0:(w.alloc (.cells (Zd v) 63)).cell? ⟨w.heap.size,0,none⟩=some (.int .u64 v.bal):=hE.cell 0;have x1:(w.alloc (.cells (Zd v) 63)).cell? ⟨w.heap.size,1,none⟩=some (.int .i64 v.st):=hE.cell 1;obtain ⟨-,-,c2,c3,c4⟩:=HB.out.cells;have f3:=HB.out.1.frozen 3;have f4:=HB.out.1.frozen 4;have v0:=hv.bal.1;have HE:=Za hE;have HK:=Za hK;have HW:=Za hv.2;obtain ⟨cs,Fi⟩ : ∃q,c v.st=q:=⟨_,rfl⟩;rw [Fi] at Ol Om ⊢;have zX:=Za Fi;obtain ⟨n0,Mm⟩ : ∃n,w.heap.size=n:=⟨_,rfl⟩;have mV: ¬n0=b:=by rw [←Mm]; exact KF
 clear KF;clear h hE hK hv hl Fi;refine Cc Tryz.func236 rfl ?_;simp only [Tryz.ntmps236,List.size_toArray,List.length_cons,List.length_nil,Nat.reduceAdd,Nat.reduceSub,Array.replicate_succ,Array.replicate_zero,List.push_toArray,List.append_toArray,List.nil_append,List.cons_append];go_wp2;generalize w.alloc (.cells (Zd v) 63)=W at*;rw [Mm] at*;refine wqT 9 ?_;refine BA ?_
 repeat (go_big_quiet_step (fail))
 refine Qc ?_;intro _ JB;obtain ⟨n1,Xh⟩:=JB;subst Xh;go_wp2_with fail;refine (HL.out _).mono ?_;rintro e w2 ⟨rfl,rfl⟩;go_wp2_with fail;have HR:=Za ((HB.out.drewN n1).total (T+v.bal));have M4:Hid (Kept (fun i=>i=b∨i=m) w ((W.drewN n1).setCell ⟨b,4,none⟩ (.int .u64 (T+v.bal)))):=Za ((HK.out.drewN n1).setCell (.inl (.inl rfl)) _);have y1:((W.drewN n1).setCell ⟨b,4,none⟩ (.int .u64 (T+v.bal))).cell? ⟨n0,1,none⟩=some (.int .i64 v.st):=(Blk.far (Xy HE.out n1) mV _).cell 1;generalize (W.drewN n1).setCell ⟨b,4,none⟩ (.int .u64 (T+v.bal))=W2 at*;exact ZfF
theorem O6 (b m cap:Nat)(s:Zl)(c:Int→Int)(A T:Int)(v:Yd)(w:Zc)(h:J0 w b m s cap c A T)(hv:Yo v)
  (PG:0≤A) (hA:A≤T) (hT:T+v.bal≤18446744073709551615) (Ol:0≤c v.st) (Om:c v.st≤4096) :
  Dn Zb 236 #[.pointer (some ⟨b,0,none⟩),.agg (Zd v)] w fun e w'=>e= .returned (.tuple #[])∧J0 w' b m s cap (OF c v.st (c v.st+1)) (A+XJ v) (T+v.bal)∧Kept (fun i=>i=b∨i=m) w w':=by
 have v0:=hv.bal.1
 cases hl:D6 v.st with
 | true=>
  have e:XJ v=v.bal:=by simp [XJ,hl]
  rw [e];exact aS b m cap s c A T v w h hv hl PG Zm Zm hT Ol Om
 | false=>
  have e:A+XJ v=A:=by simp [XJ,hl]
  rw [e];exact aR b m cap s c A T v w h hv hl Zm hT Ol Om
end
end Go.Proofs.YtianiiijaopdpaaGreat
