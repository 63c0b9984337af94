/- Part 3 of 29: Words Kept Class Tail Wheel L04Ring Append Count L06Add Same L02Base L03Cfg WrapT L04OpsInt L04CopyInt L04GrowInt L04AllInt L04OneInt L04PushInt. -/
import Derived.Test.YtianiiijaopdpaaGreatZy00
import Derived.BigQuiet
import Derived.Deep.AppendLies
import Derived.DeepKeys4
import Derived.Laws.CopyOwn
import Derived.Lib.Hide
import Derived.Lib.SliceRun
import Derived.OpenShut
import Derived.StillTailTactics
import Derived.Test.YtianiiijaopdpaaGreatChecked
import Derived.WalkSmall
namespace Go.Proofs.YtianiiijaopdpaaGreat
set_option linter.unusedVariables false
set_option linter.unusedSimpArgs false
set_option maxRecDepth 100000
set_option maxHeartbeats 8000000
open _root_.Array renaming getElem?_eq_none → VN, toList_push → Ui, toList_range → Gz
open _root_.Go.RowKit renaming Below → Zs
open _root_.Go.RowKit.Below renaming heap_alloc → Kz, heap_setCell → Xs
open _root_.Bool renaming and_eq_true → YZ
open _root_.Go.Builtin renaming firstCells → GA, zeroCells → Xb
open _root_.Go renaming Calls → Zj, Operand → Yz, Program → YO, TypeId → ZN, TypeInfo → VA, Value → Zl, World → Zc, execOp → Xn, getD_replicate_false → Uy, length_splice → Qn, ready_mono → UD, run_underlying → Y9, setRow_heap → Z6, splice → Vt, typeInfo → Vl, wpList → YY, wpList_plain → Q6, wpQuiet → ZW, yielded → JF, zeroValue → Kj
open _root_.Go.Code renaming region → VH
open _root_.Go.Ending renaming returned → XR
open _root_.Go.Instr renaming lookup → J5, mapUpdate → Gr
open _root_.Go.Lib renaming hid → Za
open _root_.List renaming eq_nil_of_length_eq_zero → ZU, ext_getElem? → Vb, getElem?_append_left → Yn, getElem?_append_right → YF, getElem?_drop → Qd, getElem?_eq_getElem → Zf, getElem?_eq_none → Qg, getElem?_eq_some_iff → Zi, getElem?_map → ZP, getElem?_take_of_lt → QH, length_cons → Yp, length_drop → Q0, mem_map → Yk, mem_of_getElem? → ZB, mem_of_mem_drop → Xd, mem_of_mem_take → ZK, mem_range → QV, mem_singleton → YV
open _root_.Go.Lit renaming int → Xg
open _root_.Go.MapKept renaming run_getObj_map → Qr, run_setObj_map → VQ
open _root_.Nat renaming add_assoc → JH, add_mul → Ve, eq_zero_or_pos → QW, le_refl → Zg, le_trans → Z9, lt_of_lt_of_le → Ya, lt_or_ge → Ys, min_eq_left → Gv, mod_eq_of_lt → KE, mod_lt → QK, mul_le_mul_right → XV, zero_add → ZX
open _root_.Ne renaming symm → QD
open _root_.Go.Oper renaming quietAt → VR, wp → Jj
open _root_.Go.Region renaming Mode → Kd, binds → Xp, chainB → Vp, lexTailB → V8, ready → Yw, sinkB → Vh, wanted → YQ
open _root_.Go.Result renaming andThen → Xe, andThen_ok → ZQ
open _root_.Go.Sem renaming run_bind → Yi, run_pure → YC
open _root_.Go.Proofs.Tryz renaming prog → Zb, underlying47 → YI
open _root_.Go.Value renaming cells → Yq
theorem Ir {G:Prop}(h:G:=by simpa using h) :G:=h
theorem gH {G:Prop}(h:G:=by have:=HF.out; omega) :G:=h
theorem Iq {G:Prop}(h:G:=by simpa using h1) :G:=h
theorem Ip {G:Prop}(h:G:=by simpa using hl) :G:=h
theorem gF {G:Prop}(h:G:=by have:=AU.out.1; omega) :G:=h
theorem gE {G:Prop}(h:G:=by show c - u=min _ _; omega) :G:=h
theorem gC {G:Prop}(h:G:=by show m - u=min _ _; omega) :G:=h
theorem gB {G:Prop}(h:G:=by rw [add_block]; exact mG.out) :G:=h
theorem gz {G:Prop}(h:G:=by rwa [List.getElem?_drop] at hv) :G:=h
theorem ED {G:Prop}(h:G:=by rw [e]) :G:=h
theorem gy {G:Prop}(h:G:=by simp at h0; have:=cO.out; omega) :G:=h
theorem gx {G:Prop}(h:G:=by have:=HF.out; have:=PW.out; omega) :G:=h
theorem gw {G:Prop}(h:G:=by show u=min _ _; have:=HU.out; omega) :G:=h
theorem OR {G:Prop}(h:G:=by rw [Mn]; omega) :G:=h
theorem gu {G:Prop}(h:G:=by have:=HC.out; simp [Value.cells]; omega) :G:=h
theorem gq {G:Prop}(h:G:=by have:=HC.out; have:=cO.out; simp; omega) :G:=h
theorem gp {G:Prop}(h:G:=by rw [length_splice _ _ _ zB13_2]; simp; omega) :G:=h
theorem OQ {G:Prop}(h:G:=by have:=HC.out; omega) :G:=h
theorem OP {G:Prop}(h:G:=by have:=PW.out; omega) :G:=h
theorem OO {G:Prop}(h:G:=by rw [h] at hr; cases hr) :G:=h
theorem ON {G:Prop}(h:G:=by show u=min _ _; omega) :G:=h
theorem FT {G:Prop}(h:G:=by simpa using c1) :G:=h
theorem FR {G:Prop}(h:G:=by simpa using c3) :G:=h
theorem OM {G:Prop}(h:G:=by have:=HF.out; simp; omega) :G:=h
theorem OL {G:Prop}(h:G:=by injection hi with hi; omega) :G:=h
theorem OK {G:Prop}(h:G:=by have:=cO.out; simp; omega) :G:=h
theorem FQ {G:Prop}(h:G:=by show 0=min _ _; omega) :G:=h
theorem gj {G:Prop}(h:G:=by rw [length_splice _ _ _ (by have:=HC.out; have:=cO.out; simp; omega)]; have:=HC.out; have:=cO.out; simp; omega) :G:=h
theorem zB13_2 {G:Prop}(h:G:=by simp; omega) :G:=h
theorem AK {G:Prop}(h:G:=by rw [length_splice _ _ _ (by have:=HF.out; have:=PW.out; simp; omega)]; have:=HF.out; have:=PW.out; simp; omega) :G:=h
theorem YU {G:Prop}(h:G:=by decide) :G:=h
theorem ZI {G:Prop}(h:G:=by simp) :G:=h
theorem Ye {G:Prop}(h:G:=by kernel_rfl) :G:=h
theorem Zm {G:Prop}(h:G:=by omega) :G:=h
theorem BA {G H:Prop} (k:H) (h:BZ H→G:=by
  intro zk;simp only [qT,qD];exact zk.out) :G:=h ⟨k⟩
theorem Qc {G H:Prop} (k:H) (h:BZ H→G:=by
  intro zk;refine wpQuiet_nil ?_;exact zk.out) :G:=h ⟨k⟩
theorem rK {G H:Prop} (k:H) (h:BZ H→G:=by
  intro zk;refine bodyPost_ret (results_none rfl _ _ _) rfl ?_;exact zk.out) :G:=h ⟨k⟩
theorem mE {G H:Prop} (k:H) (h:BZ H→G:=by
  intro zk;refine (HF.out _ (Lib.hid rfl)).mono ?_;exact zk.out) :G:=h ⟨k⟩
theorem zT4 {G:Prop} (h:G:=by
  go_enter Tryz.func122,Tryz.ntmps122;go_wp2_with fail;refine mE ?_;rintro e w' ⟨rfl,q,rfl⟩;go_wp2_with fail;refine (KEY.out q).mono ?_;rintro e w1 ⟨rfl,g,n,f,C,hr,hw,hn,Sk,hk⟩;obtain ⟨-,d1,d2,d3,-,-,oS⟩:=hr.cells;have aE: ¬ad.block=g:=by
   obtain ⟨_,_,kO⟩:=AU.out;obtain ⟨ad',e,hS,pf⟩:=kO Zm;injection e with e;subst e;rintro hg
   rcases Sk g rfl with h5 | h5
   ·exact hS (.inr (by rw [hg,h5]))
   ·have:=cell_lt (pf 0 _ (List.getElem?_eq_getElem gF));rw [add_block] at this;omega
  have mG:=Lib.hid aE;obtain ⟨L,Cq,hLo,hLc,o3⟩ : ∃L:List Value,L.length=m*1∧(∀v ∈ L,v.oneCell'=true)∧(∀j v,L[j]?=some v→w1.cell? (ad.add j)=some v)∧cs.take m=L:=by
   obtain ⟨x1,x2,x3⟩:=AU.out.kept hk (fun i _ e=> .inl e);obtain ⟨ad',e,hS,pf⟩:=x3 Zm;injection e with e;subst e;refine ⟨_,by simp; omega,fun v hv=>x2 v (List.mem_of_mem_take hv),fun j v hv=>pf j v (take_some hv),rfl⟩
  obtain ⟨B1,B2,hC,cV,Sf,Nn,-⟩:=hr;have Ek:=Lib.hid B1;have UJ:=Lib.hid B2;have HC:=Lib.hid hC;have HW:=Lib.hid hw;have ID:=Lib.hid Sk;have HK:=Lib.hid hk;have cO:=Lib.hid Cq;have nj:=Lib.hid hLo;have yf:=Lib.hid hLc;have HLe:=Lib.hid o3;clear B1 B2 hC hw Sk hk Cq hLo hLc o3 aE;obtain ⟨s,hsv⟩ : ∃s:Nat,(f+c)%n=s:=⟨_,rfl⟩;have DY:s < n:=by rw [←hsv]; exact Nat.mod_lt _ Zm
  have VM: ∀W:World,W.cell? ⟨b,1,none⟩=some (.slice (some ⟨g,0,none⟩) n n)→W.cell? ⟨b,2,none⟩=some (.int .i64 f)→Calls Tryz.prog 183 #[.pointer (some ⟨b,0,none⟩),.int .i64 c] W fun e w'=>e= .returned (.int .i64 s)∧ ∃m,w'=W.drewN m:=fun W x1 x2=>by
   have:=ri_slot_any b n f c _ n W x1 x2 Zm Zm Zm;rwa [hsv] at this
  have IF:=Lib.hid VM;have sK:=Lib.hid hsv;obtain ⟨u,hu,hu0,hu1,hu2⟩ : ∃u:Nat,u=min m (n - s)∧u≤m∧u≤n - s∧(u=m∨u=n - s):=⟨_,rfl,by omega,by omega,by omega⟩;have HU:=Lib.hid hu;have HU2:=Lib.hid hu2;clear VM hsv hu hu2;go_wp2;refine wqT 14 ?_;refine BA ?_
  repeat (go_big_quiet_step ((go_at_call 183; exact Calls.quiet_of (IF.out _ d1 d2))))
  refine Qc ?_;intro _ JB;obtain ⟨nr,Xh⟩:=JB;subst Xh;refine wpList_copyK rfl (.tmp 32) (.tmp 35) _ _ rfl 3 Tryz.underlying47 1 Zm HT.out _ _ _ _ _ _ rfl rfl g s C 3 UJ.out (L.take u) u gw OK
   (fun _=>⟨rfl,_,rfl,fun j v hv=>yf.out j v (take_some hv)⟩) gq (fun v hv=>nj.out v (List.mem_of_mem_take hv)) ?_
  intro W1 HD1 K1 S1;have OZ: ¬b=g:=Blk.ne_ Ek.out UJ.out YU;have x1:=K1.cell (p:=⟨b,1,none⟩) OZ (by simpa using d1);have aC: ∀j v,L[j]?=some v→W1.cell? (ad.add j)=some v:=fun j v hv=>K1.cell gB (yf.out j v hv)
  have EG:Hid (Blk W1 b 189 #[.int .i64 size,.slice (some ⟨g,0,none⟩) n n,.int .i64 f,.int .i64 c]):=Lib.hid (Blk.kept (w:=w1.drewN nr) Ek.out K1 OZ);have nh:=Lib.hid aC;have L4:=Lib.hid K1;clear S1 K1 aC d1 d2 d3 oS;go_wp2;refine wqT 8 ?_;refine BA ?_
  repeat (go_big_quiet_step (fail))
  refine Qc ?_;intro _ JB;obtain ⟨ns,Xh⟩:=JB;subst Xh;refine wpList_copyK rfl (.tmp 40) (.tmp 44) _ _ rfl 3 Tryz.underlying47 1 Zm HT.out _ _ _ _ _ _ rfl rfl g 0 _ 3 HD1.out (L.drop u) (m - u) gC OK
   (fun h0=>⟨rfl,ad.add u,by first | rfl | exact if_neg gy,fun j v hv=>by rw [add_add_]; exact nh.out _ v gz⟩) gj (fun v hv=>nj.out v (List.mem_of_mem_drop hv)) ?_
  intro W2 HD2 K2 S2;have TS:Hid (Blk W2 b 189 #[.int .i64 size,.slice (some ⟨g,0,none⟩) n n,.int .i64 f,.int .i64 c]):=Lib.hid (Blk.kept (w:=W1.drewN ns) EG.out K2 OZ);have y3:=TS.out.cell 3;have z3:=TS.out.frozen 3;have Ku: ∃go',RingAt 189 3 1 (W2.setCell ⟨b,3,none⟩ (.int .i64 ((c:Int)+(m:Int)))) b go' size (c+m) (F++L)∧Moved w go go'∧Kept (Foot b go) w (W2.setCell ⟨b,3,none⟩ (.int .i64 ((c:Int)+(m:Int)))):=by
   have Mf:=HI.out.1;have iu:=HI.out.2.1;refine ⟨some g,?_,ID.out,?_⟩
   ·refine ⟨by rw [List.length_append,Mf,cO.out,Nat.add_mul],fun v hv=>(List.mem_append.1 hv).elim (iu v) (nj.out v),.inr ⟨g,n,f,_,rfl,⟨?_,Blk.far (HD2.out) (Ne.symm OZ) _,?_,cV,hn,Nn,hs⟩,?_⟩⟩
    ·have:=TS.out.set_ 3 (.int .i64 ((c:Int)+(m:Int)));rw [show (c:Int)+(m:Int)=((c+m:Nat) :Int) by omega] at this ⊢;exact this
    ·have:=HC.out; have:=cO.out;rw [length_splice _ _ _ gp,length_splice _ _ _ zB13_2];exact HC.out
    ·have:=push_wheel HW.out Mf HC.out cO.out hn sK.out.symm HU.out
     first | exact this | (simp only [Nat.mul_one] at this ⊢; exact this)
   ·refine Kept.setCell (S:=Foot b go) ?_ (.inl (.inl rfl)) _;have k1:Kept (fun i=>i=g) w1 W2:=((((Kept.refl _ w1).drewN nr).trans L4.out (fun _ _ h=>h)).drewN ns).trans K2 (fun _ _ h=>h);refine (HK.out.more (fun i _ e=> .inl e)).trans k1 (fun i hi e=>?_);subst e
    rcases ID.out _ rfl with h5 | h5
    ·exact .inr h5.symm
    ·omega
  rw [←HLe.out] at Ku;have HE:=Lib.hid Ku;clear S2 K2 Ku;go_wp2
  all_goals
   go_ret;exact ⟨rfl,HE.out⟩) :G:=h
theorem ZfM {G:Prop} (h:G:=by
  intro W2 HD2 K2 S2;have Ww:=Lib.hid S2;have M4:=Lib.hid K2;clear S2 K2;have Ku:Blk W2 h 3 (F++D.drop F.length).toArray∧Kept (fun i=>i=h) w W2∧W2.heap.size=w.heap.size:=by
   refine ⟨?_,?_,?_⟩
   ·have:=HD2.out;rw [splice_two gx gH] at this;exact this
   ·exact ((((Kept.refl _ w).drewN nq).drewN nr).trans L4.out (fun _ _ h=>h)).drewN ns |>.trans M4.out (fun _ _ h=>h)
   ·exact Ww.out.trans Mu.out
  have HE:=Lib.hid Ku;clear Ku;go_wp2
  all_goals
   go_end0;exact ⟨rfl,HE.out⟩) :G:=h
theorem Zcs {G:Prop} (h:G:=by
  obtain ⟨_,_,⟨rfl,rfl,h1,_⟩ | ⟨g',n',f,C,rfl,⟨h1,_⟩,_⟩⟩:=hi
  ·have:=(h1.cell 1).symm.trans c1;simp only [List.getElem?_toArray,List.getElem?_cons_succ,List.getElem?_cons_zero,Option.some.injEq] at this;rw [←this]; exact ⟨_,_,h1⟩
  ·have:=(h1.cell 1).symm.trans c1;simp only [List.getElem?_toArray,List.getElem?_cons_succ,List.getElem?_cons_zero,Option.some.injEq] at this;rw [←this]; exact ⟨_,_,h1⟩) :G:=h
theorem Zcv {G:Prop} (h:G:=by
  have Wb:Kept (fun i=>i=w.heap.size) w w1:=((Kept.refl _ w).alloc _).trans aB (fun _ _ h=>h);have M4:=Lib.hid Wb;have UJ:=Lib.hid TS;clear EG aB Se Wb TS;go_wp2;go_ret;exact ⟨rfl,UJ.out,Kept.below (Below.refl _ _) M4.out (fun i hi=>by omega) (Nat.le_refl _)⟩) :G:=h
theorem Zcx {G:Prop} (h:G:=by
  refine ⟨?_,?_,?_⟩
  ·have:=HD2.out;show W2.heap[h]?=_;simpa [splice] using this
  ·exact ((((Kept.refl _ w).drewN nq).drewN nr).trans L4.out (fun _ _ h=>h)).drewN ns |>.trans K2 (fun _ _ h=>h)
  ·exact S2.trans Mu.out) :G:=h
theorem Zf9 {G:Prop} (h:G:=by
  clear hd;go_enter Tryz.func122,Tryz.ntmps122;go_wp2_with fail;refine mE ?_;rintro e w' ⟨rfl,m,rfl⟩;go_wp2;go_ret;exact ⟨rfl,_,rfl⟩) :G:=h
theorem Zgg {G:Prop} (h:G:=by
  simp [Builtin.delete_,run_underlying ht,MapKept.run_getObj_map hb,K.check w _ EV,f1,MapKept.run_setObj_map _ hb,Result.andThen,setBlock]) :G:=h
theorem Zcz {G:Prop} (h:G:=by
  by_cases e:(n1:Int)< (size:Int)
  ·exact ⟨n1,by rw [if_pos e],by omega,by omega⟩
  ·exact ⟨size,by rw [if_neg e],by omega,by omega⟩) :G:=h
theorem ZcA {G:Prop} (h:G:=by
  go_wp2;refine rK ?_;exact ⟨rfl,g,n,f,C,H3.out,H4.out,hn,fun i hi=> .inl hi,Kept.refl _ _⟩) :G:=h
theorem ZcB {G:Prop} (h:G:=by
  by_cases e:(JS:Int)< 2*(n:Int)
  ·exact ⟨2*n,by rw [if_pos e]; omega,by omega⟩
  ·exact ⟨JS,by rw [if_neg e],by omega⟩) :G:=h
theorem ZcE {G:Prop} (h:G:=by
  have:=EG;rw [List.drop_of_length_le (by have:=nc.out; have:=PW.out; omega),List.append_nil] at this;exact this) :G:=h
theorem ZcI {G:Prop} (h:G:=by
  by_cases hfc:f+c≤n
  ·exact ⟨c,by omega,hfc,.inl rfl⟩
  ·exact ⟨n - f,by omega,by omega,.inr Zm⟩) :G:=h
theorem rL {G:Prop} (h:G:=by
  have:=HC.out;rw [length_splice _ _ _ (by simp [Builtin.zeroCells,Value.cells]; omega)];exact this) :G:=h
theorem rO {G:Prop} (h:G:=by
  have HE:=Lib.hid Ku;clear Ku S2 K2;go_wp2
  all_goals
   go_end0;exact ⟨rfl,HE.out⟩) :G:=h
theorem rU {G:Prop} (h:G:=by
  go_enter Tryz.func155,Tryz.ntmps155;go_wp2;go_ret;exact ⟨by rw [H.out]; rfl,rfl⟩) :G:=h
theorem zM {G:Prop} (h:G:=by
  obtain ⟨es,clock,hb,_⟩:=h;exact (Array.getElem?_eq_some_iff.1 hb).1) :G:=h
theorem r6 {G:Prop} (h:G:=by
  go_wp2;go_quiet (fail);go_wp2;go_ret;exact ⟨ret_int Zm,_,rfl⟩) :G:=h
theorem r8 {G:Prop} (h:G:=by
  go_wp2;go_quiet (fail);go_wp2;go_ret;exact ⟨ret_int ZI,_,rfl⟩) :G:=h
theorem r9 {G:Prop} (h:G:=by
  have:=(EG.out.set_ 2 (.int .i64 s)).set_ 3 (.int .i64 c);exact this) :G:=h
theorem sc {G:Prop} (h:G:=by
  go_enter Tryz.func282,Tryz.ntmps282;go_wp2;go_ret;exact ⟨rfl,rfl⟩) :G:=h
theorem sj {G:Prop} (h:G:=by
  first | exact hw | (rw [Nat.mul_one] at hw; exact hw)) :G:=h
theorem sq {G:Prop} (h:G:=by
  first | exact this | (rw [Nat.mul_one]; exact this)) :G:=h
theorem sr {G:Prop} (h:G:=by
  have:=(bx.cell 3).symm.trans c3;simpa using this) :G:=h
theorem sy {G:Prop} (h:G:=by
  rw [List.getElem?_eq_none h1] at hv
  cases hv) :G:=h
theorem AL {G:Prop} (h:G:=by
  rw [Array.length_toList,size_madeCells]) :G:=h
theorem sA {G:Prop} (h:G:=by
  rw [←hsv];exact Nat.mod_lt _ Zm) :G:=h
theorem sB {G:Prop} (h:G:=by
  simp only [List.length_cons] at hF;omega) :G:=h
theorem sD {G:Prop} (h:G:=by
  rw [←hp];exact Nat.mod_lt _ Zm) :G:=h
theorem AN {G:Prop} (h:G:=by
  go_wp2;go_ret2;exact ⟨rfl,rfl⟩) :G:=h
theorem UI {G:Prop} (h:G:=by
  go_wp2;go_ret;exact ⟨rfl,rfl⟩) :G:=h
theorem AP {G:Prop} (h:G:=by
  have:=HF.out;simp
  omega) :G:=h
theorem Bl {G:Prop} (h:G:=by
  simp [intOf];omega) :G:=h
theorem Hd {G:Prop} (h:G:=by
  exact ⟨rfl,rfl⟩) :G:=h
section
open Go.RowKit
theorem Rb (a b:Int) :min a b=if b < a then b else a:=by omega
theorem CC (a b:Int) :max a b=if a < b then b else a:=by omega
def Blk (w:Zc)(g:Nat)(t:ZN)(cs:Array Zl) :Prop:=w.heap[g]?=some (.cells cs t (0,0))
section
variable {w w':Zc} {g:Nat} {t:ZN} {cs:Array Zl}
theorem Blk.lt (h:Blk w g t cs) :g < w.heap.size:=by
 rcases Ys g w.heap.size with XP | hge
 ·exact XP
 ·unfold Blk at h; rw [VN hge] at h; cases h
theorem Blk.cell (h:Blk w g t cs)(i:Nat) :w.cell? ⟨g,i,none⟩=cs[i]?:=cell_of_row w g i cs t (0,0) h
theorem Blk.frozen (h:Blk w g t cs)(i:Nat) :w.frozen? ⟨g,i,none⟩=false:=by
 unfold Blk at h;simp [World.frozen?,h]
theorem Blk.new (w:Zc)(t:ZN)(cs:Array Zl) :Blk (w.alloc (.cells cs t)) w.heap.size t cs:=heap_alloc_new w _
theorem Blk.drew (h:Blk w g t cs) :Blk w.drew g t cs:=h
theorem Blk.drewN (h:Blk w g t cs)(n:Nat) :Blk (w.drewN n) g t cs:=h
theorem Blk.alloc (h:Blk w g t cs)(o:Obj) :Blk (w.alloc o) g t cs:=(Kz w o g h.lt).trans h
theorem Blk.set_ (h:Blk w g t cs)(i:Nat)(u:Zl) :Blk (w.setCell ⟨g,i,none⟩ u) g t (cs.setIfInBounds i u):=by
 unfold Blk at h ⊢;simp [World.setCell,Array.getElem?_modify,h]
theorem Blk.far (h:Blk w g t cs){p:Addr}(hp:g≠p.block)(u:Zl) :Blk (w.setCell p u) g t cs:=(Xs w p u g hp).trans h
theorem Blk.below {B:Nat}(h:Blk w g t cs)(hb:Zs B w w')(hg:g < B) :Blk w' g t cs:=(hb.block g hg).trans h
theorem Blk.grown {row:Option Nat}(h:Blk w g t cs)(hb:w.grownBy w' row)(hg:some g≠row) :Blk w' g t cs:=(hb.block g h.lt hg).trans h
end
section
variable {P:YO} {f:FuncId} {args:Array Zl} {w:Zc} {a n:Nat} {v:Zl}
theorem Bw (h:Zj P f args (w.drewN n) fun e w'=>e= .returned v∧w.drewN n=w') :Zj P f args (w.drewN n) fun e w''=>e= .returned v∧ ∃m,w''=w.drewN m:=
 h.mono fun _ _ ⟨he,hm⟩=>⟨he,n,hm.symm⟩
end
theorem J2 (a:Zc)(row:Option Nat) :a.grownBy a row:=⟨rfl,rfl,rfl,Zg _,fun _ _ _=>rfl⟩
theorem SD {a b c:Zc}{row:Option Nat}(h:a.grownBy b row)(k:b.grownBy c row) :a.grownBy c row:=
 ⟨k.os.trans h.os,k.tape.trans h.tape,k.output.trans h.output,Z9 h.size k.size,fun i hi hn=>(k.block i (Ya hi h.size) hn).trans (h.block i hi hn)⟩
theorem VW {a w:Zc}{row:Option Nat}(h:a.grownBy w row)(n:Nat) :a.grownBy (w.drewN n) row:=⟨h.os,h.tape,h.output,h.size,h.block⟩
theorem Ah {a w:Zc}{row:Option Nat}(h:a.grownBy w row) :a.grownBy w.drew row:=⟨h.os,h.tape,h.output,h.size,h.block⟩
theorem DB {a w:Zc}{row:Option Nat}(h:a.grownBy w row)(o:Obj) :a.grownBy (w.alloc o) row:=
 ⟨h.os,h.tape,h.output,Z9 h.size ZI,fun i hi KF=>(Kz w o i (Ya hi h.size)).trans (h.block i hi KF)⟩
theorem QN {a w:Zc}{g:Nat}(h:a.grownBy w (some g)){p:Addr}(hp:p.block=g∨a.heap.size≤p.block)(u:Zl) :a.grownBy (w.setCell p u) (some g):=
 ⟨h.os,h.tape,h.output,by simpa [World.setCell] using h.size,fun i hi KF=>(Xs w p u i (by
  rintro rfl
  rcases hp with hp | hp
  ·exact KF (by rw [hp])
  ·omega)).trans (h.block i hi KF)⟩
theorem Es {a w:Zc}(h:Zs a.heap.size a w)(row:Option Nat) :a.grownBy w row:=⟨h.os,h.tape,h.output,h.size,fun i hi _=>h.block i hi⟩
theorem Bp {B g:Nat}{a w w':Zc}(h:Zs B a w)(hg:w.grownBy w' (some g))(hB:B≤w.heap.size)(hr:B≤g) :Zs B a w':=
 h.grown hg hB (fun k hk=>by injection hk with hk; omega)
theorem add_plain (b off i:Nat) :(⟨b,off,none⟩ :Addr).add i=⟨b,off+i,none⟩:=by
 unfold Addr.add
 by_cases h:i=0 <;> simp [h]
theorem cell_lt {w:Zc}{p:Addr}{v:Zl}(h:w.cell? p=some v) :p.block < w.heap.size:=by
 rcases Ys p.block w.heap.size with hl | hl
 ·exact hl
 ·simp [World.cell?,VN hl] at h
theorem ret_int {k:IntKind}{a b:Int}(h:a=b) :XR (.int k a)= .returned (.int k b):=by rw [h]
theorem JY {a b:Bool}(h:a=b) :XR (.bool a)= .returned (.bool b):=by rw [h]
end
section
open Go.RowKit
structure Kept (S:Nat→Prop)(w w':Zc) :Prop where
 os:w'.os=w.os
 tape:w'.tape=w.tape
 output:w'.output=w.output
 size:w.heap.size≤w'.heap.size
 block: ∀i,i < w.heap.size→ ¬S i→w'.heap[i]?=w.heap[i]?
section
variable {S T:Nat→Prop} {a w w' c:Zc} {B g:Nat} {t:ZN} {cs:Array Zl}
theorem Kept.refl (S:Nat→Prop)(w:Zc) :Kept S w w:=⟨rfl,rfl,rfl,Zg _,fun _ _ _=>rfl⟩
theorem Kept.trans (h:Kept S a w)(k:Kept T w c)(hT: ∀i,i < a.heap.size→T i→S i) :Kept S a c:=
 ⟨k.os.trans h.os,k.tape.trans h.tape,k.output.trans h.output,Z9 h.size k.size,fun i hi hn=>(k.block i (Ya hi h.size) (fun ht=>hn (hT i hi ht))).trans (h.block i hi hn)⟩
theorem Kept.drewN (h:Kept S a w)(n:Nat) :Kept S a (w.drewN n):=⟨h.os,h.tape,h.output,h.size,h.block⟩
theorem Kept.drew (h:Kept S a w) :Kept S a w.drew:=⟨h.os,h.tape,h.output,h.size,h.block⟩
theorem Kept.alloc (h:Kept S a w)(o:Obj) :Kept S a (w.alloc o):=
 ⟨h.os,h.tape,h.output,Z9 h.size ZI,fun i hi hn=>(Kz w o i (Ya hi h.size)).trans (h.block i hi hn)⟩
theorem Kept.setCell (h:Kept S a w){p:Addr}(hp:S p.block∨a.heap.size≤p.block)(u:Zl) :Kept S a (w.setCell p u):=
 ⟨h.os,h.tape,h.output,by simpa [World.setCell] using h.size,fun i hi hn=>(Xs w p u i (by
  rintro rfl
  rcases hp with hp | hp
  ·exact hn hp
  ·omega)).trans (h.block i hi hn)⟩
theorem Kept.setRow (h:Kept S a w){g:Nat}(hp:S g∨a.heap.size≤g)(cs:Array Zl) :Kept S a (w.setRow g cs):=
 ⟨h.os,h.tape,h.output,by simpa using h.size,fun i hi hn=>(setRow_other w g i cs (by
  rintro rfl
  rcases hp with hp | hp
  ·exact hn hp
  ·omega)).trans (h.block i hi hn)⟩
theorem Kept.below (hb:Zs B a w)(h:Kept S w w')(hS: ∀i,S i→B≤i)(hB:B≤w.heap.size) :Zs B a w':=
 hb.trans ⟨h.os,h.tape,h.output,h.size,fun i hi=>h.block i Zm (fun hs=>by have:=hS i hs; omega)⟩
theorem Kept.of_below (h:Zs a.heap.size a w) :Kept S a w:=⟨h.os,h.tape,h.output,h.size,fun i hi _=>h.block i hi⟩
theorem Kept.of_grown {row:Option Nat}(h:a.grownBy w row)(hr: ∀i,some i=row→S i) :Kept S a w:=⟨h.os,h.tape,h.output,h.size,fun i hi hn=>h.block i hi (fun e=>hn (hr i e))⟩
theorem Kept.more (h:Kept S a w)(hS: ∀i,i < a.heap.size→S i→T i) :Kept T a w:=⟨h.os,h.tape,h.output,h.size,fun i hi hn=>h.block i hi (fun hs=>hn (hS i hi hs))⟩
theorem Kept.more_new (h:Kept (fun i=>i=a.heap.size) a w) :Kept T a w:=h.more fun i hi e=>by omega
theorem Blk.kept (h:Blk w g t cs)(k:Kept S w w')(hg: ¬S g) :Blk w' g t cs:=(k.block g h.lt hg).trans h
theorem Kept.cell (k:Kept S w w'){p:Addr}(hp: ¬S p.block){v:Zl}(h:w.cell? p=some v) :w'.cell? p=some v:=
 (World.cell?_of_block (w:=w) (k.block p.block (cell_lt h) hp)).trans h
theorem Kept.frozen (k:Kept S w w'){p:Addr}(hp: ¬S p.block)(hb:p.block < w.heap.size) :w'.frozen? p=w.frozen? p:=World.frozen?_of_block (w:=w) (k.block p.block hb hp)
theorem Kept.grown {row:Option Nat}(h:Kept (fun _=>False) a w)(hg:w.grownBy w' row)(hr: ∀i,row=some i→a.heap.size≤i) :Kept (fun _=>False) a w':=
 h.trans (T:=fun i=>row=some i) ⟨hg.os,hg.tape,hg.output,hg.size,fun i hi hn=>hg.block i hi (fun e=>hn e.symm)⟩ (fun i hi e=>by have:=hr i e; omega)
theorem Blk.setRow (h:Blk w g t cs)(cs':Array Zl) :Blk (w.setRow g cs') g t cs':=Z6 w g cs cs' t (0,0) h
theorem Blk.setRow_far (h:Blk w g t cs){k:Nat}(hk:g≠k)(cs':Array Zl) :Blk (w.setRow k cs') g t cs:=(setRow_other w k g cs' hk).trans h
theorem Blk.ne_ {g':Nat}{t':ZN}{cs':Array Zl}(h:Blk w g t cs)(h':Blk w g' t' cs')(KF:t≠t') :g≠g':=by
 rintro rfl;unfold Blk at h h';rw [h] at h';injection h' with h';injection h' with _ ht;exact KF ht
end
section
variable {P:YO}
theorem Wm (w:Zc)(dT sT ty elem:ZN)(g o PE dE:Nat)(a:Addr)(PQ fN k:Nat)(cur:Array Zl)(t:ZN)(cs:List Zl)
  (hu:P.underlying dT=some (.slice elem)) (hs:(P.info? elem).map (·.size)=some k)
  (hg:w.heap[g]?=some (.cells cur t (0,0))) (hn:cs.length=Nat.min PQ PE*k)
  (Ep: ∀j v,cs[j]?=some v→w.cell? (a.add j)=some v) (Dv:o+cs.length≤cur.size) (h1: ∀v ∈ cs,v.oneCell'=true) :
  (Builtin.copy_ #[dT,sT] ty #[.slice (some ⟨g,o,none⟩) PE dE,.slice (some a) PQ fN]).run P w= .ok (goInt (Nat.min PQ PE)) (w.setRow g (Vt cur.toList o cs).toArray):=by
 have hl:=run_loadCells_list (P:=P) w a cs Ep;have Um:=run_storeCells_at P g o t cs 0 cur w hg (by simpa using Dv) h1
 cases hq:P.info? elem with
 | none=>simp [hq] at hs
 | some i=>
  have hi:i.size=k:=by simpa [hq] using hs
  rw [hn] at hl;simp [Builtin.copy_,Y9 hu,Builtin.lenOf,GA,sizeOf,Vl,hq,hi,hl,Um,Vt]
theorem Tk (w:Zc)(dT sT ty elem:ZN)(d a:Option Addr)(PE dE PQ fN:Nat)(hu:P.underlying dT=some (.slice elem))(hs:((P.info? elem).map (·.size)).isSome=true)(hn:Nat.min PQ PE=0) :
  (Builtin.copy_ #[dT,sT] ty #[.slice d PE dE,.slice a PQ fN]).run P w= .ok (goInt 0) w:=by
 cases hq:P.info? elem with
 | none=>simp [hq] at hs
 | some i=>
  have hl: ∀(x:Addr),(loadCells x 0).run P w= .ok #[] w:=fun x=>by simpa using run_loadCells_list (P:=P) w x [] ZI
  cases d <;> cases a <;> simp [Builtin.copy_,Y9 hu,Builtin.lenOf,GA,sizeOf,Vl,hq,hn,storeCells,hl]
theorem wpList_copyK {w:Zc}{ops:Array Oper}{rest:List Oper}{o:Oper}{a:Act}{Q:Exit→Act→Zc→Prop}(DV:o.guard=none)(d s:Yz)(dT sT:ZN)
  (ho:o.op= .call { callee:= .builtin .copy,args:= #[d,s],argTypes:= #[dT,sT]}) (elem:ZN) (hu:P.underlying dT=some (.slice elem)) (k:Nat) (hk:0 < k) (Er:(P.info? elem).map (·.size)=some k)
  (dp sp:Option Addr) (PE dE PQ fN:Nat) (hd:a.eval d= .slice dp PE dE) (hs:a.eval s= .slice sp PQ fN)
  (g off:Nat) (cur:List Zl) (t:ZN) (hg:w.heap[g]?=some (.cells cur.toArray t (0,0))) (cs:List Zl) (m:Nat) (hm:m=Nat.min PQ PE) (hn:cs.length=m*k)
  (So:0 < cs.length→dp=some ⟨g,off,none⟩∧ ∃ad,sp=some ad∧ ∀j v,cs[j]?=some v→w.cell? (ad.add j)=some v)
  (Dv:off+cs.length≤cur.length) (h1: ∀v ∈ cs,v.oneCell'=true)
  (h: ∀w',Hid (w'.heap[g]?=some (.cells (Vt cur off cs).toArray t (0,0)))→Kept (fun i=>i=g) w w'→w'.heap.size=w.heap.size→YY P ops Q rest (a.put o.dst (goInt m)) w') :
  YY P ops Q (o::rest) a w:=by
 refine Q6 DV fun K hK=>?_
 subst hm
 by_cases h0:cs.length=0
 ·obtain rfl:cs=[]:=ZU h0;have hz:Nat.min PQ PE=0:=by
   simp only [List.length_nil] at hn
   rcases Nat.mul_eq_zero.1 hn.symm with h2 | h2
   ·exact h2
   ·omega
  have Be:=Tk (P:=P) w dT sT o.type elem dp sp PE dE PQ fN hu (by rw [Er]; rfl) hz;unfold Jj;simp [Xn,ho,resolve,invoke,builtin,hd,hs,Be,Xe];have:=h w (show _=_ by simpa [Vt] using hg) (Kept.refl _ _) rfl;rw [hz] at this;exact hK _ _ this
 ·obtain ⟨rfl,ad,rfl,Ep⟩:=So Zm;have Be:=Wm (P:=P) w dT sT o.type elem g off PE dE ad PQ fN k cur.toArray t cs hu Er hg hn Ep (by simpa using Dv) h1;unfold Jj;simp [Xn,ho,resolve,invoke,builtin,hd,hs,Be,Xe];exact hK _ _ (h _ (show _=_ by simpa using Z6 w g _ _ t _ hg) (Kept.setRow (S:=fun i=>i=g) (Kept.refl _ _) (.inl rfl) _) ZI)
theorem Tj (w:Zc)(T ty elem:ZN)(z:Zl)(hu:P.underlying T=some (.slice elem))(hv: ∀w,(Kj elem).run P w= .ok z w)(h1: ∀v ∈ z.cells.toList,v.oneCell'=true)(g o n c:Nat)(hn:0 < n)(cur:Array Zl)(t:ZN)
  (hg:w.heap[g]?=some (.cells cur t (0,0))) (Dv:o+n*z.cells.size≤cur.size) :
  (Builtin.clear_ #[T] ty #[.slice (some ⟨g,o,none⟩) n c]).run P w= .ok (.tuple #[]) (w.setRow g (Vt cur.toList o (Xb z.cells n).toList).toArray):=by
 have hlen:(Xb z.cells n).toList.length=n*z.cells.size:=by simp [Xb]
 have pB: ∀v ∈ (Xb z.cells n).toList,v.oneCell'=true:=by
  intro v vy;simp only [Xb,Array.toList_map,Yk,Gz,QV] at vy;obtain ⟨i,hi,rfl⟩:=vy;have So:0 < z.cells.size:=by
   rcases QW z.cells.size with h0 | h0
   ·rw [h0,Nat.mul_zero] at hi; omega
   ·exact h0
  have XP:i%z.cells.size < z.cells.size:=QK _ So;refine h1 _ ?_;rw [getElem!_pos z.cells _ XP];exact Array.getElem_mem_toList XP
 have Um:=run_storeCells_at P g o t (Xb z.cells n).toList 0 cur w hg (by simp only [Nat.add_zero]; rw [hlen]; exact Dv) pB;obtain ⟨m,rfl⟩ : ∃m,n=m+1:=⟨n - 1,by omega⟩;simp only [Nat.add_zero] at Um;simp [Builtin.clear_,Y9 hu,hv,Um,Vt]
theorem EB {w:Zc}{ops:Array Oper}{rest:List Oper}{o:Oper}{a:Act}{Q:Exit→Act→Zc→Prop}(DV:o.guard=none)(s:Yz)(T:ZN)
  (ho:o.op= .call { callee:= .builtin .clear,args:= #[s],argTypes:= #[T]}) (elem:ZN) (hu:P.underlying T=some (.slice elem)) (z:Zl) (hv: ∀w,(Kj elem).run P w= .ok z w) (h1: ∀v ∈ z.cells.toList,v.oneCell'=true)
  (g off n c:Nat) (hs:a.eval s= .slice (some ⟨g,off,none⟩) n c) (hn:0 < n) (cur:List Zl) (t:ZN) (hg:w.heap[g]?=some (.cells cur.toArray t (0,0))) (Dv:off+n*z.cells.size≤cur.length)
  (h: ∀w',Hid (w'.heap[g]?=some (.cells (Vt cur off (Xb z.cells n).toList).toArray t (0,0)))→Kept (fun i=>i=g) w w'→YY P ops Q rest (a.put o.dst (.tuple #[])) w') :
  YY P ops Q (o::rest) a w:=by
 refine Q6 DV fun K hK=>?_
 have Be:=Tj (P:=P) w T o.type elem z hu hv h1 g off n c hn cur.toArray t hg (by simpa using Dv);unfold Jj;simp [Xn,ho,resolve,invoke,builtin,hs,Be,Xe];exact hK _ _ (h _ (show _=_ by simpa using Z6 w g _ _ t _ hg) (Kept.setRow (S:=fun i=>i=g) (Kept.refl _ _) (.inl rfl) _))
end
end
section
open Go.RowKit
section
variable {P:YO} {ops:Array Oper} {C:Zc→Prop} {Q:Act→Prop} {a:Act} {o:Oper} {rest:List Oper}
theorem Gm (v:Zl)(hw:YQ o (JF ops a.tmps)=true)(hv: ∀w,(Xn a.eval o).run P w= .ok (.value v) w)(h:ZW P ops C Q rest (a.put o.dst v)) :ZW P ops C Q (o::rest) a:=by
 unfold ZW;rw [if_pos hw];exact ⟨v,fun w _=>by unfold VR; rw [hv]; exact ⟨rfl,rfl⟩,h⟩
theorem CO (v:Zl)(hw:YQ o (JF ops a.tmps)=true)(hv: ∀w,C w→(Xn a.eval o).run P w= .ok (.value v) w)(h:ZW P ops C Q rest (a.put o.dst v)) :ZW P ops C Q (o::rest) a:=by
 unfold ZW;rw [if_pos hw];exact ⟨v,fun w hc=>by unfold VR; rw [hv w hc]; exact ⟨rfl,rfl⟩,h⟩
theorem Jw (ty:ZN)(x:Yz)(b:Nat)(t:ZN)(cs:Array Zl)(d:TypeDesc)(hw:YQ o (JF ops a.tmps)=true)(ho:o.op= .load ty x)(hx:a.eval x= .pointer (some ⟨b,0,none⟩))
  (hC: ∀w,C w→Blk w b t cs) (hu:P.underlying ty=some d) (hd:(match d with | .struct _ | .array _ _=>true | _=>false)=true) (hi:(P.info? ty).map (·.size)=some cs.size)
  (h:ZW P ops C Q rest (a.put o.dst (.agg cs))) :ZW P ops C Q (o::rest) a:=by
 refine CO (.agg cs) hw (fun w hc=>?_) h;unfold Xn;simp only [ho,hx,Instr.loadAt,Instr.sureAddr,Yi,YC,ZQ,run_loadVar_row w b t ty cs (0,0) d (hC w hc) hu hd hi]
theorem SO {dst:Option Tmp}{f:FuncId}{xs:Array Yz}{ui:Array ZN}{ty:ZN}{pos:String}{after:Array Edge}{guard:Option (Nat × Bool)}(v:Zl)(vs:Array Zl)
  (hw:YQ { dst,op:= .call { callee:= .value (.func f),args:=xs,argTypes:=ui},type:=ty,pos,after,guard} (JF ops a.tmps)=true)
  (hvs: #[]++xs.map a.eval++ #[]=vs) (BX: ∀args w,(callFunc f args).run P w= .ok (.enter f args) w)
  (hC: ∀w,C w→Zj P f vs w fun e w'=>e= .returned v∧C w') (h:ZW P ops C Q rest (a.put dst v)) :
  ZW P ops C Q ({ dst,op:= .call { callee:= .value (.func f),args:=xs,argTypes:=ui},type:=ty,pos,after,guard}::rest) a:=by
 unfold ZW;rw [if_pos hw];refine ⟨v,fun w hc=>?_,h⟩;unfold VR;have e:Xn a.eval { dst,op:= .call { callee:= .value (.func f),args:=xs,argTypes:=ui},type:=ty,pos,after,guard}=callFunc f (#[]++xs.map a.eval++ #[]):=rfl;rw [e,BX,hvs];exact ⟨rfl,hC w hc⟩
theorem XB {P:YO}{id:Nat}{Q:Exit→Act→Zc→Prop}{a:Act}{w:Zc}{l:List Oper}(C:Zc→Prop)(hm:P.follows .mixedOrders=true)(hB:Region.lexB .any l.toArray=true)(hC:C w.drew)
  (h:ZW P l.toArray C (fun a'=> ∀w',C w'→Q .normal a' w') l a) :(VH id l.toArray true).wp P Q a w:=
 wp_region_quiet (C:=C) hm hB hC Ir
end
section
variable {P:YO} {ops:Array Oper} {Q:Exit→Act→Zc→Prop} {a:Act} {w:Zc} {rest:List Oper} {o:Oper}
theorem Fg (hw:YQ o (JF ops a.tmps)=true)(ty:ZN)(x:Yz)(ho:o.op= .load ty x)
  (g:Nat) (hx:a.eval x= .pointer (some ⟨g,0,none⟩)) (t:ZN) (cs:Array Zl) (fr:Nat × Nat) (d:TypeDesc) (hg:w.heap[g]?=some (.cells cs t fr))
  (hu:P.underlying ty=some d) (hd:(match d with | .struct _ | .array _ _=>true | _=>false)=true) (hi:(P.info? ty).map (·.size)=some cs.size)
  (h:YY P ops Q rest (a.put o.dst (.agg cs)) w) :YY P ops Q (o::rest) a w:=by
 unfold YY;rw [if_pos hw];exact .inl (wp_load_row ty x ho g hx t cs fr d hg hu hd hi h)
theorem Eh (v:Zl)(hw:YQ o (JF ops a.tmps)=true)(hv:(Xn a.eval o).run P w= .ok (.value v) w)(h:YY P ops Q rest (a.put o.dst v) w) :YY P ops Q (o::rest) a w:=by
 unfold YY;rw [if_pos hw];refine .inl ?_;unfold Jj;rw [hv];exact h
end
def VL (B b t:Nat)(cs:Array Zl)(w w':Zc) :Prop:=Blk w' b t cs∧Zs B w w'∧B≤w'.heap.size
theorem VL.call {P:YO}{f:FuncId}{vs:Array Zl}{v:Zl}{B b t:Nat}{cs:Array Zl}{w0 w:Zc}(hk:VL B b t cs w0 w)
  (h:Zj P f vs w fun e w'=>e= .returned v∧Zs w.heap.size w w') :Zj P f vs w fun e w'=>e= .returned v∧VL B b t cs w0 w':=
 h.mono fun _ _ ⟨he,hb⟩=>⟨he,hk.1.below hb hk.1.lt,hk.2.1.trans (hb.mono hk.2.2),Z9 hk.2.2 hb.size⟩
theorem VL.drew {B b t:Nat}{cs:Array Zl}{w0 w:Zc}(hk:VL B b t cs w0 w) :VL B b t cs w0 w.drew:=⟨hk.1,hk.2.1.drew,hk.2.2⟩
theorem VL.new {B t:Nat}{cs:Array Zl}{w0 w:Zc}(hk:Zs B w0 w)(hB:B≤w.heap.size) :VL B w.heap.size t cs w0 (w.alloc (.cells cs t)):=
 ⟨Blk.new w t cs,hk.alloc hB _,by simp; omega⟩
theorem VL.alloc {B b t:Nat}{cs:Array Zl}{w0 w:Zc}(hk:VL B b t cs w0 w)(o:Obj) :VL B b t cs w0 (w.alloc o):=⟨hk.1.alloc o,hk.2.1.alloc hk.2.2 o,by have:=hk.2.2; simp; omega⟩
theorem VL.heap {B b t:Nat}{cs:Array Zl}{w0 w:Zc}(hk:VL B b t cs w0 w) :w.heap[b]?=some (.cells cs t (0,0)):=hk.1
end
section
open Go.RowKit
section
variable {P:YO} {ops:Array Oper} {md:Kd} {C:Zc→Prop}
def Tz (P:YO)(md:Kd)(ops:Array Oper)(C:Zc→Prop)(n:Nat)(L:Array Bool→Act→Prop) :Nat→Array Bool→Act→Prop
 | 0,Zt,a=>L Zt a
 | f+1,Zt,a=>
  Yw md ops Zt≠ []∧ ∀i ∈ Yw md ops Zt,i < n∧qOp P ops C i (Tz P md ops C n L f (Zt.setIfInBounds i true)) a
theorem F9 {n g:Nat}{L:Array Bool→Act→Prop}{Q':Exit→Act→Zc→Prop}(hL: ∀Zt a w,C w→L Zt a→wpAny P md ops Q' g Zt a w) :
  ∀(f:Nat) (Zt:Array Bool) (a:Act) (w:Zc),C w→Tz P md ops C n L f Zt a→wpAny P md ops Q' (f+g) Zt a w
 | 0,Zt,a,w,hw,h=>by rw [ZX]; exact hL _ _ _ hw h
 | f+1,Zt,a,w,hw,h=>by
  rw [show f+1+g=(f+g)+1 by omega];exact ⟨fun h0=>absurd h0 h.1,fun i hi=>wpOp_of_qOp hw (fun a' w' JB h'=>F9 hL f _ a' w' JB h') (h.2 i hi).2⟩
theorem Ih {n i:Nat}{oi:Oper}{v:Zl}{L:Array Bool→Act→Prop}(hi:ops[i]?=some oi)(Bv: ∀(j:Nat) (o:Oper) cs b,ops[j]?=some o→o.op≠ .select cs b)
  (hs:Vh md ops n=true) (hc:Vp md ops n=true) (hn:n < ops.size) (WU:i < n)
  (ET: ∀Zt a,L Zt a→ ∀j ∈ Yw md ops Zt,n≤j) :
  ∀(f:Nat) (Zt:Array Bool) (a:Act),HeadInv md ops n Zt→
   (∀j oj,ops[j]?=some oj→j≠i→Zt.getD j true=false→(∀e ∈ oj.after,Xp md e=true→e.on≠i)→oi.apart ops oj=true)→
   i ∈ Yw md ops Zt→YieldsIn P ops C oi v a→
   Tz P md ops C n L f (Zt.setIfInBounds i true) (a.put oi.dst v)→Tz P md ops C n L (f+1) Zt a:=by
 intro f
 induction f with
 | zero=>
  intro Zt a inv _ hr hy H;have P9:=(mem_ready.1 hr).1;refine ⟨fun h=>OO,fun j hj=>?_⟩;have Dj:j < n:=by
   rcases Ys j n with h | h
   ·exact h
   ·exact absurd hj (tail_waits hs hc hn inv _ i rfl WU P9 j h)
  refine ⟨Dj,?_⟩
  by_cases Mj:j=i
  ·subst Mj; exact hy.qOp hi H
  ·have:=ET _ _ H j (UD hj Mj);omega
 | succ f ih=>
  intro Zt a inv Mg hr hy H;have P9:=(mem_ready.1 hr).1;refine ⟨fun h=>OO,fun j hj=>?_⟩;have Dj:j < n:=by
   rcases Ys j n with h | h
   ·exact h
   ·exact absurd hj (tail_waits hs hc hn inv _ i rfl WU P9 j h)
  refine ⟨Dj,?_⟩
  by_cases Mj:j=i
  ·subst Mj; exact hy.qOp hi H
  ·have h1:=(H.2 j (UD hj Mj)).2;obtain ⟨aJ,oj,pA,Du⟩:=mem_ready.1 hj;have FA: ∀e ∈ oj.after,Xp md e=true→e.on≠i:=fun e he hb heq=>by
    have h1:=Du e he hb;rw [heq,getD_both P9] at h1
    cases h1
   have h2:=qOp_put pA (Mg j oj pA Mj aJ FA) (fun cs b=>Bv i oi cs b hi) (fun cs b=>Bv j oj cs b pA) hy h1;have Si: ∀k ok,ops[k]?=some ok→k≠i→(Zt.setIfInBounds j true).getD k true=false→
     (∀e ∈ ok.after,Xp md e=true→e.on≠i)→oi.apart ops ok=true:=fun k ok hk mR P9 pz=>by
    refine Mg k ok hk mR ?_ pz
    by_cases EU:j=k
    ·subst EU; exact aJ
    ·rw [getD_set_ne true EU] at P9; exact P9
   refine qOp_mono (fun a' h3=>ih (Zt.setIfInBounds j true) a' (inv.set hj Dj) Si (UD hr (QD Mj)) h3.1 ?_) h2;rw [Array.setIfInBounds_comm _ _ Mj];exact h3.2
theorem TB {n g:Nat}{Lq:Act→Prop}(Bv:Region.noSelect ops=true)(hs:Vh md ops n=true)(hc:Vp md ops n=true)(hn:n < ops.size) :
  ∀(l:List Oper) (k:Nat) (Zt:Array Bool) (a:Act),(∀j,j < l.length→l[j]?=ops[k+j]?)→k+l.length=n→HeadInv md ops n Zt→
  Region.lexHead md ops g l.length k Zt=true→ZW P ops C Lq l a→
  Tz P md ops C n (fun iJ a'=>Region.seqB md ops g n iJ=true∧Lq a') l.length Zt a
 | [],k,Zt,a,_,hk,_,hB,h=>by
  have:k=n:=by simpa using hk
  subst this;exact ⟨by simpa [Region.lexHead] using hB,h⟩
 | o::l,k,Zt,a,hl,hk,inv,hB,h=>by
  have h0:ops[k]?=some o:=by simpa using (hl 0 ZI).symm
  simp only [Yp,Region.lexHead,YZ] at hB;obtain ⟨⟨hr,hf⟩,hB'⟩:=hB;have DX:k < n:=by simp only [Yp] at hk; omega
  have pF:k ∈ Yw md ops Zt:=by simpa using hr
  have Um:qOp P ops C k (ZW P ops C Lq l) a:=by unfold qOp; simp only [h0]; exact h
  obtain ⟨v,hy,hK⟩:=yieldsIn_of_qOp h0 Um;exact Ih h0 (Region.noSelect_spec Bv) hs hc hn DX (fun iJ a' hL=>seqB_ready hL.1) l.length Zt a inv (Region.free_spec h0 hf) pF hy
   (TB Bv hs hc hn l (k+1) _ _ (fun j hj=>by have:=hl (j+1) zB13_2; simpa [JH,Nat.add_comm 1 j] using this) (by simp only [Yp] at hk; omega) (inv.set pF DX) hB' hK)
theorem Lz {id:Nat}{Q:Exit→Act→Zc→Prop}{a:Act}{w:Zc}{l:List Oper}(C:Zc→Prop)(n:Nat)(hm:P.follows .mixedOrders=true)(hB:V8 .any l.toArray n=true)(hC:C w.drew)
  (h:ZW P l.toArray C (fun a'=> ∀w',C w'→YY P l.toArray Q (l.drop n) a' w') (l.take n) a) :(VH id l.toArray true).wp P Q a w:=by
 simp only [V8,YZ,decide_eq_true_eq] at hB;obtain ⟨⟨⟨⟨Bv,hn⟩,hs⟩,hc⟩,hlex⟩:=hB;have hn':n < l.length:=by simpa using hn
 have iE:(l.take n).length=n:=by simp; omega
 have hdl:(l.drop n).length=l.toArray.size - n:=by simp
 have inv0:HeadInv .any l.toArray n (Array.replicate l.toArray.size false):=
  ⟨by simp,fun j oj _ hl=>(by rw [Uy] at hl; cases hl),fun t _ ht=>getD_in (by simpa using ht) (Uy _ _)⟩
 have H:=TB (md:= .any) (g:=l.toArray.size - n) Bv hs hc hn (l.take n) 0 _ a (fun j hj=>by
  have O3:j < n:=by rw [iE] at hj; exact hj
  simp [O3]) (by simpa using iE) inv0 (by rw [iE]; exact hlex) h
 refine wp_region_any hm ?_;have:=F9 (Q':=Q) (g:=l.toArray.size - n) (fun Zt a' w' JB hL=>by
  have:=wpAny_of_seq (md:= .any) (Q':=Q) (l.drop n) n Zt a' w' (fun j=>by simp [Qd]) (by rw [hdl]; exact hL.1) (hL.2 _ JB);rwa [hdl] at this) _ _ _ w.drew hC H
 rw [iE,show n+(l.toArray.size - n)=l.toArray.size by omega] at this;exact this
theorem LA {id:Nat}{Q:Exit→Act→Zc→Prop}{a:Act}{w:Zc}{l:List Oper}(n:Nat)(hm:P.follows .mixedOrders=true)(hB:V8 .any l.toArray n=true)
  (h:ZW P l.toArray (fun w'=> ∃n,w'=w.drewN n) (fun a'=> ∀w',(∃n,w'=w.drewN n)→YY P l.toArray Q (l.drop n) a' w') (l.take n) a) :(VH id l.toArray true).wp P Q a w:=
 Lz (fun w'=> ∃n,w'=w.drewN n) n hm hB ⟨1,rfl⟩ h
end
end
section
def Wheel {α:Type}(C:List α)(f:Nat)(F:List α) :Prop:=F.length≤C.length∧f < C.length∧ ∀t v,F[t]?=some v→C[(f+t)%C.length]?=some v
theorem xB {N s:Nat}(h:s < 2*N) :(s < N∧s%N=s)∨(N≤s∧s%N=s - N):=by
 rcases Ys s N with h1 | h1
 ·exact .inl ⟨h1,KE h1⟩
 ·refine .inr ⟨h1,?_⟩;rw [Nat.mod_eq_sub_mod h1];exact KE Zm
theorem Bx {α:Type}(L:List α)(off:Nat)(cs:List α)(h:off+cs.length≤L.length)(p:Nat) :
  (Vt L off cs)[p]?=if p < off then L[p]? else if p < off+cs.length then cs[p - off]? else L[p]?:=by
 unfold Vt;have hl:(L.take off).length=off:=by simp; omega
 by_cases h1:p < off
 ·rw [if_pos h1,Yn Zm,QH h1]
 ·rw [if_neg h1,YF Zm,hl]
  by_cases h2:p < off+cs.length
  ·rw [if_pos h2,Yn Zm]
  ·rw [if_neg h2,YF Zm,Qd]
   congr 1
   omega
section
variable {α:Type} {C F:List α} {f:Nat}
theorem Wheel.read1 (h:Wheel C f F){u:Nat}(hu:f+u≤C.length)(j:Nat)(v:α)(hv:(F.take u)[j]?=some v) :C[f+j]?=some v:=by
 have hj:j < u:=by
  rcases Ys j u with h1 | h1
  ·exact h1
  ·rw [Qg zB13_2] at hv; cases hv
 rw [QH hj] at hv;have:=h.2.2 j v hv;rwa [KE Zm] at this
theorem Wheel.read2 (h:Wheel C f F)(j:Nat)(v:α)(hv:(F.drop (C.length - f))[j]?=some v) :C[j]?=some v:=by
 rw [Qd] at hv;have hj:C.length - f+j < F.length:=by
  rcases Ys (C.length - f+j) F.length with h1 | h1
  ·exact h1
  ·exact sy
 obtain ⟨h1,h2,h3⟩:=h;have:=h3 _ v hv;rw [show f+(C.length - f+j)=C.length+j by omega,Nat.add_mod_left,KE Zm] at this;exact this
theorem Wheel.of_prefix {Z:List α}(h:0 < (F++Z).length) :Wheel (F++Z) 0 F:=by
 refine ⟨by simp,h,fun t v hv=>?_⟩;have ht:t < F.length:=by
  rcases Ys t F.length with h1 | h1
  ·exact h1
  ·exact sy
 rw [ZX,KE zB13_2,Yn ht];exact hv
theorem Wheel.push (h:Wheel C f F){cs:List α}(hc:F.length+cs.length≤C.length){s u:Nat}(hs:s=(f+F.length)%C.length)(hu:u=min cs.length (C.length - s)) :
  Wheel (Vt (Vt C s (cs.take u)) 0 (cs.drop u)) f (F++cs):=by
 obtain ⟨h1,h2,h3⟩:=h;have hsN:s < C.length:=by rw [hs]; exact QK _ Zm
 have l1:(cs.take u).length=u:=by simp; omega
 have l2:(cs.drop u).length=cs.length - u:=by simp
 have e1:(Vt C s (cs.take u)).length=C.length:=Qn _ _ _ Zm;have e2:(Vt (Vt C s (cs.take u)) 0 (cs.drop u)).length=C.length:=by rw [Qn _ _ _ Zm,e1]
 refine ⟨by rw [e2]; simpa using hc,by omega,fun t v hv=>?_⟩;rw [e2,Bx _ _ _ Zm,Bx _ _ _ Zm,l1,l2];have hws:=xB (N:=C.length) (s:=f+F.length) Zm;rw [←hs] at hws;have ht:t < F.length+cs.length:=by
  rcases Ys t (F.length+cs.length) with h4 | h4
  ·exact h4
  ·rw [Qg (by simpa using h4)] at hv; cases hv
 have hwt:=xB (N:=C.length) (s:=f+t) Zm;generalize hp:(f+t)%C.length=p at*
 by_cases htF:t < F.length
 ·rw [Yn htF] at hv;have:=h3 t v hv;rw [hp] at this;rw [if_neg Zm,if_neg Zm]
  by_cases h5:p < s
  ·rw [if_pos h5]; exact this
  ·rw [if_neg h5,if_neg Zm]; exact this
 ·rw [YF Zm] at hv;rw [if_neg Zm]
  by_cases hr:t - F.length < u
  ·rw [if_neg Zm,if_neg Zm,if_pos Zm,QH Zm,show p - s=t - F.length by omega];exact hv
  ·rw [if_pos Zm,Qd,show u+(p - 0)=t - F.length by omega];exact hv
theorem Wheel.pop (h:Wheel C f F){k:Nat}(hk:k≤F.length){C':List α}(hl:C'.length=C.length)(hC: ∀p,p < f∨f+k≤p→C'[p]?=C[p]?) :Wheel C' ((f+k)%C.length) (F.drop k):=by
 obtain ⟨h1,h2,h3⟩:=h;refine ⟨by rw [hl,Q0]; omega,by rw [hl]; exact QK _ Zm,fun t v hv=>?_⟩;rw [Qd] at hv;have ht:k+t < F.length:=by
  rcases Ys (k+t) F.length with h4 | h4
  ·exact h4
  ·rw [Qg h4] at hv; cases hv
 have:=h3 _ v hv;rw [hl,Nat.mod_add_mod,JH];have hwt:=xB (N:=C.length) (s:=f+(k+t)) Zm;generalize (f+(k+t))%C.length=p at*;rw [hC p Zm];exact this
theorem Wheel.get (h:Wheel C f F){t:Nat}{v:α}(hv:F[t]?=some v) :C[(f+t)%C.length]?=some v:=h.2.2 t v hv
end
end
section
open Go.RowKit
def Jd (R E k:Nat)(w:Zc)(b g size n f c:Nat)(C:List Zl) :Prop:=
 Blk w b R #[.int .i64 size,.slice (some ⟨g,0,none⟩) n n,.int .i64 f,.int .i64 c]∧Blk w g E C.toArray∧C.length=n*k∧f < n∧c≤n∧n≤size∧size≤1048576
def Da (R:Nat)(w:Zc)(b size:Nat) :Prop:=Blk w b R #[.int .i64 size,.slice none 0 0,.int .i64 0,.int .i64 0]∧1≤size∧size≤1048576
def RingAt (R E k:Nat)(w:Zc)(b:Nat)(g:Option Nat)(size c:Nat)(F:List Zl) :Prop:=
 F.length=c*k∧(∀v ∈ F,v.oneCell'=true)∧
 ((g=none∧c=0∧Da R w b size)∨ ∃g' n f C,g=some g'∧Jd R E k w b g' size n f c C∧Wheel C (f*k) F)
def Foot (b:Nat)(g:Option Nat)(i:Nat) :Prop:=i=b∨some i=g
def Moved (w:Zc)(g g':Option Nat) :Prop:= ∀i,g'=some i→g=some i∨w.heap.size≤i
section
variable {R E k b g size n f c:Nat} {C F:List Zl} {w w':Zc} {S:Nat→Prop} {go:Option Nat}
theorem Jd.kept (h:Jd R E k w b g size n f c C)(hk:Kept S w w')(hb: ¬S b)(hg: ¬S g) :Jd R E k w' b g size n f c C:=
 ⟨h.1.kept hk hb,h.2.1.kept hk hg,h.2.2⟩
theorem Da.kept (h:Da R w b size)(hk:Kept S w w')(hb: ¬S b) :Da R w' b size:=⟨h.1.kept hk hb,h.2⟩
theorem RingAt.kept (h:RingAt R E k w b go size c F)(hk:Kept S w w')(hS: ∀i,Foot b go i→ ¬S i) :RingAt R E k w' b go size c F:=by
 obtain ⟨h1,h2,h3⟩:=h;refine ⟨h1,h2,?_⟩
 rcases h3 with ⟨rfl,hc,hn⟩ | ⟨g',n,f,C,rfl,hi,hw⟩
 ·exact .inl ⟨rfl,hc,hn.kept hk (hS _ (.inl rfl))⟩
 ·exact .inr ⟨g',n,f,C,rfl,hi.kept hk (hS _ (.inl rfl)) (hS _ (.inr rfl)),hw⟩
theorem RingAt.drewN (h:RingAt R E k w b go size c F)(m:Nat) :RingAt R E k (w.drewN m) b go size c F:=h
theorem RingAt.size_le (h:RingAt R E k w b go size c F) :c≤size∧1≤size∧size≤1048576:=by
 obtain ⟨_,_,⟨_,rfl,_,h1,h2⟩ | ⟨g',n,f,C,rfl,⟨_,_,_,h1,h2,h3,h4⟩,_⟩⟩:=h
 ·exact ⟨by omega,h1,h2⟩
 ·exact ⟨by omega,by omega,h4⟩
theorem RingAt.lt (h:RingAt R E k w b go size c F) : ∀i,Foot b go i→i < w.heap.size:=by
 obtain ⟨_,_,⟨rfl,_,h1,_⟩ | ⟨g',n,f,C,rfl,⟨h1,h2,_⟩,_⟩⟩:=h
 ·rintro i (rfl | h)
  ·exact h1.lt
  ·cases h
 ·rintro i (rfl | h)
  ·exact h1.lt
  ·injection h with h;subst h;exact h2.lt
theorem Jd.ne (h:Jd R E k w b g size n f c C)(hRE:R≠E) :b≠g:=Blk.ne_ h.1 h.2.1 hRE
theorem Jd.at_ (h:Jd R E k w b g size n f c C)(hw:Wheel C (f*k) F)(hF:F.length=c*k)(h1: ∀v ∈ F,v.oneCell'=true) :RingAt R E k w b (some g) size c F:=⟨hF,h1,.inr ⟨g,n,f,C,rfl,h,hw⟩⟩
theorem Jd.cells (h:Jd R E k w b g size n f c C) :w.cell? ⟨b,0,none⟩=some (.int .i64 size)∧w.cell? ⟨b,1,none⟩=some (.slice (some ⟨g,0,none⟩) n n)∧w.cell? ⟨b,2,none⟩=some (.int .i64 f)∧w.cell? ⟨b,3,none⟩=some (.int .i64 c)∧
  w.frozen? ⟨b,1,none⟩=false∧w.frozen? ⟨b,2,none⟩=false∧w.frozen? ⟨b,3,none⟩=false:=
 ⟨h.1.cell 0,h.1.cell 1,h.1.cell 2,h.1.cell 3,h.1.frozen 1,h.1.frozen 2,h.1.frozen 3⟩
theorem Da.cells (h:Da R w b size) :w.cell? ⟨b,0,none⟩=some (.int .i64 size)∧w.cell? ⟨b,1,none⟩=some (.slice none 0 0)∧w.cell? ⟨b,2,none⟩=some (.int .i64 0)∧w.cell? ⟨b,3,none⟩=some (.int .i64 0)∧
  w.frozen? ⟨b,1,none⟩=false∧w.frozen? ⟨b,2,none⟩=false∧w.frozen? ⟨b,3,none⟩=false:=
 ⟨h.1.cell 0,h.1.cell 1,h.1.cell 2,h.1.cell 3,h.1.frozen 1,h.1.frozen 2,h.1.frozen 3⟩
theorem RingAt.cells (h:RingAt R E k w b go size c F) :w.cell? ⟨b,0,none⟩=some (.int .i64 size)∧w.cell? ⟨b,3,none⟩=some (.int .i64 c):=by
 obtain ⟨_,_,⟨rfl,rfl,h1⟩ | ⟨g',n,f,C,rfl,h1,_⟩⟩:=h
 ·exact ⟨h1.cells.1,h1.cells.2.2.2.1⟩
 ·exact ⟨h1.cells.1,h1.cells.2.2.2.1⟩
theorem Tb (w:Zc)(R E k size:Nat)(h1:1≤size)(h2:size≤1048576) :RingAt R E k (w.alloc (.cells #[.int .i64 size,.slice none 0 0,.int .i64 0,.int .i64 0] R)) w.heap.size none size 0 []:=
 ⟨by simp,by simp,.inl ⟨rfl,rfl,Blk.new _ _ _,h1,h2⟩⟩
theorem LS {f u:Nat}(hB:Blk w g E C.toArray)(hw:Wheel C f F)(hu:f+u≤C.length)(j:Nat)(v:Zl)(hv:(F.take u)[j]?=some v) :w.cell? ((⟨g,f,none⟩ :Addr).add j)=some v:=by
 rw [add_plain,hB.cell];simpa using hw.read1 hu j v hv
theorem Tc {f:Nat}(hB:Blk w g E C.toArray)(hw:Wheel C f F)(j:Nat)(v:Zl)(hv:(F.drop (C.length - f))[j]?=some v) :w.cell? ((⟨g,0,none⟩ :Addr).add j)=some v:=by
 rw [add_plain,hB.cell,ZX];simpa using hw.read2 j v hv
theorem splice_two {D F:List Zl}{u:Nat}(hF:F.length≤D.length)(hu:u≤F.length) :Vt (Vt D 0 (F.take u)) u (F.drop u)=F++D.drop F.length:=by
 have l1:(F.take u).length=u:=by simp; omega
 have l2:(F.drop u).length=F.length - u:=by simp
 have e1:(Vt D 0 (F.take u)).length=D.length:=Qn _ _ _ Zm;apply Vb;intro p;rw [Bx _ _ _ Zm,Bx _ _ _ Zm,l1,l2]
 by_cases h1:p < u
 ·rw [if_pos h1,if_neg Zm,if_pos Zm,Yn Zm,QH Zm,Nat.sub_zero]
 ·rw [if_neg h1]
  by_cases h2:p < F.length
  ·rw [if_pos Zm,Yn h2,Qd,show u+(p - u)=p by omega]
  ·rw [if_neg Zm,if_neg Zm,if_neg Zm,YF Zm,Qd,show F.length+(p - F.length)=p by omega]
theorem Ou {z:Array Zl}(h: ∀v ∈ z.toList,v.oneCell'=true)(hz:0 < z.size)(n:Nat) : ∀v ∈ (madeCells z n).toList,v.oneCell'=true:=by
 intro v hv;simp only [madeCells,Array.toList_map,Yk,Gz,QV] at hv;obtain ⟨i,hi,rfl⟩:=hv;have XP:i%z.size < z.size:=QK _ hz;rw [getElem!_pos z _ XP];exact h _ (Array.getElem_mem_toList XP)
end
theorem add_block (a:Addr)(n:Nat) :(a.add n).block=a.block:=by unfold Addr.add; split <;> rfl
theorem add_add_ (a:Addr)(i j:Nat) :(a.add i).add j=a.add (i+j):=by
 unfold Addr.add
 by_cases hi:i=0 <;> by_cases hj:j=0 <;> simp [hi,hj,JH]
def Iv (w:Zc)(S:Nat→Prop)(a:Option Addr)(len k:Nat)(cs:List Zl) :Prop:=
 cs.length=len*k∧(∀v ∈ cs,v.oneCell'=true)∧(0 < len→ ∃ad:Addr,a=some ad∧ ¬S ad.block∧ ∀j v,cs[j]?=some v→w.cell? (ad.add j)=some v)
theorem Iv.nil (w:Zc)(S:Nat→Prop)(a:Option Addr)(k:Nat) :Iv w S a 0 k []:=⟨by simp,by simp,fun h=>by omega⟩
theorem Iv.kept {w w':Zc}{S T:Nat→Prop}{a:Option Addr}{len k:Nat}{cs:List Zl}(h:Iv w S a len k cs)(hk:Kept T w w')(hT: ∀i,i < w.heap.size→T i→S i) :Iv w' S a len k cs:=by
 obtain ⟨h1,h2,h3⟩:=h;refine ⟨h1,h2,fun hl=>?_⟩;obtain ⟨ad,e,hn,hc⟩:=h3 hl;refine ⟨ad,e,hn,fun j v hv=>hk.cell (fun ht=>?_) (hc j v hv)⟩;have hl:=cell_lt (hc j v hv);rw [add_block] at ht hl;exact hn (hT _ hl ht)
theorem take_some {L:List Zl}{u j:Nat}{v:Zl}(h:(L.take u)[j]?=some v) :L[j]?=some v:=by
 rcases Ys j u with h1 | h1
 ·rwa [QH h1] at h
 ·rw [Qg zB13_2] at h; cases h
theorem push_wheel {C F cs:List Zl}{f c n m s u k:Nat}(hw:Wheel C (f*k) F)(hF:F.length=c*k)(hC:C.length=n*k)(Fi:cs.length=m*k)(sS:c+m≤n)(hs:s=(f+c)%n)(hu:u=min m (n - s)) :
  Wheel (Vt (Vt C (s*k) (cs.take (u*k))) 0 (cs.drop (u*k))) (f*k) (F++cs):=by
 refine hw.push ?_ ?_ ?_
 ·rw [hF,Fi,hC,←Ve]; exact XV k sS
 ·rw [hF,hC,←Ve,Nat.mul_mod_mul_right,hs]
 ·rw [Fi,hC,hu,←Nat.sub_mul]
  rcases Nat.le_total m (n - s) with h | h
  ·rw [Gv h,Gv (XV k h)]
  ·rw [Nat.min_eq_right h,Nat.min_eq_right (XV k h)]
theorem Al {C F C':List Zl}{f n k:Nat}(hw:Wheel C (f*k) F)(hk:k≤F.length)(hC:C.length=n*k)(hl:C'.length=C.length)(h: ∀p,p < f*k∨f*k+k≤p→C'[p]?=C[p]?) :Wheel C' ((f+1)%n*k) (F.drop k):=by
 have:=hw.pop hk hl h;rwa [hC,show f*k+k=(f+1)*k by rw [Ve,Nat.one_mul],Nat.mul_mod_mul_right] at this
theorem QZ {P:YO}(t e:ZN)(i:VA)(z:Zl)(ht:P.underlying t=some (.slice e))(hi:P.info? e=some i)(hz:i.zero=some z)
  (kl kc:IntKind) (n c:Nat) (hnc:n≤c) (BQ:i.bytes*c≤281474976710656) (mN:c≤9223372036854775807) (w:Zc) :
  (Instr.makeSlice t (.int kl (n:Int)) (.int kc (c:Int))).run P w= .ok (.slice (some ⟨w.heap.size,0,none⟩) n c) (w.alloc (.cells (madeCells z.cells (c*i.size)) e)):=by
 have hb:(i.bytes:Int)*(c:Int)≤281474976710656:=by
  have h:((i.bytes*c:Nat) :Int)≤281474976710656:=by omega
  rwa [Int.natCast_mul] at h
 have hr:=run_make (P:=P) w t e i z ht hi hz kl kc n c Zm Zm hb Zm;simp only [Int.toNat_natCast] at hr;exact hr
end
section
open Go Go.RowKit
section
variable {P:YO} (w:Zc)
theorem MM (base:Nat)(t ty e:ZN)(i:VA)(size:Nat)(ht:P.underlying t=some (.slice e))(hi:P.info? e=some i)
  (v:Zl) (n:Nat) (xs:List Zl) (Hz:w.ownsRow base e size v n xs) (c:Nat) :(Builtin.append_ #[t,t] ty #[v,.slice none 0 c]).run P w= .ok v w:=by
 rcases Hz.2 with ⟨rfl,rfl⟩ | ⟨g,cap,cur,rfl,_,_,hnc,_⟩
 ·simp [Builtin.append_,Y9 ht,sizeOf,Vl,hi,Builtin.lenOf,GA]
 ·simp [Builtin.append_,Y9 ht,sizeOf,Vl,hi,Builtin.lenOf,GA,hnc,storeCells]
theorem Ti (base:Nat)(t ty e:ZN)(i:VA)(z:Zl)(size bytes:Nat)(ht:P.underlying t=some (.slice e))(hi:P.info? e=some i)(hz:i.zero=some z)
  (Lb:i.size=size) (LJ:i.bytes=bytes) (pI:z.cells.size=size) (Er:0 < size)
  (v:Zl) (n:Nat) (xs:List Zl) (Hz:w.ownsRow base e size v n xs)
  (A:Option Addr) (m c:Nat) (news:List Zl) (hl:news.length=m*size) (hr:0 < m→ ∃ad,A=some ad∧ ∀j u,news[j]?=some u→w.cell? (ad.add j)=some u) (h1: ∀u ∈ news,u.oneCell'=true)
  (mN:n+m≤maxLen) (BQ:(n+m)*bytes≤140737488355328) (aF:base≤w.heap.size) :
  ∃v' w',(Builtin.append_ #[t,t] ty #[v,.slice A m c]).run P w= .ok v' w'∧w'.ownsRow base e size v' (n+m) (xs++news)∧w.grownBy w' v.ownBlock∧
   (v'.ownBlock=v.ownBlock∨v'.ownBlock=some w.heap.size):=by
 rcases A with _ | ad
 ·have hm:m=0:=by
   rcases QW m with h0 | h0
   ·exact h0
   ·obtain ⟨ad,h,_⟩:=hr h0
    cases h
  subst hm;have hn:news=[]:=ZU Ip;subst hn;exact ⟨v,w,MM w base t ty e i size ht hi v n xs Hz c,by simpa using Hz,World.grownBy.refl w _,.inl rfl⟩
 ·have hcells: ∀j u,news[j]?=some u→w.cell? (ad.add j)=some u:=by
   intro j u hu
   rcases QW m with h0 | h0
   ·subst h0;have hn:news=[]:=ZU Ip;subst hn;simp at hu
   ·obtain ⟨ad',h,hc⟩:=hr h0;injection h with h;subst h;exact hc j u hu
  obtain ⟨v',w',Be,h2,h3,_,h5⟩:=run_append_own_at (P:=P) w base t ty e i z size bytes ht hi hz Lb LJ pI Er v n xs Hz ad m c news hl hcells h1 mN BQ aF;exact ⟨v',w',Be,h2,h3,h5⟩
theorem EC {o:Oper}{a:Act}{K:Act→Zc→Prop}{Q:Exit→Act→Zc→Prop}(s x:Yz)(t:ZN)
  (ho:o.op= .call { callee:= .builtin .append,args:= #[s,x],argTypes:= #[t,t]})
  (base:Nat) (e:ZN) (i:VA) (z:Zl) (size bytes:Nat) (ht:P.underlying t=some (.slice e)) (hi:P.info? e=some i) (hz:i.zero=some z)
  (Lb:i.size=size) (LJ:i.bytes=bytes) (pI:z.cells.size=size) (Er:0 < size)
  (v:Zl) (n:Nat) (xs:List Zl) (hs:a.eval s=v) (Hz:w.ownsRow base e size v n xs)
  (A:Option Addr) (m c:Nat) (news:List Zl) (hx:a.eval x= .slice A m c) (hl:news.length=m*size) (hr:0 < m→ ∃ad,A=some ad∧ ∀j u,news[j]?=some u→w.cell? (ad.add j)=some u) (h1: ∀u ∈ news,u.oneCell'=true)
  (mN:n+m≤maxLen) (BQ:(n+m)*bytes≤140737488355328) (aF:base≤w.heap.size)
  (h: ∀v' w',w'.ownsRow base e size v' (n+m) (xs++news)→w.grownBy w' v.ownBlock→(v'.ownBlock=v.ownBlock∨v'.ownBlock=some w.heap.size)→K (a.put o.dst v') w') :o.wp P a w K Q:=by
 obtain ⟨v',w',Be,h2,h3,h4⟩:=Ti (P:=P) w base t o.type e i z size bytes ht hi hz Lb LJ pI Er v n xs Hz A m c news hl hr h1 mN BQ aF;unfold Jj Xn;simp only [ho,resolve,invoke,builtin,Yi,YC,ZQ,List.map_toArray,List.map_cons,List.map_nil,hs,hx,Be];exact h v' w' h2 h3 h4
theorem X7 {ops:Array Oper}{rest:List Oper}{o:Oper}{a:Act}{Q:Exit→Act→Zc→Prop}(DV:o.guard=none)(s x:Yz)(t:ZN)
  (ho:o.op= .call { callee:= .builtin .append,args:= #[s,x],argTypes:= #[t,t]})
  (base:Nat) (e:ZN) (i:VA) (z:Zl) (size bytes:Nat) (ht:P.underlying t=some (.slice e)) (hi:P.info? e=some i) (hz:i.zero=some z)
  (Lb:i.size=size) (LJ:i.bytes=bytes) (pI:z.cells.size=size) (Er:0 < size)
  (v:Zl) (n:Nat) (xs:List Zl) (hs:a.eval s=v) (Hz:w.ownsRow base e size v n xs)
  (A:Option Addr) (m c:Nat) (news:List Zl) (hx:a.eval x= .slice A m c) (hl:news.length=m*size) (hr:0 < m→ ∃ad,A=some ad∧ ∀j u,news[j]?=some u→w.cell? (ad.add j)=some u) (h1: ∀u ∈ news,u.oneCell'=true)
  (mN:n+m≤maxLen) (BQ:(n+m)*bytes≤140737488355328) (aF:base≤w.heap.size)
  (h: ∀v' w',w'.ownsRow base e size v' (n+m) (xs++news)→w.grownBy w' v.ownBlock→(v'.ownBlock=v.ownBlock∨v'.ownBlock=some w.heap.size)→YY P ops Q rest (a.put o.dst v') w') :YY P ops Q (o::rest) a w:=
 Q6 DV fun _ hK=>EC w s x t ho base e i z size bytes ht hi hz Lb LJ pI Er v n xs hs Hz A m c news hx hl hr h1 mN BQ aF fun v' w' h2 h3 h4=>hK _ _ (h v' w' h2 h3 h4)
end
theorem SG {w:Zc}{base p:Nat}{e:ZN}{size:Nat}(h:Blk w p e #[])(hb:base≤p) :w.ownsRow base e size (.slice (some ⟨p,0,none⟩) 0 0) 0 []:=
 ⟨by simp,.inr ⟨p,0,#[],rfl,hb,h,by omega,by unfold maxLen; omega,by simp,by simp⟩⟩
end
section
open Go Go.RowKit Go.Maps
open Go.ChangeMaps (setBlock heap_setBlock_same heap_setBlock_other)
def Q8 (w:Zc)(m:Nat)(c:Int→Int) :Prop:=
 ∃es clock,w.heap[m]?=some (.map es clock)∧(∀e ∈ es.toList,∃q:Int,(Xg .i64 q).wf=true∧e.key= .int .i64 q∧e.val= .int .i64 (c q))∧(es.toList.map (·.key)).Nodup∧ ∀q,c q≠0→ ∃e ∈ es.toList,e.key= .int .i64 q
def OF (c:Int→Int)(q v:Int) :Int→Int:=fun x=>if x=q then v else c x
section
variable {P:YO} {w w':Zc} {m B:Nat} {c:Int→Int} {t k e:ZN}
theorem Q8.lt (h:Q8 w m c) :m < w.heap.size:=by
 exact zM
theorem Q8.same (h:Q8 w m c)(hb:w'.heap[m]?=w.heap[m]?) :Q8 w' m c:=by
 obtain ⟨es,clock,h1,h2⟩:=h;exact ⟨es,clock,hb.trans h1,h2⟩
theorem Q8.drewN (h:Q8 w m c)(n:Nat) :Q8 (w.drewN n) m c:=h
theorem Q8.drew (h:Q8 w m c) :Q8 w.drew m c:=h
theorem Q8.alloc (h:Q8 w m c)(o:Obj) :Q8 (w.alloc o) m c:=h.same (Kz w o m h.lt)
theorem Q8.grown {row:Option Nat}(h:Q8 w m c)(hg:w.grownBy w' row)(KF:some m≠row) :Q8 w' m c:=h.same (hg.block m h.lt KF)
theorem Q8.setCell (h:Q8 w m c){p:Addr}(hp:m≠p.block)(u:Zl) :Q8 (w.setCell p u) m c:=h.same (Xs w p u m hp)
theorem Q8.congr {c':Int→Int}(h:Q8 w m c)(hc: ∀q,c q=c' q) :Q8 w m c':=by
 obtain rfl:c=c':=funext hc;exact h
theorem dD (w:Zc) :Q8 (w.alloc (.map #[] 0)) w.heap.size (fun _=>0):=⟨#[],0,(MapKept.heap_alloc w _).1,by simp,by simp,fun q h=>absurd rfl h⟩
theorem Q8.keys {es:Array MapEntry}(hk:P.underlying k=some (.int .i64))(h: ∀e ∈ es.toList,∃q:Int,(Xg .i64 q).wf=true∧e.key= .int .i64 q∧e.val= .int .i64 (c q)) : ∀x ∈ es.toList,∃l,keyOf P k x.key=some l:=fun x hx=>by
 obtain ⟨q,hq,h1,_⟩:=h x hx;exact ⟨_,by rw [h1]; exact keyOf_int_mk hk hq⟩
theorem Q8.lookup (h:Q8 w m c)(hk:P.underlying k=some (.int .i64))(ht:P.underlying t=some (.map k e))(hz:(Kj e).run P w= .ok (.int .i64 0) w){q:Int}(hq:(Xg .i64 q).wf=true) :
  (J5 t (.map (some m)) (.int .i64 q) false).run P w= .ok (.int .i64 (c q)) w:=by
 obtain ⟨es,clock,hb,h1,h2,h3⟩:=h;have K:=int_keyed hk;have EV:=keyOf_int_mk hk hq
 rcases K.find w EV es.toList (Q8.keys hk h1) with ⟨f1,f2⟩ | ⟨j,e0,f1,f2,f3⟩
 ·have hc:c q=0:=by
   rcases Decidable.em (c q=0) with h0 | h0
   ·exact h0
   ·obtain ⟨x,hx,kW⟩:=h3 q h0;exact absurd kW (f2 x hx)
  rw [hc];simp [J5,Y9 ht,Qr hb,K.check w _ EV,f1,hz,Xe]
 ·obtain ⟨q',_,e1,e2⟩:=h1 e0 (ZB f2);rw [f3] at e1;injection e1 with _ e1;subst e1;simp [J5,Y9 ht,Qr hb,K.check w _ EV,f1,e2,Xe]
theorem Q8.update (h:Q8 w m c)(hk:P.underlying k=some (.int .i64))(ht:P.underlying t=some (.map k e)){q v:Int}(hq:(Xg .i64 q).wf=true) :
  ∃w',(Gr t (.map (some m)) (.int .i64 q) (.int .i64 v)).run P w= .ok () w'∧Q8 w' m (OF c q v)∧w.grownBy w' (some m):=by
 obtain ⟨es,clock,hb,h1,h2,h3⟩:=h;have K:=int_keyed hk;have EV:=keyOf_int_mk hk hq;have hg: ∀es' RW,w.grownBy (setBlock w m (.map es' RW)) (some m):=fun es' RW=>⟨rfl,rfl,rfl,by simp [setBlock],fun i _ hi=>heap_setBlock_other hb _ (fun e=>hi ED)⟩
 rcases K.find w EV es.toList (Q8.keys hk h1) with ⟨f1,f2⟩ | ⟨j,e0,f1,f2,f3⟩
 ·refine ⟨setBlock w m (.map (es.push ⟨.int .i64 q,.int .i64 v,clock⟩) (clock+1)),?_,⟨_,_,heap_setBlock_same hb _,fun x hx=>?_,?_,fun q' kV=>?_⟩,hg _ _⟩
  ·simp [Gr,Y9 ht,Qr hb,K.check w false EV,f1,VQ _ hb,Xe,setBlock]
  ·simp only [Ui,List.mem_append,YV] at hx
   rcases hx with hx | rfl
   ·obtain ⟨q',w1,e1,e2⟩:=h1 x hx;have KF:q'≠q:=by rintro rfl; exact f2 x hx e1
    exact ⟨q',w1,e1,by simp [OF,KF,e2]⟩
   ·exact ⟨q,hq,rfl,by simp [OF]⟩
  ·rw [Ui,List.map_append,List.map_singleton];refine List.nodup_append.2 ⟨h2,by simp,fun a ha b hb'=>?_⟩;obtain ⟨x,hx,rfl⟩:=Yk.1 ha;obtain rfl:=YV.1 hb';exact f2 x hx
  ·by_cases hqq:q'=q
   ·subst hqq;exact ⟨_,by rw [Ui]; exact List.mem_append_right _ (YV.2 rfl),rfl⟩
   ·obtain ⟨x,hx,kW⟩:=h3 q' (by simpa [OF,hqq] using kV);exact ⟨x,by rw [Ui]; exact List.mem_append_left _ hx,kW⟩
 ·have hj:es[j]?=some e0:=by simpa using f2
  have DW:j < es.toList.length:=(Zi.1 f2).1;have yR:(es.modify j (fun e'=> { e' with key:= .int .i64 q,val:= .int .i64 v})).toList=es.toList.set j { e0 with key:= .int .i64 q,val:= .int .i64 v}:=by rw [Array.toList_modify,Go.ChangeMaps.modify_eq_set _ _ _ _ f2]
  have yQ:((es.modify j (fun e'=> { e' with key:= .int .i64 q,val:= .int .i64 v})).toList.map (·.key))=es.toList.map (·.key):=by
   rw [yR,List.map_set];refine Vb fun i=>?_
   rw [List.getElem?_set]
   split
   ·rename_i hi
    subst hi;have hjs:j < es.size:=by simpa using DW
    have yO:es.toList[j]'DW=e0:=by simpa [Zf DW] using f2
    simp [hjs];simp at yO;rw [yO,f3]
   ·rfl
  refine ⟨setBlock w m (.map (es.modify j (fun e'=> { e' with key:= .int .i64 q,val:= .int .i64 v})) clock),?_,⟨_,_,heap_setBlock_same hb _,fun x hx=>?_,by rw [yQ]; exact h2,fun q' kV=>?_⟩,hg _ _⟩
  ·simp [Gr,Y9 ht,Qr hb,K.check w false EV,f1,hj,f3,K.stays w EV,VQ _ hb,Xe,setBlock]
  ·rw [yR] at hx;obtain ⟨i,hi,ex⟩:=List.getElem_of_mem hx;rw [List.getElem_set] at ex
   split at ex
   ·subst ex;exact ⟨q,hq,rfl,by simp [OF]⟩
   ·rename_i KF
    have Mh:i < es.toList.length:=by simpa using hi
    obtain ⟨q',w1,e1,e2⟩:=h1 x (ex▸List.getElem_mem Mh);have hne':q'≠q:=by
     rintro rfl;have hn:=List.pairwise_iff_getElem.1 h2;have a1:(es.toList.map (·.key))[i]?=some (.int .i64 q'):=by rw [ZP,Zf Mh,ex]; simp [e1]
     have a2:(es.toList.map (·.key))[j]?=some (.int .i64 q'):=by rw [ZP,f2]; simp [f3]
     obtain ⟨l1,e3⟩:=Zi.1 a1;obtain ⟨l2,e4⟩:=Zi.1 a2
     rcases Nat.lt_or_gt_of_ne KF with XP | XP
     ·exact hn j i l2 l1 XP (e4.trans e3.symm)
     ·exact hn i j l1 l2 XP (e3.trans e4.symm)
    exact ⟨q',w1,e1,by simp [OF,hne',e2]⟩
  ·have aK:(.int .i64 q':Zl) ∈ es.toList.map (·.key):=by
    by_cases hqq:q'=q
    ·subst hqq;exact Yk.2 ⟨e0,ZB f2,f3⟩
    ·obtain ⟨x,hx,kW⟩:=h3 q' (by simpa [OF,hqq] using kV);exact Yk.2 ⟨x,hx,kW⟩
   rw [←yQ] at aK;obtain ⟨x,hx,kW⟩:=Yk.1 aK;exact ⟨x,hx,kW⟩
theorem Q8.delete (h:Q8 w m c)(hk:P.underlying k=some (.int .i64))(ht:P.underlying t=some (.map k e)){q:Int}(hq:(Xg .i64 q).wf=true)(h0:c q=0)(ty:ZN) :
  ∃w',(Builtin.delete_ #[t,k] ty #[.map (some m),.int .i64 q]).run P w= .ok (.tuple #[]) w'∧Q8 w' m c∧w.grownBy w' (some m):=by
 obtain ⟨es,clock,hb,h1,h2,h3⟩:=h;have K:=int_keyed hk;have EV:=keyOf_int_mk hk hq;have hg: ∀es' RW,w.grownBy (setBlock w m (.map es' RW)) (some m):=fun es' RW=>⟨rfl,rfl,rfl,by simp [setBlock],fun i _ hi=>heap_setBlock_other hb _ (fun e=>hi ED)⟩
 rcases K.find w EV es.toList (Q8.keys hk h1) with ⟨f1,f2⟩ | ⟨j,e0,f1,f2,f3⟩
 ·refine ⟨setBlock w m (.map es clock),?_,⟨_,_,heap_setBlock_same hb _,h1,h2,h3⟩,hg _ _⟩;exact Zgg
 ·have DW:j < es.toList.length:=(Zi.1 f2).1;have hjs:j < es.size:=by simpa using DW
  have Zbj:(es.eraseIdxIfInBounds j).toList=es.toList.eraseIdx j:=by
   unfold Array.eraseIdxIfInBounds;rw [dif_pos hjs];simp
  refine ⟨setBlock w m (.map (es.eraseIdxIfInBounds j) clock),?_,⟨_,_,heap_setBlock_same hb _,fun x hx=>?_,?_,fun q' kV=>?_⟩,hg _ _⟩
  ·exact Zgg
  ·rw [Zbj] at hx;exact h1 x ((List.eraseIdx_sublist _ _).subset hx)
  ·rw [Zbj];exact h2.sublist ((List.eraseIdx_sublist _ _).map _)
  ·obtain ⟨x,hx,kW⟩:=h3 q' kV;refine ⟨x,?_,kW⟩;rw [Zbj];obtain ⟨i,hi⟩:=List.mem_iff_getElem?.1 hx;refine List.mem_eraseIdx_iff_getElem?.2 ⟨i,?_,hi⟩;rintro rfl;rw [f2] at hi;injection hi with hi;rw [←hi,f3] at kW;injection kW with _ kW;subst kW;exact kV h0
end
section
variable {P:YO} {ops:Array Oper} {rest:List Oper} {o:Oper} {a:Act} {w:Zc} {Q:Exit→Act→Zc→Prop} {b:Nat} {c:Int→Int} {t k e:ZN}
theorem NR (DV:o.guard=none)(m x v:Yz)(ho:o.op= .mapUpdate t m x v)(h:Q8 w b c)(hk:P.underlying k=some (.int .i64))(ht:P.underlying t=some (.map k e))(q n:Int)(hm:a.eval m= .map (some b))(hx:a.eval x= .int .i64 q)(hv:a.eval v= .int .i64 n)(hq:(Xg .i64 q).wf=true)
  (hK: ∀w',Q8 w' b (OF c q n)→w.grownBy w' (some b)→YY P ops Q rest (a.put o.dst undef) w') :YY P ops Q (o::rest) a w:=by
 refine Q6 DV fun K' hK'=>?_
 obtain ⟨w',Be,r1,r2⟩:=h.update hk ht hq (v:=n);unfold Jj;simp [Xn,ho,hm,hx,hv,Be,Xe];exact hK' _ _ (hK w' r1 r2)
theorem TE (DV:o.guard=none)(m x:Yz)(ho:o.op= .call { callee:= .builtin .delete,args:= #[m,x],argTypes:= #[t,k]})(h:Q8 w b c)(hk:P.underlying k=some (.int .i64))(ht:P.underlying t=some (.map k e))(q:Int)(hm:a.eval m= .map (some b))(hx:a.eval x= .int .i64 q)(hq:(Xg .i64 q).wf=true)(h0:c q=0)
  (hK: ∀w',Q8 w' b c→w.grownBy w' (some b)→YY P ops Q rest (a.put o.dst (.tuple #[])) w') :YY P ops Q (o::rest) a w:=by
 refine Q6 DV fun K' hK'=>?_
 obtain ⟨w',Be,r1,r2⟩:=h.delete hk ht hq h0 o.type;unfold Jj;simp [Xn,ho,resolve,invoke,builtin,hm,hx,Be,Xe];exact hK' _ _ (hK w' r1 r2)
theorem iQ {C:Zc→Prop}{Qa:Act→Prop}(m x:Yz)(hw:YQ o (JF ops a.tmps)=true)(ho:o.op= .lookup t m x false)(hC: ∀w,C w→Q8 w b c)(hk:P.underlying k=some (.int .i64))(ht:P.underlying t=some (.map k e))(hz: ∀w,(Kj e).run P w= .ok (.int .i64 0) w)(q:Int)(hm:a.eval m= .map (some b))(hx:a.eval x= .int .i64 q)(hq:(Xg .i64 q).wf=true)
  (h:ZW P ops C Qa rest (a.put o.dst (.int .i64 (c q)))) :ZW P ops C Qa (o::rest) a:=by
 unfold ZW;rw [if_pos hw];refine ⟨_,fun w hc=>?_,h⟩;have Be:=(hC w hc).lookup hk ht (hz w) hq;unfold VR Xn;simp only [ho,hm,hx,Yi,Be,ZQ,YC];exact Hd
end
end
section
open Go.RowKit
def QB (z:List Int) :Nat→Int
 | 0=>0
 | k+1=>QB z k+z.getD k 0
def BW (z:List Int)(n:Nat) :Bool:=decide (QB z n≤18446744073709551615)
def Hl (z:List Int)(n:Nat) :Int:=if QB z n≤18446744073709551615 then QB z n else 0
theorem M8 {z:List Int}{n:Nat}(h:QB z n≤18446744073709551615) :BW z n=true∧Hl z n=QB z n:=⟨decide_eq_true h,if_pos h⟩
theorem PZ {z:List Int}{n:Nat}(h: ¬QB z n≤18446744073709551615) :BW z n=false∧Hl z n=0:=⟨decide_eq_false h,if_neg h⟩
theorem Df {z:List Int}(hz: ∀i,0≤z.getD i 0) : ∀n,0≤QB z n
 | 0=>Int.le_refl _
 | k+1=>by have:=Df hz k; have:=hz k; simp only [QB]; omega
theorem Tr {z:List Int}(hz: ∀i,0≤z.getD i 0)(a:Nat) : ∀d,QB z a≤QB z (a+d)
 | 0=>Int.le_refl _
 | d+1=>by have:=Tr hz a d; have:=hz (a+d); rw [←JH]; simp only [QB]; omega
theorem jJ (x y:Int)(h0:0≤x)(h1:x≤18446744073709551615)(h2:0≤y)(h3:y≤18446744073709551615)(w:Zc) :
  (callFunc 68 #[.int .u64 x,.int .u64 y,.int .u64 0]).run Zb w=
   .ok (.value (.tuple #[.int .u64 ((x+y)%18446744073709551616),.int .u64 ((x+y)/18446744073709551616)])) w:=by
 rw [run_callFunc_extern Tryz.func68 Ye Ye Ye (e:=add64Entry) Ye,run_add64 x y 0 Zm Zm Zm Zm];simp only [Xe,Int.add_zero]
theorem M7 (b off len cap:Nat)(z:List Int)(w:Zc)(hlen:len≤9223372036854775807)
  (hc: ∀i,i < len→w.cell? ⟨b,off+i,none⟩=some (.int .u64 (z.getD i 0))) (hz: ∀i,0≤z.getD i 0∧z.getD i 0≤18446744073709551615) :
  Zj Zb 23 #[.slice (some ⟨b,off,none⟩) len cap] w fun e w'=>e= .returned (.tuple #[.int .u64 (Hl z len),.bool (BW z len)])∧w=w':=by
 have hn:=Df (fun i=>(hz i).1);have HC:=Za hc;have HZ:=Za hz;have HN:=Za hn;clear hc hz hn;go_enter Tryz.func23,Tryz.ntmps23;go_wp2;go_loop [4,11] (fun s4 s11=> ∃(k:Nat) (t:Int),k≤len∧s11= .int .i64 k∧s4= .int .u64 t∧Hid (t=QB z k∧t≤18446744073709551615)) (fun _ s11=>len -(intOf s11).toNat)
 case atStart=>exact ⟨0,0,by omega,rfl,rfl,Za ⟨rfl,by omega⟩⟩
 case round=>
  obtain ⟨k,t,hk,rfl,rfl,HT⟩:=hrel;have t0:0≤t:=by rw [HT.out.1]; exact HN.out k
  have t1:=HT.out.2
  by_cases XP:k < len
  ·have GS:=HC.out k XP;obtain ⟨y0,y1⟩:=HZ.out k;have hs:QB z (k+1)=t+z.getD k 0:=by rw [HT.out.1]; rfl
   generalize z.getD k 0=y at*;have HS:=Za hs;have hl:=fun w=>jJ t y t0 t1 y0 y1 w
   by_cases ME:t+y≤18446744073709551615
   ·have e1:(t+y)%18446744073709551616=t+y:=by omega
    have e2:(t+y)/18446744073709551616=0:=by omega
    rw [e1,e2] at hl;clear e1 e2 hs;go_wp2;go_round
    case rel=>exact ⟨k+1,t+y,by omega,by go_num,rfl,Za ⟨HS.out.symm,ME⟩⟩
    case measure=>exact Bl
   ·have e2:(t+y)/18446744073709551616=1:=by omega
    have Zeu: ¬QB z len≤18446744073709551615:=by
     have:=Tr (fun i=>(HZ.out i).1) (k+1) (len -(k+1));rw [show k+1+(len -(k+1))=len by omega,HS.out] at this;omega
    have HB:=Za (PZ Zeu);rw [e2] at hl;clear e2 hs Zeu;go_wp2;go_ret2;exact ⟨by rw [HB.out.1,HB.out.2]; rfl,rfl⟩
  ·obtain rfl:k=len:=by omega
   have HB:=Za (M8 (z:=z) (n:=k) (by rw [←HT.out.1]; exact t1));have HE:=Za HT.out.1;clear XP;have XP: ¬k < k:=by omega
   go_wp2;go_ret2;exact ⟨by rw [HB.out.1,HB.out.2,←HE.out]; rfl,rfl⟩
end
section
open Go.RowKit
section
variable {P:YO} (w:Zc)
theorem UW {t:ZN}{k:IntKind}(h:P.underlying t=some (.int k)) :P.plainKey t=true:=by simp [Program.plainKey,h]
end
end
section
open Go.RowKit
def DQ (w:Zc)(b:Nat)(n L:Int) :Prop:=Blk w b 217 #[.int .i64 n,.int .i64 L]
theorem Hp {w:Zc}{b:Nat}{n L:Int}(h:DQ w b n L) :
  w.cell? ⟨b,0,none⟩=some (.int .i64 n)∧w.cell? ⟨b,1,none⟩=some (.int .i64 L)∧w.frozen? ⟨b,0,none⟩=false:=
 ⟨Blk.cell h 0,Blk.cell h 1,Blk.frozen h 0⟩
theorem Hq (b:Nat)(n:Int)(w:Zc)(h:w.cell? ⟨b,0,none⟩=some (.int .i64 n)) :
  Zj Zb 154 #[.pointer (some ⟨b,0,none⟩)] w fun e w'=>e= .returned (.int .i64 n)∧w=w':=by
 go_enter Tryz.func154,Tryz.ntmps154;exact UI
theorem IJ (b:Nat)(n:Int)(w:Zc)(h0:0≤n)(h1:n≤9223372036854775806)(h:w.cell? ⟨b,0,none⟩=some (.int .i64 n))(hf:w.frozen? ⟨b,0,none⟩=false) :
  Zj Zb 254 #[.pointer (some ⟨b,0,none⟩)] w fun e w'=>e= .returned (.tuple #[])∧(w.setCell ⟨b,0,none⟩ (.int .i64 (n+1)))=w':=by
 go_enter Tryz.func254,Tryz.ntmps254;go_wp2;go_end0;exact Hd
def Ni (n L:Int) :Int:=if n < 0∨L < 1 then 0 else n/L
theorem OW {n L:Int}(h0:0≤n)(h1:1≤L) :Ni n L=n/L:=if_neg Zm
theorem ai (n L:Int)(w:Zc)(hn:n≤9223372036854775807) :
  Zj Zb 155 #[.int .i64 n,.int .i64 L] w fun e w'=>e= .returned (.int .i64 (Ni n L))∧w=w':=by
 by_cases h0:n < 0
 ·have hd:decide (n < 0)=true:=by simpa using h0
  have H:=Za (show Ni n L=0 from if_pos (.inl h0));exact rU
 ·have hd:decide (n < 0)=false:=by simpa using h0
  by_cases h1:L < 1
  ·have vc:decide (L < 1)=true:=by simpa using h1
   have H:=Za (show Ni n L=0 from if_pos (.inr h1));exact rU
  ·have vc:decide (L < 1)=false:=by simpa using h1
   have hz:(L==0)=false:=by simp; omega
   have H:=Za (OW (n:=n) (L:=L) Zm Zm);have q0:0≤n/L:=Int.ediv_nonneg Zm Zm;have q1:n/L≤n:=Int.ediv_le_self _ Zm;have h2:0≤n:=by omega
   have h3:1≤L:=by omega
   clear h0 h1;exact rU
theorem bh (n:Int)(w:Zc)(h0:0≤n)(h1:n≤1099511627776) :
  Zj Zb 282 #[.int .i64 n] w fun e w'=>e= .returned (.bool true)∧w=w':=by
 exact sc
theorem eH (n:Int)(w:Zc)(h:n < 0∨1099511627776 < n) :
  Zj Zb 282 #[.int .i64 n] w fun e w'=>e= .returned (.bool false)∧w=w':=by
 rcases h with h | h
 ·have hd:decide (0≤n)=false:=by simpa using h
  exact sc
 ·have hd:decide (0≤n)=true:=by simp; omega
  have hd:decide (n≤1099511627776)=false:=by simpa using h
  exact sc
end
section
open Go.RowKit
def pY (k:Nat) :IntKind:=if k < 2∨(10≤k∧k < 18) then .i64 else .u64
def Zk (c:Nat→Int) :Array Zl:= #[.int .i64 (c 0),.int .i64 (c 1),.int .u64 (c 2),.int .u64 (c 3),.int .u64 (c 4),.int .u64 (c 5),.int .u64 (c 6),.int .u64 (c 7),.int .u64 (c 8),.int .u64 (c 9),.int .i64 (c 10),.int .i64 (c 11),.int .i64 (c 12),.int .i64 (c 13),.int .i64 (c 14),.int .i64 (c 15),.int .i64 (c 16),.int .i64 (c 17),.int .u64 (c 18),.int .u64 (c 19)]
def AQ (c:Nat→Int) :Prop:= ∀k,k < 20→(Xg (pY k) (c k)).wf=true
def bz:Int:=1152921504606846976
def Me (v lo hi:Int) :Bool:=decide (lo≤v∧v≤hi)
def Yt (c:Nat→Int) :Nat→Bool
 | 0=>Me (c 0) 1 4096
 | 1=>Me (c 1) 1 4096
 | 2=>decide (1≤c 2)
 | 3=>decide (c 2≤c 3)
 | 4=>Me (c 4) (c 3) bz
 | 5=>Me (c 5) 1 (c 2)
 | 6=>Me (c 6) (c 3) (c 4)
 | 7=>Me (c 7) 1 bz
 | 8=>decide (1≤c 8)
 | 9=>decide (c 9≤bz)
 | 10=>Me (c 10) 1 1048576
 | 11=>decide (c 10 < c 11∧c 11≤1048576)
 | 12=>Me (c 12) 1 4096
 | 13=>Me (c 13) 1 4096
 | 14=>Me (c 14) 1 4096
 | 15=>Me (c 15) 1 4096
 | 16=>decide (0≤c 16∧c 16 < c 14∧c 16 < c 15)
 | 17=>Me (c 17) 0 4096
 | 18=>decide (c 18≤c 19)
 | 19=>Me (c 19) 1 4294967296
 | _=>true
def Bu (c:Nat→Int) :Nat→Nat→Int
 | 0,_=>0
 | n+1,k=>if Yt c k=true then Bu c n (k+1) else(k:Int)+1
def RU (c:Nat→Int) :Int:=Bu c 20 0
def Dm (c:Nat→Int)(k:Nat) :Prop:= ∀j,j < k→Yt c j=true
theorem Dt (c:Nat→Int) : ∀(k n s:Nat),(∀j,s≤j→j < s+k→Yt c j=true)→Bu c (n+k) s=Bu c n (s+k)
 | 0,n,s,_=>rfl
 | k+1,n,s,h=>by
  rw [show n+(k+1)=(n+k)+1 by omega,Bu,if_pos (h s Zm Zm),Dt c k n (s+1) (fun j h1 h2=>h j Zm Zm)]
  congr 1; omega
theorem dC {c:Nat→Int}{k:Nat}(hk:k < 20)(hb:Dm c k)(hr:Yt c k=false) :RU c=(k:Int)+1:=by
 unfold RU;rw [show 20=(19 - k+1)+k by omega,Dt c k _ 0 (fun j _ h=>hb j Zm),Bu,ZX,if_neg (by rw [hr]; simp)]
theorem I1 {c:Nat→Int}(hb:Dm c 20) :RU c=0:=by
 unfold RU;rw [show 20=0+20 by omega,Dt c 20 0 0 (fun j _ h=>hb j Zm),Bu]
theorem Hm {c:Nat→Int}{k:Nat}(hb:Dm c k)(hr:Yt c k=true) :Dm c (k+1):=fun j hj=>by
 rcases Ys j k with h | h
 ·exact hb j h
 ·rw [show j=k by omega]; exact hr
theorem Hn (c:Nat→Int) :Dm c 0:=fun j h=>by omega
theorem Oc (c:Nat→Int) :(RU c=0∧Dm c 20)∨ ∃k,k < 20∧Dm c k∧Yt c k=false∧RU c=(k:Int)+1:=by
 have: ∀n,n≤20→Dm c n∨ ∃k,k < n∧Dm c k∧Yt c k=false:=by
  intro n
  induction n with
  | zero=>intro _; exact .inl (Hn c)
  | succ n ih=>
   intro hn
   rcases ih Zm with h | ⟨k,hk,h1,h2⟩
   ·cases hr:Yt c n with
    | true=>exact .inl (Hm h hr)
    | false=>exact .inr ⟨n,by omega,h,hr⟩
   ·exact .inr ⟨k,by omega,h1,h2⟩
 rcases this 20 (Zg _) with h | ⟨k,hk,h1,h2⟩
 ·exact .inl ⟨I1 h,h⟩
 ·exact .inr ⟨k,hk,h1,h2,dC hk h1 h2⟩
end
section
open Go Go.RowKit
theorem wqT {P:YO}{id:Nat}{Q:Exit→Act→Zc→Prop}{a:Act}{w:Zc}{l:List Oper}(n:Nat)
  (h:ZW P l.toArray (fun w'=> ∃n,w'=w.drewN n) (fun a'=> ∀w',(∃n,w'=w.drewN n)→YY P l.toArray Q (l.drop n) a' w') (l.take n) a) (hm:P.follows .mixedOrders=true:=by kernel_rfl) (hB:V8 .any l.toArray n=true:=by kernel_rfl) :(VH id l.toArray true).wp P Q a w:=
 LA n hm hB h
end
section
open Go.RowKit
theorem Pk (s:Nat)(w:Zc)(h:1≤s)(h2:s≤1048576) :
  Zj Zb 79 #[.int .i64 s] w fun e w'=>e= .returned (.pointer (some ⟨w.heap.size,0,none⟩))∧w.alloc (.cells #[.int .i64 s,.slice none 0 0,.int .i64 0,.int .i64 0] 189)=w':=by
 have h0: ¬(s:Int)< 1:=by omega
 have h3: ¬(1048576:Int)< (s:Int):=by omega
 go_enter Tryz.func79,Tryz.ntmps79;exact UI
theorem GK (b:Nat)(c:Int)(w:Zc)(h:w.cell? ⟨b,3,none⟩=some (.int .i64 c)) :
  Zj Zb 314 #[.pointer (some ⟨b,0,none⟩)] w fun e w'=>e= .returned (.int .i64 c)∧w=w':=by
 go_enter Tryz.func314,Tryz.ntmps314;exact UI
theorem bV (w:Zc) :Zj Zb 120 #[.pointer none] w fun e w'=>e= .returned (.int .i64 0)∧w=w':=by
 go_enter Tryz.func120,Tryz.ntmps120;exact UI
theorem Ec (b:Nat)(s c:Nat)(w:Zc)(h0:w.cell? ⟨b,0,none⟩=some (.int .i64 s))(h3:w.cell? ⟨b,3,none⟩=some (.int .i64 c))(hs:s≤1048576)(hc:c≤s) :
  Zj Zb 120 #[.pointer (some ⟨b,0,none⟩)] w fun e w'=>e= .returned (.int .i64 ((s - c:Nat) :Int))∧ ∃m,w'=w.drewN m:=by
 go_enter Tryz.func120,Tryz.ntmps120;exact r6
theorem ri_slot_any (b n f i:Nat)(a:Option Addr)(cap:Nat)(w:Zc)(h1:w.cell? ⟨b,1,none⟩=some (.slice a n cap))(h2:w.cell? ⟨b,2,none⟩=some (.int .i64 f))(hn:0 < n)(hf:f≤1048576)(hi:i≤1048576) :
  Zj Zb 183 #[.pointer (some ⟨b,0,none⟩),.int .i64 i] w fun e w'=>e= .returned (.int .i64 (((f+i)%n:Nat) :Int))∧ ∃m,w'=w.drewN m:=by
 have hz:((n:Int)==0)=false:=by simp; omega
 go_enter Tryz.func183,Tryz.ntmps183;exact r8
end
section
open Go.RowKit
theorem S8 (b g h size n f c m cap:Nat)(C D F:List Zl)(w:Zc)(hi:Jd 189 3 1 w b g size n f c C)(hw:Wheel C (f*1) F)(hF:F.length=c*1)(h1: ∀v ∈ F,v.oneCell'=true)
  (hD:Blk w h 3 D.toArray) (DU:D.length=m*1) (sS:c≤m) (ed:m≤cap) (Gl:cap≤1048576) (iy:h≠g) :
  Zj Zb 110 #[.pointer (some ⟨b,0,none⟩),.slice (some ⟨h,0,none⟩) m cap] w fun e w'=>e= .returned (.tuple #[])∧Blk w' h 3 (F++D.drop F.length).toArray∧Kept (fun i=>i=h) w w'∧w'.heap.size=w.heap.size:=by
 obtain ⟨c0,c1,c2,c3,-,-,-⟩:=hi.cells;obtain ⟨B1,B2,hC,cV,Sf,Nn,hs⟩:=hi;have Ek:=Za B1;have UJ:=Za B2;have HD:=Za hD;have PW:=Za DU;have HF:=Za hF;have HC:=Za hC;have H1:=Za h1;clear B1 B2 hD DU hF hC h1;have hw:Wheel C f F:=by exact sj
 have HW:=Za hw;have hT:(Tryz.prog.info? 3).map (·.size)=some 1:=by kernel_rfl
 obtain ⟨u,hu1,hu2,hu3⟩ : ∃u,u≤c∧f+u≤n∧(u=c∨f+u=n):=by
  exact ZcI
 have HT:=Za hT;clear hw hT
 by_cases hfc:f+c≤n
 ·have hle:((f:Int)+(c:Int))≤(n:Int):=by omega
  obtain rfl:u=c:=by omega
  go_enter Tryz.func110,Tryz.ntmps110;go_wp2;go_quiet (fail);go_wp2;refine wqT 11 ?_;refine BA ?_
  repeat (go_big_quiet_step (fail))
  refine Qc ?_;intro _ JB;obtain ⟨nr,Xh⟩:=JB;subst Xh;have l1:(F.take u).length=u*1:=by exact AP
  refine wpList_copyK rfl (.tmp 21) (.tmp 31) _ _ rfl 3 YI 1 Zm HT.out _ _ _ _ _ _ rfl rfl h 0 D 3 HD.out (F.take u) u ON l1
   (fun _=>⟨rfl,_,rfl,LS UJ.out HW.out OQ⟩) OP (fun v hv=>H1.out v (ZK hv)) ?_
  intro W1 HD1 K1 S1;have Hg: ¬b=h:=Blk.ne_ Ek.out HD.out YU;have d1:=K1.cell (p:=⟨b,1,none⟩) Hg FT;have d3:=K1.cell (p:=⟨b,3,none⟩) Hg FR;have jG:=Za l1;have Mu:=Za S1;have L4:=Za K1;have IC:Hid (Blk W1 g 3 C.toArray):=Za (Blk.kept (w:=(w.drewN nq).drewN nr) UJ.out K1 (QD iy));clear l1 S1 K1 c1 c3;go_wp2;refine wqT 14 ?_;refine BA ?_
  repeat (go_big_quiet_step (fail))
  refine Qc ?_;intro _ JB;obtain ⟨ns,Xh⟩:=JB;subst Xh;refine wpList_copyK rfl (.tmp 35) (.tmp 46) _ _ rfl 3 YI 1 Zm HT.out _ _ _ _ _ _ rfl rfl h u _ 3 HD1.out (F.drop u) 0 FQ OM
   (fun h0=>by have:=HF.out; simp at h0; omega) AK (fun v hv=>H1.out v (Xd hv)) ?_
  exact ZfM
 ·have hle: ¬((f:Int)+(c:Int))≤(n:Int):=by omega
  have XP:(n:Int)< (f:Int)+(c:Int):=by omega
  obtain rfl:n=f+u:=by omega
  go_enter Tryz.func110,Tryz.ntmps110;go_wp2;go_quiet (fail);go_wp2;refine wqT 11 ?_;refine BA ?_
  repeat (go_big_quiet_step (fail))
  refine Qc ?_;intro _ JB;obtain ⟨nr,Xh⟩:=JB;subst Xh;have l1:(F.take u).length=u*1:=by exact AP
  refine wpList_copyK rfl (.tmp 21) (.tmp 31) _ _ rfl 3 YI 1 Zm HT.out _ _ _ _ _ _ rfl rfl h 0 D 3 HD.out (F.take u) u ON l1
   (fun _=>⟨rfl,_,rfl,LS UJ.out HW.out OQ⟩) OP (fun v hv=>H1.out v (ZK hv)) ?_
  intro W1 HD1 K1 S1;have Hg: ¬b=h:=Blk.ne_ Ek.out HD.out YU;have d1:=K1.cell (p:=⟨b,1,none⟩) Hg FT;have d3:=K1.cell (p:=⟨b,3,none⟩) Hg FR;have jG:=Za l1;have Mu:=Za S1;have L4:=Za K1;have IC:Hid (Blk W1 g 3 C.toArray):=Za (Blk.kept (w:=(w.drewN nq).drewN nr) UJ.out K1 (QD iy));clear l1 S1 K1 c1 c3;go_wp2;refine wqT 14 ?_;refine BA ?_
  repeat (go_big_quiet_step (fail))
  refine Qc ?_;intro _ JB;obtain ⟨ns,Xh⟩:=JB;subst Xh;have e:C.length - f=u:=by have:=HC.out; omega
  have hx:=Tc IC.out HW.out;rw [e] at hx;refine wpList_copyK rfl (.tmp 35) (.tmp 46) _ _ rfl 3 YI 1 Zm HT.out _ _ _ _ _ _ rfl rfl h u _ 3 HD1.out (F.drop u) (c - u) gE OM
   (fun _=>⟨rfl,_,rfl,hx⟩) AK (fun v hv=>H1.out v (Xd hv)) ?_
  clear hx e;exact ZfM
end
section
open Go.RowKit
theorem S7 (b h size m cap:Nat)(D:List Zl)(w:Zc)(hi:Da 189 w b size)
  (hD:Blk w h 3 D.toArray) (DU:D.length=m*1) (ed:m≤cap) (Gl:cap≤1048576) :
  Zj Zb 110 #[.pointer (some ⟨b,0,none⟩),.slice (some ⟨h,0,none⟩) m cap] w fun e w'=>e= .returned (.tuple #[])∧Blk w' h 3 D.toArray∧Kept (fun i=>i=h) w w'∧w'.heap.size=w.heap.size:=by
 obtain ⟨c0,c1,c2,c3,-,-,-⟩:=hi.cells;obtain ⟨B1,aO,hs⟩:=hi;have Ek:=Za B1;have HD:=Za hD;have PW:=Za DU;clear B1 hD DU;have hT:(Tryz.prog.info? 3).map (·.size)=some 1:=by kernel_rfl
 have HT:=Za hT;clear hT;go_enter Tryz.func110,Tryz.ntmps110;go_wp2;go_quiet (fail);go_wp2;refine wqT 11 ?_;refine BA ?_
 repeat (go_big_quiet_step (fail))
 refine Qc ?_;intro _ JB;obtain ⟨nr,Xh⟩:=JB;subst Xh;refine wpList_copyK rfl (.tmp 21) (.tmp 31) _ _ rfl 3 YI 1 Zm HT.out _ _ _ _ _ _ rfl rfl h 0 D 3 HD.out [] 0 FQ rfl
  (fun h0=>by simp at h0) ZI (fun v hv=>by simp at hv) ?_
 intro W1 HD1 K1 S1;have Hg: ¬b=h:=Blk.ne_ Ek.out HD.out YU;have d1:=K1.cell (p:=⟨b,1,none⟩) Hg FT;have d3:=K1.cell (p:=⟨b,3,none⟩) Hg FR;have Mu:=Za S1;have L4:=Za K1;clear S1 K1 c1 c3;go_wp2;refine wqT 14 ?_;refine BA ?_
 repeat (go_big_quiet_step (fail))
 refine Qc ?_;intro _ JB;obtain ⟨ns,Xh⟩:=JB;subst Xh;refine wpList_copyK rfl (.tmp 35) (.tmp 46) _ _ rfl 3 YI 1 Zm HT.out _ _ _ _ _ _ rfl rfl h 0 _ 3 HD1.out [] 0 FQ rfl
  (fun h0=>by simp at h0) ZI (fun v hv=>by simp at hv) ?_
 intro W2 HD2 K2 S2;have Ku:Blk W2 h 3 D.toArray∧Kept (fun i=>i=h) w W2∧W2.heap.size=w.heap.size:=by
  exact Zcx
 exact rO
theorem NF (b h size c m cap:Nat)(go:Option Nat)(D F:List Zl)(w:Zc)(hi:RingAt 189 3 1 w b go size c F)
  (hD:Blk w h 3 D.toArray) (DU:D.length=m*1) (sS:c≤m) (ed:m≤cap) (Gl:cap≤1048576) (iy:go≠some h) :
  Zj Zb 110 #[.pointer (some ⟨b,0,none⟩),.slice (some ⟨h,0,none⟩) m cap] w fun e w'=>e= .returned (.tuple #[])∧Blk w' h 3 (F++D.drop F.length).toArray∧Kept (fun i=>i=h) w w'∧w'.heap.size=w.heap.size:=by
 obtain ⟨h1,h2,⟨rfl,rfl,h3⟩ | ⟨g,n,f,C,rfl,h3,h4⟩⟩:=hi
 ·obtain rfl:F=[]:=ZU Iq;have:=S7 b h size m cap D w h3 hD DU ed Gl;simpa using this
 ·exact S8 b g h size n f c m cap C D F w h3 h4 h1 h2 hD DU sS ed Gl (fun e=>iy ED)
theorem F5 (b size c JS n:Nat)(a:Option Addr)(go:Option Nat)(F:List Zl)(w:Zc)(hi:RingAt 189 3 1 w b go size c F)(c1:w.cell? ⟨b,1,none⟩=some (.slice a n n))(hn:n < JS)(Nn:n≤size)(Sf:c≤JS)(Hy:JS≤size) :
  Zj Zb 182 #[.pointer (some ⟨b,0,none⟩),.int .i64 JS] w fun e w'=>e= .returned (.tuple #[])∧
   ∃n' C,Jd 189 3 1 w' b w.heap.size size n' 0 c C∧Wheel C 0 F∧JS≤n'∧Kept (fun i=>i=b) w w':=by
 obtain ⟨c0,c3⟩:=hi.cells;obtain ⟨_,aO,hs⟩:=hi.size_le;have aH: ∀i,go=some i→i < w.heap.size:=fun i e=>hi.lt i (.inr e.symm)
 have O0:b < w.heap.size:=hi.lt b (.inl rfl);obtain ⟨x2,x3,bx⟩ : ∃x2 x3,Blk w b 189 #[.int .i64 size,.slice a n n,x2,x3]:=by
  exact Zcs
 obtain rfl:x3= .int .i64 c:=by
  exact sr
 have Mf:=hi.1;have iu:=hi.2.1;have nc:=Za Mf;have HFo:=Za iu;clear Mf iu;have HI:=Za hi;have HX:=Za bx;clear hi bx;obtain ⟨n1,Mm,hn00⟩ : ∃n1:Nat,(if(JS:Int)< 2*(n:Int) then 2*(n:Int) else(JS:Int))=(n1:Int)∧JS≤n1:=by
  exact ZcB
 obtain ⟨n',aM,ee,hn3⟩ : ∃n':Nat,(if(n1:Int)< (size:Int) then(n1:Int) else(size:Int))=(n':Int)∧JS≤n'∧n'≤size:=by
  exact Zcz
 have HN0:=Za Mm;have HN:=Za aM;clear aM Mm;have hT:(Tryz.prog.info? 3).map (fun i=>(i.zero,i.size,i.bytes))=some (some (.int .i64 0),1,8):=by kernel_rfl
 obtain ⟨i0,MD,BM,BG,Mn⟩:=info_parts hT;have Dw:=fun W=>QZ (P:=Zb) 47 3 i0 _ YI MD BM .i64 .i64 n' n' (Zg _) OR Zm W
 rw [BG] at Dw;have yC: ∀v ∈ (madeCells (Yq (.int .i64 0)) (n'*1)).toList,v.oneCell'=true:=Ou YU YU _;have DU:(madeCells (Yq (.int .i64 0)) (n'*1)).toList.length=n'*1:=by exact AL
 have oZ:(madeCells (Yq (.int .i64 0)) (n'*1))=((madeCells (Yq (.int .i64 0)) (n'*1)).toList).toArray:=by simp
 generalize madeCells (Yq (.int .i64 0)) (n'*1)=D0 at*;generalize D0.toList=D at*;subst oZ;have PW:=Za DU;have HDo:=Za yC;clear hT MD BM BG Mn i0 yC DU;go_enter Tryz.func182,Tryz.ntmps182;go_wp2;refine wqT 13 ?_;refine BA ?_
 repeat (go_big_quiet_step (fail))
 try rw [CC]
 rw [HN0.out];try rw [Rb]
 rw [HN.out];refine Qc ?_;intro _ JB;obtain ⟨nr,Xh⟩:=JB;subst Xh;go_wp2_with fail;refine (NF b _ size c n' n' go D F _ (RingAt.kept (S:=fun _=>False) HI.out (((Kept.refl _ w).drewN nr).alloc _) (fun _ _ h=>h)) (Blk.new _ _ _) PW.out Zm Zm Zm (fun e=>by have:=aH _ e; simp at this)).mono ?_;rintro e w1 ⟨rfl,EG,aB,Se⟩;have Hg: ¬b=w.heap.size:=by omega
 have Ek:Hid (Blk w1 w.heap.size 3 (F++D.drop F.length).toArray):=Za EG;have Wb:Kept (fun i=>i=w.heap.size) w w1:=(((Kept.refl _ w).drewN nr).alloc _).trans aB (fun _ _ h=>h);have M4:=Za Wb;have cP:Hid (Blk w1 b 189 #[.int .i64 size,Value.slice a n n,x2,.int .i64 c]):=Za (HX.out.kept Wb Hg);have d1:=cP.out.cell 1;have d2:=cP.out.cell 2;have e1:=cP.out.frozen 1;have e2:=cP.out.frozen 2;clear EG aB Se Wb;go_wp2;go_end0;have hlen:(F++D.drop F.length).length=n'*1:=by
  have h1:=nc.out;have h2:=PW.out;rw [List.length_append,Q0];omega
 refine ⟨rfl,n',F++D.drop F.length,⟨(cP.out.set_ 1 _).set_ 2 _,(Ek.out.far (QD Hg) _).far (QD Hg) _,hlen,by omega,by omega,hn3,hs⟩,Wheel.of_prefix (by rw [hlen]; omega),ee,?_⟩;exact Kept.setCell (S:=fun i=>i=b) (Kept.setCell (S:=fun i=>i=b) (M4.out.more_new) (.inl rfl) _) (.inl rfl) _
theorem Ta (b size c JS:Nat)(go:Option Nat)(F:List Zl)(w:Zc)(hi:RingAt 189 3 1 w b go size c F)(h1:1≤JS)(Sf:c≤JS)(Hy:JS≤size) :
  Zj Zb 182 #[.pointer (some ⟨b,0,none⟩),.int .i64 JS] w fun e w'=>e= .returned (.tuple #[])∧
   ∃g n f C,Jd 189 3 1 w' b g size n f c C∧Wheel C (f*1) F∧JS≤n∧Moved w go (some g)∧Kept (fun i=>i=b) w w':=by
 have Mh:=hi;obtain ⟨hF,hF1,⟨rfl,rfl,h3⟩ | ⟨g,n,f,C,rfl,h3,h4⟩⟩:=hi
 ·exact (F5 b size 0 JS 0 none none F w Mh h3.cells.2.1 Zm Zm Sf Hy).mono fun e w' ⟨he,n',C,k1,k2,k3,k4⟩=>
   ⟨he,_,n',0,C,k1,by rw [Nat.zero_mul]; exact k2,k3,fun i hi=> .inr OL,k4⟩
 ·by_cases hn:JS≤n
  ·have c1:=h3.cells.2.1;have H3:=Za h3;have H4:=Za h4;have Nn:=h3.2.2.2.2.2;clear h3 h4 Mh hF hF1;go_enter Tryz.func182,Tryz.ntmps182;exact ZcA
  ·have Nn:=h3.2.2.2.2.2.1;exact (F5 b size c JS n _ (some g) F w Mh h3.cells.2.1 Zm Nn Sf Hy).mono fun e w' ⟨he,n',C,k1,k2,k3,k4⟩=>
    ⟨he,_,n',0,C,k1,by rw [Nat.zero_mul]; exact k2,k3,fun i hi=> .inr OL,k4⟩
end
section
open Go.RowKit
theorem fJ (w:Zc) :Zj Zb 57 #[.pointer none] w fun e w'=>e= .returned (.slice none 0 0)∧w=w':=by
 go_enter Tryz.func57,Tryz.ntmps57;exact UI
theorem SZ (b size c:Nat)(go:Option Nat)(F:List Zl)(w:Zc)(hi:RingAt 189 3 1 w b go size c F) :
  Zj Zb 57 #[.pointer (some ⟨b,0,none⟩)] w fun e w'=>e= .returned (.slice (some ⟨w.heap.size,0,none⟩) c c)∧Blk w' w.heap.size 3 F.toArray∧Zs w.heap.size w w':=by
 obtain ⟨c0,c3⟩:=hi.cells;obtain ⟨Fi,aO,hs⟩:=hi.size_le;have aH: ∀i,go=some i→i < w.heap.size:=fun i e=>hi.lt i (.inr e.symm)
 have Mf:=hi.1;have nc:=Za Mf;have HI:=Za hi;clear hi Mf;have hT:(Tryz.prog.info? 3).map (fun i=>(i.zero,i.size,i.bytes))=some (some (.int .i64 0),1,8):=by kernel_rfl
 obtain ⟨i0,MD,BM,BG,Mn⟩:=info_parts hT;have Dw:=fun W=>QZ (P:=Zb) 47 3 i0 _ YI MD BM .i64 .i64 c c (Zg _) OR Zm W
 rw [BG] at Dw;have DU:(madeCells (Yq (.int .i64 0)) (c*1)).toList.length=c*1:=by exact AL
 have oZ:(madeCells (Yq (.int .i64 0)) (c*1))=((madeCells (Yq (.int .i64 0)) (c*1)).toList).toArray:=by simp
 generalize madeCells (Yq (.int .i64 0)) (c*1)=D0 at*;generalize D0.toList=D at*;subst oZ;have PW:=Za DU;clear hT MD BM BG Mn i0 DU;go_enter Tryz.func57,Tryz.ntmps57;go_wp2_with fail;refine (NF b _ size c c c go D F _ (RingAt.kept (S:=fun _=>False) HI.out ((Kept.refl _ w).alloc _) (fun _ _ h=>h)) (Blk.new _ _ _) PW.out Zm Zm Zm (fun e=>by have:=aH _ e; simp at this)).mono ?_;rintro e w1 ⟨rfl,EG,aB,Se⟩;have TS:Blk w1 w.heap.size 3 F.toArray:=by
  exact ZcE
 exact Zcv
end
section
open Go.RowKit
theorem Lf (b:Nat)(i c:Int)(w:Zc)(h3:w.cell? ⟨b,3,none⟩=some (.int .i64 c))(ho:i < 0∨c≤i) :
  Zj Zb 296 #[.pointer (some ⟨b,0,none⟩),.int .i64 i] w fun e w'=>e= .returned (.tuple #[.int .i64 0,.bool false])∧w=w':=by
 by_cases h:i < 0
 ·clear ho;go_enter Tryz.func296,Tryz.ntmps296;exact AN
 ·have h':0≤i:=by omega
  have h2:c≤i:=by omega
  clear ho;go_enter Tryz.func296,Tryz.ntmps296;go_wp2_with fail;refine (GK _ _ _ h3).mono ?_;rintro e w' ⟨rfl,rfl⟩;exact AN
theorem S9 (b g size n f c i:Nat)(C F:List Zl)(v:Zl)(w:Zc)(hr:Jd 189 3 1 w b g size n f c C)(hw:Wheel C (f*1) F)(hF:F.length=c*1)(hv:F[i]?=some v) :
  Zj Zb 296 #[.pointer (some ⟨b,0,none⟩),.int .i64 i] w fun e w'=>e= .returned (.tuple #[v,.bool true])∧ ∃m,w'=w.drewN m:=by
 obtain ⟨-,d1,d2,d3,-,-,-⟩:=hr.cells;obtain ⟨B1,B2,hC,cV,Sf,Nn,hs⟩:=hr;have hic:i < c:=by
  rcases Ys i F.length with h | h
  ·omega
  ·rw [Qg h] at hv; cases hv
 have hi1: ¬(i:Int)< 0:=by omega
 have UR: ¬(c:Int)≤(i:Int):=by omega
 obtain ⟨p,hp⟩ : ∃p:Nat,(f+i)%n=p:=⟨_,rfl⟩;have N0:p < n:=by exact sD
 have GS:w.cell? ⟨g,p,none⟩=some v:=by
  rw [B2.cell,←hp];have:=hw.get hv;rw [hC] at this;simpa using this
 have VM: ∀W:Zc,W.cell? ⟨b,1,none⟩=some (.slice (some ⟨g,0,none⟩) n n)→W.cell? ⟨b,2,none⟩=some (.int .i64 f)→Zj Zb 183 #[.pointer (some ⟨b,0,none⟩),.int .i64 i] W fun e w'=>e= .returned (.int .i64 p)∧ ∃m,w'=W.drewN m:=fun W x1 x2=>by
  have:=ri_slot_any b n f i _ n W x1 x2 Zm Zm Zm;rwa [hp] at this
 have IF:=Za VM;clear VM hp B1 B2 hC hw hF hv;go_enter Tryz.func296,Tryz.ntmps296;go_wp2_with fail;refine (GK _ _ _ d3).mono ?_;rintro e w' ⟨rfl,rfl⟩;go_wp2;go_quiet ((go_at_call 183; exact Calls.quiet_of (IF.out _ d1 d2)));go_wp2;go_ret2;exact ⟨rfl,_,rfl⟩
theorem MK (b size c i:Nat)(go:Option Nat)(F:List Zl)(v:Zl)(w:Zc)(hi:RingAt 189 3 1 w b go size c F)(hv:F[i]?=some v) :
  Zj Zb 296 #[.pointer (some ⟨b,0,none⟩),.int .i64 i] w fun e w'=>e= .returned (.tuple #[v,.bool true])∧ ∃m,w'=w.drewN m:=by
 obtain ⟨hF,_,⟨rfl,rfl,_⟩ | ⟨g,n,f,C,rfl,h3,h4⟩⟩:=hi
 ·obtain rfl:F=[]:=ZU (by simpa using hF);simp at hv
 ·exact S9 b g size n f c i C F v w h3 h4 hF hv
theorem CU (b:Nat)(w:Zc)(h3:w.cell? ⟨b,3,none⟩=some (.int .i64 0)) :
  Zj Zb 297 #[.pointer (some ⟨b,0,none⟩)] w fun e w'=>e= .returned (.tuple #[.int .i64 0,.bool false])∧w=w':=by
 go_enter Tryz.func297,Tryz.ntmps297;go_wp2_with fail;refine (Lf b 0 0 _ h3 Zm).mono ?_;rintro e w' ⟨rfl,rfl⟩;exact AN
theorem lP (b g size n f c:Nat)(C F:List Zl)(v:Zl)(w:Zc)(hr:Jd 189 3 1 w b g size n f (c+1) C)(hw:Wheel C (f*1) (v::F))(hF:F.length=c*1) :
  Zj Zb 297 #[.pointer (some ⟨b,0,none⟩)] w fun e w'=>e= .returned (.tuple #[v,.bool true])∧
   (∃f' C',Jd 189 3 1 w' b g size n f' c C'∧Wheel C' (f'*1) F)∧Kept (fun i=>i=b∨i=g) w w':=by
 have yV:=fun W (hW:Hid (W=w))=>S9 b g size n f (c+1) 0 C (v::F) v W (hW.out▸hr) hw (by simp [hF]) ZI
 obtain ⟨-,d1,d2,d3,-,fz2,oS⟩:=hr.cells;obtain ⟨B1,B2,hC,cV,Sf,Nn,hs⟩:=hr;have mJ:=Za yV;have Ek:=Za B1;have UJ:=Za B2;have HC:=Za hC;have HW:=Za hw;have HF:=Za hF;obtain ⟨s,hsv⟩ : ∃s:Nat,(f+1)%n=s:=⟨_,rfl⟩;have DY:s < n:=by exact sA
 have VM: ∀W:Zc,W.cell? ⟨b,1,none⟩=some (.slice (some ⟨g,0,none⟩) n n)→W.cell? ⟨b,2,none⟩=some (.int .i64 f)→Zj Zb 183 #[.pointer (some ⟨b,0,none⟩),.int .i64 1] W fun e w'=>e= .returned (.int .i64 s)∧ ∃m,w'=W.drewN m:=fun W x1 x2=>by
  have:=ri_slot_any b n f 1 _ n W x1 x2 Zm Zm Zm;rwa [hsv] at this
 have IF:=Za VM;have sK:=Za hsv;clear VM hsv yV B1 B2 hC hw hF;go_enter Tryz.func297,Tryz.ntmps297;go_wp2_with fail;refine (mJ.out _ (Za rfl)).mono ?_;rintro e w' ⟨rfl,q,rfl⟩;go_wp2;refine wqT 14 ?_;refine BA ?_
 repeat (go_big_quiet_step (fail))
 refine Qc ?_;intro _ JB;obtain ⟨nr,Xh⟩:=JB;subst Xh;refine EB rfl (.tmp 27) _ rfl 3 YI (.int .i64 0) (fun _=>by kernel_rfl) YU g f 1 (n - f) rfl Zm C 3 UJ.out gu ?_;intro W1 HD1 K1;have OZ: ¬b=g:=Blk.ne_ Ek.out UJ.out YU;have EG:Hid (Blk W1 b 189 #[.int .i64 size,.slice (some ⟨g,0,none⟩) n n,.int .i64 f,.int .i64 ((c+1:Nat) :Int)]):=Za (Blk.kept (w:=(w.drewN q).drewN nr) Ek.out K1 OZ);have x1:=EG.out.cell 1;have x2:=EG.out.cell 2;have x3:W1.cell? ⟨b,3,none⟩=some (.int .i64 ((c:Int)+1)):=EG.out.cell 3;have y2:=EG.out.frozen 2;have y3:=EG.out.frozen 3;have L4:=Za K1;clear K1 d1 d2 d3 fz2 oS;go_wp2_with fail;refine (IF.out _ x1 x2).mono ?_;rintro e w' ⟨rfl,q2,rfl⟩;go_wp2;go_ret2;refine ⟨rfl,⟨s,_,⟨?_,Blk.far (Blk.far (HD1.out) (QD OZ) _) (QD OZ) _,?_,DY,by omega,Nn,hs⟩,?_⟩,?_⟩
 ·exact r9
 ·exact rL
 ·have hZ:(Xb (Yq (.int .i64 0)) 1).toList.length=1:=by simp [Xb,Yq]
  generalize (Xb (Yq (.int .i64 0)) 1).toList=Z at*;have Dv:f+Z.length≤C.length:=by have:=HC.out; omega
  have:=Al (C':=Vt C f Z) HW.out ZI HC.out (Qn _ _ _ Dv) (fun p hp=>by
   rw [Bx _ _ _ Dv]
   by_cases h1:p < f
   ·rw [if_pos h1]
   ·rw [if_neg h1,if_neg Zm])
  rw [sK.out] at this;exact this
 ·refine Kept.setCell (S:=fun i=>i=b∨i=g) (Kept.setCell (S:=fun i=>i=b∨i=g) ?_ (.inl (.inl rfl)) _) (.inl (.inl rfl)) _;exact ((((Kept.refl _ w).drewN q).drewN nr).trans L4.out (fun _ _ h=> .inr h)).drewN q2
theorem Oy (b size c:Nat)(go:Option Nat)(F:List Zl)(v:Zl)(w:Zc)(hi:RingAt 189 3 1 w b go size (c+1) (v::F)) :
  Zj Zb 297 #[.pointer (some ⟨b,0,none⟩)] w fun e w'=>e= .returned (.tuple #[v,.bool true])∧RingAt 189 3 1 w' b go size c F∧Kept (Foot b go) w w':=by
 obtain ⟨hF,hF1,⟨rfl,h0,_⟩ | ⟨g,n,f,C,rfl,h3,h4⟩⟩:=hi
 ·omega
 ·have hl:F.length=c*1:=by exact sB
  exact (lP b g size n f c C F v w h3 h4 hl).mono fun e w' ⟨he,⟨f',C',k1,k2⟩,k3⟩=>
   ⟨he,k1.at_ k2 hl (fun x hx=>hF1 x (List.mem_cons_of_mem _ hx)),k3.more fun i _ hi=>hi.elim .inl (fun e=> .inr ED)⟩
end
section
open Go.RowKit
theorem CW (b size c:Nat)(w:Zc)(a:Option Addr)(len cap:Nat)(hl:len≤9223372036854775807)(h0:w.cell? ⟨b,0,none⟩=some (.int .i64 size))(h3:w.cell? ⟨b,3,none⟩=some (.int .i64 c))(hs:size≤1048576)(hc:c≤size)(hz:len=0∨c=size) :
  Zj Zb 122 #[.pointer (some ⟨b,0,none⟩),.slice a len cap] w fun e w'=>e= .returned (.int .i64 0)∧ ∃m,w'=w.drewN m:=by
 obtain ⟨d,hd⟩ : ∃d:Nat,size - c=d:=⟨_,rfl⟩;have hf: ∀W:Zc,Hid (W=w)→Zj Zb 120 #[.pointer (some ⟨b,0,none⟩)] W fun e w'=>e= .returned (.int .i64 d)∧ ∃m,w'=W.drewN m:=fun W hW=>by
  have hW:=hW.out;subst hW;rw [←hd];exact Ec b size c _ h0 h3 hs hc
 have HF:=Za hf;clear hf h0 h3
 by_cases h:(d:Int)< (len:Int)
 ·obtain rfl:d=0:=by omega
  exact Zf9
 ·obtain rfl:len=0:=by omega
  exact Zf9
theorem CV (b size c m len cap:Nat)(go:Option Nat)(ad:Addr)(F cs:List Zl)(w:Zc)(hi:RingAt 189 3 1 w b go size c F)(Ep:Iv w (Foot b go) (some ad) len 1 cs)
  (hl:len≤cap) (Gl:cap≤9223372036854775807) (hm:1≤m) (kR:m≤len) (cX:c+m≤size) (hm3:m=len∨c+m=size) :
  Zj Zb 122 #[.pointer (some ⟨b,0,none⟩),.slice (some ad) len cap] w fun e w'=>e= .returned (.int .i64 m)∧
   ∃go',RingAt 189 3 1 w' b go' size (c+m) (F++cs.take m)∧Moved w go go'∧Kept (Foot b go) w w':=by
 obtain ⟨c0,c3⟩:=hi.cells;obtain ⟨_,aO,hs⟩:=hi.size_le;obtain ⟨d,hd⟩ : ∃d:Nat,size - c=d:=⟨_,rfl⟩;have hf: ∀W:Zc,Hid (W=w)→Zj Zb 120 #[.pointer (some ⟨b,0,none⟩)] W fun e w'=>e= .returned (.int .i64 d)∧ ∃m,w'=W.drewN m:=fun W hW=>by
  have hW:=hW.out;subst hW;rw [←hd];exact Ec b size c _ c0 c3 hs Zm
 have HF:=Za hf;have HI:=Za hi;have AU:=Za Ep;have hmz:((m:Int)==0)=false:=by simp; omega
 have c3': ∀q,(w.drewN q).cell? ⟨b,3,none⟩=some (.int .i64 c):=fun q=>c3
 have vc:d+c≤size:=by omega
 have ve:size≤d+c:=by omega
 clear hf hi Ep c0 hd;have key: ∀q:Nat,Zj Zb 182 #[.pointer (some ⟨b,0,none⟩),.int .i64 ((c:Int)+(m:Int))] (w.drewN q) fun e w'=>e= .returned (.tuple #[])∧
   ∃g n f C,Jd 189 3 1 w' b g size n f c C∧Wheel C (f*1) F∧c+m≤n∧Moved w go (some g)∧Kept (fun i=>i=b) w w':=fun q=>by
  have:=Ta b size c (c+m) go F (w.drewN q) HI.out Zm Zm cX;rw [show ((c+m:Nat) :Int)=(c:Int)+(m:Int) by omega] at this;exact this.mono fun e w' ⟨he,g,n,f,C,k1,k2,k3,k4,k5⟩=>⟨he,g,n,f,C,k1,k2,k3,k4,((Kept.refl _ w).drewN q).trans k5 (fun _ _ h=>h)⟩
 have KEY:=Za key;clear key;have hT:(Tryz.prog.info? 3).map (·.size)=some 1:=by kernel_rfl
 have HT:=Za hT;clear hT
 by_cases h:(d:Int)< (len:Int)
 ·obtain rfl:m=d:=by omega
  exact zT4
 ·obtain rfl:m=len:=by omega
  exact zT4
theorem Lg (b size c len cap:Nat)(go:Option Nat)(a:Option Addr)(F cs:List Zl)(w:Zc)(hi:RingAt 189 3 1 w b go size c F)(Ep:Iv w (Foot b go) a len 1 cs)
  (hl:len≤cap) (Gl:cap≤9223372036854775807) :
  Zj Zb 122 #[.pointer (some ⟨b,0,none⟩),.slice a len cap] w fun e w'=>e= .returned (.int .i64 ((min len (size - c) :Nat) :Int))∧
   ∃go',RingAt 189 3 1 w' b go' size (c+min len (size - c)) (F++cs.take (min len (size - c)*1))∧Moved w go go'∧Kept (Foot b go) w w':=by
 obtain ⟨h1,h2,h3⟩:=hi.size_le
 by_cases hz:min len (size - c)=0
 ·rw [hz];refine (CW b size c w a len cap Zm hi.cells.1 hi.cells.2 h3 h1 Zm).mono fun e w' ⟨he,m,hm⟩=>⟨he,go,?_,fun i h=> .inl h,by subst hm; exact (Kept.refl _ _).drewN _⟩
  subst hm;simpa using hi.drewN m
 ·obtain ⟨ad,rfl,_⟩:=Ep.2.2 Zm;have:=CV b size c (min len (size - c)) len cap go ad F cs w hi Ep hl Gl Zm Zm Zm Zm;exact sq
end
end Go.Proofs.YtianiiijaopdpaaGreat
