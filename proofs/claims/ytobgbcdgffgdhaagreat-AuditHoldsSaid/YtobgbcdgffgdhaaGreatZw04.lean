/- Part 4 of 31: Words Zx Class Tail QF L04Ring Append Count WrapC L06Add Same L02Base L03Cfg WrapT L04OpsInt L04CopyInt L04GrowInt L04AllInt L04OneInt L04PushInt. -/
import Derived.Test.YtobgbcdgffgdhaaGreatZw00
import Derived.BigQuiet
import Derived.Deep.AppendLies
import Derived.DeepKeys4
import Derived.Laws.CopyOwn
import Derived.Lib.Hide
import Derived.Lib.SliceRun
import Derived.OpenShut
import Derived.StillTailTactics
import Derived.Test.YtobgbcdgffgdhaaGreatChecked
import Derived.WalkSmall
namespace Go.Proofs.YtobgbcdgffgdhaaGreat
set_option linter.unusedVariables false
set_option linter.unusedSimpArgs false
set_option maxRecDepth 100000
set_option maxHeartbeats 8000000
open _root_.Array renaming toList_push -> VQ
open _root_.Go.RowKit renaming Below -> Zp
open _root_.Go.RowKit.Below renaming heap_alloc -> Kg, heap_setCell -> Xg
open _root_.Bool renaming and_eq_true -> YO
open _root_.Go.Builtin renaming append_ -> UW, firstCells -> Vt, zeroCells -> YM
open _root_.Go renaming Calls -> Zv, FuncId -> UK, Operand -> YN, Program -> YL, TypeId -> ZJ, TypeInfo -> Ve, Value -> Zk, World -> Zc, execOp -> XL, getD_replicate_false -> Uj, length_splice -> Jr, ready_mono -> Uo, run_underlying -> Xa, setRow_heap -> YA, splice -> KV, typeInfo -> VK, wpList -> YQ, wpList_plain -> Jf, wpQuiet -> ZZ, yielded -> VD, zeroValue -> JZ
open _root_.Go.Code renaming region -> Vl
open _root_.Go.Ending renaming returned -> J0
open _root_.Go.Instr renaming lookup -> JN, mapUpdate -> UZ
open _root_.List renaming eq_nil_of_length_eq_zero -> ZR, ext_getElem? -> VS, getElem?_append_left -> YB, getElem?_append_right -> Y6, getElem?_drop -> XG, getElem?_eq_getElem -> Zg, getElem?_eq_none -> Qx, getElem?_eq_some_iff -> Zj, getElem?_map -> ZH, getElem?_take_of_lt -> Qr, length_cons -> Yc, mem_map -> Z6, mem_of_getElem? -> Zy, mem_of_mem_drop -> Xc, mem_of_mem_take -> ZQ, mem_range -> Qo, mem_singleton -> Yk
open _root_.Go.Lit renaming int -> YJ
open _root_.Go.MapKept renaming run_getObj_map -> Qg, run_setObj_map -> Vu
open _root_.Nat renaming add_assoc -> Q7, add_mul -> Ua, eq_zero_or_pos -> QK, le_refl -> Zh, le_trans -> ZY, lt_of_lt_of_le -> YE, lt_or_ge -> YF, min_eq_left -> U4, mod_eq_of_lt -> Kk, mod_lt -> Jv, mul_le_mul_right -> XQ, zero_add -> ZV
open _root_.Ne renaming symm -> Q0
open _root_.Go.Oper renaming quietAt -> Vv, wp -> Jp
open _root_.Go.Region renaming Mode -> JS, binds -> Xd, chainB -> KR, lexTailB -> VF, ready -> Yq, sinkB -> KK, wanted -> XJ
open _root_.Go.Result renaming andThen -> YZ, andThen_ok -> ZW
open _root_.Go.Sem renaming run_bind -> Yr, run_pure -> YU
open _root_.Go.Proofs.Tryz renaming prog -> Zb
open _root_.Go.Value renaming cells -> Yi
open Go.Proofs.Tryz
theorem KB {G:Prop}(h:G:=by simpa using h) :G:=h
theorem QQ {G:Prop}(h:G:=by simpa using h1) :G:=h
theorem IZ {G:Prop}(h:G:=by simpa using hl) :G:=h
theorem jf {G:Prop}(h:G:=by show c - u=min _ _; omega) :G:=h
theorem je {G:Prop}(h:G:=by show m - u=min _ _; omega) :G:=h
theorem jd {G:Prop}(h:G:=by rw [OD]; exact oE.o) :G:=h
theorem jc {G:Prop}(h:G:=by rwa [List.getElem?_drop] at hv) :G:=h
theorem Er {G:Prop}(h:G:=by rw [e]) :G:=h
theorem jb {G:Prop}(h:G:=by simp at h0; have:=oH.o; omega) :G:=h
theorem ja {G:Prop}(h:G:=by show u=min _ _; have:=HU.o; omega) :G:=h
theorem Pu {G:Prop}(h:G:=by rw [Nb]; omega) :G:=h
theorem iZ {G:Prop}(h:G:=by have:=HC.o; simp [Value.cells]; omega) :G:=h
theorem iY {G:Prop}(h:G:=by have:=HC.o; have:=oH.o; simp; omega) :G:=h
theorem DC {G:Prop}(h:G:=by have:=HC.o; omega) :G:=h
theorem Pr {G:Prop}(h:G:=by have:=RZ.o; omega) :G:=h
theorem Pq {G:Prop}(h:G:=by rw [h] at hr; cases hr) :G:=h
theorem Pp {G:Prop}(h:G:=by show u=min _ _; omega) :G:=h
theorem FM {G:Prop}(h:G:=by simpa using c1) :G:=h
theorem FL {G:Prop}(h:G:=by simpa using c3) :G:=h
theorem Po {G:Prop}(h:G:=by have:=HF.o; simp; omega) :G:=h
theorem Pn {G:Prop}(h:G:=by injection hi with hi; omega) :G:=h
theorem Pk {G:Prop}(h:G:=by have:=oH.o; simp; omega) :G:=h
theorem FJ {G:Prop}(h:G:=by show 0=min _ _; omega) :G:=h
theorem iU {G:Prop}(h:G:=by rw [length_splice _ _ _ (by have:=HC.o; have:=oH.o; simp; omega)]; have:=HC.o; have:=oH.o; simp; omega) :G:=h
theorem Xl {G:Prop}(h:G:=by simp; omega) :G:=h
theorem Cd {G:Prop}(h:G:=by rw [length_splice _ _ _ (by have:=HF.o; have:=RZ.o; simp; omega)]; have:=HF.o; have:=RZ.o; simp; omega) :G:=h
theorem YW {G:Prop}(h:G:=by decide) :G:=h
theorem ZE {G:Prop}(h:G:=by simp) :G:=h
theorem ZC {G:Prop}(h:G:=by kernel_rfl) :G:=h
theorem Zf {G:Prop}(h:G:=by omega) :G:=h
theorem GM {G H:Prop} (k:H) (h:DE H->G:=by
  intro zk;simp only [qT,qD];exact zk.o) :G:=h ⟨k⟩
theorem XK {G H:Prop} (k:H) (h:DE H->G:=by
  intro zk;refine wpQuiet_nil ?_;exact zk.o) :G:=h ⟨k⟩
theorem tG {G H:Prop} (k:H) (h:DE H->G:=by
  intro zk;refine bodyPost_ret (results_none rfl _ _ _) rfl ?_;exact zk.o) :G:=h ⟨k⟩
theorem uA {G:Prop} (h:G:=by
  have PL:=HI.o.1;have uW:=HI.o.2.1;refine ⟨some g,?_,vx.o,?_⟩
  ·refine ⟨by rw [List.length_append,PL,oH.o,Nat.add_mul],fun v hv=>(List.mem_append.1 hv).elim (uW v) (vw.o v),.inr ⟨g,n,f,_,rfl,⟨?_,Zu.far (HD2.o) (Ne.symm RN) _,?_,Wu,hn,OW,hs⟩,?_⟩⟩
   ·have:=Ar.o.set_ 3 (.int .i64 ((c:Int)+(m:Int)));rw [show (c:Int)+(m:Int)=((c+m:Nat) :Int) by omega] at this ⊢;exact this
   ·have:=HC.o; have:=oH.o;rw [length_splice _ _ _ (by rw [length_splice _ _ _ Xl]; simp; omega),length_splice _ _ _ Xl];exact HC.o
   ·have:=gW HW.o PL HC.o oH.o hn zK.o.symm HU.o
    first | exact this | (simp only [Nat.mul_one] at this ⊢; exact this)
  ·refine Zx.setCell (S:=QU b go) ?_ (.inl (.inl rfl)) _;have k1:Zx (fun i=>i=g) w1 W2:=((((Zx.refl _ w1).drewN nr).trans Nh.o (fun _ _ h=>h)).drewN ns).trans K2 (fun _ _ h=>h);refine (HK.o.more (fun i _ e=> .inl e)).trans k1 (fun i hi e=>?_);subst e
   rcases vx.o _ rfl with h5 | h5
   ·exact .inr h5.symm
   ·omega) :G:=h
theorem ZbD {G:Prop} (h:G:=by
  refine ⟨rfl,n',F++D.drop F.length,⟨(ej.o.set_ 1 _).set_ 2 _,(DO.o.far (Ne.symm L4) _).far (Ne.symm L4) _,hlen,by omega,by omega,hn3,hs⟩,QF.of_prefix (by rw [hlen]; omega),fJ,?_⟩;exact Zx.setCell (S:=fun i=>i=b) (Zx.setCell (S:=fun i=>i=b) (Pz.o.more_new) (.inl rfl) _) (.inl rfl) _) :G:=h
theorem uB {G:Prop} (h:G:=by
  refine ⟨?_,?_,?_⟩
  ·have:=HD2.o;rw [iG (by have:=HF.o; have:=RZ.o; omega) (by have:=HF.o; omega)] at this;exact this
  ·exact ((((Zx.refl _ w).drewN nq).drewN nr).trans Nh.o (fun _ _ h=>h)).drewN ns |>.trans Pz.o (fun _ _ h=>h)
  ·exact Oo.o.trans Oy.o) :G:=h
theorem uC {G:Prop} (h:G:=by
  obtain ⟨_,_,xf⟩:=oZ.o;obtain ⟨ad',e,hS,hcc⟩:=xf Zf;injection e with e;subst e;rintro hg
  rcases CR g rfl with h5 | h5
  ·exact hS (.inr (by rw [hg,h5]))
  ·have:=Ga (hcc 0 _ (List.getElem?_eq_getElem (by have:=oZ.o.1; omega)));rw [OD] at this;omega) :G:=h
theorem uD {G:Prop} (h:G:=by
  obtain ⟨x1,x2,x3⟩:=oZ.o.kept hk (fun i _ e=> .inl e);obtain ⟨ad',e,hS,hcc⟩:=x3 Zf;injection e with e;subst e;refine ⟨_,by simp; omega,fun v hv=>x2 v (List.mem_of_mem_take hv),fun j v hv=>hcc j v (Mf hv),rfl⟩) :G:=h
theorem ZbG {G:Prop} (h:G:=by
  have:=(h1.cell 1).symm.trans c1;simp only [List.getElem?_toArray,List.getElem?_cons_succ,List.getElem?_cons_zero,Option.some.injEq] at this;rw [<-this];exact ⟨_,_,h1⟩) :G:=h
theorem uE {G:Prop} (h:G:=by
  go_wp2_with fail;refine (HF.o _ (Za rfl)).mono ?_;rintro e w' ⟨rfl,m,rfl⟩;go_wp2;go_ret;exact ⟨rfl,_,rfl⟩) :G:=h
theorem uF {G:Prop} (h:G:=by
  rw [<-HLe.o] at Vx;have HE:=Za Vx;clear S2 K2 Vx;go_wp2
  all_goals
   go_ret;exact ⟨rfl,HE.o⟩) :G:=h
theorem ZbR {G:Prop} (h:G:=by
  have h1:=uO.o;have h2:=RZ.o;rw [List.length_append,List.length_drop];omega) :G:=h
theorem uG {G:Prop} (h:G:=by
  have HE:=Za Vx;clear Vx;go_wp2
  all_goals
   go_end0;exact ⟨rfl,HE.o⟩) :G:=h
theorem lh {G:Prop} (h:G:=by
  rw [<-hsv];exact Nat.mod_lt _ Zf) :G:=h
theorem uI {G:Prop} (h:G:=by
  rintro e w' ⟨rfl,rfl⟩;exact dU) :G:=h
theorem On {G:Prop} (h:G:=by
  go_wp2;go_ret;exact ⟨rfl,rfl⟩) :G:=h
theorem Bt {G:Prop} (h:G:=by
  simpa using this) :G:=h
theorem zT4 {G:Prop} (h:G:=by
  go_enter func123,ntmps123;go_wp2_with fail;refine (HF.o _ (Za rfl)).mono ?_;rintro e w' ⟨rfl,q,rfl⟩;go_wp2_with fail;refine (KEY.o q).mono ?_;rintro e w1 ⟨rfl,g,n,f,C,hr,hw,hn,CR,hk⟩;obtain ⟨-,d1,d2,d3,-,-,qx⟩:=hr.cells;have bI: ¬ad.block=g:=uC
  have oE:=Za bI;obtain ⟨L,CM,hLo,hLc,qM⟩ : ∃L:List Value,L.length=m*1/\(∀v ∈ L,v.oneCell'=true)/\(∀j v,L[j]?=some v->w1.cell? (ad.add j)=some v)/\cs.take m=L:=uD
  obtain ⟨B1,B2,hC,Wu,SP,OW,-⟩:=hr;have DO:=Za B1;have Gv:=Za B2;have HC:=Za hC;have HW:=Za hw;have vx:=Za CR;have HK:=Za hk;have oH:=Za CM;have vw:=Za hLo;have zE:=Za hLc;have HLe:=Za qM;clear B1 B2 hC hw CR hk CM hLo hLc qM bI;obtain ⟨s,hsv⟩ : ∃s:Nat,(f+c)%n=s:=⟨_,rfl⟩;have DU:s < n:=lh
  have Vr: ∀W:World,W.cell? ⟨b,1,none⟩=some (.slice (some ⟨g,0,none⟩) n n)->W.cell? ⟨b,2,none⟩=some (.int .i64 f)->Xb 171 #[.pointer (some ⟨b,0,none⟩),.int .i64 c] W (.int .i64 s):=fun W x1 x2=>by
   have:=Lr b n f c _ n W x1 x2 Zf Zf Zf;rwa [hsv] at this
  have R0:=Za Vr;have zK:=Za hsv;obtain ⟨u,hu,hu0,hu1,hu2⟩ : ∃u:Nat,u=min m (n - s)/\u<=m/\u<=n - s/\(u=m\/u=n - s):=⟨_,rfl,by omega,by omega,by omega⟩;have HU:=Za hu;have HU2:=Za hu2;clear Vr hsv hu hu2;go_wp2;refine GL 14 ?_;refine GM ?_
  repeat (go_big_quiet_step ((go_at_call 171; exact Calls.quiet_of (R0.o _ d1 d2))))
  refine XK ?_;intro _ Jq;obtain ⟨nr,Y9⟩:=Jq;subst Y9;refine Y1 rfl (.tmp 32) (.tmp 35) _ _ rfl 3 underlying24 1 Zf HT.o _ _ _ _ _ _ rfl rfl g s C 3 Gv.o (L.take u) u ja Pk
   (fun _=>⟨rfl,_,rfl,fun j v hv=>zE.o j v (Mf hv)⟩) iY (fun v hv=>vw.o v (List.mem_of_mem_take hv)) ?_
  intro W1 HD1 K1 S1;have RN: ¬b=g:=Zu.ne_ DO.o Gv.o YW;have x1:=K1.cell (p:=⟨b,1,none⟩) RN (by simpa using d1);have bG: ∀j v,L[j]?=some v->W1.cell? (ad.add j)=some v:=fun j v hv=>K1.cell jd (zE.o j v hv)
  have Et:Zl (Zu W1 b 148 #[.int .i64 size,.slice (some ⟨g,0,none⟩) n n,.int .i64 f,.int .i64 c]):=Za (Zu.kept (w:=w1.drewN nr) DO.o K1 RN);have oU:=Za bG;have Nh:=Za K1;clear S1 K1 bG d1 d2 d3 qx;go_wp2;refine GL 8 ?_;refine GM ?_
  repeat (go_big_quiet_step (fail))
  refine XK ?_;intro _ Jq;obtain ⟨ns,Y9⟩:=Jq;subst Y9;refine Y1 rfl (.tmp 40) (.tmp 44) _ _ rfl 3 underlying24 1 Zf HT.o _ _ _ _ _ _ rfl rfl g 0 _ 3 HD1.o (L.drop u) (m - u) je Pk
   (fun h0=>⟨rfl,ad.add u,by first | rfl | exact if_neg jb,fun j v hv=>by rw [Sb]; exact oU.o _ v jc⟩) iU (fun v hv=>vw.o v (List.mem_of_mem_drop hv)) ?_
  intro W2 HD2 K2 S2;have Ar:Zl (Zu W2 b 148 #[.int .i64 size,.slice (some ⟨g,0,none⟩) n n,.int .i64 f,.int .i64 c]):=Za (Zu.kept (w:=W1.drewN ns) Et.o K2 RN);have y3:=Ar.o.cell 3;have z3:=Ar.o.frozen 3;have Vx: ∃go',Yv 148 3 1 (W2.setCell ⟨b,3,none⟩ (.int .i64 ((c:Int)+(m:Int)))) b go' size (c+m) (F++L)/\UI w go go'/\Zx (QU b go) w (W2.setCell ⟨b,3,none⟩ (.int .i64 ((c:Int)+(m:Int)))):=uA
  exact uF) :G:=h
theorem ZhB {G:Prop} (h:G:=by
  intro W2 HD2 K2 S2;have Oo:=Za S2;have Pz:=Za K2;clear S2 K2;have Vx:Zu W2 h 3 (F++D.drop F.length).toArray/\Zx (fun i=>i=h) w W2/\W2.heap.size=w.heap.size:=uB
  exact uG) :G:=h
theorem Zek {G:Prop} (h:G:=by
  obtain ⟨_,_,⟨rfl,rfl,h1,_⟩ | ⟨g',n',f,C,rfl,⟨h1,_⟩,_⟩⟩:=hi
  ·exact ZbG
  ·exact ZbG) :G:=h
theorem Zen {G:Prop} (h:G:=by
  have WE:Zx (fun i=>i=w.heap.size) w w1:=((Zx.refl _ w).alloc _).trans bF (fun _ _ h=>h);have Pz:=Za WE;have Gv:=Za Ar;clear Et bF At WE Ar;go_wp2;go_ret;exact ⟨rfl,Gv.o,Zx.below (Below.refl _ _) Pz.o (fun i hi=>by omega) (Nat.le_refl _)⟩) :G:=h
theorem Zeq {G:Prop} (h:G:=by
  refine ⟨?_,?_,?_⟩
  ·have:=HD2.o;show W2.heap[h]?=_;simpa [splice] using this
  ·exact ((((Zx.refl _ w).drewN nq).drewN nr).trans Nh.o (fun _ _ h=>h)).drewN ns |>.trans K2 (fun _ _ h=>h)
  ·exact S2.trans Oy.o) :G:=h
theorem Zh5 {G:Prop} (h:G:=by
  clear hd;go_enter func123,ntmps123;exact uE) :G:=h
theorem Zic {G:Prop} (h:G:=by
  simp [Builtin.delete_,run_underlying ht,MapKept.run_getObj_map hb,K.check w _ EG,f1,MapKept.run_setObj_map _ hb,Result.andThen,setBlock]) :G:=h
theorem Zes {G:Prop} (h:G:=by
  by_cases e:(n1:Int)< (size:Int)
  ·exact ⟨n1,by rw [if_pos e],by omega,by omega⟩
  ·exact ⟨size,by rw [if_neg e],by omega,by omega⟩) :G:=h
theorem Zet {G:Prop} (h:G:=by
  go_wp2;refine tG ?_;exact ⟨rfl,g,n,f,C,H3.o,H4.o,hn,fun i hi=> .inl hi,Zx.refl _ _⟩) :G:=h
theorem Zeu {G:Prop} (h:G:=by
  by_cases e:(need:Int)< 2*(n:Int)
  ·exact ⟨2*n,by rw [if_pos e]; omega,by omega⟩
  ·exact ⟨need,by rw [if_neg e],by omega⟩) :G:=h
theorem Zex {G:Prop} (h:G:=by
  have:=Et;rw [List.drop_of_length_le (by have:=uO.o; have:=RZ.o; omega),List.append_nil] at this;exact this) :G:=h
theorem tJ {G:Prop} (h:G:=by
  by_cases hfc:f+c<=n
  ·exact ⟨c,by omega,hfc,.inl rfl⟩
  ·exact ⟨n - f,by omega,by omega,.inr Zf⟩) :G:=h
theorem kO {G:Prop} (h:G:=by
  rcases Nat.lt_or_ge j n with h | h
  ·exact h
  ·exact absurd hj (tail_waits hs hc hn inv _ i rfl WG CU j h)) :G:=h
theorem tL {G:Prop} (h:G:=by
  have:=HC.o;rw [length_splice _ _ _ (by simp [Builtin.zeroCells,Value.cells]; omega)];exact this) :G:=h
theorem tO {G:Prop} (h:G:=by
  have HE:=Za Vx;clear Vx S2 K2;go_wp2
  all_goals
   go_end0;exact ⟨rfl,HE.o⟩) :G:=h
theorem tT {G:Prop} (h:G:=by
  go_enter func141,ntmps141;go_wp2;go_ret;exact ⟨by rw [H.o]; rfl,rfl⟩) :G:=h
theorem Zbh {G:Prop} (h:G:=by
  obtain ⟨es,clock,hb,_⟩:=h;exact (Array.getElem?_eq_some_iff.1 hb).1) :G:=h
theorem tW {G:Prop} (h:G:=by
  go_wp2;go_quiet (fail);go_wp2;go_ret;exact ⟨FB Zf,_,rfl⟩) :G:=h
theorem tX {G:Prop} (h:G:=by
  go_wp2;go_quiet (fail);go_wp2;go_ret;exact ⟨FB ZE,_,rfl⟩) :G:=h
theorem tY {G:Prop} (h:G:=by
  have:=(Et.o.set_ 2 (.int .i64 s)).set_ 3 (.int .i64 c);exact this) :G:=h
theorem tZ {G:Prop} (h:G:=by
  go_enter func256,ntmps256;exact On) :G:=h
theorem uf {G:Prop} (h:G:=by
  have h1:=Dn e he hb;rw [heq,getD_both CU] at h1
  cases h1) :G:=h
theorem ui {G:Prop} (h:G:=by
  first | exact hw | (rw [Nat.mul_one] at hw; exact hw)) :G:=h
theorem uk {G:Prop} (h:G:=by
  first | exact this | (rw [Nat.mul_one]; exact this)) :G:=h
theorem um {G:Prop} (h:G:=by
  have:=(bx.cell 3).symm.trans c3;exact Bt) :G:=h
theorem ur {G:Prop} (h:G:=by
  rw [List.getElem?_eq_none h1] at hv
  cases hv) :G:=h
theorem Ce {G:Prop} (h:G:=by
  rw [Array.length_toList,size_madeCells]) :G:=h
theorem uw {G:Prop} (h:G:=by
  exact lh) :G:=h
theorem ux {G:Prop} (h:G:=by
  simp only [List.length_cons] at hF;omega) :G:=h
theorem uz {G:Prop} (h:G:=by
  rw [<-hp];exact Nat.mod_lt _ Zf) :G:=h
theorem dU {G:Prop} (h:G:=by
  go_wp2;go_ret2;exact ⟨rfl,rfl⟩) :G:=h
theorem Uu {G:Prop} (h:G:=by
  exact On) :G:=h
theorem Cg {G:Prop} (h:G:=by
  have:=HF.o;simp
  omega) :G:=h
theorem VL {G:Prop} (h:G:=by
  simp [intOf];omega) :G:=h
theorem DF {G:Prop} (h:G:=by
  exact ⟨rfl,rfl⟩) :G:=h
section
open Go.RowKit
theorem RR (a b:Int) :min a b=if b < a then b else a:=Zf
theorem C9 (a b:Int) :max a b=if a < b then b else a:=Zf
def Zu (w:Zc)(g:Nat)(t:ZJ)(cs:Array Zk) :Prop:=w.heap[g]?=some (.cells cs t (0,0))
section
variable {w w':Zc} {g:Nat} {t:ZJ} {cs:Array Zk}
theorem Zu.lt (h:Zu w g t cs) :g < w.heap.size:=by
 rcases YF g w.heap.size with XV | hge
 ·exact XV
 ·unfold Zu at h; rw [Array.getElem?_eq_none hge] at h; cases h
theorem Zu.cell (h:Zu w g t cs)(i:Nat) :w.cell? ⟨g,i,none⟩=cs[i]?:=cell_of_row w g i cs t (0,0) h
theorem Zu.frozen (h:Zu w g t cs)(i:Nat) :w.frozen? ⟨g,i,none⟩=false:=by
 unfold Zu at h;simp [World.frozen?,h]
theorem Zu.new (w:Zc)(t:ZJ)(cs:Array Zk) :Zu (w.alloc (.cells cs t)) w.heap.size t cs:=heap_alloc_new w _
theorem Zu.drew (h:Zu w g t cs) :Zu w.drew g t cs:=h
theorem Zu.drewN (h:Zu w g t cs)(n:Nat) :Zu (w.drewN n) g t cs:=h
theorem Zu.alloc (h:Zu w g t cs)(o:Obj) :Zu (w.alloc o) g t cs:=(Kg w o g h.lt).trans h
theorem Zu.set_ (h:Zu w g t cs)(i:Nat)(u:Zk) :Zu (w.setCell ⟨g,i,none⟩ u) g t (cs.setIfInBounds i u):=by
 unfold Zu at h ⊢;simp [World.setCell,Array.getElem?_modify,h]
theorem Zu.far (h:Zu w g t cs){p:Addr}(hp:g≠p.block)(u:Zk) :Zu (w.setCell p u) g t cs:=(Xg w p u g hp).trans h
theorem Zu.below {B:Nat}(h:Zu w g t cs)(hb:Zp B w w')(hg:g < B) :Zu w' g t cs:=(hb.block g hg).trans h
theorem Zu.grown {row:Option Nat}(h:Zu w g t cs)(hb:w.grownBy w' row)(hg:some g≠row) :Zu w' g t cs:=(hb.block g h.lt hg).trans h
end
section
variable {P:YL} {f:UK} {args:Array Zk} {w:Zc} {a n:Nat} {v:Zk}
theorem Bb (h:Zv P f args (w.drewN n) fun e w'=>e= .returned v/\w.drewN n=w') :Zv P f args (w.drewN n) fun e w''=>e= .returned v/\ ∃m,w''=w.drewN m:=
 h.mono fun _ _ ⟨he,hm⟩=>⟨he,n,hm.symm⟩
end
theorem Kl (a:Zc)(row:Option Nat) :a.grownBy a row:=⟨rfl,rfl,rfl,Zh _,fun _ _ _=>rfl⟩
theorem Th {a b c:Zc}{row:Option Nat}(h:a.grownBy b row)(k:b.grownBy c row) :a.grownBy c row:=
 ⟨k.os.trans h.os,k.tape.trans h.tape,k.output.trans h.output,ZY h.size k.size,fun i hi hn=>(k.block i (YE hi h.size) hn).trans (h.block i hi hn)⟩
theorem Vz {a w:Zc}{row:Option Nat}(h:a.grownBy w row)(n:Nat) :a.grownBy (w.drewN n) row:=⟨h.os,h.tape,h.output,h.size,h.block⟩
theorem AJ {a w:Zc}{row:Option Nat}(h:a.grownBy w row) :a.grownBy w.drew row:=⟨h.os,h.tape,h.output,h.size,h.block⟩
theorem Dt {a w:Zc}{row:Option Nat}(h:a.grownBy w row)(o:Obj) :a.grownBy (w.alloc o) row:=
 ⟨h.os,h.tape,h.output,ZY h.size ZE,fun i hi Ka=>(Kg w o i (YE hi h.size)).trans (h.block i hi Ka)⟩
theorem QD {a w:Zc}{g:Nat}(h:a.grownBy w (some g)){p:Addr}(hp:p.block=g\/a.heap.size<=p.block)(u:Zk) :a.grownBy (w.setCell p u) (some g):=
 ⟨h.os,h.tape,h.output,by simpa [World.setCell] using h.size,fun i hi Ka=>(Xg w p u i (by
  rintro rfl
  rcases hp with hp | hp
  ·exact Ka (by rw [hp])
  ·omega)).trans (h.block i hi Ka)⟩
theorem Ee {a w:Zc}(h:Zp a.heap.size a w)(row:Option Nat) :a.grownBy w row:=⟨h.os,h.tape,h.output,h.size,fun i hi _=>h.block i hi⟩
theorem GW {B g:Nat}{a w w':Zc}(h:Zp B a w)(hg:w.grownBy w' (some g))(hB:B<=w.heap.size)(hr:B<=g) :Zp B a w':=
 h.grown hg hB (fun k hk=>by injection hk with hk; omega)
theorem add_plain (b off i:Nat) :(⟨b,off,none⟩ :Addr).add i=⟨b,off+i,none⟩:=by
 unfold Addr.add
 by_cases h:i=0 <;> simp [h]
theorem Ga {w:Zc}{p:Addr}{v:Zk}(h:w.cell? p=some v) :p.block < w.heap.size:=by
 rcases YF p.block w.heap.size with hl | hl
 ·exact hl
 ·simp [World.cell?,Array.getElem?_eq_none hl] at h
theorem FB {k:IntKind}{a b:Int}(h:a=b) :J0 (.int k a)= .returned (.int k b):=by rw [h]
theorem VJ {a b:Bool}(h:a=b) :J0 (.bool a)= .returned (.bool b):=by rw [h]
end
section
open Go.RowKit
structure Zx (S:Nat->Prop)(w w':Zc) :Prop where
 os:w'.os=w.os
 tape:w'.tape=w.tape
 output:w'.output=w.output
 size:w.heap.size<=w'.heap.size
 block: ∀i,i < w.heap.size-> ¬S i->w'.heap[i]?=w.heap[i]?
section
variable {S T:Nat->Prop} {a w w' c:Zc} {B g:Nat} {t:ZJ} {cs:Array Zk}
theorem Zx.refl (S:Nat->Prop)(w:Zc) :Zx S w w:=⟨rfl,rfl,rfl,Zh _,fun _ _ _=>rfl⟩
theorem Zx.trans (h:Zx S a w)(k:Zx T w c)(hT: ∀i,i < a.heap.size->T i->S i) :Zx S a c:=
 ⟨k.os.trans h.os,k.tape.trans h.tape,k.output.trans h.output,ZY h.size k.size,fun i hi hn=>(k.block i (YE hi h.size) (fun ht=>hn (hT i hi ht))).trans (h.block i hi hn)⟩
theorem Zx.drewN (h:Zx S a w)(n:Nat) :Zx S a (w.drewN n):=⟨h.os,h.tape,h.output,h.size,h.block⟩
theorem Zx.drew (h:Zx S a w) :Zx S a w.drew:=⟨h.os,h.tape,h.output,h.size,h.block⟩
theorem Zx.alloc (h:Zx S a w)(o:Obj) :Zx S a (w.alloc o):=
 ⟨h.os,h.tape,h.output,ZY h.size ZE,fun i hi hn=>(Kg w o i (YE hi h.size)).trans (h.block i hi hn)⟩
theorem Zx.setCell (h:Zx S a w){p:Addr}(hp:S p.block\/a.heap.size<=p.block)(u:Zk) :Zx S a (w.setCell p u):=
 ⟨h.os,h.tape,h.output,by simpa [World.setCell] using h.size,fun i hi hn=>(Xg w p u i (by
  rintro rfl
  rcases hp with hp | hp
  ·exact hn hp
  ·omega)).trans (h.block i hi hn)⟩
theorem Zx.setRow (h:Zx S a w){g:Nat}(hp:S g\/a.heap.size<=g)(cs:Array Zk) :Zx S a (w.setRow g cs):=
 ⟨h.os,h.tape,h.output,by simpa using h.size,fun i hi hn=>(setRow_other w g i cs (by
  rintro rfl
  rcases hp with hp | hp
  ·exact hn hp
  ·omega)).trans (h.block i hi hn)⟩
theorem Zx.below (hb:Zp B a w)(h:Zx S w w')(hS: ∀i,S i->B<=i)(hB:B<=w.heap.size) :Zp B a w':=
 hb.trans ⟨h.os,h.tape,h.output,h.size,fun i hi=>h.block i Zf (fun hs=>by have:=hS i hs; omega)⟩
theorem Zx.of_below (h:Zp a.heap.size a w) :Zx S a w:=⟨h.os,h.tape,h.output,h.size,fun i hi _=>h.block i hi⟩
theorem Zx.of_grown {row:Option Nat}(h:a.grownBy w row)(hr: ∀i,some i=row->S i) :Zx S a w:=⟨h.os,h.tape,h.output,h.size,fun i hi hn=>h.block i hi (fun e=>hn (hr i e))⟩
theorem Zx.more (h:Zx S a w)(hS: ∀i,i < a.heap.size->S i->T i) :Zx T a w:=⟨h.os,h.tape,h.output,h.size,fun i hi hn=>h.block i hi (fun hs=>hn (hS i hi hs))⟩
theorem Zx.more_new (h:Zx (fun i=>i=a.heap.size) a w) :Zx T a w:=h.more fun i hi e=>by omega
theorem Zu.kept (h:Zu w g t cs)(k:Zx S w w')(hg: ¬S g) :Zu w' g t cs:=(k.block g h.lt hg).trans h
theorem Zx.cell (k:Zx S w w'){p:Addr}(hp: ¬S p.block){v:Zk}(h:w.cell? p=some v) :w'.cell? p=some v:=
 (World.cell?_of_block (w:=w) (k.block p.block (Ga h) hp)).trans h
theorem Zx.frozen (k:Zx S w w'){p:Addr}(hp: ¬S p.block)(hb:p.block < w.heap.size) :w'.frozen? p=w.frozen? p:=World.frozen?_of_block (w:=w) (k.block p.block hb hp)
theorem Zx.grown {row:Option Nat}(h:Zx (fun _=>False) a w)(hg:w.grownBy w' row)(hr: ∀i,row=some i->a.heap.size<=i) :Zx (fun _=>False) a w':=
 h.trans (T:=fun i=>row=some i) ⟨hg.os,hg.tape,hg.output,hg.size,fun i hi hn=>hg.block i hi (fun e=>hn e.symm)⟩ (fun i hi e=>by have:=hr i e; omega)
theorem Zu.setRow (h:Zu w g t cs)(cs':Array Zk) :Zu (w.setRow g cs') g t cs':=YA w g cs cs' t (0,0) h
theorem Zu.setRow_far (h:Zu w g t cs){k:Nat}(hk:g≠k)(cs':Array Zk) :Zu (w.setRow k cs') g t cs:=(setRow_other w k g cs' hk).trans h
theorem Zu.ne_ {g':Nat}{t':ZJ}{cs':Array Zk}(h:Zu w g t cs)(h':Zu w g' t' cs')(Ka:t≠t') :g≠g':=by
 rintro rfl;unfold Zu at h h';rw [h] at h';injection h' with h';injection h' with _ ht;exact Ka ht
end
section
variable {P:YL}
theorem WQ (w:Zc)(dT sT ty elem:ZJ)(g o Rl eQ:Nat)(a:Addr)(Ry iz k:Nat)(cur:Array Zk)(t:ZJ)(cs:List Zk)
  (hu:P.underlying dT=some (.slice elem)) (hs:(P.info? elem).map (·.size)=some k)
  (hg:w.heap[g]?=some (.cells cur t (0,0))) (hn:cs.length=Nat.min Ry Rl*k)
  (Ed: ∀j v,cs[j]?=some v->w.cell? (a.add j)=some v) (Bo:o+cs.length<=cur.size) (h1: ∀v ∈ cs,v.oneCell'=true) :
  (Builtin.copy_ #[dT,sT] ty #[.slice (some ⟨g,o,none⟩) Rl eQ,.slice (some a) Ry iz]).run P w= .ok (goInt (Nat.min Ry Rl)) (w.setRow g (KV cur.toList o cs).toArray):=by
 have hl:=run_loadCells_list (P:=P) w a cs Ed;have GR:=run_storeCells_at P g o t cs 0 cur w hg (by simpa using Bo) h1
 cases hq:P.info? elem with
 | none=>simp [hq] at hs
 | some i=>
  have hi:i.size=k:=by simpa [hq] using hs
  rw [hn] at hl;simp [Builtin.copy_,Xa hu,Builtin.lenOf,Vt,sizeOf,VK,hq,hi,hl,GR,KV]
theorem TM (w:Zc)(dT sT ty elem:ZJ)(d a:Option Addr)(Rl eQ Ry iz:Nat)(hu:P.underlying dT=some (.slice elem))(hs:((P.info? elem).map (·.size)).isSome=true)(hn:Nat.min Ry Rl=0) :
  (Builtin.copy_ #[dT,sT] ty #[.slice d Rl eQ,.slice a Ry iz]).run P w= .ok (goInt 0) w:=by
 cases hq:P.info? elem with
 | none=>simp [hq] at hs
 | some i=>
  have hl: ∀(x:Addr),(loadCells x 0).run P w= .ok #[] w:=fun x=>by simpa using run_loadCells_list (P:=P) w x [] ZE
  cases d <;> cases a <;> simp [Builtin.copy_,Xa hu,Builtin.lenOf,Vt,sizeOf,VK,hq,hn,storeCells,hl]
theorem Y1 {w:Zc}{ops:Array Oper}{rest:List Oper}{o:Oper}{a:Act}{Q:Exit->Act->Zc->Prop}(BJ:o.guard=none)(d s:YN)(dT sT:ZJ)
  (ho:o.op= .call { callee:= .builtin .copy,args:= #[d,s],argTypes:= #[dT,sT]}) (elem:ZJ) (hu:P.underlying dT=some (.slice elem)) (k:Nat) (hk:0 < k) (Bx:(P.info? elem).map (·.size)=some k)
  (dp sp:Option Addr) (Rl eQ Ry iz:Nat) (hd:a.eval d= .slice dp Rl eQ) (hs:a.eval s= .slice sp Ry iz)
  (g off:Nat) (cur:List Zk) (t:ZJ) (hg:w.heap[g]?=some (.cells cur.toArray t (0,0))) (cs:List Zk) (m:Nat) (hm:m=Nat.min Ry Rl) (hn:cs.length=m*k)
  (S8:0 < cs.length->dp=some ⟨g,off,none⟩/\ ∃ad,sp=some ad/\ ∀j v,cs[j]?=some v->w.cell? (ad.add j)=some v)
  (Bo:off+cs.length<=cur.length) (h1: ∀v ∈ cs,v.oneCell'=true)
  (h: ∀w',Zl (w'.heap[g]?=some (.cells (KV cur off cs).toArray t (0,0)))->Zx (fun i=>i=g) w w'->w'.heap.size=w.heap.size->YQ P ops Q rest (a.put o.dst (goInt m)) w') :
  YQ P ops Q (o::rest) a w:=by
 refine Jf BJ fun K hK=>?_
 subst hm
 by_cases h0:cs.length=0
 ·obtain rfl:cs=[]:=ZR h0;have hz:Nat.min Ry Rl=0:=by
   simp only [List.length_nil] at hn
   rcases Nat.mul_eq_zero.1 hn.symm with h2 | h2
   ·exact h2
   ·omega
  have GH:=TM (P:=P) w dT sT o.type elem dp sp Rl eQ Ry iz hu (by rw [Bx]; rfl) hz;unfold Jp;simp [XL,ho,resolve,invoke,builtin,hd,hs,GH,YZ];have:=h w (show _=_ by simpa [KV] using hg) (Zx.refl _ _) rfl;rw [hz] at this;exact hK _ _ this
 ·obtain ⟨rfl,ad,rfl,Ed⟩:=S8 Zf;have GH:=WQ (P:=P) w dT sT o.type elem g off Rl eQ ad Ry iz k cur.toArray t cs hu Bx hg hn Ed (by simpa using Bo) h1;unfold Jp;simp [XL,ho,resolve,invoke,builtin,hd,hs,GH,YZ];exact hK _ _ (h _ (show _=_ by simpa using YA w g _ _ t _ hg) (Zx.setRow (S:=fun i=>i=g) (Zx.refl _ _) (.inl rfl) _) ZE)
theorem TL (w:Zc)(T ty elem:ZJ)(z:Zk)(hu:P.underlying T=some (.slice elem))(hv: ∀w,(JZ elem).run P w= .ok z w)(h1: ∀v ∈ z.cells.toList,v.oneCell'=true)(g o n c:Nat)(hn:0 < n)(cur:Array Zk)(t:ZJ)
  (hg:w.heap[g]?=some (.cells cur t (0,0))) (Bo:o+n*z.cells.size<=cur.size) :
  (Builtin.clear_ #[T] ty #[.slice (some ⟨g,o,none⟩) n c]).run P w= .ok (.tuple #[]) (w.setRow g (KV cur.toList o (YM z.cells n).toList).toArray):=by
 have hlen:(YM z.cells n).toList.length=n*z.cells.size:=by simp [YM]
 have SZ: ∀v ∈ (YM z.cells n).toList,v.oneCell'=true:=by
  intro v xD;simp only [YM,Array.toList_map,Z6,Array.toList_range,Qo] at xD;obtain ⟨i,hi,rfl⟩:=xD;have S8:0 < z.cells.size:=by
   rcases QK z.cells.size with h0 | h0
   ·rw [h0,Nat.mul_zero] at hi; omega
   ·exact h0
  have XV:i%z.cells.size < z.cells.size:=Jv _ S8;refine h1 _ ?_;rw [getElem!_pos z.cells _ XV];exact Array.getElem_mem_toList XV
 have GR:=run_storeCells_at P g o t (YM z.cells n).toList 0 cur w hg (by simp only [Nat.add_zero]; rw [hlen]; exact Bo) SZ;obtain ⟨m,rfl⟩ : ∃m,n=m+1:=⟨n - 1,by omega⟩;simp only [Nat.add_zero] at GR;simp [Builtin.clear_,Xa hu,hv,GR,KV]
theorem Em {w:Zc}{ops:Array Oper}{rest:List Oper}{o:Oper}{a:Act}{Q:Exit->Act->Zc->Prop}(BJ:o.guard=none)(s:YN)(T:ZJ)
  (ho:o.op= .call { callee:= .builtin .clear,args:= #[s],argTypes:= #[T]}) (elem:ZJ) (hu:P.underlying T=some (.slice elem)) (z:Zk) (hv: ∀w,(JZ elem).run P w= .ok z w) (h1: ∀v ∈ z.cells.toList,v.oneCell'=true)
  (g off n c:Nat) (hs:a.eval s= .slice (some ⟨g,off,none⟩) n c) (hn:0 < n) (cur:List Zk) (t:ZJ) (hg:w.heap[g]?=some (.cells cur.toArray t (0,0))) (Bo:off+n*z.cells.size<=cur.length)
  (h: ∀w',Zl (w'.heap[g]?=some (.cells (KV cur off (YM z.cells n).toList).toArray t (0,0)))->Zx (fun i=>i=g) w w'->YQ P ops Q rest (a.put o.dst (.tuple #[])) w') :
  YQ P ops Q (o::rest) a w:=by
 refine Jf BJ fun K hK=>?_
 have GH:=TL (P:=P) w T o.type elem z hu hv h1 g off n c hn cur.toArray t hg (by simpa using Bo);unfold Jp;simp [XL,ho,resolve,invoke,builtin,hs,GH,YZ];exact hK _ _ (h _ (show _=_ by simpa using YA w g _ _ t _ hg) (Zx.setRow (S:=fun i=>i=g) (Zx.refl _ _) (.inl rfl) _))
end
end
section
open Go.RowKit
section
variable {P:YL} {ops:Array Oper} {C:Zc->Prop} {Q:Act->Prop} {a:Act} {o:Oper} {rest:List Oper}
theorem BL (v:Zk)(hw:XJ o (VD ops a.tmps)=true)(hv: ∀w,(XL a.eval o).run P w= .ok (.value v) w)(h:ZZ P ops C Q rest (a.put o.dst v)) :ZZ P ops C Q (o::rest) a:=by
 unfold ZZ;rw [if_pos hw];exact ⟨v,fun w _=>by unfold Vv; rw [hv]; exact ⟨rfl,rfl⟩,h⟩
theorem Il (v:Zk)(hw:XJ o (VD ops a.tmps)=true)(hv: ∀w,C w->(XL a.eval o).run P w= .ok (.value v) w)(h:ZZ P ops C Q rest (a.put o.dst v)) :ZZ P ops C Q (o::rest) a:=by
 unfold ZZ;rw [if_pos hw];exact ⟨v,fun w hc=>by unfold Vv; rw [hv w hc]; exact ⟨rfl,rfl⟩,h⟩
theorem QP (ty:ZJ)(x:YN)(b:Nat)(t:ZJ)(cs:Array Zk)(d:TypeDesc)(hw:XJ o (VD ops a.tmps)=true)(ho:o.op= .load ty x)(hx:a.eval x= .pointer (some ⟨b,0,none⟩))
  (hC: ∀w,C w->Zu w b t cs) (hu:P.underlying ty=some d) (hd:(match d with | .struct _ | .array _ _=>true | _=>false)=true) (hi:(P.info? ty).map (·.size)=some cs.size)
  (h:ZZ P ops C Q rest (a.put o.dst (.agg cs))) :ZZ P ops C Q (o::rest) a:=by
 refine Il (.agg cs) hw (fun w hc=>?_) h;unfold XL;simp only [ho,hx,Instr.loadAt,Instr.sureAddr,Yr,YU,ZW,run_loadVar_row w b t ty cs (0,0) d (hC w hc) hu hd hi]
theorem O7 {dst:Option Tmp}{f:UK}{xs:Array YN}{vU:Array ZJ}{ty:ZJ}{pos:String}{after:Array Edge}{guard:Option (Nat × Bool)}(v:Zk)(vs:Array Zk)
  (hw:XJ { dst,op:= .call { callee:= .value (.func f),args:=xs,argTypes:=vU},type:=ty,pos,after,guard} (VD ops a.tmps)=true)
  (hvs: #[]++xs.map a.eval++ #[]=vs) (VH: ∀args w,(callFunc f args).run P w= .ok (.enter f args) w)
  (hC: ∀w,C w->Zv P f vs w fun e w'=>e= .returned v/\C w') (h:ZZ P ops C Q rest (a.put dst v)) :
  ZZ P ops C Q ({ dst,op:= .call { callee:= .value (.func f),args:=xs,argTypes:=vU},type:=ty,pos,after,guard}::rest) a:=by
 unfold ZZ;rw [if_pos hw];refine ⟨v,fun w hc=>?_,h⟩;unfold Vv;have e:XL a.eval { dst,op:= .call { callee:= .value (.func f),args:=xs,argTypes:=vU},type:=ty,pos,after,guard}=callFunc f (#[]++xs.map a.eval++ #[]):=rfl;rw [e,VH,hvs];exact ⟨rfl,hC w hc⟩
theorem J2 {P:YL}{id:Nat}{Q:Exit->Act->Zc->Prop}{a:Act}{w:Zc}{l:List Oper}(C:Zc->Prop)(hm:P.follows .mixedOrders=true)(hB:Region.lexB .any l.toArray=true)(hC:C w.drew)
  (h:ZZ P l.toArray C (fun a'=> ∀w',C w'->Q .normal a' w') l a) :(Vl id l.toArray true).wp P Q a w:=
 wp_region_quiet (C:=C) hm hB hC KB
end
section
variable {P:YL} {ops:Array Oper} {Q:Exit->Act->Zc->Prop} {a:Act} {w:Zc} {rest:List Oper} {o:Oper}
theorem EU (hw:XJ o (VD ops a.tmps)=true)(ty:ZJ)(x:YN)(ho:o.op= .load ty x)
  (g:Nat) (hx:a.eval x= .pointer (some ⟨g,0,none⟩)) (t:ZJ) (cs:Array Zk) (fr:Nat × Nat) (d:TypeDesc) (hg:w.heap[g]?=some (.cells cs t fr))
  (hu:P.underlying ty=some d) (hd:(match d with | .struct _ | .array _ _=>true | _=>false)=true) (hi:(P.info? ty).map (·.size)=some cs.size)
  (h:YQ P ops Q rest (a.put o.dst (.agg cs)) w) :YQ P ops Q (o::rest) a w:=by
 unfold YQ;rw [if_pos hw];exact .inl (wp_load_row ty x ho g hx t cs fr d hg hu hd hi h)
theorem LO (v:Zk)(hw:XJ o (VD ops a.tmps)=true)(hv:(XL a.eval o).run P w= .ok (.value v) w)(h:YQ P ops Q rest (a.put o.dst v) w) :YQ P ops Q (o::rest) a w:=by
 unfold YQ;rw [if_pos hw];refine .inl ?_;unfold Jp;rw [hv];exact h
end
def Vp (B b t:Nat)(cs:Array Zk)(w w':Zc) :Prop:=Zu w' b t cs/\Zp B w w'/\B<=w'.heap.size
theorem Vp.call {P:YL}{f:UK}{vs:Array Zk}{v:Zk}{B b t:Nat}{cs:Array Zk}{w0 w:Zc}(hk:Vp B b t cs w0 w)
  (h:Zv P f vs w fun e w'=>e= .returned v/\Zp w.heap.size w w') :Zv P f vs w fun e w'=>e= .returned v/\Vp B b t cs w0 w':=
 h.mono fun _ _ ⟨he,hb⟩=>⟨he,hk.1.below hb hk.1.lt,hk.2.1.trans (hb.mono hk.2.2),ZY hk.2.2 hb.size⟩
theorem Vp.drew {B b t:Nat}{cs:Array Zk}{w0 w:Zc}(hk:Vp B b t cs w0 w) :Vp B b t cs w0 w.drew:=⟨hk.1,hk.2.1.drew,hk.2.2⟩
theorem Vp.new {B t:Nat}{cs:Array Zk}{w0 w:Zc}(hk:Zp B w0 w)(hB:B<=w.heap.size) :Vp B w.heap.size t cs w0 (w.alloc (.cells cs t)):=
 ⟨Zu.new w t cs,hk.alloc hB _,by simp; omega⟩
theorem Vp.alloc {B b t:Nat}{cs:Array Zk}{w0 w:Zc}(hk:Vp B b t cs w0 w)(o:Obj) :Vp B b t cs w0 (w.alloc o):=⟨hk.1.alloc o,hk.2.1.alloc hk.2.2 o,by have:=hk.2.2; simp; omega⟩
theorem Vp.heap {B b t:Nat}{cs:Array Zk}{w0 w:Zc}(hk:Vp B b t cs w0 w) :w.heap[b]?=some (.cells cs t (0,0)):=hk.1
end
section
open Go.RowKit
section
variable {P:YL} {ops:Array Oper} {md:JS} {C:Zc->Prop}
def Wa (P:YL)(md:JS)(ops:Array Oper)(C:Zc->Prop)(n:Nat)(L:Array Bool->Act->Prop) :Nat->Array Bool->Act->Prop
 | 0,Zs,a=>L Zs a
 | f+1,Zs,a=>
  Yq md ops Zs≠ []/\ ∀i ∈ Yq md ops Zs,i < n/\qOp P ops C i (Wa P md ops C n L f (Zs.setIfInBounds i true)) a
theorem F5 {n g:Nat}{L:Array Bool->Act->Prop}{Q':Exit->Act->Zc->Prop}(hL: ∀Zs a w,C w->L Zs a->wpAny P md ops Q' g Zs a w) :
  ∀(f:Nat) (Zs:Array Bool) (a:Act) (w:Zc),C w->Wa P md ops C n L f Zs a->wpAny P md ops Q' (f+g) Zs a w
 | 0,Zs,a,w,hw,h=>by rw [ZV]; exact hL _ _ _ hw h
 | f+1,Zs,a,w,hw,h=>by
  rw [show f+1+g=(f+g)+1 by omega];exact ⟨fun h0=>absurd h0 h.1,fun i hi=>wpOp_of_qOp hw (fun a' w' Jq h'=>F5 hL f _ a' w' Jq h') (h.2 i hi).2⟩
theorem IP {n i:Nat}{oi:Oper}{v:Zk}{L:Array Bool->Act->Prop}(hi:ops[i]?=some oi)(G9: ∀(j:Nat) (o:Oper) cs b,ops[j]?=some o->o.op≠ .select cs b)
  (hs:KK md ops n=true) (hc:KR md ops n=true) (hn:n < ops.size) (WG:i < n)
  (EC: ∀Zs a,L Zs a-> ∀j ∈ Yq md ops Zs,n<=j) :
  ∀(f:Nat) (Zs:Array Bool) (a:Act),HeadInv md ops n Zs->
   (∀j oj,ops[j]?=some oj->j≠i->Zs.getD j true=false->(∀e ∈ oj.after,Xd md e=true->e.on≠i)->oi.apart ops oj=true)->
   i ∈ Yq md ops Zs->YieldsIn P ops C oi v a->
   Wa P md ops C n L f (Zs.setIfInBounds i true) (a.put oi.dst v)->Wa P md ops C n L (f+1) Zs a:=by
 intro f
 induction f with
 | zero=>
  intro Zs a inv _ hr hy H;have CU:=(mem_ready.1 hr).1;refine ⟨fun h=>Pq,fun j hj=>?_⟩;have Dc:j < n:=kO
  refine ⟨Dc,?_⟩
  by_cases NF:j=i
  ·subst NF; exact hy.qOp hi H
  ·have:=EC _ _ H j (Uo hj NF);omega
 | succ f ih=>
  intro Zs a inv Mt hr hy H;have CU:=(mem_ready.1 hr).1;refine ⟨fun h=>Pq,fun j hj=>?_⟩;have Dc:j < n:=kO
  refine ⟨Dc,?_⟩
  by_cases NF:j=i
  ·subst NF; exact hy.qOp hi H
  ·have h1:=(H.2 j (Uo hj NF)).2;obtain ⟨bL,oj,ri,Dn⟩:=mem_ready.1 hj;have Fp: ∀e ∈ oj.after,Xd md e=true->e.on≠i:=fun e he hb heq=>by
    exact uf
   have h2:=qOp_put ri (Mt j oj ri NF bL Fp) (fun cs b=>G9 i oi cs b hi) (fun cs b=>G9 j oj cs b ri) hy h1;have SS: ∀k ok,ops[k]?=some ok->k≠i->(Zs.setIfInBounds j true).getD k true=false->
     (∀e ∈ ok.after,Xd md e=true->e.on≠i)->oi.apart ops ok=true:=fun k ok hk hki CU rh=>by
    refine Mt k ok hk hki ?_ rh
    by_cases ED:j=k
    ·subst ED; exact bL
    ·rw [getD_set_ne true ED] at CU; exact CU
   refine qOp_mono (fun a' h3=>ih (Zs.setIfInBounds j true) a' (inv.set hj Dc) SS (Uo hr (Q0 NF)) h3.1 ?_) h2;rw [Array.setIfInBounds_comm _ _ NF];exact h3.2
theorem Wc {n g:Nat}{Lq:Act->Prop}(G9:Region.noSelect ops=true)(hs:KK md ops n=true)(hc:KR md ops n=true)(hn:n < ops.size) :
  ∀(l:List Oper) (k:Nat) (Zs:Array Bool) (a:Act),(∀j,j < l.length->l[j]?=ops[k+j]?)->k+l.length=n->HeadInv md ops n Zs->
  Region.lexHead md ops g l.length k Zs=true->ZZ P ops C Lq l a->
  Wa P md ops C n (fun j1 a'=>Region.seqB md ops g n j1=true/\Lq a') l.length Zs a
 | [],k,Zs,a,_,hk,_,hB,h=>by
  have:k=n:=by simpa using hk
  subst this;exact ⟨by simpa [Region.lexHead] using hB,h⟩
 | o::l,k,Zs,a,hl,hk,inv,hB,h=>by
  have h0:ops[k]?=some o:=by simpa using (hl 0 ZE).symm
  simp only [Yc,Region.lexHead,YO] at hB;obtain ⟨⟨hr,hf⟩,hB'⟩:=hB;have Hd:k < n:=by simp only [Yc] at hk; omega
  have xA:k ∈ Yq md ops Zs:=by simpa using hr
  have GR:qOp P ops C k (ZZ P ops C Lq l) a:=by unfold qOp; simp only [h0]; exact h
  obtain ⟨v,hy,hK⟩:=yieldsIn_of_qOp h0 GR;exact IP h0 (Region.noSelect_spec G9) hs hc hn Hd (fun j1 a' hL=>seqB_ready hL.1) l.length Zs a inv (Region.free_spec h0 hf) xA hy
   (Wc G9 hs hc hn l (k+1) _ _ (fun j hj=>by have:=hl (j+1) Xl; simpa [Q7,Nat.add_comm 1 j] using this) (by simp only [Yc] at hk; omega) (inv.set xA Hd) hB' hK)
theorem LP {id:Nat}{Q:Exit->Act->Zc->Prop}{a:Act}{w:Zc}{l:List Oper}(C:Zc->Prop)(n:Nat)(hm:P.follows .mixedOrders=true)(hB:VF .any l.toArray n=true)(hC:C w.drew)
  (h:ZZ P l.toArray C (fun a'=> ∀w',C w'->YQ P l.toArray Q (l.drop n) a' w') (l.take n) a) :(Vl id l.toArray true).wp P Q a w:=by
 simp only [VF,YO,decide_eq_true_eq] at hB;obtain ⟨⟨⟨⟨G9,hn⟩,hs⟩,hc⟩,hlex⟩:=hB;have hn':n < l.length:=by simpa using hn
 have jV:(l.take n).length=n:=Xl;have hdl:(l.drop n).length=l.toArray.size - n:=ZE;have inv0:HeadInv .any l.toArray n (Array.replicate l.toArray.size false):=
  ⟨by simp,fun j oj _ hl=>(by rw [Uj] at hl; cases hl),fun t _ ht=>getD_in (by simpa using ht) (Uj _ _)⟩
 have H:=Wc (md:= .any) (g:=l.toArray.size - n) G9 hs hc hn (l.take n) 0 _ a (fun j hj=>by
  have Ou:j < n:=by rw [jV] at hj; exact hj
  simp [Ou]) (by simpa using jV) inv0 (by rw [jV]; exact hlex) h
 refine wp_region_any hm ?_;have:=F5 (Q':=Q) (g:=l.toArray.size - n) (fun Zs a' w' Jq hL=>by
  have:=wpAny_of_seq (md:= .any) (Q':=Q) (l.drop n) n Zs a' w' (fun j=>by simp [XG]) (by rw [hdl]; exact hL.1) (hL.2 _ Jq);rwa [hdl] at this) _ _ _ w.drew hC H
 rw [jV,show n+(l.toArray.size - n)=l.toArray.size by omega] at this;exact this
theorem LQ {id:Nat}{Q:Exit->Act->Zc->Prop}{a:Act}{w:Zc}{l:List Oper}(n:Nat)(hm:P.follows .mixedOrders=true)(hB:VF .any l.toArray n=true)
  (h:ZZ P l.toArray (fun w'=> ∃n,w'=w.drewN n) (fun a'=> ∀w',(∃n,w'=w.drewN n)->YQ P l.toArray Q (l.drop n) a' w') (l.take n) a) :(Vl id l.toArray true).wp P Q a w:=
 LP (fun w'=> ∃n,w'=w.drewN n) n hm hB ⟨1,rfl⟩ h
end
end
section
def QF {α:Type}(C:List α)(f:Nat)(F:List α) :Prop:=F.length<=C.length/\f < C.length/\ ∀t v,F[t]?=some v->C[(f+t)%C.length]?=some v
theorem zo {N s:Nat}(h:s < 2*N) :(s < N/\s%N=s)\/(N<=s/\s%N=s - N):=by
 rcases YF s N with h1 | h1
 ·exact .inl ⟨h1,Kk h1⟩
 ·refine .inr ⟨h1,?_⟩;rw [Nat.mod_eq_sub_mod h1];exact Kk Zf
theorem Bc {α:Type}(L:List α)(off:Nat)(cs:List α)(h:off+cs.length<=L.length)(p:Nat) :
  (KV L off cs)[p]?=if p < off then L[p]? else if p < off+cs.length then cs[p - off]? else L[p]?:=by
 unfold KV;have hl:(L.take off).length=off:=Xl
 by_cases h1:p < off
 ·rw [if_pos h1,YB Zf,Qr h1]
 ·rw [if_neg h1,Y6 Zf,hl]
  by_cases h2:p < off+cs.length
  ·rw [if_pos h2,YB Zf]
  ·rw [if_neg h2,Y6 Zf,XG]
   congr 1
   omega
section
variable {α:Type} {C F:List α} {f:Nat}
theorem QF.read1 (h:QF C f F){u:Nat}(hu:f+u<=C.length)(j:Nat)(v:α)(hv:(F.take u)[j]?=some v) :C[f+j]?=some v:=by
 have hj:j < u:=by
  rcases YF j u with h1 | h1
  ·exact h1
  ·rw [Qx Xl] at hv; cases hv
 rw [Qr hj] at hv;have:=h.2.2 j v hv;rwa [Kk Zf] at this
theorem QF.read2 (h:QF C f F)(j:Nat)(v:α)(hv:(F.drop (C.length - f))[j]?=some v) :C[j]?=some v:=by
 rw [XG] at hv;have hj:C.length - f+j < F.length:=by
  rcases YF (C.length - f+j) F.length with h1 | h1
  ·exact h1
  ·exact ur
 obtain ⟨h1,h2,h3⟩:=h;have:=h3 _ v hv;rw [show f+(C.length - f+j)=C.length+j by omega,Nat.add_mod_left,Kk Zf] at this;exact this
theorem QF.of_prefix {Z:List α}(h:0 < (F++Z).length) :QF (F++Z) 0 F:=by
 refine ⟨by simp,h,fun t v hv=>?_⟩;have ht:t < F.length:=by
  rcases YF t F.length with h1 | h1
  ·exact h1
  ·exact ur
 rw [ZV,Kk Xl,YB ht];exact hv
theorem QF.push (h:QF C f F){cs:List α}(hc:F.length+cs.length<=C.length){s u:Nat}(hs:s=(f+F.length)%C.length)(hu:u=min cs.length (C.length - s)) :
  QF (KV (KV C s (cs.take u)) 0 (cs.drop u)) f (F++cs):=by
 obtain ⟨h1,h2,h3⟩:=h;have hsN:s < C.length:=by rw [hs]; exact Jv _ Zf
 have l1:(cs.take u).length=u:=Xl;have l2:(cs.drop u).length=cs.length - u:=ZE;have e1:(KV C s (cs.take u)).length=C.length:=Jr _ _ _ Zf;have e2:(KV (KV C s (cs.take u)) 0 (cs.drop u)).length=C.length:=by rw [Jr _ _ _ Zf,e1]
 refine ⟨by rw [e2]; simpa using hc,by omega,fun t v hv=>?_⟩;rw [e2,Bc _ _ _ Zf,Bc _ _ _ Zf,l1,l2];have hws:=zo (N:=C.length) (s:=f+F.length) Zf;rw [<-hs] at hws;have ht:t < F.length+cs.length:=by
  rcases YF t (F.length+cs.length) with h4 | h4
  ·exact h4
  ·rw [Qx (by simpa using h4)] at hv; cases hv
 have hwt:=zo (N:=C.length) (s:=f+t) Zf;generalize hp:(f+t)%C.length=p at*
 by_cases htF:t < F.length
 ·rw [YB htF] at hv;have:=h3 t v hv;rw [hp] at this;rw [if_neg Zf,if_neg Zf]
  by_cases h5:p < s
  ·rw [if_pos h5]; exact this
  ·rw [if_neg h5,if_neg Zf]; exact this
 ·rw [Y6 Zf] at hv;rw [if_neg Zf]
  by_cases hr:t - F.length < u
  ·rw [if_neg Zf,if_neg Zf,if_pos Zf,Qr Zf,show p - s=t - F.length by omega];exact hv
  ·rw [if_pos Zf,XG,show u+(p - 0)=t - F.length by omega];exact hv
theorem QF.pop (h:QF C f F){k:Nat}(hk:k<=F.length){C':List α}(hl:C'.length=C.length)(hC: ∀p,p < f\/f+k<=p->C'[p]?=C[p]?) :QF C' ((f+k)%C.length) (F.drop k):=by
 obtain ⟨h1,h2,h3⟩:=h;refine ⟨by rw [hl,List.length_drop]; omega,by rw [hl]; exact Jv _ Zf,fun t v hv=>?_⟩;rw [XG] at hv;have ht:k+t < F.length:=by
  rcases YF (k+t) F.length with h4 | h4
  ·exact h4
  ·rw [Qx h4] at hv; cases hv
 have:=h3 _ v hv;rw [hl,Nat.mod_add_mod,Q7];have hwt:=zo (N:=C.length) (s:=f+(k+t)) Zf;generalize (f+(k+t))%C.length=p at*;rw [hC p Zf];exact this
theorem QF.get (h:QF C f F){t:Nat}{v:α}(hv:F[t]?=some v) :C[(f+t)%C.length]?=some v:=h.2.2 t v hv
end
end
section
open Go.RowKit
def QX (R E k:Nat)(w:Zc)(b g size n f c:Nat)(C:List Zk) :Prop:=
 Zu w b R #[.int .i64 size,.slice (some ⟨g,0,none⟩) n n,.int .i64 f,.int .i64 c]/\Zu w g E C.toArray/\C.length=n*k/\f < n/\c<=n/\n<=size/\size<=1048576
def BN (R:Nat)(w:Zc)(b size:Nat) :Prop:=Zu w b R #[.int .i64 size,.slice none 0 0,.int .i64 0,.int .i64 0]/\1<=size/\size<=1048576
def Yv (R E k:Nat)(w:Zc)(b:Nat)(g:Option Nat)(size c:Nat)(F:List Zk) :Prop:=
 F.length=c*k/\(∀v ∈ F,v.oneCell'=true)/\
 ((g=none/\c=0/\BN R w b size)\/ ∃g' n f C,g=some g'/\QX R E k w b g' size n f c C/\QF C (f*k) F)
def QU (b:Nat)(g:Option Nat)(i:Nat) :Prop:=i=b\/some i=g
def UI (w:Zc)(g g':Option Nat) :Prop:= ∀i,g'=some i->g=some i\/w.heap.size<=i
section
variable {R E k b g size n f c:Nat} {C F:List Zk} {w w':Zc} {S:Nat->Prop} {go:Option Nat}
theorem QX.kept (h:QX R E k w b g size n f c C)(hk:Zx S w w')(hb: ¬S b)(hg: ¬S g) :QX R E k w' b g size n f c C:=
 ⟨h.1.kept hk hb,h.2.1.kept hk hg,h.2.2⟩
theorem BN.kept (h:BN R w b size)(hk:Zx S w w')(hb: ¬S b) :BN R w' b size:=⟨h.1.kept hk hb,h.2⟩
theorem Yv.kept (h:Yv R E k w b go size c F)(hk:Zx S w w')(hS: ∀i,QU b go i-> ¬S i) :Yv R E k w' b go size c F:=by
 obtain ⟨h1,h2,h3⟩:=h;refine ⟨h1,h2,?_⟩
 rcases h3 with ⟨rfl,hc,hn⟩ | ⟨g',n,f,C,rfl,hi,hw⟩
 ·exact .inl ⟨rfl,hc,hn.kept hk (hS _ (.inl rfl))⟩
 ·exact .inr ⟨g',n,f,C,rfl,hi.kept hk (hS _ (.inl rfl)) (hS _ (.inr rfl)),hw⟩
theorem Yv.drewN (h:Yv R E k w b go size c F)(m:Nat) :Yv R E k (w.drewN m) b go size c F:=h
theorem Yv.size_le (h:Yv R E k w b go size c F) :c<=size/\1<=size/\size<=1048576:=by
 obtain ⟨_,_,⟨_,rfl,_,h1,h2⟩ | ⟨g',n,f,C,rfl,⟨_,_,_,h1,h2,h3,h4⟩,_⟩⟩:=h
 ·exact ⟨by omega,h1,h2⟩
 ·exact ⟨by omega,by omega,h4⟩
theorem Yv.lt (h:Yv R E k w b go size c F) : ∀i,QU b go i->i < w.heap.size:=by
 obtain ⟨_,_,⟨rfl,_,h1,_⟩ | ⟨g',n,f,C,rfl,⟨h1,h2,_⟩,_⟩⟩:=h
 ·rintro i (rfl | h)
  ·exact h1.lt
  ·cases h
 ·rintro i (rfl | h)
  ·exact h1.lt
  ·injection h with h;subst h;exact h2.lt
theorem QX.ne (h:QX R E k w b g size n f c C)(hRE:R≠E) :b≠g:=Zu.ne_ h.1 h.2.1 hRE
theorem QX.at_ (h:QX R E k w b g size n f c C)(hw:QF C (f*k) F)(hF:F.length=c*k)(h1: ∀v ∈ F,v.oneCell'=true) :Yv R E k w b (some g) size c F:=⟨hF,h1,.inr ⟨g,n,f,C,rfl,h,hw⟩⟩
theorem QX.cells (h:QX R E k w b g size n f c C) :w.cell? ⟨b,0,none⟩=some (.int .i64 size)/\w.cell? ⟨b,1,none⟩=some (.slice (some ⟨g,0,none⟩) n n)/\w.cell? ⟨b,2,none⟩=some (.int .i64 f)/\w.cell? ⟨b,3,none⟩=some (.int .i64 c)/\
  w.frozen? ⟨b,1,none⟩=false/\w.frozen? ⟨b,2,none⟩=false/\w.frozen? ⟨b,3,none⟩=false:=
 ⟨h.1.cell 0,h.1.cell 1,h.1.cell 2,h.1.cell 3,h.1.frozen 1,h.1.frozen 2,h.1.frozen 3⟩
theorem BN.cells (h:BN R w b size) :w.cell? ⟨b,0,none⟩=some (.int .i64 size)/\w.cell? ⟨b,1,none⟩=some (.slice none 0 0)/\w.cell? ⟨b,2,none⟩=some (.int .i64 0)/\w.cell? ⟨b,3,none⟩=some (.int .i64 0)/\
  w.frozen? ⟨b,1,none⟩=false/\w.frozen? ⟨b,2,none⟩=false/\w.frozen? ⟨b,3,none⟩=false:=
 ⟨h.1.cell 0,h.1.cell 1,h.1.cell 2,h.1.cell 3,h.1.frozen 1,h.1.frozen 2,h.1.frozen 3⟩
theorem Yv.cells (h:Yv R E k w b go size c F) :w.cell? ⟨b,0,none⟩=some (.int .i64 size)/\w.cell? ⟨b,3,none⟩=some (.int .i64 c):=by
 obtain ⟨_,_,⟨rfl,rfl,h1⟩ | ⟨g',n,f,C,rfl,h1,_⟩⟩:=h
 ·exact ⟨h1.cells.1,h1.cells.2.2.2.1⟩
 ·exact ⟨h1.cells.1,h1.cells.2.2.2.1⟩
theorem TD (w:Zc)(R E k size:Nat)(h1:1<=size)(h2:size<=1048576) :Yv R E k (w.alloc (.cells #[.int .i64 size,.slice none 0 0,.int .i64 0,.int .i64 0] R)) w.heap.size none size 0 []:=
 ⟨by simp,by simp,.inl ⟨rfl,rfl,Zu.new _ _ _,h1,h2⟩⟩
theorem Mb {f u:Nat}(hB:Zu w g E C.toArray)(hw:QF C f F)(hu:f+u<=C.length)(j:Nat)(v:Zk)(hv:(F.take u)[j]?=some v) :w.cell? ((⟨g,f,none⟩ :Addr).add j)=some v:=by
 rw [add_plain,hB.cell];simpa using hw.read1 hu j v hv
theorem TE {f:Nat}(hB:Zu w g E C.toArray)(hw:QF C f F)(j:Nat)(v:Zk)(hv:(F.drop (C.length - f))[j]?=some v) :w.cell? ((⟨g,0,none⟩ :Addr).add j)=some v:=by
 rw [add_plain,hB.cell,ZV];simpa using hw.read2 j v hv
theorem iG {D F:List Zk}{u:Nat}(hF:F.length<=D.length)(hu:u<=F.length) :KV (KV D 0 (F.take u)) u (F.drop u)=F++D.drop F.length:=by
 have l1:(F.take u).length=u:=Xl;have l2:(F.drop u).length=F.length - u:=ZE;have e1:(KV D 0 (F.take u)).length=D.length:=Jr _ _ _ Zf;apply VS;intro p;rw [Bc _ _ _ Zf,Bc _ _ _ Zf,l1,l2]
 by_cases h1:p < u
 ·rw [if_pos h1,if_neg Zf,if_pos Zf,YB Zf,Qr Zf,Nat.sub_zero]
 ·rw [if_neg h1]
  by_cases h2:p < F.length
  ·rw [if_pos Zf,YB h2,XG,show u+(p - u)=p by omega]
  ·rw [if_neg Zf,if_neg Zf,if_neg Zf,Y6 Zf,XG,show F.length+(p - F.length)=p by omega]
theorem O5 {z:Array Zk}(h: ∀v ∈ z.toList,v.oneCell'=true)(hz:0 < z.size)(n:Nat) : ∀v ∈ (madeCells z n).toList,v.oneCell'=true:=by
 intro v hv;simp only [madeCells,Array.toList_map,Z6,Array.toList_range,Qo] at hv;obtain ⟨i,hi,rfl⟩:=hv;have XV:i%z.size < z.size:=Jv _ hz;rw [getElem!_pos z _ XV];exact h _ (Array.getElem_mem_toList XV)
end
theorem OD (a:Addr)(n:Nat) :(a.add n).block=a.block:=by unfold Addr.add; split <;> rfl
theorem Sb (a:Addr)(i j:Nat) :(a.add i).add j=a.add (i+j):=by
 unfold Addr.add
 by_cases hi:i=0 <;> by_cases hj:j=0 <;> simp [hi,hj,Q7]
def Src (w:Zc)(S:Nat->Prop)(a:Option Addr)(len k:Nat)(cs:List Zk) :Prop:=
 cs.length=len*k/\(∀v ∈ cs,v.oneCell'=true)/\(0 < len-> ∃ad:Addr,a=some ad/\ ¬S ad.block/\ ∀j v,cs[j]?=some v->w.cell? (ad.add j)=some v)
theorem Src.nil (w:Zc)(S:Nat->Prop)(a:Option Addr)(k:Nat) :Src w S a 0 k []:=⟨by simp,by simp,fun h=>by omega⟩
theorem Src.kept {w w':Zc}{S T:Nat->Prop}{a:Option Addr}{len k:Nat}{cs:List Zk}(h:Src w S a len k cs)(hk:Zx T w w')(hT: ∀i,i < w.heap.size->T i->S i) :Src w' S a len k cs:=by
 obtain ⟨h1,h2,h3⟩:=h;refine ⟨h1,h2,fun hl=>?_⟩;obtain ⟨ad,e,hn,hc⟩:=h3 hl;refine ⟨ad,e,hn,fun j v hv=>hk.cell (fun ht=>?_) (hc j v hv)⟩;have hl:=Ga (hc j v hv);rw [OD] at ht hl;exact hn (hT _ hl ht)
theorem Mf {L:List Zk}{u j:Nat}{v:Zk}(h:(L.take u)[j]?=some v) :L[j]?=some v:=by
 rcases YF j u with h1 | h1
 ·rwa [Qr h1] at h
 ·rw [Qx Xl] at h; cases h
theorem gW {C F cs:List Zk}{f c n m s u k:Nat}(hw:QF C (f*k) F)(hF:F.length=c*k)(hC:C.length=n*k)(EY:cs.length=m*k)(uZ:c+m<=n)(hs:s=(f+c)%n)(hu:u=min m (n - s)) :
  QF (KV (KV C (s*k) (cs.take (u*k))) 0 (cs.drop (u*k))) (f*k) (F++cs):=by
 refine hw.push ?_ ?_ ?_
 ·rw [hF,EY,hC,<-Ua]; exact XQ k uZ
 ·rw [hF,hC,<-Ua,Nat.mul_mod_mul_right,hs]
 ·rw [EY,hC,hu,<-Nat.sub_mul]
  rcases Nat.le_total m (n - s) with h | h
  ·rw [U4 h,U4 (XQ k h)]
  ·rw [Nat.min_eq_right h,Nat.min_eq_right (XQ k h)]
theorem AN {C F C':List Zk}{f n k:Nat}(hw:QF C (f*k) F)(hk:k<=F.length)(hC:C.length=n*k)(hl:C'.length=C.length)(h: ∀p,p < f*k\/f*k+k<=p->C'[p]?=C[p]?) :QF C' ((f+1)%n*k) (F.drop k):=by
 have:=hw.pop hk hl h;rwa [hC,show f*k+k=(f+1)*k by rw [Ua,Nat.one_mul],Nat.mul_mod_mul_right] at this
theorem Jc {P:YL}(t e:ZJ)(i:Ve)(z:Zk)(ht:P.underlying t=some (.slice e))(hi:P.info? e=some i)(hz:i.zero=some z)
  (kl kc:IntKind) (n c:Nat) (hnc:n<=c) (Bw:i.bytes*c<=281474976710656) (mx:c<=9223372036854775807) (w:Zc) :
  (Instr.makeSlice t (.int kl (n:Int)) (.int kc (c:Int))).run P w= .ok (.slice (some ⟨w.heap.size,0,none⟩) n c) (w.alloc (.cells (madeCells z.cells (c*i.size)) e)):=by
 have hb:(i.bytes:Int)*(c:Int)<=281474976710656:=by
  have h:((i.bytes*c:Nat) :Int)<=281474976710656:=Zf;rwa [Int.natCast_mul] at h
 have hr:=run_make (P:=P) w t e i z ht hi hz kl kc n c Zf Zf hb Zf;simp only [Int.toNat_natCast] at hr;exact hr
end
section
open Go Go.RowKit
section
variable {P:YL} (w:Zc)
theorem MR (base:Nat)(t ty e:ZJ)(i:Ve)(size:Nat)(ht:P.underlying t=some (.slice e))(hi:P.info? e=some i)
  (v:Zk) (n:Nat) (xs:List Zk) (MI:w.ownsRow base e size v n xs) (c:Nat) :(UW #[t,t] ty #[v,.slice none 0 c]).run P w= .ok v w:=by
 rcases MI.2 with ⟨rfl,rfl⟩ | ⟨g,cap,cur,rfl,_,_,hnc,_⟩
 ·simp [UW,Xa ht,sizeOf,VK,hi,Builtin.lenOf,Vt]
 ·simp [UW,Xa ht,sizeOf,VK,hi,Builtin.lenOf,Vt,hnc,storeCells]
theorem TK (base:Nat)(t ty e:ZJ)(i:Ve)(z:Zk)(size bytes:Nat)(ht:P.underlying t=some (.slice e))(hi:P.info? e=some i)(hz:i.zero=some z)
  (Lc:i.size=size) (MG:i.bytes=bytes) (rp:z.cells.size=size) (Bx:0 < size)
  (v:Zk) (n:Nat) (xs:List Zk) (MI:w.ownsRow base e size v n xs)
  (A:Option Addr) (m c:Nat) (news:List Zk) (hl:news.length=m*size) (hr:0 < m-> ∃ad,A=some ad/\ ∀j u,news[j]?=some u->w.cell? (ad.add j)=some u) (h1: ∀u ∈ news,u.oneCell'=true)
  (mx:n+m<=maxLen) (Bw:(n+m)*bytes<=140737488355328) (SO:base<=w.heap.size) :
  ∃v' w',(UW #[t,t] ty #[v,.slice A m c]).run P w= .ok v' w'/\w'.ownsRow base e size v' (n+m) (xs++news)/\w.grownBy w' v.ownBlock/\
   (v'.ownBlock=v.ownBlock\/v'.ownBlock=some w.heap.size):=by
 rcases A with _ | ad
 ·have hm:m=0:=by
   rcases QK m with h0 | h0
   ·exact h0
   ·obtain ⟨ad,h,_⟩:=hr h0
    cases h
  subst hm;have hn:news=[]:=ZR IZ;subst hn;exact ⟨v,w,MR w base t ty e i size ht hi v n xs MI c,by simpa using MI,World.grownBy.refl w _,.inl rfl⟩
 ·have hcells: ∀j u,news[j]?=some u->w.cell? (ad.add j)=some u:=by
   intro j u hu
   rcases QK m with h0 | h0
   ·subst h0;have hn:news=[]:=ZR IZ;subst hn;simp at hu
   ·obtain ⟨ad',h,hc⟩:=hr h0;injection h with h;subst h;exact hc j u hu
  obtain ⟨v',w',GH,h2,h3,_,h5⟩:=run_append_own_at (P:=P) w base t ty e i z size bytes ht hi hz Lc MG rp Bx v n xs MI ad m c news hl hcells h1 mx Bw SO;exact ⟨v',w',GH,h2,h3,h5⟩
theorem Eo {o:Oper}{a:Act}{K:Act->Zc->Prop}{Q:Exit->Act->Zc->Prop}(s x:YN)(t:ZJ)
  (ho:o.op= .call { callee:= .builtin .append,args:= #[s,x],argTypes:= #[t,t]})
  (base:Nat) (e:ZJ) (i:Ve) (z:Zk) (size bytes:Nat) (ht:P.underlying t=some (.slice e)) (hi:P.info? e=some i) (hz:i.zero=some z)
  (Lc:i.size=size) (MG:i.bytes=bytes) (rp:z.cells.size=size) (Bx:0 < size)
  (v:Zk) (n:Nat) (xs:List Zk) (hs:a.eval s=v) (MI:w.ownsRow base e size v n xs)
  (A:Option Addr) (m c:Nat) (news:List Zk) (hx:a.eval x= .slice A m c) (hl:news.length=m*size) (hr:0 < m-> ∃ad,A=some ad/\ ∀j u,news[j]?=some u->w.cell? (ad.add j)=some u) (h1: ∀u ∈ news,u.oneCell'=true)
  (mx:n+m<=maxLen) (Bw:(n+m)*bytes<=140737488355328) (SO:base<=w.heap.size)
  (h: ∀v' w',w'.ownsRow base e size v' (n+m) (xs++news)->w.grownBy w' v.ownBlock->(v'.ownBlock=v.ownBlock\/v'.ownBlock=some w.heap.size)->K (a.put o.dst v') w') :o.wp P a w K Q:=by
 obtain ⟨v',w',GH,h2,h3,h4⟩:=TK (P:=P) w base t o.type e i z size bytes ht hi hz Lc MG rp Bx v n xs MI A m c news hl hr h1 mx Bw SO;unfold Jp XL;simp only [ho,resolve,invoke,builtin,Yr,YU,ZW,List.map_toArray,List.map_cons,List.map_nil,hs,hx,GH];exact h v' w' h2 h3 h4
theorem XU {ops:Array Oper}{rest:List Oper}{o:Oper}{a:Act}{Q:Exit->Act->Zc->Prop}(BJ:o.guard=none)(s x:YN)(t:ZJ)
  (ho:o.op= .call { callee:= .builtin .append,args:= #[s,x],argTypes:= #[t,t]})
  (base:Nat) (e:ZJ) (i:Ve) (z:Zk) (size bytes:Nat) (ht:P.underlying t=some (.slice e)) (hi:P.info? e=some i) (hz:i.zero=some z)
  (Lc:i.size=size) (MG:i.bytes=bytes) (rp:z.cells.size=size) (Bx:0 < size)
  (v:Zk) (n:Nat) (xs:List Zk) (hs:a.eval s=v) (MI:w.ownsRow base e size v n xs)
  (A:Option Addr) (m c:Nat) (news:List Zk) (hx:a.eval x= .slice A m c) (hl:news.length=m*size) (hr:0 < m-> ∃ad,A=some ad/\ ∀j u,news[j]?=some u->w.cell? (ad.add j)=some u) (h1: ∀u ∈ news,u.oneCell'=true)
  (mx:n+m<=maxLen) (Bw:(n+m)*bytes<=140737488355328) (SO:base<=w.heap.size)
  (h: ∀v' w',w'.ownsRow base e size v' (n+m) (xs++news)->w.grownBy w' v.ownBlock->(v'.ownBlock=v.ownBlock\/v'.ownBlock=some w.heap.size)->YQ P ops Q rest (a.put o.dst v') w') :YQ P ops Q (o::rest) a w:=
 Jf BJ fun _ hK=>Eo w s x t ho base e i z size bytes ht hi hz Lc MG rp Bx v n xs hs MI A m c news hx hl hr h1 mx Bw SO fun v' w' h2 h3 h4=>hK _ _ (h v' w' h2 h3 h4)
end
theorem gG {w:Zc}{base p:Nat}{e:ZJ}{size:Nat}(h:Zu w p e #[])(hb:base<=p) :w.ownsRow base e size (.slice (some ⟨p,0,none⟩) 0 0) 0 []:=
 ⟨by simp,.inr ⟨p,0,#[],rfl,hb,h,by omega,by unfold maxLen; omega,by simp,by simp⟩⟩
end
section
open Go Go.RowKit Go.Maps
open Go.ChangeMaps (setBlock heap_setBlock_same heap_setBlock_other)
def Qd (w:Zc)(m:Nat)(c:Int->Int) :Prop:=
 ∃es clock,w.heap[m]?=some (.map es clock)/\(∀e ∈ es.toList,∃q:Int,(YJ .i64 q).wf=true/\e.key= .int .i64 q/\e.val= .int .i64 (c q))/\(es.toList.map (·.key)).Nodup/\ ∀q,c q≠0-> ∃e ∈ es.toList,e.key= .int .i64 q
def Oa (c:Int->Int)(q v:Int) :Int->Int:=fun x=>if x=q then v else c x
section
variable {P:YL} {w w':Zc} {m B:Nat} {c:Int->Int} {t k e:ZJ}
theorem Qd.lt (h:Qd w m c) :m < w.heap.size:=Zbh
theorem Qd.same (h:Qd w m c)(hb:w'.heap[m]?=w.heap[m]?) :Qd w' m c:=by
 obtain ⟨es,clock,h1,h2⟩:=h;exact ⟨es,clock,hb.trans h1,h2⟩
theorem Qd.drewN (h:Qd w m c)(n:Nat) :Qd (w.drewN n) m c:=h
theorem Qd.drew (h:Qd w m c) :Qd w.drew m c:=h
theorem Qd.alloc (h:Qd w m c)(o:Obj) :Qd (w.alloc o) m c:=h.same (Kg w o m h.lt)
theorem Qd.grown {row:Option Nat}(h:Qd w m c)(hg:w.grownBy w' row)(Ka:some m≠row) :Qd w' m c:=h.same (hg.block m h.lt Ka)
theorem Qd.setCell (h:Qd w m c){p:Addr}(hp:m≠p.block)(u:Zk) :Qd (w.setCell p u) m c:=h.same (Xg w p u m hp)
theorem Qd.congr {c':Int->Int}(h:Qd w m c)(hc: ∀q,c q=c' q) :Qd w m c':=by
 obtain rfl:c=c':=funext hc;exact h
theorem Sz (w:Zc) :Qd (w.alloc (.map #[] 0)) w.heap.size (fun _=>0):=⟨#[],0,(MapKept.heap_alloc w _).1,by simp,by simp,fun q h=>absurd rfl h⟩
theorem Qd.keys {es:Array MapEntry}(hk:P.underlying k=some (.int .i64))(h: ∀e ∈ es.toList,∃q:Int,(YJ .i64 q).wf=true/\e.key= .int .i64 q/\e.val= .int .i64 (c q)) : ∀x ∈ es.toList,∃l,keyOf P k x.key=some l:=fun x hx=>by
 obtain ⟨q,hq,h1,_⟩:=h x hx;exact ⟨_,by rw [h1]; exact keyOf_int_mk hk hq⟩
theorem Qd.lookup (h:Qd w m c)(hk:P.underlying k=some (.int .i64))(ht:P.underlying t=some (.map k e))(hz:(JZ e).run P w= .ok (.int .i64 0) w){q:Int}(hq:(YJ .i64 q).wf=true) :
  (JN t (.map (some m)) (.int .i64 q) false).run P w= .ok (.int .i64 (c q)) w:=by
 obtain ⟨es,clock,hb,h1,h2,h3⟩:=h;have K:=int_keyed hk;have EG:=keyOf_int_mk hk hq
 rcases K.find w EG es.toList (Qd.keys hk h1) with ⟨f1,f2⟩ | ⟨j,e0,f1,f2,f3⟩
 ·have hc:c q=0:=by
   rcases Decidable.em (c q=0) with h0 | h0
   ·exact h0
   ·obtain ⟨x,hx,mJ⟩:=h3 q h0;exact absurd mJ (f2 x hx)
  rw [hc];simp [JN,Xa ht,Qg hb,K.check w _ EG,f1,hz,YZ]
 ·obtain ⟨q',_,e1,e2⟩:=h1 e0 (Zy f2);rw [f3] at e1;injection e1 with _ e1;subst e1;simp [JN,Xa ht,Qg hb,K.check w _ EG,f1,e2,YZ]
theorem Qd.update (h:Qd w m c)(hk:P.underlying k=some (.int .i64))(ht:P.underlying t=some (.map k e)){q v:Int}(hq:(YJ .i64 q).wf=true) :
  ∃w',(UZ t (.map (some m)) (.int .i64 q) (.int .i64 v)).run P w= .ok () w'/\Qd w' m (Oa c q v)/\w.grownBy w' (some m):=by
 obtain ⟨es,clock,hb,h1,h2,h3⟩:=h;have K:=int_keyed hk;have EG:=keyOf_int_mk hk hq;have hg: ∀es' Sy,w.grownBy (setBlock w m (.map es' Sy)) (some m):=fun es' Sy=>⟨rfl,rfl,rfl,by simp [setBlock],fun i _ hi=>heap_setBlock_other hb _ (fun e=>hi Er)⟩
 rcases K.find w EG es.toList (Qd.keys hk h1) with ⟨f1,f2⟩ | ⟨j,e0,f1,f2,f3⟩
 ·refine ⟨setBlock w m (.map (es.push ⟨.int .i64 q,.int .i64 v,clock⟩) (clock+1)),?_,⟨_,_,heap_setBlock_same hb _,fun x hx=>?_,?_,fun q' ei=>?_⟩,hg _ _⟩
  ·simp [UZ,Xa ht,Qg hb,K.check w false EG,f1,Vu _ hb,YZ,setBlock]
  ·simp only [VQ,List.mem_append,Yk] at hx
   rcases hx with hx | rfl
   ·obtain ⟨q',w1,e1,e2⟩:=h1 x hx;have Ka:q'≠q:=by rintro rfl; exact f2 x hx e1
    exact ⟨q',w1,e1,by simp [Oa,Ka,e2]⟩
   ·exact ⟨q,hq,rfl,by simp [Oa]⟩
  ·rw [VQ,List.map_append,List.map_singleton];refine List.nodup_append.2 ⟨h2,by simp,fun a ha b hb'=>?_⟩;obtain ⟨x,hx,rfl⟩:=Z6.1 ha;obtain rfl:=Yk.1 hb';exact f2 x hx
  ·by_cases hqq:q'=q
   ·subst hqq;exact ⟨_,by rw [VQ]; exact List.mem_append_right _ (Yk.2 rfl),rfl⟩
   ·obtain ⟨x,hx,mJ⟩:=h3 q' (by simpa [Oa,hqq] using ei);exact ⟨x,by rw [VQ]; exact List.mem_append_left _ hx,mJ⟩
 ·have hj:es[j]?=some e0:=by simpa using f2
  have EE:j < es.toList.length:=(Zj.1 f2).1;have Zao:(es.modify j (fun e'=> { e' with key:= .int .i64 q,val:= .int .i64 v})).toList=es.toList.set j { e0 with key:= .int .i64 q,val:= .int .i64 v}:=by rw [Array.toList_modify,Go.ChangeMaps.modify_eq_set _ _ _ _ f2]
  have Zan:((es.modify j (fun e'=> { e' with key:= .int .i64 q,val:= .int .i64 v})).toList.map (·.key))=es.toList.map (·.key):=by
   rw [Zao,List.map_set];refine VS fun i=>?_
   rw [List.getElem?_set]
   split
   ·rename_i hi
    subst hi;have hjs:j < es.size:=by simpa using EE
    have hj2:es.toList[j]'EE=e0:=by simpa [Zg EE] using f2
    simp [hjs];simp at hj2;rw [hj2,f3]
   ·rfl
  refine ⟨setBlock w m (.map (es.modify j (fun e'=> { e' with key:= .int .i64 q,val:= .int .i64 v})) clock),?_,⟨_,_,heap_setBlock_same hb _,fun x hx=>?_,by rw [Zan]; exact h2,fun q' ei=>?_⟩,hg _ _⟩
  ·simp [UZ,Xa ht,Qg hb,K.check w false EG,f1,hj,f3,K.stays w EG,Vu _ hb,YZ,setBlock]
  ·rw [Zao] at hx;obtain ⟨i,hi,ex⟩:=List.getElem_of_mem hx;rw [List.getElem_set] at ex
   split at ex
   ·subst ex;exact ⟨q,hq,rfl,by simp [Oa]⟩
   ·rename_i Ka
    have Mu:i < es.toList.length:=by simpa using hi
    obtain ⟨q',w1,e1,e2⟩:=h1 x (ex▸List.getElem_mem Mu);have hne':q'≠q:=by
     rintro rfl;have hn:=List.pairwise_iff_getElem.1 h2;have a1:(es.toList.map (·.key))[i]?=some (.int .i64 q'):=by rw [ZH,Zg Mu,ex]; simp [e1]
     have a2:(es.toList.map (·.key))[j]?=some (.int .i64 q'):=by rw [ZH,f2]; simp [f3]
     obtain ⟨l1,e3⟩:=Zj.1 a1;obtain ⟨l2,e4⟩:=Zj.1 a2
     rcases Nat.lt_or_gt_of_ne Ka with XV | XV
     ·exact hn j i l2 l1 XV (e4.trans e3.symm)
     ·exact hn i j l1 l2 XV (e3.trans e4.symm)
    exact ⟨q',w1,e1,by simp [Oa,hne',e2]⟩
  ·have fG:(.int .i64 q':Zk) ∈ es.toList.map (·.key):=by
    by_cases hqq:q'=q
    ·subst hqq;exact Z6.2 ⟨e0,Zy f2,f3⟩
    ·obtain ⟨x,hx,mJ⟩:=h3 q' (by simpa [Oa,hqq] using ei);exact Z6.2 ⟨x,hx,mJ⟩
   rw [<-Zan] at fG;obtain ⟨x,hx,mJ⟩:=Z6.1 fG;exact ⟨x,hx,mJ⟩
theorem Qd.delete (h:Qd w m c)(hk:P.underlying k=some (.int .i64))(ht:P.underlying t=some (.map k e)){q:Int}(hq:(YJ .i64 q).wf=true)(h0:c q=0)(ty:ZJ) :
  ∃w',(Builtin.delete_ #[t,k] ty #[.map (some m),.int .i64 q]).run P w= .ok (.tuple #[]) w'/\Qd w' m c/\w.grownBy w' (some m):=by
 obtain ⟨es,clock,hb,h1,h2,h3⟩:=h;have K:=int_keyed hk;have EG:=keyOf_int_mk hk hq;have hg: ∀es' Sy,w.grownBy (setBlock w m (.map es' Sy)) (some m):=fun es' Sy=>⟨rfl,rfl,rfl,by simp [setBlock],fun i _ hi=>heap_setBlock_other hb _ (fun e=>hi Er)⟩
 rcases K.find w EG es.toList (Qd.keys hk h1) with ⟨f1,f2⟩ | ⟨j,e0,f1,f2,f3⟩
 ·refine ⟨setBlock w m (.map es clock),?_,⟨_,_,heap_setBlock_same hb _,h1,h2,h3⟩,hg _ _⟩;exact Zic
 ·have EE:j < es.toList.length:=(Zj.1 f2).1;have hjs:j < es.size:=by simpa using EE
  have mI:(es.eraseIdxIfInBounds j).toList=es.toList.eraseIdx j:=by
   unfold Array.eraseIdxIfInBounds;rw [dif_pos hjs];simp
  refine ⟨setBlock w m (.map (es.eraseIdxIfInBounds j) clock),?_,⟨_,_,heap_setBlock_same hb _,fun x hx=>?_,?_,fun q' ei=>?_⟩,hg _ _⟩
  ·exact Zic
  ·rw [mI] at hx;exact h1 x ((List.eraseIdx_sublist _ _).subset hx)
  ·rw [mI];exact h2.sublist ((List.eraseIdx_sublist _ _).map _)
  ·obtain ⟨x,hx,mJ⟩:=h3 q' ei;refine ⟨x,?_,mJ⟩;rw [mI];obtain ⟨i,hi⟩:=List.mem_iff_getElem?.1 hx;refine List.mem_eraseIdx_iff_getElem?.2 ⟨i,?_,hi⟩;rintro rfl;rw [f2] at hi;injection hi with hi;rw [<-hi,f3] at mJ;injection mJ with _ mJ;subst mJ;exact ei h0
end
section
variable {P:YL} {ops:Array Oper} {rest:List Oper} {o:Oper} {a:Act} {w:Zc} {Q:Exit->Act->Zc->Prop} {b:Nat} {c:Int->Int} {t k e:ZJ}
theorem FG (BJ:o.guard=none)(m x v:YN)(ho:o.op= .mapUpdate t m x v)(h:Qd w b c)(hk:P.underlying k=some (.int .i64))(ht:P.underlying t=some (.map k e))(q n:Int)(hm:a.eval m= .map (some b))(hx:a.eval x= .int .i64 q)(hv:a.eval v= .int .i64 n)(hq:(YJ .i64 q).wf=true)
  (hK: ∀w',Qd w' b (Oa c q n)->w.grownBy w' (some b)->YQ P ops Q rest (a.put o.dst undef) w') :YQ P ops Q (o::rest) a w:=by
 refine Jf BJ fun K' hK'=>?_
 obtain ⟨w',GH,r1,r2⟩:=h.update hk ht hq (v:=n);unfold Jp;simp [XL,ho,hm,hx,hv,GH,YZ];exact hK' _ _ (hK w' r1 r2)
theorem Wg (BJ:o.guard=none)(m x:YN)(ho:o.op= .call { callee:= .builtin .delete,args:= #[m,x],argTypes:= #[t,k]})(h:Qd w b c)(hk:P.underlying k=some (.int .i64))(ht:P.underlying t=some (.map k e))(q:Int)(hm:a.eval m= .map (some b))(hx:a.eval x= .int .i64 q)(hq:(YJ .i64 q).wf=true)(h0:c q=0)
  (hK: ∀w',Qd w' b c->w.grownBy w' (some b)->YQ P ops Q rest (a.put o.dst (.tuple #[])) w') :YQ P ops Q (o::rest) a w:=by
 refine Jf BJ fun K' hK'=>?_
 obtain ⟨w',GH,r1,r2⟩:=h.delete hk ht hq h0 o.type;unfold Jp;simp [XL,ho,resolve,invoke,builtin,hm,hx,GH,YZ];exact hK' _ _ (hK w' r1 r2)
theorem j8 {C:Zc->Prop}{Qa:Act->Prop}(m x:YN)(hw:XJ o (VD ops a.tmps)=true)(ho:o.op= .lookup t m x false)(hC: ∀w,C w->Qd w b c)(hk:P.underlying k=some (.int .i64))(ht:P.underlying t=some (.map k e))(hz: ∀w,(JZ e).run P w= .ok (.int .i64 0) w)(q:Int)(hm:a.eval m= .map (some b))(hx:a.eval x= .int .i64 q)(hq:(YJ .i64 q).wf=true)
  (h:ZZ P ops C Qa rest (a.put o.dst (.int .i64 (c q)))) :ZZ P ops C Qa (o::rest) a:=by
 unfold ZZ;rw [if_pos hw];refine ⟨_,fun w hc=>?_,h⟩;have GH:=(hC w hc).lookup hk ht (hz w) hq;unfold Vv XL;simp only [ho,hm,hx,Yr,GH,ZW,YU];exact DF
end
end
section
open Go Go.RowKit
abbrev Z3 (f:UK)(args:Array Zk)(w:Zc)(v:Zk) :Prop:=Zv Zb f args w fun e w'=>e= .returned v/\Zp w.heap.size w w'
abbrev YV (f:UK)(args:Array Zk)(w:Zc)(v:Zk) :Prop:=Zv Zb f args w fun e w'=>e= .returned v/\w=w'
abbrev Xb (f:UK)(args:Array Zk)(w:Zc)(v:Zk) :Prop:=Zv Zb f args w fun e w'=>e= .returned v/\ ∃m,w'=w.drewN m
theorem QS {w:Zc}{g:Nat}{t:ZJ}{cs:Array Zk}(h:Zu w g t cs)(i:Nat){v:Zk}{r:List Zk}(e:cs.toList.drop i=v::r:=by exact rfl) :w.cell? ⟨g,i,none⟩=some v:=by
 have h2:=congrArg (fun l:List Zk=>l[0]?) e;simp only [XG,Nat.add_zero,Array.getElem?_toList,List.getElem?_cons_zero] at h2;exact (h.cell i).trans h2
theorem ZT {α:Sort _}(a:α) : ∃x,a=x:=⟨_,rfl⟩
end
section
open Go.RowKit
def XW (z:List Int) :Nat->Int
 | 0=>0
 | k+1=>XW z k+z.getD k 0
def VU (z:List Int)(n:Nat) :Bool:=decide (XW z n<=18446744073709551615)
def BO (z:List Int)(n:Nat) :Int:=if XW z n<=18446744073709551615 then XW z n else 0
theorem Nk {z:List Int}{n:Nat}(h:XW z n<=18446744073709551615) :VU z n=true/\BO z n=XW z n:=⟨decide_eq_true h,if_pos h⟩
theorem RH {z:List Int}{n:Nat}(h: ¬XW z n<=18446744073709551615) :VU z n=false/\BO z n=0:=⟨decide_eq_false h,if_neg h⟩
theorem BY {z:List Int}(hz: ∀i,0<=z.getD i 0) : ∀n,0<=XW z n
 | 0=>Int.le_refl _
 | k+1=>by have:=BY hz k; have:=hz k; simp only [XW]; omega
theorem TS {z:List Int}(hz: ∀i,0<=z.getD i 0)(a:Nat) : ∀d,XW z a<=XW z (a+d)
 | 0=>Int.le_refl _
 | d+1=>by have:=TS hz a d; have:=hz (a+d); rw [<-Q7]; simp only [XW]; omega
theorem lu (x y:Int)(h0:0<=x)(h1:x<=18446744073709551615)(h2:0<=y)(h3:y<=18446744073709551615)(w:Zc) :
  (callFunc 144 #[.int .u64 x,.int .u64 y,.int .u64 0]).run Zb w=
   .ok (.value (.tuple #[.int .u64 ((x+y)%18446744073709551616),.int .u64 ((x+y)/18446744073709551616)])) w:=by
 rw [run_callFunc_extern func144 ZC ZC ZC (e:=add64Entry) ZC,run_add64 x y 0 Zf Zf Zf Zf];simp only [YZ,Int.add_zero]
theorem o8 (a:Option Addr)(cap:Nat)(w:Zc) :
  YV 101 #[.slice a 0 cap] w (.tuple #[.int .u64 0,.bool true]):=by
 go_enter func101,ntmps101;go_wp2;go_loop [4,11] (fun s4 s11=>s4= .int .u64 0/\s11= .int .i64 0) (fun _ _=>0)
 case atStart=>exact DF
 case round=>
  obtain ⟨rfl,rfl⟩:=hrel;exact dU
theorem DP (b off len cap:Nat)(z:List Int)(w:Zc)(hlen:len<=9223372036854775807)
  (hc: ∀i,i < len->w.cell? ⟨b,off+i,none⟩=some (.int .u64 (z.getD i 0))) (hz: ∀i,0<=z.getD i 0/\z.getD i 0<=18446744073709551615) :
  YV 101 #[.slice (some ⟨b,off,none⟩) len cap] w (.tuple #[.int .u64 (BO z len),.bool (VU z len)]):=by
 have hn:=BY (fun i=>(hz i).1);have HC:=Za hc;have HZ:=Za hz;have HN:=Za hn;clear hc hz hn;go_enter func101,ntmps101;go_wp2;go_loop [4,11] (fun s4 s11=> ∃(k:Nat) (t:Int),k<=len/\s11= .int .i64 k/\s4= .int .u64 t/\Zl (t=XW z k/\t<=18446744073709551615)) (fun _ s11=>len -(intOf s11).toNat)
 case atStart=>exact ⟨0,0,by omega,rfl,rfl,Za ⟨rfl,by omega⟩⟩
 case round=>
  obtain ⟨k,t,hk,rfl,rfl,HT⟩:=hrel;have t0:0<=t:=by rw [HT.o.1]; exact HN.o k
  have t1:=HT.o.2
  by_cases XV:k < len
  ·have UJ:=HC.o k XV;obtain ⟨y0,y1⟩:=HZ.o k;have hs:XW z (k+1)=t+z.getD k 0:=by rw [HT.o.1]; rfl
   generalize z.getD k 0=y at*;have HS:=Za hs;have hl:=fun w=>lu t y t0 t1 y0 y1 w
   by_cases MJ:t+y<=18446744073709551615
   ·have e1:(t+y)%18446744073709551616=t+y:=Zf;have e2:(t+y)/18446744073709551616=0:=Zf;rw [e1,e2] at hl;clear e1 e2 hs;go_wp2;go_round
    case rel=>exact ⟨k+1,t+y,by omega,by go_num,rfl,Za ⟨HS.o.symm,MJ⟩⟩
    case measure=>exact VL
   ·have e2:(t+y)/18446744073709551616=1:=Zf;have Zgj: ¬XW z len<=18446744073709551615:=by
     have:=TS (fun i=>(HZ.o i).1) (k+1) (len -(k+1));rw [show k+1+(len -(k+1))=len by omega,HS.o] at this;omega
    have HB:=Za (RH Zgj);rw [e2] at hl;clear e2 hs Zgj;go_wp2;go_ret2;exact ⟨by rw [HB.o.1,HB.o.2]; rfl,rfl⟩
  ·obtain rfl:k=len:=Zf;have HB:=Za (Nk (z:=z) (n:=k) (by rw [<-HT.o.1]; exact t1));have HE:=Za HT.o.1;clear XV;have XV: ¬k < k:=Zf;go_wp2;go_ret2;exact ⟨by rw [HB.o.1,HB.o.2,<-HE.o]; rfl,rfl⟩
end
section
open Go.RowKit
section
variable {P:YL} (w:Zc)
theorem UD {t:ZJ}{k:IntKind}(h:P.underlying t=some (.int k)) :P.plainKey t=true:=by simp [Program.plainKey,h]
end
end
section
open Go.RowKit
def DN (w:Zc)(b:Nat)(n L:Int) :Prop:=Zu w b 184 #[.int .i64 n,.int .i64 L]
theorem Hr {w:Zc}{b:Nat}{n L:Int}(h:DN w b n L) :
  w.cell? ⟨b,0,none⟩=some (.int .i64 n)/\w.cell? ⟨b,1,none⟩=some (.int .i64 L)/\w.frozen? ⟨b,0,none⟩=false:=
 ⟨Zu.cell h 0,Zu.cell h 1,Zu.frozen h 0⟩
theorem Ht (b:Nat)(n:Int)(w:Zc)(h:w.cell? ⟨b,0,none⟩=some (.int .i64 n)) :
  YV 140 #[.pointer (some ⟨b,0,none⟩)] w (.int .i64 n):=by
 go_enter func140,ntmps140;exact Uu
theorem aw (b:Nat)(n:Int)(w:Zc)(h0:0<=n)(h1:n<=9223372036854775806)(h:w.cell? ⟨b,0,none⟩=some (.int .i64 n))(hf:w.frozen? ⟨b,0,none⟩=false) :
  Zv Zb 232 #[.pointer (some ⟨b,0,none⟩)] w fun e w'=>e= .returned (.tuple #[])/\(w.setCell ⟨b,0,none⟩ (.int .i64 (n+1)))=w':=by
 go_enter func232,ntmps232;go_wp2;go_end0;exact DF
def Nx (n L:Int) :Int:=if n < 0\/L < 1 then 0 else n/L
theorem PG {n L:Int}(h0:0<=n)(h1:1<=L) :Nx n L=n/L:=if_neg Zf
theorem ba (n L:Int)(w:Zc)(hn:n<=9223372036854775807) :
  YV 141 #[.int .i64 n,.int .i64 L] w (.int .i64 (Nx n L)):=by
 by_cases h0:n < 0
 ·have hd:decide (n < 0)=true:=by simpa using h0
  have H:=Za (show Nx n L=0 from if_pos (.inl h0));exact tT
 ·have hd:decide (n < 0)=false:=by simpa using h0
  by_cases h1:L < 1
  ·have xi:decide (L < 1)=true:=QQ;have H:=Za (show Nx n L=0 from if_pos (.inr h1));exact tT
  ·have xi:decide (L < 1)=false:=QQ;have hz:(L==0)=false:=Xl;have H:=Za (PG (n:=n) (L:=L) Zf Zf);have q0:0<=n/L:=Int.ediv_nonneg Zf Zf;have q1:n/L<=n:=Int.ediv_le_self _ Zf;have h2:0<=n:=Zf;have h3:1<=L:=Zf;clear h0 h1;exact tT
theorem cx (n:Int)(w:Zc)(h0:0<=n)(h1:n<=1099511627776) :
  YV 256 #[.int .i64 n] w (.bool true):=tZ
theorem gi (n:Int)(w:Zc)(h:n < 0\/1099511627776 < n) :
  YV 256 #[.int .i64 n] w (.bool false):=by
 rcases h with h | h
 ·have hd:decide (0<=n)=false:=KB;exact tZ
 ·have hd:decide (0<=n)=true:=Xl;have hd:decide (n<=1099511627776)=false:=KB;exact tZ
end
section
open Go.RowKit
def rI (k:Nat) :IntKind:=if k < 2\/(10<=k/\k < 18) then .i64 else .u64
def Zi (c:Nat->Int) :Array Zk:= #[.int .i64 (c 0),.int .i64 (c 1),.int .u64 (c 2),.int .u64 (c 3),.int .u64 (c 4),.int .u64 (c 5),.int .u64 (c 6),.int .u64 (c 7),.int .u64 (c 8),.int .u64 (c 9),.int .i64 (c 10),.int .i64 (c 11),.int .i64 (c 12),.int .i64 (c 13),.int .i64 (c 14),.int .i64 (c 15),.int .i64 (c 16),.int .i64 (c 17),.int .u64 (c 18),.int .u64 (c 19)]
def Ci (c:Nat->Int) :Prop:= ∀k,k < 20->(YJ (rI k) (c k)).wf=true
def Ia:Int:=1152921504606846976
def Mr (v lo hi:Int) :Bool:=decide (lo<=v/\v<=hi)
def Yl (c:Nat->Int) :Nat->Bool
 | 0=>Mr (c 0) 1 4096
 | 1=>Mr (c 1) 1 4096
 | 2=>decide (1<=c 2)
 | 3=>decide (c 2<=c 3)
 | 4=>Mr (c 4) (c 3) Ia
 | 5=>Mr (c 5) 1 (c 2)
 | 6=>Mr (c 6) (c 3) (c 4)
 | 7=>Mr (c 7) 1 Ia
 | 8=>decide (1<=c 8)
 | 9=>decide (c 9<=Ia)
 | 10=>Mr (c 10) 1 1048576
 | 11=>decide (c 10 < c 11/\c 11<=1048576)
 | 12=>Mr (c 12) 1 4096
 | 13=>Mr (c 13) 1 4096
 | 14=>Mr (c 14) 1 4096
 | 15=>Mr (c 15) 1 4096
 | 16=>decide (0<=c 16/\c 16 < c 14/\c 16 < c 15)
 | 17=>Mr (c 17) 0 4096
 | 18=>decide (c 18<=c 19)
 | 19=>Mr (c 19) 1 4294967296
 | _=>true
def GZ (c:Nat->Int) :Nat->Nat->Int
 | 0,_=>0
 | n+1,k=>if Yl c k=true then GZ c n (k+1) else(k:Int)+1
def Ws (c:Nat->Int) :Int:=GZ c 20 0
def Df (c:Nat->Int)(k:Nat) :Prop:= ∀j,j < k->Yl c j=true
theorem Dk (c:Nat->Int) : ∀(k n s:Nat),(∀j,s<=j->j < s+k->Yl c j=true)->GZ c (n+k) s=GZ c n (s+k)
 | 0,n,s,_=>rfl
 | k+1,n,s,h=>by
  rw [show n+(k+1)=(n+k)+1 by omega,GZ,if_pos (h s Zf Zf),Dk c k n (s+1) (fun j h1 h2=>h j Zf Zf)]
  congr 1; omega
theorem eN {c:Nat->Int}{k:Nat}(hk:k < 20)(hb:Df c k)(hr:Yl c k=false) :Ws c=(k:Int)+1:=by
 unfold Ws;rw [show 20=(19 - k+1)+k by omega,Dk c k _ 0 (fun j _ h=>hb j Zf),GZ,ZV,if_neg (by rw [hr]; simp)]
theorem aN {c:Nat->Int}(hb:Df c 20) :Ws c=0:=by
 unfold Ws;rw [show 20=0+20 by omega,Dk c 20 0 0 (fun j _ h=>hb j Zf),GZ]
theorem Ho {c:Nat->Int}{k:Nat}(hb:Df c k)(hr:Yl c k=true) :Df c (k+1):=fun j hj=>by
 rcases YF j k with h | h
 ·exact hb j h
 ·rw [show j=k by omega]; exact hr
theorem Hp (c:Nat->Int) :Df c 0:=fun j h=>by omega
theorem LX (c:Nat->Int) :(Ws c=0/\Df c 20)\/ ∃k,k < 20/\Df c k/\Yl c k=false/\Ws c=(k:Int)+1:=by
 have: ∀n,n<=20->Df c n\/ ∃k,k < n/\Df c k/\Yl c k=false:=by
  intro n
  induction n with
  | zero=>intro _; exact .inl (Hp c)
  | succ n ih=>
   intro hn
   rcases ih Zf with h | ⟨k,hk,h1,h2⟩
   ·cases hr:Yl c n with
    | true=>exact .inl (Ho h hr)
    | false=>exact .inr ⟨n,by omega,h,hr⟩
   ·exact .inr ⟨k,by omega,h1,h2⟩
 rcases this 20 (Zh _) with h | ⟨k,hk,h1,h2⟩
 ·exact .inl ⟨aN h,h⟩
 ·exact .inr ⟨k,hk,h1,h2,eN hk h1 h2⟩
end
section
open Go Go.RowKit
theorem GL {P:YL}{id:Nat}{Q:Exit->Act->Zc->Prop}{a:Act}{w:Zc}{l:List Oper}(n:Nat)
  (h:ZZ P l.toArray (fun w'=> ∃n,w'=w.drewN n) (fun a'=> ∀w',(∃n,w'=w.drewN n)->YQ P l.toArray Q (l.drop n) a' w') (l.take n) a) (hm:P.follows .mixedOrders=true:=by kernel_rfl) (hB:VF .any l.toArray n=true:=by kernel_rfl) :(Vl id l.toArray true).wp P Q a w:=
 LQ n hm hB h
end
section
open Go.RowKit
theorem P0 (s:Nat)(w:Zc)(h:1<=s)(h2:s<=1048576) :
  Zv Zb 81 #[.int .i64 s] w fun e w'=>e= .returned (.pointer (some ⟨w.heap.size,0,none⟩))/\w.alloc (.cells #[.int .i64 s,.slice none 0 0,.int .i64 0,.int .i64 0] 148)=w':=by
 have h0: ¬(s:Int)< 1:=Zf;have h3: ¬(1048576:Int)< (s:Int):=Zf;go_enter func81,ntmps81;exact Uu
theorem Gi (b:Nat)(c:Int)(w:Zc)(h:w.cell? ⟨b,3,none⟩=some (.int .i64 c)) :
  YV 287 #[.pointer (some ⟨b,0,none⟩)] w (.int .i64 c):=by
 go_enter func287,ntmps287;exact Uu
theorem dc (w:Zc) :YV 121 #[.pointer none] w (.int .i64 0):=by
 go_enter func121,ntmps121;exact Uu
theorem DX (b:Nat)(s c:Nat)(w:Zc)(h0:w.cell? ⟨b,0,none⟩=some (.int .i64 s))(h3:w.cell? ⟨b,3,none⟩=some (.int .i64 c))(hs:s<=1048576)(hc:c<=s) :
  Xb 121 #[.pointer (some ⟨b,0,none⟩)] w (.int .i64 ((s - c:Nat) :Int)):=by
 go_enter func121,ntmps121;exact tW
theorem Lr (b n f i:Nat)(a:Option Addr)(cap:Nat)(w:Zc)(h1:w.cell? ⟨b,1,none⟩=some (.slice a n cap))(h2:w.cell? ⟨b,2,none⟩=some (.int .i64 f))(hn:0 < n)(hf:f<=1048576)(hi:i<=1048576) :
  Xb 171 #[.pointer (some ⟨b,0,none⟩),.int .i64 i] w (.int .i64 (((f+i)%n:Nat) :Int)):=by
 have hz:((n:Int)==0)=false:=Xl;go_enter func171,ntmps171;exact tX
end
section
open Go.RowKit
theorem TA (b g h size n f c m cap:Nat)(C D F:List Zk)(w:Zc)(hi:QX 148 3 1 w b g size n f c C)(hw:QF C (f*1) F)(hF:F.length=c*1)(h1: ∀v ∈ F,v.oneCell'=true)
  (hD:Zu w h 3 D.toArray) (DS:D.length=m*1) (uZ:c<=m) (fI:m<=cap) (Uz:cap<=1048576) (jO:h≠g) :
  Zv Zb 93 #[.pointer (some ⟨b,0,none⟩),.slice (some ⟨h,0,none⟩) m cap] w fun e w'=>e= .returned (.tuple #[])/\Zu w' h 3 (F++D.drop F.length).toArray/\Zx (fun i=>i=h) w w'/\w'.heap.size=w.heap.size:=by
 obtain ⟨c0,c1,c2,c3,-,-,-⟩:=hi.cells;obtain ⟨B1,B2,hC,Wu,SP,OW,hs⟩:=hi;have DO:=Za B1;have Gv:=Za B2;have HD:=Za hD;have RZ:=Za DS;have HF:=Za hF;have HC:=Za hC;have H1:=Za h1;clear B1 B2 hD DS hF hC h1;have hw:QF C f F:=ui
 have HW:=Za hw;have hT:(Tryz.prog.info? 3).map (·.size)=some 1:=ZC;obtain ⟨u,hu1,hu2,hu3⟩ : ∃u,u<=c/\f+u<=n/\(u=c\/f+u=n):=tJ
 have HT:=Za hT;clear hw hT
 by_cases hfc:f+c<=n
 ·have hle:((f:Int)+(c:Int))<=(n:Int):=Zf;obtain rfl:u=c:=Zf;go_enter func93,ntmps93;go_wp2;go_quiet (fail);go_wp2;refine GL 11 ?_;refine GM ?_
  repeat (go_big_quiet_step (fail))
  refine XK ?_;intro _ Jq;obtain ⟨nr,Y9⟩:=Jq;subst Y9;have l1:(F.take u).length=u*1:=Cg
  refine Y1 rfl (.tmp 21) (.tmp 31) _ _ rfl 3 underlying24 1 Zf HT.o _ _ _ _ _ _ rfl rfl h 0 D 3 HD.o (F.take u) u Pp l1
   (fun _=>⟨rfl,_,rfl,Mb Gv.o HW.o DC⟩) Pr (fun v hv=>H1.o v (ZQ hv)) ?_
  intro W1 HD1 K1 S1;have L4: ¬b=h:=Zu.ne_ DO.o HD.o YW;have d1:=K1.cell (p:=⟨b,1,none⟩) L4 FM;have d3:=K1.cell (p:=⟨b,3,none⟩) L4 FL;have lq:=Za l1;have Oy:=Za S1;have Nh:=Za K1;have ai:Zl (Zu W1 g 3 C.toArray):=Za (Zu.kept (w:=(w.drewN nq).drewN nr) Gv.o K1 (Q0 jO));clear l1 S1 K1 c1 c3;go_wp2;refine GL 14 ?_;refine GM ?_
  repeat (go_big_quiet_step (fail))
  refine XK ?_;intro _ Jq;obtain ⟨ns,Y9⟩:=Jq;subst Y9;refine Y1 rfl (.tmp 35) (.tmp 46) _ _ rfl 3 underlying24 1 Zf HT.o _ _ _ _ _ _ rfl rfl h u _ 3 HD1.o (F.drop u) 0 FJ Po
   (fun h0=>by have:=HF.o; simp at h0; omega) Cd (fun v hv=>H1.o v (Xc hv)) ?_
  exact ZhB
 ·have hle: ¬((f:Int)+(c:Int))<=(n:Int):=Zf;have XV:(n:Int)< (f:Int)+(c:Int):=Zf;obtain rfl:n=f+u:=Zf;go_enter func93,ntmps93;go_wp2;go_quiet (fail);go_wp2;refine GL 11 ?_;refine GM ?_
  repeat (go_big_quiet_step (fail))
  refine XK ?_;intro _ Jq;obtain ⟨nr,Y9⟩:=Jq;subst Y9;have l1:(F.take u).length=u*1:=Cg
  refine Y1 rfl (.tmp 21) (.tmp 31) _ _ rfl 3 underlying24 1 Zf HT.o _ _ _ _ _ _ rfl rfl h 0 D 3 HD.o (F.take u) u Pp l1
   (fun _=>⟨rfl,_,rfl,Mb Gv.o HW.o DC⟩) Pr (fun v hv=>H1.o v (ZQ hv)) ?_
  intro W1 HD1 K1 S1;have L4: ¬b=h:=Zu.ne_ DO.o HD.o YW;have d1:=K1.cell (p:=⟨b,1,none⟩) L4 FM;have d3:=K1.cell (p:=⟨b,3,none⟩) L4 FL;have lq:=Za l1;have Oy:=Za S1;have Nh:=Za K1;have ai:Zl (Zu W1 g 3 C.toArray):=Za (Zu.kept (w:=(w.drewN nq).drewN nr) Gv.o K1 (Q0 jO));clear l1 S1 K1 c1 c3;go_wp2;refine GL 14 ?_;refine GM ?_
  repeat (go_big_quiet_step (fail))
  refine XK ?_;intro _ Jq;obtain ⟨ns,Y9⟩:=Jq;subst Y9;have e:C.length - f=u:=DC;have hx:=TE ai.o HW.o;rw [e] at hx;refine Y1 rfl (.tmp 35) (.tmp 46) _ _ rfl 3 underlying24 1 Zf HT.o _ _ _ _ _ _ rfl rfl h u _ 3 HD1.o (F.drop u) (c - u) jf Po
   (fun _=>⟨rfl,_,rfl,hx⟩) Cd (fun v hv=>H1.o v (Xc hv)) ?_
  clear hx e;exact ZhB
end
section
open Go.RowKit
theorem Tz (b h size m cap:Nat)(D:List Zk)(w:Zc)(hi:BN 148 w b size)
  (hD:Zu w h 3 D.toArray) (DS:D.length=m*1) (fI:m<=cap) (Uz:cap<=1048576) :
  Zv Zb 93 #[.pointer (some ⟨b,0,none⟩),.slice (some ⟨h,0,none⟩) m cap] w fun e w'=>e= .returned (.tuple #[])/\Zu w' h 3 D.toArray/\Zx (fun i=>i=h) w w'/\w'.heap.size=w.heap.size:=by
 obtain ⟨c0,c1,c2,c3,-,-,-⟩:=hi.cells;obtain ⟨B1,bR,hs⟩:=hi;have DO:=Za B1;have HD:=Za hD;have RZ:=Za DS;clear B1 hD DS;have hT:(Tryz.prog.info? 3).map (·.size)=some 1:=ZC;have HT:=Za hT;clear hT;go_enter func93,ntmps93;go_wp2;go_quiet (fail);go_wp2;refine GL 11 ?_;refine GM ?_
 repeat (go_big_quiet_step (fail))
 refine XK ?_;intro _ Jq;obtain ⟨nr,Y9⟩:=Jq;subst Y9;refine Y1 rfl (.tmp 21) (.tmp 31) _ _ rfl 3 underlying24 1 Zf HT.o _ _ _ _ _ _ rfl rfl h 0 D 3 HD.o [] 0 FJ rfl
  (fun h0=>by simp at h0) ZE (fun v hv=>by simp at hv) ?_
 intro W1 HD1 K1 S1;have L4: ¬b=h:=Zu.ne_ DO.o HD.o YW;have d1:=K1.cell (p:=⟨b,1,none⟩) L4 FM;have d3:=K1.cell (p:=⟨b,3,none⟩) L4 FL;have Oy:=Za S1;have Nh:=Za K1;clear S1 K1 c1 c3;go_wp2;refine GL 14 ?_;refine GM ?_
 repeat (go_big_quiet_step (fail))
 refine XK ?_;intro _ Jq;obtain ⟨ns,Y9⟩:=Jq;subst Y9;refine Y1 rfl (.tmp 35) (.tmp 46) _ _ rfl 3 underlying24 1 Zf HT.o _ _ _ _ _ _ rfl rfl h 0 _ 3 HD1.o [] 0 FJ rfl
  (fun h0=>by simp at h0) ZE (fun v hv=>by simp at hv) ?_
 intro W2 HD2 K2 S2;have Vx:Zu W2 h 3 D.toArray/\Zx (fun i=>i=h) w W2/\W2.heap.size=w.heap.size:=Zeq
 exact tO
theorem NY (b h size c m cap:Nat)(go:Option Nat)(D F:List Zk)(w:Zc)(hi:Yv 148 3 1 w b go size c F)
  (hD:Zu w h 3 D.toArray) (DS:D.length=m*1) (uZ:c<=m) (fI:m<=cap) (Uz:cap<=1048576) (jO:go≠some h) :
  Zv Zb 93 #[.pointer (some ⟨b,0,none⟩),.slice (some ⟨h,0,none⟩) m cap] w fun e w'=>e= .returned (.tuple #[])/\Zu w' h 3 (F++D.drop F.length).toArray/\Zx (fun i=>i=h) w w'/\w'.heap.size=w.heap.size:=by
 obtain ⟨h1,h2,⟨rfl,rfl,h3⟩ | ⟨g,n,f,C,rfl,h3,h4⟩⟩:=hi
 ·obtain rfl:F=[]:=ZR QQ;have:=Tz b h size m cap D w h3 hD DS fI Uz;exact Bt
 ·exact TA b g h size n f c m cap C D F w h3 h4 h1 h2 hD DS uZ fI Uz (fun e=>jO Er)
theorem FV (b size c need n:Nat)(a:Option Addr)(go:Option Nat)(F:List Zk)(w:Zc)(hi:Yv 148 3 1 w b go size c F)(c1:w.cell? ⟨b,1,none⟩=some (.slice a n n))(hn:n < need)(OW:n<=size)(SP:c<=need)(Lb:need<=size) :
  Zv Zb 170 #[.pointer (some ⟨b,0,none⟩),.int .i64 need] w fun e w'=>e= .returned (.tuple #[])/\
   ∃n' C,QX 148 3 1 w' b w.heap.size size n' 0 c C/\QF C 0 F/\need<=n'/\Zx (fun i=>i=b) w w':=by
 obtain ⟨c0,c3⟩:=hi.cells;obtain ⟨_,bR,hs⟩:=hi.size_le;have bK: ∀i,go=some i->i < w.heap.size:=fun i e=>hi.lt i (.inr e.symm)
 have NC:b < w.heap.size:=hi.lt b (.inl rfl);obtain ⟨x2,x3,bx⟩ : ∃x2 x3,Zu w b 148 #[.int .i64 size,.slice a n n,x2,x3]:=Zek
 obtain rfl:x3= .int .i64 c:=um
 have PL:=hi.1;have uW:=hi.2.1;have uO:=Za PL;have HFo:=Za uW;clear PL uW;have HI:=Za hi;have HX:=Za bx;clear hi bx;obtain ⟨n1,Hi,hn00⟩ : ∃n1:Nat,(if(need:Int)< 2*(n:Int) then 2*(n:Int) else(need:Int))=(n1:Int)/\need<=n1:=Zeu
 obtain ⟨n',bO,fJ,hn3⟩ : ∃n':Nat,(if(n1:Int)< (size:Int) then(n1:Int) else(size:Int))=(n':Int)/\need<=n'/\n'<=size:=Zes
 have dY:=Za Hi;have HN:=Za bO;clear bO Hi;have hT:(Tryz.prog.info? 3).map (fun i=>(i.zero,i.size,i.bytes))=some (some (.int .i64 0),1,8):=ZC;obtain ⟨i0,MH,BK,By,Nb⟩:=info_parts hT;have Eu:=fun W=>Jc (P:=Zb) 24 3 i0 _ underlying24 MH BK .i64 .i64 n' n' (Zh _) Pu Zf W
 rw [By] at Eu;have hDo: ∀v ∈ (madeCells (Yi (.int .i64 0)) (n'*1)).toList,v.oneCell'=true:=O5 YW YW _;have DS:(madeCells (Yi (.int .i64 0)) (n'*1)).toList.length=n'*1:=Ce
 have qL:(madeCells (Yi (.int .i64 0)) (n'*1))=((madeCells (Yi (.int .i64 0)) (n'*1)).toList).toArray:=ZE;generalize madeCells (Yi (.int .i64 0)) (n'*1)=D0 at*;generalize D0.toList=D at*;subst qL;have RZ:=Za DS;have HDo:=Za hDo;clear hT MH BK By Nb i0 hDo DS;go_enter func170,ntmps170;go_wp2;refine GL 13 ?_;refine GM ?_
 repeat (go_big_quiet_step (fail))
 try rw [C9]
 rw [dY.o];try rw [RR]
 rw [HN.o];refine XK ?_;intro _ Jq;obtain ⟨nr,Y9⟩:=Jq;subst Y9;go_wp2_with fail;refine (NY b _ size c n' n' go D F _ (Yv.kept (S:=fun _=>False) HI.o (((Zx.refl _ w).drewN nr).alloc _) (fun _ _ h=>h)) (Zu.new _ _ _) RZ.o Zf Zf Zf (fun e=>by have:=bK _ e; simp at this)).mono ?_;rintro e w1 ⟨rfl,Et,bF,At⟩;have L4: ¬b=w.heap.size:=Zf;have DO:Zl (Zu w1 w.heap.size 3 (F++D.drop F.length).toArray):=Za Et;have WE:Zx (fun i=>i=w.heap.size) w w1:=(((Zx.refl _ w).drewN nr).alloc _).trans bF (fun _ _ h=>h);have Pz:=Za WE;have ej:Zl (Zu w1 b 148 #[.int .i64 size,Value.slice a n n,x2,.int .i64 c]):=Za (HX.o.kept WE L4);have d1:=ej.o.cell 1;have d2:=ej.o.cell 2;have e1:=ej.o.frozen 1;have e2:=ej.o.frozen 2;clear Et bF At WE;go_wp2;go_end0;have hlen:(F++D.drop F.length).length=n'*1:=ZbR
 exact ZbD
theorem TC (b size c need:Nat)(go:Option Nat)(F:List Zk)(w:Zc)(hi:Yv 148 3 1 w b go size c F)(h1:1<=need)(SP:c<=need)(Lb:need<=size) :
  Zv Zb 170 #[.pointer (some ⟨b,0,none⟩),.int .i64 need] w fun e w'=>e= .returned (.tuple #[])/\
   ∃g n f C,QX 148 3 1 w' b g size n f c C/\QF C (f*1) F/\need<=n/\UI w go (some g)/\Zx (fun i=>i=b) w w':=by
 have Mu:=hi;obtain ⟨hF,hF1,⟨rfl,rfl,h3⟩ | ⟨g,n,f,C,rfl,h3,h4⟩⟩:=hi
 ·exact (FV b size 0 need 0 none none F w Mu h3.cells.2.1 Zf Zf SP Lb).mono fun e w' ⟨he,n',C,k1,k2,k3,k4⟩=>
   ⟨he,_,n',0,C,k1,by rw [Nat.zero_mul]; exact k2,k3,fun i hi=> .inr Pn,k4⟩
 ·by_cases hn:need<=n
  ·have c1:=h3.cells.2.1;have H3:=Za h3;have H4:=Za h4;have OW:=h3.2.2.2.2.2;clear h3 h4 Mu hF hF1;go_enter func170,ntmps170;exact Zet
  ·have OW:=h3.2.2.2.2.2.1;exact (FV b size c need n _ (some g) F w Mu h3.cells.2.1 Zf OW SP Lb).mono fun e w' ⟨he,n',C,k1,k2,k3,k4⟩=>
    ⟨he,_,n',0,C,k1,by rw [Nat.zero_mul]; exact k2,k3,fun i hi=> .inr Pn,k4⟩
end
section
open Go.RowKit
theorem ir (w:Zc) :YV 45 #[.pointer none] w (.slice none 0 0):=by
 go_enter func45,ntmps45;exact Uu
theorem Ty (b size c:Nat)(go:Option Nat)(F:List Zk)(w:Zc)(hi:Yv 148 3 1 w b go size c F) :
  Zv Zb 45 #[.pointer (some ⟨b,0,none⟩)] w fun e w'=>e= .returned (.slice (some ⟨w.heap.size,0,none⟩) c c)/\Zu w' w.heap.size 3 F.toArray/\Zp w.heap.size w w':=by
 obtain ⟨c0,c3⟩:=hi.cells;obtain ⟨EY,bR,hs⟩:=hi.size_le;have bK: ∀i,go=some i->i < w.heap.size:=fun i e=>hi.lt i (.inr e.symm)
 have PL:=hi.1;have uO:=Za PL;have HI:=Za hi;clear hi PL;have hT:(Tryz.prog.info? 3).map (fun i=>(i.zero,i.size,i.bytes))=some (some (.int .i64 0),1,8):=ZC;obtain ⟨i0,MH,BK,By,Nb⟩:=info_parts hT;have Eu:=fun W=>Jc (P:=Zb) 24 3 i0 _ underlying24 MH BK .i64 .i64 c c (Zh _) Pu Zf W
 rw [By] at Eu;have DS:(madeCells (Yi (.int .i64 0)) (c*1)).toList.length=c*1:=Ce
 have qL:(madeCells (Yi (.int .i64 0)) (c*1))=((madeCells (Yi (.int .i64 0)) (c*1)).toList).toArray:=ZE;generalize madeCells (Yi (.int .i64 0)) (c*1)=D0 at*;generalize D0.toList=D at*;subst qL;have RZ:=Za DS;clear hT MH BK By Nb i0 DS;go_enter func45,ntmps45;go_wp2_with fail;refine (NY b _ size c c c go D F _ (Yv.kept (S:=fun _=>False) HI.o ((Zx.refl _ w).alloc _) (fun _ _ h=>h)) (Zu.new _ _ _) RZ.o Zf Zf Zf (fun e=>by have:=bK _ e; simp at this)).mono ?_;rintro e w1 ⟨rfl,Et,bF,At⟩;have Ar:Zu w1 w.heap.size 3 F.toArray:=Zex
 exact Zen
end
section
open Go.RowKit
theorem Lo (b:Nat)(i c:Int)(w:Zc)(h3:w.cell? ⟨b,3,none⟩=some (.int .i64 c))(ho:i < 0\/c<=i) :
  YV 270 #[.pointer (some ⟨b,0,none⟩),.int .i64 i] w (.tuple #[.int .i64 0,.bool false]):=by
 by_cases h:i < 0
 ·clear ho;go_enter func270,ntmps270;exact dU
 ·have h':0<=i:=Zf;have h2:c<=i:=Zf;clear ho;go_enter func270,ntmps270;go_wp2_with fail;refine (Gi _ _ _ h3).mono ?_;exact uI
theorem TB (b g size n f c i:Nat)(C F:List Zk)(v:Zk)(w:Zc)(hr:QX 148 3 1 w b g size n f c C)(hw:QF C (f*1) F)(hF:F.length=c*1)(hv:F[i]?=some v) :
  Xb 270 #[.pointer (some ⟨b,0,none⟩),.int .i64 i] w (.tuple #[v,.bool true]):=by
 obtain ⟨-,d1,d2,d3,-,-,-⟩:=hr.cells;obtain ⟨B1,B2,hC,Wu,SP,OW,hs⟩:=hr;have hic:i < c:=by
  rcases YF i F.length with h | h
  ·omega
  ·rw [Qx h] at hv; cases hv
 have hi1: ¬(i:Int)< 0:=Zf;have GQ: ¬(c:Int)<=(i:Int):=Zf;obtain ⟨p,hp⟩ : ∃p:Nat,(f+i)%n=p:=⟨_,rfl⟩;have OX:p < n:=uz
 have UJ:w.cell? ⟨g,p,none⟩=some v:=by
  rw [B2.cell,<-hp];have:=hw.get hv;rw [hC] at this;exact Bt
 have Vr: ∀W:Zc,W.cell? ⟨b,1,none⟩=some (.slice (some ⟨g,0,none⟩) n n)->W.cell? ⟨b,2,none⟩=some (.int .i64 f)->Xb 171 #[.pointer (some ⟨b,0,none⟩),.int .i64 i] W (.int .i64 p):=fun W x1 x2=>by
  have:=Lr b n f i _ n W x1 x2 Zf Zf Zf;rwa [hp] at this
 have R0:=Za Vr;clear Vr hp B1 B2 hC hw hF hv;go_enter func270,ntmps270;go_wp2_with fail;refine (Gi _ _ _ d3).mono ?_;rintro e w' ⟨rfl,rfl⟩;go_wp2;go_quiet ((go_at_call 171; exact Calls.quiet_of (R0.o _ d1 d2)));go_wp2;go_ret2;exact ⟨rfl,_,rfl⟩
theorem MP (b size c i:Nat)(go:Option Nat)(F:List Zk)(v:Zk)(w:Zc)(hi:Yv 148 3 1 w b go size c F)(hv:F[i]?=some v) :
  Xb 270 #[.pointer (some ⟨b,0,none⟩),.int .i64 i] w (.tuple #[v,.bool true]):=by
 obtain ⟨hF,_,⟨rfl,rfl,_⟩ | ⟨g,n,f,C,rfl,h3,h4⟩⟩:=hi
 ·obtain rfl:F=[]:=ZR (by simpa using hF);simp at hv
 ·exact TB b g size n f c i C F v w h3 h4 hF hv
theorem It (b:Nat)(w:Zc)(h3:w.cell? ⟨b,3,none⟩=some (.int .i64 0)) :
  YV 271 #[.pointer (some ⟨b,0,none⟩)] w (.tuple #[.int .i64 0,.bool false]):=by
 go_enter func271,ntmps271;go_wp2_with fail;refine (Lo b 0 0 _ h3 Zf).mono ?_;exact uI
theorem nB (b g size n f c:Nat)(C F:List Zk)(v:Zk)(w:Zc)(hr:QX 148 3 1 w b g size n f (c+1) C)(hw:QF C (f*1) (v::F))(hF:F.length=c*1) :
  Zv Zb 271 #[.pointer (some ⟨b,0,none⟩)] w fun e w'=>e= .returned (.tuple #[v,.bool true])/\
   (∃f' C',QX 148 3 1 w' b g size n f' c C'/\QF C' (f'*1) F)/\Zx (fun i=>i=b\/i=g) w w':=by
 have hpk:=fun W (hW:Zl (W=w))=>TB b g size n f (c+1) 0 C (v::F) v W (hW.o▸hr) hw (by simp [hF]) ZE
 obtain ⟨-,d1,d2,d3,-,fz2,qx⟩:=hr.cells;obtain ⟨B1,B2,hC,Wu,SP,OW,hs⟩:=hr;have oI:=Za hpk;have DO:=Za B1;have Gv:=Za B2;have HC:=Za hC;have HW:=Za hw;have HF:=Za hF;obtain ⟨s,hsv⟩ : ∃s:Nat,(f+1)%n=s:=⟨_,rfl⟩;have DU:s < n:=uw
 have Vr: ∀W:Zc,W.cell? ⟨b,1,none⟩=some (.slice (some ⟨g,0,none⟩) n n)->W.cell? ⟨b,2,none⟩=some (.int .i64 f)->Xb 171 #[.pointer (some ⟨b,0,none⟩),.int .i64 1] W (.int .i64 s):=fun W x1 x2=>by
  have:=Lr b n f 1 _ n W x1 x2 Zf Zf Zf;rwa [hsv] at this
 have R0:=Za Vr;have zK:=Za hsv;clear Vr hsv hpk B1 B2 hC hw hF;go_enter func271,ntmps271;go_wp2_with fail;refine (oI.o _ (Za rfl)).mono ?_;rintro e w' ⟨rfl,q,rfl⟩;go_wp2;refine GL 14 ?_;refine GM ?_
 repeat (go_big_quiet_step (fail))
 refine XK ?_;intro _ Jq;obtain ⟨nr,Y9⟩:=Jq;subst Y9;refine Em rfl (.tmp 27) _ rfl 3 underlying24 (.int .i64 0) (fun _=>by kernel_rfl) YW g f 1 (n - f) rfl Zf C 3 Gv.o iZ ?_;intro W1 HD1 K1;have RN: ¬b=g:=Zu.ne_ DO.o Gv.o YW;have Et:Zl (Zu W1 b 148 #[.int .i64 size,.slice (some ⟨g,0,none⟩) n n,.int .i64 f,.int .i64 ((c+1:Nat) :Int)]):=Za (Zu.kept (w:=(w.drewN q).drewN nr) DO.o K1 RN);have x1:=Et.o.cell 1;have x2:=Et.o.cell 2;have x3:W1.cell? ⟨b,3,none⟩=some (.int .i64 ((c:Int)+1)):=Et.o.cell 3;have y2:=Et.o.frozen 2;have y3:=Et.o.frozen 3;have Nh:=Za K1;clear K1 d1 d2 d3 fz2 qx;go_wp2_with fail;refine (R0.o _ x1 x2).mono ?_;rintro e w' ⟨rfl,q2,rfl⟩;go_wp2;go_ret2;refine ⟨rfl,⟨s,_,⟨?_,Zu.far (Zu.far (HD1.o) (Q0 RN) _) (Q0 RN) _,?_,DU,by omega,OW,hs⟩,?_⟩,?_⟩
 ·exact tY
 ·exact tL
 ·have hZ:(YM (Yi (.int .i64 0)) 1).toList.length=1:=by simp [YM,Yi]
  generalize (YM (Yi (.int .i64 0)) 1).toList=Z at*;have Bo:f+Z.length<=C.length:=DC;have:=AN (C':=KV C f Z) HW.o ZE HC.o (Jr _ _ _ Bo) (fun p hp=>by
   rw [Bc _ _ _ Bo]
   by_cases h1:p < f
   ·rw [if_pos h1]
   ·rw [if_neg h1,if_neg Zf])
  rw [zK.o] at this;exact this
 ·refine Zx.setCell (S:=fun i=>i=b\/i=g) (Zx.setCell (S:=fun i=>i=b\/i=g) ?_ (.inl (.inl rfl)) _) (.inl (.inl rfl)) _;exact ((((Zx.refl _ w).drewN q).drewN nr).trans Nh.o (fun _ _ h=> .inr h)).drewN q2
theorem O9 (b size c:Nat)(go:Option Nat)(F:List Zk)(v:Zk)(w:Zc)(hi:Yv 148 3 1 w b go size (c+1) (v::F)) :
  Zv Zb 271 #[.pointer (some ⟨b,0,none⟩)] w fun e w'=>e= .returned (.tuple #[v,.bool true])/\Yv 148 3 1 w' b go size c F/\Zx (QU b go) w w':=by
 obtain ⟨hF,hF1,⟨rfl,h0,_⟩ | ⟨g,n,f,C,rfl,h3,h4⟩⟩:=hi
 ·omega
 ·have hl:F.length=c*1:=ux
  exact (nB b g size n f c C F v w h3 h4 hl).mono fun e w' ⟨he,⟨f',C',k1,k2⟩,k3⟩=>
   ⟨he,k1.at_ k2 hl (fun x hx=>hF1 x (List.mem_cons_of_mem _ hx)),k3.more fun i _ hi=>hi.elim .inl (fun e=> .inr Er)⟩
end
section
open Go.RowKit
theorem Iv (b size c:Nat)(w:Zc)(a:Option Addr)(len cap:Nat)(hl:len<=9223372036854775807)(h0:w.cell? ⟨b,0,none⟩=some (.int .i64 size))(h3:w.cell? ⟨b,3,none⟩=some (.int .i64 c))(hs:size<=1048576)(hc:c<=size)(hz:len=0\/c=size) :
  Xb 123 #[.pointer (some ⟨b,0,none⟩),.slice a len cap] w (.int .i64 0):=by
 obtain ⟨d,hd⟩ : ∃d:Nat,size - c=d:=⟨_,rfl⟩;have hf: ∀W:Zc,Zl (W=w)->Xb 121 #[.pointer (some ⟨b,0,none⟩)] W (.int .i64 d):=fun W hW=>by
  have hW:=hW.o;subst hW;rw [<-hd];exact DX b size c _ h0 h3 hs hc
 have HF:=Za hf;clear hf h0 h3
 by_cases h:(d:Int)< (len:Int)
 ·obtain rfl:d=0:=Zf;exact Zh5
 ·obtain rfl:len=0:=Zf;exact Zh5
theorem Iu (b size c m len cap:Nat)(go:Option Nat)(ad:Addr)(F cs:List Zk)(w:Zc)(hi:Yv 148 3 1 w b go size c F)(Ed:Src w (QU b go) (some ad) len 1 cs)
  (hl:len<=cap) (Uz:cap<=9223372036854775807) (hm:1<=m) (mD:m<=len) (ee:c+m<=size) (hm3:m=len\/c+m=size) :
  Zv Zb 123 #[.pointer (some ⟨b,0,none⟩),.slice (some ad) len cap] w fun e w'=>e= .returned (.int .i64 m)/\
   ∃go',Yv 148 3 1 w' b go' size (c+m) (F++cs.take m)/\UI w go go'/\Zx (QU b go) w w':=by
 obtain ⟨c0,c3⟩:=hi.cells;obtain ⟨_,bR,hs⟩:=hi.size_le;obtain ⟨d,hd⟩ : ∃d:Nat,size - c=d:=⟨_,rfl⟩;have hf: ∀W:Zc,Zl (W=w)->Xb 121 #[.pointer (some ⟨b,0,none⟩)] W (.int .i64 d):=fun W hW=>by
  have hW:=hW.o;subst hW;rw [<-hd];exact DX b size c _ c0 c3 hs Zf
 have HF:=Za hf;have HI:=Za hi;have oZ:=Za Ed;have hmz:((m:Int)==0)=false:=Xl;have c3': ∀q,(w.drewN q).cell? ⟨b,3,none⟩=some (.int .i64 c):=fun q=>c3
 have xi:d+c<=size:=Zf;have qX:size<=d+c:=Zf;clear hf hi Ed c0 hd;have key: ∀q:Nat,Zv Zb 170 #[.pointer (some ⟨b,0,none⟩),.int .i64 ((c:Int)+(m:Int))] (w.drewN q) fun e w'=>e= .returned (.tuple #[])/\
   ∃g n f C,QX 148 3 1 w' b g size n f c C/\QF C (f*1) F/\c+m<=n/\UI w go (some g)/\Zx (fun i=>i=b) w w':=fun q=>by
  have:=TC b size c (c+m) go F (w.drewN q) HI.o Zf Zf ee;rw [show ((c+m:Nat) :Int)=(c:Int)+(m:Int) by omega] at this;exact this.mono fun e w' ⟨he,g,n,f,C,k1,k2,k3,k4,k5⟩=>⟨he,g,n,f,C,k1,k2,k3,k4,((Zx.refl _ w).drewN q).trans k5 (fun _ _ h=>h)⟩
 have KEY:=Za key;clear key;have hT:(Tryz.prog.info? 3).map (·.size)=some 1:=ZC;have HT:=Za hT;clear hT
 by_cases h:(d:Int)< (len:Int)
 ·obtain rfl:m=d:=Zf;exact zT4
 ·obtain rfl:m=len:=Zf;exact zT4
theorem Lp (b size c len cap:Nat)(go:Option Nat)(a:Option Addr)(F cs:List Zk)(w:Zc)(hi:Yv 148 3 1 w b go size c F)(Ed:Src w (QU b go) a len 1 cs)
  (hl:len<=cap) (Uz:cap<=9223372036854775807) :
  Zv Zb 123 #[.pointer (some ⟨b,0,none⟩),.slice a len cap] w fun e w'=>e= .returned (.int .i64 ((min len (size - c) :Nat) :Int))/\
   ∃go',Yv 148 3 1 w' b go' size (c+min len (size - c)) (F++cs.take (min len (size - c)*1))/\UI w go go'/\Zx (QU b go) w w':=by
 obtain ⟨h1,h2,h3⟩:=hi.size_le
 by_cases hz:min len (size - c)=0
 ·rw [hz];refine (Iv b size c w a len cap Zf hi.cells.1 hi.cells.2 h3 h1 Zf).mono fun e w' ⟨he,m,hm⟩=>⟨he,go,?_,fun i h=> .inl h,by subst hm; exact (Zx.refl _ _).drewN _⟩
  subst hm;simpa using hi.drewN m
 ·obtain ⟨ad,rfl,_⟩:=Ed.2.2 Zf;have:=Iu b size c (min len (size - c)) len cap go ad F cs w hi Ed hl Uz Zf Zf Zf Zf;exact uk
end
end Go.Proofs.YtobgbcdgffgdhaaGreat
