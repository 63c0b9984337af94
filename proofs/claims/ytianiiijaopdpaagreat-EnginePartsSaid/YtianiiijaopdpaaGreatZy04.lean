/- Part 4 of 29: L09Cyc L09Cur L09Idx L10Num L14Bat L13Row Fam L02Clock L04OpsDuo L04CopyDuo L04GrowDuo L04PushDuo L04OpsReq L04CopyReq L04GrowReq L04PushReq L04AllDuo L04AllReq Long. -/
import Derived.Test.YtianiiijaopdpaaGreatZy00
import Derived.Test.YtianiiijaopdpaaGreatZy03
namespace Go.Proofs.YtianiiijaopdpaaGreat
set_option linter.unusedVariables false
set_option linter.unusedSimpArgs false
set_option maxRecDepth 100000
set_option maxHeartbeats 8000000
open _root_.Array renaming all_eq_true_iff_forall_mem → ZT, any_eq_true' → Gy
open _root_.Go.RowKit renaming Below → Zs
open _root_.Go.Proofs.YtianiiijaopdpaaGreat.Blk renaming kept → QR, ne_ → JI, new → Zv, set_ → Vy
open _root_.Bool renaming and_eq_true → YZ
open _root_.Go renaming Calls → Zj, Value → Zl, World → Zc
open _root_.Int renaming ediv_le_self → KA, ediv_nonneg → KV
open _root_.Go.Proofs.YtianiiijaopdpaaGreat.Kept renaming refl → ZH
open _root_.Go.Lib renaming hid → Za
open _root_.List renaming all_eq_true → QG, append_nil → XH, eq_nil_of_length_eq_zero → ZU, length_cons → Yp, mem_of_mem_drop → Xd, mem_of_mem_take → ZK, mem_singleton → YV, replicate → Zy
open _root_.Nat renaming div_add_mod → Kl, eq_of_beq_eq_true → Uc, eq_zero_or_pos → QW, le_refl → Zg, lt_of_lt_of_le → Ya, zero_mul → JM
open _root_.Ne renaming symm → QD
open _root_.Option.some renaming inj → ZS
open _root_.Go.Region renaming binds → Xp, lexTailB → V8, noSelect → Qh, ready → Yw, seqB → Vg
open _root_.Go.Proofs.YtianiiijaopdpaaGreat.RingAt renaming kept → GQ
open _root_.Go.Proofs.Tryz renaming prog → Zb, underlying48 → XA, underlying49 → Xq
open _root_.Go.Value renaming cells → Yq, slice → Yj
theorem TI {G:Prop}(h:G:=by rw [LJ]; omega) :G:=h
theorem zT2 {G:Prop} (h:G:=by
  go_enter Tryz.func131,Tryz.ntmps131;go_wp2_with fail;refine mE ?_;rintro e w' ⟨rfl,q,rfl⟩;go_wp2_with fail;refine (KEY.out q).mono ?_;rintro e w1 ⟨rfl,g,n,f,C,hr,hw,hn,Sk,hk⟩;obtain ⟨-,d1,d2,d3,-,-,oS⟩:=hr.cells;have aE: ¬ad.block=g:=by
   obtain ⟨_,_,kO⟩:=AU.out;obtain ⟨ad',e,hS,pf⟩:=kO Zm;injection e with e;subst e;rintro hg
   rcases Sk g rfl with h5 | h5
   ·exact hS (.inr (by rw [hg,h5]))
   ·have:=cell_lt (pf 0 _ (List.getElem?_eq_getElem gF));rw [add_block] at this;omega
  have mG:=Lib.hid aE;obtain ⟨L,Cq,hLo,hLc,o3⟩ : ∃L:List Value,L.length=m*2∧(∀v ∈ L,v.oneCell'=true)∧(∀j v,L[j]?=some v→w1.cell? (ad.add j)=some v)∧cs.take (m*2)=L:=by
   obtain ⟨x1,x2,x3⟩:=AU.out.kept hk (fun i _ e=> .inl e);obtain ⟨ad',e,hS,pf⟩:=x3 Zm;injection e with e;subst e;refine ⟨_,by simp; omega,fun v hv=>x2 v (List.mem_of_mem_take hv),fun j v hv=>pf j v (take_some hv),rfl⟩
  obtain ⟨B1,B2,hC,cV,Sf,Nn,-⟩:=hr;have Ek:=Lib.hid B1;have UJ:=Lib.hid B2;have HC:=Lib.hid hC;have HW:=Lib.hid hw;have ID:=Lib.hid Sk;have HK:=Lib.hid hk;have cO:=Lib.hid Cq;have nj:=Lib.hid hLo;have yf:=Lib.hid hLc;have HLe:=Lib.hid o3;clear B1 B2 hC hw Sk hk Cq hLo hLc o3 aE;obtain ⟨s,hsv⟩ : ∃s:Nat,(f+c)%n=s:=⟨_,rfl⟩;have DY:s < n:=by rw [←hsv]; exact Nat.mod_lt _ Zm
  have VM: ∀W:World,W.cell? ⟨b,1,none⟩=some (.slice (some ⟨g,0,none⟩) n n)→W.cell? ⟨b,2,none⟩=some (.int .i64 f)→Calls Tryz.prog 202 #[.pointer (some ⟨b,0,none⟩),.int .i64 c] W fun e w'=>e= .returned (.int .i64 s)∧ ∃m,w'=W.drewN m:=fun W x1 x2=>by
   have:=r2_slot_any b n f c _ n W x1 x2 Zm Zm Zm;rwa [hsv] at this
  have IF:=Lib.hid VM;have sK:=Lib.hid hsv;obtain ⟨u,hu,hu0,hu1,hu2⟩ : ∃u:Nat,u=min m (n - s)∧u≤m∧u≤n - s∧(u=m∨u=n - s):=⟨_,rfl,by omega,by omega,by omega⟩;have HU:=Lib.hid hu;have HU2:=Lib.hid hu2;clear VM hsv hu hu2;go_wp2;refine wqT 14 ?_;refine BA ?_
  repeat (go_big_quiet_step ((go_at_call 202; exact Calls.quiet_of (IF.out _ d1 d2))))
  refine Qc ?_;intro _ JB;obtain ⟨nr,Xh⟩:=JB;subst Xh;refine wpList_copyK rfl (.tmp 32) (.tmp 35) _ _ rfl 73 Tryz.underlying48 2 Zm HT.out _ _ _ _ _ _ rfl rfl g (s*2) C 73 UJ.out (L.take (u*2)) u gw OK
   (fun _=>⟨rfl,_,rfl,fun j v hv=>yf.out j v (take_some hv)⟩) gq (fun v hv=>nj.out v (List.mem_of_mem_take hv)) ?_
  intro W1 HD1 K1 S1;have OZ: ¬b=g:=Blk.ne_ Ek.out UJ.out YU;have x1:=K1.cell (p:=⟨b,1,none⟩) OZ (by simpa using d1);have aC: ∀j v,L[j]?=some v→W1.cell? (ad.add j)=some v:=fun j v hv=>K1.cell gB (yf.out j v hv)
  have EG:Hid (Blk W1 b 192 #[.int .i64 size,.slice (some ⟨g,0,none⟩) n n,.int .i64 f,.int .i64 c]):=Lib.hid (Blk.kept (w:=w1.drewN nr) Ek.out K1 OZ);have nh:=Lib.hid aC;have L4:=Lib.hid K1;clear S1 K1 aC d1 d2 d3 oS;go_wp2;refine wqT 8 ?_;refine BA ?_
  repeat (go_big_quiet_step (fail))
  refine Qc ?_;intro _ JB;obtain ⟨ns,Xh⟩:=JB;subst Xh;refine wpList_copyK rfl (.tmp 40) (.tmp 44) _ _ rfl 73 Tryz.underlying48 2 Zm HT.out _ _ _ _ _ _ rfl rfl g 0 _ 73 HD1.out (L.drop (u*2)) (m - u) gC OK
   (fun h0=>⟨rfl,ad.add (u*2),by first | rfl | exact if_neg gy,fun j v hv=>by rw [add_add_]; exact nh.out _ v gz⟩) gj (fun v hv=>nj.out v (List.mem_of_mem_drop hv)) ?_
  intro W2 HD2 K2 S2;have TS:Hid (Blk W2 b 192 #[.int .i64 size,.slice (some ⟨g,0,none⟩) n n,.int .i64 f,.int .i64 c]):=Lib.hid (Blk.kept (w:=W1.drewN ns) EG.out K2 OZ);have y3:=TS.out.cell 3;have z3:=TS.out.frozen 3;have Ku: ∃go',RingAt 192 73 2 (W2.setCell ⟨b,3,none⟩ (.int .i64 ((c:Int)+(m:Int)))) b go' size (c+m) (F++L)∧Moved w go go'∧Kept (Foot b go) w (W2.setCell ⟨b,3,none⟩ (.int .i64 ((c:Int)+(m:Int)))):=by
   have Mf:=HI.out.1;have iu:=HI.out.2.1;refine ⟨some g,?_,ID.out,?_⟩
   ·refine ⟨by rw [List.length_append,Mf,cO.out,Nat.add_mul],fun v hv=>(List.mem_append.1 hv).elim (iu v) (nj.out v),.inr ⟨g,n,f,_,rfl,⟨?_,Blk.far (HD2.out) (Ne.symm OZ) _,?_,cV,hn,Nn,hs⟩,?_⟩⟩
    ·have:=TS.out.set_ 3 (.int .i64 ((c:Int)+(m:Int)));rw [show (c:Int)+(m:Int)=((c+m:Nat) :Int) by omega] at this ⊢;exact this
    ·have:=HC.out; have:=cO.out;rw [length_splice _ _ _ gp,length_splice _ _ _ zB13_2];exact HC.out
    ·have:=push_wheel HW.out Mf HC.out cO.out hn sK.out.symm HU.out
     first | exact this | (simp only [Nat.mul_one] at this ⊢; exact this)
   ·refine Kept.setCell (S:=Foot b go) ?_ (.inl (.inl rfl)) _;have k1:Kept (fun i=>i=g) w1 W2:=((((Kept.refl _ w1).drewN nr).trans L4.out (fun _ _ h=>h)).drewN ns).trans K2 (fun _ _ h=>h);refine (HK.out.more (fun i _ e=> .inl e)).trans k1 (fun i hi e=>?_);subst e
    rcases ID.out _ rfl with h5 | h5
    ·exact .inr h5.symm
    ·omega
  rw [←HLe.out] at Ku;have HE:=Lib.hid Ku;clear S2 K2 Ku;go_wp2
  all_goals
   go_ret;exact ⟨rfl,HE.out⟩) :G:=h
theorem zT3 {G:Prop} (h:G:=by
  go_enter Tryz.func133,Tryz.ntmps133;go_wp2_with fail;refine mE ?_;rintro e w' ⟨rfl,q,rfl⟩;go_wp2_with fail;refine (KEY.out q).mono ?_;rintro e w1 ⟨rfl,g,n,f,C,hr,hw,hn,Sk,hk⟩;obtain ⟨-,d1,d2,d3,-,-,oS⟩:=hr.cells;have aE: ¬ad.block=g:=by
   obtain ⟨_,_,kO⟩:=AU.out;obtain ⟨ad',e,hS,pf⟩:=kO Zm;injection e with e;subst e;rintro hg
   rcases Sk g rfl with h5 | h5
   ·exact hS (.inr (by rw [hg,h5]))
   ·have:=cell_lt (pf 0 _ (List.getElem?_eq_getElem gF));rw [add_block] at this;omega
  have mG:=Lib.hid aE;obtain ⟨L,Cq,hLo,hLc,o3⟩ : ∃L:List Value,L.length=m*2∧(∀v ∈ L,v.oneCell'=true)∧(∀j v,L[j]?=some v→w1.cell? (ad.add j)=some v)∧cs.take (m*2)=L:=by
   obtain ⟨x1,x2,x3⟩:=AU.out.kept hk (fun i _ e=> .inl e);obtain ⟨ad',e,hS,pf⟩:=x3 Zm;injection e with e;subst e;refine ⟨_,by simp; omega,fun v hv=>x2 v (List.mem_of_mem_take hv),fun j v hv=>pf j v (take_some hv),rfl⟩
  obtain ⟨B1,B2,hC,cV,Sf,Nn,-⟩:=hr;have Ek:=Lib.hid B1;have UJ:=Lib.hid B2;have HC:=Lib.hid hC;have HW:=Lib.hid hw;have ID:=Lib.hid Sk;have HK:=Lib.hid hk;have cO:=Lib.hid Cq;have nj:=Lib.hid hLo;have yf:=Lib.hid hLc;have HLe:=Lib.hid o3;clear B1 B2 hC hw Sk hk Cq hLo hLc o3 aE;obtain ⟨s,hsv⟩ : ∃s:Nat,(f+c)%n=s:=⟨_,rfl⟩;have DY:s < n:=by rw [←hsv]; exact Nat.mod_lt _ Zm
  have VM: ∀W:World,W.cell? ⟨b,1,none⟩=some (.slice (some ⟨g,0,none⟩) n n)→W.cell? ⟨b,2,none⟩=some (.int .i64 f)→Calls Tryz.prog 207 #[.pointer (some ⟨b,0,none⟩),.int .i64 c] W fun e w'=>e= .returned (.int .i64 s)∧ ∃m,w'=W.drewN m:=fun W x1 x2=>by
   have:=rq_slot_any b n f c _ n W x1 x2 Zm Zm Zm;rwa [hsv] at this
  have IF:=Lib.hid VM;have sK:=Lib.hid hsv;obtain ⟨u,hu,hu0,hu1,hu2⟩ : ∃u:Nat,u=min m (n - s)∧u≤m∧u≤n - s∧(u=m∨u=n - s):=⟨_,rfl,by omega,by omega,by omega⟩;have HU:=Lib.hid hu;have HU2:=Lib.hid hu2;clear VM hsv hu hu2;go_wp2;refine wqT 14 ?_;refine BA ?_
  repeat (go_big_quiet_step ((go_at_call 207; exact Calls.quiet_of (IF.out _ d1 d2))))
  refine Qc ?_;intro _ JB;obtain ⟨nr,Xh⟩:=JB;subst Xh;refine wpList_copyK rfl (.tmp 32) (.tmp 35) _ _ rfl 75 Tryz.underlying49 2 Zm HT.out _ _ _ _ _ _ rfl rfl g (s*2) C 75 UJ.out (L.take (u*2)) u gw OK
   (fun _=>⟨rfl,_,rfl,fun j v hv=>yf.out j v (take_some hv)⟩) gq (fun v hv=>nj.out v (List.mem_of_mem_take hv)) ?_
  intro W1 HD1 K1 S1;have OZ: ¬b=g:=Blk.ne_ Ek.out UJ.out YU;have x1:=K1.cell (p:=⟨b,1,none⟩) OZ (by simpa using d1);have aC: ∀j v,L[j]?=some v→W1.cell? (ad.add j)=some v:=fun j v hv=>K1.cell gB (yf.out j v hv)
  have EG:Hid (Blk W1 b 195 #[.int .i64 size,.slice (some ⟨g,0,none⟩) n n,.int .i64 f,.int .i64 c]):=Lib.hid (Blk.kept (w:=w1.drewN nr) Ek.out K1 OZ);have nh:=Lib.hid aC;have L4:=Lib.hid K1;clear S1 K1 aC d1 d2 d3 oS;go_wp2;refine wqT 8 ?_;refine BA ?_
  repeat (go_big_quiet_step (fail))
  refine Qc ?_;intro _ JB;obtain ⟨ns,Xh⟩:=JB;subst Xh;refine wpList_copyK rfl (.tmp 40) (.tmp 44) _ _ rfl 75 Tryz.underlying49 2 Zm HT.out _ _ _ _ _ _ rfl rfl g 0 _ 75 HD1.out (L.drop (u*2)) (m - u) gC OK
   (fun h0=>⟨rfl,ad.add (u*2),by first | rfl | exact if_neg gy,fun j v hv=>by rw [add_add_]; exact nh.out _ v gz⟩) gj (fun v hv=>nj.out v (List.mem_of_mem_drop hv)) ?_
  intro W2 HD2 K2 S2;have TS:Hid (Blk W2 b 195 #[.int .i64 size,.slice (some ⟨g,0,none⟩) n n,.int .i64 f,.int .i64 c]):=Lib.hid (Blk.kept (w:=W1.drewN ns) EG.out K2 OZ);have y3:=TS.out.cell 3;have z3:=TS.out.frozen 3;have Ku: ∃go',RingAt 195 75 2 (W2.setCell ⟨b,3,none⟩ (.int .i64 ((c:Int)+(m:Int)))) b go' size (c+m) (F++L)∧Moved w go go'∧Kept (Foot b go) w (W2.setCell ⟨b,3,none⟩ (.int .i64 ((c:Int)+(m:Int)))):=by
   have Mf:=HI.out.1;have iu:=HI.out.2.1;refine ⟨some g,?_,ID.out,?_⟩
   ·refine ⟨by rw [List.length_append,Mf,cO.out,Nat.add_mul],fun v hv=>(List.mem_append.1 hv).elim (iu v) (nj.out v),.inr ⟨g,n,f,_,rfl,⟨?_,Blk.far (HD2.out) (Ne.symm OZ) _,?_,cV,hn,Nn,hs⟩,?_⟩⟩
    ·have:=TS.out.set_ 3 (.int .i64 ((c:Int)+(m:Int)));rw [show (c:Int)+(m:Int)=((c+m:Nat) :Int) by omega] at this ⊢;exact this
    ·have:=HC.out; have:=cO.out;rw [length_splice _ _ _ gp,length_splice _ _ _ zB13_2];exact HC.out
    ·have:=push_wheel HW.out Mf HC.out cO.out hn sK.out.symm HU.out
     first | exact this | (simp only [Nat.mul_one] at this ⊢; exact this)
   ·refine Kept.setCell (S:=Foot b go) ?_ (.inl (.inl rfl)) _;have k1:Kept (fun i=>i=g) w1 W2:=((((Kept.refl _ w1).drewN nr).trans L4.out (fun _ _ h=>h)).drewN ns).trans K2 (fun _ _ h=>h);refine (HK.out.more (fun i _ e=> .inl e)).trans k1 (fun i hi e=>?_);subst e
    rcases ID.out _ rfl with h5 | h5
    ·exact .inr h5.symm
    ·omega
  rw [←HLe.out] at Ku;have HE:=Lib.hid Ku;clear S2 K2 Ku;go_wp2
  all_goals
   go_ret;exact ⟨rfl,HE.out⟩) :G:=h
theorem ZfI {G:Prop} (h:G:=by
  have d1:=cP.out.cell 1;have d2:=cP.out.cell 2;have e1:=cP.out.frozen 1;have e2:=cP.out.frozen 2;clear EG aB Se Wb;go_wp2;go_end0;have hlen:(F++D.drop F.length).length=n'*2:=by
   have h1:=nc.out;have h2:=PW.out;rw [List.length_append,List.length_drop];omega
  refine ⟨rfl,n',F++D.drop F.length,⟨(cP.out.set_ 1 _).set_ 2 _,(Ek.out.far (Ne.symm Hg) _).far (Ne.symm Hg) _,hlen,by omega,by omega,hn3,hs⟩,Wheel.of_prefix (by rw [hlen]; omega),ee,?_⟩;exact Kept.setCell (S:=fun i=>i=b) (Kept.setCell (S:=fun i=>i=b) (M4.out.more_new) (.inl rfl) _) (.inl rfl) _) :G:=h
theorem ZfJ {G:Prop} (h:G:=by
  intro W2 HD2 K2 S2;have Ww:=Lib.hid S2;have M4:=Lib.hid K2;clear S2 K2;have Ku:Blk W2 h 73 (F++D.drop F.length).toArray∧Kept (fun i=>i=h) w W2∧W2.heap.size=w.heap.size:=by
   refine ⟨?_,?_,?_⟩
   ·have:=HD2.out;rw [splice_two gx gH] at this;exact this
   ·exact ((((Kept.refl _ w).drewN nq).drewN nr).trans L4.out (fun _ _ h=>h)).drewN ns |>.trans M4.out (fun _ _ h=>h)
   ·exact Ww.out.trans Mu.out
  have HE:=Lib.hid Ku;clear Ku;go_wp2
  all_goals
   go_end0;exact ⟨rfl,HE.out⟩) :G:=h
theorem ZfK {G:Prop} (h:G:=by
  intro W2 HD2 K2 S2;have Ww:=Lib.hid S2;have M4:=Lib.hid K2;clear S2 K2;have Ku:Blk W2 h 75 (F++D.drop F.length).toArray∧Kept (fun i=>i=h) w W2∧W2.heap.size=w.heap.size:=by
   refine ⟨?_,?_,?_⟩
   ·have:=HD2.out;rw [splice_two gx gH] at this;exact this
   ·exact ((((Kept.refl _ w).drewN nq).drewN nr).trans L4.out (fun _ _ h=>h)).drewN ns |>.trans M4.out (fun _ _ h=>h)
   ·exact Ww.out.trans Mu.out
  have HE:=Lib.hid Ku;clear Ku;go_wp2
  all_goals
   go_end0;exact ⟨rfl,HE.out⟩) :G:=h
theorem Zf5 {G:Prop} (h:G:=by
  clear h0 h1 h2 h3;generalize ceilQ a d=q at*;go_enter Tryz.func333,Tryz.ntmps333;go_wp2_with fail;refine (H.out _).mono ?_;rintro e w' ⟨rfl,rfl⟩;go_wp2;go_ret2;exact ⟨rfl,rfl⟩) :G:=h
theorem Zga {G:Prop} (h:G:=by
  clear hd;go_enter Tryz.func131,Tryz.ntmps131;go_wp2_with fail;refine mE ?_;rintro e w' ⟨rfl,m,rfl⟩;go_wp2;go_ret;exact ⟨rfl,_,rfl⟩) :G:=h
theorem Zgb {G:Prop} (h:G:=by
  clear hd;go_enter Tryz.func133,Tryz.ntmps133;go_wp2_with fail;refine mE ?_;rintro e w' ⟨rfl,m,rfl⟩;go_wp2;go_ret;exact ⟨rfl,_,rfl⟩) :G:=h
theorem Zgx {G:Prop} (h:G:=by
  have:=Nat.mul_le_mul_left n (Nat.succ_le_of_lt hc);rw [Nat.succ_eq_add_one,Nat.mul_add,Nat.mul_one] at this;omega) :G:=h
theorem Zgy {G:Prop} (h:G:=by
  have HF:=Lib.hid hf;clear hf;go_enter Tryz.func334,Tryz.ntmps334;go_wp2;go_ret2;exact ⟨by rw [HF.out]; rfl,rfl⟩) :G:=h
theorem ZcG {G:Prop} (h:G:=by
  have HF:=Lib.hid hf;clear hf;go_enter Tryz.func211,Tryz.ntmps211;go_wp2;go_ret;exact ⟨by rw [HF.out]; rfl,rfl⟩) :G:=h
theorem zH {G:Prop} (h:G:=by
  rw [fput_other hln] at UR;exact h.ap j l Zm Zm DW i hi UR) :G:=h
theorem zK {G:Prop} (h:G:=by
  simp only [Bool.and_eq_true] at this;exact ⟨this.1,by simpa using this.2⟩) :G:=h
theorem jF {G:Prop} (h:G:=by
  go_wp2;go_ret;exact ⟨rfl,_,rfl⟩) :G:=h
section
def J4 (L:List Bool)(s:Nat) :Nat→List Nat
 | 0=> []
 | k+1=>if L.getD ((s+k)%L.length) false=true then J4 L s k++[(s+k)%L.length] else J4 L s k
def KS (L:List Bool)(s k:Nat) :List Int:=(J4 L s k).map fun i:Nat=>(i:Int)
def DN (n s k:Nat) :Nat:=if k=0 then s else(s+k)%n
def M6 (L:List Bool)(s:Nat)(v p:Int)(m:Nat) :Prop:=
 (v≤(m:Int)∨L.length≤m∨p≤((J4 L s m).length:Int))∧ ∀j,j < m→(j:Int)< v∧j < L.length∧((J4 L s j).length:Int)< p
section
variable {L:List Bool} {s m m' k:Nat} {v p:Int}
theorem M6.unique (h:M6 L s v p m)(h':M6 L s v p m') :m=m':=by
 obtain ⟨h1,h2⟩:=h;obtain ⟨g1,g2⟩:=h'
 rcases Nat.lt_trichotomy m m' with h | h | h
 ·have:=g2 m h; omega
 ·exact h
 ·have:=h2 m' h; omega
theorem M6.le (h:M6 L s v p m) :m≤L.length:=by
 rcases QW m with h0 | h0
 ·omega
 ·have:=h.2 (m - 1) Zm; omega
theorem M6.le_v (h:M6 L s v p m) :m=0∨(m:Int)≤v:=by
 rcases QW m with h0 | h0
 ·exact .inl h0
 ·have:=h.2 (m - 1) Zm; omega
theorem lz (h:L.getD ((s+k)%L.length) false=true) :J4 L s (k+1)=J4 L s k++[(s+k)%L.length]:=by rw [J4,if_pos h]
theorem e9 (h:L.getD ((s+k)%L.length) false=false) :J4 L s (k+1)=J4 L s k:=by rw [J4,if_neg (by rw [h]; simp)]
theorem lA (L:List Bool)(s k:Nat) :(J4 L s k).length≤k:=by
 induction k with
 | zero=>simp [J4]
 | succ k ih=>
  rw [J4]; split
  ·rw [List.length_append,List.length_singleton]; omega
  ·omega
theorem SI (L:List Bool)(s k:Nat) :(J4 L s (k+1)).length≤(J4 L s k).length+1:=by
 rw [J4]; split
 ·simp
 ·omega
theorem M6.le_p (h:M6 L s v p m) :(J4 L s m).length=0∨((J4 L s m).length:Int)≤p:=by
 rcases QW m with h0 | h0
 ·subst h0; exact .inl rfl
 ·obtain ⟨k,rfl⟩ : ∃k,m=k+1:=⟨m - 1,by omega⟩;have:=h.2 k Zm;have:=SI L s k;omega
theorem Ai (L:List Bool)(s k:Nat) :(KS L s k).length=(J4 L s k).length:=by simp [KS]
theorem lB (h:L.getD ((s+k)%L.length) false=true) :KS L s (k+1)=KS L s k++[(((s+k)%L.length:Nat) :Int)]:=by simp [KS,lz h]
theorem fe (h:L.getD ((s+k)%L.length) false=false) :KS L s (k+1)=KS L s k:=by simp [KS,e9 h]
theorem LM {i:Nat} : ∀ {k:Nat},i ∈ J4 L s k→(∃j,j < k∧i=(s+j)%L.length)∧L.getD i false=true
 | 0,h=>by simp [J4] at h
 | k+1,h=>by
  rw [J4] at h
  split at h
  ·rename_i hg
   rw [List.mem_append] at h
   rcases h with h | h
   ·obtain ⟨⟨j,hj,e⟩,h2⟩:=LM h;exact ⟨⟨j,by omega,e⟩,h2⟩
   ·rw [YV] at h;subst h;exact ⟨⟨k,by omega,rfl⟩,hg⟩
  ·obtain ⟨⟨j,hj,e⟩,h2⟩:=LM h;exact ⟨⟨j,by omega,e⟩,h2⟩
theorem ZbM {n s i j:Nat}(hij:i < j)(hj:j < i+n) :(s+i)%n≠(s+j)%n:=by
 intro h;have h1:=Kl (s+i) n;have h2:=Kl (s+j) n;rw [h] at h1;have h3:n*((s+j)/n)=n*((s+i)/n)+(j - i):=by omega
 rcases Nat.lt_trichotomy ((s+j)/n) ((s+i)/n) with hc | hc | hc
 ·exact Zgx
 ·rw [hc] at h3; omega
 ·exact Zgx
theorem Pc: ∀ {k:Nat},k≤L.length→(J4 L s k).Nodup
 | 0,_=>by simp [J4]
 | k+1,hk=>by
  have ih:=Pc (k:=k) Zm;rw [J4]
  split
  ·rw [List.nodup_append];refine ⟨ih,by simp,fun a ha b hb=>?_⟩;rw [YV] at hb;subst hb;obtain ⟨⟨j,hj,rfl⟩,_⟩:=LM ha;exact ZbM hj Zm
  ·exact ih
theorem qI (n s k:Nat) :DN n s k%n=(s+k)%n:=by
 unfold DN
 split
 ·rename_i h; rw [h,Nat.add_zero]
 ·exact Nat.mod_mod _ _
theorem lK (n s k:Nat) :((s+k)%n+1)%n=DN n s (k+1):=by
 unfold DN;rw [if_neg Zm,Nat.mod_add_mod,Nat.add_assoc]
theorem wi {n s k:Nat}(hn:0 < n)(hk:0 < k) :DN n s k < n:=by
 unfold DN;rw [if_neg Zm];exact Nat.mod_lt _ hn
theorem wh {n s k:Nat}(hn:n≤100)(hs:s≤100)(hk:k≤n) :DN n s k≤100:=by
 rcases QW k with h | h
 ·subst h; exact hs
 ·have:=wi (s:=s) (show 0 < n by omega) h; omega
theorem rh (h: ∀j,j < m→(j:Int)< v∧j < L.length∧((J4 L s j).length:Int)< p)(h1:(m:Int)< v)(h2:m < L.length)(h3:((J4 L s m).length:Int)< p) :
  ∀j,j < m+1→(j:Int)< v∧j < L.length∧((J4 L s j).length:Int)< p:=by
 intro j hj
 by_cases e:j=m
 ·subst e; exact ⟨h1,h2,h3⟩
 ·exact h j Zm
end
theorem M6.ge {L:List Bool}{s m v p:Nat}(h:M6 L s v p m) :L.length≤m∨min v p≤m:=by
 have:=lA L s m
 rcases h.1 with h | h | h
 ·exact .inr Zm
 ·exact .inl h
 ·exact .inr Zm
end
section
open Go Go.RowKit
def mF (w:Zc)(c s:Nat) :Prop:=Blk w c 198 #[.int .i64 (s:Int)]
theorem eS (w:Zc) :Zj Zb 75 #[] w fun e w'=> ∃c,e= .returned (.pointer (some ⟨c,0,none⟩))∧w.heap.size≤c∧Hid (mF w' c 0)∧Zs w.heap.size w w':=by
 go_enter Tryz.func75,Tryz.ntmps75;go_wp2;go_ret;exact ⟨w.heap.size,rfl,Zg _,Za (Zv w _ _),(Below.refl _ _).alloc (Zg _) _⟩
theorem Zam (c s:Nat)(w:Zc)(h:mF w c s) :Zj Zb 61 #[.pointer (some ⟨c,0,none⟩)] w fun e w'=>e= .returned (.int .i64 s)∧w=w':=by
 have x:=h.cell 0;clear h;go_enter Tryz.func61,Tryz.ntmps61;exact UI
end
section
open Go Go.RowKit
theorem cI (s n:Nat) :((s:Int)).tmod (n:Int)=((s%n:Nat) :Int):=by
 rw [Int.tmod_eq_emod_of_nonneg Zm,Int.natCast_emod]
theorem bC (bp bn c s n:Nat)(w:Zc)(h1:Blk w bp 90 #[.pointer (some ⟨c,0,none⟩)])(h2:Blk w bn 3 #[.int .i64 (n:Int)])(h3:mF w c s)(hs:s≤100)(hn:0 < n)(hn':n≤100) :
  Zj Zb 320 #[.pointer (some ⟨bp,0,none⟩),.pointer (some ⟨bn,0,none⟩)] w fun e w'=>e= .returned (.int .i64 ((s%n:Nat) :Int))∧mF w' c ((s%n+1)%n)∧Kept (fun i=>i=c) w w':=by
 have x1:=h1.cell 0;have x2:=h2.cell 0;have x3:=h3.cell 0;have f3:=h3.frozen 0;have H3:=Za h3;have e1:=cI s n;have e2:=cI (s%n+1) n;have hm:=Nat.mod_lt s hn;generalize hr:s%n=r at*;rw [Int.natCast_add] at e2;have e3:IntKind.i64.wrap ((r:Int)+1)=(r:Int)+1:=IntWalk.i64_in _ Zm;have KF: ¬(n:Int)=0:=by omega
 clear h1 h2 h3 hr;go_enter Tryz.func320,Tryz.ntmps320;go_wp2;go_quiet (fail);go_wp2;go_region
 all_goals go_wp2
 all_goals go_ret
 all_goals refine ⟨rfl,?_,?_⟩
 ·have h:=(H3.out.drewN (nq+1)).set_ 0 (.int .i64 (((r:Int)+1)%n));have e:((r:Int)+1)%n=(((r+1)%n:Nat) :Int):=by rw [Int.natCast_emod]; rfl
  rw [e] at h ⊢;exact h
 ·exact Kept.setCell (S:=fun i=>i=c) (p:=⟨c,0,none⟩) ((ZH (fun i=>i=c) w).drewN (nq+1)) (.inl rfl) _
theorem bg (c n:Nat)(w:Zc) :
  Zj Zb 303 #[.pointer (some ⟨c,0,none⟩),.int .i64 n] w fun e w'=>e= .returned (.func (.func 320) #[] #[.pointer (some ⟨w.heap.size,0,none⟩),.pointer (some ⟨w.heap.size+1,0,none⟩)])∧(w.alloc (.cells #[.pointer (some ⟨c,0,none⟩)] 90)).alloc (.cells #[.int .i64 n] 3)=w':=by
 have Ix: ∀(fn:Fn) (first cap:Array Zl) (w:Zc),(Instr.makeFunc fn first cap).run Zb w= .ok (.func fn first cap) w:=fun _ _ _ _=>rfl
 go_enter Tryz.func303,Tryz.ntmps303;exact UI
end
section
open Go.RowKit Go.Lib
def Em (a m q:Int) :Int:=if q=0 then m else if m < a/q then a/q else m
theorem j6 (a m q:Int)(w:Zc)(a0:0≤a)(a1:a≤18446744073709551615)(q0:0≤q)(q1:q≤18446744073709551615) :
  Zj Zb 211 #[.int .u64 a,.int .u64 m,.int .u64 q] w fun e w'=>e= .returned (.int .u64 (Em a m q))∧w=w':=by
 by_cases hq:q=0
 ·have hf:Em a m q=m:=by unfold Em; rw [if_pos hq]
  subst hq;exact ZcG
 ·have hd:(q==0)=false:=by simp; omega
  have mW:0≤a/q:=KV a0 Zm;have hq2:a/q≤a:=KA _ a0
  by_cases hm:a/q≤m
  ·have hf:Em a m q=m:=by unfold Em; rw [if_neg hq,if_neg Zm]
   exact ZcG
  ·have hf:Em a m q=a/q:=by unfold Em; rw [if_neg hq,if_pos Zm]
   exact ZcG
def ceilQ (a d:Int) :Int:=if a%d=0 then a/d else a/d+1
theorem oe (a d:Int)(h0:0≤a)(h1:a≤18446744073709551615)(h2:1≤d)(hm: ¬a%d=0) :a/d+1≤18446744073709551615:=by
 by_cases e:d=1
 ·subst e; simp at hm
 ·have h3:a/d < 9223372036854775808:=Int.ediv_lt_of_lt_mul Zm (by
   have:9223372036854775808*2≤9223372036854775808*d:=Int.mul_le_mul_of_nonneg_left Zm Zm;omega)
  omega
theorem Cd (a d:Int)(h0:0≤a)(h2:1≤d) :0≤ceilQ a d:=by
 have hq:0≤a/d:=KV h0 Zm;unfold ceilQ
 split <;> omega
def R6 (a d:Int) :Bool:=decide (d≠0∧ceilQ a d≤1099511627776)
def epQ (a d:Int) :Int:=if R6 a d=true then ceilQ a d else 0
theorem uP (a d:Int)(h:d=0) :epQ a d=0∧R6 a d=false:=by
 have:R6 a d=false:=by unfold R6; exact decide_eq_false (fun x=>x.1 h)
 exact ⟨by unfold epQ; rw [this]; rfl,this⟩
theorem Cl (a d:Int)(h: ¬ceilQ a d≤1099511627776) :epQ a d=0∧R6 a d=false:=by
 have:R6 a d=false:=by unfold R6; exact decide_eq_false (fun x=>h x.2)
 exact ⟨by unfold epQ; rw [this]; rfl,this⟩
theorem dN (a d:Int)(h: ¬d=0)(h':ceilQ a d≤1099511627776) :epQ a d=ceilQ a d∧R6 a d=true:=by
 have:R6 a d=true:=by unfold R6; exact decide_eq_true ⟨h,h'⟩
 exact ⟨by unfold epQ; rw [if_pos this],this⟩
theorem jX (a:Int)(w:Zc) :
  Zj Zb 334 #[.int .u64 a,.int .u64 0] w fun e w'=>e= .returned (.tuple #[.int .u64 0,.bool false])∧w=w':=by
 go_enter Tryz.func334,Tryz.ntmps334;exact AN
theorem IY (a d:Int)(w:Zc)(h0:0≤a)(h1:a≤18446744073709551615)(h2:1≤d)(h3:d≤18446744073709551615) :
  Zj Zb 334 #[.int .u64 a,.int .u64 d] w fun e w'=>e= .returned (.tuple #[.int .u64 (ceilQ a d),.bool true])∧w=w':=by
 have hd:(d==0)=false:=by simp; omega
 have hq:0≤a/d:=KV h0 Zm;have hq2:a/d≤a:=KA _ h0
 by_cases hm:a%d=0
 ·have hf:ceilQ a d=a/d:=by unfold ceilQ; rw [if_pos hm]
  exact Zgy
 ·have hq3:=oe a d h0 h1 h2 hm;have hf:ceilQ a d=a/d+1:=by unfold ceilQ; rw [if_neg hm]
  exact Zgy
theorem ak (a:Int)(w:Zc) :
  Zj Zb 333 #[.int .u64 a,.int .u64 0] w fun e w'=>e= .returned (.tuple #[.int .i64 0,.bool false])∧w=w':=by
 have H:=Za (fun w=>jX a w);go_enter Tryz.func333,Tryz.ntmps333;go_wp2_with fail;refine (H.out _).mono ?_;rintro e w' ⟨rfl,rfl⟩;exact AN
theorem aj (a d:Int)(w:Zc)(h0:0≤a)(h1:a≤18446744073709551615)(h2:1≤d)(h3:d≤18446744073709551615)(h4:1099511627776 < ceilQ a d) :
  Zj Zb 333 #[.int .u64 a,.int .u64 d] w fun e w'=>e= .returned (.tuple #[.int .i64 0,.bool false])∧w=w':=by
 have H:=Za (fun w=>IY a d w h0 h1 h2 h3);exact Zf5
theorem dP (a d:Int)(w:Zc)(h0:0≤a)(h1:a≤18446744073709551615)(h2:1≤d)(h3:d≤18446744073709551615)(h4:ceilQ a d≤1099511627776) :
  Zj Zb 333 #[.int .u64 a,.int .u64 d] w fun e w'=>e= .returned (.tuple #[.int .i64 (ceilQ a d),.bool true])∧w=w':=by
 have H:=Za (fun w=>IY a d w h0 h1 h2 h3);have h5:=Cd a d h0 h2;exact Zf5
theorem dO (a d:Int)(w:Zc)(h0:0≤a)(h1:a≤18446744073709551615)(h2:0≤d)(h3:d≤18446744073709551615) :
  Zj Zb 333 #[.int .u64 a,.int .u64 d] w fun e w'=>e= .returned (.tuple #[.int .i64 (epQ a d),.bool (R6 a d)])∧w=w':=by
 by_cases hd:d=0
 ·have h:=uP a d hd;rw [h.1,h.2];subst hd;exact ak a w
 ·by_cases h4:ceilQ a d≤1099511627776
  ·have h:=dN a d hd h4;rw [h.1,h.2];exact dP a d w h0 h1 Zm h3 h4
  ·have h:=Cl a d h4;rw [h.1,h.2];exact aj a d w h0 h1 Zm h3 Zm
end
section
def VD (lim:Int)(p:Nat × Int)(x:Int) :Nat × Int:=if p.1=0∨lim < p.2+x then(p.1+1,x) else(p.1,p.2+x)
def yq (lim:Int) :Nat × Int→List Int→Nat × Int
 | p,[]=>p
 | p,x::r=>yq lim (VD lim p x) r
def oo (lim s:Int) :List Int→Nat
 | []=>0
 | y::r=>if lim < s+y then 0 else 1+oo lim (s+y) r
def FW (lim:Int) :List Int→Nat
 | []=>0
 | x::r=>1+oo lim x r
def bnd (lim:Int)(X:List Int) :Nat:=(yq lim (0,0) X).1
section
variable {lim s x:Int} {X r:List Int} {k j n m:Nat}
theorem RO (lim s x:Int) :VD lim (0,s) x=(1,x):=by simp [VD]
theorem WG (h: ¬lim < s+x) :VD lim (k+1,s) x=(k+1,s+x):=by simp [VD,h]
theorem RN (h:lim < s+x) :VD lim (k+1,s) x=(k+1+1,x):=by simp [VD,h]
theorem oq: ∀(X:List Int) (s:Int),oo lim s X≤X.length
 | [],s=>Zg _
 | y::r,s=>by
  have:=oq r (s+y);rw [oo,Yp]
  split <;> omega
theorem A6 (X:List Int) :FW lim X≤X.length:=by
 cases X with
 | nil=>exact Zg _
 | cons y r=>have:=oq (lim:=lim) r y; rw [FW,Yp]; omega
def Stp (lim:Int)(X:List Int)(n:Nat) :Prop:=
 n≤X.length∧(∀m,0 < m→m < n→QB X (m+1)≤lim)∧(n < X.length→0 < n∧lim < QB X (n+1))
theorem Stp.unique (h:Stp lim X n)(k:Stp lim X m) :n=m:=by
 rcases Nat.lt_trichotomy n m with hl | hl | hl
 ·obtain ⟨h1,h2⟩:=h.2.2 (by have:=k.1; omega);have:=k.2.1 n h1 hl;omega
 ·exact hl
 ·obtain ⟨h1,h2⟩:=k.2.2 (by have:=h.1; omega);have:=h.2.1 m h1 hl;omega
theorem Bz (y:Int)(r:List Int) : ∀k,QB (y::r) (k+1)=y+QB r k
 | 0=>by simp [QB]
 | k+1=>by rw [QB,Bz y r k,QB]; simp; omega
theorem I3: ∀(X:List Int) (s:Int),(∀m,m < oo lim s X→s+QB X (m+1)≤lim)∧(oo lim s X < X.length→lim < s+QB X (oo lim s X+1))
 | [],s=>⟨fun m h=>by simp [oo] at h,fun h=>by simp at h⟩
 | y::r,s=>by
  rw [oo]
  by_cases h:lim < s+y
  ·rw [if_pos h];exact ⟨fun m hm=>by omega,fun _=>by simp [QB]; exact h⟩
  ·rw [if_neg h];obtain ⟨h1,h2⟩:=I3 r (s+y);refine ⟨fun m hm=>?_,fun hl=>?_⟩
   ·rw [Bz]
    cases m with
    | zero=>simp [QB]; omega
    | succ m=>have:=h1 m Zm; omega
   ·rw [Yp] at hl;have:=h2 Zm;rw [Nat.add_comm 1 (oo lim (s+y) r),Bz];omega
theorem RJ (lim:Int)(X:List Int) :Stp lim X (FW lim X):=by
 refine ⟨A6 X,?_⟩
 cases X with
 | nil=>exact ⟨fun m h1 h2=>by simp [FW] at h2,fun h=>by simp at h⟩
 | cons y r=>
  obtain ⟨h1,h2⟩:=I3 (lim:=lim) r y;rw [FW];refine ⟨fun m h3 h4=>?_,fun h3=>⟨by omega,?_⟩⟩
  ·obtain ⟨j,rfl⟩ : ∃j,m=j+1:=⟨m - 1,by omega⟩;rw [Bz];exact h1 j Zm
  ·rw [Yp] at h3;rw [Nat.add_comm 1 (oo lim y r),Bz];exact h2 Zm
end
end
section
open Go Go.RowKit
def Ue (L:List Int) :Array Zl:=(L.map (Value.int .u64)).toArray
theorem jZ {L:List Int}{i:Nat}(hi:i < L.length) :(Ue L)[i]?=some (.int .u64 (L.getD i 0)):=by
 rw [Ue,List.getElem?_toArray,List.getElem?_map,List.getD_eq_getElem?_getD,List.getElem?_eq_getElem hi];rfl
theorem dz (L:List Int)(i:Nat)(b:Int) :(Ue L).setIfInBounds i (.int .u64 b)=Ue (L.set i b):=by
 simp [Ue,List.map_set]
theorem lj (n:Nat) :madeCells #[.int .u64 0] n=Ue (Zy n 0):=by
 apply Array.ext
 ·simp [madeCells,Ue]
 ·intro i h1 h2;simp [madeCells,Nat.mod_one,Ue]
theorem cJ: ∃i,Tryz.prog.info? 22=some i∧i.zero=some (.int .u64 0)∧i.size=1∧i.bytes=8:=by
 have h:(Tryz.prog.info? 22).map (fun i=>(i.zero,i.size,i.bytes))=some (some (.int .u64 0),1,8):=by kernel_rfl
 cases hi:Tryz.prog.info? 22 with
 | none=>rw [hi] at h; cases h
 | some i=>
  rw [hi] at h;simp at h;exact ⟨i,rfl,h.1,h.2.1,h.2.2⟩
theorem Fb (n:Nat)(hn:n≤100000)(w:Zc) :
  (Instr.makeSlice 143 (.int .i64 (n:Int)) (.int .i64 (n:Int))).run Zb w= .ok (.slice (some ⟨w.heap.size,0,none⟩) n n) (w.alloc (.cells (Ue (Zy n 0)) 22)):=by
 obtain ⟨i,hi,hz,hs,LJ⟩:=cJ;have Dw:=QZ (P:=Zb) 143 22 i _ Tryz.underlying143 hi hz .i64 .i64 n n (Zg _) TI Zm w;rw [hs,Nat.mul_one] at Dw;have td:(Value.int .u64 0).cells= #[.int .u64 0]:=rfl;rw [td,lj] at Dw;exact Dw
def Fk (w:Zc)(g:Nat)(L:List Int) :Prop:=Blk w g 22 (Ue L)
section
variable {w:Zc} {g:Nat} {L:List Int}
theorem Fk.cell (h:Fk w g L){i:Nat}(hi:i < L.length) :w.cell? ⟨g,i,none⟩=some (.int .u64 (L.getD i 0)):=(Blk.cell h i).trans (jZ hi)
theorem Fk.frozen (h:Fk w g L)(i:Nat) :w.frozen? ⟨g,i,none⟩=false:=Blk.frozen h i
theorem Fk.set (h:Fk w g L)(i:Nat)(b:Int) :Fk (w.setCell ⟨g,i,none⟩ (.int .u64 b)) g (L.set i b):=by
 have:=Vy h i (.int .u64 b);rw [dz] at this;exact this
theorem Fk.drewN (h:Fk w g L)(n:Nat) :Fk (w.drewN n) g L:=h
theorem Fk.alloc (h:Fk w g L)(o:Obj) :Fk (w.alloc o) g L:=Blk.alloc h o
theorem Fk.below {w':Zc}(h:Fk w g L)(hb:Zs w.heap.size w w') :Fk w' g L:=Blk.below h hb (Blk.lt h)
end
end
section
open Go.RowKit
def Xa (p:Zc→(Nat→Prop)→Prop) :Prop:=(∀w S,p w S→ ∀i,S i→i < w.heap.size)∧ ∀w w' S T,p w S→Kept T w w'→(∀i,S i→ ¬T i)→p w' S
structure Fam (n:Nat)(P:Nat→Zc→(Nat→Prop)→Prop)(Φ:Nat→Nat→Prop)(w:Zc) :Prop where
 part: ∀k,k < n→P k w (Φ k)
 lt: ∀k,k < n→ ∀i,Φ k i→i < w.heap.size
 ap: ∀j k,j < n→k < n→j≠k→ ∀i,Φ j i→ ¬Φ k i
def Dc (Φ:Nat→Nat→Prop)(k:Nat)(S:Nat→Prop) :Nat→Nat→Prop:=fun j=>if j=k then S else Φ j
section
variable {n:Nat} {P P':Nat→Zc→(Nat→Prop)→Prop} {Φ:Nat→Nat→Prop} {w w':Zc} {S' T:Nat→Prop}
theorem Xf (k:Nat) :Dc Φ k S' k=S':=if_pos rfl
theorem fput_other {j k:Nat}(h:j≠k) :Dc Φ k S' j=Φ j:=if_neg h
theorem Fam.kept (h:Fam n P Φ w)(hP: ∀j,j < n→Xa (P j))(hk:Kept T w w')(hT: ∀k,k < n→ ∀i,Φ k i→ ¬T i) :Fam n P Φ w':=
 ⟨fun k DX=>(hP k DX).2 w w' _ T (h.part k DX) hk (hT k DX),fun k DX i hi=>Ya (h.lt k DX i hi) hk.size,h.ap⟩
theorem Fam.below (h:Fam n P Φ w)(hP: ∀j,j < n→Xa (P j))(hb:Zs w.heap.size w w') :Fam n P Φ w':=
 h.kept hP (Kept.of_below (S:=fun _=>False) hb) (fun _ _ _ _ h=>h)
theorem Fam.turn (h:Fam n P Φ w)(hP: ∀j,j < n→Xa (P j)){k:Nat}(hk:k < n)(GU: ∀j,j < n→j≠k→P' j=P j)(u4:Xa (P' k))(hn:P' k w' S')(hS: ∀i,S' i→Φ k i∨w.heap.size≤i)
  (hkp:Kept (Φ k) w w') :Fam n P' (Dc Φ k S') w':=by
 refine ⟨fun j hj=>?_,fun j hj i hi=>?_,fun j l hj hl DW i hi UR=>?_⟩
 ·by_cases EU:j=k
  ·subst EU; rw [Xf]; exact hn
  ·rw [fput_other EU,GU j hj EU];exact (hP j hj).2 w w' _ _ (h.part j hj) hkp (h.ap j k hj hk EU)
 ·by_cases EU:j=k
  ·subst EU; rw [Xf] at hi; exact u4.1 w' S' hn i hi
  ·rw [fput_other EU] at hi;exact Ya (h.lt j hj i hi) hkp.size
 ·by_cases EU:j=k
  ·subst EU;rw [Xf] at hi;rw [fput_other (fun e=>DW e.symm)] at UR
   rcases hS i hi with h1 | h1
   ·exact h.ap j l hj hl DW i h1 UR
   ·exact absurd (h.lt l hl i UR) Zm
  ·rw [fput_other EU] at hi
   by_cases Ml:l=k
   ·subst Ml;rw [Xf] at UR
    rcases hS i UR with h1 | h1
    ·exact h.ap j l hj hl EU i hi h1
    ·exact absurd (h.lt j hj i hi) Zm
   ·rw [fput_other Ml] at UR;exact h.ap j l hj hl DW i hi UR
theorem Fam.turn2 (h:Fam n P Φ w)(hP: ∀j,j < n→Xa (P j)){k m:Nat}(hk:k < n)(hm:m < n)(hkm:k≠m)(GU: ∀j,j < n→j≠k→j≠m→P' j=P j)(hPk:Xa (P' k))(hPm:Xa (P' m)){R':Nat→Prop}
  (sX:P' k w' S') (iC:P' m w' R') (hS: ∀i,S' i→Φ k i∨w.heap.size≤i) (hR: ∀i,R' i→Φ m i) (hSR: ∀i,S' i→ ¬R' i)
  (hkp:Kept T w w') (hT: ∀i,T i→Φ k i∨Φ m i) :Fam n P' (Dc (Dc Φ k S') m R') w':=by
 have base: ∀j,j < n→j≠k→j≠m→ ∀i,Φ j i→ ¬T i:=fun j hj h1 h2 i hi ht=>by
  rcases hT i ht with h3 | h3
  ·exact h.ap j k hj hk h1 i hi h3
  ·exact h.ap j m hj hm h2 i hi h3
 have at1:Dc (Dc Φ k S') m R' k=S':=by rw [fput_other hkm,Xf]
 have at2:Dc (Dc Φ k S') m R' m=R':=Xf m;have at3: ∀j,j≠k→j≠m→Dc (Dc Φ k S') m R' j=Φ j:=fun j h1 h2=>by rw [fput_other h2,fput_other h1]
 have Qo: ∀j,j < n→j≠k→j≠m→ ∀i,Φ j i→ ¬S' i∧ ¬R' i:=fun j hj h1 h2 i hi=>⟨fun hs=>by
  rcases hS i hs with h3 | h3
  ·exact h.ap j k hj hk h1 i hi h3
  ·exact absurd (h.lt j hj i hi) Zm,fun hr=>h.ap j m hj hm h2 i hi (hR i hr)⟩
 refine ⟨fun j hj=>?_,fun j hj i hi=>?_,fun j l hj hl DW i hi UR=>?_⟩
 ·by_cases h1:j=k
  ·subst h1; rw [at1]; exact sX
  ·by_cases h2:j=m
   ·subst h2; rw [at2]; exact iC
   ·rw [at3 j h1 h2,GU j hj h1 h2];exact (hP j hj).2 w w' _ _ (h.part j hj) hkp (base j hj h1 h2)
 ·by_cases h1:j=k
  ·subst h1; rw [at1] at hi; exact hPk.1 w' S' sX i hi
  ·by_cases h2:j=m
   ·subst h2; rw [at2] at hi; exact hPm.1 w' R' iC i hi
   ·rw [at3 j h1 h2] at hi;exact Ya (h.lt j hj i hi) hkp.size
 ·by_cases h1:j=k
  ·subst h1;rw [at1] at hi
   by_cases h2:l=m
   ·subst h2; rw [at2] at UR; exact hSR i hi UR
   ·rw [at3 l (fun e=>DW e.symm) h2] at UR;exact (Qo l hl (fun e=>DW e.symm) h2 i UR).1 hi
  ·by_cases h2:j=m
   ·subst h2;rw [at2] at hi
    by_cases h3:l=k
    ·subst h3; rw [at1] at UR; exact hSR i UR hi
    ·rw [at3 l h3 (fun e=>DW e.symm)] at UR;exact (Qo l hl h3 (fun e=>DW e.symm) i UR).2 hi
   ·rw [at3 j h1 h2] at hi
    by_cases h3:l=k
    ·subst h3; rw [at1] at UR; exact (Qo j hj h1 h2 i hi).1 UR
    ·by_cases h4:l=m
     ·subst h4; rw [at2] at UR; exact (Qo j hj h1 h2 i hi).2 UR
     ·rw [at3 l h3 h4] at UR;exact h.ap j l hj hl DW i hi UR
theorem Fam.more (h:Fam n P Φ w)(hP: ∀j,j < n→Xa (P j))(u4:Xa (P' n))(GU: ∀j,j < n→P' j=P j)(hn:P' n w' S')(hS: ∀i,S' i→w.heap.size≤i)(hb:Zs w.heap.size w w') :Fam (n+1) P' (Dc Φ n S') w':=by
 have k:=h.below hP hb;refine ⟨fun j hj=>?_,fun j hj i hi=>?_,fun j l hj hl DW i hi UR=>?_⟩
 ·by_cases Dj:j=n
  ·subst Dj; rw [Xf]; exact hn
  ·rw [fput_other Dj,GU j Zm]; exact k.part j Zm
 ·by_cases Dj:j=n
  ·subst Dj; rw [Xf] at hi; exact u4.1 w' S' hn i hi
  ·rw [fput_other Dj] at hi; exact k.lt j Zm i hi
 ·by_cases Dj:j=n
  ·subst Dj;rw [Xf] at hi;rw [fput_other (fun e=>DW e.symm)] at UR;have:=h.lt l Zm i UR;have:=hS i hi;omega
  ·rw [fput_other Dj] at hi
   by_cases hln:l=n
   ·subst hln;rw [Xf] at UR;have:=h.lt j Zm i hi;have:=hS i UR;omega
   ·exact zH
theorem Fam.put (h:Fam n P Φ w)(GU: ∀j,j < n→P' j=P j)(hn:P' n w S')(hl: ∀i,S' i→i < w.heap.size)(hd: ∀k,k < n→ ∀i,Φ k i→ ¬S' i) :Fam (n+1) P' (Dc Φ n S') w:=by
 refine ⟨fun j hj=>?_,fun j hj i hi=>?_,fun j l hj hl' DW i hi UR=>?_⟩
 ·by_cases Dj:j=n
  ·subst Dj; rw [Xf]; exact hn
  ·rw [fput_other Dj,GU j Zm]; exact h.part j Zm
 ·by_cases Dj:j=n
  ·subst Dj; rw [Xf] at hi; exact hl i hi
  ·rw [fput_other Dj] at hi; exact h.lt j Zm i hi
 ·by_cases Dj:j=n
  ·subst Dj;rw [Xf] at hi;rw [fput_other (fun e=>DW e.symm)] at UR;exact hd l Zm i UR hi
  ·rw [fput_other Dj] at hi
   by_cases hln:l=n
   ·subst hln;rw [Xf] at UR;exact hd j Zm i hi UR
   ·exact zH
theorem Fam.less (h:Fam (n+1) P Φ w)(GU: ∀j,j < n→P' j=P j) :Fam n P' Φ w:=
 ⟨fun j hj=>by rw [GU j hj]; exact h.part j Zm,fun j hj=>h.lt j Zm,fun j k hj hk=>h.ap j k Zm Zm⟩
theorem Fam.remap {M:Nat}(h:Fam M P Φ w)(f:Nat→Nat)(hf: ∀k,k < n→f k < M)(ec: ∀j k,j < n→k < n→f j=f k→j=k)(hP: ∀k,k < n→P' k=P (f k)) :Fam n P' (fun k=>Φ (f k)) w:=
 ⟨fun k hk=>by rw [hP k hk]; exact h.part _ (hf k hk),fun k hk=>h.lt _ (hf k hk),fun j k hj hk EU=>h.ap _ _ (hf j hj) (hf k hk) fun e=>EU (ec j k hj hk e)⟩
theorem Fam.zero:Fam 0 P Φ w:=⟨fun k hk=>by omega,fun k hk=>by omega,fun j k hj=>by omega⟩
theorem By {b t:Nat}{cs:Array Zl} :Xa fun w S=>Blk w b t cs∧ ∀i,S i ↔ i=b:=
 ⟨fun w S h i hi=>by rw [(h.2 i).1 hi]; exact h.1.lt,fun w w' S T h hk hT=>⟨h.1.kept hk (hT b ((h.2 b).2 rfl)),h.2⟩⟩
end
end
section
open Go.RowKit
theorem qj (L:Int)(w:Zc)(h:1≤L) :
  Zj Zb 72 #[.int .i64 L] w fun e w'=>e= .returned (.pointer (some ⟨w.heap.size,0,none⟩))∧w.alloc (.cells #[.int .i64 0,.int .i64 L] 217)=w':=by
 go_enter Tryz.func72,Tryz.ntmps72;exact UI
theorem jU (b:Nat)(n L:Int)(w:Zc)(h:DQ w b n L) :
  Zj Zb 107 #[.pointer (some ⟨b,0,none⟩)] w fun e w'=>e= .returned (.int .i64 n)∧w=w':=by
 obtain ⟨c0,c1,cf⟩:=Hp h;clear h;go_enter Tryz.func107,Tryz.ntmps107;go_wp2_with (go_at_call 154; refine (Hq _ _ _ c0).mono ?_; rintro e w' ⟨rfl,rfl⟩);go_ret;exact Hd
theorem ko (b:Nat)(n L:Int)(w:Zc)(hn:n≤9223372036854775807)(h:DQ w b n L) :
  Zj Zb 108 #[.pointer (some ⟨b,0,none⟩)] w fun e w'=>e= .returned (.int .i64 (Ni n L))∧ ∃m,w'=w.drewN m:=by
 obtain ⟨c0,c1,cf⟩:=Hp h;clear h;go_enter Tryz.func108,Tryz.ntmps108;go_wp2;go_quiet (first | (go_at_call 154; exact Bw (Hq _ _ _ (by simpa using c0))) | (go_at_call 155; exact Bw (ai _ _ _ hn)));exact jF
theorem rp (b:Nat)(n L:Int)(w:Zc)(h0:0≤n)(hn:n≤9223372036854775806)(hL:1≤L)(h:DQ w b n L) :
  Zj Zb 208 #[.pointer (some ⟨b,0,none⟩)] w fun e w'=>e= .returned (.bool ((n+1)%L==0))∧ ∃m,w'=(w.setCell ⟨b,0,none⟩ (.int .i64 (n+1))).drewN m:=by
 obtain ⟨c0,c1,cf⟩:=Hp h;have hz:(L==0)=false:=by simp; omega
 have d0:(w.setCell ⟨b,0,none⟩ (.int .i64 (n+1))).cell? ⟨b,0,none⟩=some (.int .i64 (n+1)):=Blk.cell (Vy h 0 _) 0;clear h;go_enter Tryz.func208,Tryz.ntmps208;go_wp2_with (go_at_call 254; refine (IJ _ _ _ h0 hn c0 cf).mono ?_; rintro e w' ⟨rfl,rfl⟩);go_quiet ((go_at_call 154; exact Bw (Hq _ _ _ (by simpa using d0))));exact jF
theorem xo (b:Nat)(n L:Int)(w:Zc)(h0:0≤n)(hn:n≤9223372036854775806)(hL:1≤L)(h:DQ w b n L) :
  Zj Zb 208 #[.pointer (some ⟨b,0,none⟩)] w fun e w'=>e= .returned (.bool ((n+1)%L==0))∧DQ w' b (n+1) L∧w.grownBy w' (some b):=
 (rp b n L w h0 hn hL h).mono fun e w' ⟨he,m,hm⟩=>⟨he,by subst hm; exact Vy h 0 _,by subst hm; exact VW (QN (J2 _ _) (.inl rfl) _) m⟩
end
section
open Go.RowKit
theorem bP (s:Nat)(w:Zc)(h:1≤s)(h2:s≤1048576) :
  Zj Zb 80 #[.int .i64 s] w fun e w'=>e= .returned (.pointer (some ⟨w.heap.size,0,none⟩))∧w.alloc (.cells #[.int .i64 s,.slice none 0 0,.int .i64 0,.int .i64 0] 192)=w':=by
 have h0: ¬(s:Int)< 1:=by omega
 have h3: ¬(1048576:Int)< (s:Int):=by omega
 go_enter Tryz.func80,Tryz.ntmps80;exact UI
theorem SS (b:Nat)(c:Int)(w:Zc)(h:w.cell? ⟨b,3,none⟩=some (.int .i64 c)) :
  Zj Zb 315 #[.pointer (some ⟨b,0,none⟩)] w fun e w'=>e= .returned (.int .i64 c)∧w=w':=by
 go_enter Tryz.func315,Tryz.ntmps315;exact UI
theorem Pg (b:Nat)(s c:Nat)(w:Zc)(h0:w.cell? ⟨b,0,none⟩=some (.int .i64 s))(h3:w.cell? ⟨b,3,none⟩=some (.int .i64 c))(hs:s≤1048576)(hc:c≤s) :
  Zj Zb 200 #[.pointer (some ⟨b,0,none⟩)] w fun e w'=>e= .returned (.int .i64 ((s - c:Nat) :Int))∧ ∃m,w'=w.drewN m:=by
 go_enter Tryz.func200,Tryz.ntmps200;exact r6
theorem r2_slot_any (b n f i:Nat)(a:Option Addr)(cap:Nat)(w:Zc)(h1:w.cell? ⟨b,1,none⟩=some (.slice a n cap))(h2:w.cell? ⟨b,2,none⟩=some (.int .i64 f))(hn:0 < n)(hf:f≤1048576)(hi:i≤1048576) :
  Zj Zb 202 #[.pointer (some ⟨b,0,none⟩),.int .i64 i] w fun e w'=>e= .returned (.int .i64 (((f+i)%n:Nat) :Int))∧ ∃m,w'=w.drewN m:=by
 have hz:((n:Int)==0)=false:=by simp; omega
 go_enter Tryz.func202,Tryz.ntmps202;exact r8
end
section
open Go.RowKit
theorem SR (b g h size n f c m cap:Nat)(C D F:List Zl)(w:Zc)(hi:Jd 192 73 2 w b g size n f c C)(hw:Wheel C (f*2) F)(hF:F.length=c*2)(h1: ∀v ∈ F,v.oneCell'=true)
  (hD:Blk w h 73 D.toArray) (DU:D.length=m*2) (sS:c≤m) (ed:m≤cap) (Gl:cap≤1048576) (iy:h≠g) :
  Zj Zb 112 #[.pointer (some ⟨b,0,none⟩),.slice (some ⟨h,0,none⟩) m cap] w fun e w'=>e= .returned (.tuple #[])∧Blk w' h 73 (F++D.drop F.length).toArray∧Kept (fun i=>i=h) w w'∧w'.heap.size=w.heap.size:=by
 obtain ⟨c0,c1,c2,c3,-,-,-⟩:=hi.cells;obtain ⟨B1,B2,hC,cV,Sf,Nn,hs⟩:=hi;have Ek:=Za B1;have UJ:=Za B2;have HD:=Za hD;have PW:=Za DU;have HF:=Za hF;have HC:=Za hC;have H1:=Za h1;clear B1 B2 hD DU hF hC h1;have hw:Wheel C (f*2) F:=by exact sj
 have HW:=Za hw;have hT:(Tryz.prog.info? 73).map (·.size)=some 2:=by kernel_rfl
 obtain ⟨u,hu1,hu2,hu3⟩ : ∃u,u≤c∧f+u≤n∧(u=c∨f+u=n):=by
  exact ZcI
 have HT:=Za hT;clear hw hT
 by_cases hfc:f+c≤n
 ·have hle:((f:Int)+(c:Int))≤(n:Int):=by omega
  obtain rfl:u=c:=by omega
  go_enter Tryz.func112,Tryz.ntmps112;go_wp2;go_quiet (fail);go_wp2;refine wqT 11 ?_;refine BA ?_
  repeat (go_big_quiet_step (fail))
  refine Qc ?_;intro _ JB;obtain ⟨nr,Xh⟩:=JB;subst Xh;have l1:(F.take (u*2)).length=u*2:=by exact AP
  refine wpList_copyK rfl (.tmp 21) (.tmp 31) _ _ rfl 73 XA 2 Zm HT.out _ _ _ _ _ _ rfl rfl h 0 D 73 HD.out (F.take (u*2)) u ON l1
   (fun _=>⟨rfl,_,rfl,LS UJ.out HW.out OQ⟩) OP (fun v hv=>H1.out v (ZK hv)) ?_
  intro W1 HD1 K1 S1;have Hg: ¬b=h:=JI Ek.out HD.out YU;have d1:=K1.cell (p:=⟨b,1,none⟩) Hg FT;have d3:=K1.cell (p:=⟨b,3,none⟩) Hg FR;have jG:=Za l1;have Mu:=Za S1;have L4:=Za K1;have IC:Hid (Blk W1 g 73 C.toArray):=Za (QR (w:=(w.drewN nq).drewN nr) UJ.out K1 (QD iy));clear l1 S1 K1 c1 c3;go_wp2;refine wqT 14 ?_;refine BA ?_
  repeat (go_big_quiet_step (fail))
  refine Qc ?_;intro _ JB;obtain ⟨ns,Xh⟩:=JB;subst Xh;refine wpList_copyK rfl (.tmp 35) (.tmp 46) _ _ rfl 73 XA 2 Zm HT.out _ _ _ _ _ _ rfl rfl h (u*2) _ 73 HD1.out (F.drop (u*2)) 0 FQ OM
   (fun h0=>by have:=HF.out; simp at h0; omega) AK (fun v hv=>H1.out v (Xd hv)) ?_
  exact ZfJ
 ·have hle: ¬((f:Int)+(c:Int))≤(n:Int):=by omega
  have XP:(n:Int)< (f:Int)+(c:Int):=by omega
  obtain rfl:n=f+u:=by omega
  go_enter Tryz.func112,Tryz.ntmps112;go_wp2;go_quiet (fail);go_wp2;refine wqT 11 ?_;refine BA ?_
  repeat (go_big_quiet_step (fail))
  refine Qc ?_;intro _ JB;obtain ⟨nr,Xh⟩:=JB;subst Xh;have l1:(F.take (u*2)).length=u*2:=by exact AP
  refine wpList_copyK rfl (.tmp 21) (.tmp 31) _ _ rfl 73 XA 2 Zm HT.out _ _ _ _ _ _ rfl rfl h 0 D 73 HD.out (F.take (u*2)) u ON l1
   (fun _=>⟨rfl,_,rfl,LS UJ.out HW.out OQ⟩) OP (fun v hv=>H1.out v (ZK hv)) ?_
  intro W1 HD1 K1 S1;have Hg: ¬b=h:=JI Ek.out HD.out YU;have d1:=K1.cell (p:=⟨b,1,none⟩) Hg FT;have d3:=K1.cell (p:=⟨b,3,none⟩) Hg FR;have jG:=Za l1;have Mu:=Za S1;have L4:=Za K1;have IC:Hid (Blk W1 g 73 C.toArray):=Za (QR (w:=(w.drewN nq).drewN nr) UJ.out K1 (QD iy));clear l1 S1 K1 c1 c3;go_wp2;refine wqT 14 ?_;refine BA ?_
  repeat (go_big_quiet_step (fail))
  refine Qc ?_;intro _ JB;obtain ⟨ns,Xh⟩:=JB;subst Xh;have e:C.length -(f*2)=(u*2):=by have:=HC.out; omega
  have hx:=Tc IC.out HW.out;rw [e] at hx;refine wpList_copyK rfl (.tmp 35) (.tmp 46) _ _ rfl 73 XA 2 Zm HT.out _ _ _ _ _ _ rfl rfl h (u*2) _ 73 HD1.out (F.drop (u*2)) (c - u) gE OM
   (fun _=>⟨rfl,_,rfl,hx⟩) AK (fun v hv=>H1.out v (Xd hv)) ?_
  clear hx e;exact ZfJ
end
section
open Go.RowKit
theorem SQ (b h size m cap:Nat)(D:List Zl)(w:Zc)(hi:Da 192 w b size)
  (hD:Blk w h 73 D.toArray) (DU:D.length=m*2) (ed:m≤cap) (Gl:cap≤1048576) :
  Zj Zb 112 #[.pointer (some ⟨b,0,none⟩),.slice (some ⟨h,0,none⟩) m cap] w fun e w'=>e= .returned (.tuple #[])∧Blk w' h 73 D.toArray∧Kept (fun i=>i=h) w w'∧w'.heap.size=w.heap.size:=by
 obtain ⟨c0,c1,c2,c3,-,-,-⟩:=hi.cells;obtain ⟨B1,aO,hs⟩:=hi;have Ek:=Za B1;have HD:=Za hD;have PW:=Za DU;clear B1 hD DU;have hT:(Tryz.prog.info? 73).map (·.size)=some 2:=by kernel_rfl
 have HT:=Za hT;clear hT;go_enter Tryz.func112,Tryz.ntmps112;go_wp2;go_quiet (fail);go_wp2;refine wqT 11 ?_;refine BA ?_
 repeat (go_big_quiet_step (fail))
 refine Qc ?_;intro _ JB;obtain ⟨nr,Xh⟩:=JB;subst Xh;refine wpList_copyK rfl (.tmp 21) (.tmp 31) _ _ rfl 73 XA 2 Zm HT.out _ _ _ _ _ _ rfl rfl h 0 D 73 HD.out [] 0 FQ rfl
  (fun h0=>by simp at h0) ZI (fun v hv=>by simp at hv) ?_
 intro W1 HD1 K1 S1;have Hg: ¬b=h:=JI Ek.out HD.out YU;have d1:=K1.cell (p:=⟨b,1,none⟩) Hg FT;have d3:=K1.cell (p:=⟨b,3,none⟩) Hg FR;have Mu:=Za S1;have L4:=Za K1;clear S1 K1 c1 c3;go_wp2;refine wqT 14 ?_;refine BA ?_
 repeat (go_big_quiet_step (fail))
 refine Qc ?_;intro _ JB;obtain ⟨ns,Xh⟩:=JB;subst Xh;refine wpList_copyK rfl (.tmp 35) (.tmp 46) _ _ rfl 73 XA 2 Zm HT.out _ _ _ _ _ _ rfl rfl h 0 _ 73 HD1.out [] 0 FQ rfl
  (fun h0=>by simp at h0) ZI (fun v hv=>by simp at hv) ?_
 intro W2 HD2 K2 S2;have Ku:Blk W2 h 73 D.toArray∧Kept (fun i=>i=h) w W2∧W2.heap.size=w.heap.size:=by
  exact Zcx
 exact rO
theorem NC (b h size c m cap:Nat)(go:Option Nat)(D F:List Zl)(w:Zc)(hi:RingAt 192 73 2 w b go size c F)
  (hD:Blk w h 73 D.toArray) (DU:D.length=m*2) (sS:c≤m) (ed:m≤cap) (Gl:cap≤1048576) (iy:go≠some h) :
  Zj Zb 112 #[.pointer (some ⟨b,0,none⟩),.slice (some ⟨h,0,none⟩) m cap] w fun e w'=>e= .returned (.tuple #[])∧Blk w' h 73 (F++D.drop F.length).toArray∧Kept (fun i=>i=h) w w'∧w'.heap.size=w.heap.size:=by
 obtain ⟨h1,h2,⟨rfl,rfl,h3⟩ | ⟨g,n,f,C,rfl,h3,h4⟩⟩:=hi
 ·obtain rfl:F=[]:=ZU Iq;have:=SQ b h size m cap D w h3 hD DU ed Gl;simpa using this
 ·exact SR b g h size n f c m cap C D F w h3 h4 h1 h2 hD DU sS ed Gl (fun e=>iy ED)
theorem FZ (b size c JS n:Nat)(a:Option Addr)(go:Option Nat)(F:List Zl)(w:Zc)(hi:RingAt 192 73 2 w b go size c F)(c1:w.cell? ⟨b,1,none⟩=some (.slice a n n))(hn:n < JS)(Nn:n≤size)(Sf:c≤JS)(Hy:JS≤size) :
  Zj Zb 201 #[.pointer (some ⟨b,0,none⟩),.int .i64 JS] w fun e w'=>e= .returned (.tuple #[])∧
   ∃n' C,Jd 192 73 2 w' b w.heap.size size n' 0 c C∧Wheel C 0 F∧JS≤n'∧Kept (fun i=>i=b) w w':=by
 obtain ⟨c0,c3⟩:=hi.cells;obtain ⟨_,aO,hs⟩:=hi.size_le;have aH: ∀i,go=some i→i < w.heap.size:=fun i e=>hi.lt i (.inr e.symm)
 have O0:b < w.heap.size:=hi.lt b (.inl rfl);obtain ⟨x2,x3,bx⟩ : ∃x2 x3,Blk w b 192 #[.int .i64 size,.slice a n n,x2,x3]:=by
  exact Zcs
 obtain rfl:x3= .int .i64 c:=by
  exact sr
 have Mf:=hi.1;have iu:=hi.2.1;have nc:=Za Mf;have HFo:=Za iu;clear Mf iu;have HI:=Za hi;have HX:=Za bx;clear hi bx;obtain ⟨n1,Mm,hn00⟩ : ∃n1:Nat,(if(JS:Int)< 2*(n:Int) then 2*(n:Int) else(JS:Int))=(n1:Int)∧JS≤n1:=by
  exact ZcB
 obtain ⟨n',aM,ee,hn3⟩ : ∃n':Nat,(if(n1:Int)< (size:Int) then(n1:Int) else(size:Int))=(n':Int)∧JS≤n'∧n'≤size:=by
  exact Zcz
 have HN0:=Za Mm;have HN:=Za aM;clear aM Mm;have hT:(Tryz.prog.info? 73).map (fun i=>(i.zero,i.size,i.bytes))=some (some (.agg #[.int .i64 0,.int .i64 0]),2,16):=by kernel_rfl
 obtain ⟨i0,MD,BM,BG,Mn⟩:=info_parts hT;have Dw:=fun W=>QZ (P:=Zb) 48 73 i0 _ XA MD BM .i64 .i64 n' n' (Zg _) OR Zm W
 rw [BG] at Dw;have yC: ∀v ∈ (madeCells (Yq (.agg #[.int .i64 0,.int .i64 0])) (n'*2)).toList,v.oneCell'=true:=Ou YU YU _;have DU:(madeCells (Yq (.agg #[.int .i64 0,.int .i64 0])) (n'*2)).toList.length=n'*2:=by exact AL
 have oZ:(madeCells (Yq (.agg #[.int .i64 0,.int .i64 0])) (n'*2))=((madeCells (Yq (.agg #[.int .i64 0,.int .i64 0])) (n'*2)).toList).toArray:=by simp
 generalize madeCells (Yq (.agg #[.int .i64 0,.int .i64 0])) (n'*2)=D0 at*;generalize D0.toList=D at*;subst oZ;have PW:=Za DU;have HDo:=Za yC;clear hT MD BM BG Mn i0 yC DU;go_enter Tryz.func201,Tryz.ntmps201;go_wp2;refine wqT 13 ?_;refine BA ?_
 repeat (go_big_quiet_step (fail))
 try rw [CC]
 rw [HN0.out];try rw [Rb]
 rw [HN.out];refine Qc ?_;intro _ JB;obtain ⟨nr,Xh⟩:=JB;subst Xh;go_wp2_with fail;refine (NC b _ size c n' n' go D F _ (GQ (S:=fun _=>False) HI.out (((ZH _ w).drewN nr).alloc _) (fun _ _ h=>h)) (Zv _ _ _) PW.out Zm Zm Zm (fun e=>by have:=aH _ e; simp at this)).mono ?_;rintro e w1 ⟨rfl,EG,aB,Se⟩;have Hg: ¬b=w.heap.size:=by omega
 have Ek:Hid (Blk w1 w.heap.size 73 (F++D.drop F.length).toArray):=Za EG;have Wb:Kept (fun i=>i=w.heap.size) w w1:=(((ZH _ w).drewN nr).alloc _).trans aB (fun _ _ h=>h);have M4:=Za Wb;have cP:Hid (Blk w1 b 192 #[.int .i64 size,Yj a n n,x2,.int .i64 c]):=Za (HX.out.kept Wb Hg);exact ZfI
theorem SU (b size c JS:Nat)(go:Option Nat)(F:List Zl)(w:Zc)(hi:RingAt 192 73 2 w b go size c F)(h1:1≤JS)(Sf:c≤JS)(Hy:JS≤size) :
  Zj Zb 201 #[.pointer (some ⟨b,0,none⟩),.int .i64 JS] w fun e w'=>e= .returned (.tuple #[])∧
   ∃g n f C,Jd 192 73 2 w' b g size n f c C∧Wheel C (f*2) F∧JS≤n∧Moved w go (some g)∧Kept (fun i=>i=b) w w':=by
 have Mh:=hi;obtain ⟨hF,hF1,⟨rfl,rfl,h3⟩ | ⟨g,n,f,C,rfl,h3,h4⟩⟩:=hi
 ·exact (FZ b size 0 JS 0 none none F w Mh h3.cells.2.1 Zm Zm Sf Hy).mono fun e w' ⟨he,n',C,k1,k2,k3,k4⟩=>
   ⟨he,_,n',0,C,k1,by rw [JM]; exact k2,k3,fun i hi=> .inr OL,k4⟩
 ·by_cases hn:JS≤n
  ·have c1:=h3.cells.2.1;have H3:=Za h3;have H4:=Za h4;have Nn:=h3.2.2.2.2.2;clear h3 h4 Mh hF hF1;go_enter Tryz.func201,Tryz.ntmps201;exact ZcA
  ·have Nn:=h3.2.2.2.2.2.1;exact (FZ b size c JS n _ (some g) F w Mh h3.cells.2.1 Zm Nn Sf Hy).mono fun e w' ⟨he,n',C,k1,k2,k3,k4⟩=>
    ⟨he,_,n',0,C,k1,by rw [JM]; exact k2,k3,fun i hi=> .inr OL,k4⟩
end
section
open Go.RowKit
theorem CQ (b size c:Nat)(w:Zc)(a:Option Addr)(len cap:Nat)(hl:len≤9223372036854775807)(h0:w.cell? ⟨b,0,none⟩=some (.int .i64 size))(h3:w.cell? ⟨b,3,none⟩=some (.int .i64 c))(hs:size≤1048576)(hc:c≤size)(hz:len=0∨c=size) :
  Zj Zb 131 #[.pointer (some ⟨b,0,none⟩),.slice a len cap] w fun e w'=>e= .returned (.int .i64 0)∧ ∃m,w'=w.drewN m:=by
 obtain ⟨d,hd⟩ : ∃d:Nat,size - c=d:=⟨_,rfl⟩;have hf: ∀W:Zc,Hid (W=w)→Zj Zb 200 #[.pointer (some ⟨b,0,none⟩)] W fun e w'=>e= .returned (.int .i64 d)∧ ∃m,w'=W.drewN m:=fun W hW=>by
  have hW:=hW.out;subst hW;rw [←hd];exact Pg b size c _ h0 h3 hs hc
 have HF:=Za hf;clear hf h0 h3
 by_cases h:(d:Int)< (len:Int)
 ·obtain rfl:d=0:=by omega
  exact Zga
 ·obtain rfl:len=0:=by omega
  exact Zga
theorem CP (b size c m len cap:Nat)(go:Option Nat)(ad:Addr)(F cs:List Zl)(w:Zc)(hi:RingAt 192 73 2 w b go size c F)(Ep:Iv w (Foot b go) (some ad) len 2 cs)
  (hl:len≤cap) (Gl:cap≤9223372036854775807) (hm:1≤m) (kR:m≤len) (cX:c+m≤size) (hm3:m=len∨c+m=size) :
  Zj Zb 131 #[.pointer (some ⟨b,0,none⟩),.slice (some ad) len cap] w fun e w'=>e= .returned (.int .i64 m)∧
   ∃go',RingAt 192 73 2 w' b go' size (c+m) (F++cs.take (m*2))∧Moved w go go'∧Kept (Foot b go) w w':=by
 obtain ⟨c0,c3⟩:=hi.cells;obtain ⟨_,aO,hs⟩:=hi.size_le;obtain ⟨d,hd⟩ : ∃d:Nat,size - c=d:=⟨_,rfl⟩;have hf: ∀W:Zc,Hid (W=w)→Zj Zb 200 #[.pointer (some ⟨b,0,none⟩)] W fun e w'=>e= .returned (.int .i64 d)∧ ∃m,w'=W.drewN m:=fun W hW=>by
  have hW:=hW.out;subst hW;rw [←hd];exact Pg b size c _ c0 c3 hs Zm
 have HF:=Za hf;have HI:=Za hi;have AU:=Za Ep;have hmz:((m:Int)==0)=false:=by simp; omega
 have c3': ∀q,(w.drewN q).cell? ⟨b,3,none⟩=some (.int .i64 c):=fun q=>c3
 have vc:d+c≤size:=by omega
 have ve:size≤d+c:=by omega
 clear hf hi Ep c0 hd;have key: ∀q:Nat,Zj Zb 201 #[.pointer (some ⟨b,0,none⟩),.int .i64 ((c:Int)+(m:Int))] (w.drewN q) fun e w'=>e= .returned (.tuple #[])∧
   ∃g n f C,Jd 192 73 2 w' b g size n f c C∧Wheel C (f*2) F∧c+m≤n∧Moved w go (some g)∧Kept (fun i=>i=b) w w':=fun q=>by
  have:=SU b size c (c+m) go F (w.drewN q) HI.out Zm Zm cX;rw [show ((c+m:Nat) :Int)=(c:Int)+(m:Int) by omega] at this;exact this.mono fun e w' ⟨he,g,n,f,C,k1,k2,k3,k4,k5⟩=>⟨he,g,n,f,C,k1,k2,k3,k4,((ZH _ w).drewN q).trans k5 (fun _ _ h=>h)⟩
 have KEY:=Za key;clear key;have hT:(Tryz.prog.info? 73).map (·.size)=some 2:=by kernel_rfl
 have HT:=Za hT;clear hT
 by_cases h:(d:Int)< (len:Int)
 ·obtain rfl:m=d:=by omega
  exact zT2
 ·obtain rfl:m=len:=by omega
  exact zT2
theorem Pj (b size c len cap:Nat)(go:Option Nat)(a:Option Addr)(F cs:List Zl)(w:Zc)(hi:RingAt 192 73 2 w b go size c F)(Ep:Iv w (Foot b go) a len 2 cs)
  (hl:len≤cap) (Gl:cap≤9223372036854775807) :
  Zj Zb 131 #[.pointer (some ⟨b,0,none⟩),.slice a len cap] w fun e w'=>e= .returned (.int .i64 ((min len (size - c) :Nat) :Int))∧
   ∃go',RingAt 192 73 2 w' b go' size (c+min len (size - c)) (F++cs.take (min len (size - c)*2))∧Moved w go go'∧Kept (Foot b go) w w':=by
 obtain ⟨h1,h2,h3⟩:=hi.size_le
 by_cases hz:min len (size - c)=0
 ·rw [hz];refine (CQ b size c w a len cap Zm hi.cells.1 hi.cells.2 h3 h1 Zm).mono fun e w' ⟨he,m,hm⟩=>⟨he,go,?_,fun i h=> .inl h,by subst hm; exact (ZH _ _).drewN _⟩
  subst hm;simpa using hi.drewN m
 ·obtain ⟨ad,rfl,_⟩:=Ep.2.2 Zm;have:=CP b size c (min len (size - c)) len cap go ad F cs w hi Ep hl Gl Zm Zm Zm Zm;exact sq
end
section
open Go.RowKit
theorem bX (s:Nat)(w:Zc)(h:1≤s)(h2:s≤1048576) :
  Zj Zb 81 #[.int .i64 s] w fun e w'=>e= .returned (.pointer (some ⟨w.heap.size,0,none⟩))∧w.alloc (.cells #[.int .i64 s,.slice none 0 0,.int .i64 0,.int .i64 0] 195)=w':=by
 have h0: ¬(s:Int)< 1:=by omega
 have h3: ¬(1048576:Int)< (s:Int):=by omega
 go_enter Tryz.func81,Tryz.ntmps81;exact UI
theorem Tf (b:Nat)(c:Int)(w:Zc)(h:w.cell? ⟨b,3,none⟩=some (.int .i64 c)) :
  Zj Zb 300 #[.pointer (some ⟨b,0,none⟩)] w fun e w'=>e= .returned (.int .i64 c)∧w=w':=by
 go_enter Tryz.func300,Tryz.ntmps300;exact UI
theorem Pn (b:Nat)(s c:Nat)(w:Zc)(h0:w.cell? ⟨b,0,none⟩=some (.int .i64 s))(h3:w.cell? ⟨b,3,none⟩=some (.int .i64 c))(hs:s≤1048576)(hc:c≤s) :
  Zj Zb 205 #[.pointer (some ⟨b,0,none⟩)] w fun e w'=>e= .returned (.int .i64 ((s - c:Nat) :Int))∧ ∃m,w'=w.drewN m:=by
 go_enter Tryz.func205,Tryz.ntmps205;exact r6
theorem rq_slot_any (b n f i:Nat)(a:Option Addr)(cap:Nat)(w:Zc)(h1:w.cell? ⟨b,1,none⟩=some (.slice a n cap))(h2:w.cell? ⟨b,2,none⟩=some (.int .i64 f))(hn:0 < n)(hf:f≤1048576)(hi:i≤1048576) :
  Zj Zb 207 #[.pointer (some ⟨b,0,none⟩),.int .i64 i] w fun e w'=>e= .returned (.int .i64 (((f+i)%n:Nat) :Int))∧ ∃m,w'=w.drewN m:=by
 have hz:((n:Int)==0)=false:=by simp; omega
 go_enter Tryz.func207,Tryz.ntmps207;exact r8
end
section
open Go.RowKit
theorem Te (b g h size n f c m cap:Nat)(C D F:List Zl)(w:Zc)(hi:Jd 195 75 2 w b g size n f c C)(hw:Wheel C (f*2) F)(hF:F.length=c*2)(h1: ∀v ∈ F,v.oneCell'=true)
  (hD:Blk w h 75 D.toArray) (DU:D.length=m*2) (sS:c≤m) (ed:m≤cap) (Gl:cap≤1048576) (iy:h≠g) :
  Zj Zb 113 #[.pointer (some ⟨b,0,none⟩),.slice (some ⟨h,0,none⟩) m cap] w fun e w'=>e= .returned (.tuple #[])∧Blk w' h 75 (F++D.drop F.length).toArray∧Kept (fun i=>i=h) w w'∧w'.heap.size=w.heap.size:=by
 obtain ⟨c0,c1,c2,c3,-,-,-⟩:=hi.cells;obtain ⟨B1,B2,hC,cV,Sf,Nn,hs⟩:=hi;have Ek:=Za B1;have UJ:=Za B2;have HD:=Za hD;have PW:=Za DU;have HF:=Za hF;have HC:=Za hC;have H1:=Za h1;clear B1 B2 hD DU hF hC h1;have hw:Wheel C (f*2) F:=by exact sj
 have HW:=Za hw;have hT:(Tryz.prog.info? 75).map (·.size)=some 2:=by kernel_rfl
 obtain ⟨u,hu1,hu2,hu3⟩ : ∃u,u≤c∧f+u≤n∧(u=c∨f+u=n):=by
  exact ZcI
 have HT:=Za hT;clear hw hT
 by_cases hfc:f+c≤n
 ·have hle:((f:Int)+(c:Int))≤(n:Int):=by omega
  obtain rfl:u=c:=by omega
  go_enter Tryz.func113,Tryz.ntmps113;go_wp2;go_quiet (fail);go_wp2;refine wqT 11 ?_;refine BA ?_
  repeat (go_big_quiet_step (fail))
  refine Qc ?_;intro _ JB;obtain ⟨nr,Xh⟩:=JB;subst Xh;have l1:(F.take (u*2)).length=u*2:=by exact AP
  refine wpList_copyK rfl (.tmp 21) (.tmp 31) _ _ rfl 75 Xq 2 Zm HT.out _ _ _ _ _ _ rfl rfl h 0 D 75 HD.out (F.take (u*2)) u ON l1
   (fun _=>⟨rfl,_,rfl,LS UJ.out HW.out OQ⟩) OP (fun v hv=>H1.out v (ZK hv)) ?_
  intro W1 HD1 K1 S1;have Hg: ¬b=h:=JI Ek.out HD.out YU;have d1:=K1.cell (p:=⟨b,1,none⟩) Hg FT;have d3:=K1.cell (p:=⟨b,3,none⟩) Hg FR;have jG:=Za l1;have Mu:=Za S1;have L4:=Za K1;have IC:Hid (Blk W1 g 75 C.toArray):=Za (QR (w:=(w.drewN nq).drewN nr) UJ.out K1 (QD iy));clear l1 S1 K1 c1 c3;go_wp2;refine wqT 14 ?_;refine BA ?_
  repeat (go_big_quiet_step (fail))
  refine Qc ?_;intro _ JB;obtain ⟨ns,Xh⟩:=JB;subst Xh;refine wpList_copyK rfl (.tmp 35) (.tmp 46) _ _ rfl 75 Xq 2 Zm HT.out _ _ _ _ _ _ rfl rfl h (u*2) _ 75 HD1.out (F.drop (u*2)) 0 FQ OM
   (fun h0=>by have:=HF.out; simp at h0; omega) AK (fun v hv=>H1.out v (Xd hv)) ?_
  exact ZfK
 ·have hle: ¬((f:Int)+(c:Int))≤(n:Int):=by omega
  have XP:(n:Int)< (f:Int)+(c:Int):=by omega
  obtain rfl:n=f+u:=by omega
  go_enter Tryz.func113,Tryz.ntmps113;go_wp2;go_quiet (fail);go_wp2;refine wqT 11 ?_;refine BA ?_
  repeat (go_big_quiet_step (fail))
  refine Qc ?_;intro _ JB;obtain ⟨nr,Xh⟩:=JB;subst Xh;have l1:(F.take (u*2)).length=u*2:=by exact AP
  refine wpList_copyK rfl (.tmp 21) (.tmp 31) _ _ rfl 75 Xq 2 Zm HT.out _ _ _ _ _ _ rfl rfl h 0 D 75 HD.out (F.take (u*2)) u ON l1
   (fun _=>⟨rfl,_,rfl,LS UJ.out HW.out OQ⟩) OP (fun v hv=>H1.out v (ZK hv)) ?_
  intro W1 HD1 K1 S1;have Hg: ¬b=h:=JI Ek.out HD.out YU;have d1:=K1.cell (p:=⟨b,1,none⟩) Hg FT;have d3:=K1.cell (p:=⟨b,3,none⟩) Hg FR;have jG:=Za l1;have Mu:=Za S1;have L4:=Za K1;have IC:Hid (Blk W1 g 75 C.toArray):=Za (QR (w:=(w.drewN nq).drewN nr) UJ.out K1 (QD iy));clear l1 S1 K1 c1 c3;go_wp2;refine wqT 14 ?_;refine BA ?_
  repeat (go_big_quiet_step (fail))
  refine Qc ?_;intro _ JB;obtain ⟨ns,Xh⟩:=JB;subst Xh;have e:C.length -(f*2)=(u*2):=by have:=HC.out; omega
  have hx:=Tc IC.out HW.out;rw [e] at hx;refine wpList_copyK rfl (.tmp 35) (.tmp 46) _ _ rfl 75 Xq 2 Zm HT.out _ _ _ _ _ _ rfl rfl h (u*2) _ 75 HD1.out (F.drop (u*2)) (c - u) gE OM
   (fun _=>⟨rfl,_,rfl,hx⟩) AK (fun v hv=>H1.out v (Xd hv)) ?_
  clear hx e;exact ZfK
end
section
open Go.RowKit
theorem Td (b h size m cap:Nat)(D:List Zl)(w:Zc)(hi:Da 195 w b size)
  (hD:Blk w h 75 D.toArray) (DU:D.length=m*2) (ed:m≤cap) (Gl:cap≤1048576) :
  Zj Zb 113 #[.pointer (some ⟨b,0,none⟩),.slice (some ⟨h,0,none⟩) m cap] w fun e w'=>e= .returned (.tuple #[])∧Blk w' h 75 D.toArray∧Kept (fun i=>i=h) w w'∧w'.heap.size=w.heap.size:=by
 obtain ⟨c0,c1,c2,c3,-,-,-⟩:=hi.cells;obtain ⟨B1,aO,hs⟩:=hi;have Ek:=Za B1;have HD:=Za hD;have PW:=Za DU;clear B1 hD DU;have hT:(Tryz.prog.info? 75).map (·.size)=some 2:=by kernel_rfl
 have HT:=Za hT;clear hT;go_enter Tryz.func113,Tryz.ntmps113;go_wp2;go_quiet (fail);go_wp2;refine wqT 11 ?_;refine BA ?_
 repeat (go_big_quiet_step (fail))
 refine Qc ?_;intro _ JB;obtain ⟨nr,Xh⟩:=JB;subst Xh;refine wpList_copyK rfl (.tmp 21) (.tmp 31) _ _ rfl 75 Xq 2 Zm HT.out _ _ _ _ _ _ rfl rfl h 0 D 75 HD.out [] 0 FQ rfl
  (fun h0=>by simp at h0) ZI (fun v hv=>by simp at hv) ?_
 intro W1 HD1 K1 S1;have Hg: ¬b=h:=JI Ek.out HD.out YU;have d1:=K1.cell (p:=⟨b,1,none⟩) Hg FT;have d3:=K1.cell (p:=⟨b,3,none⟩) Hg FR;have Mu:=Za S1;have L4:=Za K1;clear S1 K1 c1 c3;go_wp2;refine wqT 14 ?_;refine BA ?_
 repeat (go_big_quiet_step (fail))
 refine Qc ?_;intro _ JB;obtain ⟨ns,Xh⟩:=JB;subst Xh;refine wpList_copyK rfl (.tmp 35) (.tmp 46) _ _ rfl 75 Xq 2 Zm HT.out _ _ _ _ _ _ rfl rfl h 0 _ 75 HD1.out [] 0 FQ rfl
  (fun h0=>by simp at h0) ZI (fun v hv=>by simp at hv) ?_
 intro W2 HD2 K2 S2;have Ku:Blk W2 h 75 D.toArray∧Kept (fun i=>i=h) w W2∧W2.heap.size=w.heap.size:=by
  exact Zcx
 exact rO
theorem NI (b h size c m cap:Nat)(go:Option Nat)(D F:List Zl)(w:Zc)(hi:RingAt 195 75 2 w b go size c F)
  (hD:Blk w h 75 D.toArray) (DU:D.length=m*2) (sS:c≤m) (ed:m≤cap) (Gl:cap≤1048576) (iy:go≠some h) :
  Zj Zb 113 #[.pointer (some ⟨b,0,none⟩),.slice (some ⟨h,0,none⟩) m cap] w fun e w'=>e= .returned (.tuple #[])∧Blk w' h 75 (F++D.drop F.length).toArray∧Kept (fun i=>i=h) w w'∧w'.heap.size=w.heap.size:=by
 obtain ⟨h1,h2,⟨rfl,rfl,h3⟩ | ⟨g,n,f,C,rfl,h3,h4⟩⟩:=hi
 ·obtain rfl:F=[]:=ZU Iq;have:=Td b h size m cap D w h3 hD DU ed Gl;simpa using this
 ·exact Te b g h size n f c m cap C D F w h3 h4 h1 h2 hD DU sS ed Gl (fun e=>iy ED)
theorem F6 (b size c JS n:Nat)(a:Option Addr)(go:Option Nat)(F:List Zl)(w:Zc)(hi:RingAt 195 75 2 w b go size c F)(c1:w.cell? ⟨b,1,none⟩=some (.slice a n n))(hn:n < JS)(Nn:n≤size)(Sf:c≤JS)(Hy:JS≤size) :
  Zj Zb 206 #[.pointer (some ⟨b,0,none⟩),.int .i64 JS] w fun e w'=>e= .returned (.tuple #[])∧
   ∃n' C,Jd 195 75 2 w' b w.heap.size size n' 0 c C∧Wheel C 0 F∧JS≤n'∧Kept (fun i=>i=b) w w':=by
 obtain ⟨c0,c3⟩:=hi.cells;obtain ⟨_,aO,hs⟩:=hi.size_le;have aH: ∀i,go=some i→i < w.heap.size:=fun i e=>hi.lt i (.inr e.symm)
 have O0:b < w.heap.size:=hi.lt b (.inl rfl);obtain ⟨x2,x3,bx⟩ : ∃x2 x3,Blk w b 195 #[.int .i64 size,.slice a n n,x2,x3]:=by
  exact Zcs
 obtain rfl:x3= .int .i64 c:=by
  exact sr
 have Mf:=hi.1;have iu:=hi.2.1;have nc:=Za Mf;have HFo:=Za iu;clear Mf iu;have HI:=Za hi;have HX:=Za bx;clear hi bx;obtain ⟨n1,Mm,hn00⟩ : ∃n1:Nat,(if(JS:Int)< 2*(n:Int) then 2*(n:Int) else(JS:Int))=(n1:Int)∧JS≤n1:=by
  exact ZcB
 obtain ⟨n',aM,ee,hn3⟩ : ∃n':Nat,(if(n1:Int)< (size:Int) then(n1:Int) else(size:Int))=(n':Int)∧JS≤n'∧n'≤size:=by
  exact Zcz
 have HN0:=Za Mm;have HN:=Za aM;clear aM Mm;have hT:(Tryz.prog.info? 75).map (fun i=>(i.zero,i.size,i.bytes))=some (some (.agg #[.int .i64 0,.int .u64 0]),2,16):=by kernel_rfl
 obtain ⟨i0,MD,BM,BG,Mn⟩:=info_parts hT;have Dw:=fun W=>QZ (P:=Zb) 49 75 i0 _ Xq MD BM .i64 .i64 n' n' (Zg _) OR Zm W
 rw [BG] at Dw;have yC: ∀v ∈ (madeCells (Yq (.agg #[.int .i64 0,.int .u64 0])) (n'*2)).toList,v.oneCell'=true:=Ou YU YU _;have DU:(madeCells (Yq (.agg #[.int .i64 0,.int .u64 0])) (n'*2)).toList.length=n'*2:=by exact AL
 have oZ:(madeCells (Yq (.agg #[.int .i64 0,.int .u64 0])) (n'*2))=((madeCells (Yq (.agg #[.int .i64 0,.int .u64 0])) (n'*2)).toList).toArray:=by simp
 generalize madeCells (Yq (.agg #[.int .i64 0,.int .u64 0])) (n'*2)=D0 at*;generalize D0.toList=D at*;subst oZ;have PW:=Za DU;have HDo:=Za yC;clear hT MD BM BG Mn i0 yC DU;go_enter Tryz.func206,Tryz.ntmps206;go_wp2;refine wqT 13 ?_;refine BA ?_
 repeat (go_big_quiet_step (fail))
 try rw [CC]
 rw [HN0.out];try rw [Rb]
 rw [HN.out];refine Qc ?_;intro _ JB;obtain ⟨nr,Xh⟩:=JB;subst Xh;go_wp2_with fail;refine (NI b _ size c n' n' go D F _ (GQ (S:=fun _=>False) HI.out (((ZH _ w).drewN nr).alloc _) (fun _ _ h=>h)) (Zv _ _ _) PW.out Zm Zm Zm (fun e=>by have:=aH _ e; simp at this)).mono ?_;rintro e w1 ⟨rfl,EG,aB,Se⟩;have Hg: ¬b=w.heap.size:=by omega
 have Ek:Hid (Blk w1 w.heap.size 75 (F++D.drop F.length).toArray):=Za EG;have Wb:Kept (fun i=>i=w.heap.size) w w1:=(((ZH _ w).drewN nr).alloc _).trans aB (fun _ _ h=>h);have M4:=Za Wb;have cP:Hid (Blk w1 b 195 #[.int .i64 size,Yj a n n,x2,.int .i64 c]):=Za (HX.out.kept Wb Hg);exact ZfI
theorem Tg (b size c JS:Nat)(go:Option Nat)(F:List Zl)(w:Zc)(hi:RingAt 195 75 2 w b go size c F)(h1:1≤JS)(Sf:c≤JS)(Hy:JS≤size) :
  Zj Zb 206 #[.pointer (some ⟨b,0,none⟩),.int .i64 JS] w fun e w'=>e= .returned (.tuple #[])∧
   ∃g n f C,Jd 195 75 2 w' b g size n f c C∧Wheel C (f*2) F∧JS≤n∧Moved w go (some g)∧Kept (fun i=>i=b) w w':=by
 have Mh:=hi;obtain ⟨hF,hF1,⟨rfl,rfl,h3⟩ | ⟨g,n,f,C,rfl,h3,h4⟩⟩:=hi
 ·exact (F6 b size 0 JS 0 none none F w Mh h3.cells.2.1 Zm Zm Sf Hy).mono fun e w' ⟨he,n',C,k1,k2,k3,k4⟩=>
   ⟨he,_,n',0,C,k1,by rw [JM]; exact k2,k3,fun i hi=> .inr OL,k4⟩
 ·by_cases hn:JS≤n
  ·have c1:=h3.cells.2.1;have H3:=Za h3;have H4:=Za h4;have Nn:=h3.2.2.2.2.2;clear h3 h4 Mh hF hF1;go_enter Tryz.func206,Tryz.ntmps206;exact ZcA
  ·have Nn:=h3.2.2.2.2.2.1;exact (F6 b size c JS n _ (some g) F w Mh h3.cells.2.1 Zm Nn Sf Hy).mono fun e w' ⟨he,n',C,k1,k2,k3,k4⟩=>
    ⟨he,_,n',0,C,k1,by rw [JM]; exact k2,k3,fun i hi=> .inr OL,k4⟩
end
section
open Go.RowKit
theorem CZ (b size c:Nat)(w:Zc)(a:Option Addr)(len cap:Nat)(hl:len≤9223372036854775807)(h0:w.cell? ⟨b,0,none⟩=some (.int .i64 size))(h3:w.cell? ⟨b,3,none⟩=some (.int .i64 c))(hs:size≤1048576)(hc:c≤size)(hz:len=0∨c=size) :
  Zj Zb 133 #[.pointer (some ⟨b,0,none⟩),.slice a len cap] w fun e w'=>e= .returned (.int .i64 0)∧ ∃m,w'=w.drewN m:=by
 obtain ⟨d,hd⟩ : ∃d:Nat,size - c=d:=⟨_,rfl⟩;have hf: ∀W:Zc,Hid (W=w)→Zj Zb 205 #[.pointer (some ⟨b,0,none⟩)] W fun e w'=>e= .returned (.int .i64 d)∧ ∃m,w'=W.drewN m:=fun W hW=>by
  have hW:=hW.out;subst hW;rw [←hd];exact Pn b size c _ h0 h3 hs hc
 have HF:=Za hf;clear hf h0 h3
 by_cases h:(d:Int)< (len:Int)
 ·obtain rfl:d=0:=by omega
  exact Zgb
 ·obtain rfl:len=0:=by omega
  exact Zgb
theorem CY (b size c m len cap:Nat)(go:Option Nat)(ad:Addr)(F cs:List Zl)(w:Zc)(hi:RingAt 195 75 2 w b go size c F)(Ep:Iv w (Foot b go) (some ad) len 2 cs)
  (hl:len≤cap) (Gl:cap≤9223372036854775807) (hm:1≤m) (kR:m≤len) (cX:c+m≤size) (hm3:m=len∨c+m=size) :
  Zj Zb 133 #[.pointer (some ⟨b,0,none⟩),.slice (some ad) len cap] w fun e w'=>e= .returned (.int .i64 m)∧
   ∃go',RingAt 195 75 2 w' b go' size (c+m) (F++cs.take (m*2))∧Moved w go go'∧Kept (Foot b go) w w':=by
 obtain ⟨c0,c3⟩:=hi.cells;obtain ⟨_,aO,hs⟩:=hi.size_le;obtain ⟨d,hd⟩ : ∃d:Nat,size - c=d:=⟨_,rfl⟩;have hf: ∀W:Zc,Hid (W=w)→Zj Zb 205 #[.pointer (some ⟨b,0,none⟩)] W fun e w'=>e= .returned (.int .i64 d)∧ ∃m,w'=W.drewN m:=fun W hW=>by
  have hW:=hW.out;subst hW;rw [←hd];exact Pn b size c _ c0 c3 hs Zm
 have HF:=Za hf;have HI:=Za hi;have AU:=Za Ep;have hmz:((m:Int)==0)=false:=by simp; omega
 have c3': ∀q,(w.drewN q).cell? ⟨b,3,none⟩=some (.int .i64 c):=fun q=>c3
 have vc:d+c≤size:=by omega
 have ve:size≤d+c:=by omega
 clear hf hi Ep c0 hd;have key: ∀q:Nat,Zj Zb 206 #[.pointer (some ⟨b,0,none⟩),.int .i64 ((c:Int)+(m:Int))] (w.drewN q) fun e w'=>e= .returned (.tuple #[])∧
   ∃g n f C,Jd 195 75 2 w' b g size n f c C∧Wheel C (f*2) F∧c+m≤n∧Moved w go (some g)∧Kept (fun i=>i=b) w w':=fun q=>by
  have:=Tg b size c (c+m) go F (w.drewN q) HI.out Zm Zm cX;rw [show ((c+m:Nat) :Int)=(c:Int)+(m:Int) by omega] at this;exact this.mono fun e w' ⟨he,g,n,f,C,k1,k2,k3,k4,k5⟩=>⟨he,g,n,f,C,k1,k2,k3,k4,((ZH _ w).drewN q).trans k5 (fun _ _ h=>h)⟩
 have KEY:=Za key;clear key;have hT:(Tryz.prog.info? 75).map (·.size)=some 2:=by kernel_rfl
 have HT:=Za hT;clear hT
 by_cases h:(d:Int)< (len:Int)
 ·obtain rfl:m=d:=by omega
  exact zT3
 ·obtain rfl:m=len:=by omega
  exact zT3
theorem Pp (b size c len cap:Nat)(go:Option Nat)(a:Option Addr)(F cs:List Zl)(w:Zc)(hi:RingAt 195 75 2 w b go size c F)(Ep:Iv w (Foot b go) a len 2 cs)
  (hl:len≤cap) (Gl:cap≤9223372036854775807) :
  Zj Zb 133 #[.pointer (some ⟨b,0,none⟩),.slice a len cap] w fun e w'=>e= .returned (.int .i64 ((min len (size - c) :Nat) :Int))∧
   ∃go',RingAt 195 75 2 w' b go' size (c+min len (size - c)) (F++cs.take (min len (size - c)*2))∧Moved w go go'∧Kept (Foot b go) w w':=by
 obtain ⟨h1,h2,h3⟩:=hi.size_le
 by_cases hz:min len (size - c)=0
 ·rw [hz];refine (CZ b size c w a len cap Zm hi.cells.1 hi.cells.2 h3 h1 Zm).mono fun e w' ⟨he,m,hm⟩=>⟨he,go,?_,fun i h=> .inl h,by subst hm; exact (ZH _ _).drewN _⟩
  subst hm;simpa using hi.drewN m
 ·obtain ⟨ad,rfl,_⟩:=Ep.2.2 Zm;have:=CY b size c (min len (size - c)) len cap go ad F cs w hi Ep hl Gl Zm Zm Zm Zm;exact sq
end
section
open Go.RowKit
theorem fx (b size c:Nat)(go:Option Nat)(F:List Zl)(w:Zc)(hi:RingAt 192 73 2 w b go size c F) :
  Zj Zb 59 #[.pointer (some ⟨b,0,none⟩)] w fun e w'=>e= .returned (.slice (some ⟨w.heap.size,0,none⟩) c c)∧Blk w' w.heap.size 73 F.toArray∧Zs w.heap.size w w':=by
 obtain ⟨c0,c3⟩:=hi.cells;obtain ⟨Fi,aO,hs⟩:=hi.size_le;have aH: ∀i,go=some i→i < w.heap.size:=fun i e=>hi.lt i (.inr e.symm)
 have Mf:=hi.1;have nc:=Za Mf;have HI:=Za hi;clear hi Mf;have hT:(Tryz.prog.info? 73).map (fun i=>(i.zero,i.size,i.bytes))=some (some (.agg #[.int .i64 0,.int .i64 0]),2,16):=by kernel_rfl
 obtain ⟨i0,MD,BM,BG,Mn⟩:=info_parts hT;have Dw:=fun W=>QZ (P:=Zb) 48 73 i0 _ XA MD BM .i64 .i64 c c (Zg _) OR Zm W
 rw [BG] at Dw;have DU:(madeCells (Yq (.agg #[.int .i64 0,.int .i64 0])) (c*2)).toList.length=c*2:=by exact AL
 have oZ:(madeCells (Yq (.agg #[.int .i64 0,.int .i64 0])) (c*2))=((madeCells (Yq (.agg #[.int .i64 0,.int .i64 0])) (c*2)).toList).toArray:=by simp
 generalize madeCells (Yq (.agg #[.int .i64 0,.int .i64 0])) (c*2)=D0 at*;generalize D0.toList=D at*;subst oZ;have PW:=Za DU;clear hT MD BM BG Mn i0 DU;go_enter Tryz.func59,Tryz.ntmps59;go_wp2_with fail;refine (NC b _ size c c c go D F _ (GQ (S:=fun _=>False) HI.out ((ZH _ w).alloc _) (fun _ _ h=>h)) (Zv _ _ _) PW.out Zm Zm Zm (fun e=>by have:=aH _ e; simp at this)).mono ?_;rintro e w1 ⟨rfl,EG,aB,Se⟩;have TS:Blk w1 w.heap.size 73 F.toArray:=by
  exact ZcE
 exact Zcv
end
section
open Go.RowKit
theorem fL (b size c:Nat)(go:Option Nat)(F:List Zl)(w:Zc)(hi:RingAt 195 75 2 w b go size c F) :
  Zj Zb 60 #[.pointer (some ⟨b,0,none⟩)] w fun e w'=>e= .returned (.slice (some ⟨w.heap.size,0,none⟩) c c)∧Blk w' w.heap.size 75 F.toArray∧Zs w.heap.size w w':=by
 obtain ⟨c0,c3⟩:=hi.cells;obtain ⟨Fi,aO,hs⟩:=hi.size_le;have aH: ∀i,go=some i→i < w.heap.size:=fun i e=>hi.lt i (.inr e.symm)
 have Mf:=hi.1;have nc:=Za Mf;have HI:=Za hi;clear hi Mf;have hT:(Tryz.prog.info? 75).map (fun i=>(i.zero,i.size,i.bytes))=some (some (.agg #[.int .i64 0,.int .u64 0]),2,16):=by kernel_rfl
 obtain ⟨i0,MD,BM,BG,Mn⟩:=info_parts hT;have Dw:=fun W=>QZ (P:=Zb) 49 75 i0 _ Xq MD BM .i64 .i64 c c (Zg _) OR Zm W
 rw [BG] at Dw;have DU:(madeCells (Yq (.agg #[.int .i64 0,.int .u64 0])) (c*2)).toList.length=c*2:=by exact AL
 have oZ:(madeCells (Yq (.agg #[.int .i64 0,.int .u64 0])) (c*2))=((madeCells (Yq (.agg #[.int .i64 0,.int .u64 0])) (c*2)).toList).toArray:=by simp
 generalize madeCells (Yq (.agg #[.int .i64 0,.int .u64 0])) (c*2)=D0 at*;generalize D0.toList=D at*;subst oZ;have PW:=Za DU;clear hT MD BM BG Mn i0 DU;go_enter Tryz.func60,Tryz.ntmps60;go_wp2_with fail;refine (NI b _ size c c c go D F _ (GQ (S:=fun _=>False) HI.out ((ZH _ w).alloc _) (fun _ _ h=>h)) (Zv _ _ _) PW.out Zm Zm Zm (fun e=>by have:=aH _ e; simp at this)).mono ?_;rintro e w1 ⟨rfl,EG,aB,Se⟩;have TS:Blk w1 w.heap.size 75 F.toArray:=by
  exact ZcE
 exact Zcv
end
section
def cx (base i:Nat)(o:Oper) :Bool:=
 (match o.dst with | some d=>Nat.beq d (base+i) | Option.none=>false)&&(match o.guard with | Option.none=>true | some _=>false)&&(match o.op with | .select .. =>false | _=>true)&&
 (o.after.toList.all fun e=>Xp .any e&&Nat.blt e.on i)&&
 (o.op.operands.toList.all fun | .tmp t=>Nat.blt t base||(o.after.toList.any fun e=>Nat.beq (base+e.on) t) | _=>true)
def cG (n:Nat)(o:Oper) :Bool:=
 (match o.op with | .select .. =>false | _=>true)&&(o.after.toList.all fun e=>Xp .any e&&Nat.blt e.on n)&&
 ((List.range n).all fun i=>o.after.toList.any fun e=>Nat.beq e.on i)
def MR (base:Nat) :Nat→List Oper→Bool
 | _,[]=>false
 | i,[o]=>cG i o
 | i,o::o'::rest=>cx base i o&&MR base (i+1) (o'::rest)
theorem Pq {base:Nat} : ∀ {l:List Oper} {s:Nat},MR base s l=true→
  ∃n,l.length=n+1∧(∀i,i < n→ ∃o,l[i]?=some o∧cx base (s+i) o=true)∧ ∃o,l[n]?=some o∧cG (s+n) o=true
 | [],_,h=>by simp [MR] at h
 | [o],s,h=>⟨0,rfl,fun i hi=>by omega,o,rfl,by simpa [MR] using h⟩
 | o::o'::rest,s,h=>by
  simp only [MR,YZ] at h;obtain ⟨n,hn,hh,t,ht,htb⟩:=Pq h.2;refine ⟨n+1,by simpa using hn,fun i hi=>?_,t,by simpa using ht,by rw [show s+(n+1)=s+1+n by omega]; exact htb⟩
  rcases i with _ | i
  ·exact ⟨o,rfl,h.1⟩
  ·obtain ⟨x,hx,hxb⟩:=hh i Zm;exact ⟨x,by simpa using hx,by rw [show s+(i+1)=s+1+i by omega]; exact hxb⟩
theorem FL {base i:Nat}{o:Oper}(h:cx base i o=true) :
  o.dst=some (base+i)∧o.guard=Option.none∧(match o.op with | .select .. =>false | _=>true)=true∧(∀e ∈ o.after,Xp .any e=true∧e.on < i)∧
   ∀t:Nat,Operand.tmp t ∈ o.op.operands→t < base∨ ∃e ∈ o.after,base+e.on=t:=by
 simp only [cx,YZ] at h;obtain ⟨⟨⟨⟨h1,h2⟩,h3⟩,h4⟩,h5⟩:=h;refine ⟨?_,?_,h3,fun e he=>?_,fun t ht=>?_⟩
 ·cases hd:o.dst with
  | none=>rw [hd] at h1; cases h1
  | some d=>rw [hd] at h1; rw [Uc h1]
 ·cases hd:o.guard with
  | none=>rfl
  | some d=>rw [hd] at h2; cases h2
 ·have:=QG.1 h4 e (by simpa using he);exact zK
 ·have:=QG.1 h5 _ (by simpa using ht);simp only [Bool.or_eq_true] at this
  rcases this with h | h
  ·exact .inl Ir
  ·obtain ⟨e,he,hb⟩:=List.any_eq_true.1 h;exact .inr ⟨e,by simpa using he,Uc hb⟩
theorem FN {n:Nat}{o:Oper}(h:cG n o=true) :
  (match o.op with | .select .. =>false | _=>true)=true∧(∀e ∈ o.after,Xp .any e=true∧e.on < n)∧ ∀i,i < n→ ∃e ∈ o.after,e.on=i:=by
 simp only [cG,YZ] at h;obtain ⟨⟨h1,h2⟩,h3⟩:=h;refine ⟨h1,fun e he=>?_,fun i hi=>?_⟩
 ·have:=QG.1 h2 e (by simpa using he);exact zK
 ·have:=QG.1 h3 i (by simpa using hi);obtain ⟨e,he,hb⟩:=List.any_eq_true.1 this;exact ⟨e,by simpa using he,Uc hb⟩
def Ba (m k:Nat)(Zt:Array Bool) :Prop:=Zt.size=m∧ ∀j,j < m→Zt[j]?=some (decide (j < k))
theorem Ba.getD {m k:Nat}{Zt:Array Bool}(h:Ba m k Zt){j:Nat}(hj:j < m)(b:Bool) :Zt.getD j b=decide (j < k):=by
 rw [Array.getD_eq_getD_getElem?,h.2 j hj]; rfl
theorem Ba.set {m k:Nat}{Zt:Array Bool}(h:Ba m k Zt)(hk:k < m) :Ba m (k+1) (Zt.setIfInBounds k true):=by
 refine ⟨by simpa using h.1,fun j hj=>?_⟩;rw [Array.getElem?_setIfInBounds]
 by_cases e:k=j
 ·subst e; simp [h.1,hk]
 ·rw [if_neg e,h.2 j hj]
  congr 1
  by_cases h1:j < k
  ·simp [h1,show j < k+1 by omega]
  ·simp [h1,show ¬j < k+1 by omega]
theorem Ba.start (m:Nat) :Ba m 0 (Array.replicate m false):=⟨by simp,fun j hj=>by simp [hj]⟩
def Hk (l:List Oper)(base n:Nat) :Prop:=l.length=n+1∧(∀i,i < n→ ∃o,l[i]?=some o∧cx base i o=true)∧ ∃o,l[n]?=some o∧cG n o=true
section
variable {l:List Oper} {n base:Nat}
theorem eM (hA:Hk l base n){k:Nat}{Zt:Array Bool}(hL:Ba (n+1) k Zt)(hk:k < n) :k ∈ Yw .any l.toArray Zt:=by
 obtain ⟨_,hh,_⟩:=hA;obtain ⟨o,ho,hb⟩:=hh k hk;obtain ⟨_,_,_,he,_⟩:=FL hb;refine mem_ready.2 ⟨by rw [hL.getD Zm]; simp,o,by simpa using ho,fun e hm _=>?_⟩;have:=(he e hm).2;rw [hL.getD Zm];simpa using this
theorem lf (hA:Hk l base n){k:Nat}{Zt:Array Bool}(hL:Ba (n+1) k Zt)(hk:k < n) :Region.free .any l.toArray Zt k=true:=by
 obtain ⟨hlen,hh,ht⟩:=hA;obtain ⟨o,ho,hb⟩:=hh k hk;obtain ⟨hd,hg,_,he,hop⟩:=FL hb;have ho':l.toArray[k]?=some o:=by simpa using ho
 unfold Region.free;rw [ho'];simp only [QG,List.mem_range];intro j hj;have O3:j < n+1:=by simpa [hlen] using hj
 by_cases EU:j=k
 ·simp [EU]
 ·rcases Nat.lt_or_ge j k with h | h
  ·rw [hL.getD O3]; simp [h]
  ·by_cases Dj:j=n
   ·obtain ⟨t,htn,htb⟩:=ht;obtain ⟨_,h2,h3⟩:=FN htb;obtain ⟨e,mO,hon⟩:=h3 k hk;have:l.toArray[j]?=some t:=by rw [Dj]; simpa using htn
    rw [this];have ha:(t.after.any fun e=>Xp .any e&&e.on==k)=true:=Gy.2 ⟨e,mO,by simp [(h2 e mO).1,hon]⟩;simp [ha]
   ·obtain ⟨x,hx,hxb⟩:=hh j Zm;obtain ⟨xd,xg,_,xe,xop⟩:=FL hxb;have:l.toArray[j]?=some x:=by simpa using hx
    rw [this]
    by_cases hw: ∃e ∈ x.after,e.on=k
    ·obtain ⟨e,mO,hon⟩:=hw;have ha:(x.after.any fun e=>Xp .any e&&e.on==k)=true:=Gy.2 ⟨e,mO,by simp [(xe e mO).1,hon]⟩;simp [ha]
    ·have h1:base+k ∉ x.looksAt l.toArray:=by
      intro hc;simp only [Oper.looksAt,xg,XH,List.mem_filterMap] at hc;obtain ⟨p,hp,eh⟩:=hc
      split at eh
      ·rename_i t
       obtain rfl:=ZS eh
       rcases xop _ (by simpa using hp) with h | ⟨e,mO,hon⟩
       ·omega
       ·exact hw ⟨e,mO,by omega⟩
      ·cases eh
     have h2:base+j ∉ o.looksAt l.toArray:=by
      intro hc;simp only [Oper.looksAt,hg,XH,List.mem_filterMap] at hc;obtain ⟨p,hp,eh⟩:=hc
      split at eh
      ·rename_i t
       obtain rfl:=ZS eh
       rcases hop _ (by simpa using hp) with h | ⟨e,mO,hon⟩
       ·omega
       ·have:=(he e mO).2; omega
      ·cases eh
     have ha:o.apart l.toArray x=true:=by
      unfold Oper.apart;rw [hd,xd];simp [h1,h2];omega
     simp [ha]
theorem PL (hA:Hk l base n){Zt:Array Bool}(hL:Ba (n+1) (n+1) Zt) :Yw .any l.toArray Zt=[]:=by
 obtain ⟨hlen,_,_⟩:=hA;unfold Yw;rw [List.filter_eq_nil_iff];intro i hi;have Mh:i < n+1:=by simpa [hlen] using hi
 rw [hL.getD Mh];simp [Mh]
theorem PM (hA:Hk l base n){Zt:Array Bool}(hL:Ba (n+1) n Zt) :Yw .any l.toArray Zt=[n]:=by
 obtain ⟨hlen,_,ht⟩:=hA;obtain ⟨t,htn,htb⟩:=ht;obtain ⟨_,h2,_⟩:=FN htb;have ht':l.toArray[n]?=some t:=by simpa using htn
 unfold Yw;rw [show l.toArray.size=n+1 by simpa using hlen,List.range_succ,List.filter_append];have hE:((List.range n).filter fun i=>!Zt.getD i true&&((l.toArray[i]?).map (·.after.all fun e=>!Xp .any e||Zt.getD e.on false)).getD false)=[]:=by
  rw [List.filter_eq_nil_iff];intro i hi;have Mh:i < n:=by simpa using hi
  rw [hL.getD (show i < n+1 by omega)];simp [Mh]
 have hB:(!Zt.getD n true&&((l.toArray[n]?).map (·.after.all fun e=>!Xp .any e||Zt.getD e.on false)).getD false)=true:=by
  rw [hL.getD (show n < n+1 by omega),ht'];have:(t.after.all fun e=>!Xp .any e||Zt.getD e.on false)=true:=ZT.2 fun e he=>by
   have:=(h2 e he).2;rw [hL.getD (show e.on < n+1 by omega)];simp [this]
  simp only [Option.map_some,Option.getD_some,this];simp
 rw [hE,List.filter_cons_of_pos (p:=fun i=>!Zt.getD i true&&((l.toArray[i]?).map (·.after.all fun e=>!Xp .any e||Zt.getD e.on false)).getD false) hB];rfl
theorem p9 (hA:Hk l base n){Zt:Array Bool}(hL:Ba (n+1) n Zt) :Vg .any l.toArray 1 n Zt=true:=by
 simp only [Vg,YZ,decide_eq_true_eq];exact ⟨PM hA hL,by rw [PL hA (hL.set Zm)]; rfl⟩
theorem Ab (hA:Hk l base n) : ∀(f k:Nat) (Zt:Array Bool),k+f=n→Ba (n+1) k Zt→Region.lexHead .any l.toArray 1 f k Zt=true
 | 0,k,Zt,hk,hL=>by
  obtain rfl:k=n:=by omega
  exact p9 hA hL
 | f+1,k,Zt,hk,hL=>by
  simp only [Region.lexHead,YZ];exact ⟨⟨by simpa using eM hA hL Zm,lf hA hL Zm⟩,Ab hA f (k+1) _ Zm (hL.set Zm)⟩
theorem Wg (hA:Hk l base n) :Qh l.toArray=true:=by
 obtain ⟨hlen,hh,ht⟩:=hA;unfold Qh;refine ZT.2 fun o ho=>?_
 obtain ⟨i,hi⟩:=List.getElem?_of_mem (by simpa using ho:o ∈ l);have Fz:i < n+1:=by
  have:=(List.getElem?_eq_some_iff.1 hi).1;omega
 rcases Nat.lt_or_ge i n with h | h
 ·obtain ⟨x,hx,hb⟩:=hh i h;obtain rfl:x=o:=ZS (hx.symm.trans hi);exact (FL hb).2.2.1
 ·obtain ⟨x,hx,hb⟩:=ht;obtain rfl:i=n:=by omega
  obtain rfl:x=o:=ZS (hx.symm.trans hi);exact (FN hb).1
theorem lg (hA:Hk l base n) :Region.sinkB .any l.toArray n=true:=by
 obtain ⟨_,_,ht⟩:=hA;obtain ⟨t,htn,htb⟩:=ht;obtain ⟨_,h2,h3⟩:=FN htb;have ht':l.toArray[n]?=some t:=by simpa using htn
 refine QG.2 fun i hi=>List.any_eq_true.2 ⟨n,by simp,?_⟩
 have Mh:i < n:=by simpa using hi
 obtain ⟨e,mO,hon⟩:=h3 i Mh;have ha:(t.after.any fun e=>Xp .any e&&e.on==i)=true:=Gy.2 ⟨e,mO,by simp [(h2 e mO).1,hon]⟩;simp only [YZ,decide_eq_true_eq];exact ⟨Mh,by unfold Region.waitsFor; rw [ht']; exact ha⟩
end
theorem CA {l:List Oper}{n base:Nat}(hlen:l.length=n+1)(h:MR base 0 l=true) :V8 .any l.toArray n=true:=by
 obtain ⟨m,hm,hh,ht⟩:=Pq h;obtain rfl:m=n:=by omega
 simp only [Nat.zero_add] at hh ht;simp only [V8,YZ,decide_eq_true_eq];refine ⟨⟨⟨⟨Wg (base:=base) ⟨hm,hh,ht⟩,by simp [hm]⟩,lg (base:=base) ⟨hm,hh,ht⟩⟩,?_⟩,?_⟩
 ·refine QG.2 fun t h=>?_
  have:t < m+1:=by simpa [hm] using h
  simp [show t≤m by omega]
 ·have hs:l.toArray.size=m+1:=by simpa using hm
  rw [hs,show m+1 - m=1 by omega];exact Ab (base:=base) ⟨hm,hh,ht⟩ m 0 _ Zm (Ba.start _)
theorem TH {P:Program}{id:Nat}{Q:Exit→Act→Zc→Prop}{a:Act}{w:Zc}{l:List Oper}{o:Oper}(n base:Nat)(hm:P.follows .mixedOrders=true)(hlen:l.length=n+1)(hB:MR base 0 l=true)
  (hD:l.drop n=[o]) (h: ∀(ops:Array Oper) (W:Zc),W=w.drew→wpStill P ops W (fun a'=>wpList P ops Q [o] a' W) (l.take n) a) :(Code.region id l.toArray true).wp P Q a w:=
 wp_region_still_tail n hm (CA hlen hB) (by rw [hD]; exact h _ _ rfl)
end
end Go.Proofs.YtianiiijaopdpaaGreat
