/- Part 9 of 58: L04Ring L04OpsInt L04CopyInt L04GrowInt L04AllInt L04OneInt L04PushInt L09Cur L09Idx L13Row L04OpsDuo L04CopyDuo L04GrowDuo L04PushDuo L04OpsReq L04CopyReq L04GrowReq. -/
import Derived.Test.YtianiiijaopdpaaGreatZu00
import Derived.Test.YtianiiijaopdpaaGreatZu06
import Derived.Test.YtianiiijaopdpaaGreatZu07
import Derived.Test.YtianiiijaopdpaaGreatZu08
namespace Go.Proofs.YtianiiijaopdpaaGreat
set_option linter.unusedVariables false
set_option linter.unusedSimpArgs false
set_option maxRecDepth 100000
set_option maxHeartbeats 8000000
open _root_.Go.Proofs.YtianiiijaopdpaaGreat.Zy renaming kept → QR, ne_ → Jz, new → Zw
open _root_.Go.Builtin renaming zeroCells → Xb
open _root_.Go renaming Calls → Zi, Value → Zo, World → Zc, splice → Vc, wpQuiet_nil → Zj
open _root_.Go.Instr renaming makeSlice → VR
open _root_.Go.Proofs.YtianiiijaopdpaaGreat.Kept renaming refl → ZM, setCell → Qp
open _root_.Go.Lib renaming hid → Za
open _root_.List renaming eq_nil_of_length_eq_zero → Z3, getElem?_append_left → YD, getElem?_drop → Qb, getElem?_eq_none → Qd, getElem?_take_of_lt → QE, mem_of_mem_drop → Y6, mem_of_mem_take → ZP, replicate → ZF
open _root_.Nat renaming add_mul → KS, le_refl → Zg, min_eq_left → Gu, mul_le_mul_right → X3, zero_mul → Jo
open _root_.Ne renaming symm → QA
open _root_.Go.Proofs.Tryz renaming prog → Zb, underlying47 → YO, underlying48 → XB, underlying49 → Xt
open _root_.Go.Value renaming cells → Yv, slice → Yr
theorem iB {G:Prop}(h:G:=by have:=HF.out; omega) :G:=h
theorem IS {G:Prop}(h:G:=by simpa using h1) :G:=h
theorem iz {G:Prop}(h:G:=by have:=Cc.out.1; omega) :G:=h
theorem iy {G:Prop}(h:G:=by show c - u=min _ _; omega) :G:=h
theorem iv {G:Prop}(h:G:=by show m - u=min _ _; omega) :G:=h
theorem iu {G:Prop}(h:G:=by rw [add_block]; exact nE.out) :G:=h
theorem ir {G:Prop}(h:G:=by rwa [List.getElem?_drop] at hv) :G:=h
theorem TW {G:Prop}(h:G:=by rw [Hu]; omega) :G:=h
theorem iq {G:Prop}(h:G:=by simp at h0; have:=Wa.out; omega) :G:=h
theorem im {G:Prop}(h:G:=by have:=HF.out; have:=P2.out; omega) :G:=h
theorem il {G:Prop}(h:G:=by show u=min _ _; have:=HU.out; omega) :G:=h
theorem O5 {G:Prop}(h:G:=by rw [M5]; omega) :G:=h
theorem ik {G:Prop}(h:G:=by have:=HC.out; simp [Value.cells]; omega) :G:=h
theorem ij {G:Prop}(h:G:=by have:=HC.out; have:=Wa.out; simp; omega) :G:=h
theorem ig {G:Prop}(h:G:=by rw [length_splice _ _ _ Vq]; simp; omega) :G:=h
theorem O4 {G:Prop}(h:G:=by have:=HC.out; omega) :G:=h
theorem O3 {G:Prop}(h:G:=by have:=P2.out; omega) :G:=h
theorem O0 {G:Prop}(h:G:=by show u=min _ _; omega) :G:=h
theorem FN {G:Prop}(h:G:=by simpa using c1) :G:=h
theorem FM {G:Prop}(h:G:=by simpa using c3) :G:=h
theorem OZ {G:Prop}(h:G:=by have:=HF.out; simp; omega) :G:=h
theorem OY {G:Prop}(h:G:=by injection hi with hi; omega) :G:=h
theorem OX {G:Prop}(h:G:=by have:=Wa.out; simp; omega) :G:=h
theorem FL {G:Prop}(h:G:=by show 0=min _ _; omega) :G:=h
theorem ie {G:Prop}(h:G:=by rw [length_splice _ _ _ (by have:=HC.out; have:=Wa.out; simp; omega)]; have:=HC.out; have:=Wa.out; simp; omega) :G:=h
theorem AZ {G:Prop}(h:G:=by rw [length_splice _ _ _ (by have:=HF.out; have:=P2.out; simp; omega)]; have:=HF.out; have:=P2.out; simp; omega) :G:=h
theorem Xh {G:Prop}(h:G:=by decide) :G:=h
theorem zT2 {G:Prop} (h:G:=by
  go_enter Tryz.func131,Tryz.ntmps131;go_wp2_with fail;refine (HF.out _ (Lib.hid rfl)).mono ?_;rintro e w' ⟨rfl,q,rfl⟩;go_wp2_with fail;refine (KEY.out q).mono ?_;rintro e w1 ⟨rfl,g,n,f,C,hr,hw,hn,SF,hk⟩;obtain ⟨-,d1,d2,d3,-,-,pJ⟩:=hr.cells;have bj: ¬ad.block=g:=by
   obtain ⟨_,_,lN⟩:=Cc.out;obtain ⟨ad',e,hS,p6⟩:=lN Zp;injection e with e;subst e;rintro hg
   rcases SF g rfl with h5 | h5
   ·exact hS (.inr (by rw [hg,h5]))
   ·have:=UH (p6 0 _ (List.getElem?_eq_getElem iz));rw [add_block] at this;omega
  have nE:=Lib.hid bj;obtain ⟨L,CL,hLo,hLc,pW⟩ : ∃L:List Value,L.length=m*2∧(∀v ∈ L,v.oneCell'=true)∧(∀j v,L[j]?=some v→w1.cell? (ad.add j)=some v)∧cs.take (m*2)=L:=by
   obtain ⟨x1,x2,x3⟩:=Cc.out.kept hk (fun i _ e=> .inl e);obtain ⟨ad',e,hS,p6⟩:=x3 Zp;injection e with e;subst e;refine ⟨_,by simp; omega,fun v hv=>x2 v (List.mem_of_mem_take hv),fun j v hv=>p6 j v (take_some hv),rfl⟩
  obtain ⟨B1,B2,hC,LH,SB,Nu,-⟩:=hr;have Ei:=Lib.hid B1;have VW:=Lib.hid B2;have HC:=Lib.hid hC;have HW:=Lib.hid hw;have I6:=Lib.hid SF;have HK:=Lib.hid hk;have Wa:=Lib.hid CL;have oo:=Lib.hid hLo;have yZ:=Lib.hid hLc;have HLe:=Lib.hid pW;clear B1 B2 hC hw SF hk CL hLo hLc pW bj;obtain ⟨s,hsv⟩ : ∃s:Nat,(f+c)%n=s:=⟨_,rfl⟩;have DY:s < n:=by rw [←hsv]; exact Nat.mod_lt _ Zp
  have Vz: ∀W:World,W.cell? ⟨b,1,none⟩=some (.slice (some ⟨g,0,none⟩) n n)→W.cell? ⟨b,2,none⟩=some (.int .i64 f)→Calls Tryz.prog 202 #[.pointer (some ⟨b,0,none⟩),.int .i64 c] W fun e w'=>e= .returned (.int .i64 s)∧ ∃m,w'=W.drewN m:=fun W x1 x2=>by
   have:=r2_slot_any b n f c _ n W x1 x2 Zp Zp Zp;rwa [hsv] at this
  have I8:=Lib.hid Vz;have tE:=Lib.hid hsv;obtain ⟨u,hu,wE,hu1,hu2⟩ : ∃u:Nat,u=min m (n - s)∧u≤m∧u≤n - s∧(u=m∨u=n - s):=⟨_,rfl,by omega,by omega,by omega⟩;have HU:=Lib.hid hu;have HU2:=Lib.hid hu2;clear Vz hsv hu hu2;go_wp2;refine Bj 14 ?_;simp only [qT,qD]
  repeat (go_big_quiet_step ((go_at_call 202; exact Calls.quiet_of (I8.out _ d1 d2))))
  refine wpQuiet_nil ?_;intro _ Jw;obtain ⟨nr,Xl⟩:=Jw;subst Xl;refine Xf rfl (.tmp 32) (.tmp 35) _ _ rfl 73 Tryz.underlying48 2 Zp HT.out _ _ _ _ _ _ rfl rfl g (s*2) C 73 VW.out (L.take (u*2)) u il OX
   (fun _=>⟨rfl,_,rfl,fun j v hv=>yZ.out j v (take_some hv)⟩) ij (fun v hv=>oo.out v (List.mem_of_mem_take hv)) ?_
  intro W1 HD1 K1 S1;have Pd: ¬b=g:=Zy.ne_ Ei.out VW.out Xh;have x1:=K1.cell (p:=⟨b,1,none⟩) Pd (by simpa using d1);have bg: ∀j v,L[j]?=some v→W1.cell? (ad.add j)=some v:=fun j v hv=>K1.cell iu (yZ.out j v hv)
  have EA:Hid (Zy W1 b 192 #[.int .i64 size,.slice (some ⟨g,0,none⟩) n n,.int .i64 f,.int .i64 c]):=Lib.hid (Zy.kept (w:=w1.drewN nr) Ei.out K1 Pd);have og:=Lib.hid bg;have LZ:=Lib.hid K1;clear S1 K1 bg d1 d2 d3 pJ;go_wp2;refine Bj 8 ?_;simp only [qT,qD]
  repeat (go_big_quiet_step (fail))
  refine wpQuiet_nil ?_;intro _ Jw;obtain ⟨ns,Xl⟩:=Jw;subst Xl;refine Xf rfl (.tmp 40) (.tmp 44) _ _ rfl 73 Tryz.underlying48 2 Zp HT.out _ _ _ _ _ _ rfl rfl g 0 _ 73 HD1.out (L.drop (u*2)) (m - u) iv OX
   (fun h0=>⟨rfl,ad.add (u*2),by first | rfl | exact if_neg iq,fun j v hv=>by rw [add_add_]; exact og.out _ v ir⟩) ie (fun v hv=>oo.out v (List.mem_of_mem_drop hv)) ?_
  intro W2 HD2 K2 S2;have Wf:Hid (Zy W2 b 192 #[.int .i64 size,.slice (some ⟨g,0,none⟩) n n,.int .i64 f,.int .i64 c]):=Lib.hid (Zy.kept (w:=W1.drewN ns) EA.out K2 Pd);have y3:=Wf.out.cell 3;have z3:=Wf.out.frozen 3;have Kj: ∃go',RingAt 192 73 2 (W2.setCell ⟨b,3,none⟩ (.int .i64 ((c:Int)+(m:Int)))) b go' size (c+m) (F++L)∧Moved w go go'∧Kept (Foot b go) w (W2.setCell ⟨b,3,none⟩ (.int .i64 ((c:Int)+(m:Int)))):=by
   have Me:=HI.out.1;have jd:=HI.out.2.1;refine ⟨some g,?_,I6.out,?_⟩
   ·refine ⟨by rw [List.length_append,Me,Wa.out,Nat.add_mul],fun v hv=>(List.mem_append.1 hv).elim (jd v) (oo.out v),.inr ⟨g,n,f,_,rfl,⟨?_,Zy.far (HD2.out) (Ne.symm Pd) _,?_,LH,hn,Nu,hs⟩,?_⟩⟩
    ·have:=Wf.out.set_ 3 (.int .i64 ((c:Int)+(m:Int)));rw [show (c:Int)+(m:Int)=((c+m:Nat) :Int) by omega] at this ⊢;exact this
    ·have:=HC.out; have:=Wa.out;rw [length_splice _ _ _ ig,length_splice _ _ _ Vq];exact HC.out
    ·have:=push_wheel HW.out Me HC.out Wa.out hn tE.out.symm HU.out
     first | exact this | (simp only [Nat.mul_one] at this ⊢; exact this)
   ·refine Kept.setCell (S:=Foot b go) ?_ (.inl (.inl rfl)) _;have k1:Kept (fun i=>i=g) w1 W2:=((((Kept.refl _ w1).drewN nr).trans LZ.out (fun _ _ h=>h)).drewN ns).trans K2 (fun _ _ h=>h);refine (HK.out.more (fun i _ e=> .inl e)).trans k1 (fun i hi e=>?_);subst e
    rcases I6.out _ rfl with h5 | h5
    ·exact .inr h5.symm
    ·omega
  rw [←HLe.out] at Kj;have HE:=Lib.hid Kj;clear S2 K2 Kj;go_wp2
  all_goals
   go_ret;exact ⟨rfl,HE.out⟩) :G:=h
theorem zT4 {G:Prop} (h:G:=by
  go_enter Tryz.func122,Tryz.ntmps122;go_wp2_with fail;refine (HF.out _ (Lib.hid rfl)).mono ?_;rintro e w' ⟨rfl,q,rfl⟩;go_wp2_with fail;refine (KEY.out q).mono ?_;rintro e w1 ⟨rfl,g,n,f,C,hr,hw,hn,SF,hk⟩;obtain ⟨-,d1,d2,d3,-,-,pJ⟩:=hr.cells;have bj: ¬ad.block=g:=by
   obtain ⟨_,_,lN⟩:=Cc.out;obtain ⟨ad',e,hS,p6⟩:=lN Zp;injection e with e;subst e;rintro hg
   rcases SF g rfl with h5 | h5
   ·exact hS (.inr (by rw [hg,h5]))
   ·have:=UH (p6 0 _ (List.getElem?_eq_getElem iz));rw [add_block] at this;omega
  have nE:=Lib.hid bj;obtain ⟨L,CL,hLo,hLc,pW⟩ : ∃L:List Value,L.length=m*1∧(∀v ∈ L,v.oneCell'=true)∧(∀j v,L[j]?=some v→w1.cell? (ad.add j)=some v)∧cs.take m=L:=by
   obtain ⟨x1,x2,x3⟩:=Cc.out.kept hk (fun i _ e=> .inl e);obtain ⟨ad',e,hS,p6⟩:=x3 Zp;injection e with e;subst e;refine ⟨_,by simp; omega,fun v hv=>x2 v (List.mem_of_mem_take hv),fun j v hv=>p6 j v (take_some hv),rfl⟩
  obtain ⟨B1,B2,hC,LH,SB,Nu,-⟩:=hr;have Ei:=Lib.hid B1;have VW:=Lib.hid B2;have HC:=Lib.hid hC;have HW:=Lib.hid hw;have I6:=Lib.hid SF;have HK:=Lib.hid hk;have Wa:=Lib.hid CL;have oo:=Lib.hid hLo;have yZ:=Lib.hid hLc;have HLe:=Lib.hid pW;clear B1 B2 hC hw SF hk CL hLo hLc pW bj;obtain ⟨s,hsv⟩ : ∃s:Nat,(f+c)%n=s:=⟨_,rfl⟩;have DY:s < n:=by rw [←hsv]; exact Nat.mod_lt _ Zp
  have Vz: ∀W:World,W.cell? ⟨b,1,none⟩=some (.slice (some ⟨g,0,none⟩) n n)→W.cell? ⟨b,2,none⟩=some (.int .i64 f)→Calls Tryz.prog 183 #[.pointer (some ⟨b,0,none⟩),.int .i64 c] W fun e w'=>e= .returned (.int .i64 s)∧ ∃m,w'=W.drewN m:=fun W x1 x2=>by
   have:=ri_slot_any b n f c _ n W x1 x2 Zp Zp Zp;rwa [hsv] at this
  have I8:=Lib.hid Vz;have tE:=Lib.hid hsv;obtain ⟨u,hu,wE,hu1,hu2⟩ : ∃u:Nat,u=min m (n - s)∧u≤m∧u≤n - s∧(u=m∨u=n - s):=⟨_,rfl,by omega,by omega,by omega⟩;have HU:=Lib.hid hu;have HU2:=Lib.hid hu2;clear Vz hsv hu hu2;go_wp2;refine Bj 14 ?_;simp only [qT,qD]
  repeat (go_big_quiet_step ((go_at_call 183; exact Calls.quiet_of (I8.out _ d1 d2))))
  refine wpQuiet_nil ?_;intro _ Jw;obtain ⟨nr,Xl⟩:=Jw;subst Xl;refine Xf rfl (.tmp 32) (.tmp 35) _ _ rfl 3 Tryz.underlying47 1 Zp HT.out _ _ _ _ _ _ rfl rfl g s C 3 VW.out (L.take u) u il OX
   (fun _=>⟨rfl,_,rfl,fun j v hv=>yZ.out j v (take_some hv)⟩) ij (fun v hv=>oo.out v (List.mem_of_mem_take hv)) ?_
  intro W1 HD1 K1 S1;have Pd: ¬b=g:=Zy.ne_ Ei.out VW.out Xh;have x1:=K1.cell (p:=⟨b,1,none⟩) Pd (by simpa using d1);have bg: ∀j v,L[j]?=some v→W1.cell? (ad.add j)=some v:=fun j v hv=>K1.cell iu (yZ.out j v hv)
  have EA:Hid (Zy W1 b 189 #[.int .i64 size,.slice (some ⟨g,0,none⟩) n n,.int .i64 f,.int .i64 c]):=Lib.hid (Zy.kept (w:=w1.drewN nr) Ei.out K1 Pd);have og:=Lib.hid bg;have LZ:=Lib.hid K1;clear S1 K1 bg d1 d2 d3 pJ;go_wp2;refine Bj 8 ?_;simp only [qT,qD]
  repeat (go_big_quiet_step (fail))
  refine wpQuiet_nil ?_;intro _ Jw;obtain ⟨ns,Xl⟩:=Jw;subst Xl;refine Xf rfl (.tmp 40) (.tmp 44) _ _ rfl 3 Tryz.underlying47 1 Zp HT.out _ _ _ _ _ _ rfl rfl g 0 _ 3 HD1.out (L.drop u) (m - u) iv OX
   (fun h0=>⟨rfl,ad.add u,by first | rfl | exact if_neg iq,fun j v hv=>by rw [add_add_]; exact og.out _ v ir⟩) ie (fun v hv=>oo.out v (List.mem_of_mem_drop hv)) ?_
  intro W2 HD2 K2 S2;have Wf:Hid (Zy W2 b 189 #[.int .i64 size,.slice (some ⟨g,0,none⟩) n n,.int .i64 f,.int .i64 c]):=Lib.hid (Zy.kept (w:=W1.drewN ns) EA.out K2 Pd);have y3:=Wf.out.cell 3;have z3:=Wf.out.frozen 3;have Kj: ∃go',RingAt 189 3 1 (W2.setCell ⟨b,3,none⟩ (.int .i64 ((c:Int)+(m:Int)))) b go' size (c+m) (F++L)∧Moved w go go'∧Kept (Foot b go) w (W2.setCell ⟨b,3,none⟩ (.int .i64 ((c:Int)+(m:Int)))):=by
   have Me:=HI.out.1;have jd:=HI.out.2.1;refine ⟨some g,?_,I6.out,?_⟩
   ·refine ⟨by rw [List.length_append,Me,Wa.out,Nat.add_mul],fun v hv=>(List.mem_append.1 hv).elim (jd v) (oo.out v),.inr ⟨g,n,f,_,rfl,⟨?_,Zy.far (HD2.out) (Ne.symm Pd) _,?_,LH,hn,Nu,hs⟩,?_⟩⟩
    ·have:=Wf.out.set_ 3 (.int .i64 ((c:Int)+(m:Int)));rw [show (c:Int)+(m:Int)=((c+m:Nat) :Int) by omega] at this ⊢;exact this
    ·have:=HC.out; have:=Wa.out;rw [length_splice _ _ _ ig,length_splice _ _ _ Vq];exact HC.out
    ·have:=push_wheel HW.out Me HC.out Wa.out hn tE.out.symm HU.out
     first | exact this | (simp only [Nat.mul_one] at this ⊢; exact this)
   ·refine Kept.setCell (S:=Foot b go) ?_ (.inl (.inl rfl)) _;have k1:Kept (fun i=>i=g) w1 W2:=((((Kept.refl _ w1).drewN nr).trans LZ.out (fun _ _ h=>h)).drewN ns).trans K2 (fun _ _ h=>h);refine (HK.out.more (fun i _ e=> .inl e)).trans k1 (fun i hi e=>?_);subst e
    rcases I6.out _ rfl with h5 | h5
    ·exact .inr h5.symm
    ·omega
  rw [←HLe.out] at Kj;have HE:=Lib.hid Kj;clear S2 K2 Kj;go_wp2
  all_goals
   go_ret;exact ⟨rfl,HE.out⟩) :G:=h
theorem Zf7 {G:Prop} (h:G:=by
  have d1:=dC.out.cell 1;have d2:=dC.out.cell 2;have e1:=dC.out.frozen 1;have e2:=dC.out.frozen 2;clear EA be Sz Wu;go_wp2;go_end0;have hlen:(F++D.drop F.length).length=n'*2:=by
   have h1:=od.out;have h2:=P2.out;rw [List.length_append,List.length_drop];omega
  refine ⟨rfl,n',F++D.drop F.length,⟨(dC.out.set_ 1 _).set_ 2 _,(Ei.out.far (Ne.symm Ha) _).far (Ne.symm Ha) _,hlen,by omega,by omega,hn3,hs⟩,Wheel.of_prefix (by rw [hlen]; omega),e8,?_⟩;exact Kept.setCell (S:=fun i=>i=b) (Kept.setCell (S:=fun i=>i=b) (Na.out.more_new) (.inl rfl) _) (.inl rfl) _) :G:=h
theorem Zf8 {G:Prop} (h:G:=by
  intro W2 HD2 K2 S2;have DU:=Lib.hid S2;have Na:=Lib.hid K2;clear S2 K2;have Kj:Zy W2 h 73 (F++D.drop F.length).toArray∧Kept (fun i=>i=h) w W2∧W2.heap.size=w.heap.size:=by
   refine ⟨?_,?_,?_⟩
   ·have:=HD2.out;rw [splice_two im iB] at this;exact this
   ·exact ((((Kept.refl _ w).drewN nq).drewN nr).trans LZ.out (fun _ _ h=>h)).drewN ns |>.trans Na.out (fun _ _ h=>h)
   ·exact DU.out.trans Mb.out
  have HE:=Lib.hid Kj;clear Kj;go_wp2
  all_goals
   go_end0;exact ⟨rfl,HE.out⟩) :G:=h
theorem Zf9 {G:Prop} (h:G:=by
  intro W2 HD2 K2 S2;have DU:=Lib.hid S2;have Na:=Lib.hid K2;clear S2 K2;have Kj:Zy W2 h 75 (F++D.drop F.length).toArray∧Kept (fun i=>i=h) w W2∧W2.heap.size=w.heap.size:=by
   refine ⟨?_,?_,?_⟩
   ·have:=HD2.out;rw [splice_two im iB] at this;exact this
   ·exact ((((Kept.refl _ w).drewN nq).drewN nr).trans LZ.out (fun _ _ h=>h)).drewN ns |>.trans Na.out (fun _ _ h=>h)
   ·exact DU.out.trans Mb.out
  have HE:=Lib.hid Kj;clear Kj;go_wp2
  all_goals
   go_end0;exact ⟨rfl,HE.out⟩) :G:=h
theorem Zgb {G:Prop} (h:G:=by
  intro W2 HD2 K2 S2;have DU:=Lib.hid S2;have Na:=Lib.hid K2;clear S2 K2;have Kj:Zy W2 h 3 (F++D.drop F.length).toArray∧Kept (fun i=>i=h) w W2∧W2.heap.size=w.heap.size:=by
   refine ⟨?_,?_,?_⟩
   ·have:=HD2.out;rw [splice_two im iB] at this;exact this
   ·exact ((((Kept.refl _ w).drewN nq).drewN nr).trans LZ.out (fun _ _ h=>h)).drewN ns |>.trans Na.out (fun _ _ h=>h)
   ·exact DU.out.trans Mb.out
  have HE:=Lib.hid Kj;clear Kj;go_wp2
  all_goals
   go_end0;exact ⟨rfl,HE.out⟩) :G:=h
theorem Zdh {G:Prop} (h:G:=by
  obtain ⟨_,_,⟨rfl,rfl,h1,_⟩ | ⟨g',n',f,C,rfl,⟨h1,_⟩,_⟩⟩:=hi
  ·have:=(h1.cell 1).symm.trans c1;simp only [List.getElem?_toArray,List.getElem?_cons_succ,List.getElem?_cons_zero,Option.some.injEq] at this;rw [←this]; exact ⟨_,_,h1⟩
  ·have:=(h1.cell 1).symm.trans c1;simp only [List.getElem?_toArray,List.getElem?_cons_succ,List.getElem?_cons_zero,Option.some.injEq] at this;rw [←this]; exact ⟨_,_,h1⟩) :G:=h
theorem Zdk {G:Prop} (h:G:=by
  have Wu:Kept (fun i=>i=w.heap.size) w w1:=((Kept.refl _ w).alloc _).trans be (fun _ _ h=>h);have Na:=Lib.hid Wu;have VW:=Lib.hid Wf;clear EA be Sz Wu Wf;go_wp2;go_ret;exact ⟨rfl,VW.out,Kept.below (Below.refl _ _) Na.out (fun i hi=>by omega) (Nat.le_refl _)⟩) :G:=h
theorem Zgn {G:Prop} (h:G:=by
  have h:(Tryz.prog.info? 22).map (fun i=>(i.zero,i.size,i.bytes))=some (some (.int .u64 0),1,8):=by kernel_rfl
  cases hi:Tryz.prog.info? 22 with
  | none=>rw [hi] at h; cases h
  | some i=>
   rw [hi] at h;simp at h;exact ⟨i,rfl,h.1,h.2.1,h.2.2⟩) :G:=h
theorem Zdn {G:Prop} (h:G:=by
  refine ⟨?_,?_,?_⟩
  ·have:=HD2.out;show W2.heap[h]?=_;simpa [splice] using this
  ·exact ((((Kept.refl _ w).drewN nq).drewN nr).trans LZ.out (fun _ _ h=>h)).drewN ns |>.trans K2 (fun _ _ h=>h)
  ·exact S2.trans Mb.out) :G:=h
theorem Zgz {G:Prop} (h:G:=by
  clear hd;go_enter Tryz.func122,Tryz.ntmps122;go_wp2_with fail;refine (HF.out _ (Lib.hid rfl)).mono ?_;rintro e w' ⟨rfl,m,rfl⟩;go_wp2;go_ret;exact ⟨rfl,_,rfl⟩) :G:=h
theorem ZgA {G:Prop} (h:G:=by
  clear hd;go_enter Tryz.func131,Tryz.ntmps131;go_wp2_with fail;refine (HF.out _ (Lib.hid rfl)).mono ?_;rintro e w' ⟨rfl,m,rfl⟩;go_wp2;go_ret;exact ⟨rfl,_,rfl⟩) :G:=h
theorem Zdo {G:Prop} (h:G:=by
  by_cases e:(n1:Int)< (size:Int)
  ·exact ⟨n1,by rw [if_pos e],by omega,by omega⟩
  ·exact ⟨size,by rw [if_neg e],by omega,by omega⟩) :G:=h
theorem Zdp {G:Prop} (h:G:=by
  go_wp2;refine bodyPost_ret (results_none rfl _ _ _) rfl ?_;exact ⟨rfl,g,n,f,C,H3.out,H4.out,hn,fun i hi=> .inl hi,Kept.refl _ _⟩) :G:=h
theorem Zdq {G:Prop} (h:G:=by
  by_cases e:(JI:Int)< 2*(n:Int)
  ·exact ⟨2*n,by rw [if_pos e]; omega,by omega⟩
  ·exact ⟨JI,by rw [if_neg e],by omega⟩) :G:=h
theorem Zdt {G:Prop} (h:G:=by
  have:=EA;rw [List.drop_of_length_le (by have:=od.out; have:=P2.out; omega),List.append_nil] at this;exact this) :G:=h
theorem Zdw {G:Prop} (h:G:=by
  by_cases hfc:f+c≤n
  ·exact ⟨c,by omega,hfc,.inl rfl⟩
  ·exact ⟨n - f,by omega,by omega,.inr Zp⟩) :G:=h
theorem sK {G:Prop} (h:G:=by
  have:=HC.out;rw [length_splice _ _ _ (by simp [Builtin.zeroCells,Value.cells]; omega)];exact this) :G:=h
theorem sM {G:Prop} (h:G:=by
  have HE:=Lib.hid Kj;clear Kj S2 K2;go_wp2
  all_goals
   go_end0;exact ⟨rfl,HE.out⟩) :G:=h
theorem sX {G:Prop} (h:G:=by
  go_wp2;go_quiet (fail);go_wp2;go_ret;exact ⟨FE Zp,_,rfl⟩) :G:=h
theorem sZ {G:Prop} (h:G:=by
  go_wp2;go_quiet (fail);go_wp2;go_ret;exact ⟨FE ZO,_,rfl⟩) :G:=h
theorem ta {G:Prop} (h:G:=by
  have:=(EA.out.set_ 2 (.int .i64 s)).set_ 3 (.int .i64 c);exact this) :G:=h
theorem tl {G:Prop} (h:G:=by
  first | exact hw | (rw [Nat.mul_one] at hw; exact hw)) :G:=h
theorem tp {G:Prop} (h:G:=by
  first | exact this | (rw [Nat.mul_one]; exact this)) :G:=h
theorem tq {G:Prop} (h:G:=by
  have:=(bx.cell 3).symm.trans c3;simpa using this) :G:=h
theorem A4 {G:Prop} (h:G:=by
  rw [Array.length_toList,size_madeCells]) :G:=h
theorem ts {G:Prop} (h:G:=by
  rw [←hsv];exact Nat.mod_lt _ Zp) :G:=h
theorem tt {G:Prop} (h:G:=by
  simp only [List.length_cons] at hF;omega) :G:=h
theorem tw {G:Prop} (h:G:=by
  rw [←hp];exact Nat.mod_lt _ Zp) :G:=h
theorem A6 {G:Prop} (h:G:=by
  have:=HF.out;simp
  omega) :G:=h
section
open Go.RowKit
def Jd (R E k:Nat)(w:Zc)(b g size n f c:Nat)(C:List Zo) :Prop:=
 Zy w b R #[.int .i64 size,.slice (some ⟨g,0,none⟩) n n,.int .i64 f,.int .i64 c]∧Zy w g E C.toArray∧C.length=n*k∧f < n∧c≤n∧n≤size∧size≤1048576
def BW (R:Nat)(w:Zc)(b size:Nat) :Prop:=Zy w b R #[.int .i64 size,.slice none 0 0,.int .i64 0,.int .i64 0]∧1≤size∧size≤1048576
def RingAt (R E k:Nat)(w:Zc)(b:Nat)(g:Option Nat)(size c:Nat)(F:List Zo) :Prop:=
 F.length=c*k∧(∀v ∈ F,v.oneCell'=true)∧
 ((g=none∧c=0∧BW R w b size)∨ ∃g' n f C,g=some g'∧Jd R E k w b g' size n f c C∧Wheel C (f*k) F)
def Foot (b:Nat)(g:Option Nat)(i:Nat) :Prop:=i=b∨some i=g
def Moved (w:Zc)(g g':Option Nat) :Prop:= ∀i,g'=some i→g=some i∨w.heap.size≤i
section
variable {R E k b g size n f c:Nat} {C F:List Zo} {w w':Zc} {S:Nat→Prop} {go:Option Nat}
theorem Jd.kept (h:Jd R E k w b g size n f c C)(hk:Kept S w w')(hb: ¬S b)(hg: ¬S g) :Jd R E k w' b g size n f c C:=
 ⟨h.1.kept hk hb,h.2.1.kept hk hg,h.2.2⟩
theorem BW.kept (h:BW R w b size)(hk:Kept S w w')(hb: ¬S b) :BW R w' b size:=⟨h.1.kept hk hb,h.2⟩
theorem RingAt.kept (h:RingAt R E k w b go size c F)(hk:Kept S w w')(hS: ∀i,Foot b go i→ ¬S i) :RingAt R E k w' b go size c F:=by
 obtain ⟨h1,h2,h3⟩:=h;refine ⟨h1,h2,?_⟩
 rcases h3 with ⟨rfl,hc,hn⟩ | ⟨g',n,f,C,rfl,hi,hw⟩
 ·exact .inl ⟨rfl,hc,hn.kept hk (hS _ (.inl rfl))⟩
 ·exact .inr ⟨g',n,f,C,rfl,hi.kept hk (hS _ (.inl rfl)) (hS _ (.inr rfl)),hw⟩
theorem RingAt.drewN (h:RingAt R E k w b go size c F)(m:Nat) :RingAt R E k (w.drewN m) b go size c F:=h
theorem RingAt.size_le (h:RingAt R E k w b go size c F) :c≤size∧1≤size∧size≤1048576:=by
 obtain ⟨_,_,⟨_,rfl,_,h1,h2⟩ | ⟨g',n,f,C,rfl,⟨_,_,_,h1,h2,h3,h4⟩,_⟩⟩:=h
 ·exact ⟨by omega,h1,h2⟩
 ·exact ⟨by omega,by omega,h4⟩
theorem RingAt.lt (h:RingAt R E k w b go size c F) : ∀i,Foot b go i→i < w.heap.size:=by
 obtain ⟨_,_,⟨rfl,_,h1,_⟩ | ⟨g',n,f,C,rfl,⟨h1,h2,_⟩,_⟩⟩:=h
 ·rintro i (rfl | h)
  ·exact h1.lt
  ·cases h
 ·rintro i (rfl | h)
  ·exact h1.lt
  ·injection h with h;subst h;exact h2.lt
theorem Jd.ne (h:Jd R E k w b g size n f c C)(hRE:R≠E) :b≠g:=Jz h.1 h.2.1 hRE
theorem Jd.at_ (h:Jd R E k w b g size n f c C)(hw:Wheel C (f*k) F)(hF:F.length=c*k)(h1: ∀v ∈ F,v.oneCell'=true) :RingAt R E k w b (some g) size c F:=⟨hF,h1,.inr ⟨g,n,f,C,rfl,h,hw⟩⟩
theorem Jd.cells (h:Jd R E k w b g size n f c C) :w.cell? ⟨b,0,none⟩=some (.int .i64 size)∧w.cell? ⟨b,1,none⟩=some (.slice (some ⟨g,0,none⟩) n n)∧w.cell? ⟨b,2,none⟩=some (.int .i64 f)∧w.cell? ⟨b,3,none⟩=some (.int .i64 c)∧
  w.frozen? ⟨b,1,none⟩=false∧w.frozen? ⟨b,2,none⟩=false∧w.frozen? ⟨b,3,none⟩=false:=
 ⟨h.1.cell 0,h.1.cell 1,h.1.cell 2,h.1.cell 3,h.1.frozen 1,h.1.frozen 2,h.1.frozen 3⟩
theorem BW.cells (h:BW R w b size) :w.cell? ⟨b,0,none⟩=some (.int .i64 size)∧w.cell? ⟨b,1,none⟩=some (.slice none 0 0)∧w.cell? ⟨b,2,none⟩=some (.int .i64 0)∧w.cell? ⟨b,3,none⟩=some (.int .i64 0)∧
  w.frozen? ⟨b,1,none⟩=false∧w.frozen? ⟨b,2,none⟩=false∧w.frozen? ⟨b,3,none⟩=false:=
 ⟨h.1.cell 0,h.1.cell 1,h.1.cell 2,h.1.cell 3,h.1.frozen 1,h.1.frozen 2,h.1.frozen 3⟩
theorem RingAt.cells (h:RingAt R E k w b go size c F) :w.cell? ⟨b,0,none⟩=some (.int .i64 size)∧w.cell? ⟨b,3,none⟩=some (.int .i64 c):=by
 obtain ⟨_,_,⟨rfl,rfl,h1⟩ | ⟨g',n,f,C,rfl,h1,_⟩⟩:=h
 ·exact ⟨h1.cells.1,h1.cells.2.2.2.1⟩
 ·exact ⟨h1.cells.1,h1.cells.2.2.2.1⟩
theorem Tp (w:Zc)(R E k size:Nat)(h1:1≤size)(h2:size≤1048576) :RingAt R E k (w.alloc (.cells #[.int .i64 size,.slice none 0 0,.int .i64 0,.int .i64 0] R)) w.heap.size none size 0 []:=
 ⟨by simp,by simp,.inl ⟨rfl,rfl,Zw _ _ _,h1,h2⟩⟩
theorem LQ {f u:Nat}(hB:Zy w g E C.toArray)(hw:Wheel C f F)(hu:f+u≤C.length)(j:Nat)(v:Zo)(hv:(F.take u)[j]?=some v) :w.cell? ((⟨g,f,none⟩ :Addr).add j)=some v:=by
 rw [add_plain,hB.cell];simpa using hw.read1 hu j v hv
theorem Tq {f:Nat}(hB:Zy w g E C.toArray)(hw:Wheel C f F)(j:Nat)(v:Zo)(hv:(F.drop (C.length - f))[j]?=some v) :w.cell? ((⟨g,0,none⟩ :Addr).add j)=some v:=by
 rw [add_plain,hB.cell,Nat.zero_add];simpa using hw.read2 j v hv
theorem splice_two {D F:List Zo}{u:Nat}(hF:F.length≤D.length)(hu:u≤F.length) :Vc (Vc D 0 (F.take u)) u (F.drop u)=F++D.drop F.length:=by
 have l1:(F.take u).length=u:=by simp; omega
 have l2:(F.drop u).length=F.length - u:=by simp
 have e1:(Vc D 0 (F.take u)).length=D.length:=length_splice _ _ _ Zp;apply List.ext_getElem?;intro p;rw [Bx _ _ _ Zp,Bx _ _ _ Zp,l1,l2]
 by_cases h1:p < u
 ·rw [if_pos h1,if_neg Zp,if_pos Zp,YD Zp,QE Zp,Nat.sub_zero]
 ·rw [if_neg h1]
  by_cases h2:p < F.length
  ·rw [if_pos Zp,YD h2,Qb,show u+(p - u)=p by omega]
  ·rw [if_neg Zp,if_neg Zp,if_neg Zp,List.getElem?_append_right Zp,Qb,show F.length+(p - F.length)=p by omega]
theorem OD {z:Array Zo}(h: ∀v ∈ z.toList,v.oneCell'=true)(hz:0 < z.size)(n:Nat) : ∀v ∈ (madeCells z n).toList,v.oneCell'=true:=by
 intro v hv;simp only [madeCells,Array.toList_map,List.mem_map,Array.toList_range,List.mem_range] at hv;obtain ⟨i,hi,rfl⟩:=hv;have XJ:i%z.size < z.size:=Nat.mod_lt _ hz;rw [getElem!_pos z _ XJ];exact h _ (Array.getElem_mem_toList XJ)
end
theorem add_block (a:Addr)(n:Nat) :(a.add n).block=a.block:=by unfold Addr.add; split <;> rfl
theorem add_add_ (a:Addr)(i j:Nat) :(a.add i).add j=a.add (i+j):=by
 unfold Addr.add
 by_cases hi:i=0 <;> by_cases hj:j=0 <;> simp [hi,hj,Nat.add_assoc]
def iJ (w:Zc)(S:Nat→Prop)(a:Option Addr)(len k:Nat)(cs:List Zo) :Prop:=
 cs.length=len*k∧(∀v ∈ cs,v.oneCell'=true)∧(0 < len→ ∃ad:Addr,a=some ad∧ ¬S ad.block∧ ∀j v,cs[j]?=some v→w.cell? (ad.add j)=some v)
theorem iJ.nil (w:Zc)(S:Nat→Prop)(a:Option Addr)(k:Nat) :iJ w S a 0 k []:=⟨by simp,by simp,fun h=>by omega⟩
theorem iJ.kept {w w':Zc}{S T:Nat→Prop}{a:Option Addr}{len k:Nat}{cs:List Zo}(h:iJ w S a len k cs)(hk:Kept T w w')(hT: ∀i,i < w.heap.size→T i→S i) :iJ w' S a len k cs:=by
 obtain ⟨h1,h2,h3⟩:=h;refine ⟨h1,h2,fun hl=>?_⟩;obtain ⟨ad,e,hn,hc⟩:=h3 hl;refine ⟨ad,e,hn,fun j v hv=>hk.cell (fun ht=>?_) (hc j v hv)⟩;have hl:=UH (hc j v hv);rw [add_block] at ht hl;exact hn (hT _ hl ht)
theorem take_some {L:List Zo}{u j:Nat}{v:Zo}(h:(L.take u)[j]?=some v) :L[j]?=some v:=by
 rcases Nat.lt_or_ge j u with h1 | h1
 ·rwa [QE h1] at h
 ·rw [Qd Vq] at h; cases h
theorem push_wheel {C F cs:List Zo}{f c n m s u k:Nat}(hw:Wheel C (f*k) F)(hF:F.length=c*k)(hC:C.length=n*k)(Ff:cs.length=m*k)(tL:c+m≤n)(hs:s=(f+c)%n)(hu:u=min m (n - s)) :
  Wheel (Vc (Vc C (s*k) (cs.take (u*k))) 0 (cs.drop (u*k))) (f*k) (F++cs):=by
 refine hw.push ?_ ?_ ?_
 ·rw [hF,Ff,hC,←KS]; exact X3 k tL
 ·rw [hF,hC,←KS,Nat.mul_mod_mul_right,hs]
 ·rw [Ff,hC,hu,←Nat.sub_mul]
  rcases Nat.le_total m (n - s) with h | h
  ·rw [Gu h,Gu (X3 k h)]
  ·rw [Nat.min_eq_right h,Nat.min_eq_right (X3 k h)]
theorem AD {C F C':List Zo}{f n k:Nat}(hw:Wheel C (f*k) F)(hk:k≤F.length)(hC:C.length=n*k)(hl:C'.length=C.length)(h: ∀p,p < f*k∨f*k+k≤p→C'[p]?=C[p]?) :Wheel C' ((f+1)%n*k) (F.drop k):=by
 have:=hw.pop hk hl h;rwa [hC,show f*k+k=(f+1)*k by rw [KS,Nat.one_mul],Nat.mul_mod_mul_right] at this
theorem Q6 {P:Program}(t e:TypeId)(i:TypeInfo)(z:Zo)(ht:P.underlying t=some (.slice e))(hi:P.info? e=some i)(hz:i.zero=some z)
  (kl kc:IntKind) (n c:Nat) (hnc:n≤c) (BL:i.bytes*c≤281474976710656) (nK:c≤9223372036854775807) (w:Zc) :
  (VR t (.int kl (n:Int)) (.int kc (c:Int))).run P w= .ok (.slice (some ⟨w.heap.size,0,none⟩) n c) (w.alloc (.cells (madeCells z.cells (c*i.size)) e)):=by
 have hb:(i.bytes:Int)*(c:Int)≤281474976710656:=by
  have h:((i.bytes*c:Nat) :Int)≤281474976710656:=by omega
  rwa [Int.natCast_mul] at h
 have hr:=run_make (P:=P) w t e i z ht hi hz kl kc n c Zp Zp hb Zp;simp only [Int.toNat_natCast] at hr;exact hr
end
section
open Go.RowKit
theorem PA (s:Nat)(w:Zc)(h:1≤s)(h2:s≤1048576) :
  Zi Zb 79 #[.int .i64 s] w fun e w'=>e= .returned (.pointer (some ⟨w.heap.size,0,none⟩))∧w.alloc (.cells #[.int .i64 s,.slice none 0 0,.int .i64 0,.int .i64 0] 189)=w':=by
 have h0: ¬(s:Int)< 1:=by omega
 have h3: ¬(1048576:Int)< (s:Int):=by omega
 go_enter Tryz.func79,Tryz.ntmps79;exact Vr
theorem GK (b:Nat)(c:Int)(w:Zc)(h:w.cell? ⟨b,3,none⟩=some (.int .i64 c)) :
  Zi Zb 314 #[.pointer (some ⟨b,0,none⟩)] w fun e w'=>e= .returned (.int .i64 c)∧w=w':=by
 go_enter Tryz.func314,Tryz.ntmps314;exact Vr
theorem cL (w:Zc) :Zi Zb 120 #[.pointer none] w fun e w'=>e= .returned (.int .i64 0)∧w=w':=by
 go_enter Tryz.func120,Tryz.ntmps120;exact Vr
theorem D8 (b:Nat)(s c:Nat)(w:Zc)(h0:w.cell? ⟨b,0,none⟩=some (.int .i64 s))(h3:w.cell? ⟨b,3,none⟩=some (.int .i64 c))(hs:s≤1048576)(hc:c≤s) :
  Zi Zb 120 #[.pointer (some ⟨b,0,none⟩)] w fun e w'=>e= .returned (.int .i64 ((s - c:Nat) :Int))∧ ∃m,w'=w.drewN m:=by
 go_enter Tryz.func120,Tryz.ntmps120;exact sX
theorem ri_slot_any (b n f i:Nat)(a:Option Addr)(cap:Nat)(w:Zc)(h1:w.cell? ⟨b,1,none⟩=some (.slice a n cap))(h2:w.cell? ⟨b,2,none⟩=some (.int .i64 f))(hn:0 < n)(hf:f≤1048576)(hi:i≤1048576) :
  Zi Zb 183 #[.pointer (some ⟨b,0,none⟩),.int .i64 i] w fun e w'=>e= .returned (.int .i64 (((f+i)%n:Nat) :Int))∧ ∃m,w'=w.drewN m:=by
 have hz:((n:Int)==0)=false:=by simp; omega
 go_enter Tryz.func183,Tryz.ntmps183;exact sZ
end
section
open Go.RowKit
theorem Tl (b g h size n f c m cap:Nat)(C D F:List Zo)(w:Zc)(hi:Jd 189 3 1 w b g size n f c C)(hw:Wheel C (f*1) F)(hF:F.length=c*1)(h1: ∀v ∈ F,v.oneCell'=true)
  (hD:Zy w h 3 D.toArray) (DX:D.length=m*1) (tL:c≤m) (e7:m≤cap) (VU:cap≤1048576) (jg:h≠g) :
  Zi Zb 110 #[.pointer (some ⟨b,0,none⟩),.slice (some ⟨h,0,none⟩) m cap] w fun e w'=>e= .returned (.tuple #[])∧Zy w' h 3 (F++D.drop F.length).toArray∧Kept (fun i=>i=h) w w'∧w'.heap.size=w.heap.size:=by
 obtain ⟨c0,c1,c2,c3,-,-,-⟩:=hi.cells;obtain ⟨B1,B2,hC,LH,SB,Nu,hs⟩:=hi;have Ei:=Za B1;have VW:=Za B2;have HD:=Za hD;have P2:=Za DX;have HF:=Za hF;have HC:=Za hC;have H1:=Za h1;clear B1 B2 hD DX hF hC h1;have hw:Wheel C f F:=by exact tl
 have HW:=Za hw;have hT:(Tryz.prog.info? 3).map (·.size)=some 1:=by kernel_rfl
 obtain ⟨u,hu1,hu2,hu3⟩ : ∃u,u≤c∧f+u≤n∧(u=c∨f+u=n):=by
  exact Zdw
 have HT:=Za hT;clear hw hT
 by_cases hfc:f+c≤n
 ·have hle:((f:Int)+(c:Int))≤(n:Int):=by omega
  obtain rfl:u=c:=by omega
  go_enter Tryz.func110,Tryz.ntmps110;go_wp2;go_quiet (fail);go_wp2;refine Bj 11 ?_;simp only [qT,qD]
  repeat (go_big_quiet_step (fail))
  refine Zj ?_;intro _ Jw;obtain ⟨nr,Xl⟩:=Jw;subst Xl;have l1:(F.take u).length=u*1:=by exact A6
  refine Xf rfl (.tmp 21) (.tmp 31) _ _ rfl 3 YO 1 Zp HT.out _ _ _ _ _ _ rfl rfl h 0 D 3 HD.out (F.take u) u O0 l1
   (fun _=>⟨rfl,_,rfl,LQ VW.out HW.out O4⟩) O3 (fun v hv=>H1.out v (ZP hv)) ?_
  intro W1 HD1 K1 S1;have Ha: ¬b=h:=Jz Ei.out HD.out Xh;have d1:=K1.cell (p:=⟨b,1,none⟩) Ha FN;have d3:=K1.cell (p:=⟨b,3,none⟩) Ha FM;have ky:=Za l1;have Mb:=Za S1;have LZ:=Za K1;have I5:Hid (Zy W1 g 3 C.toArray):=Za (QR (w:=(w.drewN nq).drewN nr) VW.out K1 (QA jg));clear l1 S1 K1 c1 c3;go_wp2;refine Bj 14 ?_;simp only [qT,qD]
  repeat (go_big_quiet_step (fail))
  refine Zj ?_;intro _ Jw;obtain ⟨ns,Xl⟩:=Jw;subst Xl;refine Xf rfl (.tmp 35) (.tmp 46) _ _ rfl 3 YO 1 Zp HT.out _ _ _ _ _ _ rfl rfl h u _ 3 HD1.out (F.drop u) 0 FL OZ
   (fun h0=>by have:=HF.out; simp at h0; omega) AZ (fun v hv=>H1.out v (Y6 hv)) ?_
  exact Zgb
 ·have hle: ¬((f:Int)+(c:Int))≤(n:Int):=by omega
  have XJ:(n:Int)< (f:Int)+(c:Int):=by omega
  obtain rfl:n=f+u:=by omega
  go_enter Tryz.func110,Tryz.ntmps110;go_wp2;go_quiet (fail);go_wp2;refine Bj 11 ?_;simp only [qT,qD]
  repeat (go_big_quiet_step (fail))
  refine Zj ?_;intro _ Jw;obtain ⟨nr,Xl⟩:=Jw;subst Xl;have l1:(F.take u).length=u*1:=by exact A6
  refine Xf rfl (.tmp 21) (.tmp 31) _ _ rfl 3 YO 1 Zp HT.out _ _ _ _ _ _ rfl rfl h 0 D 3 HD.out (F.take u) u O0 l1
   (fun _=>⟨rfl,_,rfl,LQ VW.out HW.out O4⟩) O3 (fun v hv=>H1.out v (ZP hv)) ?_
  intro W1 HD1 K1 S1;have Ha: ¬b=h:=Jz Ei.out HD.out Xh;have d1:=K1.cell (p:=⟨b,1,none⟩) Ha FN;have d3:=K1.cell (p:=⟨b,3,none⟩) Ha FM;have ky:=Za l1;have Mb:=Za S1;have LZ:=Za K1;have I5:Hid (Zy W1 g 3 C.toArray):=Za (QR (w:=(w.drewN nq).drewN nr) VW.out K1 (QA jg));clear l1 S1 K1 c1 c3;go_wp2;refine Bj 14 ?_;simp only [qT,qD]
  repeat (go_big_quiet_step (fail))
  refine Zj ?_;intro _ Jw;obtain ⟨ns,Xl⟩:=Jw;subst Xl;have e:C.length - f=u:=by have:=HC.out; omega
  have hx:=Tq I5.out HW.out;rw [e] at hx;refine Xf rfl (.tmp 35) (.tmp 46) _ _ rfl 3 YO 1 Zp HT.out _ _ _ _ _ _ rfl rfl h u _ 3 HD1.out (F.drop u) (c - u) iy OZ
   (fun _=>⟨rfl,_,rfl,hx⟩) AZ (fun v hv=>H1.out v (Y6 hv)) ?_
  clear hx e;exact Zgb
end
section
open Go.RowKit
theorem Tk (b h size m cap:Nat)(D:List Zo)(w:Zc)(hi:BW 189 w b size)
  (hD:Zy w h 3 D.toArray) (DX:D.length=m*1) (e7:m≤cap) (VU:cap≤1048576) :
  Zi Zb 110 #[.pointer (some ⟨b,0,none⟩),.slice (some ⟨h,0,none⟩) m cap] w fun e w'=>e= .returned (.tuple #[])∧Zy w' h 3 D.toArray∧Kept (fun i=>i=h) w w'∧w'.heap.size=w.heap.size:=by
 obtain ⟨c0,c1,c2,c3,-,-,-⟩:=hi.cells;obtain ⟨B1,I0,hs⟩:=hi;have Ei:=Za B1;have HD:=Za hD;have P2:=Za DX;clear B1 hD DX;have hT:(Tryz.prog.info? 3).map (·.size)=some 1:=by kernel_rfl
 have HT:=Za hT;clear hT;go_enter Tryz.func110,Tryz.ntmps110;go_wp2;go_quiet (fail);go_wp2;refine Bj 11 ?_;simp only [qT,qD]
 repeat (go_big_quiet_step (fail))
 refine Zj ?_;intro _ Jw;obtain ⟨nr,Xl⟩:=Jw;subst Xl;refine Xf rfl (.tmp 21) (.tmp 31) _ _ rfl 3 YO 1 Zp HT.out _ _ _ _ _ _ rfl rfl h 0 D 3 HD.out [] 0 FL rfl
  (fun h0=>by simp at h0) ZO (fun v hv=>by simp at hv) ?_
 intro W1 HD1 K1 S1;have Ha: ¬b=h:=Jz Ei.out HD.out Xh;have d1:=K1.cell (p:=⟨b,1,none⟩) Ha FN;have d3:=K1.cell (p:=⟨b,3,none⟩) Ha FM;have Mb:=Za S1;have LZ:=Za K1;clear S1 K1 c1 c3;go_wp2;refine Bj 14 ?_;simp only [qT,qD]
 repeat (go_big_quiet_step (fail))
 refine Zj ?_;intro _ Jw;obtain ⟨ns,Xl⟩:=Jw;subst Xl;refine Xf rfl (.tmp 35) (.tmp 46) _ _ rfl 3 YO 1 Zp HT.out _ _ _ _ _ _ rfl rfl h 0 _ 3 HD1.out [] 0 FL rfl
  (fun h0=>by simp at h0) ZO (fun v hv=>by simp at hv) ?_
 intro W2 HD2 K2 S2;have Kj:Zy W2 h 3 D.toArray∧Kept (fun i=>i=h) w W2∧W2.heap.size=w.heap.size:=by
  exact Zdn
 exact sM
theorem NM (b h size c m cap:Nat)(go:Option Nat)(D F:List Zo)(w:Zc)(hi:RingAt 189 3 1 w b go size c F)
  (hD:Zy w h 3 D.toArray) (DX:D.length=m*1) (tL:c≤m) (e7:m≤cap) (VU:cap≤1048576) (jg:go≠some h) :
  Zi Zb 110 #[.pointer (some ⟨b,0,none⟩),.slice (some ⟨h,0,none⟩) m cap] w fun e w'=>e= .returned (.tuple #[])∧Zy w' h 3 (F++D.drop F.length).toArray∧Kept (fun i=>i=h) w w'∧w'.heap.size=w.heap.size:=by
 obtain ⟨h1,h2,⟨rfl,rfl,h3⟩ | ⟨g,n,f,C,rfl,h3,h4⟩⟩:=hi
 ·obtain rfl:F=[]:=Z3 IS;have:=Tk b h size m cap D w h3 hD DX e7 VU;simpa using this
 ·exact Tl b g h size n f c m cap C D F w h3 h4 h1 h2 hD DX tL e7 VU (fun e=>jg (by rw [e]))
theorem FW (b size c JI n:Nat)(a:Option Addr)(go:Option Nat)(F:List Zo)(w:Zc)(hi:RingAt 189 3 1 w b go size c F)(c1:w.cell? ⟨b,1,none⟩=some (.slice a n n))(hn:n < JI)(Nu:n≤size)(SB:c≤JI)(Hv:JI≤size) :
  Zi Zb 182 #[.pointer (some ⟨b,0,none⟩),.int .i64 JI] w fun e w'=>e= .returned (.tuple #[])∧
   ∃n' C,Jd 189 3 1 w' b w.heap.size size n' 0 c C∧Wheel C 0 F∧JI≤n'∧Kept (fun i=>i=b) w w':=by
 obtain ⟨c0,c3⟩:=hi.cells;obtain ⟨_,I0,hs⟩:=hi.size_le;have br: ∀i,go=some i→i < w.heap.size:=fun i e=>hi.lt i (.inr e.symm)
 have Mf:b < w.heap.size:=hi.lt b (.inl rfl);obtain ⟨x2,x3,bx⟩ : ∃x2 x3,Zy w b 189 #[.int .i64 size,.slice a n n,x2,x3]:=by
  exact Zdh
 obtain rfl:x3= .int .i64 c:=by
  exact tq
 have Me:=hi.1;have jd:=hi.2.1;have od:=Za Me;have dM:=Za jd;clear Me jd;have HI:=Za hi;have HX:=Za bx;clear hi bx;obtain ⟨n1,Mm,hn00⟩ : ∃n1:Nat,(if(JI:Int)< 2*(n:Int) then 2*(n:Int) else(JI:Int))=(n1:Int)∧JI≤n1:=by
  exact Zdq
 obtain ⟨n',bz,e8,hn3⟩ : ∃n':Nat,(if(n1:Int)< (size:Int) then(n1:Int) else(size:Int))=(n':Int)∧JI≤n'∧n'≤size:=by
  exact Zdo
 have HN0:=Za Mm;have HN:=Za bz;clear bz Mm;have hT:(Tryz.prog.info? 3).map (fun i=>(i.zero,i.size,i.bytes))=some (some (.int .i64 0),1,8):=by kernel_rfl
 obtain ⟨i0,Oe,BM,BN,M5⟩:=info_parts hT;have Dt:=fun W=>Q6 (P:=Zb) 47 3 i0 _ YO Oe BM .i64 .i64 n' n' (Zg _) O5 Zp W
 rw [BN] at Dt;have zw: ∀v ∈ (madeCells (Yv (.int .i64 0)) (n'*1)).toList,v.oneCell'=true:=OD Xh Xh _;have DX:(madeCells (Yv (.int .i64 0)) (n'*1)).toList.length=n'*1:=by exact A4
 have pU:(madeCells (Yv (.int .i64 0)) (n'*1))=((madeCells (Yv (.int .i64 0)) (n'*1)).toList).toArray:=by simp
 generalize madeCells (Yv (.int .i64 0)) (n'*1)=D0 at*;generalize D0.toList=D at*;subst pU;have P2:=Za DX;have HDo:=Za zw;clear hT Oe BM BN M5 i0 zw DX;go_enter Tryz.func182,Tryz.ntmps182;go_wp2;refine Bj 13 ?_;simp only [qT,qD]
 repeat (go_big_quiet_step (fail))
 try rw [CX]
 rw [HN0.out];try rw [Rh]
 rw [HN.out];refine Zj ?_;intro _ Jw;obtain ⟨nr,Xl⟩:=Jw;subst Xl;go_wp2_with fail;refine (NM b _ size c n' n' go D F _ (RingAt.kept (S:=fun _=>False) HI.out (((ZM _ w).drewN nr).alloc _) (fun _ _ h=>h)) (Zw _ _ _) P2.out Zp Zp Zp (fun e=>by have:=br _ e; simp at this)).mono ?_;rintro e w1 ⟨rfl,EA,be,Sz⟩;have Ha: ¬b=w.heap.size:=by omega
 have Ei:Hid (Zy w1 w.heap.size 3 (F++D.drop F.length).toArray):=Za EA;have Wu:Kept (fun i=>i=w.heap.size) w w1:=(((ZM _ w).drewN nr).alloc _).trans be (fun _ _ h=>h);have Na:=Za Wu;have dC:Hid (Zy w1 b 189 #[.int .i64 size,Yr a n n,x2,.int .i64 c]):=Za (HX.out.kept Wu Ha);have d1:=dC.out.cell 1;have d2:=dC.out.cell 2;have e1:=dC.out.frozen 1;have e2:=dC.out.frozen 2;clear EA be Sz Wu;go_wp2;go_end0;have hlen:(F++D.drop F.length).length=n'*1:=by
  have h1:=od.out;have h2:=P2.out;rw [List.length_append,List.length_drop];omega
 refine ⟨rfl,n',F++D.drop F.length,⟨(dC.out.set_ 1 _).set_ 2 _,(Ei.out.far (QA Ha) _).far (QA Ha) _,hlen,by omega,by omega,hn3,hs⟩,Wheel.of_prefix (by rw [hlen]; omega),e8,?_⟩;exact Qp (S:=fun i=>i=b) (Qp (S:=fun i=>i=b) (Na.out.more_new) (.inl rfl) _) (.inl rfl) _
theorem To (b size c JI:Nat)(go:Option Nat)(F:List Zo)(w:Zc)(hi:RingAt 189 3 1 w b go size c F)(h1:1≤JI)(SB:c≤JI)(Hv:JI≤size) :
  Zi Zb 182 #[.pointer (some ⟨b,0,none⟩),.int .i64 JI] w fun e w'=>e= .returned (.tuple #[])∧
   ∃g n f C,Jd 189 3 1 w' b g size n f c C∧Wheel C (f*1) F∧JI≤n∧Moved w go (some g)∧Kept (fun i=>i=b) w w':=by
 have Mh:=hi;obtain ⟨hF,hF1,⟨rfl,rfl,h3⟩ | ⟨g,n,f,C,rfl,h3,h4⟩⟩:=hi
 ·exact (FW b size 0 JI 0 none none F w Mh h3.cells.2.1 Zp Zp SB Hv).mono fun e w' ⟨he,n',C,k1,k2,k3,k4⟩=>
   ⟨he,_,n',0,C,k1,by rw [Jo]; exact k2,k3,fun i hi=> .inr OY,k4⟩
 ·by_cases hn:JI≤n
  ·have c1:=h3.cells.2.1;have H3:=Za h3;have H4:=Za h4;have Nu:=h3.2.2.2.2.2;clear h3 h4 Mh hF hF1;go_enter Tryz.func182,Tryz.ntmps182;exact Zdp
  ·have Nu:=h3.2.2.2.2.2.1;exact (FW b size c JI n _ (some g) F w Mh h3.cells.2.1 Zp Nu SB Hv).mono fun e w' ⟨he,n',C,k1,k2,k3,k4⟩=>
    ⟨he,_,n',0,C,k1,by rw [Jo]; exact k2,k3,fun i hi=> .inr OY,k4⟩
end
section
open Go.RowKit
theorem gC (w:Zc) :Zi Zb 57 #[.pointer none] w fun e w'=>e= .returned (.slice none 0 0)∧w=w':=by
 go_enter Tryz.func57,Tryz.ntmps57;exact Vr
theorem Tj (b size c:Nat)(go:Option Nat)(F:List Zo)(w:Zc)(hi:RingAt 189 3 1 w b go size c F) :
  Zi Zb 57 #[.pointer (some ⟨b,0,none⟩)] w fun e w'=>e= .returned (.slice (some ⟨w.heap.size,0,none⟩) c c)∧Zy w' w.heap.size 3 F.toArray∧Below w.heap.size w w':=by
 obtain ⟨c0,c3⟩:=hi.cells;obtain ⟨Ff,I0,hs⟩:=hi.size_le;have br: ∀i,go=some i→i < w.heap.size:=fun i e=>hi.lt i (.inr e.symm)
 have Me:=hi.1;have od:=Za Me;have HI:=Za hi;clear hi Me;have hT:(Tryz.prog.info? 3).map (fun i=>(i.zero,i.size,i.bytes))=some (some (.int .i64 0),1,8):=by kernel_rfl
 obtain ⟨i0,Oe,BM,BN,M5⟩:=info_parts hT;have Dt:=fun W=>Q6 (P:=Zb) 47 3 i0 _ YO Oe BM .i64 .i64 c c (Zg _) O5 Zp W
 rw [BN] at Dt;have DX:(madeCells (Yv (.int .i64 0)) (c*1)).toList.length=c*1:=by exact A4
 have pU:(madeCells (Yv (.int .i64 0)) (c*1))=((madeCells (Yv (.int .i64 0)) (c*1)).toList).toArray:=by simp
 generalize madeCells (Yv (.int .i64 0)) (c*1)=D0 at*;generalize D0.toList=D at*;subst pU;have P2:=Za DX;clear hT Oe BM BN M5 i0 DX;go_enter Tryz.func57,Tryz.ntmps57;go_wp2_with fail;refine (NM b _ size c c c go D F _ (RingAt.kept (S:=fun _=>False) HI.out ((ZM _ w).alloc _) (fun _ _ h=>h)) (Zw _ _ _) P2.out Zp Zp Zp (fun e=>by have:=br _ e; simp at this)).mono ?_;rintro e w1 ⟨rfl,EA,be,Sz⟩;have Wf:Zy w1 w.heap.size 3 F.toArray:=by
  exact Zdt
 exact Zdk
end
section
open Go.RowKit
theorem Ld (b:Nat)(i c:Int)(w:Zc)(h3:w.cell? ⟨b,3,none⟩=some (.int .i64 c))(ho:i < 0∨c≤i) :
  Zi Zb 296 #[.pointer (some ⟨b,0,none⟩),.int .i64 i] w fun e w'=>e= .returned (.tuple #[.int .i64 0,.bool false])∧w=w':=by
 by_cases h:i < 0
 ·clear ho;go_enter Tryz.func296,Tryz.ntmps296;exact TY
 ·have h':0≤i:=by omega
  have h2:c≤i:=by omega
  clear ho;go_enter Tryz.func296,Tryz.ntmps296;go_wp2_with fail;refine (GK _ _ _ h3).mono ?_;rintro e w' ⟨rfl,rfl⟩;exact TY
theorem Tn (b g size n f c i:Nat)(C F:List Zo)(v:Zo)(w:Zc)(hr:Jd 189 3 1 w b g size n f c C)(hw:Wheel C (f*1) F)(hF:F.length=c*1)(hv:F[i]?=some v) :
  Zi Zb 296 #[.pointer (some ⟨b,0,none⟩),.int .i64 i] w fun e w'=>e= .returned (.tuple #[v,.bool true])∧ ∃m,w'=w.drewN m:=by
 obtain ⟨-,d1,d2,d3,-,-,-⟩:=hr.cells;obtain ⟨B1,B2,hC,LH,SB,Nu,hs⟩:=hr;have hic:i < c:=by
  rcases Nat.lt_or_ge i F.length with h | h
  ·omega
  ·rw [Qd h] at hv; cases hv
 have hi1: ¬(i:Int)< 0:=by omega
 have Uq: ¬(c:Int)≤(i:Int):=by omega
 obtain ⟨p,hp⟩ : ∃p:Nat,(f+i)%n=p:=⟨_,rfl⟩;have Nv:p < n:=by exact tw
 have Gl:w.cell? ⟨g,p,none⟩=some v:=by
  rw [B2.cell,←hp];have:=hw.get hv;rw [hC] at this;simpa using this
 have Vz: ∀W:Zc,W.cell? ⟨b,1,none⟩=some (.slice (some ⟨g,0,none⟩) n n)→W.cell? ⟨b,2,none⟩=some (.int .i64 f)→Zi Zb 183 #[.pointer (some ⟨b,0,none⟩),.int .i64 i] W fun e w'=>e= .returned (.int .i64 p)∧ ∃m,w'=W.drewN m:=fun W x1 x2=>by
  have:=ri_slot_any b n f i _ n W x1 x2 Zp Zp Zp;rwa [hp] at this
 have I8:=Za Vz;clear Vz hp B1 B2 hC hw hF hv;go_enter Tryz.func296,Tryz.ntmps296;go_wp2_with fail;refine (GK _ _ _ d3).mono ?_;rintro e w' ⟨rfl,rfl⟩;go_wp2;go_quiet ((go_at_call 183; exact Calls.quiet_of (I8.out _ d1 d2)));go_wp2;go_ret2;exact ⟨rfl,_,rfl⟩
theorem MM (b size c i:Nat)(go:Option Nat)(F:List Zo)(v:Zo)(w:Zc)(hi:RingAt 189 3 1 w b go size c F)(hv:F[i]?=some v) :
  Zi Zb 296 #[.pointer (some ⟨b,0,none⟩),.int .i64 i] w fun e w'=>e= .returned (.tuple #[v,.bool true])∧ ∃m,w'=w.drewN m:=by
 obtain ⟨hF,_,⟨rfl,rfl,_⟩ | ⟨g,n,f,C,rfl,h3,h4⟩⟩:=hi
 ·obtain rfl:F=[]:=Z3 (by simpa using hF);simp at hv
 ·exact Tn b g size n f c i C F v w h3 h4 hF hv
theorem Io (b:Nat)(w:Zc)(h3:w.cell? ⟨b,3,none⟩=some (.int .i64 0)) :
  Zi Zb 297 #[.pointer (some ⟨b,0,none⟩)] w fun e w'=>e= .returned (.tuple #[.int .i64 0,.bool false])∧w=w':=by
 go_enter Tryz.func297,Tryz.ntmps297;go_wp2_with fail;refine (Ld b 0 0 _ h3 Zp).mono ?_;rintro e w' ⟨rfl,rfl⟩;exact TY
theorem mH (b g size n f c:Nat)(C F:List Zo)(v:Zo)(w:Zc)(hr:Jd 189 3 1 w b g size n f (c+1) C)(hw:Wheel C (f*1) (v::F))(hF:F.length=c*1) :
  Zi Zb 297 #[.pointer (some ⟨b,0,none⟩)] w fun e w'=>e= .returned (.tuple #[v,.bool true])∧
   (∃f' C',Jd 189 3 1 w' b g size n f' c C'∧Wheel C' (f'*1) F)∧Kept (fun i=>i=b∨i=g) w w':=by
 have zN:=fun W (hW:Hid (W=w))=>Tn b g size n f (c+1) 0 C (v::F) v W (hW.out▸hr) hw (by simp [hF]) ZO
 obtain ⟨-,d1,d2,d3,-,fz2,pJ⟩:=hr.cells;obtain ⟨B1,B2,hC,LH,SB,Nu,hs⟩:=hr;have dN:=Za zN;have Ei:=Za B1;have VW:=Za B2;have HC:=Za hC;have HW:=Za hw;have HF:=Za hF;obtain ⟨s,hsv⟩ : ∃s:Nat,(f+1)%n=s:=⟨_,rfl⟩;have DY:s < n:=by exact ts
 have Vz: ∀W:Zc,W.cell? ⟨b,1,none⟩=some (.slice (some ⟨g,0,none⟩) n n)→W.cell? ⟨b,2,none⟩=some (.int .i64 f)→Zi Zb 183 #[.pointer (some ⟨b,0,none⟩),.int .i64 1] W fun e w'=>e= .returned (.int .i64 s)∧ ∃m,w'=W.drewN m:=fun W x1 x2=>by
  have:=ri_slot_any b n f 1 _ n W x1 x2 Zp Zp Zp;rwa [hsv] at this
 have I8:=Za Vz;have tE:=Za hsv;clear Vz hsv zN B1 B2 hC hw hF;go_enter Tryz.func297,Tryz.ntmps297;go_wp2_with fail;refine (dN.out _ (Za rfl)).mono ?_;rintro e w' ⟨rfl,q,rfl⟩;go_wp2;refine Bj 14 ?_;simp only [qT,qD]
 repeat (go_big_quiet_step (fail))
 refine Zj ?_;intro _ Jw;obtain ⟨nr,Xl⟩:=Jw;subst Xl;refine Ex rfl (.tmp 27) _ rfl 3 YO (.int .i64 0) (fun _=>by kernel_rfl) Xh g f 1 (n - f) rfl Zp C 3 VW.out ik ?_;intro W1 HD1 K1;have Pd: ¬b=g:=Jz Ei.out VW.out Xh;have EA:Hid (Zy W1 b 189 #[.int .i64 size,.slice (some ⟨g,0,none⟩) n n,.int .i64 f,.int .i64 ((c+1:Nat) :Int)]):=Za (QR (w:=(w.drewN q).drewN nr) Ei.out K1 Pd);have x1:=EA.out.cell 1;have x2:=EA.out.cell 2;have x3:W1.cell? ⟨b,3,none⟩=some (.int .i64 ((c:Int)+1)):=EA.out.cell 3;have y2:=EA.out.frozen 2;have y3:=EA.out.frozen 3;have LZ:=Za K1;clear K1 d1 d2 d3 fz2 pJ;go_wp2_with fail;refine (I8.out _ x1 x2).mono ?_;rintro e w' ⟨rfl,q2,rfl⟩;go_wp2;go_ret2;refine ⟨rfl,⟨s,_,⟨?_,Zy.far (Zy.far (HD1.out) (QA Pd) _) (QA Pd) _,?_,DY,by omega,Nu,hs⟩,?_⟩,?_⟩
 ·exact ta
 ·exact sK
 ·have hZ:(Xb (Yv (.int .i64 0)) 1).toList.length=1:=by simp [Xb,Yv]
  generalize (Xb (Yv (.int .i64 0)) 1).toList=Z at*;have Ds:f+Z.length≤C.length:=by have:=HC.out; omega
  have:=AD (C':=Vc C f Z) HW.out ZO HC.out (length_splice _ _ _ Ds) (fun p hp=>by
   rw [Bx _ _ _ Ds]
   by_cases h1:p < f
   ·rw [if_pos h1]
   ·rw [if_neg h1,if_neg Zp])
  rw [tE.out] at this;exact this
 ·refine Qp (S:=fun i=>i=b∨i=g) (Qp (S:=fun i=>i=b∨i=g) ?_ (.inl (.inl rfl)) _) (.inl (.inl rfl)) _;exact ((((ZM _ w).drewN q).drewN nr).trans LZ.out (fun _ _ h=> .inr h)).drewN q2
theorem OJ (b size c:Nat)(go:Option Nat)(F:List Zo)(v:Zo)(w:Zc)(hi:RingAt 189 3 1 w b go size (c+1) (v::F)) :
  Zi Zb 297 #[.pointer (some ⟨b,0,none⟩)] w fun e w'=>e= .returned (.tuple #[v,.bool true])∧RingAt 189 3 1 w' b go size c F∧Kept (Foot b go) w w':=by
 obtain ⟨hF,hF1,⟨rfl,h0,_⟩ | ⟨g,n,f,C,rfl,h3,h4⟩⟩:=hi
 ·omega
 ·have hl:F.length=c*1:=by exact tt
  exact (mH b g size n f c C F v w h3 h4 hl).mono fun e w' ⟨he,⟨f',C',k1,k2⟩,k3⟩=>
   ⟨he,k1.at_ k2 hl (fun x hx=>hF1 x (List.mem_cons_of_mem _ hx)),k3.more fun i _ hi=>hi.elim .inl (fun e=> .inr (by rw [e]))⟩
end
section
open Go.RowKit
theorem Iq (b size c:Nat)(w:Zc)(a:Option Addr)(len cap:Nat)(hl:len≤9223372036854775807)(h0:w.cell? ⟨b,0,none⟩=some (.int .i64 size))(h3:w.cell? ⟨b,3,none⟩=some (.int .i64 c))(hs:size≤1048576)(hc:c≤size)(hz:len=0∨c=size) :
  Zi Zb 122 #[.pointer (some ⟨b,0,none⟩),.slice a len cap] w fun e w'=>e= .returned (.int .i64 0)∧ ∃m,w'=w.drewN m:=by
 obtain ⟨d,hd⟩ : ∃d:Nat,size - c=d:=⟨_,rfl⟩;have hf: ∀W:Zc,Hid (W=w)→Zi Zb 120 #[.pointer (some ⟨b,0,none⟩)] W fun e w'=>e= .returned (.int .i64 d)∧ ∃m,w'=W.drewN m:=fun W hW=>by
  have hW:=hW.out;subst hW;rw [←hd];exact D8 b size c _ h0 h3 hs hc
 have HF:=Za hf;clear hf h0 h3
 by_cases h:(d:Int)< (len:Int)
 ·obtain rfl:d=0:=by omega
  exact Zgz
 ·obtain rfl:len=0:=by omega
  exact Zgz
theorem Ip (b size c m len cap:Nat)(go:Option Nat)(ad:Addr)(F cs:List Zo)(w:Zc)(hi:RingAt 189 3 1 w b go size c F)(Em:iJ w (Foot b go) (some ad) len 1 cs)
  (hl:len≤cap) (VU:cap≤9223372036854775807) (hm:1≤m) (lR:m≤len) (dI:c+m≤size) (hm3:m=len∨c+m=size) :
  Zi Zb 122 #[.pointer (some ⟨b,0,none⟩),.slice (some ad) len cap] w fun e w'=>e= .returned (.int .i64 m)∧
   ∃go',RingAt 189 3 1 w' b go' size (c+m) (F++cs.take m)∧Moved w go go'∧Kept (Foot b go) w w':=by
 obtain ⟨c0,c3⟩:=hi.cells;obtain ⟨_,I0,hs⟩:=hi.size_le;obtain ⟨d,hd⟩ : ∃d:Nat,size - c=d:=⟨_,rfl⟩;have hf: ∀W:Zc,Hid (W=w)→Zi Zb 120 #[.pointer (some ⟨b,0,none⟩)] W fun e w'=>e= .returned (.int .i64 d)∧ ∃m,w'=W.drewN m:=fun W hW=>by
  have hW:=hW.out;subst hW;rw [←hd];exact D8 b size c _ c0 c3 hs Zp
 have HF:=Za hf;have HI:=Za hi;have Cc:=Za Em;have hmz:((m:Int)==0)=false:=by simp; omega
 have c3': ∀q,(w.drewN q).cell? ⟨b,3,none⟩=some (.int .i64 c):=fun q=>c3
 have vU:d+c≤size:=by omega
 have vV:size≤d+c:=by omega
 clear hf hi Em c0 hd;have key: ∀q:Nat,Zi Zb 182 #[.pointer (some ⟨b,0,none⟩),.int .i64 ((c:Int)+(m:Int))] (w.drewN q) fun e w'=>e= .returned (.tuple #[])∧
   ∃g n f C,Jd 189 3 1 w' b g size n f c C∧Wheel C (f*1) F∧c+m≤n∧Moved w go (some g)∧Kept (fun i=>i=b) w w':=fun q=>by
  have:=To b size c (c+m) go F (w.drewN q) HI.out Zp Zp dI;rw [show ((c+m:Nat) :Int)=(c:Int)+(m:Int) by omega] at this;exact this.mono fun e w' ⟨he,g,n,f,C,k1,k2,k3,k4,k5⟩=>⟨he,g,n,f,C,k1,k2,k3,k4,((ZM _ w).drewN q).trans k5 (fun _ _ h=>h)⟩
 have KEY:=Za key;clear key;have hT:(Tryz.prog.info? 3).map (·.size)=some 1:=by kernel_rfl
 have HT:=Za hT;clear hT
 by_cases h:(d:Int)< (len:Int)
 ·obtain rfl:m=d:=by omega
  exact zT4
 ·obtain rfl:m=len:=by omega
  exact zT4
theorem Le (b size c len cap:Nat)(go:Option Nat)(a:Option Addr)(F cs:List Zo)(w:Zc)(hi:RingAt 189 3 1 w b go size c F)(Em:iJ w (Foot b go) a len 1 cs)
  (hl:len≤cap) (VU:cap≤9223372036854775807) :
  Zi Zb 122 #[.pointer (some ⟨b,0,none⟩),.slice a len cap] w fun e w'=>e= .returned (.int .i64 ((min len (size - c) :Nat) :Int))∧
   ∃go',RingAt 189 3 1 w' b go' size (c+min len (size - c)) (F++cs.take (min len (size - c)*1))∧Moved w go go'∧Kept (Foot b go) w w':=by
 obtain ⟨h1,h2,h3⟩:=hi.size_le
 by_cases hz:min len (size - c)=0
 ·rw [hz];refine (Iq b size c w a len cap Zp hi.cells.1 hi.cells.2 h3 h1 Zp).mono fun e w' ⟨he,m,hm⟩=>⟨he,go,?_,fun i h=> .inl h,by subst hm; exact (ZM _ _).drewN _⟩
  subst hm;simpa using hi.drewN m
 ·obtain ⟨ad,rfl,_⟩:=Em.2.2 Zp;have:=Ip b size c (min len (size - c)) len cap go ad F cs w hi Em hl VU Zp Zp Zp Zp;exact tp
end
section
open Go Go.RowKit
def nD (w:Zc)(c s:Nat) :Prop:=Zy w c 198 #[.int .i64 (s:Int)]
theorem fH (w:Zc) :Zi Zb 75 #[] w fun e w'=> ∃c,e= .returned (.pointer (some ⟨c,0,none⟩))∧w.heap.size≤c∧Hid (nD w' c 0)∧Below w.heap.size w w':=by
 go_enter Tryz.func75,Tryz.ntmps75;go_wp2;go_ret;exact ⟨w.heap.size,rfl,Zg _,Za (Zw w _ _),(Below.refl _ _).alloc (Zg _) _⟩
theorem Zbg (c s:Nat)(w:Zc)(h:nD w c s) :Zi Zb 61 #[.pointer (some ⟨c,0,none⟩)] w fun e w'=>e= .returned (.int .i64 s)∧w=w':=by
 have x:=h.cell 0;clear h;go_enter Tryz.func61,Tryz.ntmps61;exact Vr
end
section
open Go Go.RowKit
theorem dq (s n:Nat) :((s:Int)).tmod (n:Int)=((s%n:Nat) :Int):=by
 rw [Int.tmod_eq_emod_of_nonneg Zp,Int.natCast_emod]
theorem ch (bp bn c s n:Nat)(w:Zc)(h1:Zy w bp 90 #[.pointer (some ⟨c,0,none⟩)])(h2:Zy w bn 3 #[.int .i64 (n:Int)])(h3:nD w c s)(hs:s≤100)(hn:0 < n)(hn':n≤100) :
  Zi Zb 320 #[.pointer (some ⟨bp,0,none⟩),.pointer (some ⟨bn,0,none⟩)] w fun e w'=>e= .returned (.int .i64 ((s%n:Nat) :Int))∧nD w' c ((s%n+1)%n)∧Kept (fun i=>i=c) w w':=by
 have x1:=h1.cell 0;have x2:=h2.cell 0;have x3:=h3.cell 0;have f3:=h3.frozen 0;have H3:=Za h3;have e1:=dq s n;have e2:=dq (s%n+1) n;have hm:=Nat.mod_lt s hn;generalize hr:s%n=r at*;rw [Int.natCast_add] at e2;have e3:IntKind.i64.wrap ((r:Int)+1)=(r:Int)+1:=IntWalk.i64_in _ Zp;have Kt: ¬(n:Int)=0:=by omega
 clear h1 h2 h3 hr;go_enter Tryz.func320,Tryz.ntmps320;go_wp2;go_quiet (fail);go_wp2;go_region
 all_goals go_wp2
 all_goals go_ret
 all_goals refine ⟨rfl,?_,?_⟩
 ·have h:=(H3.out.drewN (nq+1)).set_ 0 (.int .i64 (((r:Int)+1)%n));have e:((r:Int)+1)%n=(((r+1)%n:Nat) :Int):=by rw [Int.natCast_emod]; rfl
  rw [e] at h ⊢;exact h
 ·exact Qp (S:=fun i=>i=c) (p:=⟨c,0,none⟩) ((ZM (fun i=>i=c) w).drewN (nq+1)) (.inl rfl) _
theorem bR (c n:Nat)(w:Zc) :
  Zi Zb 303 #[.pointer (some ⟨c,0,none⟩),.int .i64 n] w fun e w'=>e= .returned (.func (.func 320) #[] #[.pointer (some ⟨w.heap.size,0,none⟩),.pointer (some ⟨w.heap.size+1,0,none⟩)])∧(w.alloc (.cells #[.pointer (some ⟨c,0,none⟩)] 90)).alloc (.cells #[.int .i64 n] 3)=w':=by
 have IZ: ∀(fn:Fn) (first cap:Array Zo) (w:Zc),(Instr.makeFunc fn first cap).run Zb w= .ok (.func fn first cap) w:=fun _ _ _ _=>rfl
 go_enter Tryz.func303,Tryz.ntmps303;exact Vr
end
section
open Go Go.RowKit
def VY (L:List Int) :Array Zo:=(L.map (Value.int .u64)).toArray
theorem kV {L:List Int}{i:Nat}(hi:i < L.length) :(VY L)[i]?=some (.int .u64 (L.getD i 0)):=by
 rw [VY,List.getElem?_toArray,List.getElem?_map,List.getD_eq_getElem?_getD,List.getElem?_eq_getElem hi];rfl
theorem ei (L:List Int)(i:Nat)(b:Int) :(VY L).setIfInBounds i (.int .u64 b)=VY (L.set i b):=by
 simp [VY,List.map_set]
theorem ma (n:Nat) :madeCells #[.int .u64 0] n=VY (ZF n 0):=by
 apply Array.ext
 ·simp [madeCells,VY]
 ·intro i h1 h2;simp [madeCells,Nat.mod_one,VY]
theorem dr: ∃i,Tryz.prog.info? 22=some i∧i.zero=some (.int .u64 0)∧i.size=1∧i.bytes=8:=by
 exact Zgn
theorem EZ (n:Nat)(hn:n≤100000)(w:Zc) :
  (VR 143 (.int .i64 (n:Int)) (.int .i64 (n:Int))).run Zb w= .ok (.slice (some ⟨w.heap.size,0,none⟩) n n) (w.alloc (.cells (VY (ZF n 0)) 22)):=by
 obtain ⟨i,hi,hz,hs,Hu⟩:=dr;have Dt:=Q6 (P:=Zb) 143 22 i _ Tryz.underlying143 hi hz .i64 .i64 n n (Zg _) TW Zp w;rw [hs,Nat.mul_one] at Dt;have tV:(Value.int .u64 0).cells= #[.int .u64 0]:=rfl;rw [tV,ma] at Dt;exact Dt
def Fh (w:Zc)(g:Nat)(L:List Int) :Prop:=Zy w g 22 (VY L)
section
variable {w:Zc} {g:Nat} {L:List Int}
theorem Fh.cell (h:Fh w g L){i:Nat}(hi:i < L.length) :w.cell? ⟨g,i,none⟩=some (.int .u64 (L.getD i 0)):=(Zy.cell h i).trans (kV hi)
theorem Fh.frozen (h:Fh w g L)(i:Nat) :w.frozen? ⟨g,i,none⟩=false:=Zy.frozen h i
theorem Fh.set (h:Fh w g L)(i:Nat)(b:Int) :Fh (w.setCell ⟨g,i,none⟩ (.int .u64 b)) g (L.set i b):=by
 have:=Zy.set_ h i (.int .u64 b);rw [ei] at this;exact this
theorem Fh.drewN (h:Fh w g L)(n:Nat) :Fh (w.drewN n) g L:=h
theorem Fh.alloc (h:Fh w g L)(o:Obj) :Fh (w.alloc o) g L:=Zy.alloc h o
theorem Fh.below {w':Zc}(h:Fh w g L)(hb:Below w.heap.size w w') :Fh w' g L:=Zy.below h hb (Zy.lt h)
end
end
section
open Go.RowKit
theorem cF (s:Nat)(w:Zc)(h:1≤s)(h2:s≤1048576) :
  Zi Zb 80 #[.int .i64 s] w fun e w'=>e= .returned (.pointer (some ⟨w.heap.size,0,none⟩))∧w.alloc (.cells #[.int .i64 s,.slice none 0 0,.int .i64 0,.int .i64 0] 192)=w':=by
 have h0: ¬(s:Int)< 1:=by omega
 have h3: ¬(1048576:Int)< (s:Int):=by omega
 go_enter Tryz.func80,Tryz.ntmps80;exact Vr
theorem Tc (b:Nat)(c:Int)(w:Zc)(h:w.cell? ⟨b,3,none⟩=some (.int .i64 c)) :
  Zi Zb 315 #[.pointer (some ⟨b,0,none⟩)] w fun e w'=>e= .returned (.int .i64 c)∧w=w':=by
 go_enter Tryz.func315,Tryz.ntmps315;exact Vr
theorem Pw (b:Nat)(s c:Nat)(w:Zc)(h0:w.cell? ⟨b,0,none⟩=some (.int .i64 s))(h3:w.cell? ⟨b,3,none⟩=some (.int .i64 c))(hs:s≤1048576)(hc:c≤s) :
  Zi Zb 200 #[.pointer (some ⟨b,0,none⟩)] w fun e w'=>e= .returned (.int .i64 ((s - c:Nat) :Int))∧ ∃m,w'=w.drewN m:=by
 go_enter Tryz.func200,Tryz.ntmps200;exact sX
theorem r2_slot_any (b n f i:Nat)(a:Option Addr)(cap:Nat)(w:Zc)(h1:w.cell? ⟨b,1,none⟩=some (.slice a n cap))(h2:w.cell? ⟨b,2,none⟩=some (.int .i64 f))(hn:0 < n)(hf:f≤1048576)(hi:i≤1048576) :
  Zi Zb 202 #[.pointer (some ⟨b,0,none⟩),.int .i64 i] w fun e w'=>e= .returned (.int .i64 (((f+i)%n:Nat) :Int))∧ ∃m,w'=w.drewN m:=by
 have hz:((n:Int)==0)=false:=by simp; omega
 go_enter Tryz.func202,Tryz.ntmps202;exact sZ
end
section
open Go.RowKit
theorem Tb (b g h size n f c m cap:Nat)(C D F:List Zo)(w:Zc)(hi:Jd 192 73 2 w b g size n f c C)(hw:Wheel C (f*2) F)(hF:F.length=c*2)(h1: ∀v ∈ F,v.oneCell'=true)
  (hD:Zy w h 73 D.toArray) (DX:D.length=m*2) (tL:c≤m) (e7:m≤cap) (VU:cap≤1048576) (jg:h≠g) :
  Zi Zb 112 #[.pointer (some ⟨b,0,none⟩),.slice (some ⟨h,0,none⟩) m cap] w fun e w'=>e= .returned (.tuple #[])∧Zy w' h 73 (F++D.drop F.length).toArray∧Kept (fun i=>i=h) w w'∧w'.heap.size=w.heap.size:=by
 obtain ⟨c0,c1,c2,c3,-,-,-⟩:=hi.cells;obtain ⟨B1,B2,hC,LH,SB,Nu,hs⟩:=hi;have Ei:=Za B1;have VW:=Za B2;have HD:=Za hD;have P2:=Za DX;have HF:=Za hF;have HC:=Za hC;have H1:=Za h1;clear B1 B2 hD DX hF hC h1;have hw:Wheel C (f*2) F:=by exact tl
 have HW:=Za hw;have hT:(Tryz.prog.info? 73).map (·.size)=some 2:=by kernel_rfl
 obtain ⟨u,hu1,hu2,hu3⟩ : ∃u,u≤c∧f+u≤n∧(u=c∨f+u=n):=by
  exact Zdw
 have HT:=Za hT;clear hw hT
 by_cases hfc:f+c≤n
 ·have hle:((f:Int)+(c:Int))≤(n:Int):=by omega
  obtain rfl:u=c:=by omega
  go_enter Tryz.func112,Tryz.ntmps112;go_wp2;go_quiet (fail);go_wp2;refine Bj 11 ?_;simp only [qT,qD]
  repeat (go_big_quiet_step (fail))
  refine Zj ?_;intro _ Jw;obtain ⟨nr,Xl⟩:=Jw;subst Xl;have l1:(F.take (u*2)).length=u*2:=by exact A6
  refine Xf rfl (.tmp 21) (.tmp 31) _ _ rfl 73 XB 2 Zp HT.out _ _ _ _ _ _ rfl rfl h 0 D 73 HD.out (F.take (u*2)) u O0 l1
   (fun _=>⟨rfl,_,rfl,LQ VW.out HW.out O4⟩) O3 (fun v hv=>H1.out v (ZP hv)) ?_
  intro W1 HD1 K1 S1;have Ha: ¬b=h:=Jz Ei.out HD.out Xh;have d1:=K1.cell (p:=⟨b,1,none⟩) Ha FN;have d3:=K1.cell (p:=⟨b,3,none⟩) Ha FM;have ky:=Za l1;have Mb:=Za S1;have LZ:=Za K1;have I5:Hid (Zy W1 g 73 C.toArray):=Za (QR (w:=(w.drewN nq).drewN nr) VW.out K1 (QA jg));clear l1 S1 K1 c1 c3;go_wp2;refine Bj 14 ?_;simp only [qT,qD]
  repeat (go_big_quiet_step (fail))
  refine Zj ?_;intro _ Jw;obtain ⟨ns,Xl⟩:=Jw;subst Xl;refine Xf rfl (.tmp 35) (.tmp 46) _ _ rfl 73 XB 2 Zp HT.out _ _ _ _ _ _ rfl rfl h (u*2) _ 73 HD1.out (F.drop (u*2)) 0 FL OZ
   (fun h0=>by have:=HF.out; simp at h0; omega) AZ (fun v hv=>H1.out v (Y6 hv)) ?_
  exact Zf8
 ·have hle: ¬((f:Int)+(c:Int))≤(n:Int):=by omega
  have XJ:(n:Int)< (f:Int)+(c:Int):=by omega
  obtain rfl:n=f+u:=by omega
  go_enter Tryz.func112,Tryz.ntmps112;go_wp2;go_quiet (fail);go_wp2;refine Bj 11 ?_;simp only [qT,qD]
  repeat (go_big_quiet_step (fail))
  refine Zj ?_;intro _ Jw;obtain ⟨nr,Xl⟩:=Jw;subst Xl;have l1:(F.take (u*2)).length=u*2:=by exact A6
  refine Xf rfl (.tmp 21) (.tmp 31) _ _ rfl 73 XB 2 Zp HT.out _ _ _ _ _ _ rfl rfl h 0 D 73 HD.out (F.take (u*2)) u O0 l1
   (fun _=>⟨rfl,_,rfl,LQ VW.out HW.out O4⟩) O3 (fun v hv=>H1.out v (ZP hv)) ?_
  intro W1 HD1 K1 S1;have Ha: ¬b=h:=Jz Ei.out HD.out Xh;have d1:=K1.cell (p:=⟨b,1,none⟩) Ha FN;have d3:=K1.cell (p:=⟨b,3,none⟩) Ha FM;have ky:=Za l1;have Mb:=Za S1;have LZ:=Za K1;have I5:Hid (Zy W1 g 73 C.toArray):=Za (QR (w:=(w.drewN nq).drewN nr) VW.out K1 (QA jg));clear l1 S1 K1 c1 c3;go_wp2;refine Bj 14 ?_;simp only [qT,qD]
  repeat (go_big_quiet_step (fail))
  refine Zj ?_;intro _ Jw;obtain ⟨ns,Xl⟩:=Jw;subst Xl;have e:C.length -(f*2)=(u*2):=by have:=HC.out; omega
  have hx:=Tq I5.out HW.out;rw [e] at hx;refine Xf rfl (.tmp 35) (.tmp 46) _ _ rfl 73 XB 2 Zp HT.out _ _ _ _ _ _ rfl rfl h (u*2) _ 73 HD1.out (F.drop (u*2)) (c - u) iy OZ
   (fun _=>⟨rfl,_,rfl,hx⟩) AZ (fun v hv=>H1.out v (Y6 hv)) ?_
  clear hx e;exact Zf8
end
section
open Go.RowKit
theorem Ta (b h size m cap:Nat)(D:List Zo)(w:Zc)(hi:BW 192 w b size)
  (hD:Zy w h 73 D.toArray) (DX:D.length=m*2) (e7:m≤cap) (VU:cap≤1048576) :
  Zi Zb 112 #[.pointer (some ⟨b,0,none⟩),.slice (some ⟨h,0,none⟩) m cap] w fun e w'=>e= .returned (.tuple #[])∧Zy w' h 73 D.toArray∧Kept (fun i=>i=h) w w'∧w'.heap.size=w.heap.size:=by
 obtain ⟨c0,c1,c2,c3,-,-,-⟩:=hi.cells;obtain ⟨B1,I0,hs⟩:=hi;have Ei:=Za B1;have HD:=Za hD;have P2:=Za DX;clear B1 hD DX;have hT:(Tryz.prog.info? 73).map (·.size)=some 2:=by kernel_rfl
 have HT:=Za hT;clear hT;go_enter Tryz.func112,Tryz.ntmps112;go_wp2;go_quiet (fail);go_wp2;refine Bj 11 ?_;simp only [qT,qD]
 repeat (go_big_quiet_step (fail))
 refine Zj ?_;intro _ Jw;obtain ⟨nr,Xl⟩:=Jw;subst Xl;refine Xf rfl (.tmp 21) (.tmp 31) _ _ rfl 73 XB 2 Zp HT.out _ _ _ _ _ _ rfl rfl h 0 D 73 HD.out [] 0 FL rfl
  (fun h0=>by simp at h0) ZO (fun v hv=>by simp at hv) ?_
 intro W1 HD1 K1 S1;have Ha: ¬b=h:=Jz Ei.out HD.out Xh;have d1:=K1.cell (p:=⟨b,1,none⟩) Ha FN;have d3:=K1.cell (p:=⟨b,3,none⟩) Ha FM;have Mb:=Za S1;have LZ:=Za K1;clear S1 K1 c1 c3;go_wp2;refine Bj 14 ?_;simp only [qT,qD]
 repeat (go_big_quiet_step (fail))
 refine Zj ?_;intro _ Jw;obtain ⟨ns,Xl⟩:=Jw;subst Xl;refine Xf rfl (.tmp 35) (.tmp 46) _ _ rfl 73 XB 2 Zp HT.out _ _ _ _ _ _ rfl rfl h 0 _ 73 HD1.out [] 0 FL rfl
  (fun h0=>by simp at h0) ZO (fun v hv=>by simp at hv) ?_
 intro W2 HD2 K2 S2;have Kj:Zy W2 h 73 D.toArray∧Kept (fun i=>i=h) w W2∧W2.heap.size=w.heap.size:=by
  exact Zdn
 exact sM
theorem NJ (b h size c m cap:Nat)(go:Option Nat)(D F:List Zo)(w:Zc)(hi:RingAt 192 73 2 w b go size c F)
  (hD:Zy w h 73 D.toArray) (DX:D.length=m*2) (tL:c≤m) (e7:m≤cap) (VU:cap≤1048576) (jg:go≠some h) :
  Zi Zb 112 #[.pointer (some ⟨b,0,none⟩),.slice (some ⟨h,0,none⟩) m cap] w fun e w'=>e= .returned (.tuple #[])∧Zy w' h 73 (F++D.drop F.length).toArray∧Kept (fun i=>i=h) w w'∧w'.heap.size=w.heap.size:=by
 obtain ⟨h1,h2,⟨rfl,rfl,h3⟩ | ⟨g,n,f,C,rfl,h3,h4⟩⟩:=hi
 ·obtain rfl:F=[]:=Z3 IS;have:=Ta b h size m cap D w h3 hD DX e7 VU;simpa using this
 ·exact Tb b g h size n f c m cap C D F w h3 h4 h1 h2 hD DX tL e7 VU (fun e=>jg (by rw [e]))
theorem FV (b size c JI n:Nat)(a:Option Addr)(go:Option Nat)(F:List Zo)(w:Zc)(hi:RingAt 192 73 2 w b go size c F)(c1:w.cell? ⟨b,1,none⟩=some (.slice a n n))(hn:n < JI)(Nu:n≤size)(SB:c≤JI)(Hv:JI≤size) :
  Zi Zb 201 #[.pointer (some ⟨b,0,none⟩),.int .i64 JI] w fun e w'=>e= .returned (.tuple #[])∧
   ∃n' C,Jd 192 73 2 w' b w.heap.size size n' 0 c C∧Wheel C 0 F∧JI≤n'∧Kept (fun i=>i=b) w w':=by
 obtain ⟨c0,c3⟩:=hi.cells;obtain ⟨_,I0,hs⟩:=hi.size_le;have br: ∀i,go=some i→i < w.heap.size:=fun i e=>hi.lt i (.inr e.symm)
 have Mf:b < w.heap.size:=hi.lt b (.inl rfl);obtain ⟨x2,x3,bx⟩ : ∃x2 x3,Zy w b 192 #[.int .i64 size,.slice a n n,x2,x3]:=by
  exact Zdh
 obtain rfl:x3= .int .i64 c:=by
  exact tq
 have Me:=hi.1;have jd:=hi.2.1;have od:=Za Me;have dM:=Za jd;clear Me jd;have HI:=Za hi;have HX:=Za bx;clear hi bx;obtain ⟨n1,Mm,hn00⟩ : ∃n1:Nat,(if(JI:Int)< 2*(n:Int) then 2*(n:Int) else(JI:Int))=(n1:Int)∧JI≤n1:=by
  exact Zdq
 obtain ⟨n',bz,e8,hn3⟩ : ∃n':Nat,(if(n1:Int)< (size:Int) then(n1:Int) else(size:Int))=(n':Int)∧JI≤n'∧n'≤size:=by
  exact Zdo
 have HN0:=Za Mm;have HN:=Za bz;clear bz Mm;have hT:(Tryz.prog.info? 73).map (fun i=>(i.zero,i.size,i.bytes))=some (some (.agg #[.int .i64 0,.int .i64 0]),2,16):=by kernel_rfl
 obtain ⟨i0,Oe,BM,BN,M5⟩:=info_parts hT;have Dt:=fun W=>Q6 (P:=Zb) 48 73 i0 _ XB Oe BM .i64 .i64 n' n' (Zg _) O5 Zp W
 rw [BN] at Dt;have zw: ∀v ∈ (madeCells (Yv (.agg #[.int .i64 0,.int .i64 0])) (n'*2)).toList,v.oneCell'=true:=OD Xh Xh _;have DX:(madeCells (Yv (.agg #[.int .i64 0,.int .i64 0])) (n'*2)).toList.length=n'*2:=by exact A4
 have pU:(madeCells (Yv (.agg #[.int .i64 0,.int .i64 0])) (n'*2))=((madeCells (Yv (.agg #[.int .i64 0,.int .i64 0])) (n'*2)).toList).toArray:=by simp
 generalize madeCells (Yv (.agg #[.int .i64 0,.int .i64 0])) (n'*2)=D0 at*;generalize D0.toList=D at*;subst pU;have P2:=Za DX;have HDo:=Za zw;clear hT Oe BM BN M5 i0 zw DX;go_enter Tryz.func201,Tryz.ntmps201;go_wp2;refine Bj 13 ?_;simp only [qT,qD]
 repeat (go_big_quiet_step (fail))
 try rw [CX]
 rw [HN0.out];try rw [Rh]
 rw [HN.out];refine Zj ?_;intro _ Jw;obtain ⟨nr,Xl⟩:=Jw;subst Xl;go_wp2_with fail;refine (NJ b _ size c n' n' go D F _ (RingAt.kept (S:=fun _=>False) HI.out (((ZM _ w).drewN nr).alloc _) (fun _ _ h=>h)) (Zw _ _ _) P2.out Zp Zp Zp (fun e=>by have:=br _ e; simp at this)).mono ?_;rintro e w1 ⟨rfl,EA,be,Sz⟩;have Ha: ¬b=w.heap.size:=by omega
 have Ei:Hid (Zy w1 w.heap.size 73 (F++D.drop F.length).toArray):=Za EA;have Wu:Kept (fun i=>i=w.heap.size) w w1:=(((ZM _ w).drewN nr).alloc _).trans be (fun _ _ h=>h);have Na:=Za Wu;have dC:Hid (Zy w1 b 192 #[.int .i64 size,Yr a n n,x2,.int .i64 c]):=Za (HX.out.kept Wu Ha);exact Zf7
theorem Td (b size c JI:Nat)(go:Option Nat)(F:List Zo)(w:Zc)(hi:RingAt 192 73 2 w b go size c F)(h1:1≤JI)(SB:c≤JI)(Hv:JI≤size) :
  Zi Zb 201 #[.pointer (some ⟨b,0,none⟩),.int .i64 JI] w fun e w'=>e= .returned (.tuple #[])∧
   ∃g n f C,Jd 192 73 2 w' b g size n f c C∧Wheel C (f*2) F∧JI≤n∧Moved w go (some g)∧Kept (fun i=>i=b) w w':=by
 have Mh:=hi;obtain ⟨hF,hF1,⟨rfl,rfl,h3⟩ | ⟨g,n,f,C,rfl,h3,h4⟩⟩:=hi
 ·exact (FV b size 0 JI 0 none none F w Mh h3.cells.2.1 Zp Zp SB Hv).mono fun e w' ⟨he,n',C,k1,k2,k3,k4⟩=>
   ⟨he,_,n',0,C,k1,by rw [Jo]; exact k2,k3,fun i hi=> .inr OY,k4⟩
 ·by_cases hn:JI≤n
  ·have c1:=h3.cells.2.1;have H3:=Za h3;have H4:=Za h4;have Nu:=h3.2.2.2.2.2;clear h3 h4 Mh hF hF1;go_enter Tryz.func201,Tryz.ntmps201;exact Zdp
  ·have Nu:=h3.2.2.2.2.2.1;exact (FV b size c JI n _ (some g) F w Mh h3.cells.2.1 Zp Nu SB Hv).mono fun e w' ⟨he,n',C,k1,k2,k3,k4⟩=>
    ⟨he,_,n',0,C,k1,by rw [Jo]; exact k2,k3,fun i hi=> .inr OY,k4⟩
end
section
open Go.RowKit
theorem Ii (b size c:Nat)(w:Zc)(a:Option Addr)(len cap:Nat)(hl:len≤9223372036854775807)(h0:w.cell? ⟨b,0,none⟩=some (.int .i64 size))(h3:w.cell? ⟨b,3,none⟩=some (.int .i64 c))(hs:size≤1048576)(hc:c≤size)(hz:len=0∨c=size) :
  Zi Zb 131 #[.pointer (some ⟨b,0,none⟩),.slice a len cap] w fun e w'=>e= .returned (.int .i64 0)∧ ∃m,w'=w.drewN m:=by
 obtain ⟨d,hd⟩ : ∃d:Nat,size - c=d:=⟨_,rfl⟩;have hf: ∀W:Zc,Hid (W=w)→Zi Zb 200 #[.pointer (some ⟨b,0,none⟩)] W fun e w'=>e= .returned (.int .i64 d)∧ ∃m,w'=W.drewN m:=fun W hW=>by
  have hW:=hW.out;subst hW;rw [←hd];exact Pw b size c _ h0 h3 hs hc
 have HF:=Za hf;clear hf h0 h3
 by_cases h:(d:Int)< (len:Int)
 ·obtain rfl:d=0:=by omega
  exact ZgA
 ·obtain rfl:len=0:=by omega
  exact ZgA
theorem Ih (b size c m len cap:Nat)(go:Option Nat)(ad:Addr)(F cs:List Zo)(w:Zc)(hi:RingAt 192 73 2 w b go size c F)(Em:iJ w (Foot b go) (some ad) len 2 cs)
  (hl:len≤cap) (VU:cap≤9223372036854775807) (hm:1≤m) (lR:m≤len) (dI:c+m≤size) (hm3:m=len∨c+m=size) :
  Zi Zb 131 #[.pointer (some ⟨b,0,none⟩),.slice (some ad) len cap] w fun e w'=>e= .returned (.int .i64 m)∧
   ∃go',RingAt 192 73 2 w' b go' size (c+m) (F++cs.take (m*2))∧Moved w go go'∧Kept (Foot b go) w w':=by
 obtain ⟨c0,c3⟩:=hi.cells;obtain ⟨_,I0,hs⟩:=hi.size_le;obtain ⟨d,hd⟩ : ∃d:Nat,size - c=d:=⟨_,rfl⟩;have hf: ∀W:Zc,Hid (W=w)→Zi Zb 200 #[.pointer (some ⟨b,0,none⟩)] W fun e w'=>e= .returned (.int .i64 d)∧ ∃m,w'=W.drewN m:=fun W hW=>by
  have hW:=hW.out;subst hW;rw [←hd];exact Pw b size c _ c0 c3 hs Zp
 have HF:=Za hf;have HI:=Za hi;have Cc:=Za Em;have hmz:((m:Int)==0)=false:=by simp; omega
 have c3': ∀q,(w.drewN q).cell? ⟨b,3,none⟩=some (.int .i64 c):=fun q=>c3
 have vU:d+c≤size:=by omega
 have vV:size≤d+c:=by omega
 clear hf hi Em c0 hd;have key: ∀q:Nat,Zi Zb 201 #[.pointer (some ⟨b,0,none⟩),.int .i64 ((c:Int)+(m:Int))] (w.drewN q) fun e w'=>e= .returned (.tuple #[])∧
   ∃g n f C,Jd 192 73 2 w' b g size n f c C∧Wheel C (f*2) F∧c+m≤n∧Moved w go (some g)∧Kept (fun i=>i=b) w w':=fun q=>by
  have:=Td b size c (c+m) go F (w.drewN q) HI.out Zp Zp dI;rw [show ((c+m:Nat) :Int)=(c:Int)+(m:Int) by omega] at this;exact this.mono fun e w' ⟨he,g,n,f,C,k1,k2,k3,k4,k5⟩=>⟨he,g,n,f,C,k1,k2,k3,k4,((ZM _ w).drewN q).trans k5 (fun _ _ h=>h)⟩
 have KEY:=Za key;clear key;have hT:(Tryz.prog.info? 73).map (·.size)=some 2:=by kernel_rfl
 have HT:=Za hT;clear hT
 by_cases h:(d:Int)< (len:Int)
 ·obtain rfl:m=d:=by omega
  exact zT2
 ·obtain rfl:m=len:=by omega
  exact zT2
theorem Pz (b size c len cap:Nat)(go:Option Nat)(a:Option Addr)(F cs:List Zo)(w:Zc)(hi:RingAt 192 73 2 w b go size c F)(Em:iJ w (Foot b go) a len 2 cs)
  (hl:len≤cap) (VU:cap≤9223372036854775807) :
  Zi Zb 131 #[.pointer (some ⟨b,0,none⟩),.slice a len cap] w fun e w'=>e= .returned (.int .i64 ((min len (size - c) :Nat) :Int))∧
   ∃go',RingAt 192 73 2 w' b go' size (c+min len (size - c)) (F++cs.take (min len (size - c)*2))∧Moved w go go'∧Kept (Foot b go) w w':=by
 obtain ⟨h1,h2,h3⟩:=hi.size_le
 by_cases hz:min len (size - c)=0
 ·rw [hz];refine (Ii b size c w a len cap Zp hi.cells.1 hi.cells.2 h3 h1 Zp).mono fun e w' ⟨he,m,hm⟩=>⟨he,go,?_,fun i h=> .inl h,by subst hm; exact (ZM _ _).drewN _⟩
  subst hm;simpa using hi.drewN m
 ·obtain ⟨ad,rfl,_⟩:=Em.2.2 Zp;have:=Ih b size c (min len (size - c)) len cap go ad F cs w hi Em hl VU Zp Zp Zp Zp;exact tp
end
section
open Go.RowKit
theorem cN (s:Nat)(w:Zc)(h:1≤s)(h2:s≤1048576) :
  Zi Zb 81 #[.int .i64 s] w fun e w'=>e= .returned (.pointer (some ⟨w.heap.size,0,none⟩))∧w.alloc (.cells #[.int .i64 s,.slice none 0 0,.int .i64 0,.int .i64 0] 195)=w':=by
 have h0: ¬(s:Int)< 1:=by omega
 have h3: ¬(1048576:Int)< (s:Int):=by omega
 go_enter Tryz.func81,Tryz.ntmps81;exact Vr
theorem Tu (b:Nat)(c:Int)(w:Zc)(h:w.cell? ⟨b,3,none⟩=some (.int .i64 c)) :
  Zi Zb 300 #[.pointer (some ⟨b,0,none⟩)] w fun e w'=>e= .returned (.int .i64 c)∧w=w':=by
 go_enter Tryz.func300,Tryz.ntmps300;exact Vr
theorem PB (b:Nat)(s c:Nat)(w:Zc)(h0:w.cell? ⟨b,0,none⟩=some (.int .i64 s))(h3:w.cell? ⟨b,3,none⟩=some (.int .i64 c))(hs:s≤1048576)(hc:c≤s) :
  Zi Zb 205 #[.pointer (some ⟨b,0,none⟩)] w fun e w'=>e= .returned (.int .i64 ((s - c:Nat) :Int))∧ ∃m,w'=w.drewN m:=by
 go_enter Tryz.func205,Tryz.ntmps205;exact sX
theorem Li (b n f i:Nat)(a:Option Addr)(cap:Nat)(w:Zc)(h1:w.cell? ⟨b,1,none⟩=some (.slice a n cap))(h2:w.cell? ⟨b,2,none⟩=some (.int .i64 f))(hn:0 < n)(hf:f≤1048576)(hi:i≤1048576) :
  Zi Zb 207 #[.pointer (some ⟨b,0,none⟩),.int .i64 i] w fun e w'=>e= .returned (.int .i64 (((f+i)%n:Nat) :Int))∧ ∃m,w'=w.drewN m:=by
 have hz:((n:Int)==0)=false:=by simp; omega
 go_enter Tryz.func207,Tryz.ntmps207;exact sZ
end
section
open Go.RowKit
theorem Ts (b g h size n f c m cap:Nat)(C D F:List Zo)(w:Zc)(hi:Jd 195 75 2 w b g size n f c C)(hw:Wheel C (f*2) F)(hF:F.length=c*2)(h1: ∀v ∈ F,v.oneCell'=true)
  (hD:Zy w h 75 D.toArray) (DX:D.length=m*2) (tL:c≤m) (e7:m≤cap) (VU:cap≤1048576) (jg:h≠g) :
  Zi Zb 113 #[.pointer (some ⟨b,0,none⟩),.slice (some ⟨h,0,none⟩) m cap] w fun e w'=>e= .returned (.tuple #[])∧Zy w' h 75 (F++D.drop F.length).toArray∧Kept (fun i=>i=h) w w'∧w'.heap.size=w.heap.size:=by
 obtain ⟨c0,c1,c2,c3,-,-,-⟩:=hi.cells;obtain ⟨B1,B2,hC,LH,SB,Nu,hs⟩:=hi;have Ei:=Za B1;have VW:=Za B2;have HD:=Za hD;have P2:=Za DX;have HF:=Za hF;have HC:=Za hC;have H1:=Za h1;clear B1 B2 hD DX hF hC h1;have hw:Wheel C (f*2) F:=by exact tl
 have HW:=Za hw;have hT:(Tryz.prog.info? 75).map (·.size)=some 2:=by kernel_rfl
 obtain ⟨u,hu1,hu2,hu3⟩ : ∃u,u≤c∧f+u≤n∧(u=c∨f+u=n):=by
  exact Zdw
 have HT:=Za hT;clear hw hT
 by_cases hfc:f+c≤n
 ·have hle:((f:Int)+(c:Int))≤(n:Int):=by omega
  obtain rfl:u=c:=by omega
  go_enter Tryz.func113,Tryz.ntmps113;go_wp2;go_quiet (fail);go_wp2;refine Bj 11 ?_;simp only [qT,qD]
  repeat (go_big_quiet_step (fail))
  refine Zj ?_;intro _ Jw;obtain ⟨nr,Xl⟩:=Jw;subst Xl;have l1:(F.take (u*2)).length=u*2:=by exact A6
  refine Xf rfl (.tmp 21) (.tmp 31) _ _ rfl 75 Xt 2 Zp HT.out _ _ _ _ _ _ rfl rfl h 0 D 75 HD.out (F.take (u*2)) u O0 l1
   (fun _=>⟨rfl,_,rfl,LQ VW.out HW.out O4⟩) O3 (fun v hv=>H1.out v (ZP hv)) ?_
  intro W1 HD1 K1 S1;have Ha: ¬b=h:=Jz Ei.out HD.out Xh;have d1:=K1.cell (p:=⟨b,1,none⟩) Ha FN;have d3:=K1.cell (p:=⟨b,3,none⟩) Ha FM;have ky:=Za l1;have Mb:=Za S1;have LZ:=Za K1;have I5:Hid (Zy W1 g 75 C.toArray):=Za (QR (w:=(w.drewN nq).drewN nr) VW.out K1 (QA jg));clear l1 S1 K1 c1 c3;go_wp2;refine Bj 14 ?_;simp only [qT,qD]
  repeat (go_big_quiet_step (fail))
  refine Zj ?_;intro _ Jw;obtain ⟨ns,Xl⟩:=Jw;subst Xl;refine Xf rfl (.tmp 35) (.tmp 46) _ _ rfl 75 Xt 2 Zp HT.out _ _ _ _ _ _ rfl rfl h (u*2) _ 75 HD1.out (F.drop (u*2)) 0 FL OZ
   (fun h0=>by have:=HF.out; simp at h0; omega) AZ (fun v hv=>H1.out v (Y6 hv)) ?_
  exact Zf9
 ·have hle: ¬((f:Int)+(c:Int))≤(n:Int):=by omega
  have XJ:(n:Int)< (f:Int)+(c:Int):=by omega
  obtain rfl:n=f+u:=by omega
  go_enter Tryz.func113,Tryz.ntmps113;go_wp2;go_quiet (fail);go_wp2;refine Bj 11 ?_;simp only [qT,qD]
  repeat (go_big_quiet_step (fail))
  refine Zj ?_;intro _ Jw;obtain ⟨nr,Xl⟩:=Jw;subst Xl;have l1:(F.take (u*2)).length=u*2:=by exact A6
  refine Xf rfl (.tmp 21) (.tmp 31) _ _ rfl 75 Xt 2 Zp HT.out _ _ _ _ _ _ rfl rfl h 0 D 75 HD.out (F.take (u*2)) u O0 l1
   (fun _=>⟨rfl,_,rfl,LQ VW.out HW.out O4⟩) O3 (fun v hv=>H1.out v (ZP hv)) ?_
  intro W1 HD1 K1 S1;have Ha: ¬b=h:=Jz Ei.out HD.out Xh;have d1:=K1.cell (p:=⟨b,1,none⟩) Ha FN;have d3:=K1.cell (p:=⟨b,3,none⟩) Ha FM;have ky:=Za l1;have Mb:=Za S1;have LZ:=Za K1;have I5:Hid (Zy W1 g 75 C.toArray):=Za (QR (w:=(w.drewN nq).drewN nr) VW.out K1 (QA jg));clear l1 S1 K1 c1 c3;go_wp2;refine Bj 14 ?_;simp only [qT,qD]
  repeat (go_big_quiet_step (fail))
  refine Zj ?_;intro _ Jw;obtain ⟨ns,Xl⟩:=Jw;subst Xl;have e:C.length -(f*2)=(u*2):=by have:=HC.out; omega
  have hx:=Tq I5.out HW.out;rw [e] at hx;refine Xf rfl (.tmp 35) (.tmp 46) _ _ rfl 75 Xt 2 Zp HT.out _ _ _ _ _ _ rfl rfl h (u*2) _ 75 HD1.out (F.drop (u*2)) (c - u) iy OZ
   (fun _=>⟨rfl,_,rfl,hx⟩) AZ (fun v hv=>H1.out v (Y6 hv)) ?_
  clear hx e;exact Zf9
end
section
open Go.RowKit
theorem Tr (b h size m cap:Nat)(D:List Zo)(w:Zc)(hi:BW 195 w b size)
  (hD:Zy w h 75 D.toArray) (DX:D.length=m*2) (e7:m≤cap) (VU:cap≤1048576) :
  Zi Zb 113 #[.pointer (some ⟨b,0,none⟩),.slice (some ⟨h,0,none⟩) m cap] w fun e w'=>e= .returned (.tuple #[])∧Zy w' h 75 D.toArray∧Kept (fun i=>i=h) w w'∧w'.heap.size=w.heap.size:=by
 obtain ⟨c0,c1,c2,c3,-,-,-⟩:=hi.cells;obtain ⟨B1,I0,hs⟩:=hi;have Ei:=Za B1;have HD:=Za hD;have P2:=Za DX;clear B1 hD DX;have hT:(Tryz.prog.info? 75).map (·.size)=some 2:=by kernel_rfl
 have HT:=Za hT;clear hT;go_enter Tryz.func113,Tryz.ntmps113;go_wp2;go_quiet (fail);go_wp2;refine Bj 11 ?_;simp only [qT,qD]
 repeat (go_big_quiet_step (fail))
 refine Zj ?_;intro _ Jw;obtain ⟨nr,Xl⟩:=Jw;subst Xl;refine Xf rfl (.tmp 21) (.tmp 31) _ _ rfl 75 Xt 2 Zp HT.out _ _ _ _ _ _ rfl rfl h 0 D 75 HD.out [] 0 FL rfl
  (fun h0=>by simp at h0) ZO (fun v hv=>by simp at hv) ?_
 intro W1 HD1 K1 S1;have Ha: ¬b=h:=Jz Ei.out HD.out Xh;have d1:=K1.cell (p:=⟨b,1,none⟩) Ha FN;have d3:=K1.cell (p:=⟨b,3,none⟩) Ha FM;have Mb:=Za S1;have LZ:=Za K1;clear S1 K1 c1 c3;go_wp2;refine Bj 14 ?_;simp only [qT,qD]
 repeat (go_big_quiet_step (fail))
 refine Zj ?_;intro _ Jw;obtain ⟨ns,Xl⟩:=Jw;subst Xl;refine Xf rfl (.tmp 35) (.tmp 46) _ _ rfl 75 Xt 2 Zp HT.out _ _ _ _ _ _ rfl rfl h 0 _ 75 HD1.out [] 0 FL rfl
  (fun h0=>by simp at h0) ZO (fun v hv=>by simp at hv) ?_
 intro W2 HD2 K2 S2;have Kj:Zy W2 h 75 D.toArray∧Kept (fun i=>i=h) w W2∧W2.heap.size=w.heap.size:=by
  exact Zdn
 exact sM
theorem NP (b h size c m cap:Nat)(go:Option Nat)(D F:List Zo)(w:Zc)(hi:RingAt 195 75 2 w b go size c F)
  (hD:Zy w h 75 D.toArray) (DX:D.length=m*2) (tL:c≤m) (e7:m≤cap) (VU:cap≤1048576) (jg:go≠some h) :
  Zi Zb 113 #[.pointer (some ⟨b,0,none⟩),.slice (some ⟨h,0,none⟩) m cap] w fun e w'=>e= .returned (.tuple #[])∧Zy w' h 75 (F++D.drop F.length).toArray∧Kept (fun i=>i=h) w w'∧w'.heap.size=w.heap.size:=by
 obtain ⟨h1,h2,⟨rfl,rfl,h3⟩ | ⟨g,n,f,C,rfl,h3,h4⟩⟩:=hi
 ·obtain rfl:F=[]:=Z3 IS;have:=Tr b h size m cap D w h3 hD DX e7 VU;simpa using this
 ·exact Ts b g h size n f c m cap C D F w h3 h4 h1 h2 hD DX tL e7 VU (fun e=>jg (by rw [e]))
theorem FX (b size c JI n:Nat)(a:Option Addr)(go:Option Nat)(F:List Zo)(w:Zc)(hi:RingAt 195 75 2 w b go size c F)(c1:w.cell? ⟨b,1,none⟩=some (.slice a n n))(hn:n < JI)(Nu:n≤size)(SB:c≤JI)(Hv:JI≤size) :
  Zi Zb 206 #[.pointer (some ⟨b,0,none⟩),.int .i64 JI] w fun e w'=>e= .returned (.tuple #[])∧
   ∃n' C,Jd 195 75 2 w' b w.heap.size size n' 0 c C∧Wheel C 0 F∧JI≤n'∧Kept (fun i=>i=b) w w':=by
 obtain ⟨c0,c3⟩:=hi.cells;obtain ⟨_,I0,hs⟩:=hi.size_le;have br: ∀i,go=some i→i < w.heap.size:=fun i e=>hi.lt i (.inr e.symm)
 have Mf:b < w.heap.size:=hi.lt b (.inl rfl);obtain ⟨x2,x3,bx⟩ : ∃x2 x3,Zy w b 195 #[.int .i64 size,.slice a n n,x2,x3]:=by
  exact Zdh
 obtain rfl:x3= .int .i64 c:=by
  exact tq
 have Me:=hi.1;have jd:=hi.2.1;have od:=Za Me;have dM:=Za jd;clear Me jd;have HI:=Za hi;have HX:=Za bx;clear hi bx;obtain ⟨n1,Mm,hn00⟩ : ∃n1:Nat,(if(JI:Int)< 2*(n:Int) then 2*(n:Int) else(JI:Int))=(n1:Int)∧JI≤n1:=by
  exact Zdq
 obtain ⟨n',bz,e8,hn3⟩ : ∃n':Nat,(if(n1:Int)< (size:Int) then(n1:Int) else(size:Int))=(n':Int)∧JI≤n'∧n'≤size:=by
  exact Zdo
 have HN0:=Za Mm;have HN:=Za bz;clear bz Mm;have hT:(Tryz.prog.info? 75).map (fun i=>(i.zero,i.size,i.bytes))=some (some (.agg #[.int .i64 0,.int .u64 0]),2,16):=by kernel_rfl
 obtain ⟨i0,Oe,BM,BN,M5⟩:=info_parts hT;have Dt:=fun W=>Q6 (P:=Zb) 49 75 i0 _ Xt Oe BM .i64 .i64 n' n' (Zg _) O5 Zp W
 rw [BN] at Dt;have zw: ∀v ∈ (madeCells (Yv (.agg #[.int .i64 0,.int .u64 0])) (n'*2)).toList,v.oneCell'=true:=OD Xh Xh _;have DX:(madeCells (Yv (.agg #[.int .i64 0,.int .u64 0])) (n'*2)).toList.length=n'*2:=by exact A4
 have pU:(madeCells (Yv (.agg #[.int .i64 0,.int .u64 0])) (n'*2))=((madeCells (Yv (.agg #[.int .i64 0,.int .u64 0])) (n'*2)).toList).toArray:=by simp
 generalize madeCells (Yv (.agg #[.int .i64 0,.int .u64 0])) (n'*2)=D0 at*;generalize D0.toList=D at*;subst pU;have P2:=Za DX;have HDo:=Za zw;clear hT Oe BM BN M5 i0 zw DX;go_enter Tryz.func206,Tryz.ntmps206;go_wp2;refine Bj 13 ?_;simp only [qT,qD]
 repeat (go_big_quiet_step (fail))
 try rw [CX]
 rw [HN0.out];try rw [Rh]
 rw [HN.out];refine Zj ?_;intro _ Jw;obtain ⟨nr,Xl⟩:=Jw;subst Xl;go_wp2_with fail;refine (NP b _ size c n' n' go D F _ (RingAt.kept (S:=fun _=>False) HI.out (((ZM _ w).drewN nr).alloc _) (fun _ _ h=>h)) (Zw _ _ _) P2.out Zp Zp Zp (fun e=>by have:=br _ e; simp at this)).mono ?_;rintro e w1 ⟨rfl,EA,be,Sz⟩;have Ha: ¬b=w.heap.size:=by omega
 have Ei:Hid (Zy w1 w.heap.size 75 (F++D.drop F.length).toArray):=Za EA;have Wu:Kept (fun i=>i=w.heap.size) w w1:=(((ZM _ w).drewN nr).alloc _).trans be (fun _ _ h=>h);have Na:=Za Wu;have dC:Hid (Zy w1 b 195 #[.int .i64 size,Yr a n n,x2,.int .i64 c]):=Za (HX.out.kept Wu Ha);exact Zf7
theorem Tv (b size c JI:Nat)(go:Option Nat)(F:List Zo)(w:Zc)(hi:RingAt 195 75 2 w b go size c F)(h1:1≤JI)(SB:c≤JI)(Hv:JI≤size) :
  Zi Zb 206 #[.pointer (some ⟨b,0,none⟩),.int .i64 JI] w fun e w'=>e= .returned (.tuple #[])∧
   ∃g n f C,Jd 195 75 2 w' b g size n f c C∧Wheel C (f*2) F∧JI≤n∧Moved w go (some g)∧Kept (fun i=>i=b) w w':=by
 have Mh:=hi;obtain ⟨hF,hF1,⟨rfl,rfl,h3⟩ | ⟨g,n,f,C,rfl,h3,h4⟩⟩:=hi
 ·exact (FX b size 0 JI 0 none none F w Mh h3.cells.2.1 Zp Zp SB Hv).mono fun e w' ⟨he,n',C,k1,k2,k3,k4⟩=>
   ⟨he,_,n',0,C,k1,by rw [Jo]; exact k2,k3,fun i hi=> .inr OY,k4⟩
 ·by_cases hn:JI≤n
  ·have c1:=h3.cells.2.1;have H3:=Za h3;have H4:=Za h4;have Nu:=h3.2.2.2.2.2;clear h3 h4 Mh hF hF1;go_enter Tryz.func206,Tryz.ntmps206;exact Zdp
  ·have Nu:=h3.2.2.2.2.2.1;exact (FX b size c JI n _ (some g) F w Mh h3.cells.2.1 Zp Nu SB Hv).mono fun e w' ⟨he,n',C,k1,k2,k3,k4⟩=>
    ⟨he,_,n',0,C,k1,by rw [Jo]; exact k2,k3,fun i hi=> .inr OY,k4⟩
end
end Go.Proofs.YtianiiijaopdpaaGreat
