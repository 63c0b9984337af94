/- Part 10 of 58: L04PushReq L04AllDuo L04AllReq. -/
import Derived.Test.YtianiiijaopdpaaGreatZu00
import Derived.Test.YtianiiijaopdpaaGreatZu09
namespace Go.Proofs.YtianiiijaopdpaaGreat
set_option linter.unusedVariables false
set_option linter.unusedSimpArgs false
set_option maxRecDepth 100000
set_option maxHeartbeats 8000000
open _root_.Go renaming Calls → Zi, World → Zc
open _root_.Go.Proofs.YtianiiijaopdpaaGreat.Kept renaming refl → ZM
open _root_.Go.Lib renaming hid → Za
open _root_.Go.Proofs.YtianiiijaopdpaaGreat.RingAt renaming kept → GP
open _root_.Go.Proofs.Tryz renaming prog → Zb
open _root_.Go.Value renaming cells → Yv
theorem zT3 {G:Prop} (h:G:=by
  go_enter Tryz.func133,Tryz.ntmps133;go_wp2_with fail;refine (HF.out _ (Lib.hid rfl)).mono ?_;rintro e w' ⟨rfl,q,rfl⟩;go_wp2_with fail;refine (KEY.out q).mono ?_;rintro e w1 ⟨rfl,g,n,f,C,hr,hw,hn,SF,hk⟩;obtain ⟨-,d1,d2,d3,-,-,pJ⟩:=hr.cells;have bj: ¬ad.block=g:=by
   obtain ⟨_,_,lN⟩:=Cc.out;obtain ⟨ad',e,hS,p6⟩:=lN Zp;injection e with e;subst e;rintro hg
   rcases SF g rfl with h5 | h5
   ·exact hS (.inr (by rw [hg,h5]))
   ·have:=UH (p6 0 _ (List.getElem?_eq_getElem iz));rw [add_block] at this;omega
  have nE:=Lib.hid bj;obtain ⟨L,CL,hLo,hLc,pW⟩ : ∃L:List Value,L.length=m*2∧(∀v ∈ L,v.oneCell'=true)∧(∀j v,L[j]?=some v→w1.cell? (ad.add j)=some v)∧cs.take (m*2)=L:=by
   obtain ⟨x1,x2,x3⟩:=Cc.out.kept hk (fun i _ e=> .inl e);obtain ⟨ad',e,hS,p6⟩:=x3 Zp;injection e with e;subst e;refine ⟨_,by simp; omega,fun v hv=>x2 v (List.mem_of_mem_take hv),fun j v hv=>p6 j v (take_some hv),rfl⟩
  obtain ⟨B1,B2,hC,LH,SB,Nu,-⟩:=hr;have Ei:=Lib.hid B1;have VW:=Lib.hid B2;have HC:=Lib.hid hC;have HW:=Lib.hid hw;have I6:=Lib.hid SF;have HK:=Lib.hid hk;have Wa:=Lib.hid CL;have oo:=Lib.hid hLo;have yZ:=Lib.hid hLc;have HLe:=Lib.hid pW;clear B1 B2 hC hw SF hk CL hLo hLc pW bj;obtain ⟨s,hsv⟩ : ∃s:Nat,(f+c)%n=s:=⟨_,rfl⟩;have DY:s < n:=by rw [←hsv]; exact Nat.mod_lt _ Zp
  have Vz: ∀W:World,W.cell? ⟨b,1,none⟩=some (.slice (some ⟨g,0,none⟩) n n)→W.cell? ⟨b,2,none⟩=some (.int .i64 f)→Calls Tryz.prog 207 #[.pointer (some ⟨b,0,none⟩),.int .i64 c] W fun e w'=>e= .returned (.int .i64 s)∧ ∃m,w'=W.drewN m:=fun W x1 x2=>by
   have:=Li b n f c _ n W x1 x2 Zp Zp Zp;rwa [hsv] at this
  have I8:=Lib.hid Vz;have tE:=Lib.hid hsv;obtain ⟨u,hu,wE,hu1,hu2⟩ : ∃u:Nat,u=min m (n - s)∧u≤m∧u≤n - s∧(u=m∨u=n - s):=⟨_,rfl,by omega,by omega,by omega⟩;have HU:=Lib.hid hu;have HU2:=Lib.hid hu2;clear Vz hsv hu hu2;go_wp2;refine Bj 14 ?_;simp only [qT,qD]
  repeat (go_big_quiet_step ((go_at_call 207; exact Calls.quiet_of (I8.out _ d1 d2))))
  refine wpQuiet_nil ?_;intro _ Jw;obtain ⟨nr,Xl⟩:=Jw;subst Xl;refine Xf rfl (.tmp 32) (.tmp 35) _ _ rfl 75 Tryz.underlying49 2 Zp HT.out _ _ _ _ _ _ rfl rfl g (s*2) C 75 VW.out (L.take (u*2)) u il OX
   (fun _=>⟨rfl,_,rfl,fun j v hv=>yZ.out j v (take_some hv)⟩) ij (fun v hv=>oo.out v (List.mem_of_mem_take hv)) ?_
  intro W1 HD1 K1 S1;have Pd: ¬b=g:=Zy.ne_ Ei.out VW.out Xh;have x1:=K1.cell (p:=⟨b,1,none⟩) Pd (by simpa using d1);have bg: ∀j v,L[j]?=some v→W1.cell? (ad.add j)=some v:=fun j v hv=>K1.cell iu (yZ.out j v hv)
  have EA:Hid (Zy W1 b 195 #[.int .i64 size,.slice (some ⟨g,0,none⟩) n n,.int .i64 f,.int .i64 c]):=Lib.hid (Zy.kept (w:=w1.drewN nr) Ei.out K1 Pd);have og:=Lib.hid bg;have LZ:=Lib.hid K1;clear S1 K1 bg d1 d2 d3 pJ;go_wp2;refine Bj 8 ?_;simp only [qT,qD]
  repeat (go_big_quiet_step (fail))
  refine wpQuiet_nil ?_;intro _ Jw;obtain ⟨ns,Xl⟩:=Jw;subst Xl;refine Xf rfl (.tmp 40) (.tmp 44) _ _ rfl 75 Tryz.underlying49 2 Zp HT.out _ _ _ _ _ _ rfl rfl g 0 _ 75 HD1.out (L.drop (u*2)) (m - u) iv OX
   (fun h0=>⟨rfl,ad.add (u*2),by first | rfl | exact if_neg iq,fun j v hv=>by rw [add_add_]; exact og.out _ v ir⟩) ie (fun v hv=>oo.out v (List.mem_of_mem_drop hv)) ?_
  intro W2 HD2 K2 S2;have Wf:Hid (Zy W2 b 195 #[.int .i64 size,.slice (some ⟨g,0,none⟩) n n,.int .i64 f,.int .i64 c]):=Lib.hid (Zy.kept (w:=W1.drewN ns) EA.out K2 Pd);have y3:=Wf.out.cell 3;have z3:=Wf.out.frozen 3;have Kj: ∃go',RingAt 195 75 2 (W2.setCell ⟨b,3,none⟩ (.int .i64 ((c:Int)+(m:Int)))) b go' size (c+m) (F++L)∧Moved w go go'∧Kept (Foot b go) w (W2.setCell ⟨b,3,none⟩ (.int .i64 ((c:Int)+(m:Int)))):=by
   have Me:=HI.out.1;have jd:=HI.out.2.1;refine ⟨some g,?_,I6.out,?_⟩
   ·refine ⟨by rw [List.length_append,Me,Wa.out,Nat.add_mul],fun v hv=>(List.mem_append.1 hv).elim (jd v) (oo.out v),.inr ⟨g,n,f,_,rfl,⟨?_,Zy.far (HD2.out) (Ne.symm Pd) _,?_,LH,hn,Nu,hs⟩,?_⟩⟩
    ·have:=Wf.out.set_ 3 (.int .i64 ((c:Int)+(m:Int)));rw [show (c:Int)+(m:Int)=((c+m:Nat) :Int) by omega] at this ⊢;exact this
    ·have:=HC.out; have:=Wa.out;rw [length_splice _ _ _ ig,length_splice _ _ _ Vq];exact HC.out
    ·have:=push_wheel HW.out Me HC.out Wa.out hn tE.out.symm HU.out
     first | exact this | (simp only [Nat.mul_one] at this ⊢; exact this)
   ·refine Kept.setCell (S:=Foot b go) ?_ (.inl (.inl rfl)) _;have k1:Kept (fun i=>i=g) w1 W2:=((((Kept.refl _ w1).drewN nr).trans LZ.out (fun _ _ h=>h)).drewN ns).trans K2 (fun _ _ h=>h);refine (HK.out.more (fun i _ e=> .inl e)).trans k1 (fun i hi e=>?_);subst e
    rcases I6.out _ rfl with h5 | h5
    ·exact .inr h5.symm
    ·omega
  rw [←HLe.out] at Kj;have HE:=Lib.hid Kj;clear S2 K2 Kj;go_wp2
  all_goals
   go_ret;exact ⟨rfl,HE.out⟩) :G:=h
theorem ZgB {G:Prop} (h:G:=by
  clear hd;go_enter Tryz.func133,Tryz.ntmps133;go_wp2_with fail;refine (HF.out _ (Lib.hid rfl)).mono ?_;rintro e w' ⟨rfl,m,rfl⟩;go_wp2;go_ret;exact ⟨rfl,_,rfl⟩) :G:=h
section
open Go.RowKit
theorem It (b size c:Nat)(w:Zc)(a:Option Addr)(len cap:Nat)(hl:len≤9223372036854775807)(h0:w.cell? ⟨b,0,none⟩=some (.int .i64 size))(h3:w.cell? ⟨b,3,none⟩=some (.int .i64 c))(hs:size≤1048576)(hc:c≤size)(hz:len=0∨c=size) :
  Zi Zb 133 #[.pointer (some ⟨b,0,none⟩),.slice a len cap] w fun e w'=>e= .returned (.int .i64 0)∧ ∃m,w'=w.drewN m:=by
 obtain ⟨d,hd⟩ : ∃d:Nat,size - c=d:=⟨_,rfl⟩;have hf: ∀W:Zc,Hid (W=w)→Zi Zb 205 #[.pointer (some ⟨b,0,none⟩)] W fun e w'=>e= .returned (.int .i64 d)∧ ∃m,w'=W.drewN m:=fun W hW=>by
  have hW:=hW.out;subst hW;rw [←hd];exact PB b size c _ h0 h3 hs hc
 have HF:=Za hf;clear hf h0 h3
 by_cases h:(d:Int)< (len:Int)
 ·obtain rfl:d=0:=by omega
  exact ZgB
 ·obtain rfl:len=0:=by omega
  exact ZgB
theorem Is (b size c m len cap:Nat)(go:Option Nat)(ad:Addr)(F cs:List Value)(w:Zc)(hi:RingAt 195 75 2 w b go size c F)(Em:iJ w (Foot b go) (some ad) len 2 cs)
  (hl:len≤cap) (VU:cap≤9223372036854775807) (hm:1≤m) (lR:m≤len) (dI:c+m≤size) (hm3:m=len∨c+m=size) :
  Zi Zb 133 #[.pointer (some ⟨b,0,none⟩),.slice (some ad) len cap] w fun e w'=>e= .returned (.int .i64 m)∧
   ∃go',RingAt 195 75 2 w' b go' size (c+m) (F++cs.take (m*2))∧Moved w go go'∧Kept (Foot b go) w w':=by
 obtain ⟨c0,c3⟩:=hi.cells;obtain ⟨_,I0,hs⟩:=hi.size_le;obtain ⟨d,hd⟩ : ∃d:Nat,size - c=d:=⟨_,rfl⟩;have hf: ∀W:Zc,Hid (W=w)→Zi Zb 205 #[.pointer (some ⟨b,0,none⟩)] W fun e w'=>e= .returned (.int .i64 d)∧ ∃m,w'=W.drewN m:=fun W hW=>by
  have hW:=hW.out;subst hW;rw [←hd];exact PB b size c _ c0 c3 hs Zp
 have HF:=Za hf;have HI:=Za hi;have Cc:=Za Em;have hmz:((m:Int)==0)=false:=by simp; omega
 have c3': ∀q,(w.drewN q).cell? ⟨b,3,none⟩=some (.int .i64 c):=fun q=>c3
 have vU:d+c≤size:=by omega
 have vV:size≤d+c:=by omega
 clear hf hi Em c0 hd;have key: ∀q:Nat,Zi Zb 206 #[.pointer (some ⟨b,0,none⟩),.int .i64 ((c:Int)+(m:Int))] (w.drewN q) fun e w'=>e= .returned (.tuple #[])∧
   ∃g n f C,Jd 195 75 2 w' b g size n f c C∧Wheel C (f*2) F∧c+m≤n∧Moved w go (some g)∧Kept (fun i=>i=b) w w':=fun q=>by
  have:=Tv b size c (c+m) go F (w.drewN q) HI.out Zp Zp dI;rw [show ((c+m:Nat) :Int)=(c:Int)+(m:Int) by omega] at this;exact this.mono fun e w' ⟨he,g,n,f,C,k1,k2,k3,k4,k5⟩=>⟨he,g,n,f,C,k1,k2,k3,k4,((ZM _ w).drewN q).trans k5 (fun _ _ h=>h)⟩
 have KEY:=Za key;clear key;have hT:(Tryz.prog.info? 75).map (·.size)=some 2:=by kernel_rfl
 have HT:=Za hT;clear hT
 by_cases h:(d:Int)< (len:Int)
 ·obtain rfl:m=d:=by omega
  exact zT3
 ·obtain rfl:m=len:=by omega
  exact zT3
theorem PD (b size c len cap:Nat)(go:Option Nat)(a:Option Addr)(F cs:List Value)(w:Zc)(hi:RingAt 195 75 2 w b go size c F)(Em:iJ w (Foot b go) a len 2 cs)
  (hl:len≤cap) (VU:cap≤9223372036854775807) :
  Zi Zb 133 #[.pointer (some ⟨b,0,none⟩),.slice a len cap] w fun e w'=>e= .returned (.int .i64 ((min len (size - c) :Nat) :Int))∧
   ∃go',RingAt 195 75 2 w' b go' size (c+min len (size - c)) (F++cs.take (min len (size - c)*2))∧Moved w go go'∧Kept (Foot b go) w w':=by
 obtain ⟨h1,h2,h3⟩:=hi.size_le
 by_cases hz:min len (size - c)=0
 ·rw [hz];refine (It b size c w a len cap Zp hi.cells.1 hi.cells.2 h3 h1 Zp).mono fun e w' ⟨he,m,hm⟩=>⟨he,go,?_,fun i h=> .inl h,by subst hm; exact (ZM _ _).drewN _⟩
  subst hm;simpa using hi.drewN m
 ·obtain ⟨ad,rfl,_⟩:=Em.2.2 Zp;have:=Is b size c (min len (size - c)) len cap go ad F cs w hi Em hl VU Zp Zp Zp Zp;exact tp
end
section
open Go.RowKit
theorem gh (b size c:Nat)(go:Option Nat)(F:List Value)(w:Zc)(hi:RingAt 192 73 2 w b go size c F) :
  Zi Zb 59 #[.pointer (some ⟨b,0,none⟩)] w fun e w'=>e= .returned (.slice (some ⟨w.heap.size,0,none⟩) c c)∧Zy w' w.heap.size 73 F.toArray∧Below w.heap.size w w':=by
 obtain ⟨c0,c3⟩:=hi.cells;obtain ⟨Ff,I0,hs⟩:=hi.size_le;have br: ∀i,go=some i→i < w.heap.size:=fun i e=>hi.lt i (.inr e.symm)
 have Me:=hi.1;have od:=Za Me;have HI:=Za hi;clear hi Me;have hT:(Tryz.prog.info? 73).map (fun i=>(i.zero,i.size,i.bytes))=some (some (.agg #[.int .i64 0,.int .i64 0]),2,16):=by kernel_rfl
 obtain ⟨i0,Oe,BM,BN,M5⟩:=info_parts hT;have Dt:=fun W=>Q6 (P:=Zb) 48 73 i0 _ Tryz.underlying48 Oe BM .i64 .i64 c c (Nat.le_refl _) O5 Zp W
 rw [BN] at Dt;have DX:(madeCells (Yv (.agg #[.int .i64 0,.int .i64 0])) (c*2)).toList.length=c*2:=by exact A4
 have pU:(madeCells (Yv (.agg #[.int .i64 0,.int .i64 0])) (c*2))=((madeCells (Yv (.agg #[.int .i64 0,.int .i64 0])) (c*2)).toList).toArray:=by simp
 generalize madeCells (Yv (.agg #[.int .i64 0,.int .i64 0])) (c*2)=D0 at*;generalize D0.toList=D at*;subst pU;have P2:=Za DX;clear hT Oe BM BN M5 i0 DX;go_enter Tryz.func59,Tryz.ntmps59;go_wp2_with fail;refine (NJ b _ size c c c go D F _ (GP (S:=fun _=>False) HI.out ((ZM _ w).alloc _) (fun _ _ h=>h)) (Zy.new _ _ _) P2.out Zp Zp Zp (fun e=>by have:=br _ e; simp at this)).mono ?_;rintro e w1 ⟨rfl,EA,be,Sz⟩;have Wf:Zy w1 w.heap.size 73 F.toArray:=by
  exact Zdt
 exact Zdk
end
section
open Go.RowKit
theorem gF (b size c:Nat)(go:Option Nat)(F:List Value)(w:Zc)(hi:RingAt 195 75 2 w b go size c F) :
  Zi Zb 60 #[.pointer (some ⟨b,0,none⟩)] w fun e w'=>e= .returned (.slice (some ⟨w.heap.size,0,none⟩) c c)∧Zy w' w.heap.size 75 F.toArray∧Below w.heap.size w w':=by
 obtain ⟨c0,c3⟩:=hi.cells;obtain ⟨Ff,I0,hs⟩:=hi.size_le;have br: ∀i,go=some i→i < w.heap.size:=fun i e=>hi.lt i (.inr e.symm)
 have Me:=hi.1;have od:=Za Me;have HI:=Za hi;clear hi Me;have hT:(Tryz.prog.info? 75).map (fun i=>(i.zero,i.size,i.bytes))=some (some (.agg #[.int .i64 0,.int .u64 0]),2,16):=by kernel_rfl
 obtain ⟨i0,Oe,BM,BN,M5⟩:=info_parts hT;have Dt:=fun W=>Q6 (P:=Zb) 49 75 i0 _ Tryz.underlying49 Oe BM .i64 .i64 c c (Nat.le_refl _) O5 Zp W
 rw [BN] at Dt;have DX:(madeCells (Yv (.agg #[.int .i64 0,.int .u64 0])) (c*2)).toList.length=c*2:=by exact A4
 have pU:(madeCells (Yv (.agg #[.int .i64 0,.int .u64 0])) (c*2))=((madeCells (Yv (.agg #[.int .i64 0,.int .u64 0])) (c*2)).toList).toArray:=by simp
 generalize madeCells (Yv (.agg #[.int .i64 0,.int .u64 0])) (c*2)=D0 at*;generalize D0.toList=D at*;subst pU;have P2:=Za DX;clear hT Oe BM BN M5 i0 DX;go_enter Tryz.func60,Tryz.ntmps60;go_wp2_with fail;refine (NP b _ size c c c go D F _ (GP (S:=fun _=>False) HI.out ((ZM _ w).alloc _) (fun _ _ h=>h)) (Zy.new _ _ _) P2.out Zp Zp Zp (fun e=>by have:=br _ e; simp at this)).mono ?_;rintro e w1 ⟨rfl,EA,be,Sz⟩;have Wf:Zy w1 w.heap.size 75 F.toArray:=by
  exact Zdt
 exact Zdk
end
end Go.Proofs.YtianiiijaopdpaaGreat
