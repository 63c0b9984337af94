/- The Go function egress/egresslaw24.AuditHolds returns true for every input, and leaves its arguments as they were. Conditions: none but the statement's own. -/
import Derived.Test.YtobgbcdgffgdhaaGreatZw00
import Derived.Test.YtobgbcdgffgdhaaGreatZw03
import Derived.Test.YtobgbcdgffgdhaaGreatZw17
import Derived.Test.YtobgbcdgffgdhaaGreatZw30
import Derived.ShutString
namespace Go.Proofs.YtobgbcdgffgdhaaGreat
set_option linter.unusedVariables false
set_option linter.unusedSimpArgs false
set_option maxRecDepth 100000
set_option maxHeartbeats 8000000
open _root_.Go.RowKit renaming Below -> Zp
open _root_.Go.RowKit.Below renaming refl -> Zo
open _root_.Go.Proofs.YtobgbcdgffgdhaaGreat.Zu renaming new -> Zt
open _root_.List renaming all_eq_true -> Xh, mem_append -> Ya
open _root_.Nat renaming le_refl -> Zh
open _root_.Go.Proofs.Tryz renaming prog -> Zb
open _root_.Go.Value renaming int -> ZI
open _root_.Go renaming World -> Zc, heap_alloc_new -> ZA, wpQuiet -> ZZ, wpQuiet_nil -> Us
open _root_.Go.World renaming setRow_alloc_new -> Zr
open Go.Proofs.Tryz
theorem Zby {G:Prop} (h:G:=by
  try simp only [qA]
  refine Jg (i:=15) ?_;refine KQ rfl (by kernel_rfl) (Kt rfl #[.slice pa 1 ca,.slice (some ⟨g2,0,none⟩) 1 1] (by kernel_rfl) call14 ((fj (L:= [2]) (n:=1) OA.o OB.o rfl (by omega)).mono ?_));rintro e z0 ⟨rfl,m,rfl⟩;have Bz:Zl (Below X.heap.size X (y7.drewN m)):=Za (below_drewN By7.o m);refine ⟨_,rfl,Bz.o,?_⟩;clear OA OB;generalize y7.drewN m=z at*;try simp only [qA]
  refine SR (fun w'=>Below X.heap.size X w') (m:=9) (f:=7) [16,17] (?_) ?_
  ·exact Bz.o
  simp only [qF,qH];show wpQuiet _ _ _ _ [_,_] _;iterate 2 (go_big_quiet_step ((intros; rfl)))
  refine wpQuiet_nil ?_;try simp only [qA]
  refine Jg (i:=18) ?_;refine KQ rfl (by kernel_rfl) (Kt rfl #[] (by kernel_rfl) call24 ((Oz z).mono ?_));rintro e z1 ⟨rfl,hb⟩;have Bz1:Zl (Below X.heap.size X z1):=Za (Bz.o.trans (hb.mono Bz.o.size));clear hb;refine ⟨_,rfl,Bz1.o,?_⟩;try simp only [qA]
  refine SR (fun w'=>Below X.heap.size X w') (m:=6) (f:=3) [19,20,21] (?_) ?_
  ·exact Bz1.o
  simp only [qF,qH];show wpQuiet _ _ _ _ [_,_,_] _;iterate 3 (go_big_quiet_step ((intros; rfl)))
  refine wpQuiet_nil ?_;try simp only [qA]
  refine Jg (i:=22) ?_;refine KQ rfl (by kernel_rfl) (Kt rfl #[.int .i64 2] (by kernel_rfl) call23 ((HNM.o z1).mono ?_));rintro e z2 ⟨rfl,hb⟩;have Bz2:Zl (Below X.heap.size X z2):=Za (Bz1.o.trans (hb.mono Bz1.o.size));clear hb;refine ⟨_,rfl,Bz2.o,?_⟩;try simp only [qA]
  refine SR (fun w'=>Below X.heap.size X w') (m:=2) (f:=0) [23,24] (?_) ?_
  ·exact Bz2.o
  simp only [qF,qH];show wpQuiet _ _ _ _ [_,_] _;iterate 2 (go_big_quiet_step ((intros; rfl)))
  refine wpQuiet_nil ?_;show Region.seqB _ _ _ _ _=true/\_;refine ⟨by kernel_rfl,?_⟩;simp only [qA];go_wp2;refine NoPanic.normal ?_;go_wp2_with fail;go_ret;exact ⟨rfl,BD.o.trans (Bz2.o.mono BD.o.size)⟩) :G:=h
theorem zT5 {G:Prop} (h:G:=by
  try simp only [qA]
  refine Jg (i:=13) ?_;refine KQ rfl (by kernel_rfl) (Kt rfl #[.agg (Yy xt),.agg (Zi Eb)] (by kernel_rfl) call13 ((ll.o y6 uK.o).mono ?_));rintro e y7 ⟨v,rfl,ho,hb⟩;obtain ⟨pa,ca,rfl,_,_,_,hi⟩:=Kb (S:=fun _=>False) ho fun _ _ h=>h
  have OA:=Za hi;have OB:=Za (OB0.o.below hb);clear OB0;have By7:Zl (Below X.heap.size X y7):=Za (uK.o.trans (hb.mono uK.o.size));clear ho hb hi;refine ⟨_,rfl,By7.o,?_⟩;exact Zby) :G:=h
theorem Zep {G:Prop} (h:G:=by
  go_wp2_with fail;refine (HA.o w3).mono ?_;rintro e w4 ⟨rfl,b4⟩;have H4:=Za b4;clear b4;go_wp2_with fail;go_ret;exact ⟨rfl,HBB.o▸Hb0.o.trans ((H3.o.trans (H4.o.mono H3.o.size)).mono (Nat.le_of_lt jq.o.lt))⟩) :G:=h
section
open Go Go.RowKit Go.Deep
section
variable {H:Type} {enc:TypeId × Value->H} {w:Zc} {base:Nat} {held:Bool}
theorem open_S42 {r:Reach}{b0:Nat}{v:Value}{d:DataW H}{p:List MemPlace}(hv:Value.okWide Zb w r b0 42 v)(h:DataW.Trod enc Zb w base (fun _=>true) held 42 v d p) : ∃(a:Option Addr) (len cap:Nat),v= .slice a len cap/\zM w a len cap:=
 open_lstR underlying42 (by kernel_rfl) Oq.row_len (by decide) (fun n cs x h _=>Zd8 h) hv h
end
theorem Zhc {c:Nat->Int}(f:Ci c)(h:Ws c=0)(h0:c 0<=100) :I5 c 0 ae []:=by
 have hc:=OU f h;have h8:=f 8 (by omega);have h8':c 8<=18446744073709551615:=by
  simp [Lit.wf,rI,go_sem] at h8;exact h8.2
 exact ⟨hc,h8',h0,inv0 hc,Zg9,fun p hp=>by simp [ae] at hp⟩
section
variable {N:Nat} {w0:Fb} {w w' w1:Zc} {c:Nat->Int} {a:Pl} {q:Ql} {Z Z':Nat->Zc->(Nat->Prop)->Prop} {s s':Sg} {L L':List QW} {k:Nat}
theorem Eg.down (h:Eg N ⟨fun _=>False,w1⟩ w c a q Z s L) :Zp w1.heap.size w1 w:=by
 have k:=h.kept0;exact ⟨k.os,k.tape,k.output,k.size,fun i hi=>k.block i hi (fun h=>h)⟩
theorem Eg.kblk (h:Eg N ⟨fun _=>False,w1⟩ w c a q Z s L){b t:Nat}{cs:Array Value}(hB:Zu w1 b t cs) :Zu w b t cs:=hB.below h.down hB.lt
structure Few (s:Sg)(L:List QW) :Prop where
 v:s.V.length<=100
 p:s.pd.length<=4096
 f:s.F.length<=4096
 w:s.W.length<=4096
 m:s.mg.length<=4096
 t:s.pt.length<=4096
 l:L.length<=100
theorem I5.few (h:I5 c k s L) :Few s L:=by
 have q1:=h.ge.q1;have i:=h.inv;have:=h.hund;have:=i.len;have:=i.pdl;have:=i.fl;have:=i.wl;have:=i.mgl;have:=i.ptl;refine ⟨by omega,by omega,by omega,by omega,by omega,by omega,?_⟩;rw [h.ring.len];have:iO s.V<=s.V.length:=List.countP_le_length;omega
theorem I5.snap (h:I5 c k s L)(hk:k<=1000000)(he:Eg N w0 w c a q Z s L) :Calls Zb 20 #[.pointer (some ⟨q.e,0,none⟩)] w fun e w'=> ∃x1 x2 x3 x4 x5 x6:Sv,e= .returned (.agg (Fj s (Ye s.V) L.length x1.v x2.v x3.v x4.v x5.v x6.v))/\
      Eg (N+6) w0 w' c a q (snX Z N s x1.v x2.v x3.v x4.v x5.v x6.v) s L:=by
  have f:=h.few;exact Zf6 he (h.inv.tm h.ge hk) (by have:=f.l; omega) f.p f.m f.t
end
end
section
open Go Go.RowKit Go.Deep
theorem Zce {c:Nat->Int}(hf:Ci c)(h:Ws c=0) :(0<=c 10/\c 10<=1048576)/\(1<=c 13/\c 13<=4096)/\c 4<=1152921504606846976:=by
 rcases LX c with ⟨_,hb⟩ | ⟨k,_,_,_,e⟩
 ·have h4:=J5 (hb 4 (by omega));have PK:=J5 (hb 10 (by omega));have fA:=J5 (hb 13 (by omega));unfold Ia at h4;exact ⟨⟨by omega,PK.2⟩,fA,h4.2⟩
 ·omega
theorem Pf {w:Zc}{k n:Nat}{e:TypeId}{x:Sv}{xs:List Value}(h:w.ownsRow 0 e k x.v n xs) :x.n=n/\n<=x.c/\x.c<=maxLen:=by
 obtain ⟨a,n',c⟩:=x
 rcases h.2 with ⟨h1,h2⟩ | ⟨g,cp,cur,h1,_,_,h4,h5,_⟩
 ·injection h1 with _ h3 h4;subst h3 h4 h2;exact ⟨rfl,Zh _,Nat.zero_le _⟩
 ·injection h1 with _ h3 h6;subst h3 h6;exact ⟨rfl,h4,h5⟩
theorem IG {w:Zc}{x:Sv}{L:List Int}(h:w.ownsRow 0 3 1 x.v L.length (L.map (ZI .i64))) :Qf w (fun _=>False) x.a L:=by
 obtain ⟨a,cp,e,_,_,_,hi⟩:=Kb (S:=fun _=>False) h fun _ _ h=>h
 injection e with e _ _;rw [e];exact hi
def anS (s:Sg)(L:List QW) :An:=⟨s.bk,s.ep,s.V,s.D,s.P,s.B,Ye s.V,s.pd,s.F,s.W,s.mg.length,s.pt.length,(L.length:Int)⟩
theorem kv {w:Zc}{c:Nat->Int}{k:Nat}{s:Sg}{L:List QW}{x1 x2 x3 x4 x5 x6:Sv}(h:I5 c k s L)(hk:k<=1000000)(hf:Ci c)(hc:Ws c=0)(Aw: ∀v ∈ s.V,-4611686018427387904<=v.wd)
  (a1:w.ownsRow 0 68 7 x1.v s.V.length (Xz s.V)) (a2:w.ownsRow 0 3 1 x2.v s.pd.length (s.pd.map (ZI .i64))) (a3:w.ownsRow 0 3 1 x3.v s.F.length (s.F.map (ZI .i64))) (a4:w.ownsRow 0 3 1 x4.v s.W.length (s.W.map (ZI .i64)))
  (a5:w.ownsRow 0 116 2 x5.v s.mg.length (Jo s.mg)) (a6:w.ownsRow 0 119 2 x6.v s.pt.length (Ja s.pt)) :
  ∃x:Sx,Fj s (Ye s.V) L.length x1.v x2.v x3.v x4.v x5.v x6.v=Yy x/\DG w x c s.V s.pd s.F s.W/\Ud x s.V s.pd s.F s.W=anS s L:=by
 have f:=h.few;have i:=h.inv;obtain ⟨c10,c13,c4⟩:=Zce hf hc;obtain ⟨n1,b1,m1⟩:=Pf a1;obtain ⟨n2,b2,m2⟩:=Pf a2;obtain ⟨n3,b3,m3⟩:=Pf a3;obtain ⟨n4,b4,m4⟩:=Pf a4;obtain ⟨n5,b5,m5⟩:=Pf a5;obtain ⟨n6,b6,m6⟩:=Pf a6;have Bo: ∀v ∈ s.V,Yh v:=fun v hv=>(i.vok v hv).fit
 obtain ⟨t0,t1⟩:=GV Bo;have tt:=i.total h.ge;have wfi: ∀ {p:ZN->Prop} {j:Int},Vn s.V p j->(Lit.int .i64 j).wf=true:=fun {p j} hj=>by
  have:=hj.lt;have:=f.v;exact zj (by omega) (by omega)
 have g1:=i.sum;have g2:=i.p0;have g3:=i.b0;have g4:=i.d1;have g5:=i.bk0;have g6:=i.bk1;have g7:=i.ep0;have g8:=i.ep1;have g9:=f.l;have fv:=f.v;have fp:=f.p;have ff:=f.f;have fw:=f.w;have lV:VM ZN.row 7 w (fun _=>False) x1.a s.V:=by
  obtain ⟨a',GP,e,_,_,hl⟩:=mZ (S:=fun _=>False) (row:=ZN.row) (l:=s.V) (fun _=>rfl) a1 rfl fun _ _ h=>h
  injection e with e _ _;rw [e];exact hl
 refine ⟨⟨s.bk,s.ep,x1.a,x1.n,x1.c,s.D,s.P,s.B,Ye s.V,x2.a,x2.n,x2.c,x3.a,x3.n,x3.c,x4.a,x4.n,x4.c,x5.a,x5.n,x5.c,x6.a,x6.n,x6.c,s.cu,s.cy,L.length⟩,rfl,⟨⟨⟨⟨?_,?_⟩,⟨?_,?_⟩,⟨?_,?_⟩,⟨?_,?_⟩,⟨?_,?_⟩,⟨?_,?_⟩,⟨?_,?_⟩,?_,?_⟩,lV,n1.symm,⟨?_,m1⟩,Bo,IG a2,n2.symm,⟨?_,m2⟩,?_,IG a3,n3.symm,⟨?_,m3⟩,?_,IG a4,n4.symm,⟨?_,m4⟩,?_⟩,?_,?_,?_,?_,?_,c10,c13,c4⟩,?_⟩
 all_goals first
  | omega
  | (simp only; omega)
  | exact fun y hy=>wfi (i.pdx y hy)
  | exact fun y hy=>wfi (i.lnx y (Ya.2 (.inl hy)))
  | exact fun y hy=>wfi (i.lnx y (Ya.2 (.inr hy)))
  | exact fun v hv=>⟨Aw v hv,by have:=(i.vok v hv).w; omega⟩
  | (unfold Ud anS; simp only [n5,n6])
theorem AU {N:Nat}{w0:Fb}{w:Zc}{c:Nat->Int}{a:Pl}{q:Ql}{Z:Nat->Zc->(Nat->Prop)->Prop}{s:Sg}{L:List QW}{x1 x2 x3 x4 x5 x6:Sv}(hN:11<=N)(he:Eg (N+6) w0 w c a q (snX Z N s x1.v x2.v x3.v x4.v x5.v x6.v) s L) :
  w.ownsRow 0 68 7 x1.v s.V.length (Xz s.V)/\w.ownsRow 0 3 1 x2.v s.pd.length (s.pd.map (ZI .i64))/\w.ownsRow 0 3 1 x3.v s.F.length (s.F.map (ZI .i64))/\w.ownsRow 0 3 1 x4.v s.W.length (s.W.map (ZI .i64))/\w.ownsRow 0 116 2 x5.v s.mg.length (Jo s.mg)/\w.ownsRow 0 119 2 x6.v s.pt.length (Ja s.pt):=by
 unfold snX at he;refine ⟨he.row (r:=N) hN (by omega) ?_,he.row (r:=N+1) (by omega) (by omega) ?_,he.row (r:=N+2) (by omega) (by omega) ?_,he.row (r:=N+3) (by omega) (by omega) ?_,he.row (r:=N+4) (by omega) (by omega) ?_,he.row (r:=N+5) (by omega) (by omega) ?_⟩
 ·rw [Zz (by omega),Zz (by omega),Zz (by omega),Zz (by omega),Zz (by omega),Zq]; rfl
 ·rw [Zz (by omega),Zz (by omega),Zz (by omega),Zz (by omega),Zq]; rfl
 ·rw [Zz (by omega),Zz (by omega),Zz (by omega),Zq]; rfl
 ·rw [Zz (by omega),Zz (by omega),Zq]; rfl
 ·rw [Zz (by omega),Zq]; rfl
 ·rw [Zq]; rfl
end
section
open Go Go.RowKit
theorem dL {c:Nat->Int}{s:An} : ∀k,(∀j,j < k->JU c s j=true)->KW c s k=[]
 | 0,_=>rfl
 | k+1,h=>by rw [TZ (h k (by omega)),dL k fun j hj=>h j (by omega)]
section
variable {c:Nat->Int} {k:Nat} {s:Sg} {L:List QW}
theorem I5.rules (h:I5 c k s L)(h2:Ew c s) : ∀j,j < 12->JU c (anS s L) j=true:=fun j hj=>by
 have i:=h.inv;have tt:=i.total h.ge;have e:j=0\/j=1\/j=2\/j=3\/j=4\/j=5\/j=6\/j=7\/j=8\/j=9\/j=10\/j=11:=by omega
 rcases e with rfl | rfl | rfl | rfl | rfl | rfl | rfl | rfl | rfl | rfl | rfl | rfl
 ·exact decide_eq_true i.len
 ·exact decide_eq_true i.sum
 ·exact decide_eq_true tt.2.1
 ·exact decide_eq_true rfl
 ·exact bj (P:=KT) (fun v=>by unfold isP KT; rw [decide_eq_true_eq]) i.pdn i.pdx h2.pd
 ·exact bj (P:=V5) (fun v=>by unfold isE V5; rw [decide_eq_true_eq]) i.lnn i.lnx h2.qd
 ·exact Xh.2 fun v hv=>decide_eq_true (h2.ok v hv).r7
 ·exact Xh.2 fun v hv=>decide_eq_true (by
   by_cases h6:v.st=6\/v.st=7
   ·exact .inl ((h2.ok v hv).r8 h6)
   ·exact .inr h6)
 ·refine decide_eq_true ?_;show ((L.length:Nat) :Int)=_;rw [h.ring.len];rfl
 ·exact decide_eq_true ⟨i.pdl,i.fl,i.wl,i.mgl,i.ptl⟩
 ·exact decide_eq_true ⟨i.bk0,i.epq⟩
 ·exact Xh.2 fun v hv=>decide_eq_true (by
   cases hs:v.sl with
   | false=>exact .inl rfl
   | true=>exact .inr ((h2.ok v hv).r12 hs))
theorem I5.first (h:I5 c k s L)(h2:Ew c s) :Dl c (anS s L)=0:=SJ (dL 12 (h.rules h2))
theorem Ew.wd (h2:Ew c s) : ∀v ∈ s.V,-4611686018427387904<=v.wd:=fun v hv=>by
 have:=(h2.ok v hv).w0;omega
end
end
section
open Go Go.RowKit Go.Deep
theorem pY:GE Eb:=OU OM Nw
theorem mm:Dl Eb (anS ae [])=0:=by kernel_rfl
def anT:An:= { anS ae [] with D:=1}
theorem mq:Dl Eb anT=2:=by kernel_rfl
theorem tw:KW Eb anT 12=[2]:=by kernel_rfl
theorem S9 (w:Zc) :Qf (w.alloc (.cells #[.int .i64 2] 3)) (fun _=>False) (some ⟨w.heap.size,0,none⟩) [2]:=Qf.of_blk (t:=3) (Zt w _ _) fun h=>h
theorem vN (w:Zc) :Z3 12 #[] w (.bool true):=by
 have zI:=Za (Zhc OM Nw (by decide));have HG:=Za pY;go_enter func12,ntmps12;go_wp2_with fail;refine (Bn w).mono ?_;rintro e w1 ⟨rfl,EX⟩;have B1:=Za EX;clear EX;go_wp2_with fail;refine (Zf3 w1 HG.o Nw).mono ?_;rintro e w2 ⟨a,q,rfl,h2⟩;have E2:=Za (h2 vi);clear h2;obtain ⟨s0,Rt⟩:=ZT (ae);obtain ⟨L0,hL0⟩:=ZT (([] :List QW));have R0:=Za (And.intro Rt hL0);rw [Rt,hL0] at zI E2;clear Rt hL0;go_wp2_with fail;refine (zI.o.snap (by omega) E2.o).mono ?_;rintro e w4 ⟨x1,x2,x3,x4,x5,x6,rfl,h4⟩;have B4:Zl (Zp w.heap.size w w4):=Za (B1.o.trans (h4.down.mono B1.o.size));obtain ⟨r1,r2,r3,r4,r5,r6⟩:=AU (by omega) h4;obtain ⟨xs,ex,xc,han⟩:=kv zI.o (by omega) OM Nw (fun v hv=>by rw [<-R0.o.1] at hv; simp [ae] at hv) r1 r2 r3 r4 r5 r6;rw [<-R0.o.1,<-R0.o.2] at han;rw [<-R0.o.1] at xc;have HA:Zl (DG w4 xs Eb [] [] [] []):=Za xc;have HAN:Zl (Ud xs [] [] [] []=anS ae []):=Za han;rw [ex];clear r1 r2 r3 r4 r5 r6 ex xc han h4 E2 zI R0 B1 HG;have N1:Zl (Zu (w4.alloc (.cells (Yy xs) 28)) w4.heap.size 28 (Yy xs)):=Za (Zt w4 _ _);have C5:Zl (Zp w4.heap.size w4 (w4.alloc (.cells (Yy xs) 28))):=Za ((Zo _ _).alloc (Zh _) _);go_upto_region 5 with (first | (refine UP w4.heap.size (Yy xs) 28 (ZA w4 _) Lf (PE xs) ?_; rw [Zr]));try simp only [Act.put]
 have Bx:(w4.alloc (.cells (Yy xs) 28)).heap.size=w4.heap.size+1:=by simp
 have ak:=Za Bx;clear Bx;generalize w4.alloc (.cells (Yy xs) 28)=w5 at*;generalize hsb:w4.heap.size=sb at*;have N2:Zl (Zu (w5.alloc (.cells (Yy xs) 28)) w5.heap.size 28 (Yy xs)):=Za (Zt w5 _ _);have N3:=Za (N1.o.alloc (.cells (Yy xs) 28));have C6:Zl (Zp sb w4 (w5.alloc (.cells (Yy xs) 28))):=Za (C5.o.alloc (by rw [ak.o]; omega) _);go_upto_region 6 with (first | (refine Kz 28 sb N1.o underlying28 Lf ?_) | (refine UP w5.heap.size (Yy xs) 28 (ZA w5 _) Lf (PE xs) ?_; rw [Zr]));try simp only [Act.put]
 generalize w5.alloc (.cells (Yy xs) 28)=w6 at*;generalize htb:w5.heap.size=tb at*;have Ka:sb≠tb:=by have:=ak.o; omega
 have hle:sb<=tb:=by have:=ak.o; omega
 have c3:=QS N2.o 3;have f3:=N2.o.frozen 3;obtain ⟨xt,hxt⟩ : ∃xt:Sx,{ xs with D:=1}=xt:=⟨_,rfl⟩;have N4:Zl (Zu (w6.setCell ⟨tb,3,none⟩ (.int .u64 1)) tb 28 (Yy xt)):=Za (by rw [<-hxt]; exact N2.o.set_ 3 _);have N5:Zl (Zu (w6.setCell ⟨tb,3,none⟩ (.int .u64 1)) sb 28 (Yy xs)):=Za (N3.o.far Ka _);have C7:Zl (Zp sb w4 (w6.setCell ⟨tb,3,none⟩ (.int .u64 1))):=Za (C6.o.setCell hle _);have HAX:Zl (DG (w6.setCell ⟨tb,3,none⟩ (.int .u64 1)) xs Eb [] [] [] []):=Za (HA.o.below (by rw [hsb]; exact C7.o));have HAT:Zl (DG (w6.setCell ⟨tb,3,none⟩ (.int .u64 1)) xt Eb [] [] [] []/\Ud xt [] [] [] []=anT):=Za (by
  refine ⟨?_,?_⟩
  ·have h:=HAX.o;rw [<-hxt];exact { h with sx:= { h.sx with nums:= { h.sx.nums with D:=⟨by show (0:Int)<=1; omega,by show (1:Int)<=18446744073709551615; omega⟩}}}
  ·rw [<-hxt];show { Ud xs [] [] [] [] with D:=1}=anT;rw [HAN.o];rfl)
 have BX:Zl (Zp w.heap.size w (w6.setCell ⟨tb,3,none⟩ (.int .u64 1))):=Za (B4.o.trans (C7.o.mono (by rw [<-hsb]; exact B4.o.size)));clear Ka hle hxt C5 C6 N1 N2 N3 ak;go_upto_region 7 with (fail);try simp only [Act.put]
 generalize w6.setCell ⟨tb,3,none⟩ (.int .u64 1)=X0 at*;clear c3 f3 C7 HA;have hX:Zp X0.heap.size X0 X0.drew:=(Zo _ _).drew;have M1:Zl (Zu X0.drew sb 28 (Yy xs)):=Za N5.o.drew;have M2:Zl (Zu X0.drew tb 28 (Yy xt)):=Za N4.o.drew;have MA:=Za (HAX.o.below hX);have MT:=Za (HAT.o.1.below hX);have BD:Zl (Zp w.heap.size w X0.drew):=Za BX.o.drew;obtain ⟨X,wY⟩:=ZT (X0.drew);rw [wY] at M1 M2 MA MT BD;have HC0:Zl (∀W',Zp X.heap.size X W'->Z3 16 #[.agg (Yy xs),.agg (Zi Eb)] W' (.int .i64 0)):=Za fun W' hb=>by
  have:=Ow W' (MA.o.below hb);rw [HAN.o,mm] at this;exact this
 have uN:Zl (∀W',Zp X.heap.size X W'->Z3 16 #[.agg (Yy xt),.agg (Zi Eb)] W' (.int .i64 2)):=Za fun W' hb=>by
  have:=Ow W' (MT.o.below hb);rw [HAT.o.2,mq] at this;exact this
 have ll:Zl (∀W',Zp X.heap.size X W'->Calls Zb 13 #[.agg (Yy xt),.agg (Zi Eb)] W' fun e w'=> ∃v,e= .returned v/\Hn w' W'.heap.size v [2]/\Zp W'.heap.size W' w'):=Za fun W' hb=>by
  have:=vk W' (MT.o.below hb);rw [HAT.o.2,tw] at this;exact this
 have HNM:Zl (∀W',Z3 23 #[.int .i64 2] W' (.string ⟨#[115,117,109]⟩)):=Za fun W'=>o4 2 W' (by decide)
 clear HAX HAT N4 N5 BX hX MA MT HAN;refine Mz (fun w'=>Zp X.heap.size X w') 25 24 [0] (?_) ?_
 ·rw [wY]; exact Zo _ _
 rw [wY];clear wY;simp only [qF,qH];show ZZ _ _ _ _ [_] _;refine QP 28 _ sb 28 (Yy xs) _ rfl rfl rfl (fun w' h=>M1.o.below h M1.o.lt) underlying28 rfl Lf ?_;simp only [qB];refine Us ?_;try simp only [qA]
 refine Jg (i:=1) ?_;refine JC #[] call29 ((Bn X).mono ?_);rintro e y1 ⟨rfl,hb⟩;have By1:Zl (Zp X.heap.size X y1):=Za (hb);clear hb;refine ⟨_,rfl,By1.o,?_⟩;try simp only [qA]
 refine Jg (i:=2) ?_;refine JC #[.agg (Yy xs),.agg (Zi Eb)] call16 ((HC0.o y1 By1.o).mono ?_);rintro e y2 ⟨rfl,hb⟩;have By2:Zl (Zp X.heap.size X y2):=Za (By1.o.trans (hb.mono By1.o.size));clear hb;refine ⟨_,rfl,By2.o,?_⟩;try simp only [qA]
 refine SR (fun w'=>Zp X.heap.size X w') (m:=22) (f:=19) [3,4,5] (?_) ?_
 ·exact By2.o
 simp only [qF,qH];show ZZ _ _ _ _ [_,_,_] _;iterate 2 (go_big_quiet_step ((intros; rfl)))
 refine QP 28 _ tb 28 (Yy xt) _ rfl rfl rfl (fun w' h=>M2.o.below h M2.o.lt) underlying28 rfl Lf ?_;simp only [qB];refine Us ?_;try simp only [qA]
 refine Jg (i:=6) ?_;refine KQ rfl (by kernel_rfl) (Kt rfl #[] (by kernel_rfl) call29 ((Bn y2).mono ?_));rintro e y3 ⟨rfl,hb⟩;have By3:Zl (Zp X.heap.size X y3):=Za (By2.o.trans (hb.mono By2.o.size));clear hb;refine ⟨_,rfl,By3.o,?_⟩;try simp only [qA]
 refine Jg (i:=7) ?_;refine KQ rfl (by kernel_rfl) (Kt rfl #[.agg (Yy xt),.agg (Zi Eb)] (by kernel_rfl) call16 ((uN.o y3 By3.o).mono ?_));rintro e y4 ⟨rfl,hb⟩;have By4:Zl (Zp X.heap.size X y4):=Za (By3.o.trans (hb.mono By3.o.size));clear hb;refine ⟨_,rfl,By4.o,?_⟩;try simp only [qA]
 refine SR (fun w'=>Zp X.heap.size X w') (m:=17) (f:=13) [8,9,10,11] (?_) ?_
 ·exact By4.o
 simp only [qF,qH];show ZZ _ _ _ _ [_,_,_,_] _;iterate 3 (go_big_quiet_step ((intros; rfl)))
 refine QP 28 _ tb 28 (Yy xt) _ rfl rfl rfl (fun w' h=>M2.o.below h M2.o.lt) underlying28 rfl Lf ?_;simp only [qB];refine Us ?_;obtain ⟨i8,hi8,hz8,hs8,hb8⟩:=Bg;try simp only [qA]
 refine Vh (i:=12) (k:=14) (by kernel_rfl) (by simp) (by simp) ?_ ?_
 ·skip
  refine KQ rfl (by kernel_rfl) (Kt rfl #[] (by kernel_rfl) call29 ((Bn y4).mono ?_));rintro e y5 ⟨rfl,hb⟩;have uJ:Zl (Zp X.heap.size X y5):=Za (By4.o.trans (hb.mono By4.o.size));clear hb;refine ⟨_,rfl,uJ.o,?_⟩;try simp only [qA]
  refine Vh (i:=13) (k:=14) (by kernel_rfl) (by simp) (by simp) ?_ ?_
  ·skip
   refine KQ rfl (by kernel_rfl) (Kt rfl #[.agg (Yy xt),.agg (Zi Eb)] (by kernel_rfl) call13 ((ll.o y5 uJ.o).mono ?_));rintro e y6 ⟨v,rfl,ho,hb⟩;obtain ⟨pa,ca,rfl,_,_,_,hi⟩:=Kb (S:=fun _=>False) ho fun _ _ h=>h
   have OA:=Za hi;have uK:Zl (Zp X.heap.size X y6):=Za (uJ.o.trans (hb.mono uJ.o.size));clear ho hb hi;refine ⟨_,rfl,uK.o,?_⟩;try simp only [qA]
   refine Jg (i:=14) ?_;have By7:Zl (Zp X.heap.size X (y6.alloc (.cells #[.int .i64 2] 3))):=Za (uK.o.alloc uK.o.size _);have OB:=Za (S9 y6);have OA:=Za (OA.o.below ((Zo _ y6).alloc (Zh _) (.cells #[.int .i64 2] 3)));refine KQ rfl (by kernel_rfl) (JY 24 3 i8 _ _ (.int .i64 2) rfl rfl underlying24 hi8 hz8 hs8 rfl rfl ⟨By7.o,?_⟩);generalize y6.alloc (.cells #[.int .i64 2] 3)=y7 at*;generalize y6.heap.size=g2 at*;exact Zby
  ·skip
   have uK:Zl (Zp X.heap.size X (y5.alloc (.cells #[.int .i64 2] 3))):=Za (uJ.o.alloc uJ.o.size _);have OB0:=Za (S9 y5);refine KQ rfl (by kernel_rfl) (JY 24 3 i8 _ _ (.int .i64 2) rfl rfl underlying24 hi8 hz8 hs8 rfl rfl ⟨uK.o,?_⟩);generalize y5.alloc (.cells #[.int .i64 2] 3)=y6 at*;generalize y5.heap.size=g2 at*;exact zT5
 ·skip
  have uJ:Zl (Zp X.heap.size X (y4.alloc (.cells #[.int .i64 2] 3))):=Za (By4.o.alloc By4.o.size _);have OB0:=Za (S9 y4);refine KQ rfl (by kernel_rfl) (JY 24 3 i8 _ _ (.int .i64 2) rfl rfl underlying24 hi8 hz8 hs8 rfl rfl ⟨uJ.o,?_⟩);generalize y4.alloc (.cells #[.int .i64 2] 3)=y5 at*;generalize y4.heap.size=g2 at*;try simp only [qA]
  refine Jg (i:=12) ?_;refine KQ rfl (by kernel_rfl) (Kt rfl #[] (by kernel_rfl) call29 ((Bn y5).mono ?_));rintro e y6 ⟨rfl,hb⟩;have OB1:=Za (OB0.o.below hb);have uK:Zl (Zp X.heap.size X y6):=Za (uJ.o.trans (hb.mono uJ.o.size));clear hb OB0;refine ⟨_,rfl,uK.o,?_⟩;have OB0:=OB1;clear OB1;exact zT5
end
section
open Go Go.RowKit Go.Deep
theorem RA (c:Nat->Int)(a1:Option Addr)(NN cap1:Nat)(w:Zc)(f0:Ci c)(o1:zM w a1 NN cap1) :Z3 4 #[.agg (Zi c),.slice a1 NN cap1] w (.bool true):=by
 have B0:Zu (w.alloc (.cells (Zi c) 30)) w.heap.size 30 (Zi c):=Zt _ _ _;have b0:Zp w.heap.size w (w.alloc (.cells (Zi c) 30)):=(Zo _ _).alloc (Zh _) _;obtain ⟨Uz,hmax,l,hl,hlf,hls⟩:=o1;have HLs:=Za (hls.below b0);have HLf:=Za hlf;have oH:=Za hl;have jq:=Za B0;have Hb0:=Za b0;have HA:=Za (fun w=>vN w);have uP:=Za (fun w=>cE c a1 NN cap1 w);clear Uz hmax hlf hls B0 b0 hl
 by_cases hf:lk c NN
 ·have Wu:fo c NN=1:=if_pos hf;rw [Wu] at uP
  by_cases h60:60 < c 0
  ·have d60:decide (60 < c 0)=true:=decide_eq_true h60;clear f0 hf Wu;go_enter func4,ntmps4;go_upto_region 1 with (fail);generalize w.alloc (.cells (Zi c) 30)=W1 at*;generalize qQ:w.heap.size=b at*;have HBB:=Za qQ;clear qQ;go_wp2_with (first | (refine Kz 30 b jq.o underlying30 X7 ?_));refine (uP.o W1).mono ?_;rintro e w3 ⟨rfl,b3⟩;have I3:=Za (jq.o.below b3 jq.o.lt);have H3:=Za b3;clear b3 uP;have c0:=QS I3.o 0;exact Zep
  ·have d60:decide (60 < c 0)=false:=decide_eq_false h60
   by_cases h61:60 < c 1
   ·have d61:decide (60 < c 1)=true:=decide_eq_true h61;clear f0 hf Wu;go_enter func4,ntmps4;go_upto_region 1 with (fail);generalize w.alloc (.cells (Zi c) 30)=W1 at*;generalize qQ:w.heap.size=b at*;have HBB:=Za qQ;clear qQ;go_wp2_with (first | (refine Kz 30 b jq.o underlying30 X7 ?_));refine (uP.o W1).mono ?_;rintro e w3 ⟨rfl,b3⟩;have I3:=Za (jq.o.below b3 jq.o.lt);have H3:=Za b3;clear b3 uP;have c0:=QS I3.o 0;have c1:=QS I3.o 1;exact Zep
   ·have d61:decide (60 < c 1)=false:=decide_eq_false h61;have hn4:NN<=400:=by unfold lk at hf; omega
    have HN:=Za (fun w=>Zf3 (c:=c) w (OU f0 hf.1) hf.1);have zI:=Za (Zhc f0 hf.1 hf.2.1);have HCF:=Za (And.intro f0 hf.1);have HI0:=Za (Zdm c);clear hf Wu f0;go_enter func4,ntmps4;go_upto_region 1 with (fail);generalize w.alloc (.cells (Zi c) 30)=W1 at*;generalize qQ:w.heap.size=b at*;have HBB:=Za qQ;clear qQ;go_wp2_with (first | (refine Kz 30 b jq.o underlying30 X7 ?_));refine (uP.o W1).mono ?_;rintro e w3 ⟨rfl,b3⟩;have I3:=Za (jq.o.below b3 jq.o.lt);have H3:=Za b3;clear b3 uP;have c0:=QS I3.o 0;have c1:=QS I3.o 1;go_wp2_with (first | (refine Kz 30 b I3.o underlying30 X7 ?_));clear c0 c1;refine (HN.o w3).mono ?_;rintro e w2 ⟨a,q,rfl,h2⟩;have E3:=Za (h2 vi);clear h2 HN;obtain ⟨s0,Rt⟩:=ZT (ae);obtain ⟨L0,hL0⟩:=ZT (([] :List QW));rw [Rt] at HI0;rw [Rt,hL0] at zI E3;clear Rt hL0;clear d60 d61 h60 h61;go_wp2_with fail;go_loopw [33] (fun s33 wr=> ∃(k:Nat) (s:Sg) (L:List QW),k<=NN/\s33= .int .i64 k/\Zl (I5 c k s L)/\Zl (Ew c s)/\Zl (Eg 11 ⟨fun _=>False,w3⟩ wr c a q vi s L)) (fun s33 _=>NN -(intOf s33).toNat)
    case atStart=>exact ⟨0,s0,L0,by omega,rfl,zI,HI0,E3⟩
    case round=>
     clear E3 zI HI0;obtain ⟨k,s,L,hk,rfl,HS,HI,HE⟩:=hrel
     by_cases XV:k < NN
     ·obtain ⟨o,ho⟩ : ∃o,l[k]?=some o:=⟨_,List.getElem?_eq_getElem (by rw [oH.o]; exact XV)⟩;have HFo:=Za (HLf.o o (List.mem_of_getElem? ho));obtain ⟨ga,off,rfl,jU⟩:=o5.at (N:=11) (.inl (HLs.o.below H3.o)) HE.o (Zh _) (fun _ _ _=>rfl) ho;have zH:=Za jU;clear jU ho;go_upto_region 9 with (first | (refine wpList_load_mid rfl 49 _ rfl ga (off+k*4) rfl o.row _ zH.o underlying49 rfl BA ?_) | (refine UP wr.heap.size (ZX o) 49 (ZA wr _) BA (aL _) ?_; rw [Zr]));have E1:=Za (HE.o.box (ZX o) 49);clear HE zH;generalize wr.alloc (.cells (ZX o) 49)=V1 at*;generalize wr.heap.size=go at*;have HBo:=Za (E1.o.blkAt (r:=11) (by omega) (by omega) Zq);have HA1:=Za (Zcl HS.o (by omega) E1.o o HFo.o);have Oo:=Za (HS.o.op (by omega) o HFo.o);have HI2:=Za (xU HS.o.ge HS.o.inv HI.o (by omega) o);obtain ⟨R,hR⟩:=ZT ((MN c s o).1);obtain ⟨s2,CT⟩:=ZT ((MN c s o).2);obtain ⟨L2,hL2⟩:=ZT (Dx c s L o);rw [CT,hL2] at Oo;rw [CT] at HI2;rw [show MN c s o=(R,s2) from Prod.ext hR CT,hL2] at HA1;clear hR CT hL2 E1 HFo;go_wp2_with (first | (refine Kz 49 go HBo.o underlying49 BA ?_));refine HA1.o.mono ?_;rintro e V2 ⟨ia,ca,ip,cp,rfl,h2⟩;have E2:=Za (Eg.drew (h:=h2));have Gv:=Za (E2.o.kblk I3.o);clear h2 HA1 HBo;go_upto_region 10 with (fail);try simp only [Act.put]
      obtain ⟨X,wY⟩:=ZT (V2.drew);rw [wY] at E2 Gv;have dZ:=Za (Oo.o.snap (by omega) E2.o);refine Mz (fun w'=>Zu w' b 30 (Zi c)) 4 2 [0,2] (?_) ?_
      ·rw [wY]; exact Gv.o
      rw [wY];clear wY;simp only [qF,qH];show ZZ _ _ _ _ [_,_] _;iterate 1 (go_big_quiet_step ((intros; rfl)))
      refine QP 30 _ b 30 (Zi c) _ rfl rfl rfl (fun w' h=>h) underlying30 rfl X7 ?_;simp only [qB];refine Us ?_;refine Jg (i:=1) ?_;refine JC #[.pointer (some ⟨q.e,0,none⟩)] call20 ((dZ.o).mono ?_);rintro e w4 ⟨x1,x2,x3,x4,x5,x6,rfl,h4⟩;have B4:=Za (h4.kblk I3.o);obtain ⟨r1,r2,r3,r4,r5,r6⟩:=AU (by omega) h4;obtain ⟨xs,ex,xc,han⟩:=kv Oo.o (by omega) HCF.o.1 HCF.o.2 HI2.o.wd r1 r2 r3 r4 r5 r6;have HAU:=Za xc;have HAN:Zl (Dl c (Ud xs s2.V s2.pd s2.F s2.W)=0):=Za (by rw [han]; exact Oo.o.first HI2.o);have E4:=Za h4;rw [ex];clear r1 r2 r3 r4 r5 r6 ex xc han h4 E2 Gv dZ;refine ⟨_,rfl,B4.o,?_⟩;try simp only [qA]
      have HCK:Zl (Z3 16 #[.agg (Yy xs),.agg (Zi c)] w4 (.int .i64 0)):=Za (by
       have:=Ow w4 HAU.o;rw [HAN.o] at this;exact this)
      clear HAU HAN;refine Jg (i:=3) ?_;refine JC #[.agg (Yy xs),.agg (Zi c)] call16 ((HCK.o).mono ?_);rintro e w5 ⟨rfl,hb⟩;have B5:=Za (B4.o.below hb B4.o.lt);have E5:=Za (E4.o.below hb);clear hb HCK E4 B4;refine ⟨_,rfl,B5.o,?_⟩;show Region.seqB _ _ _ _ _=true/\_;refine ⟨by kernel_rfl,?_⟩;simp only [qA];have E7:Zl (Eg 11 ⟨fun _=>False,w3⟩ w5 c a q vi s2 L2):=Za ((((((((((E5.o.less (by omega)).less (by omega)).less (by omega)).less (by omega)).less (by omega)).less (by omega)).less (by omega)).less (by omega)).less (by omega)).ext fun k h1 h2=>by omega);clear E5 B5;go_wp2_with fail;refine NoPanic.normal ?_;go_wp2_with fail;go_roundw
      case rel=>exact ⟨k+1,s2,L2,by omega,by go_num,Oo,HI2,E7⟩
      case measure=>exact VL
     ·obtain rfl:k=NN:=by omega
      clear XV;have XV: ¬k < k:=by omega
      have H8:=Za (HE.o.down);clear HE;go_wp2_with fail;refine (HA.o wr).mono ?_;rintro e w9 ⟨rfl,b9⟩;have H9:=Za b9;clear b9;go_wp2_with fail;go_ret;exact ⟨rfl,HBB.o▸Hb0.o.trans ((H3.o.trans ((H8.o.trans (H9.o.mono H8.o.size)).mono H3.o.size)).mono (Nat.le_of_lt jq.o.lt))⟩
 ·have Wu:fo c NN=0:=if_neg hf;rw [Wu] at uP;clear Wu hf f0;go_enter func4,ntmps4;go_upto_region 1 with (fail);generalize w.alloc (.cells (Zi c) 30)=W1 at*;generalize qQ:w.heap.size=b at*;have HBB:=Za qQ;clear qQ;go_wp2_with (first | (refine Kz 30 b jq.o underlying30 X7 ?_));refine (uP.o W1).mono ?_;rintro e w3 ⟨rfl,b3⟩;have I3:=Za (jq.o.below b3 jq.o.lt);have H3:=Za b3;clear b3 uP;exact Zep
end
section
open Go Go.ChangeShapes Go.WideShapes Go.ChangeAt Go.RowKit
open Go.ChangeMaps (open_string shut_string)
theorem own:ownKnob Tryz.prog.godebug=none:=Zcg
theorem laidOut:laidOutB Zb=true:=jy
theorem Zdo (os:Os)(started:os.Started)(H:Type)(enc:TypeId × Value->H) :
  ReturnsInHanded {} Tryz.checked os 4 .any (Rows.auditHoldsSpec.pre6 enc Zb Tryz.f4 Rows.auditHoldsRow.domain false) (Rows.auditHoldsSpec.post enc Zb Tryz.f4 false true false false):=by
 refine returnsInHanded_of_change (C:=Tryz.checked) own started (by as_aux_lemma=>kernel_rfl) func4
  (ChangeSpec.witness6 (enc:=enc) (C:=Tryz.checked) false ⟨#[],#[.agg (Zi (fun _=>0)),.slice none 0 0],[]⟩ 8 (by as_aux_lemma=>kernel_rfl) (by as_aux_lemma=>kernel_rfl) (by as_aux_lemma=>kernel_rfl) (by as_aux_lemma=>kernel_rfl)) ?_
 intro W base args ds gs before hval0 hW hcnd Bx;have Zde: ∀(j:Nat) t v,Tryz.f4.params[j]?=some t->args[j]?=some v->Value.okWide Zb W .any base t v:=hval0;have hW':=hW;obtain ⟨p,q,Rn,hV,rfl,hfz,rf⟩:=hW;have hA:DataW.TrodAll enc Zb W 0 (fun _=>true) true Tryz.f4.params.toList args.toList ds p:=Rn;rw [Tryz.params4] at hA Zde;obtain ⟨v0,vs0,d0,ds0,p0,q0,hargs,rfl,rfl,h0,r0⟩:=trodAll_cons hA;obtain ⟨v1,vs1,d1,ds1,p1,q1,rfl,rfl,rfl,h1,r1⟩:=trodAll_cons r0;obtain ⟨rfl,rfl,rfl⟩:=trodAll_nil r1;obtain rfl:args= #[v0,v1]:=by cases args; simp_all
 obtain ⟨rfl,rfl⟩:=trodVars_none hV;obtain ⟨a0,rfl,w0⟩:=open_T30 (Zde 0 30 v0 rfl rfl) h0;have k0:=h0;have lt0: ∀x ∈ p0,x.block < W.heap.size:=by obtain ⟨m,hm⟩:=k0; exact DataW.trod_lt m _ _ _ hm
 obtain ⟨a1,NN,cap1,rfl,w1⟩:=open_S42 (Zde 1 42 v1 rfl rfl) h1;have k1:=h1;have lt1: ∀x ∈ p1,x.block < W.heap.size:=by obtain ⟨m,hm⟩:=k1; exact DataW.trod_lt m _ _ _ hm
 clear Rn hval0;refine (RA a0 a1 NN cap1 W w0 w1).mono fun e W' ⟨he,bel⟩=>?_
 subst he;exact ⟨_,rfl,_,_,_,[],_,[],hW',trodAll_mk1 (shut_bool underlying4 _),(trodAll_cons_mk (Below.trod laidOut (by as_aux_lemma=>kernel_rfl) (of_decide_eq_true (by as_aux_lemma=>kernel_rfl)) k0 bel lt0) (trodAll_cons_mk (Below.trod laidOut (by as_aux_lemma=>kernel_rfl) (of_decide_eq_true (by as_aux_lemma=>kernel_rfl)) k1 bel lt1) trodAll_mk0)),rfl,bel.frame _,fun h=>by cases h⟩
theorem Jj {a b:Bool}(ha:a=true)(hb:b=true) :(a&&b)=true:=by rw [ha,hb]; rfl
theorem Zci:joinedFacts Zb 4 Tryz.f4 Rows.auditHoldsSpec Rows.auditHoldsRow=true:=by
 unfold joinedFacts;exact (Jj (Jj (Jj (Jj (Jj (Jj (Jj (Jj (Jj (Jj (Jj (Jj (Jj (Jj (Jj (Jj (Jj (Jj (Jj (Jj (Jj (Jj (Jj (Jj (Jj (Jj (Jj (Jj (Jj (Jj (Jj (by as_aux_lemma=>kernel_rfl) jy) wg) (by as_aux_lemma=>kernel_rfl)) (by as_aux_lemma=>kernel_rfl)) (by as_aux_lemma=>kernel_rfl)) pD) (by as_aux_lemma=>kernel_rfl)) pC) (by as_aux_lemma=>kernel_rfl)) (by as_aux_lemma=>kernel_rfl)) (by as_aux_lemma=>kernel_rfl)) (by as_aux_lemma=>kernel_rfl)) (by as_aux_lemma=>kernel_rfl)) (by as_aux_lemma=>kernel_rfl)) (by as_aux_lemma=>kernel_rfl)) (by as_aux_lemma=>kernel_rfl)) (by as_aux_lemma=>kernel_rfl)) (by as_aux_lemma=>kernel_rfl)) (by as_aux_lemma=>kernel_rfl)) (by as_aux_lemma=>kernel_rfl)) (by as_aux_lemma=>kernel_rfl)) vY) (by as_aux_lemma=>kernel_rfl)) pB) pA) vZ) we) (by as_aux_lemma=>kernel_rfl)) (by as_aux_lemma=>kernel_rfl)) (by as_aux_lemma=>kernel_rfl)) (by as_aux_lemma=>kernel_rfl))
theorem ZkQ:Rows.auditHoldsRow.holds Tryz.pinned (OpenSpec.ofChange Rows.auditHoldsSpec):=
 OpenClaim.holds_of_wide 4 Tryz.f4 rfl rfl rfl rfl rfl rfl rfl ⟨rfl,rfl,rfl,rfl,rfl⟩ rfl rfl rfl rfl rfl (by as_aux_lemma=>kernel_rfl) func4 Zci
  (of_decide_eq_true (by as_aux_lemma=>kernel_rfl)) (by unfold Func.isWrapper; first | (rw [if_pos (by decide+kernel)]; kernel_rfl) | (rw [if_neg (by decide+kernel)]; exact ⟨rfl,rfl⟩))
  (fun os started H enc _=>Zdo os started H enc)
theorem proved:Rows.AuditHoldsSaid:=ZkQ
end
end Go.Proofs.YtobgbcdgffgdhaaGreat
