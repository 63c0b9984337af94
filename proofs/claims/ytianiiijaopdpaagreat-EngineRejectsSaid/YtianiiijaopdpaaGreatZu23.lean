/- Part 23 of 58: L18Good. -/
import Derived.Test.YtianiiijaopdpaaGreatZu00
import Derived.Test.YtianiiijaopdpaaGreatZu13
import Derived.Test.YtianiiijaopdpaaGreatZu17
namespace Go.Proofs.YtianiiijaopdpaaGreat
set_option linter.unusedVariables false
set_option linter.unusedSimpArgs false
set_option maxRecDepth 100000
set_option maxHeartbeats 8000000
open _root_.Go.RowKit.Below renaming refl → Zr
open _root_.Go renaming Calls → Zi, World → Zc
open _root_.Go.Lib renaming hid → Za
open _root_.Nat renaming le_refl → Zg
open _root_.Go.Proofs.Tryz renaming prog → Zb, underlying24 → ZC
theorem Zah {G:Prop} (h:G:=by
  exact ⟨Int.ediv_nonneg Zp Zp,Int.le_trans (Int.ediv_le_self _ Zp) Zp⟩) :G:=h
theorem ZaR {G:Prop} (h:G:=by
  go_wp2;go_ret;exact ⟨rfl,(Below.refl _ _).alloc (Nat.le_refl _) _⟩) :G:=h
section
open Go Go.RowKit
structure Good (c:Nat→Int) :Prop where
 cap0:1≤c 0
 cap1:c 0≤4096
 part:0≤c 16
 vis0:c 16 < c 14
 pay0:c 16 < c 15
 vis1:c 14≤4096
 pay1:c 15≤4096
 chu0:1≤c 7
 chu1:c 7≤1152921504606846976
 fcp0:0≤c 9
 fcp1:c 9≤1152921504606846976
 unb0:1≤c 10
 unb1:c 10≤1048576
 sla0:c 10 < c 11
 sla1:c 11≤1048576
 len0:1≤c 13
 Vd:c 13≤4096
theorem Vm {v lo hi:Int}(h:Mc v lo hi=true) :lo≤v∧v≤hi:=by unfold Mc at h; simpa using h
theorem bounds_u64 {n:Int}(h:(Lit.int .u64 n).wf=true) :0≤n∧n≤18446744073709551615:=by
 simp [Lit.wf,IntKind.min,IntKind.max,IntKind.signed,IntKind.bits] at h;omega
theorem bd {c:Nat→Int}(hf:Wj c)(h:P6 c=0) :Good c:=by
 rcases Oo c with ⟨_,hb⟩ | ⟨k,_,_,_,e⟩
 ·have h0:=Vm (hb 0 Zp);have h7:=Vm (hb 7 Zp);have h9:decide (c 9≤cb)=true:=hb 9 Zp;have Wd:=Vm (hb 10 Zp);have Gj:decide (c 10 < c 11∧c 11≤1048576)=true:=hb 11 Zp;have lL:=Vm (hb 13 Zp);have h14:=Vm (hb 14 Zp);have h15:=Vm (hb 15 Zp);have pQ:decide (0≤c 16∧c 16 < c 14∧c 16 < c 15)=true:=hb 16 Zp;have f9:(Lit.int .u64 (c 9)).wf=true:=hf 9 Zp;simp at h9 Gj pQ;unfold cb at h7 h9;exact ⟨h0.1,h0.2,pQ.1,pQ.2.1,pQ.2.2,h14.2,h15.2,h7.1,h7.2,(bounds_u64 f9).1,h9,Wd.1,Wd.2,Gj.1,Gj.2,lL.1,lL.2⟩
 ·omega
def Kx:Nat→Int
 | 0=>16
 | 1=>8
 | 2=>16
 | 3=>64
 | 4=>1024
 | 5=>8
 | 6=>128
 | 7=>32
 | 8=>4
 | 9=>64
 | 10=>2
 | 11=>5
 | 12=>4
 | 13=>4
 | 14=>6
 | 15=>4
 | 16=>2
 | 17=>2
 | 18=>1
 | 19=>4
 | _=>0
theorem Sk:P6 Kx=0:=by decide+kernel
theorem Aa:Wj Kx:=by
 intro k hk;have:k=0∨k=1∨k=2∨k=3∨k=4∨k=5∨k=6∨k=7∨k=8∨k=9∨k=10∨k=11∨k=12∨k=13∨k=14∨k=15∨k=16∨k=17∨k=18∨k=19:=by omega
 rcases this with h | h | h | h | h | h | h | h | h | h | h | h | h | h | h | h | h | h | h | h <;> subst h <;> decide
theorem kW (c:Nat→Int) :(Zk c).all (·.oneCell')=true:=by kernel_rfl
theorem aI (w:Zc) :Zi Zb 35 #[] w fun e w'=>e= .returned (.agg (Zk Kx))∧Below w.heap.size w w':=by
 go_enter Tryz.func35,Tryz.ntmps35;go_wp2_with (first | (refine wpList_build rfl 24 _ rfl Yi ?_; rw [show (Tryz.prog.built 24 _).getD #[]=Zk Kx from by kernel_rfl]) | (refine wpList_store_row rfl _ _ _ rfl w.heap.size (Zk Kx) rfl rfl 24 _ (heap_alloc_new w _) Xn rfl (kW _) ?_; rw [World.setRow_alloc_new]));exact bodyPost_ret (v:= .agg (Zk Kx)) (results_cell_row (fn:=Tryz.f35) rfl _ _ w.heap.size 24 (Zk Kx) (0,0) _ rfl (heap_alloc_new w _) ZC rfl Xn) rfl ⟨rfl,(Zr _ _).alloc (Zg _) _⟩
theorem gY (c:Nat→Int)(hg:Good c)(w:Zc) :
  Zi Zb 330 #[.agg (Zk c)] w fun e w'=>e= .returned (.int .i64 (c 14 - c 16))∧Below w.heap.size w w':=by
 have g2:=hg.part;have g3:=hg.vis0;have g5:=hg.vis1;unfold Zk;go_enter Tryz.func330,Tryz.ntmps330;exact ZaR
theorem Ib (c:Nat→Int)(hg:Good c)(w:Zc) :
  Zi Zb 331 #[.agg (Zk c)] w fun e w'=>e= .returned (.int .i64 (c 15 - c 16))∧Below w.heap.size w w':=by
 have g2:=hg.part;have g4:=hg.pay0;have g6:=hg.pay1;unfold Zk;go_enter Tryz.func331,Tryz.ntmps331;exact ZaR
def Uu (c:Nat→Int) :Int:=min (c 14 - c 16) (c 15 - c 16)
def Fp (c:Nat→Int) :Int:=(c 0 - 1)/Uu c+1
theorem Pr {c:Nat→Int}(hg:Good c) :1≤Uu c∧Uu c≤4096:=by
 have g2:=hg.part;have g3:=hg.vis0;have g4:=hg.pay0;have g5:=hg.vis1;have g6:=hg.pay1;unfold Uu; omega
theorem jE {c:Nat→Int}(hg:Good c) :0≤(c 0 - 1)/Uu c∧(c 0 - 1)/Uu c≤4095:=by
 have h:=Pr hg;have g0:=hg.cap0;have g1:=hg.cap1;exact Zah
theorem WW {c:Nat→Int}(hg:Good c) :1≤Fp c∧Fp c≤4096:=by
 have:=jE hg; unfold Fp; omega
theorem jt (c:Nat→Int) :(Tryz.prog.info? 24).map (·.size)=some (Zk c).size:=Xn
theorem PW (c:Nat→Int)(hg:Good c)(w:Zc) :
  Zi Zb 324 #[.agg (Zk c)] w fun e w'=>e= .returned (.int .i64 (Fp c))∧Below w.heap.size w w':=by
 have V:=Za (gY c hg);have Y:=Za (Ib c hg);have K0:Vx w.heap.size w.heap.size 24 (Zk c) w (w.alloc (.cells (Zk c) 24)):=Vx.new (Zr _ _) (Zg _);have hp:=Pr hg;have hq:=jE hg;have hd:decide (Uu c < 1)=false:=by simp; omega
 have Od:decide (c 0 < 1)=false:=by have:=hg.cap0; simp; omega
 have hz:(Uu c==0)=false:=by simp; omega
 have g0:=hg.cap0;have g1:=hg.cap1;have HB:=Za (show Fp c=(c 0 - 1)/Uu c+1 from rfl);clear hg;unfold Zk;go_enter Tryz.func324,Tryz.ntmps324;go_wp2_with (fail);refine XO (Vx w.heap.size w.heap.size 24 (Zk c) w) Yi Yi K0.drew ?_;refine Qg 24 (.tmp 1) w.heap.size 24 (Zk c) _ rfl rfl rfl (fun _ h=>h.1) ZC rfl (jt c) ?_;refine OH (.int .i64 (c 14 - c 16)) #[.agg (Zk c)] rfl Yi Tryz.call330 (fun _ h=>h.call (V.out _)) ?_;refine Qg 24 (.tmp 1) w.heap.size 24 (Zk c) _ rfl rfl rfl (fun _ h=>h.1) ZC rfl (jt c) ?_;refine OH (.int .i64 (c 15 - c 16)) #[.agg (Zk c)] rfl Yi Tryz.call331 (fun _ h=>h.call (Y.out _)) ?_;refine GU (.int .i64 (Uu c)) rfl (fun _=>by go_simp; rfl) ?_;refine GU (.int .i64 (Uu c)) rfl (fun _=>by go_simp) ?_;refine wpQuiet_nil ?_;intro w1 hk;have Ns:w1.cell? ⟨w.heap.size,0,none⟩=some (.int .i64 (c 0)):=hk.1.cell 0;have Mf:=hk.2.1;clear hk K0;go_wp2_with (fail);go_ret;exact ⟨FE HB.out.symm,Mf⟩
theorem Sr (n L:Int)(w:Zc)(h2:0≤n)(hn:n≤9223372036854775807)(h3:1≤L) :
  Zi Zb 155 #[.int .i64 n,.int .i64 L] w fun e w'=>e= .returned (.int .i64 (n/L))∧w=w':=by
 have hd:decide (n < 0)=false:=by simpa using h2
 have vU:decide (L < 1)=false:=by simpa using h3
 have hz:(L==0)=false:=by simp; omega
 have q0:0≤n/L:=Int.ediv_nonneg Zp Zp;have q1:n/L≤n:=Int.ediv_le_self _ Zp;go_enter Tryz.func155,Tryz.ntmps155;exact Vr
def BO (c:Nat→Int) :Int:=(Fp c - 1)/c 13
theorem OR {c:Nat→Int}(hg:Good c) :0≤BO c∧BO c≤4095:=by
 have h:=WW hg;have h1:=hg.len0;unfold BO;exact Zah
theorem Iz (c:Nat→Int)(hg:Good c)(w:Zc) :
  Zi Zb 308 #[.agg (Zk c)] w fun e w'=>e= .returned (.int .i64 (BO c))∧Below w.heap.size w w':=by
 have HB:=Za (PW c hg);have hb:=WW hg;have HE:=Za (fun w=>Sr (Fp c - 1) (c 13) w Zp Zp hg.len0);have HS:=Za (show BO c=(Fp c - 1)/c 13 from rfl);have K0:Hid (Vx w.heap.size w.heap.size 24 (Zk c) w (w.alloc (.cells (Zk c) 24))):=Za (Vx.new (Zr _ _) (Zg _));clear hg;generalize Fp c=B at*;go_enter Tryz.func308,Tryz.ntmps308;go_wp2_with (first | (refine wpList_load_row rfl 24 _ rfl w.heap.size rfl 24 _ (0,0) _ K0.out.1 ZC rfl Xn ?_));refine (Vx.call K0.out (HB.out _)).mono ?_;rintro e w1 ⟨rfl,K1⟩;have Ns:w1.cell? ⟨w.heap.size,13,none⟩=some (.int .i64 (c 13)):=K1.1.cell 13;have Mf:=Za K1.2.1;clear K1 K0 HB;go_wp2_with (fail);refine (HE.out _).mono ?_;rintro e w2 ⟨rfl,rfl⟩;go_wp2_with (fail);go_ret;exact ⟨FE HS.out.symm,Mf.out⟩
end
end Go.Proofs.YtianiiijaopdpaaGreat
