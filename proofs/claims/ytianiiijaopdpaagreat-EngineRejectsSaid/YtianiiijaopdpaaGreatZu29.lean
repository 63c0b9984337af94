/- Part 29 of 58: L16Tri L16Chk L17Req L17Apply L17Pay L17Rec L17Collect L17Step. -/
import Derived.Test.YtianiiijaopdpaaGreatZu00
import Derived.Test.YtianiiijaopdpaaGreatZu17
import Derived.Test.YtianiiijaopdpaaGreatZu25
import Derived.Deep.DeepCutAuto
namespace Go.Proofs.YtianiiijaopdpaaGreat
set_option linter.unusedVariables false
set_option linter.unusedSimpArgs false
set_option maxRecDepth 100000
set_option maxHeartbeats 8000000
open _root_.Go.RowKit renaming Below → Zt
open _root_.Go.RowKit.Below renaming heap_setCell → Xu, refl → Zr
open _root_.Go.Proofs.YtianiiijaopdpaaGreat.Zy renaming alloc → YF, ne_ → Jz, new → Zw
open _root_.Go renaming Calls → Zi, Value → Zo, World → Zc, below_setRow → Xx, bodyPost_ret → ZL, heap_alloc_new → ZD, results_cell_row → ZU, rounds_succ → Y2, setRow_heap → Yc, wpList_load_row → Zn, wpList_store_row → Zm, wpQuiet → ZB, wpQuiet_nil → Zj, wp_loop_rounds → Qz
open _root_.Go.Ending renaming returned → XY
open _root_.Go.Instr renaming index → Xi
open _root_.Go.Proofs.YtianiiijaopdpaaGreat.Kept renaming of_below → Y4
open _root_.Go.Lib renaming hid → Za
open _root_.List renaming getElem?_eq_some_iff → Zh, length_append → ZN, mem_of_getElem? → ZE
open _root_.Nat renaming le_refl → Zg
open _root_.Option.some renaming injEq → Qj
open _root_.Go.Proofs.YtianiiijaopdpaaGreat.Py renaming row → VJ
open _root_.Go.Proofs.Tryz renaming prog → Zb, underlying24 → ZC, underlying63 → Zs, underlying75 → Ye
open _root_.Go.Value renaming ownBlock → Xq, slice → Yr
open _root_.Go.World.ownsRow renaming alloc → QG
open _root_.Go.World renaming setRow_alloc_new → Zu
theorem Rv {G:Prop}(h:G:=by rw [←HX.out]; rfl) :G:=h
theorem N6 {G:Prop}(h:G:=by simpa using hs) :G:=h
theorem Zf6 {G:Prop} (h:G:=by
  clear hs hd h1 e ht h2;go_enter Tryz.func286,Tryz.ntmps286;go_upto_region 1 with (fail);generalize ((w.alloc (.cells (Zd s) 63)).alloc (.cells (Zd d) 63)).alloc (.cells (Zk c) 24)=W at*;go_wp2_with fail;refine (HA.out _ _ ((Zy.new W _ _).cell 0) ((Zy.new W _ _).cell 1)).mono ?_;rintro e w1 ⟨rfl,rfl⟩;have T2:=Lib.hid (HT.out.next ((Below.refl _ W).alloc (Nat.le_refl _) (.cells #[.int .u64 s.bal,.int .u64 d.bal] 22)));clear x1 x2 x3 HT HA;generalize W.alloc (.cells #[.int .u64 s.bal,.int .u64 d.bal] 22)=W2 at*;obtain ⟨-,-,-,-,-,-,x3,-⟩:=T2.out.cells;go_wp2_with fail;go_ret;exact ⟨JR H.out.symm,T2.out.2.2.2⟩) :G:=h
theorem Zgg {G:Prop} (h:G:=by
  show Region.seqB _ _ _ _ _=true∧_;refine ⟨by kernel_rfl,?_⟩;simp only [qA];go_wp2;refine NoPanic.normal ?_;go_wp2_with fail;go_meet;exact ⟨_,rfl,rfl,Z⟩) :G:=h
theorem Zgm {G:Prop} (h:G:=by
  clear hx;go_enter Tryz.func203,Tryz.ntmps203;go_upto_region 1 with (fail);generalize w.alloc (.cells (ZG r) 75)=W at*;have x0:W.cell? ⟨w.heap.size,0,none⟩=some (.int .i64 r.ix):=HB.out.1.cell 0;go_wp2;go_ret;exact ⟨JR E.out.symm,HB.out.2⟩) :G:=h
theorem Zgp {G:Prop} (h:G:=by
  clear hs hd;go_enter Tryz.func284,Tryz.ntmps284;go_upto_region 1 with (fail);generalize ((w.alloc (.cells (Zd s) 63)).alloc (.cells (Zd d) 63)).alloc (.cells (Zk c) 24)=W at*;go_wp2;go_ret;exact ⟨JR H.out.symm,HT.out.2.2.2⟩) :G:=h
theorem ZgN {G:Prop} (h:G:=by
  rw [ht];have h3:0≤t:=by omega
  have h4:t≤18446744073709551615:=by omega
  simp [IntKind.wrap,IntKind.signed,IntKind.bits];omega) :G:=h
theorem Zap {G:Prop} (h:G:=by
  rcases hO.2 with ⟨_,h0⟩ | ⟨g,Bp,cur,h1,_⟩
  ·omega
  ·injection h1 with h1 _ _;exact ⟨g,h1⟩) :G:=h
theorem ZaQ {G:Prop} (h:G:=by
  go_enter Tryz.func327,Tryz.ntmps327;go_wp2;go_ret2;exact ⟨rfl,rfl⟩) :G:=h
section
open Go Go.RowKit Go.Deep
theorem nx (w:Zc)(A B:Obj)(cs:Array Zo)(t:TypeId) :Zy (((w.alloc A).alloc B).alloc (.cells cs t)) (w.heap.size+2) t cs:=by
 have:=Zw ((w.alloc A).alloc B) t cs;simpa using this
theorem Ea (w:Zc)(A:Obj)(cs:Array Zo)(t:TypeId) :Zy ((w.alloc A).alloc (.cells cs t)) (w.heap.size+1) t cs:=by
 have:=Zw (w.alloc A) t cs;simpa using this
def dD (w W:Zc)(s d:Yd)(c:Nat→Int) :Prop:=
 Zy W w.heap.size 63 (Zd s)∧Zy W (w.heap.size+1) 63 (Zd d)∧Zy W (w.heap.size+2) 24 (Zk c)∧Zt w.heap.size w W
section
variable {w W W':Zc} {s d:Yd} {c:Nat→Int}
theorem dD.new (w:Zc)(s d:Yd)(c:Nat→Int) :dD w (((w.alloc (.cells (Zd s) 63)).alloc (.cells (Zd d) 63)).alloc (.cells (Zk c) 24)) s d c:=
 ⟨YF (YF (Zw w _ _) _) _,YF (Ea w _ _ _) _,nx w _ _ _ _,(((Zr _ _).alloc (Zg _) _).alloc ZO _).alloc (by simp <;> omega) _⟩
theorem dD.next (h:dD w W s d c)(hb:Zt W.heap.size W W') :dD w W' s d c:=
 ⟨h.1.below hb h.1.lt,h.2.1.below hb h.2.1.lt,h.2.2.1.below hb h.2.2.1.lt,h.2.2.2.trans (hb.mono h.2.2.2.size)⟩
theorem dD.drewN (h:dD w W s d c)(n:Nat) :dD w (W.drewN n) s d c:=⟨h.1,h.2.1,h.2.2.1,below_drewN h.2.2.2 n⟩
theorem dD.cells (h:dD w W s d c) :W.cell? ⟨w.heap.size,0,none⟩=some (.int .u64 s.bal)∧W.cell? ⟨w.heap.size,1,none⟩=some (.int .i64 s.st)∧W.cell? ⟨w.heap.size,2,none⟩=some (.bool s.sl)∧
  W.cell? ⟨w.heap.size+1,0,none⟩=some (.int .u64 d.bal)∧W.cell? ⟨w.heap.size+1,1,none⟩=some (.int .i64 d.st)∧W.cell? ⟨w.heap.size+1,2,none⟩=some (.bool d.sl)∧W.cell? ⟨w.heap.size+2,6,none⟩=some (.int .u64 (c 6))∧W.cell? ⟨w.heap.size+2,17,none⟩=some (.int .i64 (c 17)):=
 ⟨h.1.cell 0,h.1.cell 1,h.1.cell 2,h.2.1.cell 0,h.2.1.cell 1,h.2.1.cell 2,h.2.2.1.cell 6,h.2.2.1.cell 17⟩
end
theorem qI (s d:Yd)(c:Nat→Int)(w:Zc) :
  Zi Zb 284 #[.agg (Zd s),.agg (Zd d),.agg (Zk c)] w fun e w'=>e= .returned (.bool (Mo s d))∧Zt w.heap.size w w':=by
 have T:=dD.new w s d c;obtain ⟨-,x1,-,-,x2,-,-,-⟩:=T.cells;have HT:=Za T;clear T
 by_cases hs:s.st=2
 ·have qs:(s.st != 2)=false:=by simpa using hs
  by_cases hd:d.st=2
  ·have qd:(d.st != 2)=false:=by simpa using hd
   have H:Hid (Mo s d=false):=Za (by simp [Mo,hs,hd]);exact Zgp
  ·have qd:(d.st != 2)=true:=by simpa using hd
   have H:Hid (Mo s d=true):=Za (by simp [Mo,hs,hd]);exact Zgp
 ·have qs:(s.st != 2)=true:=by simpa using hs
  have H:Hid (Mo s d=true):=Za (by simp [Mo,hs]);clear hs;go_enter Tryz.func284,Tryz.ntmps284;go_upto_region 1 with (fail);generalize ((w.alloc (.cells (Zd s) 63)).alloc (.cells (Zd d) 63)).alloc (.cells (Zk c) 24)=W at*;go_wp2;go_ret;exact ⟨JR H.out.symm,HT.out.2.2.2⟩
theorem cZ (s d:Yd)(c:Nat→Int)(w:Zc) :
  Zi Zb 285 #[.agg (Zd s),.agg (Zd d),.agg (Zk c)] w fun e w'=>e= .returned (.bool (Lm s d))∧Zt w.heap.size w w':=by
 have T:=dD.new w s d c;obtain ⟨-,-,x1,-,-,x2,-,-⟩:=T.cells;have HT:=Za T;clear T
 cases hs:s.sl with
 | true=>
  rw [hs] at x1;have H:Hid (Lm s d=true):=Za (by simp [Lm,hs]);clear hs;go_enter Tryz.func285,Tryz.ntmps285;go_upto_region 1 with (fail);generalize ((w.alloc (.cells (Zd s) 63)).alloc (.cells (Zd d) 63)).alloc (.cells (Zk c) 24)=W at*;go_wp2;go_ret;exact ⟨JR H.out.symm,HT.out.2.2.2⟩
 | false=>
  rw [hs] at x1;have H:Hid (Lm s d=d.sl):=Za (by simp [Lm,hs]);clear hs;go_enter Tryz.func285,Tryz.ntmps285;go_upto_region 1 with (fail);generalize ((w.alloc (.cells (Zd s) 63)).alloc (.cells (Zd d) 63)).alloc (.cells (Zk c) 24)=W at*;go_wp2;go_ret;exact ⟨JR H.out.symm,HT.out.2.2.2⟩
theorem IB (x y:Int) :XT [x,y] 2=x+y:=by simp [XT]
theorem nz {x y:Int}(hx:0≤x∧x≤18446744073709551615)(hy:0≤y∧y≤18446744073709551615) : ∀i,0≤ [x,y].getD i 0∧[x,y].getD i 0≤18446744073709551615
 | 0=>hx
 | 1=>hy
 | i+2=>by simp
theorem Ws (s d:Yd)(c:Nat→Int)(w:Zc)(hs:Yq s)(hd:Yq d) :
  Zi Zb 286 #[.agg (Zd s),.agg (Zd d),.agg (Zk c)] w fun e w'=>e= .returned (.bool (Mq s d (c 6)))∧Zt w.heap.size w w':=by
 have T:=dD.new w s d c;obtain ⟨x1,-,-,x2,-,-,x3,-⟩:=T.cells;have HT:=Za T;have HA:=Za (fun (b:Nat) (w:Zc) (h0:w.cell? ⟨b,0,none⟩=some (.int .u64 s.bal)) (h1:w.cell? ⟨b,1,none⟩=some (.int .u64 d.bal))=>Fk b 0 2 2 [s.bal,d.bal] w Zp (fun i hi=>by
  have:i=0∨i=1:=by omega
  rcases this with rfl | rfl
  ·exact h0
  ·exact h1) (nz hs.bal hd.bal))
 clear T
 by_cases h1:s.bal+d.bal≤18446744073709551615
 ·have e:=Fl (z:= [s.bal,d.bal]) (n:=2) (by rw [IB]; exact h1);rw [IB] at e;rw [e.1,e.2] at HA;obtain ⟨t,ht⟩ : ∃t,s.bal+d.bal=t:=⟨_,rfl⟩;rw [ht] at HA
  by_cases h2:c 6 < t
  ·have H:Hid (Mq s d (c 6)=true):=Za (by simp [Mq,ht]; omega);have q2:decide (c 6 < t)=true:=by simpa using h2
   exact Zf6
  ·have H:Hid (Mq s d (c 6)=false):=Za (by simp [Mq,ht]; omega);have q2:decide (c 6 < t)=false:=by simpa using h2
   exact Zf6
 ·have e:=Nd (z:= [s.bal,d.bal]) (n:=2) (by rw [IB]; exact h1);rw [e.1,e.2] at HA;have H:Hid (Mq s d (c 6)=true):=Za (by simp [Mq]; omega);clear hs hd h1 e;go_enter Tryz.func286,Tryz.ntmps286;go_upto_region 1 with (fail);generalize ((w.alloc (.cells (Zd s) 63)).alloc (.cells (Zd d) 63)).alloc (.cells (Zk c) 24)=W at*;go_wp2_with fail;refine (HA.out _ _ ((Zw W _ _).cell 0) ((Zw W _ _).cell 1)).mono ?_;rintro e w1 ⟨rfl,rfl⟩;have T2:=Za (HT.out.next ((Zr _ W).alloc (Zg _) (.cells #[.int .u64 s.bal,.int .u64 d.bal] 22)));clear x1 x2 x3 HT HA;generalize W.alloc (.cells #[.int .u64 s.bal,.int .u64 d.bal] 22)=W2 at*;obtain ⟨-,-,-,-,-,-,x3,-⟩:=T2.out.cells;go_wp2_with fail;go_ret;exact ⟨JR H.out.symm,T2.out.2.2.2⟩
end
section
open Go Go.RowKit Go.Deep
def BF:Array Zo:= #[.func (.func 284) #[] #[],.int .i64 8,.func (.func 285) #[] #[],.int .i64 9,.func (.func 286) #[] #[],.int .i64 3]
theorem zT:(Tryz.prog.info? 319).map (·.size)=some 6:=by kernel_rfl
theorem Nw:(Tryz.prog.info? 318).map (·.size)=some 2:=by kernel_rfl
theorem Ft (w:Zc) :Zi Zb 252 #[] w fun e w'=>e= .returned (.agg BF)∧Zt w.heap.size w w':=by
 go_enter Tryz.func252,Tryz.ntmps252;go_wp2_with (first | (refine wpList_build rfl 318 _ rfl Yi ?_) | (refine wpList_build rfl 319 _ rfl Yi ?_; rw [show (Tryz.prog.built 319 _).getD #[]=BF from by kernel_rfl]) | (refine Zm rfl _ _ _ rfl w.heap.size BF rfl rfl 319 _ (ZD w _) zT rfl Yi ?_; rw [Zu]));exact ZL (v:= .agg BF) (ZU (fn:=Tryz.f252) rfl _ _ w.heap.size 319 BF (0,0) _ rfl (ZD w _) Tryz.underlying319 rfl zT) rfl ⟨rfl,(Zr _ _).alloc (Zg _) _⟩
theorem Zcj (w:Zc) :(Xi 319 (.agg BF) (.int .i64 0)).run Zb w= .ok (.agg #[.func (.func 284) #[] #[],.int .i64 8]) w:=by kernel_rfl
theorem Zck (w:Zc) :(Xi 319 (.agg BF) (.int .i64 1)).run Zb w= .ok (.agg #[.func (.func 285) #[] #[],.int .i64 9]) w:=by kernel_rfl
theorem Zcl (w:Zc) :(Xi 319 (.agg BF) (.int .i64 2)).run Zb w= .ok (.agg #[.func (.func 286) #[] #[],.int .i64 3]) w:=by kernel_rfl
theorem Nk (s d:Yd)(c:Nat→Int)(w:Zc)(hs:Yq s)(hd:Yq d) :
  Zi Zb 199 #[.agg (Zd s),.agg (Zd d),.agg (Zk c)] w fun e w'=>e= .returned (.int .i64 (DQ s d (c 6)))∧Zt w.heap.size w w':=by
 have T:=dD.new w s d c;have HT:=Za T;have H1:=Za (qI s d c);have H2:=Za (cZ s d c);have H3:=Za (fun w=>Ws s d c w hs hd);have i0:=Zcj;have i1:=Zck;have i2:=Zcl;clear T hs hd
 cases h1:Mo s d with
 | true=>
  have E:Hid (DQ s d (c 6)=8):=Za (by simp [DQ,h1]);rw [h1] at H1;clear h1 H2 H3;go_enter Tryz.func199,Tryz.ntmps199;go_upto_region 1 with (fail);generalize ((w.alloc (.cells (Zd s) 63)).alloc (.cells (Zd d) 63)).alloc (.cells (Zk c) 24)=W at*;go_wp2_with fail;refine (Ft _).mono ?_;rintro e w1 ⟨rfl,b1⟩;have T1:=Za (HT.out.next b1);clear b1 HT;go_wp2_with fail;refine Qz 1 ?_;rw [Y2];have A0:=Za (T1.out.next ((Zr _ w1).alloc (Zg _) (.cells #[.func (.func 284) #[] #[],.int .i64 8] 318)));clear T1;go_wp2_with (first | (refine Zm rfl _ _ _ rfl w1.heap.size #[.func (.func 284) #[] #[],.int .i64 8] rfl rfl 318 _ (ZD w1 _) Nw rfl Yi ?_; rw [Zu]) | (refine Zn rfl 63 _ rfl w.heap.size rfl 63 _ (0,0) _ A0.out.1 Zs rfl Yo ?_) | (refine Zn rfl 63 _ rfl (w.heap.size+1) rfl 63 _ (0,0) _ A0.out.2.1 Zs rfl Yo ?_) | (refine Zn rfl 24 _ rfl (w.heap.size+2) rfl 24 _ (0,0) _ A0.out.2.2.1 ZC rfl Xn ?_));refine (H1.out _).mono ?_;rintro e v0 ⟨rfl,b0⟩;have B0:=Za (A0.out.next b0);have e0:v0.cell? ⟨w1.heap.size,1,none⟩=some (.int .i64 8):=(b0.cell (p:=⟨w1.heap.size,1,none⟩) ZO).trans ((Zw w1 _ _).cell 1);clear A0 b0;go_wp2_with fail;go_ret;exact ⟨congrArg (fun x=>XY (.int .i64 x)) E.out.symm,B0.out.2.2.2⟩
 | false=>
  rw [h1] at H1
  cases h2:Lm s d with
  | true=>
   have E:Hid (DQ s d (c 6)=9):=Za (by simp [DQ,h1,h2]);rw [h2] at H2;clear h1 h2 H3;go_enter Tryz.func199,Tryz.ntmps199;go_upto_region 1 with (fail);generalize ((w.alloc (.cells (Zd s) 63)).alloc (.cells (Zd d) 63)).alloc (.cells (Zk c) 24)=W at*;go_wp2_with fail;refine (Ft _).mono ?_;rintro e w1 ⟨rfl,b1⟩;have T1:=Za (HT.out.next b1);clear b1 HT;go_wp2_with fail;refine Qz 2 ?_;rw [Y2];have A0:=Za (T1.out.next ((Zr _ w1).alloc (Zg _) (.cells #[.func (.func 284) #[] #[],.int .i64 8] 318)));clear T1;go_wp2_with (first | (refine Zm rfl _ _ _ rfl w1.heap.size #[.func (.func 284) #[] #[],.int .i64 8] rfl rfl 318 _ (ZD w1 _) Nw rfl Yi ?_; rw [Zu]) | (refine Zn rfl 63 _ rfl w.heap.size rfl 63 _ (0,0) _ A0.out.1 Zs rfl Yo ?_) | (refine Zn rfl 63 _ rfl (w.heap.size+1) rfl 63 _ (0,0) _ A0.out.2.1 Zs rfl Yo ?_) | (refine Zn rfl 24 _ rfl (w.heap.size+2) rfl 24 _ (0,0) _ A0.out.2.2.1 ZC rfl Xn ?_));refine (H1.out _).mono ?_;rintro e v0 ⟨rfl,b0⟩;have B0:=Za (A0.out.next b0);have e0:v0.cell? ⟨w1.heap.size,1,none⟩=some (.int .i64 8):=(b0.cell (p:=⟨w1.heap.size,1,none⟩) ZO).trans ((Zw w1 _ _).cell 1);clear A0 b0;go_wp2_with fail;rw [Y2];have A1:=Za (B0.out.next ((Zr _ v0).alloc (Zg _) (.cells #[.func (.func 285) #[] #[],.int .i64 9] 318)));clear B0;go_wp2_with (first | (refine Zm rfl _ _ _ rfl v0.heap.size #[.func (.func 285) #[] #[],.int .i64 9] rfl rfl 318 _ (ZD v0 _) Nw rfl Yi ?_; rw [Zu]) | (refine Zn rfl 63 _ rfl w.heap.size rfl 63 _ (0,0) _ A1.out.1 Zs rfl Yo ?_) | (refine Zn rfl 63 _ rfl (w.heap.size+1) rfl 63 _ (0,0) _ A1.out.2.1 Zs rfl Yo ?_) | (refine Zn rfl 24 _ rfl (w.heap.size+2) rfl 24 _ (0,0) _ A1.out.2.2.1 ZC rfl Xn ?_));refine (H2.out _).mono ?_;rintro e v1 ⟨rfl,b1⟩;have B1:=Za (A1.out.next b1);have e1:v1.cell? ⟨v0.heap.size,1,none⟩=some (.int .i64 9):=(b1.cell (p:=⟨v0.heap.size,1,none⟩) ZO).trans ((Zw v0 _ _).cell 1);clear A1 b1;go_wp2_with fail;go_ret;exact ⟨congrArg (fun x=>XY (.int .i64 x)) E.out.symm,B1.out.2.2.2⟩
  | false=>
   rw [h2] at H2
   cases h3:Mq s d (c 6) with
   | true=>
    have E:Hid (DQ s d (c 6)=3):=Za (by simp [DQ,h1,h2,h3]);rw [h3] at H3;clear h1 h2 h3;go_enter Tryz.func199,Tryz.ntmps199;go_upto_region 1 with (fail);generalize ((w.alloc (.cells (Zd s) 63)).alloc (.cells (Zd d) 63)).alloc (.cells (Zk c) 24)=W at*;go_wp2_with fail;refine (Ft _).mono ?_;rintro e w1 ⟨rfl,b1⟩;have T1:=Za (HT.out.next b1);clear b1 HT;go_wp2_with fail;refine Qz 3 ?_;rw [Y2];have A0:=Za (T1.out.next ((Zr _ w1).alloc (Zg _) (.cells #[.func (.func 284) #[] #[],.int .i64 8] 318)));clear T1;go_wp2_with (first | (refine Zm rfl _ _ _ rfl w1.heap.size #[.func (.func 284) #[] #[],.int .i64 8] rfl rfl 318 _ (ZD w1 _) Nw rfl Yi ?_; rw [Zu]) | (refine Zn rfl 63 _ rfl w.heap.size rfl 63 _ (0,0) _ A0.out.1 Zs rfl Yo ?_) | (refine Zn rfl 63 _ rfl (w.heap.size+1) rfl 63 _ (0,0) _ A0.out.2.1 Zs rfl Yo ?_) | (refine Zn rfl 24 _ rfl (w.heap.size+2) rfl 24 _ (0,0) _ A0.out.2.2.1 ZC rfl Xn ?_));refine (H1.out _).mono ?_;rintro e v0 ⟨rfl,b0⟩;have B0:=Za (A0.out.next b0);have e0:v0.cell? ⟨w1.heap.size,1,none⟩=some (.int .i64 8):=(b0.cell (p:=⟨w1.heap.size,1,none⟩) ZO).trans ((Zw w1 _ _).cell 1);clear A0 b0;go_wp2_with fail;rw [Y2];have A1:=Za (B0.out.next ((Zr _ v0).alloc (Zg _) (.cells #[.func (.func 285) #[] #[],.int .i64 9] 318)));clear B0;go_wp2_with (first | (refine Zm rfl _ _ _ rfl v0.heap.size #[.func (.func 285) #[] #[],.int .i64 9] rfl rfl 318 _ (ZD v0 _) Nw rfl Yi ?_; rw [Zu]) | (refine Zn rfl 63 _ rfl w.heap.size rfl 63 _ (0,0) _ A1.out.1 Zs rfl Yo ?_) | (refine Zn rfl 63 _ rfl (w.heap.size+1) rfl 63 _ (0,0) _ A1.out.2.1 Zs rfl Yo ?_) | (refine Zn rfl 24 _ rfl (w.heap.size+2) rfl 24 _ (0,0) _ A1.out.2.2.1 ZC rfl Xn ?_));refine (H2.out _).mono ?_;rintro e v1 ⟨rfl,b1⟩;have B1:=Za (A1.out.next b1);have e1:v1.cell? ⟨v0.heap.size,1,none⟩=some (.int .i64 9):=(b1.cell (p:=⟨v0.heap.size,1,none⟩) ZO).trans ((Zw v0 _ _).cell 1);clear A1 b1;go_wp2_with fail;rw [Y2];have A2:=Za (B1.out.next ((Zr _ v1).alloc (Zg _) (.cells #[.func (.func 286) #[] #[],.int .i64 3] 318)));clear B1;go_wp2_with (first | (refine Zm rfl _ _ _ rfl v1.heap.size #[.func (.func 286) #[] #[],.int .i64 3] rfl rfl 318 _ (ZD v1 _) Nw rfl Yi ?_; rw [Zu]) | (refine Zn rfl 63 _ rfl w.heap.size rfl 63 _ (0,0) _ A2.out.1 Zs rfl Yo ?_) | (refine Zn rfl 63 _ rfl (w.heap.size+1) rfl 63 _ (0,0) _ A2.out.2.1 Zs rfl Yo ?_) | (refine Zn rfl 24 _ rfl (w.heap.size+2) rfl 24 _ (0,0) _ A2.out.2.2.1 ZC rfl Xn ?_));refine (H3.out _).mono ?_;rintro e v2 ⟨rfl,b2⟩;have B2:=Za (A2.out.next b2);have e2:v2.cell? ⟨v1.heap.size,1,none⟩=some (.int .i64 3):=(b2.cell (p:=⟨v1.heap.size,1,none⟩) ZO).trans ((Zw v1 _ _).cell 1);clear A2 b2;go_wp2_with fail;go_ret;exact ⟨congrArg (fun x=>XY (.int .i64 x)) E.out.symm,B2.out.2.2.2⟩
   | false=>
    have E:Hid (DQ s d (c 6)=0):=Za (by simp [DQ,h1,h2,h3]);rw [h3] at H3;clear h1 h2 h3;go_enter Tryz.func199,Tryz.ntmps199;go_upto_region 1 with (fail);generalize ((w.alloc (.cells (Zd s) 63)).alloc (.cells (Zd d) 63)).alloc (.cells (Zk c) 24)=W at*;go_wp2_with fail;refine (Ft _).mono ?_;rintro e w1 ⟨rfl,b1⟩;have T1:=Za (HT.out.next b1);clear b1 HT;go_wp2_with fail;refine Qz 4 ?_;rw [Y2];have A0:=Za (T1.out.next ((Zr _ w1).alloc (Zg _) (.cells #[.func (.func 284) #[] #[],.int .i64 8] 318)));clear T1;go_wp2_with (first | (refine Zm rfl _ _ _ rfl w1.heap.size #[.func (.func 284) #[] #[],.int .i64 8] rfl rfl 318 _ (ZD w1 _) Nw rfl Yi ?_; rw [Zu]) | (refine Zn rfl 63 _ rfl w.heap.size rfl 63 _ (0,0) _ A0.out.1 Zs rfl Yo ?_) | (refine Zn rfl 63 _ rfl (w.heap.size+1) rfl 63 _ (0,0) _ A0.out.2.1 Zs rfl Yo ?_) | (refine Zn rfl 24 _ rfl (w.heap.size+2) rfl 24 _ (0,0) _ A0.out.2.2.1 ZC rfl Xn ?_));refine (H1.out _).mono ?_;rintro e v0 ⟨rfl,b0⟩;have B0:=Za (A0.out.next b0);have e0:v0.cell? ⟨w1.heap.size,1,none⟩=some (.int .i64 8):=(b0.cell (p:=⟨w1.heap.size,1,none⟩) ZO).trans ((Zw w1 _ _).cell 1);clear A0 b0;go_wp2_with fail;rw [Y2];have A1:=Za (B0.out.next ((Zr _ v0).alloc (Zg _) (.cells #[.func (.func 285) #[] #[],.int .i64 9] 318)));clear B0;go_wp2_with (first | (refine Zm rfl _ _ _ rfl v0.heap.size #[.func (.func 285) #[] #[],.int .i64 9] rfl rfl 318 _ (ZD v0 _) Nw rfl Yi ?_; rw [Zu]) | (refine Zn rfl 63 _ rfl w.heap.size rfl 63 _ (0,0) _ A1.out.1 Zs rfl Yo ?_) | (refine Zn rfl 63 _ rfl (w.heap.size+1) rfl 63 _ (0,0) _ A1.out.2.1 Zs rfl Yo ?_) | (refine Zn rfl 24 _ rfl (w.heap.size+2) rfl 24 _ (0,0) _ A1.out.2.2.1 ZC rfl Xn ?_));refine (H2.out _).mono ?_;rintro e v1 ⟨rfl,b1⟩;have B1:=Za (A1.out.next b1);have e1:v1.cell? ⟨v0.heap.size,1,none⟩=some (.int .i64 9):=(b1.cell (p:=⟨v0.heap.size,1,none⟩) ZO).trans ((Zw v0 _ _).cell 1);clear A1 b1;go_wp2_with fail;rw [Y2];have A2:=Za (B1.out.next ((Zr _ v1).alloc (Zg _) (.cells #[.func (.func 286) #[] #[],.int .i64 3] 318)));clear B1;go_wp2_with (first | (refine Zm rfl _ _ _ rfl v1.heap.size #[.func (.func 286) #[] #[],.int .i64 3] rfl rfl 318 _ (ZD v1 _) Nw rfl Yi ?_; rw [Zu]) | (refine Zn rfl 63 _ rfl w.heap.size rfl 63 _ (0,0) _ A2.out.1 Zs rfl Yo ?_) | (refine Zn rfl 63 _ rfl (w.heap.size+1) rfl 63 _ (0,0) _ A2.out.2.1 Zs rfl Yo ?_) | (refine Zn rfl 24 _ rfl (w.heap.size+2) rfl 24 _ (0,0) _ A2.out.2.2.1 ZC rfl Xn ?_));refine (H3.out _).mono ?_;rintro e v2 ⟨rfl,b2⟩;have B2:=Za (A2.out.next b2);have e2:v2.cell? ⟨v1.heap.size,1,none⟩=some (.int .i64 3):=(b2.cell (p:=⟨v1.heap.size,1,none⟩) ZO).trans ((Zw v1 _ _).cell 1);clear A2 b2;go_wp2_with fail;rw [Y2];go_wp2_with fail;go_ret;exact ⟨congrArg (fun x=>XY (.int .i64 x)) E.out.symm,B2.out.2.2.2⟩
end
section
open Go Go.RowKit Go.Deep
theorem MV (w:Zc)(A:Obj)(cs:Array Zo)(t:TypeId) :Zy ((w.alloc A).alloc (.cells cs t)) (w.heap.size+1) t cs:=by
 have:=Zw (w.alloc A) t cs;simpa using this
theorem OL:(#[.int .i64 0,.int .u64 0] :Array Zo)=ZG L8:=rfl
theorem Om (w:Zc)(A B:Obj) :Zt w.heap.size w ((w.alloc A).alloc B):=((Zr _ _).alloc (Zg _) _).alloc ZO _
theorem OF (r:Rq)(x:Int)(w:Zc) :
  Zi Zb 253 #[.agg (ZG r),.int .u64 x] w fun e w'=>e= .returned (.agg (ZG ⟨r.ix,x⟩))∧Zt w.heap.size w w':=by
 have HB:Hid (Zy ((w.alloc (.cells (ZG r) 75)).alloc (.cells (ZG L8) 75)) w.heap.size 75 (ZG r)∧Zy ((w.alloc (.cells (ZG r) 75)).alloc (.cells (ZG L8) 75)) (w.heap.size+1) 75 (ZG L8)):=Za ⟨(Zw w _ _).alloc _,MV w _ _ _⟩;have HL:Hid (Zt w.heap.size w ((w.alloc (.cells (ZG r) 75)).alloc (.cells (ZG L8) 75))):=Za (Om _ _ _);go_enter Tryz.func253,Tryz.ntmps253;go_upto_region 1 with (fail);simp only [OL];generalize (w.alloc (.cells (ZG r) 75)).alloc (.cells (ZG L8) 75)=W at*;have x0:W.cell? ⟨w.heap.size,0,none⟩=some (.int .i64 r.ix):=HB.out.1.cell 0;go_wp2_with (first | (refine PX rfl 75 _ rfl ⟨r.ix,x⟩ Yi ?_) | (refine Zm rfl _ _ _ rfl (w.heap.size+1) (ZG ⟨r.ix,x⟩) rfl rfl 75 _ HB.out.2 Qy rfl (Kn _) ?_));exact ZL (v:= .agg (ZG ⟨r.ix,x⟩)) (ZU (fn:=Tryz.f253) rfl _ _ (w.heap.size+1) 75 (ZG ⟨r.ix,x⟩) (0,0) _ rfl (Yc _ _ _ _ _ _ HB.out.2) Ye rfl Qy) rfl ⟨rfl,Xx HL.out Zp _⟩
theorem Ev (r:Rq)(n:Nat)(w:Zc) :
  Zi Zb 203 #[.agg (ZG r),.int .i64 n] w fun e w'=>e= .returned (.bool (Ur r n))∧Zt w.heap.size w w':=by
 have HB:Hid (Zy (w.alloc (.cells (ZG r) 75)) w.heap.size 75 (ZG r)∧Zt w.heap.size w (w.alloc (.cells (ZG r) 75))):=Za ⟨Zw w _ _,(Zr _ _).alloc (Zg _) _⟩;have hx:Hid ((decide (0≤r.ix)&&decide (r.ix < (n:Int)))=Ur r n):=Za (by rw [Ur,Bool.decide_and])
 by_cases h1:0≤r.ix
 ·have d1:decide (0≤r.ix)=true:=decide_eq_true h1;obtain ⟨b,hb⟩ : ∃b,decide (r.ix < (n:Int))=b:=⟨_,rfl⟩;have E:Hid (Ur r n=b):=Za (by rw [←hx.out,d1,hb,Bool.true_and]);exact Zgm
 ·have d1:decide (0≤r.ix)=false:=decide_eq_false h1;have E:Hid (Ur r n=false):=Za (by rw [←hx.out,d1,Bool.false_and]);exact Zgm
theorem Ae (r:Rq)(w:Zc) :
  Zi Zb 204 #[.agg (ZG r)] w fun e w'=>e= .returned (.bool (decide (r.am=0)))∧Zt w.heap.size w w':=by
 have HK:Hid (Vx w.heap.size w.heap.size 75 (ZG r) w (w.alloc (.cells (ZG r) 75))):=Za (Vx.new (Zr _ _) (Zg _));have E:Hid (decide (r=(⟨r.ix,0⟩ :Rq))=decide (r.am=0)):=Za (by
  obtain ⟨i,a⟩:=r;simp)
 obtain ⟨b,hb⟩ : ∃b,decide (r.am=0)=b:=⟨_,rfl⟩;rw [hb] at E ⊢;clear hb;go_enter Tryz.func204,Tryz.ntmps204;go_upto_region 1 with (fail);generalize w.alloc (.cells (ZG r) 75)=W at*;refine XO (Vx w.heap.size w.heap.size 75 (ZG r) w) Yi Yi HK.out.drew ?_;refine Qg 75 _ w.heap.size 75 (ZG r) _ rfl rfl rfl (fun w' h=>h.1) Ye rfl Qy ?_;simp only [qB];refine Qg 75 _ w.heap.size 75 (ZG r) _ rfl rfl rfl (fun w' h=>h.1) Ye rfl Qy ?_;simp only [qB];refine OH (.agg (ZG ⟨r.ix,0⟩)) #[.agg (ZG r),.int .u64 0] Yi Yi Tryz.call253 (fun w' h=>h.call (OF r 0 w')) ?_;simp only [qB];refine ZcQ r ⟨r.ix,0⟩ b rfl rfl rfl E.out ?_;simp only [qB];iterate 1 (go_big_quiet_step ((intros; rfl)))
 refine Zj ?_;intro w1 k1;go_wp2;go_ret;exact ⟨rfl,k1.2.1⟩
theorem Cz (S:Nat→Prop)(a:Option Addr)(cp:Nat)(l:List Yd)(r:Rq)(w:Zc)(h:Dj w S a l) :
  Zi Zb 132 #[.slice a l.length cp,.agg (ZG r)] w fun e w'=>e= .returned (.int .i64 (My l r))∧Zt w.heap.size w w':=by
 have HK:Hid (Vx w.heap.size w.heap.size 75 (ZG r) w (w.alloc (.cells (ZG r) 75))):=Za (Vx.new (Zr _ _) (Zg _));have HW:=Za (fun w=>Ev r l.length w);have HE:=Za (fun w=>Ae r w);have HL:=Za h;obtain ⟨n,hn⟩ : ∃n,l.length=n:=⟨_,rfl⟩;rw [hn] at HW ⊢;clear h
 cases hb:Ur r n with
 | false=>
  have E:Hid (My l r=7):=Za (by rw [My,hn,hb]; rfl);rw [hb] at HW;clear hb hn HL;go_enter Tryz.func132,Tryz.ntmps132;go_upto_region 1 with (fail);generalize w.alloc (.cells (ZG r) 75)=W at*;go_wp2_with (first | (refine Zn rfl 75 _ rfl w.heap.size rfl 75 _ (0,0) _ HK.out.1 Ye rfl Qy ?_));refine (HK.out.call (HW.out _)).mono ?_;rintro e w1 ⟨rfl,k1⟩;have K1:=Za k1;clear k1 HK;go_wp2;go_ret;exact ⟨congrArg (fun x=>XY (.int .i64 x)) E.out.symm,K1.out.2.1⟩
 | true=>
  rw [hb] at HW
  by_cases h0:r.am=0
  ·have E:Hid (My l r=3):=Za (by rw [My,hn,hb,if_neg ZO,if_pos h0]);rw [decide_eq_true h0] at HE;clear hb hn HL h0;go_enter Tryz.func132,Tryz.ntmps132;go_upto_region 1 with (fail);generalize w.alloc (.cells (ZG r) 75)=W at*;go_wp2_with (first | (refine Zn rfl 75 _ rfl w.heap.size rfl 75 _ (0,0) _ HK.out.1 Ye rfl Qy ?_));refine (HK.out.call (HW.out _)).mono ?_;rintro e w1 ⟨rfl,k1⟩;have K1:=Za k1;clear k1 HK;go_wp2_with (first | (refine Zn rfl 75 _ rfl w.heap.size rfl 75 _ (0,0) _ K1.out.1 Ye rfl Qy ?_));refine (K1.out.call (HE.out _)).mono ?_;rintro e w2 ⟨rfl,k2⟩;have K2:=Za k2;clear k2 K1;go_wp2;go_ret;exact ⟨congrArg (fun x=>XY (.int .i64 x)) E.out.symm,K2.out.2.1⟩
  ·rw [decide_eq_false h0] at HE;obtain ⟨i,v,hi,hv⟩:=bD (l:=l) (r:=r) (by rw [hn]; exact hb);have EB:=(Zh.1 hv).1;have HV:=Za hv;have HX:=Za hi;have k1: ¬(i:Int)< 0:=by omega
   have k2: ¬(n:Int)≤(i:Int):=by omega
   have k3:(i:Int)< (n:Int):=by omega
   have E0:My l r=if v.st≠2 then 8 else 0:=by rw [My,hn,hb,if_neg ZO,if_neg h0,hi,Int.toNat_natCast,Vg hv]
   by_cases hs:v.st=2
   ·have E:Hid (My l r=0):=Za (by rw [E0,if_neg (by simp [hs])]);have ds:(v.st != 2)=false:=by simp [hs]
    clear hb hn h0 hi hv E0 hs;go_enter Tryz.func132,Tryz.ntmps132;go_upto_region 1 with (fail);generalize w.alloc (.cells (ZG r) 75)=W at*;go_wp2_with (first | (refine Zn rfl 75 _ rfl w.heap.size rfl 75 _ (0,0) _ HK.out.1 Ye rfl Qy ?_));refine (HK.out.call (HW.out _)).mono ?_;rintro e w1 ⟨rfl,k1'⟩;have K1:=Za k1';clear k1' HK;go_wp2_with (first | (refine Zn rfl 75 _ rfl w.heap.size rfl 75 _ (0,0) _ K1.out.1 Ye rfl Qy ?_));refine (K1.out.call (HE.out _)).mono ?_;rintro e w2 ⟨rfl,k2'⟩;have K2:=Za k2';clear k2' K1;obtain ⟨b,off,rfl,hr⟩:=(HL.out.below K2.out.2.1).at HV.out;have x1:w2.cell? ⟨b,off+i*7+1,none⟩=some (.int .i64 v.st):=hr 1 _ rfl;have x0:w2.cell? ⟨w.heap.size,0,none⟩=some (.int .i64 (i:Int)):=(K2.out.1.cell 0).trans Rv;clear hr;go_wp2;go_ret;exact ⟨congrArg (fun x=>XY (.int .i64 x)) E.out.symm,K2.out.2.1⟩
   ·have E:Hid (My l r=8):=Za (by rw [E0,if_pos N6]);have ds:(v.st != 2)=true:=by simpa using hs
    clear hb hn h0 hi hv E0 hs;go_enter Tryz.func132,Tryz.ntmps132;go_upto_region 1 with (fail);generalize w.alloc (.cells (ZG r) 75)=W at*;go_wp2_with (first | (refine Zn rfl 75 _ rfl w.heap.size rfl 75 _ (0,0) _ HK.out.1 Ye rfl Qy ?_));refine (HK.out.call (HW.out _)).mono ?_;rintro e w1 ⟨rfl,k1'⟩;have K1:=Za k1';clear k1' HK;go_wp2_with (first | (refine Zn rfl 75 _ rfl w.heap.size rfl 75 _ (0,0) _ K1.out.1 Ye rfl Qy ?_));refine (K1.out.call (HE.out _)).mono ?_;rintro e w2 ⟨rfl,k2'⟩;have K2:=Za k2';clear k2' K1;obtain ⟨b,off,rfl,hr⟩:=(HL.out.below K2.out.2.1).at HV.out;have x1:w2.cell? ⟨b,off+i*7+1,none⟩=some (.int .i64 v.st):=hr 1 _ rfl;have x0:w2.cell? ⟨w.heap.size,0,none⟩=some (.int .i64 (i:Int)):=(K2.out.1.cell 0).trans Rv;clear hr;go_wp2;go_ret;exact ⟨congrArg (fun x=>XY (.int .i64 x)) E.out.symm,K2.out.2.1⟩
end
section
open Go Go.RowKit Go.Deep
theorem pP (a b:Int)(w:Zc)(h:b≤a)(h0:0≤b)(h1:a≤18446744073709551615) :Zi Zb 327 #[.int .u64 a,.int .u64 b] w fun e w'=>e= .returned (.tuple #[.int .u64 (a - b),.bool true])∧w=w':=by
 have hw:IntKind.u64.wrap (a - b)=a - b:=by simp [IntKind.wrap,IntKind.signed,IntKind.bits]; omega
 have d:decide (a < b)=false:=decide_eq_false Zp;clear h h0 h1;exact ZaQ
theorem vK (a b:Int)(w:Zc)(h:a < b) :Zi Zb 327 #[.int .u64 a,.int .u64 b] w fun e w'=>e= .returned (.tuple #[.int .u64 0,.bool false])∧w=w':=by
 have d:decide (a < b)=true:=decide_eq_true h;clear h;exact ZaQ
def VC (w W:Zc)(v:Yd)(c:Nat→Int) :Prop:=Zy W w.heap.size 63 (Zd v)∧Zy W (w.heap.size+1) 24 (Zk c)∧Zt w.heap.size w W
theorem VC.new (w:Zc)(v:Yd)(c:Nat→Int) :VC w ((w.alloc (.cells (Zd v) 63)).alloc (.cells (Zk c) 24)) v c:=⟨(Zw w _ _).alloc _,MV w _ _ _,Om _ _ _⟩
theorem VC.next {w W W':Zc}{v:Yd}{c:Nat→Int}(h:VC w W v c)(hb:Zt W.heap.size W W') :VC w W' v c:=⟨h.1.below hb h.1.lt,h.2.1.below hb h.2.1.lt,h.2.2.trans (hb.mono h.2.2.size)⟩
theorem VC.cells {w W:Zc}{v:Yd}{c:Nat→Int}(h:VC w W v c) :W.cell? ⟨w.heap.size,0,none⟩=some (.int .u64 v.bal)∧W.cell? ⟨w.heap.size,1,none⟩=some (.int .i64 v.st)∧W.cell? ⟨w.heap.size,2,none⟩=some (.bool v.sl)∧W.cell? ⟨w.heap.size+1,5,none⟩=some (.int .u64 (c 5)):=⟨h.1.cell 0,h.1.cell 1,h.1.cell 2,h.2.1.cell 5⟩
theorem kL (v:Yd)(c:Nat→Int)(w:Zc)(hv:Yq v)(hm:0≤c 5) :
  Zi Zb 319 #[.agg (Zd v),.agg (Zk c)] w fun e w'=>e= .returned (.int .u64 (Ba v (c 5)))∧Zt w.heap.size w w':=by
 have T:=Za (VC.new w v c)
 by_cases hs:v.st=2
 ·have ds:(v.st != 2)=false:=by simp [hs]
  cases hl:v.sl with
  | true=>
   have E:Hid (Ba v (c 5)=0):=Za (by rw [Ba,if_neg N6,if_pos hl]);have HL:=Za hl;clear hs hl hv hm;go_enter Tryz.func319,Tryz.ntmps319;go_upto_region 1 with (fail);generalize (w.alloc (.cells (Zd v) 63)).alloc (.cells (Zk c) 24)=W at*;obtain ⟨x0,x1,x2,x3⟩:=T.out.cells;rw [HL.out] at x2;go_wp2;go_ret;exact ⟨congrArg (fun x=>XY (.int .u64 x)) E.out.symm,T.out.2.2⟩
  | false=>
   have HL:=Za hl
   by_cases hb:c 5≤v.bal
   ·have E:Hid (Ba v (c 5)=v.bal - c 5):=Za (by rw [Ba,if_neg N6,if_neg (by simp [hl])]; split <;> omega);have HS:=Za (fun w=>pP v.bal (c 5) w hb hm hv.bal.2);clear hs hl hv hm hb;go_enter Tryz.func319,Tryz.ntmps319;go_upto_region 1 with (fail);generalize (w.alloc (.cells (Zd v) 63)).alloc (.cells (Zk c) 24)=W at*;obtain ⟨x0,x1,x2,x3⟩:=T.out.cells;rw [HL.out] at x2;go_wp2_with fail;refine (HS.out _).mono ?_;rintro e w1 ⟨rfl,rfl⟩;go_wp2;go_ret;exact ⟨congrArg (fun x=>XY (.int .u64 x)) E.out.symm,T.out.2.2⟩
   ·have E:Hid (Ba v (c 5)=0):=Za (by rw [Ba,if_neg N6,if_neg (by simp [hl]),if_neg Zp]);have HS:=Za (fun w=>vK v.bal (c 5) w Zp);clear hs hl hv hm hb;go_enter Tryz.func319,Tryz.ntmps319;go_upto_region 1 with (fail);generalize (w.alloc (.cells (Zd v) 63)).alloc (.cells (Zk c) 24)=W at*;obtain ⟨x0,x1,x2,x3⟩:=T.out.cells;rw [HL.out] at x2;go_wp2_with fail;refine (HS.out _).mono ?_;rintro e w1 ⟨rfl,rfl⟩;go_wp2;go_ret;exact ⟨congrArg (fun x=>XY (.int .u64 x)) E.out.symm,T.out.2.2⟩
 ·have ds:(v.st != 2)=true:=by simpa using hs
  have E:Hid (Ba v (c 5)=0):=Za (by rw [Ba,if_pos N6]);clear hs hv hm;go_enter Tryz.func319,Tryz.ntmps319;go_upto_region 1 with (fail);generalize (w.alloc (.cells (Zd v) 63)).alloc (.cells (Zk c) 24)=W at*;obtain ⟨x0,x1,x2,x3⟩:=T.out.cells;go_wp2;go_ret;exact ⟨congrArg (fun x=>XY (.int .u64 x)) E.out.symm,T.out.2.2⟩
theorem gX:(#[.int .u64 0,.int .i64 0,.bool false,.int .i64 0,.int .i64 0,.int .i64 0,.int .i64 0] :Array Zo)=Zd Z9:=rfl
theorem Ci (v:Yd)(x:Int)(c:Nat→Int)(w:Zc)(hv:Yq v)(hm:0≤c 5)(hx:0≤x) :
  Zi Zb 302 #[.agg (Zd v),.int .u64 x,.agg (Zk c)] w fun e w'=>e= .returned (.tuple #[.agg (Zd (Mw v x (c 5))),.int .u64 (DD v x (c 5))])∧Zt w.heap.size w w':=by
 have T:Hid (VC w (((w.alloc (.cells (Zd v) 63)).alloc (.cells (Zk c) 24)).alloc (.cells (Zd Z9) 63)) v c∧
  Zy (((w.alloc (.cells (Zd v) 63)).alloc (.cells (Zk c) 24)).alloc (.cells (Zd Z9) 63)) (w.heap.size+2) 63 (Zd Z9)):=Za ⟨(VC.new w v c).next ((Zr _ _).alloc (Zg _) _),by
   have:=Zw ((w.alloc (.cells (Zd v) 63)).alloc (.cells (Zk c) 24)) 63 (Zd Z9);simpa using this⟩
 have HA:=Za (fun w=>kL v c w hv hm);have hb:=D6 (x:=x) hv hm hx;obtain ⟨p,hp⟩ : ∃p,DD v x (c 5)=p:=⟨_,rfl⟩;obtain ⟨A,hA⟩ : ∃A,Ba v (c 5)=A:=⟨_,rfl⟩;have SE:(if A < x then A else x)=p:=by rw [←hp,DD,hA]
 have hmin2:min x A=p:=by rw [←SE]; split <;> omega
 obtain ⟨t,ht⟩ : ∃t,v.bal - p=t:=⟨_,rfl⟩;have hw:IntKind.u64.wrap (v.bal - p)=t:=by
  have:=hv.bal;rw [hp] at hb;exact ZgN
 have E:Hid (Zd (Mw v x (c 5))=(Zd v).setIfInBounds 0 (.int .u64 t)):=Za (by rw [←ht,←hp]; rfl);rw [hA] at HA;rw [hp];clear hv hm hx hb hp hA ht;go_enter Tryz.func302,Tryz.ntmps302;go_upto_region 1 with (fail);simp only [gX];generalize ((w.alloc (.cells (Zd v) 63)).alloc (.cells (Zk c) 24)).alloc (.cells (Zd Z9) 63)=W at*;go_wp2_with (first | (refine Zn rfl 63 _ rfl w.heap.size rfl 63 _ (0,0) _ T.out.1.1 Zs rfl Yo ?_) | (refine Zn rfl 24 _ rfl (w.heap.size+1) rfl 24 _ (0,0) _ T.out.1.2.1 ZC rfl Xn ?_));refine (HA.out _).mono ?_;rintro e w1 ⟨rfl,b1⟩;have T1:Hid (VC w w1 v c∧Zy w1 (w.heap.size+2) 63 (Zd Z9)):=Za ⟨T.out.1.next b1,T.out.2.below b1 T.out.2.lt⟩;clear T b1 HA;have f0:=T1.out.1.1.frozen 0;have x0:=T1.out.1.cells.1;go_upto_region 3 with (fail);have Z:Hid (Zy (w1.setCell ⟨w.heap.size,0,none⟩ (.int .u64 t)) w.heap.size 63 (Zd (Mw v x (c 5)))∧Zy (w1.setCell ⟨w.heap.size,0,none⟩ (.int .u64 t)) (w.heap.size+2) 63 (Zd Z9)∧Zt w.heap.size w (w1.setCell ⟨w.heap.size,0,none⟩ (.int .u64 t))):=by
  obtain ⟨⟨h1,h2,h3⟩,h4⟩:=T1.out;refine Za ⟨?_,h4.far ZO _,h3.setCell ZO _⟩;rw [E.out];exact h1.set_ 0 _
 generalize w1.setCell ⟨w.heap.size,0,none⟩ (.int .u64 t)=w2 at*;clear T1 x0 f0 E hw SE hmin2;go_wp2_with (first | (refine Zn rfl 63 _ rfl w.heap.size rfl 63 _ (0,0) _ Z.out.1 Zs rfl Yo ?_) | (refine Zm rfl _ _ _ rfl (w.heap.size+2) (Zd (Mw v x (c 5))) rfl rfl 63 _ Z.out.2.1 Yo rfl (Yy _) ?_));exact ZL (v:= .tuple #[.agg (Zd (Mw v x (c 5))),.int .u64 p]) (XN (fn:=Tryz.f302) rfl _ _ (w.heap.size+2) 63 (Zd (Mw v x (c 5))) (0,0) _ rfl (Yc _ _ _ _ _ _ Z.out.2.1) Zs rfl Yo) rfl ⟨rfl,Xx Z.out.2.2 Zp _⟩
end
section
open Go Go.RowKit Go.Deep
theorem WC (w:Zc) :(Instr.alloc 63 true (.tuple #[])).run Zb w= .ok (.pointer (some ⟨w.heap.size,0,none⟩)) (w.alloc (.cells (Zd Z9) 63)):=by
 obtain ⟨i,hi,hz,hs,Hu⟩:=ID;simp [Instr.alloc,sizeOf,zeroValue,typeInfo,hi,hz,hs,newRow,go_sem,Value.cells]
theorem Kk {o:Oper}{a:Act}{w:Zc}{K:Act→Zc→Prop}{Q:Exit→Act→Zc→Prop}(ho:o.op= .alloc 63)
  (h:K (a.put o.dst (.pointer (some ⟨w.heap.size,0,none⟩))) (w.alloc (.cells (Zd Z9) 63))) :o.wp Zb a w K Q:=by
 unfold Oper.wp execOp;simp only [ho,Sem.run_bind,WC w,Result.andThen_ok,Sem.run_pure];exact h
def RC (w W:Zc)(r:Rq)(c:Nat→Int) :Prop:=Zy W w.heap.size 75 (ZG r)∧Zy W (w.heap.size+1) 24 (Zk c)∧Zy W (w.heap.size+2) 75 (ZG L8)∧Zt w.heap.size w W
theorem RC.new (w:Zc)(r:Rq)(c:Nat→Int) :RC w (((w.alloc (.cells (ZG r) 75)).alloc (.cells (Zk c) 24)).alloc (.cells (ZG L8) 75)) r c:=
 ⟨((Zw w _ _).alloc _).alloc _,(MV w _ _ _).alloc _,by
  have:=Zw ((w.alloc (.cells (ZG r) 75)).alloc (.cells (Zk c) 24)) 75 (ZG L8);simpa using this,(Om _ _ _).alloc (by simp <;> omega) _⟩
theorem RC.next {w W W':Zc}{r:Rq}{c:Nat→Int}(h:RC w W r c)(hb:Zt W.heap.size W W') :RC w W' r c:=⟨h.1.below hb h.1.lt,h.2.1.below hb h.2.1.lt,h.2.2.1.below hb h.2.2.1.lt,h.2.2.2.trans (hb.mono h.2.2.2.size)⟩
theorem mA (r:Rq)(a:Option Addr)(n cp:Nat)(c:Nat→Int)(w:Zc)(h:Ur r n=false) :
  Zi Zb 268 #[.agg (ZG r),.slice a n cp,.agg (Zk c)] w fun e w'=>e= .returned (.agg (ZG ⟨r.ix,0⟩))∧Zt w.heap.size w w':=by
 have T:=Za (RC.new w r c);have HW:=Za (fun w=>Ev r n w);have HF:=Za (fun w=>OF r 0 w);rw [h] at HW;clear h;go_enter Tryz.func268,Tryz.ntmps268;go_upto_region 1 with (fail);simp only [OL];generalize ((w.alloc (.cells (ZG r) 75)).alloc (.cells (Zk c) 24)).alloc (.cells (ZG L8) 75)=W at*;go_wp2_with (first | (refine Zn rfl 75 _ rfl w.heap.size rfl 75 _ (0,0) _ T.out.1 Ye rfl Qy ?_));refine (HW.out _).mono ?_;rintro e w1 ⟨rfl,b1⟩;have T1:=Za (T.out.next b1);clear T b1 HW;go_wp2_with (first | (refine Zn rfl 75 _ rfl w.heap.size rfl 75 _ (0,0) _ T1.out.1 Ye rfl Qy ?_));refine (HF.out _).mono ?_;rintro e w2 ⟨rfl,b2⟩;have T2:=Za (T1.out.next b2);clear T1 b2 HF;go_wp2_with (first | (refine Zm rfl _ _ _ rfl (w.heap.size+2) (ZG ⟨r.ix,0⟩) rfl rfl 75 _ T2.out.2.2.1 Qy rfl (Kn _) ?_));exact ZL (v:= .agg (ZG ⟨r.ix,0⟩)) (ZU (fn:=Tryz.f268) rfl _ _ (w.heap.size+2) 75 (ZG ⟨r.ix,0⟩) (0,0) _ rfl (Yc _ _ _ _ _ _ T2.out.2.2.1) Ye rfl Qy) rfl ⟨rfl,Xx T2.out.2.2.2 Zp _⟩
def Ui (W:Zc)(g n cp:Nat)(l:List Yd) :Prop:=W.ownsRow 0 63 7 (.slice (some ⟨g,0,none⟩) n cp) n (XC l)
theorem Ui.next {W W':Zc}{g n cp:Nat}{l:List Yd}(h:Ui W g n cp l)(hb:Zt W.heap.size W W') :Ui W' g n cp l:=KJ h (fun i hi=>hb.block i (ownsRow_lt h hi))
 where ownsRow_lt {W:Zc} {g n cp:Nat} {l:List Yd} (h:Ui W g n cp l) {i:Nat} (hi:(Yr (some ⟨g,0,none⟩) n cp).ownBlock=some i) :i < W.heap.size:=(World.ownsRow.lt h i hi).2
theorem Ui.lt {W:Zc}{g n cp:Nat}{l:List Yd}(h:Ui W g n cp l) :g < W.heap.size:=(World.ownsRow.lt h g rfl).2
theorem Ui.range {W:Zc}{g n cp:Nat}{l:List Yd}(h:Ui W g n cp l)(hn:l.length=n){i:Nat}{v:Yd}(hi:l[i]?=some v) :W.rangeAt g (i*7) v.row:=by
 subst hn;obtain ⟨b,off,e,r⟩:=(DC (S:=fun _=>False) h (fun _ _ h=>h)).at hi;injection e with e;injection e with e1 e2 _;subst e1 e2;rwa [Nat.zero_add] at r
theorem fX (r:Rq)(g n cp i:Nat)(l:List Yd)(v:Yd)(c:Nat→Int)(w:Zc)(hO:Ui w g n cp l)(hn:l.length=n)(hi:r.ix=(i:Int))(hl:l[i]?=some v)(hv:Yq v)(hr:UY r)(hm:0≤c 5) :
  Zi Zb 268 #[.agg (ZG r),.slice (some ⟨g,0,none⟩) n cp,.agg (Zk c)] w fun e w'=>e= .returned (.agg (ZG ⟨r.ix,DD v r.am (c 5)⟩))∧Ui w' g n cp (l.set i (Mw v r.am (c 5)))∧Kept (fun k=>k=g) w w':=by
 have T:=Za (RC.new w r c);have EB:=(Zh.1 hl).1;have HW:=Za (fun w=>Ev r n w);rw [show Ur r n=true from decide_eq_true Zp] at HW;have HA:=Za (fun w=>Ci v r.am c w hv hm hr.am.1);have HF:=Za (fun x w=>OF r x w);have HO:Hid (Ui w g n cp l):=Za hO;have HV:=Za hl;have HX:=Za hi;have HN:=Za hn;have HG:Hid (g < w.heap.size):=Za hO.lt;have k1: ¬(i:Int)< 0:=by omega
 have k2: ¬(n:Int)≤(i:Int):=by omega
 have k3:(i:Int)< (n:Int):=by omega
 obtain ⟨p,hp⟩ : ∃p,DD v r.am (c 5)=p:=⟨_,rfl⟩;obtain ⟨u,hu⟩ : ∃u,Mw v r.am (c 5)=u:=⟨_,rfl⟩;rw [hp,hu] at HA;rw [hp,hu];clear hO hn hi hl hv hr hm hp hu;go_enter Tryz.func268,Tryz.ntmps268;go_upto_region 1 with (fail);simp only [OL];generalize ((w.alloc (.cells (ZG r) 75)).alloc (.cells (Zk c) 24)).alloc (.cells (ZG L8) 75)=W at*;go_wp2_with (first | (refine Zn rfl 75 _ rfl w.heap.size rfl 75 _ (0,0) _ T.out.1 Ye rfl Qy ?_));refine (HW.out _).mono ?_;rintro e w1 ⟨rfl,b1⟩;have T1:=Za (T.out.next b1);clear T b1 HW;go_upto_region 3 with (fail);have O1:Hid (Ui w1 g n cp l):=Za (KJ HO.out (fun k hk=>by
  simp only [Xq,Qj] at hk;subst hk;exact T1.out.2.2.2.block _ HG.out))
 have R1:=Za (O1.out.range HN.out HV.out);go_cut [7,8] from 16 to 28 (fun s7 s8 wx=> ∃b7:Nat,s7= .pointer (some ⟨b7,0,none⟩)∧s8= .int .u64 p∧Hid (Zy wx b7 63 (Zd u)∧Zt w1.heap.size w1 wx))
 case first=>
  refine MZ (fun w'=>Zt w1.heap.size w1 w') 14 6 [0,1,2,3,4,5,6,7] (Zr _ _).drew ?_;simp only [qF,qH];show ZB _ _ _ _ [_,_,_,_,_,_,_,_] _;iterate 2 (go_big_quiet_step ((intros; rfl)))
  refine Yw 3 _ ⟨w.heap.size,0,none⟩ (.int .i64 i) rfl rfl rfl (fun w h=>by simp [go_sem,h]) (fun w' h=>(h.cell (p:=⟨w.heap.size,0,none⟩) T1.out.1.lt).trans ((T1.out.1.cell 0).trans Rv)) ?_;simp only [qB];iterate 1 (go_big_quiet_step ((intros; rfl)))
  refine JG 63 _ g (i*7) v _ rfl rfl rfl (fun w' h=>World.rangeAt.same R1.out (h.block g O1.out.lt)) Zs rfl Yo ?_;simp only [qB];iterate 1 (go_big_quiet_step ((intros; rfl)))
  refine Yw 22 _ ⟨w.heap.size,1,none⟩ (.int .u64 r.am) rfl rfl rfl (fun w h=>by simp [go_sem,h]) (fun w' h=>(h.cell (p:=⟨w.heap.size,1,none⟩) T1.out.1.lt).trans (T1.out.1.cell 1)) ?_;simp only [qB];refine Qg 24 _ (w.heap.size+1) 24 (Zk c) _ rfl rfl rfl (fun w' h=>T1.out.2.1.below h T1.out.2.1.lt) ZC rfl Xn ?_;simp only [qB];refine Zj ?_;have D0:Hid (Zt w1.heap.size w1 w1.drew):=Za (Zr _ _).drew;generalize w1.drew=w0 at*;refine UI (i:=8) (k:=12) Yi Zp Zp ?_ ?_
  ·refine JM #[.agg (Zd v),.int .u64 r.am,.agg (Zk c)] Tryz.call302 ((HA.out w0).mono ?_);rintro e w3 ⟨rfl,bb⟩;have D3:Hid (Zt w1.heap.size w1 w3):=Za (D0.out.trans (bb.mono D0.out.size));clear bb;refine ⟨_,rfl,D3.out,?_⟩;simp only [qA];refine Wv (fun w'=>Zt w1.heap.size w1 w') (m:=5) (f:=2) [9,10,11] D3.out ?_;simp only [qF,qH];show ZB _ _ _ _ [_,_,_] _;iterate 3 (go_big_quiet_step ((intros; rfl)))
   refine Zj ?_;refine Qt (i:=12) ?_;refine YE rfl rfl (Kk rfl ?_);have D4:Hid (Zt w1.heap.size w1 (w3.alloc (.cells (Zd Z9) 63))):=Za (D3.out.alloc D3.out.size _);have R4:Hid (Zy (w3.alloc (.cells (Zd Z9) 63)) w3.heap.size 63 (Zd Z9)):=Za (Zw _ _ _);have G4:Hid (w1.heap.size≤w3.heap.size):=Za D3.out.size;refine ⟨D4.out,?_⟩;generalize w3.alloc (.cells (Zd Z9) 63)=w4 at*;simp only [qA];refine Qt (i:=13) ?_;refine YE rfl rfl (wp_store_row _ _ _ rfl w3.heap.size (Zd u) rfl rfl 63 _ R4.out Yo rfl (Yy _) ?_);have Z:Hid (Zy (w4.setRow w3.heap.size (Zd u)) w3.heap.size 63 (Zd u)∧Zt w1.heap.size w1 (w4.setRow w3.heap.size (Zd u))):=Za ⟨Yc _ _ _ _ _ _ R4.out,Xx D4.out G4.out _⟩;refine ⟨Z.out.2,?_⟩;generalize w4.setRow w3.heap.size (Zd u)=w5 at*;exact Zgg
  ·refine YE rfl rfl (Kk rfl ?_);have D3:Hid (Zt w1.heap.size w1 (w0.alloc (.cells (Zd Z9) 63))):=Za (D0.out.alloc D0.out.size _);have R3:Hid (Zy (w0.alloc (.cells (Zd Z9) 63)) w0.heap.size 63 (Zd Z9)):=Za (Zw _ _ _);have G3:Hid (w1.heap.size≤w0.heap.size):=Za D0.out.size;refine ⟨D3.out,?_⟩;generalize w0.alloc (.cells (Zd Z9) 63)=w3 at*;simp only [qA];refine Qt (i:=8) ?_;refine JM #[.agg (Zd v),.int .u64 r.am,.agg (Zk c)] Tryz.call302 ((HA.out w3).mono ?_);rintro e w4 ⟨rfl,bb⟩;have D4:Hid (Zt w1.heap.size w1 w4):=Za (D3.out.trans (bb.mono D3.out.size));have R4:Hid (Zy w4 w0.heap.size 63 (Zd Z9)):=Za (R3.out.below bb R3.out.lt);clear bb;refine ⟨_,rfl,D4.out,?_⟩;simp only [qA];refine Wv (fun w'=>Zt w1.heap.size w1 w') (m:=4) (f:=1) [9,10,11] D4.out ?_;simp only [qF,qH];show ZB _ _ _ _ [_,_,_] _;iterate 3 (go_big_quiet_step ((intros; rfl)))
   refine Zj ?_;refine Qt (i:=13) ?_;refine YE rfl rfl (wp_store_row _ _ _ rfl w0.heap.size (Zd u) rfl rfl 63 _ R4.out Yo rfl (Yy _) ?_);have Z:Hid (Zy (w4.setRow w0.heap.size (Zd u)) w0.heap.size 63 (Zd u)∧Zt w1.heap.size w1 (w4.setRow w0.heap.size (Zd u))):=Za ⟨Yc _ _ _ _ _ _ R4.out,Xx D4.out G3.out _⟩;refine ⟨Z.out.2,?_⟩;generalize w4.setRow w0.heap.size (Zd u)=w5 at*;exact Zgg
 case rest=>
  obtain ⟨b7,rfl,rfl,Z⟩:=hcut;have T2:=Za (T1.out.next Z.out.2);have O2:Hid (Ui wc g n cp l):=Za (O1.out.next Z.out.2);have F2:Hid (wc.there g (i*7) 7∧Ui (wc.setCells g (i*7) (Zd u).toList) g n cp (l.set i u)):=Za (by
   have h:=O2.out;unfold Ui at h ⊢;have hn:=HN.out;subst hn;have:=NG h HV.out u;exact ⟨this.2,this.1⟩)
  have K2:Hid (Zy (wc.setCells g (i*7) (Zd u).toList) w.heap.size 75 (ZG r)∧Zy (wc.setCells g (i*7) (Zd u).toList) (w.heap.size+2) 75 (ZG L8)∧Kept (fun k=>k=g) w (wc.setCells g (i*7) (Zd u).toList)):=Za (by
   have k:Kept (fun k=>k=g) wc (wc.setCells g (i*7) (Zd u).toList):=Kept.setCells _ _ _ (Kept.refl _ _) (.inl rfl);have hg:=HG.out;obtain ⟨h1,h2,h3,h4⟩:=T2.out;exact ⟨h1.kept k Zp,h3.kept k Zp,(Y4 h4).trans k (fun _ _ h=>h)⟩)
  have x0:wc.cell? ⟨w.heap.size,0,none⟩=some (.int .i64 (i:Int)):=(T2.out.1.cell 0).trans Rv;clear T1 O1 R1 HA O2;go_upto_region 5 with (first | (refine Zn rfl 63 _ rfl b7 rfl 63 _ (0,0) _ Z.out.1 Zs rfl Yo ?_) | (refine wpList_store_mid rfl 63 _ _ rfl g (i*7) (Zd u) rfl rfl F2.out.1 Yo (Yy u) ?_));have F3:=Za F2.out.2;clear Z F2 T2 x0;generalize wc.setCells g (i*7) (Zd u).toList=w3 at*;go_wp2_with (first | (refine Zn rfl 75 _ rfl w.heap.size rfl 75 _ (0,0) _ K2.out.1 Ye rfl Qy ?_));refine (HF.out p _).mono ?_;rintro e w4 ⟨rfl,b4⟩;have K4:Hid (Zy w4 (w.heap.size+2) 75 (ZG L8)∧Kept (fun k=>k=g) w w4∧Ui w4 g n cp (l.set i u)):=Za ⟨K2.out.2.1.below b4 K2.out.2.1.lt,K2.out.2.2.trans (Y4 (S:=fun k=>k=g) b4) (fun _ _ h=>h),F3.out.next b4⟩;clear K2 F3 b4;go_wp2_with (first | (refine Zm rfl _ _ _ rfl (w.heap.size+2) (ZG ⟨r.ix,p⟩) rfl rfl 75 _ K4.out.1 Qy rfl (Kn _) ?_));have Y:Ui (w4.setRow (w.heap.size+2) (ZG ⟨r.ix,p⟩)) g n cp (l.set i u)∧Kept (fun k=>k=g) w (w4.setRow (w.heap.size+2) (ZG ⟨r.ix,p⟩)):=by
   have hg:=HG.out;refine ⟨KJ K4.out.2.2 (fun k hk=>?_),K4.out.2.1.setRow (.inr Zp) _⟩;simp only [Xq,Qj] at hk;subst hk;exact setRow_other _ _ _ _ Zp
  exact ZL (v:= .agg (ZG ⟨r.ix,p⟩)) (ZU (fn:=Tryz.f268) rfl _ _ (w.heap.size+2) 75 (ZG ⟨r.ix,p⟩) (0,0) _ rfl (Yc _ _ _ _ _ _ K4.out.1) Ye rfl Qy) rfl ⟨rfl,Y⟩
theorem fU (r:Rq)(a:Option Addr)(n cp:Nat)(l:List Yd)(c:Nat→Int)(w:Zc)(hO:w.ownsRow 0 63 7 (.slice a n cp) n (XC l))(hn:l.length=n)(hf: ∀v ∈ l,Yq v)(hr:UY r)(hm:0≤c 5) :
  Zi Zb 268 #[.agg (ZG r),.slice a n cp,.agg (Zk c)] w fun e w'=>e= .returned (.agg (ZG ⟨r.ix,NI l r (c 5)⟩))∧w'.ownsRow 0 63 7 (.slice a n cp) n (XC (EX l r (c 5)))∧Kept (fun k=>(Yr a n cp).ownBlock=some k) w w':=by
 by_cases h:Ur r l.length=true
 ·obtain ⟨i,v,hi,hv⟩:=bD h;obtain ⟨_,e1,e2⟩:=fW (c 5) hi hv;have EB:=(Zh.1 hv).1;rw [e1,e2];obtain ⟨g,rfl⟩ : ∃g,a=some ⟨g,0,none⟩:=by
   exact Zap
  exact (fX r g n cp i l v c w hO hn hi hv (hf v (ZE hv)) hr hm).mono fun e w' ⟨he,ho,k⟩=>⟨he,ho,k.more (fun i _ e=>by subst e; rfl)⟩
 ·have e1:NI l r (c 5)=0:=by unfold NI; rw [if_neg h]
  have e2:EX l r (c 5)=l:=by unfold EX; rw [if_neg h]
  rw [e1,e2];exact (mA r a n cp c w (by rw [←hn]; simpa using h)).mono fun e w' ⟨he,hb⟩=>⟨he,KJ hO (fun k hk=>hb.block k (hO.lt k hk).2),Y4 hb⟩
end
section
open Go Go.RowKit Go.Deep
theorem gl (B b n:Nat)(v:Zo)(P:List Py)(r:Rq)(w:Zc)(hO:w.ownsRow B 61 3 v n (Yx VJ P))(hn:P.length=n)(hB:B≤w.heap.size)(hb:Zy w b 75 (ZG r))(h60:n≤4096) :
  Zi Zb 267 #[v,.slice (some ⟨b,0,none⟩) 1 1] w fun e w'=> ∃v',e= .returned v'∧w'.ownsRow B 61 3 v' (P++Lc r.ix r.am).length (Yx VJ (P++Lc r.ix r.am))∧Kept (fun k=>v.ownBlock=some k) w w':=by
 have HO:=Za hO;have HN:=Za hn;have HB:=Za hb;have HS:=Za hB;have HE:=Za (fun w=>Ae r w);obtain ⟨j0,eZ,BM,Pg,p5⟩:=iM;have i1: ¬(0:Int)< 0:=by omega
 by_cases h0:r.am=0
 ·rw [decide_eq_true h0] at HE;have E:Hid (P++Lc r.ix r.am=P):=Za (by rw [Lc,if_pos h0,List.append_nil]);rw [E.out];clear hO hn hB hb h0 E;go_enter Tryz.func267,Tryz.ntmps267;go_wp2_with fail;refine Qz 2 ?_;rw [Y2];go_wp2_with (first | (refine Zn rfl 75 _ rfl b rfl 75 _ (0,0) _ HB.out Ye rfl Qy ?_) | (refine Zm rfl _ _ _ rfl w.heap.size (ZG r) rfl rfl 75 _ (ZD w _) Qy rfl (Kn _) ?_; rw [Zu]) | (refine Zn rfl 75 _ rfl w.heap.size rfl 75 _ (0,0) _ (ZD w _) Ye rfl Qy ?_));refine (HE.out _).mono ?_;rintro e w1 ⟨rfl,b1⟩;have A1:Hid (Zt w.heap.size w w1):=Za (((Zr _ w).alloc (Zg _) _).trans (b1.mono ZO));clear b1;go_wp2_with fail;rw [Y2];go_wp2_with fail;go_ret;refine ⟨_,rfl,?_,Y4 A1.out⟩;rw [HN.out];exact DZ HO.out A1.out
 ·rw [decide_eq_false h0] at HE;have E:Hid (P++Lc r.ix r.am=P++[⟨r.ix,r.am,false⟩]):=Za (by rw [Lc,if_neg h0]);rw [E.out];clear hO hn hB hb h0 E;go_enter Tryz.func267,Tryz.ntmps267;go_wp2_with fail;refine Qz 2 ?_;rw [Y2];go_wp2_with (first | (refine Zn rfl 75 _ rfl b rfl 75 _ (0,0) _ HB.out Ye rfl Qy ?_) | (refine Zm rfl _ _ _ rfl w.heap.size (ZG r) rfl rfl 75 _ (ZD w _) Qy rfl (Kn _) ?_; rw [Zu]) | (refine Zn rfl 75 _ rfl w.heap.size rfl 75 _ (0,0) _ (ZD w _) Ye rfl Qy ?_));refine (HE.out _).mono ?_;rintro e w1 ⟨rfl,b1⟩;have K1:Hid (Vx w.heap.size w.heap.size 75 (ZG r) w w1):=Za (by
   have k:=Vx.new (t:=75) (cs:=ZG r) (Zr w.heap.size w) (Zg _);exact ⟨k.1.below b1 k.1.lt,k.2.1.trans (b1.mono k.2.2),Nat.le_trans k.2.2 b1.size⟩)
  have O1:Hid (w1.ownsRow B 61 3 v n (Yx VJ P)):=Za (DZ HO.out K1.out.2.1);have x0:w1.cell? ⟨w.heap.size,0,none⟩=some (.int .i64 r.ix):=K1.out.1.cell 0;have x1:w1.cell? ⟨w.heap.size,1,none⟩=some (.int .u64 r.am):=K1.out.1.cell 1;clear b1 HB;go_wp2_with (first | (refine F6 rfl 61 _ rfl ⟨r.ix,r.am,false⟩ Yi ?_) | (refine NZ rfl _ ⟨r.ix,r.am,false⟩ rfl rfl ?_) | (at_builtin; refine QL _ rfl (.tmp 16) (.tmp 22) 40 rfl B 61 j0 _ 3 24 Tryz.underlying40 eZ BM Pg p5 (Fq _) Zp v n (Yx VJ P) rfl (QG O1.out _) (some ⟨w1.heap.size,0,none⟩) 1 1 (VJ ⟨r.ix,r.am,false⟩) rfl rfl (fun _=>⟨_,rfl,fE w1 _ _⟩) (Py.row_one _) US Zp (by have:=HS.out; have:=K1.out.2.2; simp; omega) ?_; intro v1 w8 ho hg hv));have Z:Hid (w8.ownsRow B 61 3 v1 (n+1) (Yx VJ (P++[⟨r.ix,r.am,false⟩]))∧Kept (fun k=>v.ownBlock=some k) w w8):=Za ⟨by rw [Ki,EM]; exact ho,(Y4 K1.out.2.1).alloc _ |>.trans (Kept.of_grown (S:=fun k=>v.ownBlock=some k) hg (fun i hi=>hi.symm)) (fun _ _ h=>h)⟩;clear ho hg hv O1 K1 x0 x1;go_wp2_with fail;rw [Y2];go_wp2_with fail;go_ret;refine ⟨_,rfl,?_,Z.out.2⟩;rw [ZN,HN.out];exact Z.out.1
end
section
open Go Go.RowKit Go.Deep
structure Sp (w wr:Zc)(g9 g11:Nat)(a:Option Addr)(n cp:Nat)(v:Zo)(L:List Yd)(P:List Py)(c:Nat→Int) :Prop where
 cfg:Zy wr w.heap.size 24 (Zk c)
 aft:Zy wr g9 46 #[.slice a n cp]
 pay:Zy wr g11 40 #[v]
 own:wr.ownsRow (w.heap.size+1) 63 7 (.slice a n cp) n (XC L)
 pys:wr.ownsRow (w.heap.size+1) 61 3 v P.length (Yx VJ P)
 n9:w.heap.size < g9
 n11:w.heap.size < g11
 below:Zt w.heap.size w wr
section
variable {w wr w':Zc} {g9 g11:Nat} {a:Option Addr} {n cp:Nat} {v:Zo} {L:List Yd} {P:List Py} {c:Nat→Int}
theorem Sp.next (h:Sp w wr g9 g11 a n cp v L P c)(hb:Zt wr.heap.size wr w') :Sp w w' g9 g11 a n cp v L P c:=
 ⟨h.cfg.below hb h.cfg.lt,h.aft.below hb h.aft.lt,h.pay.below hb h.pay.lt,DZ h.own hb,DZ h.pys hb,h.n9,h.n11,h.below.trans (hb.mono h.below.size)⟩
theorem Sp.not_row (h:Sp w wr g9 g11 a n cp v L P c){b t:Nat}{cs:Array Zo}(hb:Zy wr b t cs)(ht:t≠63) : ¬(Yr a n cp).ownBlock=some b:=fun e=>by
 obtain ⟨cur,h1,_⟩:=UK h.own e;exact Jz hb h1 ht rfl
theorem Sp.not_pys (h:Sp w wr g9 g11 a n cp v L P c){b t:Nat}{cs:Array Zo}(hb:Zy wr b t cs)(ht:t≠61) : ¬v.ownBlock=some b:=fun e=>by
 obtain ⟨cur,h1,_⟩:=UK h.pys e;exact Jz hb h1 ht rfl
theorem Sp.turned (h:Sp w wr g9 g11 a n cp v L P c){L':List Yd}(ho:w'.ownsRow 0 63 7 (.slice a n cp) n (XC L'))(k:Kept (fun i=>(Yr a n cp).ownBlock=some i) wr w') :Sp w w' g9 g11 a n cp v L' P c where
 cfg:=h.cfg.kept k (h.not_row h.cfg Xh)
 aft:=h.aft.kept k (h.not_row h.aft Xh)
 pay:=h.pay.kept k (h.not_row h.pay Xh)
 own:=rn ho fun i hi=>by
  obtain ⟨_,_,h1⟩:=UK h.own hi;exact h1
 pys:=SW h.pys k fun i hi=>by
  obtain ⟨cur,h1,_⟩:=UK h.pys hi;exact h.not_row h1 Xh
 n9:=h.n9
 n11:=h.n11
 below:=Kept.below h.below k (fun i hi=>by
  obtain ⟨_,_,h1⟩:=UK h.own hi;omega) h.below.size
theorem Sp.grown (h:Sp w wr g9 g11 a n cp v L P c){v':Zo}{P':List Py}(ho:w'.ownsRow (w.heap.size+1) 61 3 v' P'.length (Yx VJ P'))(k:Kept (fun i=>v.ownBlock=some i) wr w') :
  Sp w (w'.setCell ⟨g11,0,none⟩ v') g9 g11 a n cp v' L P' c∧Zy w' g11 40 #[v]:=by
 have hp:=h.pay.kept k (h.not_pys h.pay Xh);have hc:=h.cfg.kept k (h.not_pys h.cfg Xh);have ha:=h.aft.kept k (h.not_pys h.aft Xh);have hr:w'.ownsRow (w.heap.size+1) 63 7 (.slice a n cp) n (XC L):=SW h.own k fun i hi=>by
  obtain ⟨cur,h1,_⟩:=UK h.own hi;exact h.not_pys h1 Xh
 have hb:Zt w.heap.size w w':=Kept.below h.below k (fun i hi=>by
  obtain ⟨_,_,h1⟩:=UK h.pys hi;omega) h.below.size
 refine ⟨⟨hc.far (Jz hc hp Xh) _,ha.far (Jz ha hp Xh) _,hp.set_ 0 v',Fy hr (fun i hi=>?_),Fy ho (fun i hi=>?_),h.n9,h.n11,hb.setCell (Nat.le_of_lt h.n11) _⟩,hp⟩
 ·obtain ⟨cur,h1,_⟩:=UK hr hi;exact Xu w' _ _ i (Jz h1 hp Xh)
 ·obtain ⟨cur,h1,_⟩:=UK ho hi;exact Xu w' _ _ i (Jz h1 hp Xh)
end
theorem aG (w wr:Zc)(g9 g11:Nat)(a:Option Addr)(n cp:Nat)(v:Zo)(L:List Yd)(P:List Py)(c:Nat→Int)(r:Rq)(h:Sp w wr g9 g11 a n cp v L P c)(hn:L.length=n)(hf: ∀v ∈ L,Yq v)(hr:UY r)(hm:0≤c 5)(hP:P.length≤4096) :
  Zi Zb 266 #[.agg (ZG r),.pointer (some ⟨g11,0,none⟩),.pointer (some ⟨g9,0,none⟩),.pointer (some ⟨w.heap.size,0,none⟩)] wr fun e w'=>e= .returned (.tuple #[])∧ ∃v',Sp w w' g9 g11 a n cp v' (EX L r (c 5)) (P++Lc r.ix (NI L r (c 5))) c:=by
 have H0:=Za (h.next ((Zr _ wr).alloc (Zg _) (.cells (ZG r) 75)));have HR:Hid (Zy (wr.alloc (.cells (ZG r) 75)) wr.heap.size 75 (ZG r)):=Za (Zw _ _ _);have HP:=Za (fun (W:Zc) (ho:W.ownsRow 0 63 7 (.slice a n cp) n (XC L))=>fU r a n cp L c W ho hn hf hr hm);have HPL:=Za hP;obtain ⟨x,hx⟩ : ∃x,NI L r (c 5)=x:=⟨_,rfl⟩;obtain ⟨L',hL'⟩ : ∃L',EX L r (c 5)=L':=⟨_,rfl⟩;rw [hx,hL'] at HP;rw [hx,hL'];clear h hn hf hr hm hP hx hL';go_enter Tryz.func266,Tryz.ntmps266;go_upto_region 1 with (fail);generalize wr.alloc (.cells (ZG r) 75)=W at*;generalize wr.heap.size=rb at*;refine MZ (fun w'=>Zy w' g11 40 #[v]∧Zy w' rb 75 (ZG r)∧Zy w' g9 46 #[.slice a n cp]∧Zy w' w.heap.size 24 (Zk c)) 7 3 [0,1,2,3] ⟨H0.out.pay,HR.out,H0.out.aft,H0.out.cfg⟩ ?_;simp only [qF,qH];show ZB _ _ _ _ [_,_,_,_] _;refine Yw 40 _ ⟨g11,0,none⟩ v rfl rfl rfl (fun w h=>by simp [go_sem,h]) (fun w' h=>h.1.cell 0) ?_;simp only [qB];refine Qg 75 _ rb 75 (ZG r) _ rfl rfl rfl (fun w' h=>h.2.1) Ye rfl Qy ?_;simp only [qB];refine Yw 46 _ ⟨g9,0,none⟩ (.slice a n cp) rfl rfl rfl (fun w h=>by simp [go_sem,h]) (fun w' h=>h.2.2.1.cell 0) ?_;simp only [qB];refine Qg 24 _ w.heap.size 24 (Zk c) _ rfl rfl rfl (fun w' h=>h.2.2.2) ZC rfl Xn ?_;simp only [qB];refine Zj ?_;have H1:=Za (H0.out.next (Zr _ W).drew);have R1:Hid (Zy W.drew rb 75 (ZG r)):=Za HR.out;clear H0 HR;generalize W.drew=w1 at*;refine Qt (i:=4) ?_;refine JM #[.agg (ZG r),.slice a n cp,.agg (Zk c)] Tryz.call268 ((HP.out w1 (SV H1.out.own (Nat.zero_le _))).mono ?_);rintro e w2 ⟨rfl,ho,k⟩;have H2:=Za (H1.out.turned ho k);have R2:Hid (Zy w2 rb 75 (ZG r)):=Za (R1.out.kept k (H1.out.not_row R1.out Xh));clear ho k H1 R1 HP;refine ⟨_,rfl,⟨H2.out.pay,R2.out,H2.out.aft,H2.out.cfg⟩,?_⟩;simp only [qA];refine Qt (i:=5) ?_;refine YE rfl rfl (sG _ ⟨r.ix,x⟩ rfl rfl ?_);have H3:=Za (H2.out.next ((Zr _ w2).alloc (Zg _) (.cells (ZG ⟨r.ix,x⟩) 75)));have R3:Hid (Zy (w2.alloc (.cells (ZG ⟨r.ix,x⟩) 75)) rb 75 (ZG r)):=Za (R2.out.alloc _);have B3:Hid (Zy (w2.alloc (.cells (ZG ⟨r.ix,x⟩) 75)) w2.heap.size 75 (ZG ⟨r.ix,x⟩)):=Za (Zw _ _ _);clear H2 R2;generalize w2.alloc (.cells (ZG ⟨r.ix,x⟩) 75)=w3 at*;generalize w2.heap.size=b3 at*;refine ⟨⟨H3.out.pay,R3.out,H3.out.aft,H3.out.cfg⟩,?_⟩;simp only [qA];refine Qt (i:=6) ?_;refine JM #[v,.slice (some ⟨b3,0,none⟩) 1 1] Tryz.call267 ((gl (w.heap.size+1) b3 P.length v P ⟨r.ix,x⟩ w3 H3.out.pys rfl (by have:=H3.out.cfg.lt; omega) B3.out HPL.out).mono ?_);rintro e w4 ⟨v',rfl,ho,k⟩;obtain ⟨a4,cp4,rfl,-,-⟩:=cv ho;have Z:=Za (H3.out.grown ho k);have S4:Hid (Zy w4 rb 75 (ZG r)∧Zy w4 g9 46 #[.slice a n cp]∧Zy w4 w.heap.size 24 (Zk c)):=Za ⟨R3.out.kept k (H3.out.not_pys R3.out Xh),H3.out.aft.kept k (H3.out.not_pys H3.out.aft Xh),H3.out.cfg.kept k (H3.out.not_pys H3.out.cfg Xh)⟩;clear ho k H3 R3 B3;refine ⟨_,rfl,⟨Z.out.2,S4.out⟩,?_⟩;show Region.seqB _ _ _ _ _=true∧_;refine ⟨by kernel_rfl,?_⟩;simp only [qA];have z1:w4.cell? ⟨g11,0,none⟩=some v:=Z.out.2.cell 0;have z2:w4.frozen? ⟨g11,0,none⟩=false:=Z.out.2.frozen 0;go_wp2;refine NoPanic.normal ?_;go_wp2_with fail;go_end0;have Y:=Z.out.1;rw [ZN] at Y;exact ⟨rfl,_,Y⟩
end
section
open Go Go.RowKit Go.Deep
theorem df (a b:Option Addr)(cp cq:Nat)(l:List Yd)(q:List Rq)(c:Nat→Int)(w:Zc)(hL:Dj w (fun _=>False) a l)(hq:J6 Rq.row 2 w (fun _=>False) b q)(hf: ∀v ∈ l,Yq v)(hfq: ∀r ∈ q,UY r)(h5:0≤c 5)(pQ:0≤c 16)(hl:l.length≤4096)(hql:q.length≤4096)(hcq:q.length≤cq) :
  Zi Zb 218 #[.slice a l.length cp,.slice b q.length cq,.agg (Zk c)] w fun e w'=> ∃v p,e= .returned (.tuple #[v,p,.int .i64 (Uw c q)])∧
   w'.ownsRow w.heap.size 63 7 v l.length (XC (XX (c 5) l (q.take (Uw c q))))∧w'.ownsRow w.heap.size 61 3 p (Kf (c 5) l (q.take (Uw c q))).length (Yx VJ (Kf (c 5) l (q.take (Uw c q))))∧Zt w.heap.size w w':=by
 obtain ⟨m,hm⟩ : ∃m,Uw c q=m:=⟨_,rfl⟩;have hmq:m≤q.length:=by rw [←hm]; exact Nat.min_le_right _ _
 have lR:min (c 16) (q.length:Int)=(m:Int):=by rw [←hm]; unfold Uw; omega
 have dI:max (0:Int) (m:Int)=(m:Int):=by omega
 rw [hm];have hm60:m≤4096:=by omega
 have e7:m≤cq:=by omega
 have hB:Zy (w.alloc (.cells (Zk c) 24)) w.heap.size 24 (Zk c):=Zw _ _ _;have b0:Zt w.heap.size w (w.alloc (.cells (Zk c) 24)):=(Zr _ _).alloc (Zg _) _;have HB:=Za (And.intro hB b0);have HC:=Za (Ot (fun _=>False) a cp l (w.alloc (.cells (Zk c) 24)) (hL.below b0) Zp);have HQ:=Za hq;have HF:=Za (fun k=>Et (c 5) h5 (q.take k) l (fun r hr=>hfq r (List.mem_of_mem_take hr)) hf);have HFQ:=Za hfq;have HP:=Za (fun k=>OQ (c 5) (q.take k) l);have HS:Hid ((w.alloc (.cells (Zk c) 24)).heap.size=w.heap.size+1):=Za ZO;obtain ⟨n,hn⟩ : ∃n,l.length=n:=⟨_,rfl⟩;obtain ⟨nq,wi⟩ : ∃nq,q.length=nq:=⟨_,rfl⟩;rw [hn] at HC ⊢;rw [wi] at lR hmq ⊢;have HN:=Za (And.intro hn wi);have IZ: ∀(fn:Fn) (first cap:Array Zo) (w:Zc),(Instr.makeFunc fn first cap).run Zb w= .ok (.func fn first cap) w:=fun _ _ _ _=>rfl
 clear hB b0 hL hq hf hfq hm hn wi hcq;go_enter Tryz.func218,Tryz.ntmps218;go_upto_region 1 with (fail);generalize w.alloc (.cells (Zk c) 24)=W at*;go_wp2_with fail;refine HC.out.mono ?_;rintro e w1 ⟨v,rfl,ho,b1⟩;obtain ⟨a',Bp,rfl,-,-⟩:=Ut (Bw ho (Nat.zero_le _));have H1:Hid (w1.ownsRow (w.heap.size+1) 63 7 (.slice a' n Bp) n (XC l)∧Zy w1 w.heap.size 24 (Zk c)∧Zt w.heap.size w w1):=Za ⟨HS.out▸ho,HB.out.1.below b1 HB.out.1.lt,HB.out.2.trans (b1.mono HB.out.2.size)⟩;clear ho b1 HB HC HS;go_upto_region 2 with (fail);have H2:Hid ((w1.alloc (.cells #[.slice a' n Bp] 46)).ownsRow (w.heap.size+1) 63 7 (.slice a' n Bp) n (XC l)∧Zy (w1.alloc (.cells #[.slice a' n Bp] 46)) w.heap.size 24 (Zk c)∧Zt w.heap.size w (w1.alloc (.cells #[.slice a' n Bp] 46))∧
   Zy (w1.alloc (.cells #[.slice a' n Bp] 46)) w1.heap.size 46 #[.slice a' n Bp]∧w.heap.size < w1.heap.size):=Za ⟨QG H1.out.1 _,H1.out.2.1.alloc _,H1.out.2.2.alloc H1.out.2.2.size _,Zw _ _ _,H1.out.2.1.lt⟩
 clear H1;generalize w1.alloc (.cells #[.slice a' n Bp] 46)=w2 at*;generalize w1.heap.size=g9 at*;have x16:w2.cell? ⟨w.heap.size,16,none⟩=some (.int .i64 (c 16)):=H2.out.2.1.cell 16;go_upto_region 5 with (fail);have A0:Hid (Sp w (w2.alloc (.cells #[.slice none 0 0] 40)) g9 w2.heap.size a' n Bp (.slice none 0 0) (XX (c 5) l (q.take 0)) (Kf (c 5) l (q.take 0)) c):=Za
  { cfg:=H2.out.2.1.alloc _,aft:=H2.out.2.2.2.1.alloc _,pay:=Zw _ _ _,own:=QG H2.out.1 _,pys:=World.ownsRow_nil _ _ _ _,n9:=H2.out.2.2.2.2,n11:=H2.out.2.1.lt,below:=H2.out.2.2.1.alloc H2.out.2.2.1.size _}
 clear H2 x16 lR dI IZ;generalize w2.alloc (.cells #[.slice none 0 0] 40)=w3 at*;generalize w2.heap.size=g11 at*;go_wp2;go_loopw [14,28] (fun s14 s28 wr=> ∃(k:Nat) (v:Zo),k≤m∧s28= .int .i64 k∧Hid (Sp w wr g9 g11 a' n Bp v (XX (c 5) l (q.take k)) (Kf (c 5) l (q.take k)) c)) (fun _ s28 _=>m -(intOf s28).toNat)
 case atStart=>exact ⟨0,_,by omega,rfl,A0⟩
 case round=>
  obtain ⟨k,v,hk,rfl,HA⟩:=hrel;clear A0
  by_cases XJ:k < m
  ·obtain ⟨r,hr⟩ : ∃r,q[k]?=some r:=⟨_,List.getElem?_eq_getElem ZQ⟩;obtain ⟨qb,qo,rfl,-,hqb,hrp⟩:=HQ.out.at hr;have HR:=Za hr;have R1:Hid (wr.rangeAt qb (qo+k*2) r.row):=Za (Bf hrp (HA.out.below.block qb hqb));have k1: ¬(k:Int)< 0:=by omega
   have k2: ¬(m:Int)≤(k:Int):=by omega
   have k3:(k:Int)< (m:Int):=by omega
   have HCO:Hid (∀w1,Sp w w1 g9 g11 a' n Bp v (XX (c 5) l (q.take k)) (Kf (c 5) l (q.take k)) c→Zi Zb 266 #[.agg (ZG r),.pointer (some ⟨g11,0,none⟩),.pointer (some ⟨g9,0,none⟩),.pointer (some ⟨w.heap.size,0,none⟩)] w1 fun e w'=>e= .returned (.tuple #[])∧ ∃v',Sp w w' g9 g11 a' n Bp v' (XX (c 5) l (q.take (k+1))) (Kf (c 5) l (q.take (k+1))) c):=Za (fun w1 h=>by
    rw [Mu HR.out,WI,gO];refine aG w w1 g9 g11 a' n Bp v _ _ c r h (by rw [Dd]; exact HN.out.1) (HF.out k) (HFQ.out r (ZE HR.out)) h5 ?_;have:=HP.out k;rw [List.length_take] at this;omega)
   have A1:=Za (HA.out.next ((Zr _ wr).alloc (Zg _) (.cells (ZG r) 75)));clear hr hrp HA;go_wp2_with (first | (refine TQ rfl 75 _ rfl qb (qo+k*2) rfl r _ R1.out Ye rfl Qy ?_) | (refine Zm rfl _ _ _ rfl wr.heap.size (ZG r) rfl rfl 75 _ (ZD wr _) Qy rfl (Kn _) ?_; rw [Zu]) | (refine Zn rfl 75 _ rfl wr.heap.size rfl 75 _ (0,0) _ (ZD wr _) Ye rfl Qy ?_));refine (HCO.out _ A1.out).mono ?_;rintro e w8 ⟨rfl,v',hA8⟩;have A8:=Za hA8;clear hA8 A1 R1 HCO;go_wp2;go_roundw
   case rel=>exact ⟨k+1,v',by omega,by go_num,A8⟩
   case measure=>exact Uz
  ·obtain rfl:k=m:=by omega
   clear XJ;have XJ: ¬k < k:=by omega
   have y9:wr.cell? ⟨g9,0,none⟩=some (.slice a' n Bp):=HA.out.aft.cell 0;have y11:wr.cell? ⟨g11,0,none⟩=some v:=HA.out.pay.cell 0;go_wp2;go_quiet (fail);go_wp2;go_ret3;exact ⟨_,_,rfl,Bw HA.out.own Zp,SV HA.out.pys Zp,below_drewN HA.out.below _⟩
end
end Go.Proofs.YtianiiijaopdpaaGreat
