/- Part 14 of 34: L03RefCheck L16Tri L16Chk L12Base2 L12Ops L12Acts L12Lists L13Done L13Proc L13Step L18Good L13Weight L14Bnd. -/
import Derived.Test.YtobgbcdgffgdhaaGreatZx00
import Derived.Test.YtobgbcdgffgdhaaGreatZx09
import Derived.Test.YtobgbcdgffgdhaaGreatZx11
import Derived.Deep.DeepCutAuto
namespace Go.Proofs.YtobgbcdgffgdhaaGreat
set_option linter.unusedVariables false
set_option linter.unusedSimpArgs false
set_option maxRecDepth 100000
set_option maxHeartbeats 8000000
open _root_.Go.RowKit renaming Below -> Zp
open _root_.Go.RowKit.Below renaming refl -> Zn
open _root_.Go.Proofs.YtobgbcdgffgdhaaGreat.Zu renaming alloc -> YK, new -> Zs
open _root_.Go renaming Calls -> Zv, TypeId -> ZL, Value -> Zl, World -> Zc, heap_alloc_new -> ZB, rounds_succ -> Xi, wpList_build -> JQ, wpList_store_row -> YQ
open _root_.Go.Ending renaming returned -> Kf
open _root_.Go.Exit renaming noGoto_ret -> GR
open _root_.Go.Instr renaming index -> Yy, makeFunc -> Q5
open _root_.Go.Proofs.YtobgbcdgffgdhaaGreat.ZA renaming of_grown -> XF, refl -> ZS
open _root_.List renaming append_nil -> X8, eq_nil_of_length_eq_zero -> ZO, ext_getElem -> KA, getD_eq_getElem?_getD -> Zo, getElem?_eq_getElem -> Zg, getElem?_map -> ZM, replicate -> ZD
open _root_.Nat renaming le_refl -> Zh, le_trans -> ZZ, one_pos -> Qx, zero_add -> ZW
open _root_.Go.Proofs.Tryz renaming prog -> Zb
open _root_.Go.Value renaming int -> ZG
open _root_.Go.World renaming ownsRow_nil -> Y4, setRow_alloc_new -> Zq, size_alloc -> Jf
open Go.Proofs.Tryz
theorem dG {G:Prop}(h:G:=by rw [<-show i=m from e]; exact hi) :G:=h
theorem dC {G:Prop}(h:G:=by rw [HN.o]; exact XJ) :G:=h
theorem mY {G H:Prop} (k:H) (h:Dq H->G:=by
  intro zk;refine wp_loop_rounds 3 ?_;rw [rounds_succ];exact zk.o) :G:=h ⟨k⟩
theorem yD {G H:Prop} (k:H) (h:Dq H->G:=by
  intro zk;refine wp_loop_rounds 2 ?_;rw [rounds_succ];exact zk.o) :G:=h ⟨k⟩
theorem Zf8 {G:Prop} (h:G:=by
  go_enter func260,ntmps260;go_upto_region 1 with (fail);generalize ((w.alloc (.cells (Ze s) 68)).alloc (.cells (Ze d) 68)).alloc (.cells (Zi c) 30)=W at*;go_wp2_with fail;refine (HA.o _ _ ((Zu.new W _ _).cell 0) ((Zu.new W _ _).cell 1)).mono ?_;rintro e w1 ⟨rfl,rfl⟩;have T2:=Za (HT.o.next ((Below.refl _ W).alloc (Nat.le_refl _) (.cells #[.int .u64 s.bal,.int .u64 d.bal] 23)));clear x1 x2 x3 HT HA;generalize W.alloc (.cells #[.int .u64 s.bal,.int .u64 d.bal] 23)=W2 at*;obtain ⟨-,-,-,-,-,-,x3,-⟩:=T2.o.cells;go_wp2_with fail;go_ret;exact ⟨Uo H.o.symm,T2.o.2.2.2⟩) :G:=h
theorem Zgb {G:Prop} (h:G:=by
  go_enter func258,ntmps258;go_upto_region 1 with (fail);generalize ((w.alloc (.cells (Ze s) 68)).alloc (.cells (Ze d) 68)).alloc (.cells (Zi c) 30)=W at*;go_wp2;go_ret;exact ⟨Uo H.o.symm,HT.o.2.2.2⟩) :G:=h
theorem Zgn {G:Prop} (h:G:=by
  exact ((B.o.1.alloc _).far (show h≠h+1 by omega) _).far (show h≠h+2 by omega) _) :G:=h
theorem Zgo {G:Prop} (h:G:=by
  exact (((ZA.refl _ w).alloc _).setCell (.inl (.inl rfl)) _).setCell (.inl (.inr rfl)) _) :G:=h
theorem Zgp {G:Prop} (h:G:=by
  refine ⟨by rw [he]; simp [ZbL,hr],S',?_,b2.iff h2⟩;simpa [LH,LI,hr] using b1) :G:=h
theorem Zgu {G:Prop} (h:G:=by
  exact ((B.o.2.1.alloc _).set_ 0 _).far (show h+1≠h+2 by omega) _) :G:=h
theorem Zgv {G:Prop} (h:G:=by
  exact ((B.o.2.2.alloc _).far (show h+2≠h+1 by omega) _).set_ 0 _) :G:=h
theorem Zl6 {G:Prop} (h:G:=by
  have ti:=Za HA;have B:=Za hb;have X:=Za hx;have S:=Za hs;have c0:(w.alloc (.cells #[.int .u64 s,.int .u64 x] 23)).cell? ⟨h,0,none⟩=some (.int .u64 lim):=(hb.1.alloc _).cell 0;have c1:(w.alloc (.cells #[.int .u64 s,.int .u64 x] 23)).cell? ⟨h+1,0,none⟩=some (.int .i64 ((k:Int)+1)):=(hb.2.1.alloc _).cell 0;have c2:w.cell? ⟨h+2,0,none⟩=some (.int .u64 s):=hb.2.2.cell 0;have c2':(w.alloc (.cells #[.int .u64 s,.int .u64 x] 23)).cell? ⟨h+2,0,none⟩=some (.int .u64 s):=(hb.2.2.alloc _).cell 0;have f1:(w.alloc (.cells #[.int .u64 s,.int .u64 x] 23)).frozen? ⟨h+1,0,none⟩=false:=(hb.2.1.alloc _).frozen 0;have f2:(w.alloc (.cells #[.int .u64 s,.int .u64 x] 23)).frozen? ⟨h+2,0,none⟩=false:=(hb.2.2.alloc _).frozen 0;clear HA hb hs hx;go_enter func268,ntmps268;go_wp2_with fail;refine ti.o.mono ?_;rintro e w' ⟨rfl,rfl⟩;clear ti;go_wp2;go_ret;rw [HE.o];refine ⟨by simp,⟨?_,?_,?_⟩,?_⟩
  ·exact Zgn
  ·exact Zgu
  ·exact Zgv
  ·exact Zgo) :G:=h
theorem Zme {G:Prop} (h:G:=by
  clear hs hd h1 e ht h2;exact Zf8) :G:=h
theorem Zmx {G:Prop} (h:G:=by
  go_enter func130,ntmps130;go_wp2_with fail;refine (Pp _ _ _ HH.o).mono ?_;rintro e w' ⟨rfl,rfl⟩;go_wp2_with fail;refine HQ.o.mono ?_;rintro e w' ⟨rfl,rfl⟩;go_wp2_with fail;refine HP.o.mono ?_;rintro e w1 ⟨rfl,hq⟩;have HQ:=Za hq;clear hq HP;go_wp2_with fail;go_ret;exact ⟨rfl,HQ.o⟩) :G:=h
theorem ZmA {G:Prop} (h:G:=by
  clear hs hd;exact Zgb) :G:=h
theorem ZmB {G:Prop} (h:G:=by
  clear hs;go_enter func259,ntmps259;go_upto_region 1 with (fail);generalize ((w.alloc (.cells (Ze s) 68)).alloc (.cells (Ze d) 68)).alloc (.cells (Zi c) 30)=W at*;go_wp2;go_ret;exact ⟨Uo H.o.symm,HT.o.2.2.2⟩) :G:=h
theorem ZmK {G:Prop} (h:G:=by
  refine this.mono ?_;rintro e w' ⟨he,g',hr',hm,hk⟩;refine ⟨he,g',by simpa using hr',fun i hi=>(hm i hi).imp id (fun h=>by simp at h; omega),((ZA.refl (Je r g) w).alloc _).trans hk (fun _ _ h=>h)⟩) :G:=h
theorem Zm0 {G:Prop} (h:G:=by
  rintro e w' ⟨he,g',a1,a2,a3⟩;obtain ⟨S',b1,b2⟩:=h1.setF a1 a2 a3;exact Zgp) :G:=h
theorem Zm1 {G:Prop} (h:G:=by
  rintro e w' ⟨he,g',a1,a2,a3⟩;obtain ⟨S',b1,b2⟩:=h1.setV a1 a2 a3;exact Zgp) :G:=h
theorem ZeZ {G:Prop} (h:G:=by
  obtain rfl:k=20:=Zf;have H:=Za (eP hbf);go_wp2;go_ret;exact ⟨Lh H.o.symm,Tw⟩) :G:=h
theorem Ze5 {G:Prop} (h:G:=by
  go_wp2_with fail;go_ret;exact ⟨congrArg (fun x=>Ending.returned (.int .i64 x)) E.o.symm,B2.o.2.2.2⟩) :G:=h
theorem yN {G:Prop} (h:G:=by
  go_wp2_with fail;refine (Zhh _ _ _ H.o).mono ?_;rintro e w' ⟨rfl,rfl⟩;exact Ra) :G:=h
theorem Ze8 {G:Prop} (h:G:=by
  exact ⟨Int.ediv_nonneg Zf Zf,Int.le_trans (Int.ediv_le_self _ Zf) Zf⟩) :G:=h
theorem Zfh {G:Prop} (h:G:=by
  rintro i (rfl | hi)
  ·exact .inl (.inl rfl)
  ·exact (hm i hi.symm).imp (fun e=> .inr e.symm) id) :G:=h
theorem Zfr {G:Prop} (h:G:=by
  rintro e w' ⟨rfl,rfl⟩;go_wp2;try rw [Exit.noGoto_ret]
  exact aT) :G:=h
theorem Zfu {G:Prop} (h:G:=by
  simp [Lit.wf,IntKind.min,IntKind.max,IntKind.signed,IntKind.bits] at h;omega) :G:=h
theorem ph {G:Prop} (h:G:=by
  go_enter func142,ntmps142;exact Ra) :G:=h
theorem ZfR {G:Prop} (h:G:=by
  go_wp2;exact Zgw) :G:=h
theorem zA {G:Prop} (h:G:=by
  have:=Zu.new (w.alloc A) t cs;exact DI) :G:=h
section
open Go.RowKit
theorem Qk:(Tryz.prog.info? 30).map (·.size)=some 20:=ZC
theorem cN (c:Nat->Int)(w:Zc) :
  Z3 10 #[.agg (Zi c)] w (.int .i64 (TM c)):=by
 unfold Zi;go_enter func10,ntmps10;go_wp2;go_loopw [3] (fun v wr=> ∃k:Nat,k<=20/\v= .int .i64 ((k:Int)+1)/\Em c k/\Zu wr w.heap.size 30 (Zi c)/\Zp w.heap.size w wr) (fun v _=>(21 - intOf v).toNat)
 case atStart=>exact ⟨0,by omega,rfl,Ml c,Zs _ _ _,(Zn _ _).alloc (Zh _) _⟩
 case round=>
  obtain ⟨k,hk,rfl,hbf,hb,Tw⟩:=hrel;have XJ:=hb.lt
  by_cases h20:k < 20
  ·cases hr:Yx c k with
   | false=>
    have R:Zj (∀w',_):=Za (fun w'=>aq c k h20 w');rw [hr] at R;have H:=Za (jQ h20 hbf hr);clear hr;go_wp2_with (first
     | (refine Kl 30 w.heap.size hb underlying30 Qk ?_)
     | (go_at_call 28; refine (R.o _).mono ?_; rintro e w1 ⟨rfl,Hj⟩))
    go_ret;exact ⟨Lh H.o.symm,Wy Tw Hj Zf⟩
   | true=>
    have R:Zj (∀w',_):=Za (fun w'=>aq c k h20 w');rw [hr] at R;have H:=Za (Mj hbf hr);clear hr;go_wp2_with (first
     | (refine Kl 30 w.heap.size hb underlying30 Qk ?_)
     | (go_at_call 28; refine (R.o _).mono ?_; rintro e w1 ⟨rfl,Hj⟩))
    go_roundw
    case rel=>exact ⟨k+1,by omega,by go_num,H.o,hb.below Hj XJ,Wy Tw Hj Zf⟩
    case measure=>exact KX
  ·exact ZeZ
end
section
open Go Go.RowKit Go.Deep
theorem sS (w:Zc)(A B:Obj)(cs:Array Zl)(t:ZL) :Zu (((w.alloc A).alloc B).alloc (.cells cs t)) (w.heap.size+2) t cs:=by
 have:=Zs ((w.alloc A).alloc B) t cs;exact DI
theorem Fm (w:Zc)(A:Obj)(cs:Array Zl)(t:ZL) :Zu ((w.alloc A).alloc (.cells cs t)) (w.heap.size+1) t cs:=zA
def pK (w W:Zc)(s d:ZN)(c:Nat->Int) :Prop:=
 Zu W w.heap.size 68 (Ze s)/\Zu W (w.heap.size+1) 68 (Ze d)/\Zu W (w.heap.size+2) 30 (Zi c)/\Zp w.heap.size w W
section
variable {w W W':Zc} {s d:ZN} {c:Nat->Int}
theorem pK.new (w:Zc)(s d:ZN)(c:Nat->Int) :pK w (((w.alloc (.cells (Ze s) 68)).alloc (.cells (Ze d) 68)).alloc (.cells (Zi c) 30)) s d c:=
 ⟨YK (YK (Zs w _ _) _) _,YK (Fm w _ _ _) _,sS w _ _ _ _,(((Zn _ _).alloc (Zh _) _).alloc ZE _).alloc (by simp <;> omega) _⟩
theorem pK.next (h:pK w W s d c)(hb:Zp W.heap.size W W') :pK w W' s d c:=
 ⟨h.1.below hb h.1.lt,h.2.1.below hb h.2.1.lt,h.2.2.1.below hb h.2.2.1.lt,h.2.2.2.trans (hb.mono h.2.2.2.size)⟩
theorem pK.cells (h:pK w W s d c) :W.cell? ⟨w.heap.size,0,none⟩=some (.int .u64 s.bal)/\W.cell? ⟨w.heap.size,1,none⟩=some (.int .i64 s.st)/\W.cell? ⟨w.heap.size,2,none⟩=some (.bool s.sl)/\
  W.cell? ⟨w.heap.size+1,0,none⟩=some (.int .u64 d.bal)/\W.cell? ⟨w.heap.size+1,1,none⟩=some (.int .i64 d.st)/\W.cell? ⟨w.heap.size+1,2,none⟩=some (.bool d.sl)/\W.cell? ⟨w.heap.size+2,6,none⟩=some (.int .u64 (c 6))/\W.cell? ⟨w.heap.size+2,17,none⟩=some (.int .i64 (c 17)):=
 ⟨h.1.cell 0,h.1.cell 1,h.1.cell 2,h.2.1.cell 0,h.2.1.cell 1,h.2.1.cell 2,h.2.2.1.cell 6,h.2.2.1.cell 17⟩
end
theorem wo (s d:ZN)(c:Nat->Int)(w:Zc) :
  Z3 258 #[.agg (Ze s),.agg (Ze d),.agg (Zi c)] w (.bool (NY s d)):=by
 have T:=pK.new w s d c;obtain ⟨-,x1,-,-,x2,-,-,-⟩:=T.cells;have HT:=Za T;clear T
 by_cases hs:s.st=2
 ·have qs:(s.st != 2)=false:=by simpa using hs
  by_cases hd:d.st=2
  ·have qd:(d.st != 2)=false:=by simpa using hd
   have H:Zj (NY s d=false):=Za (by simp [NY,hs,hd]);exact ZmA
  ·have qd:(d.st != 2)=true:=by simpa using hd
   have H:Zj (NY s d=true):=Za (by simp [NY,hs,hd]);exact ZmA
 ·have qs:(s.st != 2)=true:=by simpa using hs
  have H:Zj (NY s d=true):=Za (by simp [NY,hs]);clear hs;exact Zgb
theorem iN (s d:ZN)(c:Nat->Int)(w:Zc) :
  Z3 259 #[.agg (Ze s),.agg (Ze d),.agg (Zi c)] w (.bool (MX s d)):=by
 have T:=pK.new w s d c;obtain ⟨-,-,x1,-,-,x2,-,-⟩:=T.cells;have HT:=Za T;clear T
 cases hs:s.sl with
 | true=>
  rw [hs] at x1;have H:Zj (MX s d=true):=Za (by simp [MX,hs]);exact ZmB
 | false=>
  rw [hs] at x1;have H:Zj (MX s d=d.sl):=Za (by simp [MX,hs]);exact ZmB
theorem dm (x y:Int) :XR [x,y] 2=x+y:=by simp [XR]
theorem sV {x y:Int}(hx:0<=x/\x<=18446744073709551615)(hy:0<=y/\y<=18446744073709551615) : ∀i,0<= [x,y].getD i 0/\[x,y].getD i 0<=18446744073709551615
 | 0=>hx
 | 1=>hy
 | i+2=>by simp
theorem CY (s d:ZN)(c:Nat->Int)(w:Zc)(hs:Yp s)(hd:Yp d) :
  Z3 260 #[.agg (Ze s),.agg (Ze d),.agg (Zi c)] w (.bool (NZ s d (c 6))):=by
 have T:=pK.new w s d c;obtain ⟨x1,-,-,x2,-,-,x3,-⟩:=T.cells;have HT:=Za T;have HA:=Za (fun (b:Nat) (w:Zc) (h0:w.cell? ⟨b,0,none⟩=some (.int .u64 s.bal)) (h1:w.cell? ⟨b,1,none⟩=some (.int .u64 d.bal))=>EV b 0 2 2 [s.bal,d.bal] w Zf (fun i hi=>by
  have:i=0\/i=1:=Zf
  rcases this with rfl | rfl
  ·exact h0
  ·exact h1) (sV hs.bal hd.bal))
 clear T
 by_cases h1:s.bal+d.bal<=18446744073709551615
 ·have e:=Nj (z:= [s.bal,d.bal]) (n:=2) (by rw [dm]; exact h1);rw [dm] at e;rw [e.1,e.2] at HA;obtain ⟨t,ht⟩:=ZR (s.bal+d.bal);rw [ht] at HA
  by_cases h2:c 6 < t
  ·have H:Zj (NZ s d (c 6)=true):=Za (by simp [NZ,ht]; omega);have q2:decide (c 6 < t)=true:=by simpa using h2
   exact Zme
  ·have H:Zj (NZ s d (c 6)=false):=Za (by simp [NZ,ht]; omega);have q2:decide (c 6 < t)=false:=by simpa using h2
   exact Zme
 ·have e:=OZ (z:= [s.bal,d.bal]) (n:=2) (by rw [dm]; exact h1);rw [e.1,e.2] at HA;have H:Zj (NZ s d (c 6)=true):=Za (by simp [NZ]; omega);clear hs hd h1 e;exact Zf8
end
section
open Go Go.RowKit Go.Deep
def Dz:Array Zl:= #[.func (.func 258) #[] #[],.int .i64 8,.func (.func 259) #[] #[],.int .i64 9,.func (.func 260) #[] #[],.int .i64 3]
theorem ZeC:(Tryz.prog.info? 275).map (·.size)=some 6:=ZC
theorem Pz:(Tryz.prog.info? 274).map (·.size)=some 2:=ZC
theorem Hu (w:Zc) :Z3 230 #[] w (.agg Dz):=by
 go_enter func230,ntmps230;go_wp2_with (first | (refine JQ rfl 274 _ rfl ZC ?_) | (refine JQ rfl 275 _ rfl ZC ?_; rw [show (Tryz.prog.built 275 _).getD #[]=Dz from by kernel_rfl]) | (refine YQ rfl _ _ _ rfl w.heap.size Dz rfl rfl 275 _ (ZB w _) ZeC rfl ZC ?_; rw [Zq]));exact bodyPost_ret (v:= .agg Dz) (results_cell_row (fn:=Tryz.f230) rfl _ _ w.heap.size 275 Dz (0,0) _ rfl (ZB w _) underlying275 rfl ZeC) rfl ⟨rfl,(Zn _ _).alloc (Zh _) _⟩
theorem ZhQ (w:Zc) :(Yy 275 (.agg Dz) (.int .i64 0)).run Zb w= .ok (.agg #[.func (.func 258) #[] #[],.int .i64 8]) w:=ZC
theorem ZhR (w:Zc) :(Yy 275 (.agg Dz) (.int .i64 1)).run Zb w= .ok (.agg #[.func (.func 259) #[] #[],.int .i64 9]) w:=ZC
theorem ZhS (w:Zc) :(Yy 275 (.agg Dz) (.int .i64 2)).run Zb w= .ok (.agg #[.func (.func 260) #[] #[],.int .i64 3]) w:=ZC
theorem Pe (s d:ZN)(c:Nat->Int)(w:Zc)(hs:Yp s)(hd:Yp d) :
  Z3 188 #[.agg (Ze s),.agg (Ze d),.agg (Zi c)] w (.int .i64 (FU s d (c 6))):=by
 have T:=pK.new w s d c;have HT:=Za T;have H1:=Za (wo s d c);have H2:=Za (iN s d c);have H3:=Za (fun w=>CY s d c w hs hd);have i0:=ZhQ;have i1:=ZhR;have i2:=ZhS;clear T hs hd
 cases h1:NY s d with
 | true=>
  have E:Zj (FU s d (c 6)=8):=Za (by simp [FU,h1]);rw [h1] at H1;clear h1 H2 H3;go_enter func188,ntmps188;go_upto_region 1 with (fail);generalize ((w.alloc (.cells (Ze s) 68)).alloc (.cells (Ze d) 68)).alloc (.cells (Zi c) 30)=W at*;go_wp2_with fail;refine (Hu _).mono ?_;rintro e w1 ⟨rfl,b1⟩;have T1:=Za (HT.o.next b1);clear b1 HT;go_wp2_with fail;refine wp_loop_rounds 1 ?_;rw [Xi];have A0:=Za (T1.o.next ((Zn _ w1).alloc (Zh _) (.cells #[.func (.func 258) #[] #[],.int .i64 8] 274)));clear T1;go_wp2_with (first | (refine YQ rfl _ _ _ rfl w1.heap.size #[.func (.func 258) #[] #[],.int .i64 8] rfl rfl 274 _ (ZB w1 _) Pz rfl ZC ?_; rw [Zq]) | (refine Kl 68 w.heap.size A0.o.1 underlying68 Ya ?_) | (refine Kl 68 (w.heap.size+1) A0.o.2.1 underlying68 Ya ?_) | (refine Kl 30 (w.heap.size+2) A0.o.2.2.1 underlying30 Qk ?_));refine (H1.o _).mono ?_;rintro e v0 ⟨rfl,b0⟩;have B0:=Za (A0.o.next b0);have e0:v0.cell? ⟨w1.heap.size,1,none⟩=some (.int .i64 8):=(b0.cell (p:=⟨w1.heap.size,1,none⟩) ZE).trans ((Zs w1 _ _).cell 1);clear A0 b0;go_wp2_with fail;go_ret;exact ⟨congrArg (fun x=>Kf (.int .i64 x)) E.o.symm,B0.o.2.2.2⟩
 | false=>
  rw [h1] at H1
  cases h2:MX s d with
  | true=>
   have E:Zj (FU s d (c 6)=9):=Za (by simp [FU,h1,h2]);rw [h2] at H2;clear h1 h2 H3;go_enter func188,ntmps188;go_upto_region 1 with (fail);generalize ((w.alloc (.cells (Ze s) 68)).alloc (.cells (Ze d) 68)).alloc (.cells (Zi c) 30)=W at*;go_wp2_with fail;refine (Hu _).mono ?_;rintro e w1 ⟨rfl,b1⟩;have T1:=Za (HT.o.next b1);clear b1 HT;go_wp2_with fail;refine yD ?_;have A0:=Za (T1.o.next ((Zn _ w1).alloc (Zh _) (.cells #[.func (.func 258) #[] #[],.int .i64 8] 274)));clear T1;go_wp2_with (first | (refine YQ rfl _ _ _ rfl w1.heap.size #[.func (.func 258) #[] #[],.int .i64 8] rfl rfl 274 _ (ZB w1 _) Pz rfl ZC ?_; rw [Zq]) | (refine Kl 68 w.heap.size A0.o.1 underlying68 Ya ?_) | (refine Kl 68 (w.heap.size+1) A0.o.2.1 underlying68 Ya ?_) | (refine Kl 30 (w.heap.size+2) A0.o.2.2.1 underlying30 Qk ?_));refine (H1.o _).mono ?_;rintro e v0 ⟨rfl,b0⟩;have B0:=Za (A0.o.next b0);have e0:v0.cell? ⟨w1.heap.size,1,none⟩=some (.int .i64 8):=(b0.cell (p:=⟨w1.heap.size,1,none⟩) ZE).trans ((Zs w1 _ _).cell 1);clear A0 b0;go_wp2_with fail;rw [Xi];have A1:=Za (B0.o.next ((Zn _ v0).alloc (Zh _) (.cells #[.func (.func 259) #[] #[],.int .i64 9] 274)));clear B0;go_wp2_with (first | (refine YQ rfl _ _ _ rfl v0.heap.size #[.func (.func 259) #[] #[],.int .i64 9] rfl rfl 274 _ (ZB v0 _) Pz rfl ZC ?_; rw [Zq]) | (refine Kl 68 w.heap.size A1.o.1 underlying68 Ya ?_) | (refine Kl 68 (w.heap.size+1) A1.o.2.1 underlying68 Ya ?_) | (refine Kl 30 (w.heap.size+2) A1.o.2.2.1 underlying30 Qk ?_));refine (H2.o _).mono ?_;rintro e v1 ⟨rfl,b1⟩;have B1:=Za (A1.o.next b1);have e1:v1.cell? ⟨v0.heap.size,1,none⟩=some (.int .i64 9):=(b1.cell (p:=⟨v0.heap.size,1,none⟩) ZE).trans ((Zs v0 _ _).cell 1);clear A1 b1;go_wp2_with fail;go_ret;exact ⟨congrArg (fun x=>Kf (.int .i64 x)) E.o.symm,B1.o.2.2.2⟩
  | false=>
   rw [h2] at H2
   cases h3:NZ s d (c 6) with
   | true=>
    have E:Zj (FU s d (c 6)=3):=Za (by simp [FU,h1,h2,h3]);rw [h3] at H3;clear h1 h2 h3;go_enter func188,ntmps188;go_upto_region 1 with (fail);generalize ((w.alloc (.cells (Ze s) 68)).alloc (.cells (Ze d) 68)).alloc (.cells (Zi c) 30)=W at*;go_wp2_with fail;refine (Hu _).mono ?_;rintro e w1 ⟨rfl,b1⟩;have T1:=Za (HT.o.next b1);clear b1 HT;go_wp2_with fail;refine mY ?_;have A0:=Za (T1.o.next ((Zn _ w1).alloc (Zh _) (.cells #[.func (.func 258) #[] #[],.int .i64 8] 274)));clear T1;go_wp2_with (first | (refine YQ rfl _ _ _ rfl w1.heap.size #[.func (.func 258) #[] #[],.int .i64 8] rfl rfl 274 _ (ZB w1 _) Pz rfl ZC ?_; rw [Zq]) | (refine Kl 68 w.heap.size A0.o.1 underlying68 Ya ?_) | (refine Kl 68 (w.heap.size+1) A0.o.2.1 underlying68 Ya ?_) | (refine Kl 30 (w.heap.size+2) A0.o.2.2.1 underlying30 Qk ?_));refine (H1.o _).mono ?_;rintro e v0 ⟨rfl,b0⟩;have B0:=Za (A0.o.next b0);have e0:v0.cell? ⟨w1.heap.size,1,none⟩=some (.int .i64 8):=(b0.cell (p:=⟨w1.heap.size,1,none⟩) ZE).trans ((Zs w1 _ _).cell 1);clear A0 b0;go_wp2_with fail;rw [Xi];have A1:=Za (B0.o.next ((Zn _ v0).alloc (Zh _) (.cells #[.func (.func 259) #[] #[],.int .i64 9] 274)));clear B0;go_wp2_with (first | (refine YQ rfl _ _ _ rfl v0.heap.size #[.func (.func 259) #[] #[],.int .i64 9] rfl rfl 274 _ (ZB v0 _) Pz rfl ZC ?_; rw [Zq]) | (refine Kl 68 w.heap.size A1.o.1 underlying68 Ya ?_) | (refine Kl 68 (w.heap.size+1) A1.o.2.1 underlying68 Ya ?_) | (refine Kl 30 (w.heap.size+2) A1.o.2.2.1 underlying30 Qk ?_));refine (H2.o _).mono ?_;rintro e v1 ⟨rfl,b1⟩;have B1:=Za (A1.o.next b1);have e1:v1.cell? ⟨v0.heap.size,1,none⟩=some (.int .i64 9):=(b1.cell (p:=⟨v0.heap.size,1,none⟩) ZE).trans ((Zs v0 _ _).cell 1);clear A1 b1;go_wp2_with fail;rw [Xi];have A2:=Za (B1.o.next ((Zn _ v1).alloc (Zh _) (.cells #[.func (.func 260) #[] #[],.int .i64 3] 274)));clear B1;go_wp2_with (first | (refine YQ rfl _ _ _ rfl v1.heap.size #[.func (.func 260) #[] #[],.int .i64 3] rfl rfl 274 _ (ZB v1 _) Pz rfl ZC ?_; rw [Zq]) | (refine Kl 68 w.heap.size A2.o.1 underlying68 Ya ?_) | (refine Kl 68 (w.heap.size+1) A2.o.2.1 underlying68 Ya ?_) | (refine Kl 30 (w.heap.size+2) A2.o.2.2.1 underlying30 Qk ?_));refine (H3.o _).mono ?_;rintro e v2 ⟨rfl,b2⟩;have B2:=Za (A2.o.next b2);have e2:v2.cell? ⟨v1.heap.size,1,none⟩=some (.int .i64 3):=(b2.cell (p:=⟨v1.heap.size,1,none⟩) ZE).trans ((Zs v1 _ _).cell 1);clear A2 b2;exact Ze5
   | false=>
    have E:Zj (FU s d (c 6)=0):=Za (by simp [FU,h1,h2,h3]);rw [h3] at H3;clear h1 h2 h3;go_enter func188,ntmps188;go_upto_region 1 with (fail);generalize ((w.alloc (.cells (Ze s) 68)).alloc (.cells (Ze d) 68)).alloc (.cells (Zi c) 30)=W at*;go_wp2_with fail;refine (Hu _).mono ?_;rintro e w1 ⟨rfl,b1⟩;have T1:=Za (HT.o.next b1);clear b1 HT;go_wp2_with fail;refine wp_loop_rounds 4 ?_;rw [Xi];have A0:=Za (T1.o.next ((Zn _ w1).alloc (Zh _) (.cells #[.func (.func 258) #[] #[],.int .i64 8] 274)));clear T1;go_wp2_with (first | (refine YQ rfl _ _ _ rfl w1.heap.size #[.func (.func 258) #[] #[],.int .i64 8] rfl rfl 274 _ (ZB w1 _) Pz rfl ZC ?_; rw [Zq]) | (refine Kl 68 w.heap.size A0.o.1 underlying68 Ya ?_) | (refine Kl 68 (w.heap.size+1) A0.o.2.1 underlying68 Ya ?_) | (refine Kl 30 (w.heap.size+2) A0.o.2.2.1 underlying30 Qk ?_));refine (H1.o _).mono ?_;rintro e v0 ⟨rfl,b0⟩;have B0:=Za (A0.o.next b0);have e0:v0.cell? ⟨w1.heap.size,1,none⟩=some (.int .i64 8):=(b0.cell (p:=⟨w1.heap.size,1,none⟩) ZE).trans ((Zs w1 _ _).cell 1);clear A0 b0;go_wp2_with fail;rw [Xi];have A1:=Za (B0.o.next ((Zn _ v0).alloc (Zh _) (.cells #[.func (.func 259) #[] #[],.int .i64 9] 274)));clear B0;go_wp2_with (first | (refine YQ rfl _ _ _ rfl v0.heap.size #[.func (.func 259) #[] #[],.int .i64 9] rfl rfl 274 _ (ZB v0 _) Pz rfl ZC ?_; rw [Zq]) | (refine Kl 68 w.heap.size A1.o.1 underlying68 Ya ?_) | (refine Kl 68 (w.heap.size+1) A1.o.2.1 underlying68 Ya ?_) | (refine Kl 30 (w.heap.size+2) A1.o.2.2.1 underlying30 Qk ?_));refine (H2.o _).mono ?_;rintro e v1 ⟨rfl,b1⟩;have B1:=Za (A1.o.next b1);have e1:v1.cell? ⟨v0.heap.size,1,none⟩=some (.int .i64 9):=(b1.cell (p:=⟨v0.heap.size,1,none⟩) ZE).trans ((Zs v0 _ _).cell 1);clear A1 b1;go_wp2_with fail;rw [Xi];have A2:=Za (B1.o.next ((Zn _ v1).alloc (Zh _) (.cells #[.func (.func 260) #[] #[],.int .i64 3] 274)));clear B1;go_wp2_with (first | (refine YQ rfl _ _ _ rfl v1.heap.size #[.func (.func 260) #[] #[],.int .i64 3] rfl rfl 274 _ (ZB v1 _) Pz rfl ZC ?_; rw [Zq]) | (refine Kl 68 w.heap.size A2.o.1 underlying68 Ya ?_) | (refine Kl 68 (w.heap.size+1) A2.o.2.1 underlying68 Ya ?_) | (refine Kl 30 (w.heap.size+2) A2.o.2.2.1 underlying30 Qk ?_));refine (H3.o _).mono ?_;rintro e v2 ⟨rfl,b2⟩;have B2:=Za (A2.o.next b2);have e2:v2.cell? ⟨v1.heap.size,1,none⟩=some (.int .i64 3):=(b2.cell (p:=⟨v1.heap.size,1,none⟩) ZE).trans ((Zs v1 _ _).cell 1);clear A2 b2;go_wp2_with fail;rw [Xi];exact Ze5
end
section
open Go Go.RowKit
def UA (F V:List Int)(c:Int) :List Int:=if c=0 then F else if c=1 then V else []
def Mv (n:Nat)(F V:List Int)(c:Int) :Nat:=if c=0 then n - F.length else if c=1 then n - V.length else 0
def KH (F V:List Int)(c:Int) :List Int:=if c=0 then F else if c=1 then F++V else []
def ZbL (n:Nat)(F V:List Int)(c:Int) :Int:=if c=0 then(if F.length < n then 0 else 6) else if c=1 then(if V.length < n then 0 else 6) else 11
def LH (n:Nat)(F:List Int)(c x:Int) :List Int:=if c=0/\F.length < n then F++[x] else F
def LI (n:Nat)(V:List Int)(c x:Int) :List Int:=if c=1/\V.length < n then V++[x] else V
def Tx:List Int->List Int->Int
 | x::_,_=>x
 | [],x::_=>x
 | [],[]=>0
def vF:List Int->List Int->Int
 | _::_,_=>0
 | [],_::_=>1
 | [],[]=>0
def dS:List Int->List Int->Bool
 | _::_,_=>true
 | [],_::_=>true
 | [],[]=>false
def MI:List Int->List Int
 | _::F=>F
 | []=> []
def MJ:List Int->List Int->List Int
 | _::_,V=>V
 | [],_::V=>V
 | [],[]=> []
def jB (w:Zc)(b f v:Nat)(gf gv:Option Nat)(n:Nat)(F V:List Int) :Prop:=
 Zu w b 188 #[.pointer (some ⟨f,0,none⟩),.pointer (some ⟨v,0,none⟩)]/\
 YG 148 3 1 w f gf n F.length (F.map (ZG .i64))/\YG 148 3 1 w v gv n V.length (V.map (ZG .i64))/\
 (∀i,Je f gf i-> ¬Je v gv i)/\(¬Je f gf b)/\(¬Je v gv b)
def Ln (w:Zc)(b:Nat)(S:Nat->Prop)(n:Nat)(F V:List Int) :Prop:=
 ∃f v gf gv,jB w b f v gf gv n F V/\ ∀i,S i ↔ (i=b\/Je f gf i\/Je v gv i)
def aV (S S':Nat->Prop)(w w':Zc) :Prop:=ZA S w w'/\ ∀i,S' i->S i\/w.heap.size<=i
section
variable {w w':Zc} {S S' T:Nat->Prop} {b f v n:Nat} {gf gv g':Option Nat} {F V:List Int}
theorem Ln.kept (h:Ln w b S n F V)(k:ZA T w w')(hT: ∀i,S i-> ¬T i) :Ln w' b S n F V:=by
 obtain ⟨f,v,gf,gv,⟨h1,h2,h3,h4⟩,h5⟩:=h;exact ⟨f,v,gf,gv,⟨h1.kept k (hT _ ((h5 _).2 (.inl rfl))),h2.kept k (fun i hi=>hT i ((h5 i).2 (.inr (.inl hi)))),h3.kept k (fun i hi=>hT i ((h5 i).2 (.inr (.inr hi)))),h4⟩,h5⟩
theorem Ln.lt (h:Ln w b S n F V) : ∀i,S i->i < w.heap.size:=by
 obtain ⟨f,v,gf,gv,⟨h1,h2,h3,h4⟩,h5⟩:=h;intro i hi
 rcases (h5 i).1 hi with rfl | hi | hi
 ·exact h1.lt
 ·exact h2.lt i hi
 ·exact h3.lt i hi
theorem Ln.drewN (h:Ln w b S n F V)(m:Nat) :Ln (w.drewN m) b S n F V:=h
theorem Ln.size (h:Ln w b S n F V) :F.length<=n/\V.length<=n/\n<=1048576:=by
 obtain ⟨f,v,gf,gv,⟨h1,h2,h3,h4⟩,h5⟩:=h;exact ⟨h2.size_le.1,h3.size_le.1,h2.size_le.2.2⟩
theorem jB.cells (h:jB w b f v gf gv n F V) :w.cell? ⟨b,0,none⟩=some (.pointer (some ⟨f,0,none⟩))/\w.cell? ⟨b,1,none⟩=some (.pointer (some ⟨v,0,none⟩)):=⟨h.1.cell 0,h.1.cell 1⟩
theorem aV.refl (S:Nat->Prop)(w:Zc) :aV S S w w:=⟨ZS _ _,fun _ h=> .inl h⟩
theorem jB.setF {F':List Int}(h:jB w b f v gf gv n F V)(hr:YG 148 3 1 w' f g' n F'.length (F'.map (ZG .i64)))(hm:Gv w gf g')(hk:ZA (Je f gf) w w') :
  ∃S',Ln w' b S' n F' V/\aV (fun i=>i=b\/Je f gf i\/Je v gv i) S' w w':=by
 obtain ⟨h1,h2,h3,h4,h5,h6⟩:=h;have new: ∀i,Je f g' i->Je f gf i\/w.heap.size<=i:=Zfh
 refine ⟨_,⟨f,v,g',gv,⟨h1.kept hk h5,hr,h3.kept hk (fun i hi hf=>h4 i hf hi),?_,?_,h6⟩,fun i=>Iff.rfl⟩,hk.more (fun i _ hi=> .inr (.inl hi)),?_⟩
 ·intro i hi hv
  rcases new i hi with h | h
  ·exact h4 i h hv
  ·have:=h3.lt i hv; omega
 ·intro hb
  rcases new b hb with h | h
  ·exact h5 h
  ·have:=h1.lt; omega
 ·rintro i (rfl | hi | hi)
  ·exact .inl (.inl rfl)
  ·exact (new i hi).imp (fun h=> .inr (.inl h)) id
  ·exact .inl (.inr (.inr hi))
theorem jB.setV {V':List Int}(h:jB w b f v gf gv n F V)(hr:YG 148 3 1 w' v g' n V'.length (V'.map (ZG .i64)))(hm:Gv w gv g')(hk:ZA (Je v gv) w w') :
  ∃S',Ln w' b S' n F V'/\aV (fun i=>i=b\/Je f gf i\/Je v gv i) S' w w':=by
 obtain ⟨h1,h2,h3,h4,h5,h6⟩:=h;have new: ∀i,Je v g' i->Je v gv i\/w.heap.size<=i:=Zfh
 refine ⟨_,⟨f,v,gf,g',⟨h1.kept hk h6,h2.kept hk (fun i hi hf=>h4 i hi hf),hr,?_,h5,?_⟩,fun i=>Iff.rfl⟩,hk.more (fun i _ hi=> .inr (.inr hi)),?_⟩
 ·intro i hi hv
  rcases new i hv with h | h
  ·exact h4 i hi h
  ·have:=h2.lt i hi; omega
 ·intro hb
  rcases new b hb with h | h
  ·exact h6 h
  ·have:=h1.lt; omega
 ·rintro i (rfl | hi | hi)
  ·exact .inl (.inl rfl)
  ·exact .inl (.inr (.inl hi))
  ·exact (new i hi).imp (fun h=> .inr (.inr h)) id
theorem aV.iff {S2:Nat->Prop}(h:aV S S' w w')(hS: ∀i,S2 i ↔ S i) :aV S2 S' w w':=⟨h.1.more fun i _ hi=>(hS i).2 hi,fun i hi=>(h.2 i hi).imp (hS i).2 id⟩
section
variable {w:Zc} {S:Nat->Prop} {a:Option Addr} {L:List Int}
theorem XS.src (h:XS w S a L) :Src w S a L.length 1 (L.map (ZG .i64)):=by
 refine ⟨by simp,fun v hv=>?_,fun hl=>?_⟩
 ·obtain ⟨x,_,rfl⟩:=List.mem_map.1 hv;rfl
 ·obtain ⟨b,off,e,hn,hb,hc⟩:=h hl;refine ⟨_,e,hn,fun j v hv=>?_⟩;rw [ZM] at hv;have hj:j < L.length:=by
   rcases Nat.lt_or_ge j L.length with h1 | h1
   ·exact h1
   ·exact zG
  rw [add_plain,hc j hj];rw [Zg hj] at hv;rw [Zo,Zg hj];exact hv
end
theorem lz {w w':Zc}{base n size:Nat}{e:ZL}{v:Zl}{xs:List Zl}(h:w.ownsRow base e size v n xs)(k:Zp w.heap.size w w') :w'.ownsRow base e size v n xs:=by
 obtain ⟨h1,h2⟩:=h;refine ⟨h1,?_⟩
 rcases h2 with h2 | ⟨g,cap,cur,rfl,h3,h4,h5⟩
 ·exact .inl h2
 ·exact .inr ⟨g,cap,cur,rfl,h3,Zu.below (w:=w) h4 k (Zu.lt (w:=w) h4),h5⟩
theorem PC (w:Zc)(b o:Nat)(u:Zl) :ZA (fun i=>i=b) w (w.setCell ⟨b,o,none⟩ u):=ZA.setCell (S:=fun i=>i=b) (ZS _ _) (.inl rfl) _
theorem oG (w:Zc)(x:Int)(T:Nat->Prop)(hT: ∀i,T i->i < w.heap.size) :Src (w.alloc (.cells #[.int .i64 x] 3)) T (some ⟨w.heap.size,0,none⟩) 1 1 [.int .i64 x]:=
 ⟨rfl,fun v hv=>by simp at hv; subst hv; rfl,fun _=>⟨_,rfl,fun hf=>Nat.lt_irrefl _ (hT _ hf),fun j v hv=>by
  rw [add_plain,ZW,(Zs w 3 #[.int .i64 x]).cell];simpa using hv⟩⟩
end
end
section
open Go Go.RowKit
theorem Pp (b:Nat)(c:Int)(w:Zc)(h:c=0\/c=1) :Y6 142 #[.pointer (some ⟨b,0,none⟩),.int .i64 c] w (.bool true):=by
 rcases h with rfl | rfl
 ·exact ph
 ·exact ph
theorem Zhh (b:Nat)(c:Int)(w:Zc)(h:c < 0\/2<=c) :Y6 142 #[.pointer (some ⟨b,0,none⟩),.int .i64 c] w (.bool false):=by
 rcases h with h | h
 ·have h1: ¬0<=c:=Zf;exact ph
 ·have h1:0<=c:=Zf;have h2: ¬c < 2:=Zf;exact ph
theorem xx (b:Nat)(c:Int)(w:Zc)(h:c < 0\/2<=c) :Y6 94 #[.pointer (some ⟨b,0,none⟩),.int .i64 c] w (.pointer none):=by
 have H:=Za h;clear h;go_enter func94,ntmps94;exact yN
theorem ED (b f:Nat)(w:Zc)(h:w.cell? ⟨b,0,none⟩=some (.pointer (some ⟨f,0,none⟩))) :
  Y6 94 #[.pointer (some ⟨b,0,none⟩),.int .i64 0] w (.pointer (some ⟨f,0,none⟩)):=by
 go_enter func94,ntmps94;go_wp2_with fail;refine (Pp _ _ _ (.inl rfl)).mono ?_;exact zu
theorem Nx (b v:Nat)(w:Zc)(h:w.cell? ⟨b,1,none⟩=some (.pointer (some ⟨v,0,none⟩))) :
  Y6 94 #[.pointer (some ⟨b,0,none⟩),.int .i64 1] w (.pointer (some ⟨v,0,none⟩)):=by
 go_enter func94,ntmps94;go_wp2_with fail;refine (Pp _ _ _ (.inr rfl)).mono ?_;exact zu
theorem gR (n:Nat)(w:Zc)(h1:1<=n)(h2:n<=4096) :Zv Zb 78 #[.int .i64 n] w fun e w'=>e= .returned (.pointer (some ⟨w.heap.size,0,none⟩))/\
  (∃S,Ln w' w.heap.size S n [] []/\ ∀i,S i->w.heap.size<=i)/\Zp w.heap.size w w':=by
 have h0: ¬(n:Int)< 1:=Zf;have h3: ¬(4096:Int)< (n:Int):=Zf;have H:=Za (fun W=>S9 n W h1 Zf);have HN:=Za (show 1<=n/\n<=1048576 by omega);go_enter func78,ntmps78;go_wp2_with fail;have B0:Zj (Zu (w.alloc (.cells #[.pointer none,.pointer none] 188)) w.heap.size 188 #[.pointer none,.pointer none]):=Za (Zs _ _ _);have K0:Zj (Zp w.heap.size w (w.alloc (.cells #[.pointer none,.pointer none] 188))/\(w.alloc (.cells #[.pointer none,.pointer none] 188)).heap.size=w.heap.size+1):=Za ⟨(Zn _ _).alloc (Zh _) _,by simp⟩;generalize w.alloc (.cells #[.pointer none,.pointer none] 188)=w1 at*;obtain ⟨b,hb⟩:=ZR (w.heap.size);have HB:=Za hb;rw [hb] at B0 K0 ⊢;clear hb;refine mY ?_;go_wp2_with fail;refine (H.o _).mono ?_;rintro e w2 ⟨rfl,OQ⟩;have R2:Zj (YG 148 3 1 w2 w1.heap.size none n 0 []):=by rw [<-OQ]; exact Za (AZ w1 _ _ 1 n HN.o.1 HN.o.2)
 have B2:Zj (Zu w2 b 188 #[.pointer none,.pointer none]):=by rw [<-OQ]; exact Za (B0.o.alloc _)
 have K2:Zj (ZA (fun _=>False) w1 w2):=by rw [<-OQ]; exact Za ((ZS _ _).alloc _)
 have x1:=B2.o.frozen 0;have x2:=Xx B2.o 0;clear OQ;go_wp2_with fail;have B3:Zj (Zu (w2.setCell ⟨b,0,none⟩ (.pointer (some ⟨w1.heap.size,0,none⟩))) b 188 #[.pointer (some ⟨w1.heap.size,0,none⟩),.pointer none]):=Za (B2.o.set_ 0 _);obtain ⟨f,hf⟩:=ZR (w1.heap.size);have HF:=Za hf;rw [hf] at B3 R2 ⊢;have hfb:f=b+1:=by rw [<-hf]; exact K0.o.2
 have R3:Zj (YG 148 3 1 (w2.setCell ⟨b,0,none⟩ (.pointer (some ⟨f,0,none⟩))) f none n 0 []):=Za (R2.o.kept (PC _ _ _ _) (fun i hi=>by
  rcases hi with rfl | hi
  ·omega
  ·cases hi))
 have K3:Zj (Zp b w (w2.setCell ⟨b,0,none⟩ (.pointer (some ⟨f,0,none⟩)))/\f < (w2.setCell ⟨b,0,none⟩ (.pointer (some ⟨f,0,none⟩))).heap.size):=Za ⟨(ZA.below K0.o.1 (S:=fun i=>i=b) ((K2.o.more (T:=fun i=>i=b) (fun _ _ h=>h.elim)).trans (PC _ _ _ _) (fun _ _ h=>h)) (fun i h=>by omega) (by rw [K0.o.2]; omega)),R3.o.lt _ (.inl rfl)⟩;have HFB:=Za hfb;clear B2 R2 K2 x1 x2 hf hfb B0 K0;generalize w2.setCell ⟨b,0,none⟩ (.pointer (some ⟨f,0,none⟩))=w3 at*;rw [Xi];go_wp2_with fail;refine (H.o _).mono ?_;rintro e w4 ⟨rfl,hw4⟩;have R4:Zj (YG 148 3 1 w4 w3.heap.size none n 0 []):=by rw [<-hw4]; exact Za (AZ w3 _ _ 1 n HN.o.1 HN.o.2)
 have Q4:Zj (YG 148 3 1 w4 f none n 0 []):=by rw [<-hw4]; exact Za (R3.o.kept (S:=fun _=>False) ((ZS _ _).alloc _) (fun _ _ h=>h))
 have B4:Zj (Zu w4 b 188 #[.pointer (some ⟨f,0,none⟩),.pointer none]):=by rw [<-hw4]; exact Za (B3.o.alloc _)
 have K4:Zj (Zp b w w4):=by rw [<-hw4]; exact Za (K3.o.1.alloc (by have:=K3.o.2; have:=HFB.o; omega) _)
 have x1:=B4.o.frozen 1;have x2:=Xx B4.o 1;clear hw4;go_wp2_with fail;rw [Xi];go_wp2_with fail;go_ret;obtain ⟨v,hv⟩:=ZR (w3.heap.size);have hvf:f < v:=by rw [<-hv]; exact K3.o.2
 have hfb:=HFB.o;rw [hv] at R4 ⊢;have hn: ∀x i,Je x none i->i=x:=fun x i h=>by
  rcases h with rfl | h
  ·rfl
  ·cases h
 have hk:ZA (fun i=>i=b) w4 (w4.setCell ⟨b,1,none⟩ (.pointer (some ⟨v,0,none⟩))):=PC _ _ _ _;refine ⟨by rw [HB.o]; rfl,⟨_,⟨f,v,none,none,⟨by rw [HB.o]; exact B4.o.set_ 1 _,Q4.o.kept hk (fun i hi=>by rw [hn _ _ hi]; omega),R4.o.kept hk (fun i hi=>by rw [hn _ _ hi]; omega),fun i h1 h2=>by have:=hn _ _ h1; have:=hn _ _ h2; omega,fun h=>by have:=hn _ _ h; have:=HB.o; omega,fun h=>by have:=hn _ _ h; have:=HB.o; omega⟩,fun i=>Iff.rfl⟩,?_⟩,?_⟩
 ·rintro i (rfl | h | h)
  ·omega
  ·have:=hn _ _ h; have:=HB.o; omega
  ·have:=hn _ _ h; have:=HB.o; omega
 ·rw [HB.o];exact ZA.below K4.o (PC _ _ _ _) (fun i h=>by omega) (Nat.le_of_lt B4.o.lt)
theorem gV (b f nf:Nat)(w:Zc)(h0:w.cell? ⟨b,0,none⟩=some (.pointer (some ⟨f,0,none⟩)))(h2:w.cell? ⟨f,3,none⟩=some (.int .i64 nf))(hn:0 < nf) :
  Xc 285 #[.pointer (some ⟨b,0,none⟩)] w (.int .i64 0):=by
 have HL:=Za (fun m=>Bj f nf (w.drewN m) h2);go_enter func285,ntmps285;go_wp2;go_step3;go_wp2;go_step3;go_wp2;refine wp_loop_rounds 1 ?_;rw [Xi];go_wp2;go_quiet (fail);go_wp2_with fail;refine (HL.o _).mono ?_;exact Zfr
theorem gW (b f v nv:Nat)(w:Zc)(h0:w.cell? ⟨b,0,none⟩=some (.pointer (some ⟨f,0,none⟩)))(h1:w.cell? ⟨b,1,none⟩=some (.pointer (some ⟨v,0,none⟩)))(h2:w.cell? ⟨f,3,none⟩=some (.int .i64 0))(h3:w.cell? ⟨v,3,none⟩=some (.int .i64 nv))(hn:0 < nv) :
  Xc 285 #[.pointer (some ⟨b,0,none⟩)] w (.int .i64 1):=by
 have HL:=Za (fun m=>Bj f 0 (w.drewN m) h2);have HV:=Za (fun m=>Bj v nv (w.drewN m) h3);go_enter func285,ntmps285;go_wp2;go_step3;go_wp2;go_step3;go_wp2;refine yD ?_;go_wp2;go_quiet (fail);go_wp2_with fail;refine (HL.o _).mono ?_;rintro e w' ⟨rfl,rfl⟩;go_wp2;rw [Xi];go_wp2;go_quiet (fail);go_wp2_with fail;refine (HV.o _).mono ?_;exact Zfr
theorem rF (b f v:Nat)(w:Zc)(h0:w.cell? ⟨b,0,none⟩=some (.pointer (some ⟨f,0,none⟩)))(h1:w.cell? ⟨b,1,none⟩=some (.pointer (some ⟨v,0,none⟩)))(h2:w.cell? ⟨f,3,none⟩=some (.int .i64 0))(h3:w.cell? ⟨v,3,none⟩=some (.int .i64 0)) :
  Xc 285 #[.pointer (some ⟨b,0,none⟩)] w (.int .i64 0):=by
 have HL:=Za (fun m=>Bj f 0 (w.drewN m) h2);have HV:=Za (fun m=>Bj v 0 (w.drewN m) h3);go_enter func285,ntmps285;go_wp2;go_step3;go_wp2;go_step3;go_wp2;refine mY ?_;go_wp2;go_quiet (fail);go_wp2_with fail;refine (HL.o _).mono ?_;rintro e w' ⟨rfl,rfl⟩;go_wp2;rw [Xi];go_wp2;go_quiet (fail);go_wp2_with fail;refine (HV.o _).mono ?_;rintro e w' ⟨rfl,rfl⟩;go_wp2;rw [Xi];go_wp2;try rw [GR]
 exact aT
section
variable {w:Zc} {b n:Nat} {S:Nat->Prop} {F V:List Int}
theorem gU (h:Ln w b S n F V) :Xc 285 #[.pointer (some ⟨b,0,none⟩)] w (.int .i64 (vF F V)):=by
 obtain ⟨f,v,gf,gv,h1,_⟩:=h;have x:=h1.cells;have y:=h1.2.1.cells.2;have z:=h1.2.2.1.cells.2
 rcases F with _ | ⟨x0,F⟩
 ·rcases V with _ | ⟨y0,V⟩
  ·exact rF b f v w x.1 x.2 y z
  ·exact gW b f v _ w x.1 x.2 y z ZE
 ·exact gV b f _ w x.1 y ZE
theorem ao (c:Int)(h:Ln w b S n F V) :Zv Zb 94 #[.pointer (some ⟨b,0,none⟩),.int .i64 c] w fun e w'=>w=w'/\
  ((e= .returned (.pointer none)/\c≠0/\c≠1)\/ ∃r g,e= .returned (.pointer (some ⟨r,0,none⟩))/\(c=0\/c=1)/\YG 148 3 1 w r g n (UA F V c).length ((UA F V c).map (ZG .i64))):=by
 obtain ⟨f,v,gf,gv,h1,_⟩:=h
 by_cases c0:c=0
 ·subst c0;exact (ED b f w h1.cells.1).mono fun e w' ⟨he,hw⟩=>⟨hw,.inr ⟨f,gf,he,.inl rfl,h1.2.1⟩⟩
 ·by_cases c1:c=1
  ·subst c1;exact (Nx b v w h1.cells.2).mono fun e w' ⟨he,hw⟩=>⟨hw,.inr ⟨v,gv,he,.inr rfl,h1.2.2.1⟩⟩
  ·exact (xx b c w Zf).mono fun e w' ⟨he,hw⟩=>⟨hw,.inl ⟨he,c0,c1⟩⟩
theorem kZ {c:Int}(h0:c≠0)(h1:c≠1) :UA F V c=[]:=by rw [UA,if_neg h0,if_neg h1]
theorem ko {c:Int}(h0:c≠0)(h1:c≠1) :Mv n F V c=0:=by rw [Mv,if_neg h0,if_neg h1]
theorem Og {c:Int}(h:c=0\/c=1) :Mv n F V c=n -(UA F V c).length:=by
 rcases h with rfl | rfl <;> rfl
theorem ve (c:Int)(h:Ln w b S n F V) :Xc 177 #[.pointer (some ⟨b,0,none⟩),.int .i64 c] w (.int .i64 (Mv n F V c:Nat)):=by
 have HQ:=Za (ao c h);have hn:=h.size.2.2;clear h;go_enter func177,ntmps177;go_wp2_with fail;refine HQ.o.mono ?_;rintro e w' ⟨rfl,⟨rfl,h0,h1⟩ | ⟨r,g,rfl,hc,hr⟩⟩
 ·have HE:=Za (ko (n:=n) (F:=F) (V:=V) h0 h1);clear h0 h1;go_wp2_with fail;refine (iz _).mono ?_;rintro e w' ⟨rfl,rfl⟩;go_wp2;go_ret;exact ⟨by rw [HE.o]; rfl,0,rfl⟩
 ·have HR:=Za hr;have HE:=Za (Og (n:=n) (F:=F) (V:=V) hc);clear hr hc;go_wp2_with fail;refine (Fj r n _ _ HR.o.cells.1 HR.o.cells.2 hn HR.o.size_le.1).mono ?_;rintro e w' ⟨rfl,m,rfl⟩;go_wp2;go_ret;exact ⟨by rw [HE.o]; rfl,m,rfl⟩
def Mf (w:Zc)(L:List Int)(e:Ending)(w':Zc) :Prop:= ∃v,e= .returned v/\w'.ownsRow w.heap.size 3 1 v L.length (L.map (ZG .i64))/\Zp w.heap.size w w'
end
end
section
open Go Go.RowKit
section
variable {w:Zc} {b n r f v:Nat} {S:Nat->Prop} {F V L:List Int} {g gf gv:Option Nat}
theorem au (h:YG 148 3 1 w r g n L.length (L.map (ZG .i64)))(x:Int)(hr:L.length < n) :
  Zv Zb 123 #[.pointer (some ⟨r,0,none⟩),.slice (some ⟨w.heap.size,0,none⟩) 1 1] (w.alloc (.cells #[.int .i64 x] 3)) fun e w'=>e= .returned (.int .i64 1)/\
   ∃g',YG 148 3 1 w' r g' n (L++[x]).length ((L++[x]).map (ZG .i64))/\Gv w g g'/\ZA (Je r g) w w':=by
 have h0:=h.kept (S:=fun _=>False) ((ZS _ w).alloc (.cells #[.int .i64 x] 3)) (fun _ _ h=>h);have:=MN r n L.length 1 1 g (some ⟨w.heap.size,0,none⟩) _ [.int .i64 x] _ h0 (oG w x _ h.lt) Zf Zf;rw [show min 1 (n - L.length)=1 by omega] at this;exact ZmK
theorem ar (h:YG 148 3 1 w r g n L.length (L.map (ZG .i64)))(x:Int)(hr: ¬L.length < n) :
  Zv Zb 123 #[.pointer (some ⟨r,0,none⟩),.slice (some ⟨w.heap.size,0,none⟩) 1 1] (w.alloc (.cells #[.int .i64 x] 3)) fun e w'=>e= .returned (.int .i64 0)/\
   ∃g',YG 148 3 1 w' r g' n L.length (L.map (ZG .i64))/\Gv w g g'/\ZA (Je r g) w w':=by
 have h0:=h.kept (S:=fun _=>False) ((ZS _ w).alloc (.cells #[.int .i64 x] 3)) (fun _ _ h=>h);have:=MN r n L.length 1 1 g (some ⟨w.heap.size,0,none⟩) _ [.int .i64 x] _ h0 (oG w x _ h.lt) Zf Zf;rw [show min 1 (n - L.length)=0 by omega] at this;exact ZmK
def Mg (w:Zc)(b:Nat)(S:Nat->Prop)(n:Nat)(F V:List Int)(w':Zc) :Prop:= ∃S',Ln w' b S' n F V/\aV S S' w w'
theorem ZcW (c x:Int)(w:Zc)(h:c < 0\/2<=c) :Y6 130 #[.pointer (some ⟨b,0,none⟩),.int .i64 c,.int .i64 x] w (.int .i64 11):=by
 have H:=Za h;clear h;go_enter func130,ntmps130;exact yN
theorem Nw (c x:Int)(k r:Nat)(w:Zc)(Q:Zc->Prop)(hh:c=0\/c=1)(hq:Y6 94 #[.pointer (some ⟨b,0,none⟩),.int .i64 c] w (.pointer (some ⟨r,0,none⟩)))
  (hp:Zv Zb 123 #[.pointer (some ⟨r,0,none⟩),.slice (some ⟨w.heap.size,0,none⟩) 1 1] (w.alloc (.cells #[.int .i64 x] 3)) fun e w'=>e= .returned (.int .i64 k)/\Q w') (hk:k=0\/k=1) :
  Zv Zb 130 #[.pointer (some ⟨b,0,none⟩),.int .i64 c,.int .i64 x] w fun e w'=>e= .returned (.int .i64 (if k=0 then 6 else 0))/\Q w':=by
 have HH:=Za hh;have HQ:=Za hq;have HP:=Za hp;clear hh hq hp
 rcases hk with rfl | rfl
 ·exact Zmx
 ·exact Zmx
theorem Mg.same (h:Ln w b S n F V) :Mg w b S n F V w:=⟨S,h,aV.refl _ _⟩
theorem xu (c x:Int)(h:Ln w b S n F V) :Zv Zb 130 #[.pointer (some ⟨b,0,none⟩),.int .i64 c,.int .i64 x] w fun e w'=>e= .returned (.int .i64 (ZbL n F V c))/\Mg w b S n (LH n F c x) (LI n V c x) w':=by
 have h0:=h;obtain ⟨f,v,gf,gv,h1,h2⟩:=h
 by_cases c0:c=0
 ·subst c0
  by_cases hr:F.length < n
  ·refine (Nw (b:=b) 0 x 1 f w _ (.inl rfl) (ED b f w h1.cells.1) (au h1.2.1 x hr) (.inr rfl)).mono ?_;exact Zm0
  ·refine (Nw (b:=b) 0 x 0 f w _ (.inl rfl) (ED b f w h1.cells.1) (ar h1.2.1 x hr) (.inl rfl)).mono ?_;exact Zm0
 ·by_cases c1:c=1
  ·subst c1
   by_cases hr:V.length < n
   ·refine (Nw (b:=b) 1 x 1 v w _ (.inr rfl) (Nx b v w h1.cells.2) (au h1.2.2.1 x hr) (.inr rfl)).mono ?_;exact Zm1
   ·refine (Nw (b:=b) 1 x 0 v w _ (.inr rfl) (Nx b v w h1.cells.2) (ar h1.2.2.1 x hr) (.inl rfl)).mono ?_;exact Zm1
  ·refine (ZcW c x w Zf).mono ?_;rintro e w' ⟨he,rfl⟩;refine ⟨by rw [he]; simp [ZbL,c0,c1],?_⟩;have:Ln w b S n (LH n F c x) (LI n V c x):=by simpa [LH,LI,c0,c1] using h0
   exact Mg.same this
theorem AK (h:Ln w b S n F V) :Zv Zb 94 #[.pointer (some ⟨b,0,none⟩),.int .i64 (vF F V)] w fun e w'=>w=w'/\ ∃r:Nat,e= .returned (.pointer (some ⟨r,0,none⟩))/\
  Zj (Xc 270 #[.pointer (some ⟨r,0,none⟩),.int .i64 0] w (.tuple #[.int .i64 (Tx F V),.bool (dS F V)]))/\
  Zj (Zv Zb 271 #[.pointer (some ⟨r,0,none⟩)] w fun e w'=>(∃v,e= .returned v)/\Mg w b S n (MI F) (MJ F V) w'):=by
 have h':=h;obtain ⟨f,v,gf,gv,h1,h2⟩:=h
 rcases F with _ | ⟨x,F⟩
 ·rcases V with _ | ⟨y,V⟩
  ·refine (ED b f w h1.cells.1).mono ?_;rintro e w' ⟨he,hw⟩;refine ⟨hw,f,he,Za ((MM f 0 0 w h1.2.1.cells.2 Zf).mono fun e w' ⟨a,b⟩=>⟨a,0,b.symm⟩),Za ((cS f w h1.2.1.cells.2).mono fun e w' ⟨a,b⟩=>⟨⟨_,a⟩,b▸Mg.same h'⟩)⟩
  ·refine (Nx b v w h1.cells.2).mono ?_;rintro e w' ⟨he,hw⟩;refine ⟨hw,v,he,Za (Ou v n _ 0 gv _ _ w h1.2.2.1 rfl),Za ((RU v n V.length gv (V.map (ZG .i64)) (.int .i64 y) w h1.2.2.1).mono fun e w' ⟨a,b1,b2⟩=>⟨⟨_,a⟩,?_⟩)⟩;obtain ⟨S',c1,c2⟩:=h1.setV b1 (fun i e=> .inl e) b2;exact ⟨S',c1,c2.iff h2⟩
 ·refine (ED b f w h1.cells.1).mono ?_;rintro e w' ⟨he,hw⟩;refine ⟨hw,f,he,Za (Ou f n _ 0 gf _ _ w h1.2.1 rfl),Za ((RU f n F.length gf (F.map (ZG .i64)) (.int .i64 x) w h1.2.1).mono fun e w' ⟨a,b1,b2⟩=>⟨⟨_,a⟩,?_⟩)⟩;obtain ⟨S',c1,c2⟩:=h1.setF b1 (fun i e=> .inl e) b2;exact ⟨S',c1,c2.iff h2⟩
theorem Aa (h:Ln w b S n F V) :Xc 265 #[.pointer (some ⟨b,0,none⟩)] w (.tuple #[.int .i64 (Tx F V),.int .i64 (vF F V),.bool (dS F V)]):=by
 have HL:=Za h;clear h;go_enter func265,ntmps265;go_wp2_with fail;refine (gU HL.o).mono ?_;rintro e w' ⟨rfl,m,rfl⟩;have dP:=Za (HL.o.drewN m);go_wp2_with fail;refine (AK dP.o).mono ?_;rintro e w' ⟨rfl,r,rfl,HP,-⟩;clear dP HL;go_wp2_with fail;refine HP.o.mono ?_;rintro e w' ⟨rfl,q,rfl⟩;clear HP;go_wp2;go_ret3;exact ⟨rfl,m+q,rfl⟩
theorem ZcQ (h:Ln w b S n F V) :Zv Zb 284 #[.pointer (some ⟨b,0,none⟩)] w fun e w'=>e= .returned (.tuple #[.int .i64 (Tx F V),.int .i64 (vF F V),.bool (dS F V)])/\Mg w b S n (MI F) (MJ F V) w':=by
 have HL:=Za h;clear h;go_enter func284,ntmps284;go_wp2_with fail;refine (Aa HL.o).mono ?_;rintro e w' ⟨rfl,m,rfl⟩;have dP:=Za (HL.o.drewN m);go_wp2_with fail;refine (AK dP.o).mono ?_;rintro e w' ⟨rfl,r,rfl,-,HP⟩;clear dP HL;go_wp2_with fail;refine HP.o.mono ?_;rintro e w' ⟨⟨u,rfl⟩,S',hl,hg⟩;have HE:Zj (Mg w b S n (MI F) (MJ F V) w'):=Za ⟨S',hl,⟨((ZS _ w).drewN m).trans hg.1 (fun _ _ h=>h),hg.2⟩⟩;clear HP hl hg;go_wp2;go_ret3;exact ⟨rfl,HE.o⟩
end
end
section
open Go Go.RowKit
section
variable {w:Zc} {b n:Nat} {S:Nat->Prop} {F V:List Int}
theorem xj {w:Zc}{g base:Nat}{L:List Int}(h:Zu w g 3 (L.map (ZG .i64)).toArray)(hb:base<=g)(hl:L.length<=9223372036854775807) :w.ownsRow base 3 1 (.slice (some ⟨g,0,none⟩) L.length L.length) L.length (L.map (ZG .i64)):=
 ⟨by simp,.inr ⟨g,L.length,_,rfl,hb,h,Zh _,by unfold maxLen; omega,by simp,List.take_of_length_le ZE⟩⟩
theorem PO {r size:Nat}{g:Option Nat}{L:List Int}(h:YG 148 3 1 w r g size L.length (L.map (ZG .i64))) :
  Zv Zb 45 #[.pointer (some ⟨r,0,none⟩)] w (Mf w L):=by
 refine (AU r size L.length g _ w h).mono ?_;rintro e w' ⟨he,hb,hw⟩;exact ⟨_,he,xj hb (Zh _) (by have:=h.size_le; omega),hw⟩
theorem jG (c:Int)(h:Ln w b S n F V) :Zv Zb 46 #[.pointer (some ⟨b,0,none⟩),.int .i64 c] w (Mf w (UA F V c)):=by
 have HQ:=Za (ao c h);clear h;go_enter func46,ntmps46;go_wp2_with fail;refine HQ.o.mono ?_;rintro e w' ⟨rfl,⟨rfl,h0,h1⟩ | ⟨r,g,rfl,hc,hr⟩⟩
 ·have HE:=Za (kZ (F:=F) (V:=V) h0 h1);clear h0 h1;go_wp2_with fail;refine (l9 _).mono ?_;rintro e w' ⟨rfl,rfl⟩;go_wp2;go_ret;exact ⟨_,rfl,by rw [HE.o]; exact Y4 _ _ _ _,Zn _ _⟩
 ·have HR:=Za (PO hr);clear hr hc;go_wp2_with fail;refine HR.o.mono ?_;rintro e w' ⟨v,rfl,ho,hb⟩;have HO:=Za ho;have HB:=Za hb;clear ho hb;go_wp2;go_ret;exact ⟨_,rfl,HO.o,HB.o⟩
theorem tR (c:Int)(w:Zc)(h:c < 0\/2<=c) :Y6 216 #[.pointer (some ⟨b,0,none⟩),.int .i64 c] w (.slice none 0 0):=by
 have H:=Za h;clear h;go_enter func216,ntmps216;exact yN
theorem eI {w0 w1 w2:Zc}{v:Zl}{B n:Nat}{xs:List Zl}{t:ZL}(h:Zp B w0 w1)(hB:B<=w1.heap.size)(hg:w1.grownBy w2 v.ownBlock)(ho:w1.ownsRow B t 1 v n xs) :Zp B w0 w2:=h.grown hg hB (fun q hq=>(ho.lt q hq).1)
theorem jF (h:Ln w b S n F V) :Zv Zb 216 #[.pointer (some ⟨b,0,none⟩),.int .i64 0] w (Mf w F):=by
 obtain ⟨j0,OP,GO,GF,EO⟩:=Gj;obtain ⟨f,v,gf,gv,h1,h2⟩:=h;have x0:=h1.cells.1;have HF:=Za (PO h1.2.1);have hs:=h1.2.1.size_le;clear h1 h2;go_enter func216,ntmps216;go_wp2_with fail;refine (Pp _ _ _ (.inl rfl)).mono ?_;rintro e w' ⟨rfl,rfl⟩;go_wp2_with fail;refine yD ?_;go_wp2_with fail;refine HF.o.mono ?_;rintro e w1 ⟨u,rfl,ho,hb⟩;have HO:=Za ho;have HB:=Za hb;obtain ⟨a,cp,rfl,_,_,_,hi⟩:=QC (S:=fun _=>False) ho (fun _ _ h=>h);have HI:=Za hi.src;clear hi ho hb HF x0;go_wp2_with (at_builtin; refine YR _ rfl (.tmp 23) (.tmp 25) 24 rfl w.heap.size 3 j0 _ 1 8 underlying24 OP GO GF EO rfl Qx (.slice none 0 0) 0 [] rfl (Y4 _ _ _ _) a F.length cp (F.map (ZG .i64)) rfl ZE (fun h0=>by obtain ⟨ad,e,_,hc⟩:=HI.o.2.2 h0; exact ⟨ad,e,hc⟩) HI.o.2.1 Vx Zf HB.o.size ?_; intro v2 w2 ho2 CQ SJ);have HP:Zj (w2.ownsRow w.heap.size 3 1 v2 F.length (F.map (ZG .i64))/\Zp w.heap.size w w2):=Za ⟨by simpa using ho2,HB.o.grown CQ HB.o.size (fun q hq=>by cases hq)⟩;clear ho2 CQ SJ HO HB HI;go_wp2_with fail;rw [Xi];go_wp2_with fail;go_ret;exact ⟨_,rfl,HP.o.1,HP.o.2⟩
theorem pQ (h:Ln w b S n F V) :Zv Zb 216 #[.pointer (some ⟨b,0,none⟩),.int .i64 1] w (Mf w (F++V)):=by
 obtain ⟨j0,OP,GO,GF,EO⟩:=Gj;obtain ⟨f,v,gf,gv,h1,h2⟩:=h;have x0:=h1.cells.1;have H1:=Za h1;have HF:=Za (PO h1.2.1);have hs:=h1.2.1.size_le;have ht:=h1.2.2.1.size_le;clear h1 h2;go_enter func216,ntmps216;go_wp2_with fail;refine (Pp _ _ _ (.inr rfl)).mono ?_;rintro e w' ⟨rfl,rfl⟩;go_wp2_with fail;refine mY ?_;go_wp2_with fail;refine HF.o.mono ?_;rintro e w1 ⟨u,rfl,ho,hb⟩;have HO:=Za ho;have HB:=Za hb;obtain ⟨a,cp,rfl,_,_,_,hi⟩:=QC (S:=fun _=>False) ho (fun _ _ h=>h);have HI:=Za hi.src;clear hi ho hb HF x0;go_wp2_with (at_builtin; refine YR _ rfl (.tmp 23) (.tmp 25) 24 rfl w.heap.size 3 j0 _ 1 8 underlying24 OP GO GF EO rfl Qx (.slice none 0 0) 0 [] rfl (Y4 _ _ _ _) a F.length cp (F.map (ZG .i64)) rfl ZE (fun h0=>by obtain ⟨ad,e,_,hc⟩:=HI.o.2.2 h0; exact ⟨ad,e,hc⟩) HI.o.2.1 Vx Zf HB.o.size ?_; intro v2 w2 ho2 CQ SJ);have HP:Zj (w2.ownsRow w.heap.size 3 1 v2 F.length (F.map (ZG .i64))/\Zp w.heap.size w w2):=Za ⟨by simpa using ho2,HB.o.grown CQ HB.o.size (fun q hq=>by cases hq)⟩;have KP:ZA (fun _=>False) w w2:=ZA.of_below HP.o.2;have x1:=KP.cell (fun h=>h) H1.o.cells.2;have HV:=Za (PO (H1.o.2.2.1.kept KP (fun _ _ h=>h)));clear ho2 CQ SJ HO HB HI KP;go_wp2_with fail;rw [Xi];go_wp2_with fail;refine HV.o.mono ?_;rintro e w3 ⟨u,rfl,ho,hb⟩;have HO:=Za (show w3.ownsRow w.heap.size 3 1 v2 F.length (F.map (ZG .i64))/\Zp w.heap.size w w3 from ⟨lz HP.o.1 hb,HP.o.2.trans (hb.mono HP.o.2.size)⟩);obtain ⟨a,cp,rfl,_,_,_,hi⟩:=QC (S:=fun _=>False) ho (fun _ _ h=>h);have HI:=Za hi.src;clear hi ho hb HV x1;go_wp2_with (at_builtin; refine YR _ rfl (.tmp 23) (.tmp 25) 24 rfl w.heap.size 3 j0 _ 1 8 underlying24 OP GO GF EO rfl Qx v2 F.length (F.map (ZG .i64)) rfl HO.o.1 a V.length cp (V.map (ZG .i64)) rfl ZE (fun h0=>by obtain ⟨ad,e,_,hc⟩:=HI.o.2.2 h0; exact ⟨ad,e,hc⟩) HI.o.2.1 Vx Zf HO.o.2.size ?_; intro v4 w4 ho4 hg4 hv4);have HQ:Zj (w4.ownsRow w.heap.size 3 1 v4 (F++V).length ((F++V).map (ZG .i64))/\Zp w.heap.size w w4):=Za ⟨by simpa using ho4,eI HO.o.2 HO.o.2.size hg4 HO.o.1⟩;clear ho4 hg4 hv4 HO HI HP H1;go_wp2_with fail;rw [Xi];go_wp2_with fail;go_ret;exact ⟨_,rfl,HQ.o.1,HQ.o.2⟩
theorem pP (c:Int)(h:Ln w b S n F V) :Zv Zb 216 #[.pointer (some ⟨b,0,none⟩),.int .i64 c] w (Mf w (KH F V c)):=by
 by_cases c0:c=0
 ·subst c0; exact jF h
 ·by_cases c1:c=1
  ·subst c1; exact pQ h
  ·rw [KH,if_neg c0,if_neg c1];exact (tR c w Zf).mono fun e w' ⟨he,hw⟩=>⟨_,he,Y4 _ _ _ _,hw▸Zn _ _⟩
end
end
section
def EW (om:Int->Int) :List Int->List Int->Int->List (Int × Int) × List Int × List Int × Int
 | [],[],B=>([],[],[],B)
 | [],x::V,B=>if om x<=B then((x,1)::(EW om [] V (B - om x)).1,(EW om [] V (B - om x)).2) else([],[],x::V,B)
 | x::F,V,B=>if om x<=B then((x,0)::(EW om F V (B - om x)).1,(EW om F V (B - om x)).2) else([],x::F,V,B)
termination_by F V=>F.length+V.length
section
variable {om:Int->Int} {F V:List Int} {B:Int}
theorem eC (h:dS F V=false) :EW om F V B=([],F,V,B)/\F=[]/\V=[]:=by
 rcases F with _ | ⟨x,F⟩
 ·rcases V with _ | ⟨y,V⟩
  ·exact ⟨by rw [EW],rfl,rfl⟩
  ·cases h
 ·cases h
theorem eD (h:dS F V=true)(hx: ¬om (Tx F V)<=B) :EW om F V B=([],F,V,B):=by
 rcases F with _ | ⟨x,F⟩
 ·rcases V with _ | ⟨y,V⟩
  ·cases h
  ·simp only [Tx] at hx; rw [EW,if_neg hx]
 ·simp only [Tx] at hx; rw [EW,if_neg hx]
theorem ez (h:dS F V=true)(hx:om (Tx F V)<=B) :EW om F V B=((Tx F V,vF F V)::(EW om (MI F) (MJ F V) (B - om (Tx F V))).1,(EW om (MI F) (MJ F V) (B - om (Tx F V))).2):=by
 rcases F with _ | ⟨x,F⟩
 ·rcases V with _ | ⟨y,V⟩
  ·cases h
  ·simp only [Tx] at hx; rw [EW,if_pos hx]; rfl
 ·simp only [Tx] at hx; rw [EW,if_pos hx]; rfl
theorem cI (h:dS F V=true) :(MI F).length+(MJ F V).length+1=F.length+V.length:=by
 rcases F with _ | ⟨x,F⟩
 ·rcases V with _ | ⟨y,V⟩
  ·cases h
  ·simp [MI,MJ]
 ·simp [MI,MJ]; omega
theorem xn (F V:List Int) :(MI F).length<=F.length/\(MJ F V).length<=V.length:=by
 rcases F with _ | ⟨x,F⟩
 ·rcases V with _ | ⟨y,V⟩<;> simp [MI,MJ]
 ·simp [MI,MJ]
end
theorem O9 {om:Int->Int}{P:List Int->List Int->Int->List (Int × Int) × List Int × List Int × Int->Prop}(hnone: ∀B,P [] [] B ([],[],[],B))
  (wj: ∀F V B,dS F V=true-> ¬om (Tx F V)<=B->P F V B ([],F,V,B))
  (hnext: ∀F V B r,dS F V=true->om (Tx F V)<=B->P (MI F) (MJ F V) (B - om (Tx F V)) r->P F V B ((Tx F V,vF F V)::r.1,r.2)) : ∀(n:Nat) (F V:List Int) (B:Int),F.length+V.length=n->P F V B (EW om F V B):=by
 intro n
 induction n with
 | zero=>
  intro F V B h;obtain rfl:=ZO (show F.length=0 by omega);obtain rfl:=ZO (show V.length=0 by omega);rw [(eC rfl).1];exact hnone B
 | succ n ih=>
  intro F V B h;have hb:dS F V=true:=by
   rcases F with _ | ⟨x,F⟩
   ·rcases V with _ | ⟨y,V⟩
    ·simp at h
    ·rfl
   ·rfl
  by_cases hx:om (Tx F V)<=B
  ·rw [ez hb hx];exact hnext F V B _ hb hx (ih _ _ _ (by have:=cI hb; omega))
  ·rw [eD hb hx];exact wj F V B hb hx
def df (om:Int->Int) :List (Int × Int)->Int
 | []=>0
 | p::l=>om p.1+df om l
section
variable {om:Int->Int}
theorem iV (h: ∀i,0<=om i)(l:List (Int × Int)) :0<=df om l:=by
 induction l with
 | nil=>simp [df]
 | cons p l ih=>simp only [df]; have:=h p.1; omega
theorem Zbg (om:Int->Int)(F V:List Int)(B:Int) :(EW om F V B).2.2.2=B - df om (EW om F V B).1:=
 O9 (P:=fun F V B r=>r.2.2.2=B - df om r.1) (fun B=>by simp [df]) (fun F V B _ _=>by simp [df]) (fun F V B r _ _ h=>by simp only [df,h]; omega) _ F V B rfl
theorem tX (om:Int->Int)(F V:List Int)(B:Int)(h0:0<=B) :0<=(EW om F V B).2.2.2:=
 O9 (P:=fun F V B r=>0<=B->0<=r.2.2.2) (fun B h=>h) (fun F V B _ _ h=>h) (fun F V B r _ hx h h0=>h Zf) _ F V B rfl h0
theorem nw (om:Int->Int)(F V:List Int)(B:Int) :(EW om F V B).1.length+(EW om F V B).2.1.length+(EW om F V B).2.2.1.length=F.length+V.length:=
 O9 (P:=fun F V B r=>r.1.length+r.2.1.length+r.2.2.1.length=F.length+V.length) (fun B=>rfl) (fun F V B _ hx=>by simp) (fun F V B r hb hx h=>by have:=cI hb; simp; omega) _ F V B rfl
end
end
section
open Go Go.RowKit
def TD (ep:Int)(l:List (Int × Int)) :List Zl:=l.flatMap fun p=> [.int .i64 p.1,.int .i64 p.2,.int .i64 ep]
theorem sf (ep:Int)(l:List (Int × Int))(p:Int × Int) :TD ep (l++[p])=TD ep l++[.int .i64 p.1,.int .i64 p.2,.int .i64 ep]:=by simp [TD]
theorem Zbf: ∃i,Tryz.prog.info? 280=some i/\i.zero=some (.agg #[.int .i64 0,.int .i64 0,.int .i64 0])/\i.size=3/\i.bytes=24:=by
 have h:(Tryz.prog.info? 280).map (fun i=>(i.zero,i.size,i.bytes))=some (some (.agg #[.int .i64 0,.int .i64 0,.int .i64 0]),3,24):=ZC
 cases hi:Tryz.prog.info? 280 with
 | none=>exact LV
 | some i=>
  exact Oa
theorem Ih {w:Zc}{base n size:Nat}{e:ZL}{v:Zl}{xs:List Zl}(h:w.ownsRow base e size v n xs) : ∃a cp,v= .slice a n cp:=yQ
def Dx (w:Zc)(b m nn:Nat)(S:Nat->Prop)(Sp B0 D ep:Int)(wr:Zc)(v:Zl)(out:List (Int × Int))(F V:List Int)(B:Int) :Prop:=
 ∃S1 T1,Ln wr b S1 nn F V/\(∀i,S1 i->S i\/w.heap.size<=i)/\ ¬S1 m/\VK wr m B (Sp+(B0 - B)) T1 D/\Jr B (Sp+(B0 - B)) T1 D/\
  wr.ownsRow w.heap.size 280 3 v out.length (TD ep out)/\(∀g,v.ownBlock=some g-> ¬S1 g)/\ZA (fun i=>i=m\/S i) w wr/\m < w.heap.size
section
variable {w wr w':Zc} {b m nn:Nat} {S:Nat->Prop} {Sp B0 D ep B x:Int} {v:Zl} {out:List (Int × Int)} {F V:List Int}
theorem Dx.drewN (h:Dx w b m nn S Sp B0 D ep wr v out F V B)(q:Nat) :Dx w b m nn S Sp B0 D ep (wr.drewN q) v out F V B:=by
 obtain ⟨S1,T1,h1,h2,h3,h4,h5,h6,h7,h8,h9⟩:=h;exact ⟨S1,T1,h1,h2,h3,h4,h5,h6,h7,h8.drewN q,h9⟩
theorem Dx.head (h:Dx w b m nn S Sp B0 D ep wr v out F V B) :Xc 265 #[.pointer (some ⟨b,0,none⟩)] wr (.tuple #[.int .i64 (Tx F V),.int .i64 (vF F V),.bool (dS F V)]):=by
 obtain ⟨S1,T1,h1,_⟩:=h;exact Aa h1
theorem Dx.refuse (h:Dx w b m nn S Sp B0 D ep wr v out F V B)(hx: ¬x<=B) :Xc 264 #[.pointer (some ⟨m,0,none⟩),.int .u64 x] wr (.bool false):=by
 obtain ⟨S1,T1,h1,h2,h3,h4,h5,_⟩:=h;exact Zdx m _ _ _ _ x wr h4 h5 Zf
theorem Dx.take (h:Dx w b m nn S Sp B0 D ep wr v out F V B)(x0:0<=x)(hx:x<=B) :Zv Zb 264 #[.pointer (some ⟨m,0,none⟩),.int .u64 x] wr fun e w'=>e= .returned (.bool true)/\Zj (Dx w b m nn S Sp B0 D ep w' v out F V (B - x)):=by
 obtain ⟨S1,T1,h1,h2,h3,h4,h5,h6,h7,h8,h9⟩:=h;obtain ⟨T',hT,hN,hG,hb⟩:=Zdw h5 x0 hx;refine (yj m _ _ _ _ T' x wr h4 h5 hx hT hG hb).mono ?_;rintro e w' ⟨he,hm,hg⟩;have k:ZA (fun i=>i=m) wr w':=XF hg (fun i e=>by injection e);have es:Sp+(B0 - B)+x=Sp+(B0 -(B - x)):=Zf;rw [es] at hm hN;exact ⟨he,Za ⟨S1,T',h1.kept k (fun i hi e=>h3 dG),h2,h3,hm,hN,F7 h6 k (fun g hg e=>by have:=(h6.lt g hg).1; have:g=m:=e; omega),h7,h8.trans k (fun i _ e=> .inl e),h9⟩⟩
theorem Dx.pop (h:Dx w b m nn S Sp B0 D ep wr v out F V B) :Zv Zb 284 #[.pointer (some ⟨b,0,none⟩)] wr fun e w'=>e= .returned (.tuple #[.int .i64 (Tx F V),.int .i64 (vF F V),.bool (dS F V)])/\Zj (Dx w b m nn S Sp B0 D ep w' v out (MI F) (MJ F V) B):=by
 obtain ⟨S1,T1,h1,h2,h3,h4,h5,h6,h7,h8,h9⟩:=h;refine (ZcQ h1).mono ?_;rintro e w' ⟨he,S2,hl,hg⟩;have new: ∀i,i < wr.heap.size-> ¬S1 i-> ¬S2 i:=fun i hi hn hs=>(hg.2 i hs).elim hn (fun h=>by omega)
 refine ⟨he,Za ⟨S2,T1,hl,fun i hi=>?_,new m (Nat.lt_of_lt_of_le h9 h8.size) h3,Zu.kept (w:=wr) h4 hg.1 h3,h5,F7 h6 hg.1 h7,fun g hg'=>new g (h6.lt g hg').2 (h7 g hg'),h8.trans hg.1 (fun i hi h=>(h2 i h).elim .inr (fun h=>by omega)),h9⟩⟩
 rcases hg.2 i hi with h | h
 ·exact h2 i h
 ·exact .inr (ZZ h8.size h)
theorem Dx.alloc (h:Dx w b m nn S Sp B0 D ep wr v out F V B)(o:Obj) :Dx w b m nn S Sp B0 D ep (wr.alloc o) v out F V B:=by
 obtain ⟨S1,T1,h1,h2,h3,h4,h5,h6,h7,h8,h9⟩:=h;have k:ZA (fun _=>False) wr (wr.alloc o):=(ZS _ _).alloc o;exact ⟨S1,T1,h1.kept k (fun _ _ h=>h),h2,h3,YK h4 o,h5,h6.alloc _,h7,h8.alloc o,h9⟩
theorem Dx.app {v':Zl}{p:Int × Int}(h:Dx w b m nn S Sp B0 D ep wr v out F V B)(ho:w'.ownsRow w.heap.size 280 3 v' (out.length+1) (TD ep out++[.int .i64 p.1,.int .i64 p.2,.int .i64 ep]))(hg:wr.grownBy w' v.ownBlock)
  (ha:v'.ownBlock=v.ownBlock\/v'.ownBlock=some wr.heap.size) :Dx w b m nn S Sp B0 D ep w' v' (out++[p]) F V B:=by
 obtain ⟨S1,T1,h1,h2,h3,h4,h5,h6,h7,h8,h9⟩:=h;have k:ZA (fun i=>some i=v.ownBlock) wr w':=XF hg (fun i e=>e);refine ⟨S1,T1,h1.kept k (fun i hi e=>h7 i (Eq.symm e) hi),h2,h3,Zu.kept (w:=wr) h4 k (fun e=>by have:=(h6.lt m (Eq.symm e)).1; omega),h5,by rw [sf]; simpa using ho,fun g hg'=>?_,h8.trans k (fun i hi e=>by have:=(h6.lt i (Eq.symm e)).1; omega),h9⟩
 rcases ha with ha | ha
 ·exact h7 g (ha▸hg')
 ·rw [ha] at hg';injection hg' with hg';exact fun hs=>by have:=h1.lt g hs; omega
end
def Zkw (w:Zc)(g:Nat)(l:List Zl) :Prop:=(0 < 1-> ∃ad,some (⟨g,0,none⟩ :Addr)=some ad/\ ∀j u,l[j]?=some u->w.cell? (ad.add j)=some u)/\ ∀u ∈ l,u.oneCell'=true
theorem ya (w:Zc)(t:ZL)(x y z:Int) :Zkw (w.alloc (.cells #[.int .i64 x,.int .i64 y,.int .i64 z] t)) w.heap.size [.int .i64 x,.int .i64 y,.int .i64 z]:=by
 refine ⟨fun _=>⟨_,rfl,fun j u hj=>?_⟩,fun u hu=>?_⟩
 ·rw [add_plain,ZW,(Zs w t #[.int .i64 x,.int .i64 y,.int .i64 z]).cell];simpa using hj
 ·simp at hu;exact pw
def OW (w:Zc)(b m nn:Nat)(S:Nat->Prop)(Sp B0 D ep:Int)(om:Int->Int)(F V:List Int)(e:Ending)(w':Zc) :Prop:=
 ∃a c,e= .returned (.slice a (EW om F V B0).1.length c)/\Zj (Dx w b m nn S Sp B0 D ep w' (.slice a (EW om F V B0).1.length c) (EW om F V B0).1 (EW om F V B0).2.1 (EW om F V B0).2.2.1 (EW om F V B0).2.2.2)
section
variable {w:Zc} {b m nn:Nat} {S:Nat->Prop} {B Sp T D ep:Int} {F V L:List Int} {wa:Option Addr} {cap:Nat}
theorem ik (hl:Ln w b S nn F V)(hm:VK w m B Sp T D)(hF:Jr B Sp T D)(hn: ¬S m)(hu:Ss w (fun i=>i=m\/S i) wa L)(hL:L.length<=9223372036854775807)(hA:NI L) :
  Zv Zb 263 #[.int .i64 ep,.pointer (some ⟨b,0,none⟩),.slice wa L.length cap,.func (.func 264) #[.pointer (some ⟨m,0,none⟩)] #[]] w (OW w b m nn S Sp B D ep (KK L) F V):=by
 obtain ⟨j0,OP,GO,GF,EO⟩:=Zbf;have BK:=hl.size;have HU:=Za hu;have HA:=Za hA;have HL:=Za hL;have vW:=Zu.lt hm;have H0:Zj (Dx w b m nn S Sp B D ep w (.slice none 0 0) [] F V B):=Za ⟨S,T,hl,fun i hi=> .inl hi,hn,by rw [show Sp+(B - B)=Sp by omega]; exact hm,by rw [show Sp+(B - B)=Sp by omega]; exact hF,Y4 _ _ _ _,(fun g hg=>by cases hg),ZS _ _,vW⟩;have HN:Zj (F.length+V.length<=2097152):=Za Zf;clear hl hm hF hn hu hA BK vW hL;go_enter func263,ntmps263;go_wp2;go_loopg [9] (F.length+V.length) (fun g s9 wr=> ∃(F1 V1:List Int) (B1:Int) (out:List (Int × Int)) (k:Nat) (a:Option Addr) (c:Nat),F1.length+V1.length=g/\s9= .slice a k c/\Zj (k=out.length/\k+g<=2097152)/\
  Zj (Dx w b m nn S Sp B D ep wr (.slice a k c) out F1 V1 B1)/\Zj (EW (KK L) F V B=(out++(EW (KK L) F1 V1 B1).1,(EW (KK L) F1 V1 B1).2)))
 case atStart=>exact ⟨F,V,B,[],0,none,0,rfl,rfl,Za ⟨rfl,by have:=HN.o; omega⟩,H0,Za rfl⟩
 case round=>
  clear H0 HN;obtain ⟨F1,V1,B1,out,k,a,c,hg,rfl,HK,HP,HE⟩:=hrel;have HG:=Za hg;clear hg;go_wp2_with fail;refine HP.o.head.mono ?_;rintro e w1 ⟨rfl,q,rfl⟩;have HP1:=Za (HP.o.drewN q);have HU1:Zj (Ss (wr.drewN q) (fun i=>i=m\/S i) wa L):=Za (by
   obtain ⟨_,_,_,_,_,_,_,_,_,k8,_⟩:=HP1.o;exact HU.o.kept k8 (fun _ _ h=>h))
  clear HP;generalize wr.drewN q=w1 at*
  cases hb:dS F1 V1
  ·have HR:Zj (OW w b m nn S Sp B D ep (KK L) F V (.returned (.slice a k c)) w1):=Za (by
    have e1:=HE.o;rw [(eC hb).1,X8] at e1;refine ⟨a,c,by rw [e1]; simp only [HK.o.1],?_⟩;rw [e1];have:=HP1.o;rw [HK.o.1] at this;exact Za this)
   clear HP1 HU1 HE HK;have HB:=Za hb;clear hb;go_wp2;try rw [GR]
   go_ret;exact HR.o
  ·have HB:=Za hb;clear hb;obtain ⟨x,hx⟩:=ZR (KK L (Tx F1 V1));have hi:=fun w h=>Cr (S:=fun i=>i=m\/S i) (a:=wa) cap (Tx F1 V1) w h HL.o
   rw [hx] at hi;have HI:=Za hi;have HX:=Za hx;have kC:=PY HA.o (Tx F1 V1);rw [hx] at kC;have IA:=Za kC;clear hi hx kC
   by_cases hle:x<=B1
   ·have HT:=Za (HP1.o.take IA.o.1 hle);have Me:Zj (EW (KK L) F V B=((out++[(Tx F1 V1,vF F1 V1)])++(EW (KK L) (MI F1) (MJ F1 V1) (B1 - x)).1,(EW (KK L) (MI F1) (MJ F1 V1) (B1 - x)).2)):=Za (by
     have e1:=HE.o;rw [ez HB.o (by rw [HX.o]; exact hle),HX.o] at e1;rw [e1]; simp)
    have HG2:Zj ((MI F1).length+(MJ F1 V1).length+1=gk):=Za (by have:=cI HB.o; have:=HG.o; omega);clear hle HE HX IA HP1;go_wp2_with fail;refine (HI.o _ HU1.o).mono ?_;rintro e w' ⟨rfl,rfl⟩;go_wp2_with fail;refine HT.o.mono ?_;rintro e w2 ⟨rfl,HP2⟩;clear HT HI HU1;go_wp2_with fail;refine HP2.o.pop.mono ?_;rintro e w3 ⟨rfl,HP3⟩;clear HP2;generalize MI F1=F2 at*;generalize MJ F1 V1=V2 at*;generalize Tx F1 V1=ix at*;generalize vF F1 V1=ic at*;generalize dS F1 V1=ib at*;have HP4:Zj (Dx w b m nn S Sp B D ep (w3.alloc (.cells #[.int .i64 ix,.int .i64 ic,.int .i64 ep] 280)) (.slice a k c) out F2 V2 (B1 - x)):=Za (HP3.o.alloc _);have To:Zj ((w3.alloc (.cells #[.int .i64 ix,.int .i64 ic,.int .i64 ep] 280)).ownsRow w.heap.size 280 3 (.slice a k c) k (TD ep out)/\w.heap.size<=w3.heap.size):=Za (by
     obtain ⟨_,_,_,_,_,_,_,k6,_,k8,_⟩:=HP4.o;obtain ⟨_,_,_,_,_,_,_,_,_,k8',_⟩:=HP3.o;exact ⟨by rw [<-HK.o.1] at k6; exact k6,k8'.size⟩)
    have hkb:k<=2097152:=by have:=HK.o.2; omega
    clear HP3;have HN1:Zj (Zkw (w3.alloc (.cells #[.int .i64 ix,.int .i64 ic,.int .i64 ep] 280)) w3.heap.size [.int .i64 ix,.int .i64 ic,.int .i64 ep]):=Za (ya w3 _ ix ic ep);go_wp2_with (at_builtin; refine YR _ rfl (.tmp 32) (.tmp 37) 50 rfl w.heap.size 280 j0 _ 3 24 underlying50 OP GO GF EO rfl Y5 (.slice a k c) k (TD ep out) rfl To.o.1 (some ⟨w3.heap.size,0,none⟩) 1 1 [.int .i64 ix,.int .i64 ic,.int .i64 ep] rfl rfl HN1.o.1 HN1.o.2 Vx Zf (by have:=To.o.2; simp; omega) ?_);intro v' w5 ho5 hg5 ha5;have HP5:Zj (Dx w b m nn S Sp B D ep w5 v' (out++[(ix,ic)]) F2 V2 (B1 - x)):=Za (HP4.o.app (p:=(ix,ic)) (by rw [<-HK.o.1]; exact ho5) hg5 (by simpa using ha5));obtain ⟨a5,c5,rfl⟩:=Ih ho5;have HK5:Zj (k+1=(out++[(ix,ic)]).length/\k+1+(gk - 1)<=2097152):=Za ⟨by rw [List.length_append,HK.o.1]; rfl,by have:=HK.o.2; have:=HG2.o; omega⟩;have HGG:Zj (F2.length+V2.length=gk - 1/\0 < gk):=Za (by have:=HG2.o; omega);clear ho5 hg5 ha5 HP4 To HK HG HG2 hkb HN1;go_wp2;go_roundg (gk - 1)
    case measure=>have:=HGG.o.2; omega
    case rel=>exact ⟨F2,V2,B1 - x,out++[(ix,ic)],k+1,a5,c5,HGG.o.1,rfl,HK5,HP5,Me⟩
   ·have HT:=Za (HP1.o.refuse hle);have HR:Zj (∀q,OW w b m nn S Sp B D ep (KK L) F V (.returned (.slice a k c)) (w1.drewN q)):=Za (fun q=>by
     have e1:=HE.o;rw [eD HB.o (by rw [HX.o]; exact hle),X8] at e1;refine ⟨a,c,by rw [e1]; simp only [HK.o.1],?_⟩;rw [e1];have:=HP1.o.drewN q;rw [HK.o.1] at this;exact Za this)
    clear HP1 HE HK HX;go_wp2_with fail;refine (HI.o _ HU1.o).mono ?_;rintro e w' ⟨rfl,rfl⟩;go_wp2_with fail;refine HT.o.mono ?_;rintro e w2 ⟨rfl,q2,rfl⟩;clear HT HI HU1;go_wp2;try rw [GR]
    go_ret;exact HR.o _
end
end
section
open Go Go.RowKit
def gr (B x:Int) :Int:=B+(if 18446744073709551615 - B < x then 18446744073709551615 - B else x)
def He (om:Int->Int)(F V:List Int)(B x:Int) :List (Int × Int) × List Int × List Int × Int:=EW om F V (gr B x)
def FR (r:List (Int × Int) × List Int × List Int × Int) :Int:=if dS r.2.1 r.2.2.1=true then r.2.2.2 else 0
def Tp (w:Zc)(b m nn:Nat)(S:Nat->Prop)(ep:Int)(wr:Zc)(v:Zl)(out:List (Int × Int))(F V:List Int)(B Sp:Int) :Prop:=
 ∃S1 T1 D1,Ln wr b S1 nn F V/\(∀i,S1 i->S i\/w.heap.size<=i)/\ ¬S1 m/\VK wr m B Sp T1 D1/\Jr B Sp T1 D1/\
  wr.ownsRow w.heap.size 280 3 v out.length (TD ep out)/\(∀g,v.ownBlock=some g-> ¬S1 g)/\ZA (fun i=>i=m\/S i) w wr/\m < w.heap.size
theorem cB {w:Zc}{base Zd5 n size:Nat}{e:ZL}{v:Zl}{xs:List Zl}(h:w.ownsRow base e size v n xs)(hb:Zd5<=base) :w.ownsRow Zd5 e size v n xs:=by
 obtain ⟨h1,h2⟩:=h;refine ⟨h1,?_⟩
 rcases h2 with h2 | ⟨g,cap,cur,rfl,h3,h4⟩
 ·exact .inl h2
 ·exact .inr ⟨g,cap,cur,rfl,ZZ hb h3,h4⟩
section
variable {w w1 wr w':Zc} {b m nn:Nat} {S:Nat->Prop} {Sp B0 D ep B x:Int} {v:Zl} {out:List (Int × Int)} {F V:List Int}
theorem Dx.to (h:Dx w1 b m nn S Sp B0 D ep wr v out F V B)(k:ZA (fun i=>i=m\/S i) w w1)(hm:m < w.heap.size) :Tp w b m nn S ep wr v out F V B (Sp+(B0 - B)):=by
 obtain ⟨S1,T1,h1,h2,h3,h4,h5,h6,h7,h8,h9⟩:=h;exact ⟨S1,T1,D,h1,fun i hi=>(h2 i hi).imp id (fun h=>ZZ k.size h),h3,h4,h5,cB h6 k.size,h7,k.trans h8 (fun _ _ h=>h),hm⟩
theorem Tp.drewN (h:Tp w b m nn S ep wr v out F V B Sp)(q:Nat) :Tp w b m nn S ep (wr.drewN q) v out F V B Sp:=by
 obtain ⟨S1,T1,D1,h1,h2,h3,h4,h5,h6,h7,h8,h9⟩:=h;exact ⟨S1,T1,D1,h1,h2,h3,h4,h5,h6,h7,h8.drewN q,h9⟩
theorem Tp.head (h:Tp w b m nn S ep wr v out F V B Sp) :Xc 265 #[.pointer (some ⟨b,0,none⟩)] wr (.tuple #[.int .i64 (Tx F V),.int .i64 (vF F V),.bool (dS F V)]):=by
 obtain ⟨S1,T1,D1,h1,_⟩:=h;exact Aa h1
theorem Tp.drop (h:Tp w b m nn S ep wr v out F V B Sp) :Zv Zb 266 #[.pointer (some ⟨m,0,none⟩)] wr fun e w'=>e= .returned (.int .u64 B)/\Zj (Tp w b m nn S ep w' v out F V 0 Sp):=by
 obtain ⟨S1,T1,D1,h1,h2,h3,h4,h5,h6,h7,h8,h9⟩:=h;obtain ⟨D',hD,hN,hG⟩:=ZbA h5;refine (uI m _ _ _ _ D' wr h4 h5 hD hG).mono ?_;rintro e w' ⟨he,hm,hg⟩;have k:ZA (fun i=>i=m) wr w':=XF hg (fun i e=>by injection e);exact ⟨he,Za ⟨S1,T1,D',h1.kept k (fun i hi e=>h3 dG),h2,h3,hm,hN,F7 h6 k (fun g hg e=>by have:=(h6.lt g hg).1; have:g=m:=e; omega),h7,h8.trans k (fun i _ e=> .inl e),h9⟩⟩
end
def Wl (w:Zc)(b m nn:Nat)(S:Nat->Prop)(om:Int->Int)(F V:List Int)(B x ep:Int)(e:Ending)(w':Zc) :Prop:=
 ∃a c,e= .returned (.slice a (He om F V B x).1.length c)/\Zj (Tp w b m nn S ep w' (.slice a (He om F V B x).1.length c) (He om F V B x).1 (He om F V B x).2.1 (He om F V B x).2.2.1 (FR (He om F V B x)) (gr B x -(He om F V B x).2.2.2))
section
variable {w:Zc} {b m nn:Nat} {S:Nat->Prop} {B Sp T D x ep:Int} {F V L:List Int} {wa:Option Addr} {cap:Nat}
theorem yb (hl:Ln w b S nn F V)(hm:VK w m B Sp T D)(hF:Jr B Sp T D)(hn: ¬S m)(hu:Ss w (fun i=>i=m\/S i) wa L)(hL:L.length<=9223372036854775807)(hA:NI L)(hx:0<=x)(fU:0<=ep)(he1:ep<=1099511627776) :
  Zv Zb 235 #[.int .i64 ep,.pointer (some ⟨b,0,none⟩),.pointer (some ⟨m,0,none⟩),.int .u64 x,.slice wa L.length cap] w (Wl w b m nn S (KK L) F V B x (ep+1)):=by
 obtain ⟨p,hp,hG,hN,hb,_⟩:=vk hF hx;have hgr:B+p=gr B x:=by rw [gr,hp]
 have bR: ∀(fn:Fn) (first cap:Array Zl) (w:Zc),(Q5 fn first cap).run Zb w= .ok (.func fn first cap) w:=fun _ _ _ _=>rfl
 have HG:=Za ((qW m B Sp T D x p w hm hF hp hG hN hb).mono (R':=fun e w'=>e= .returned (.int .u64 (B+p))/\Zj (ZA (fun i=>i=m) w w'/\Zv Zb 263 #[.int .i64 (ep+1),.pointer (some ⟨b,0,none⟩),.slice wa L.length cap,.func (.func 264) #[.pointer (some ⟨m,0,none⟩)] #[]] w' (OW w' b m nn S 0 (B+p) D (ep+1) (KK L) F V)))
  (fun e w' ⟨he,hm',hg⟩=>⟨he,Za (by
   have k:ZA (fun i=>i=m) w w':=XF hg (fun i e=>by injection e);exact ⟨k,ik (hl.kept k (fun i hi e=>hn dG)) hm' hN hn (hu.kept k (fun i _ e=> .inl e)) hL hA⟩)⟩))
 have vW:=Zu.lt hm;rw [hgr] at HG;have HM:=Za vW;clear hl hm hF hn hu hA hL vW hp hG hN hb hgr hx;go_enter func235,ntmps235;go_wp2_with fail;refine HG.o.mono ?_;rintro e w1 ⟨rfl,HP⟩;clear HG;go_wp2_with fail;refine HP.o.2.mono ?_;rintro e w2 ⟨a,c,he,H2⟩;change e= .returned (.slice a (He (KK L) F V B x).1.length c) at he;subst he;have H3:Zj (Tp w b m nn S (ep+1) w2 (.slice a (He (KK L) F V B x).1.length c) (He (KK L) F V B x).1 (He (KK L) F V B x).2.1 (He (KK L) F V B x).2.2.1 (He (KK L) F V B x).2.2.2 (gr B x -(He (KK L) F V B x).2.2.2)):=Za (by
  have:=H2.o.to (w:=w) (HP.o.1.more (fun i _ e=> .inl e)) HM.o;rw [Int.zero_add] at this;exact this)
 clear H2 HP bR;have HR:Zj (∀w',Tp w b m nn S (ep+1) w' (.slice a (He (KK L) F V B x).1.length c) (He (KK L) F V B x).1 (He (KK L) F V B x).2.1 (He (KK L) F V B x).2.2.1 (FR (He (KK L) F V B x)) (gr B x -(He (KK L) F V B x).2.2.2)->Wl w b m nn S (KK L) F V B x (ep+1) (.returned (.slice a (He (KK L) F V B x).1.length c)) w'):=Za (fun w' h=>⟨a,c,rfl,Za h⟩);have Pq:FR (He (KK L) F V B x)=if dS (He (KK L) F V B x).2.1 (He (KK L) F V B x).2.2.1=true then(He (KK L) F V B x).2.2.2 else 0:=rfl
 generalize FR (He (KK L) F V B x)=bl at*;generalize Wl w b m nn S (KK L) F V B x (ep+1)=Q at*;generalize gr B x -(He (KK L) F V B x).2.2.2=sp at*;generalize (He (KK L) F V B x).1.length=nl at*;generalize He (KK L) F V B x=r at*;obtain ⟨out,F2,V2,B2⟩:=r
 dsimp only at*
 have HB:=Za Pq;clear Pq;go_wp2_with fail;refine H3.o.head.mono ?_;rintro e w3 ⟨rfl,q,rfl⟩;have H4:=Za (H3.o.drewN q);clear H3;generalize w2.drewN q=w3 at*
 cases hb:dS F2 V2
 ·have HD:=Za H4.o.drop;rw [hb] at HB;clear hb H4;go_wp2_with fail;refine HD.o.mono ?_;rintro e w4 ⟨rfl,H5⟩;have H6:=Za (HR.o w4 (by rw [HB.o]; exact H5.o));clear HR HD H5 HB;go_wp2;exact H6.o
 ·rw [hb] at HB;have H6:=Za (HR.o w3 (by rw [HB.o]; exact H4.o));clear HR HB hb H4;go_wp2;exact H6.o
end
end
section
open Go Go.RowKit
structure Good (c:Nat->Int) :Prop where
 cap0:1<=c 0
 cap1:c 0<=4096
 part:0<=c 16
 vis0:c 16 < c 14
 pay0:c 16 < c 15
 vis1:c 14<=4096
 pay1:c 15<=4096
 chu0:1<=c 7
 chu1:c 7<=1152921504606846976
 fcp0:0<=c 9
 fcp1:c 9<=1152921504606846976
 unb0:1<=c 10
 unb1:c 10<=1048576
 sla0:c 10 < c 11
 sla1:c 11<=1048576
 len0:1<=c 13
 Ie:c 13<=4096
theorem Ko {v lo hi:Int}(h:NS v lo hi=true) :lo<=v/\v<=hi:=by unfold NS at h; simpa using h
theorem bounds_u64 {n:Int}(h:(Lit.int .u64 n).wf=true) :0<=n/\n<=18446744073709551615:=Zfu
theorem bounds_i64 {n:Int}(h:(Lit.int .i64 n).wf=true) : -9223372036854775808<=n/\n<=9223372036854775807:=Zfu
theorem fP {c:Nat->Int}(hf:Wi c)(h:TM c=0) :Good c:=by
 rcases Nn c with ⟨_,hb⟩ | ⟨k,_,_,_,e⟩
 ·have h0:=Ko (hb 0 Zf);have h7:=Ko (hb 7 Zf);have h9:decide (c 9<=cr)=true:=hb 9 Zf;have SG:=Ko (hb 10 Zf);have GM:decide (c 10 < c 11/\c 11<=1048576)=true:=hb 11 Zf;have kt:=Ko (hb 13 Zf);have h14:=Ko (hb 14 Zf);have h15:=Ko (hb 15 Zf);have vp:decide (0<=c 16/\c 16 < c 14/\c 16 < c 15)=true:=hb 16 Zf;have f9:(Lit.int .u64 (c 9)).wf=true:=hf 9 Zf;simp at h9 GM vp;unfold cr at h7 h9;exact ⟨h0.1,h0.2,vp.1,vp.2.1,vp.2.2,h14.2,h15.2,h7.1,h7.2,(bounds_u64 f9).1,h9,SG.1,SG.2,GM.1,GM.2,kt.1,kt.2⟩
 ·omega
def Fz:Nat->Int
 | 0=>16
 | 1=>8
 | 2=>16
 | 3=>64
 | 4=>1024
 | 5=>8
 | 6=>128
 | 7=>32
 | 8=>4
 | 9=>64
 | 10=>2
 | 11=>5
 | 12=>4
 | 13=>4
 | 14=>6
 | 15=>4
 | 16=>2
 | 17=>2
 | 18=>1
 | 19=>4
 | _=>0
theorem Ph:TM Fz=0:=by decide+kernel
theorem Rw:Wi Fz:=by
 intro k hk;have:k=0\/k=1\/k=2\/k=3\/k=4\/k=5\/k=6\/k=7\/k=8\/k=9\/k=10\/k=11\/k=12\/k=13\/k=14\/k=15\/k=16\/k=17\/k=18\/k=19:=Zf
 rcases this with h | h | h | h | h | h | h | h | h | h | h | h | h | h | h | h | h | h | h | h <;> subst h <;> decide
theorem qg (c:Nat->Int) :(Zi c).all (·.oneCell')=true:=ZC
theorem DA (w:Zc) :Z3 29 #[] w (.agg (Zi Fz)):=by
 go_enter func29,ntmps29;go_wp2_with (first | (refine JQ rfl 30 _ rfl ZC ?_; rw [show (Tryz.prog.built 30 _).getD #[]=Zi Fz from by kernel_rfl]) | (refine Up w.heap.size (Zi Fz) 30 (ZB w _) Qk (qg _) ?_; rw [Zq]));exact bodyPost_ret (v:= .agg (Zi Fz)) (results_cell_row (fn:=Tryz.f29) rfl _ _ w.heap.size 30 (Zi Fz) (0,0) _ rfl (ZB w _) underlying30 rfl Qk) rfl ⟨rfl,(Zn _ _).alloc (Zh _) _⟩
theorem mG (c:Nat->Int)(hg:Good c)(w:Zc) :
  Z3 302 #[.agg (Zi c)] w (.int .i64 (c 14 - c 16)):=by
 have g2:=hg.part;have g3:=hg.vis0;have g5:=hg.vis1;unfold Zi;go_enter func302,ntmps302;exact ZfR
theorem cF (c:Nat->Int)(hg:Good c)(w:Zc) :
  Z3 303 #[.agg (Zi c)] w (.int .i64 (c 15 - c 16)):=by
 have g2:=hg.part;have g4:=hg.pay0;have g6:=hg.pay1;unfold Zi;go_enter func303,ntmps303;exact ZfR
def UU (c:Nat->Int) :Int:=min (c 14 - c 16) (c 15 - c 16)
def Hr (c:Nat->Int) :Int:=(c 0 - 1)/UU c+1
theorem SU {c:Nat->Int}(hg:Good c) :1<=UU c/\UU c<=4096:=by
 have g2:=hg.part;have g3:=hg.vis0;have g4:=hg.pay0;have g5:=hg.vis1;have g6:=hg.pay1;unfold UU; omega
theorem ov {c:Nat->Int}(hg:Good c) :0<=(c 0 - 1)/UU c/\(c 0 - 1)/UU c<=4095:=by
 have h:=SU hg;have g0:=hg.cap0;have g1:=hg.cap1;exact Ze8
theorem IF {c:Nat->Int}(hg:Good c) :1<=Hr c/\Hr c<=4096:=by
 have:=ov hg; unfold Hr; omega
theorem ob (c:Nat->Int) :(Tryz.prog.info? 30).map (·.size)=some (Zi c).size:=Qk
theorem TF (c:Nat->Int)(hg:Good c)(w:Zc) :
  Z3 296 #[.agg (Zi c)] w (.int .i64 (Hr c)):=by
 have V:=Za (mG c hg);have Y:=Za (cF c hg);have K0:GJ w.heap.size w.heap.size 30 (Zi c) w (w.alloc (.cells (Zi c) 30)):=GJ.new (Zn _ _) (Zh _);have hp:=SU hg;have hq:=ov hg;have hd:decide (UU c < 1)=false:=Xo;have RG:decide (c 0 < 1)=false:=by have:=hg.cap0; simp; omega
 have hz:(UU c==0)=false:=Xo;have g0:=hg.cap0;have g1:=hg.cap1;have HB:=Za (show Hr c=(c 0 - 1)/UU c+1 from rfl);clear hg;unfold Zi;go_enter func296,ntmps296;go_wp2_with (fail);refine Kk (GJ w.heap.size w.heap.size 30 (Zi c) w) ZC ZC K0.drew ?_;refine Jb 30 (.tmp 1) w.heap.size 30 (Zi c) _ rfl rfl rfl (fun _ h=>h.1) underlying30 rfl (ob c) ?_;refine RR (.int .i64 (c 14 - c 16)) #[.agg (Zi c)] rfl ZC call302 (fun _ h=>h.call (V.o _)) ?_;refine Jb 30 (.tmp 1) w.heap.size 30 (Zi c) _ rfl rfl rfl (fun _ h=>h.1) underlying30 rfl (ob c) ?_;refine RR (.int .i64 (c 15 - c 16)) #[.agg (Zi c)] rfl ZC call303 (fun _ h=>h.call (Y.o _)) ?_;refine DX (.int .i64 (UU c)) rfl (fun _=>by go_simp; rfl) ?_;refine DX (.int .i64 (UU c)) rfl (fun _=>by go_simp) ?_;refine Yo ?_;intro w1 hk;have OO:=Xx hk.1 0;have Pq:=hk.2.1;clear hk K0;go_wp2_with (fail);go_ret;exact ⟨Lh HB.o.symm,Pq⟩
theorem WO (n L:Int)(w:Zc)(h2:0<=n)(hn:n<=9223372036854775807)(h3:1<=L) :
  Y6 141 #[.int .i64 n,.int .i64 L] w (.int .i64 (n/L)):=by
 have hd:decide (n < 0)=false:=by simpa using h2
 have hd1:decide (L < 1)=false:=by simpa using h3
 have hz:(L==0)=false:=Xo;have q0:0<=n/L:=Int.ediv_nonneg Zf Zf;have q1:n/L<=n:=Int.ediv_le_self _ Zf;go_enter func141,ntmps141;exact UD
def DS (c:Nat->Int) :Int:=(Hr c - 1)/c 13
theorem aE {c:Nat->Int}(hg:Good c) :0<=DS c/\DS c<=4095:=by
 have h:=IF hg;have h1:=hg.len0;unfold DS;exact Ze8
theorem di (c:Nat->Int)(hg:Good c)(w:Zc) :
  Z3 281 #[.agg (Zi c)] w (.int .i64 (DS c)):=by
 have HB:=Za (TF c hg);have hb:=IF hg;have HE:=Za (fun w=>WO (Hr c - 1) (c 13) w Zf Zf hg.len0);have HS:=Za (show DS c=(Hr c - 1)/c 13 from rfl);have K0:Zj (GJ w.heap.size w.heap.size 30 (Zi c) w (w.alloc (.cells (Zi c) 30))):=Za (GJ.new (Zn _ _) (Zh _));clear hg;generalize Hr c=B at*;go_enter func281,ntmps281;go_wp2_with (first | (refine Kl 30 w.heap.size K0.o.1 underlying30 Qk ?_));refine (GJ.call K0.o (HB.o _)).mono ?_;rintro e w1 ⟨rfl,K1⟩;have OO:=Xx K1.1 13;have Pq:=Za K1.2.1;clear K1 K0 HB;go_wp2_with (fail);refine (HE.o _).mono ?_;rintro e w2 ⟨rfl,rfl⟩;go_wp2_with (fail);go_ret;exact ⟨Lh HS.o.symm,Pq.o⟩
end
section
open Go Go.RowKit
def wl (om:Int->Int)(I:List Int)(k:Nat) :List Int:=(List.range I.length).map fun i=>if i < k then om (I.getD i 0) else 0
section
variable {om:Int->Int} {I:List Int}
theorem yw (k:Nat) :(wl om I k).length=I.length:=by simp [wl]
theorem ZdJ:wl om I 0=ZD I.length 0:=by
 refine KA (by simp [wl]) fun i h1 h2=>?_
 simp [wl]
theorem ZiO:wl om I I.length=I.map om:=by
 refine KA (by simp [wl]) fun i h1 h2=>?_
 simp [wl] at h1 ⊢;simp [h1]
theorem ZiP {k:Nat}(hk:k < I.length) :(wl om I k).set k (om (I.getD k 0))=wl om I (k+1):=by
 refine KA (by simp [wl]) fun i h1 h2=>?_
 rw [List.getElem_set];simp only [wl,List.getElem_map,List.getElem_range]
 by_cases h:k=i
 ·subst h; simp
 ·rw [if_neg h]
  by_cases h3:i < k
  ·rw [if_pos h3,if_pos Zf]
  ·rw [if_neg h3,if_neg Zf]
theorem ew (h: ∀i,0<=om i/\om i<=18446744073709551615) : ∀j,0<=(I.map om).getD j 0/\(I.map om).getD j 0<=18446744073709551615:=fun j=>by
 rw [Zo,ZM]
 cases I[j]? with
 | none=>exact ⟨Int.le_refl 0,show (0:Int)<=18446744073709551615 by decide⟩
 | some x=>exact h x
end
theorem XK {w:Zc}{base n size:Nat}{e:ZL}{v:Zl}{xs:List Zl}(h:w.ownsRow base e size v n xs) : ∃a cp,v= .slice a n cp:=yQ
def jC (w:Zc)(om:Int->Int)(I:List Int)(e:Ending)(w':Zc) :Prop:=
 e= .returned (.tuple #[.int .u64 (BB (I.map om) I.length),.bool (KS (I.map om) I.length)])/\Zp w.heap.size w w'
section
variable {w:Zc} {S S2:Nat->Prop} {a ia:Option Addr} {L I:List Int} {cap ic:Nat}
theorem jd (hu:Ss w S a L)(hL:L.length<=9223372036854775807)(hA:NI L)(hi:XS w S2 ia I)(hn:I.length<=100000) :
  Zv Zb 215 #[.slice a L.length cap,.slice ia I.length ic] w (jC w (KK L) I):=by
 obtain ⟨n,hn'⟩ : ∃n,I.length=n:=⟨_,rfl⟩;have Ew:=fun w=>Ha n Zf w
 have HB:Zj (CS (w.alloc (.cells (Ut (ZD n 0)) 23)) w.heap.size (wl (KK L) I 0)):=Za (by rw [ZdJ,hn']; exact Zs _ _ _);have HW:Zj (Zp w.heap.size w (w.alloc (.cells (Ut (ZD n 0)) 23))):=Za ((Zn _ _).alloc (Zh _) _);have HU:=Za hu;have HL:=Za hL;have HA:=Za hA;have HI:=Za hi;have HN:=Za hn';rw [hn'] at hn ⊢;clear hu hL hA hi hn';go_enter func215,ntmps215;go_wp2;clear Ew;generalize hz:w.heap.size=z at*;have HZ:=Za hz;clear hz;go_loopw [14] (fun s14 wr=> ∃k:Nat,k<=n/\s14= .int .i64 k/\Zj (CS wr z (wl (KK L) I k))/\Zj (Zp z w wr)) (fun s14 _=>n -(intOf s14).toNat)
 case atStart=>exact ⟨0,by omega,rfl,HB,HW⟩
 case round=>
  obtain ⟨k,hk,rfl,HBK,HWK⟩:=hrel;clear HB HW
  by_cases XJ:k < n
  ·obtain ⟨b,off,rfl,_,hb,hc⟩:=HI.o Wf;have KT:wr.cell? ⟨b,off+k,none⟩=some (.int .i64 (I.getD k 0)):=(HWK.o.cell (p:=⟨b,off+k,none⟩) (by rw [<-HZ.o]; exact hb)).trans (hc k dC);have hf:=HBK.o.frozen k;have hcz:=HBK.o.cell (i:=k) (by rw [yw,HN.o]; exact XJ);have GI:Zj (CS (wr.setCell ⟨z,k,none⟩ (.int .u64 (KK L (I.getD k 0)))) z (wl (KK L) I (k+1))):=Za (by
    have:=HBK.o.set k (KK L (I.getD k 0));rwa [ZiP dC] at this)
   have HW2:Zj (Zp z w (wr.setCell ⟨z,k,none⟩ (.int .u64 (KK L (I.getD k 0))))):=Za (HWK.o.setCell (Zh _) _);have HUW:Zj (Y6 251 #[.slice a L.length cap,.int .i64 (I.getD k 0)] wr (.int .u64 (KK L (I.getD k 0)))):=Za (Cr cap _ wr (HU.o.below (by rw [HZ.o]; exact HWK.o)) HL.o);generalize I.getD k 0=x at*;generalize KK L x=y at*;generalize (wl (KK L) I k).getD k 0=u at*;clear hc hb HBK HWK;go_wp2_with fail;refine HUW.o.mono ?_;rintro e w' ⟨rfl,rfl⟩;clear HUW;go_wp2;go_roundw
   case rel=>exact ⟨k+1,by omega,by go_num,GI,HW2⟩
   case measure=>exact KX
  ·obtain rfl:k=n:=Zf;clear XJ;have XJ: ¬k < k:=Zf;have HAd:=Za (EV z 0 k k (I.map (KK L)) wr Zf (fun i hi=>by
    rw [ZW];have:=HBK.o.cell (i:=i) (by rw [yw,HN.o]; exact hi);rw [<-ZiO,HN.o]; exact this) (ew (fun i=>PY HA.o i)))
   clear HBK;go_wp2_with fail;refine HAd.o.mono ?_;rintro e w' ⟨rfl,rfl⟩;clear HAd;go_wp2;go_ret2;exact ⟨by rw [HN.o]; rfl,by rw [HZ.o]; exact HWK.o⟩
end
end
section
open Go Go.RowKit
def CI (w:Zc)(h:Nat)(lim:Int)(p:Nat × Int) :Prop:=
 Zu w h 23 #[.int .u64 lim]/\Zu w (h+1) 3 #[.int .i64 (p.1:Int)]/\Zu w (h+2) 23 #[.int .u64 p.2]
def Pa (h:Nat) :Zl:= .func (.func 268) #[] #[.pointer (some ⟨h+2,0,none⟩),.pointer (some ⟨h+1,0,none⟩),.pointer (some ⟨h,0,none⟩)]
theorem uA (W:Zc)(v:Zl)(t:ZL) : ∀j u,[v][j]?=some u->(W.alloc (.cells #[v] t)).cell? ((⟨W.heap.size,0,none⟩ :Addr).add j)=some u:=by
 intro j u hj
 match j,hj with
 | 0,hj=>
  simp at hj;subst hj;rw [add_plain];exact (Zs W t #[v]).cell 0
def DU (x:Int) :Prop:=0<=x/\x<=18446744073709551615
section
variable {w w':Zc} {h:Nat} {k:Nat} {lim s x:Int} {p:Nat × Int} {S:Nat->Prop} {a:Option Addr} {L:List Int}
theorem CI.kept (hb:CI w h lim p)(hk:ZA S w w')(hS: ∀i,h<=i->i<=h+2-> ¬S i) :CI w' h lim p:=
 ⟨hb.1.kept hk (hS _ Zf Zf),hb.2.1.kept hk (hS _ Zf Zf),hb.2.2.kept hk (hS _ Zf Zf)⟩
theorem WA (lim:Int)(w:Zc) :
  Zv Zb 237 #[.int .u64 lim] w fun e w'=>e= .returned (Pa w.heap.size)/\CI w' w.heap.size lim (0,0)/\Zp w.heap.size w w'/\w'.heap.size=w.heap.size+3:=by
 have bR: ∀(fn:Fn) (first cap:Array Zl) (w:Zc),(Q5 fn first cap).run Zb w= .ok (.func fn first cap) w:=fun _ _ _ _=>rfl
 have c1:((w.alloc (.cells #[.int .u64 lim] 23)).alloc (.cells #[.int .i64 0] 3)).cell? ⟨w.heap.size+1,0,none⟩=some (.int .i64 0):=by
  have:=(Zs (w.alloc (.cells #[.int .u64 lim] 23)) 3 #[.int .i64 0]).cell 0;rwa [Jf] at this
 go_enter func237,ntmps237;go_wp2;go_ret;have b1:=Zs (w.alloc (.cells #[.int .u64 lim] 23)) 3 #[.int .i64 0];rw [Jf] at b1;have b2:=Zs ((w.alloc (.cells #[.int .u64 lim] 23)).alloc (.cells #[.int .i64 0] 3)) 23 #[.int .u64 0];rw [Jf,Jf] at b2;exact ⟨rfl,⟨((Zs w _ _).alloc _).alloc _,b1.alloc _,b2⟩,(((Zn _ w).alloc (Zh _) _).alloc ZE _).alloc Xo _,by simp⟩
theorem TK (s x:Int)(w:Zc)(hs:DU s)(hx:DU x) :
  Zv Zb 101 #[.slice (some ⟨w.heap.size,0,none⟩) 2 2] (w.alloc (.cells #[.int .u64 s,.int .u64 x] 23)) fun e w'=>e= .returned (.tuple #[.int .u64 (if s+x<=18446744073709551615 then s+x else 0),.bool (decide (s+x<=18446744073709551615))])/\w.alloc (.cells #[.int .u64 s,.int .u64 x] 23)=w':=by
 have b:=Zs w 23 #[.int .u64 s,.int .u64 x];have h:=EV w.heap.size 0 2 2 [s,x] (w.alloc (.cells #[.int .u64 s,.int .u64 x] 23)) Zf (fun i hi=>by
  rcases i with _ | _ | i
  ·exact b.cell 0
  ·exact b.cell 1
  ·omega) (fun i=>by
  rcases i with _ | _ | i
  ·exact hs
  ·exact hx
  ·exact ⟨Int.le_refl 0,show (0:Int)<=18446744073709551615 by decide⟩)
 have e:XR [s,x] 2=s+x:=by simp [XR]
 rw [BB,KS,e] at h;exact h
theorem ux (w:Zc)(hb:CI w h lim (0,s))(hs:DU s)(hx:DU x)(hl:DU lim) :
  Zv Zb 268 #[.int .u64 x,.pointer (some ⟨h+2,0,none⟩),.pointer (some ⟨h+1,0,none⟩),.pointer (some ⟨h,0,none⟩)] w fun e w'=>
   e= .returned (.int .i64 ((VO lim (0,s) x).1:Int))/\CI w' h lim (VO lim (0,s) x)/\ZA (fun i=>i=h+1\/i=h+2) w w':=by
 have HA:=TK s x w hs hx;have HE:=Za (WC lim s x);generalize (if s+x<=18446744073709551615 then s+x else 0)=q at HA;generalize decide (s+x<=18446744073709551615)=ok at HA;have ti:=Za HA;have B:=Za hb;have X:=Za hx;have S:=Za hs;have c0:(w.alloc (.cells #[.int .u64 s,.int .u64 x] 23)).cell? ⟨h,0,none⟩=some (.int .u64 lim):=(hb.1.alloc _).cell 0;have c1:(w.alloc (.cells #[.int .u64 s,.int .u64 x] 23)).cell? ⟨h+1,0,none⟩=some (.int .i64 0):=(hb.2.1.alloc _).cell 0;have c2:w.cell? ⟨h+2,0,none⟩=some (.int .u64 s):=hb.2.2.cell 0;have c2':(w.alloc (.cells #[.int .u64 s,.int .u64 x] 23)).cell? ⟨h+2,0,none⟩=some (.int .u64 s):=(hb.2.2.alloc _).cell 0;have f1:(w.alloc (.cells #[.int .u64 s,.int .u64 x] 23)).frozen? ⟨h+1,0,none⟩=false:=(hb.2.1.alloc _).frozen 0;have f2:(w.alloc (.cells #[.int .u64 s,.int .u64 x] 23)).frozen? ⟨h+2,0,none⟩=false:=(hb.2.2.alloc _).frozen 0;clear HA hb hs hx;go_enter func268,ntmps268;go_wp2_with fail;refine ti.o.mono ?_;rintro e w' ⟨rfl,rfl⟩;clear ti;go_wp2;go_ret;rw [HE.o];refine ⟨rfl,⟨?_,?_,?_⟩,?_⟩
 ·exact Zgn
 ·exact Zgu
 ·exact Zgv
 ·exact Zgo
theorem uv (w:Zc)(hb:CI w h lim (k+1,s))(hs:DU s)(hx:DU x)(hl:DU lim)(hk:k<=1000000000)(ho: ¬s+x<=18446744073709551615) :
  Zv Zb 268 #[.int .u64 x,.pointer (some ⟨h+2,0,none⟩),.pointer (some ⟨h+1,0,none⟩),.pointer (some ⟨h,0,none⟩)] w fun e w'=>
   e= .returned (.int .i64 ((VO lim (k+1,s) x).1:Int))/\CI w' h lim (VO lim (k+1,s) x)/\ZA (fun i=>i=h+1\/i=h+2) w w':=by
 have HA:=TK s x w hs hx;have hgt:lim < s+x:=by unfold DU at*; omega
 have HE:=Za (WB (k:=k) hgt);rw [if_neg ho,decide_eq_false ho] at HA;have HK:Zj (k<=1000000000):=Za hk;have fY: ¬((k:Int)+1=0):=Zf;clear hgt;exact Zl6
theorem ZgS (w:Zc)(hb:CI w h lim (k+1,s))(hs:DU s)(hx:DU x)(hl:DU lim)(hk:k<=1000000000)(ho:s+x<=18446744073709551615)(hgt:lim < s+x) :
  Zv Zb 268 #[.int .u64 x,.pointer (some ⟨h+2,0,none⟩),.pointer (some ⟨h+1,0,none⟩),.pointer (some ⟨h,0,none⟩)] w fun e w'=>
   e= .returned (.int .i64 ((VO lim (k+1,s) x).1:Int))/\CI w' h lim (VO lim (k+1,s) x)/\ZA (fun i=>i=h+1\/i=h+2) w w':=by
 have HA:=TK s x w hs hx;have HE:=Za (WB (k:=k) hgt);rw [if_pos ho,decide_eq_true ho] at HA;generalize hq:s+x=q at*;have fY: ¬((k:Int)+1=0):=Zf;have HQ:=Za hq;clear hq;exact Zl6
theorem Zbt (w:Zc)(hb:CI w h lim (k+1,s))(hs:DU s)(hx:DU x)(hl:DU lim)(hk:k<=1000000000)(ho:s+x<=18446744073709551615)(hle: ¬lim < s+x) :
  Zv Zb 268 #[.int .u64 x,.pointer (some ⟨h+2,0,none⟩),.pointer (some ⟨h+1,0,none⟩),.pointer (some ⟨h,0,none⟩)] w fun e w'=>
   e= .returned (.int .i64 ((VO lim (k+1,s) x).1:Int))/\CI w' h lim (VO lim (k+1,s) x)/\ZA (fun i=>i=h+1\/i=h+2) w w':=by
 have HA:=TK s x w hs hx;have HE:=Za (IG (k:=k) hle);rw [if_pos ho,decide_eq_true ho] at HA;generalize hq:s+x=q at*;have fY: ¬((k:Int)+1=0):=Zf;have TU:((k:Int)+1==0)=false:=Xo;have hle2:decide (lim < q)=false:=Xo;have HQ:=Za hq;clear hq;have ti:=Za HA;have B:=Za hb;have X:=Za hx;have S:=Za hs;have c0:(w.alloc (.cells #[.int .u64 s,.int .u64 x] 23)).cell? ⟨h,0,none⟩=some (.int .u64 lim):=(hb.1.alloc _).cell 0;have c1:(w.alloc (.cells #[.int .u64 s,.int .u64 x] 23)).cell? ⟨h+1,0,none⟩=some (.int .i64 ((k:Int)+1)):=(hb.2.1.alloc _).cell 0;have c2:w.cell? ⟨h+2,0,none⟩=some (.int .u64 s):=hb.2.2.cell 0;have c2':(w.alloc (.cells #[.int .u64 s,.int .u64 x] 23)).cell? ⟨h+2,0,none⟩=some (.int .u64 s):=(hb.2.2.alloc _).cell 0;have f1:(w.alloc (.cells #[.int .u64 s,.int .u64 x] 23)).frozen? ⟨h+1,0,none⟩=false:=(hb.2.1.alloc _).frozen 0;have f2:(w.alloc (.cells #[.int .u64 s,.int .u64 x] 23)).frozen? ⟨h+2,0,none⟩=false:=(hb.2.2.alloc _).frozen 0;clear HA hb hs hx;go_enter func268,ntmps268;go_wp2_with fail;refine ti.o.mono ?_;rintro e w' ⟨rfl,rfl⟩;clear ti;go_wp2;go_ret;rw [HE.o];refine ⟨rfl,⟨?_,?_,?_⟩,?_⟩
 ·exact (B.o.1.alloc _).far (show h≠h+2 by omega) _
 ·exact (B.o.2.1.alloc _).far (show h+1≠h+2 by omega) _
 ·exact (B.o.2.2.alloc _).set_ 0 _
 ·exact ((ZS _ w).alloc _).setCell (.inl (.inr rfl)) _
theorem Zbq (w:Zc)(hb:CI w h lim p)(hs:DU p.2)(hx:DU x)(hl:DU lim)(hk:p.1<=1000000000) :
  Zv Zb 268 #[.int .u64 x,.pointer (some ⟨h+2,0,none⟩),.pointer (some ⟨h+1,0,none⟩),.pointer (some ⟨h,0,none⟩)] w fun e w'=>
   e= .returned (.int .i64 ((VO lim p x).1:Int))/\CI w' h lim (VO lim p x)/\ZA (fun i=>i=h+1\/i=h+2) w w':=by
 obtain ⟨k,s⟩:=p
 cases k with
 | zero=>exact ux w hb hs hx hl
 | succ k=>
  by_cases ho:s+x<=18446744073709551615
  ·by_cases hgt:lim < s+x
   ·exact ZgS w hb hs hx hl (by simp at hk; omega) ho hgt
   ·exact Zbt w hb hs hx hl (by simp at hk; omega) ho hgt
  ·exact uv w hb hs hx hl (by simp at hk; omega) ho
end
end
end Go.Proofs.YtobgbcdgffgdhaaGreat
