/- Part 13 of 31: L03RefCheck L16Tri L16Chk L12Base2 L12Ops L12Acts L12Lists L13Done L13Proc L13Step L18Good L13Weight L14Bnd. -/
import Derived.Test.YtobgbcdgffgdhaaGreatZw00
import Derived.Test.YtobgbcdgffgdhaaGreatZw08
import Derived.Test.YtobgbcdgffgdhaaGreatZw10
import Derived.Deep.DeepCutAuto
namespace Go.Proofs.YtobgbcdgffgdhaaGreat
set_option linter.unusedVariables false
set_option linter.unusedSimpArgs false
set_option maxRecDepth 100000
set_option maxHeartbeats 8000000
open _root_.Go.RowKit renaming Below -> Zp
open _root_.Go.RowKit.Below renaming refl -> Zo
open _root_.Go.Proofs.YtobgbcdgffgdhaaGreat.Zu renaming alloc -> Yw, new -> Zt
open _root_.Go renaming Calls -> Zv, TypeId -> ZJ, Value -> Zk, World -> Zc, heap_alloc_new -> ZA, rounds_succ -> Y4, wpList_build -> JR, wpList_store_row -> YH
open _root_.Go.Ending renaming returned -> J0
open _root_.Go.Exit renaming noGoto_ret -> UX
open _root_.Go.Instr renaming index -> Yn, makeFunc -> QH
open _root_.Go.Proofs.YtobgbcdgffgdhaaGreat.Zx renaming of_below -> YR, of_grown -> Xu, refl -> ZM
open _root_.List renaming append_nil -> XM, eq_nil_of_length_eq_zero -> ZR, ext_getElem -> Ki, getD_eq_getElem?_getD -> Zm, getElem?_eq_getElem -> Zg, getElem?_map -> ZH, replicate -> ZP
open _root_.Nat renaming le_refl -> Zh, le_trans -> ZY, one_pos -> Gm, zero_add -> ZV
open _root_.Go.Proofs.Tryz renaming prog -> Zb
open _root_.Go.Value renaming int -> ZI
open _root_.Go.World renaming ownsRow_nil -> YX, setRow_alloc_new -> Zr, size_alloc -> QV
open Go.Proofs.Tryz
theorem IU {G:Prop}(h:G:=by rw [<-show i=m from e]; exact hi) :G:=h
theorem IS {G:Prop}(h:G:=by rw [HN.o]; exact XV) :G:=h
theorem jl {G H:Prop} (k:H) (h:DE H->G:=by
  intro zk;refine wp_loop_rounds 3 ?_;rw [rounds_succ];exact zk.o) :G:=h ⟨k⟩
theorem tH {G H:Prop} (k:H) (h:DE H->G:=by
  intro zk;refine wp_loop_rounds 2 ?_;rw [rounds_succ];exact zk.o) :G:=h ⟨k⟩
theorem ZbB {G:Prop} (h:G:=by
  go_enter func260,ntmps260;go_upto_region 1 with (fail);generalize ((w.alloc (.cells (Zd s) 68)).alloc (.cells (Zd d) 68)).alloc (.cells (Zi c) 30)=W at*;go_wp2_with fail;refine (HA.o _ _ ((Zu.new W _ _).cell 0) ((Zu.new W _ _).cell 1)).mono ?_;rintro e w1 ⟨rfl,rfl⟩;have T2:=Za (HT.o.next ((Below.refl _ W).alloc (Nat.le_refl _) (.cells #[.int .u64 s.bal,.int .u64 d.bal] 23)));clear x1 x2 x3 HT HA;generalize W.alloc (.cells #[.int .u64 s.bal,.int .u64 d.bal] 23)=W2 at*;obtain ⟨-,-,-,-,-,-,x3,-⟩:=T2.o.cells;go_wp2_with fail;go_ret;exact ⟨VJ H.o.symm,T2.o.2.2.2⟩) :G:=h
theorem ZbE {G:Prop} (h:G:=by
  go_enter func258,ntmps258;go_upto_region 1 with (fail);generalize ((w.alloc (.cells (Zd s) 68)).alloc (.cells (Zd d) 68)).alloc (.cells (Zi c) 30)=W at*;go_wp2;go_ret;exact ⟨VJ H.o.symm,HT.o.2.2.2⟩) :G:=h
theorem ZbO {G:Prop} (h:G:=by
  exact ((B.o.1.alloc _).far (show h≠h+1 by omega) _).far (show h≠h+2 by omega) _) :G:=h
theorem ZbP {G:Prop} (h:G:=by
  exact (((Zx.refl _ w).alloc _).setCell (.inl (.inl rfl)) _).setCell (.inl (.inr rfl)) _) :G:=h
theorem ZbQ {G:Prop} (h:G:=by
  refine ⟨by rw [he]; simp [wM,hr],S',?_,b2.iff h2⟩;simpa [FR,FT,hr] using b1) :G:=h
theorem ZbV {G:Prop} (h:G:=by
  exact ((B.o.2.1.alloc _).set_ 0 _).far (show h+1≠h+2 by omega) _) :G:=h
theorem ZbW {G:Prop} (h:G:=by
  exact ((B.o.2.2.alloc _).far (show h+2≠h+1 by omega) _).set_ 0 _) :G:=h
theorem Zhp {G:Prop} (h:G:=by
  have oE:=Za HA;have B:=Za hb;have X:=Za hx;have S:=Za hs;have c0:(w.alloc (.cells #[.int .u64 s,.int .u64 x] 23)).cell? ⟨h,0,none⟩=some (.int .u64 lim):=(hb.1.alloc _).cell 0;have c1:(w.alloc (.cells #[.int .u64 s,.int .u64 x] 23)).cell? ⟨h+1,0,none⟩=some (.int .i64 ((k:Int)+1)):=(hb.2.1.alloc _).cell 0;have c2:w.cell? ⟨h+2,0,none⟩=some (.int .u64 s):=hb.2.2.cell 0;have c2':(w.alloc (.cells #[.int .u64 s,.int .u64 x] 23)).cell? ⟨h+2,0,none⟩=some (.int .u64 s):=(hb.2.2.alloc _).cell 0;have f1:(w.alloc (.cells #[.int .u64 s,.int .u64 x] 23)).frozen? ⟨h+1,0,none⟩=false:=(hb.2.1.alloc _).frozen 0;have f2:(w.alloc (.cells #[.int .u64 s,.int .u64 x] 23)).frozen? ⟨h+2,0,none⟩=false:=(hb.2.2.alloc _).frozen 0;clear HA hb hs hx;go_enter func268,ntmps268;go_wp2_with fail;refine oE.o.mono ?_;rintro e w' ⟨rfl,rfl⟩;clear oE;go_wp2;go_ret;rw [HE.o];refine ⟨by simp,⟨?_,?_,?_⟩,?_⟩
  ·exact ZbO
  ·exact ZbV
  ·exact ZbW
  ·exact ZbP) :G:=h
theorem Zhw {G:Prop} (h:G:=by
  clear hs hd h1 e ht h2;exact ZbB) :G:=h
theorem ZhK {G:Prop} (h:G:=by
  go_enter func130,ntmps130;go_wp2_with fail;refine (NB _ _ _ HH.o).mono ?_;rintro e w' ⟨rfl,rfl⟩;go_wp2_with fail;refine HQ.o.mono ?_;rintro e w' ⟨rfl,rfl⟩;go_wp2_with fail;refine HP.o.mono ?_;rintro e w1 ⟨rfl,hq⟩;have HQ:=Za hq;clear hq HP;go_wp2_with fail;go_ret;exact ⟨rfl,HQ.o⟩) :G:=h
theorem ZhN {G:Prop} (h:G:=by
  clear hs hd;exact ZbE) :G:=h
theorem ZhO {G:Prop} (h:G:=by
  clear hs;go_enter func259,ntmps259;go_upto_region 1 with (fail);generalize ((w.alloc (.cells (Zd s) 68)).alloc (.cells (Zd d) 68)).alloc (.cells (Zi c) 30)=W at*;go_wp2;go_ret;exact ⟨VJ H.o.symm,HT.o.2.2.2⟩) :G:=h
theorem ZhV {G:Prop} (h:G:=by
  refine this.mono ?_;rintro e w' ⟨he,g',xA,hm,hk⟩;refine ⟨he,g',by simpa using xA,fun i hi=>(hm i hi).imp id (fun h=>by simp at h; omega),((Zx.refl (QU r g) w).alloc _).trans hk (fun _ _ h=>h)⟩) :G:=h
theorem Zh8 {G:Prop} (h:G:=by
  rintro e w' ⟨he,g',a1,a2,a3⟩;obtain ⟨S',b1,b2⟩:=h1.setF a1 a2 a3;exact ZbQ) :G:=h
theorem Zh9 {G:Prop} (h:G:=by
  rintro e w' ⟨he,g',a1,a2,a3⟩;obtain ⟨S',b1,b2⟩:=h1.setV a1 a2 a3;exact ZbQ) :G:=h
theorem ZaC {G:Prop} (h:G:=by
  obtain rfl:k=20:=Zf;have H:=Za (aN hbf);go_wp2;go_ret;exact ⟨FB H.o.symm,Rr⟩) :G:=h
theorem ZaI {G:Prop} (h:G:=by
  go_wp2_with fail;go_ret;exact ⟨congrArg (fun x=>Ending.returned (.int .i64 x)) E.o.symm,B2.o.2.2.2⟩) :G:=h
theorem tK {G:Prop} (h:G:=by
  go_wp2_with fail;refine (ZcF _ _ _ H.o).mono ?_;rintro e w' ⟨rfl,rfl⟩;exact On) :G:=h
theorem ZaL {G:Prop} (h:G:=by
  exact ⟨Int.ediv_nonneg Zf Zf,Int.le_trans (Int.ediv_le_self _ Zf) Zf⟩) :G:=h
theorem ZaT {G:Prop} (h:G:=by
  rintro i (rfl | hi)
  ·exact .inl (.inl rfl)
  ·exact (hm i hi.symm).imp (fun e=> .inr e.symm) id) :G:=h
theorem Za2 {G:Prop} (h:G:=by
  rintro e w' ⟨rfl,rfl⟩;go_wp2;try rw [Exit.noGoto_ret]
  exact Ch) :G:=h
theorem Za5 {G:Prop} (h:G:=by
  simp [Lit.wf,IntKind.min,IntKind.max,IntKind.signed,IntKind.bits] at h;omega) :G:=h
theorem kU {G:Prop} (h:G:=by
  go_enter func142,ntmps142;exact On) :G:=h
theorem Zbo {G:Prop} (h:G:=by
  go_wp2;exact ZbX) :G:=h
theorem uo {G:Prop} (h:G:=by
  have:=Zu.new (w.alloc A) t cs;exact Bt) :G:=h
section
open Go.RowKit
theorem X7:(Tryz.prog.info? 30).map (·.size)=some 20:=ZC
theorem Ip (c:Nat->Int)(w:Zc) :
  Z3 10 #[.agg (Zi c)] w (.int .i64 (Ws c)):=by
 unfold Zi;go_enter func10,ntmps10;go_wp2;go_loopw [3] (fun v wr=> ∃k:Nat,k<=20/\v= .int .i64 ((k:Int)+1)/\Df c k/\Zu wr w.heap.size 30 (Zi c)/\Zp w.heap.size w wr) (fun v _=>(21 - intOf v).toNat)
 case atStart=>exact ⟨0,by omega,rfl,Hp c,Zt _ _ _,(Zo _ _).alloc (Zh _) _⟩
 case round=>
  obtain ⟨k,hk,rfl,hbf,hb,Rr⟩:=hrel;have XV:=hb.lt
  by_cases wR:k < 20
  ·cases hr:Yl c k with
   | false=>
    have R:Zl (∀w',_):=Za (fun w'=>AP c k wR w');rw [hr] at R;have H:=Za (eN wR hbf hr);clear hr;go_wp2_with (first
     | (refine Kz 30 w.heap.size hb underlying30 X7 ?_)
     | (go_at_call 28; refine (R.o _).mono ?_; rintro e w1 ⟨rfl,EX⟩))
    go_ret;exact ⟨FB H.o.symm,Sn Rr EX Zf⟩
   | true=>
    have R:Zl (∀w',_):=Za (fun w'=>AP c k wR w');rw [hr] at R;have H:=Za (Ho hbf hr);clear hr;go_wp2_with (first
     | (refine Kz 30 w.heap.size hb underlying30 X7 ?_)
     | (go_at_call 28; refine (R.o _).mono ?_; rintro e w1 ⟨rfl,EX⟩))
    go_roundw
    case rel=>exact ⟨k+1,by omega,by go_num,H.o,hb.below EX XV,Sn Rr EX Zf⟩
    case measure=>exact VL
  ·exact ZaC
end
section
open Go Go.RowKit Go.Deep
theorem ou (w:Zc)(A B:Obj)(cs:Array Zk)(t:ZJ) :Zu (((w.alloc A).alloc B).alloc (.cells cs t)) (w.heap.size+2) t cs:=by
 have:=Zt ((w.alloc A).alloc B) t cs;exact Bt
theorem D6 (w:Zc)(A:Obj)(cs:Array Zk)(t:ZJ) :Zu ((w.alloc A).alloc (.cells cs t)) (w.heap.size+1) t cs:=uo
def ea (w W:Zc)(s d:ZN)(c:Nat->Int) :Prop:=
 Zu W w.heap.size 68 (Zd s)/\Zu W (w.heap.size+1) 68 (Zd d)/\Zu W (w.heap.size+2) 30 (Zi c)/\Zp w.heap.size w W
section
variable {w W W':Zc} {s d:ZN} {c:Nat->Int}
theorem ea.new (w:Zc)(s d:ZN)(c:Nat->Int) :ea w (((w.alloc (.cells (Zd s) 68)).alloc (.cells (Zd d) 68)).alloc (.cells (Zi c) 30)) s d c:=
 ⟨Yw (Yw (Zt w _ _) _) _,Yw (D6 w _ _ _) _,ou w _ _ _ _,(((Zo _ _).alloc (Zh _) _).alloc ZE _).alloc (by simp <;> omega) _⟩
theorem ea.next (h:ea w W s d c)(hb:Zp W.heap.size W W') :ea w W' s d c:=
 ⟨h.1.below hb h.1.lt,h.2.1.below hb h.2.1.lt,h.2.2.1.below hb h.2.2.1.lt,h.2.2.2.trans (hb.mono h.2.2.2.size)⟩
theorem ea.drewN (h:ea w W s d c)(n:Nat) :ea w (W.drewN n) s d c:=⟨h.1,h.2.1,h.2.2.1,below_drewN h.2.2.2 n⟩
theorem ea.cells (h:ea w W s d c) :W.cell? ⟨w.heap.size,0,none⟩=some (.int .u64 s.bal)/\W.cell? ⟨w.heap.size,1,none⟩=some (.int .i64 s.st)/\W.cell? ⟨w.heap.size,2,none⟩=some (.bool s.sl)/\
  W.cell? ⟨w.heap.size+1,0,none⟩=some (.int .u64 d.bal)/\W.cell? ⟨w.heap.size+1,1,none⟩=some (.int .i64 d.st)/\W.cell? ⟨w.heap.size+1,2,none⟩=some (.bool d.sl)/\W.cell? ⟨w.heap.size+2,6,none⟩=some (.int .u64 (c 6))/\W.cell? ⟨w.heap.size+2,17,none⟩=some (.int .i64 (c 17)):=
 ⟨h.1.cell 0,h.1.cell 1,h.1.cell 2,h.2.1.cell 0,h.2.1.cell 1,h.2.1.cell 2,h.2.2.1.cell 6,h.2.2.1.cell 17⟩
end
theorem rr (s d:ZN)(c:Nat->Int)(w:Zc) :
  Z3 258 #[.agg (Zd s),.agg (Zd d),.agg (Zi c)] w (.bool (Mv s d)):=by
 have T:=ea.new w s d c;obtain ⟨-,x1,-,-,x2,-,-,-⟩:=T.cells;have HT:=Za T;clear T
 by_cases hs:s.st=2
 ·have qs:(s.st != 2)=false:=by simpa using hs
  by_cases hd:d.st=2
  ·have qd:(d.st != 2)=false:=by simpa using hd
   have H:Zl (Mv s d=false):=Za (by simp [Mv,hs,hd]);exact ZhN
  ·have qd:(d.st != 2)=true:=by simpa using hd
   have H:Zl (Mv s d=true):=Za (by simp [Mv,hs,hd]);exact ZhN
 ·have qs:(s.st != 2)=true:=by simpa using hs
  have H:Zl (Mv s d=true):=Za (by simp [Mv,hs]);clear hs;exact ZbE
theorem dt (s d:ZN)(c:Nat->Int)(w:Zc) :
  Z3 259 #[.agg (Zd s),.agg (Zd d),.agg (Zi c)] w (.bool (LC s d)):=by
 have T:=ea.new w s d c;obtain ⟨-,-,x1,-,-,x2,-,-⟩:=T.cells;have HT:=Za T;clear T
 cases hs:s.sl with
 | true=>
  rw [hs] at x1;have H:Zl (LC s d=true):=Za (by simp [LC,hs]);exact ZhO
 | false=>
  rw [hs] at x1;have H:Zl (LC s d=d.sl):=Za (by simp [LC,hs]);exact ZhO
theorem IJ (x y:Int) :XW [x,y] 2=x+y:=by simp [XW]
theorem ow {x y:Int}(hx:0<=x/\x<=18446744073709551615)(hy:0<=y/\y<=18446744073709551615) : ∀i,0<= [x,y].getD i 0/\[x,y].getD i 0<=18446744073709551615
 | 0=>hx
 | 1=>hy
 | i+2=>by simp
theorem WC (s d:ZN)(c:Nat->Int)(w:Zc)(hs:Yh s)(hd:Yh d) :
  Z3 260 #[.agg (Zd s),.agg (Zd d),.agg (Zi c)] w (.bool (Mw s d (c 6))):=by
 have T:=ea.new w s d c;obtain ⟨x1,-,-,x2,-,-,x3,-⟩:=T.cells;have HT:=Za T;have HA:=Za (fun (b:Nat) (w:Zc) (h0:w.cell? ⟨b,0,none⟩=some (.int .u64 s.bal)) (h1:w.cell? ⟨b,1,none⟩=some (.int .u64 d.bal))=>DP b 0 2 2 [s.bal,d.bal] w Zf (fun i hi=>by
  have:i=0\/i=1:=Zf
  rcases this with rfl | rfl
  ·exact h0
  ·exact h1) (ow hs.bal hd.bal))
 clear T
 by_cases h1:s.bal+d.bal<=18446744073709551615
 ·have e:=Nk (z:= [s.bal,d.bal]) (n:=2) (by rw [IJ]; exact h1);rw [IJ] at e;rw [e.1,e.2] at HA;obtain ⟨t,ht⟩:=ZT (s.bal+d.bal);rw [ht] at HA
  by_cases h2:c 6 < t
  ·have H:Zl (Mw s d (c 6)=true):=Za (by simp [Mw,ht]; omega);have q2:decide (c 6 < t)=true:=by simpa using h2
   exact Zhw
  ·have H:Zl (Mw s d (c 6)=false):=Za (by simp [Mw,ht]; omega);have q2:decide (c 6 < t)=false:=by simpa using h2
   exact Zhw
 ·have e:=RH (z:= [s.bal,d.bal]) (n:=2) (by rw [IJ]; exact h1);rw [e.1,e.2] at HA;have H:Zl (Mw s d (c 6)=true):=Za (by simp [Mw]; omega);clear hs hd h1 e;exact ZbB
end
section
open Go Go.RowKit Go.Deep
def Bm:Array Zk:= #[.func (.func 258) #[] #[],.int .i64 8,.func (.func 259) #[] #[],.int .i64 9,.func (.func 260) #[] #[],.int .i64 3]
theorem Zaw:(Tryz.prog.info? 275).map (·.size)=some 6:=ZC
theorem NJ:(Tryz.prog.info? 274).map (·.size)=some 2:=ZC
theorem Fk (w:Zc) :Z3 230 #[] w (.agg Bm):=by
 go_enter func230,ntmps230;go_wp2_with (first | (refine JR rfl 274 _ rfl ZC ?_) | (refine JR rfl 275 _ rfl ZC ?_; rw [show (Tryz.prog.built 275 _).getD #[]=Bm from by kernel_rfl]) | (refine YH rfl _ _ _ rfl w.heap.size Bm rfl rfl 275 _ (ZA w _) Zaw rfl ZC ?_; rw [Zr]));exact bodyPost_ret (v:= .agg Bm) (results_cell_row (fn:=Tryz.f230) rfl _ _ w.heap.size 275 Bm (0,0) _ rfl (ZA w _) underlying275 rfl Zaw) rfl ⟨rfl,(Zo _ _).alloc (Zh _) _⟩
theorem Zdi (w:Zc) :(Yn 275 (.agg Bm) (.int .i64 0)).run Zb w= .ok (.agg #[.func (.func 258) #[] #[],.int .i64 8]) w:=ZC
theorem Zdj (w:Zc) :(Yn 275 (.agg Bm) (.int .i64 1)).run Zb w= .ok (.agg #[.func (.func 259) #[] #[],.int .i64 9]) w:=ZC
theorem Zdk (w:Zc) :(Yn 275 (.agg Bm) (.int .i64 2)).run Zb w= .ok (.agg #[.func (.func 260) #[] #[],.int .i64 3]) w:=ZC
theorem Nt (s d:ZN)(c:Nat->Int)(w:Zc)(hs:Yh s)(hd:Yh d) :
  Z3 188 #[.agg (Zd s),.agg (Zd d),.agg (Zi c)] w (.int .i64 (EA s d (c 6))):=by
 have T:=ea.new w s d c;have HT:=Za T;have H1:=Za (rr s d c);have H2:=Za (dt s d c);have H3:=Za (fun w=>WC s d c w hs hd);have i0:=Zdi;have i1:=Zdj;have i2:=Zdk;clear T hs hd
 cases h1:Mv s d with
 | true=>
  have E:Zl (EA s d (c 6)=8):=Za (by simp [EA,h1]);rw [h1] at H1;clear h1 H2 H3;go_enter func188,ntmps188;go_upto_region 1 with (fail);generalize ((w.alloc (.cells (Zd s) 68)).alloc (.cells (Zd d) 68)).alloc (.cells (Zi c) 30)=W at*;go_wp2_with fail;refine (Fk _).mono ?_;rintro e w1 ⟨rfl,b1⟩;have T1:=Za (HT.o.next b1);clear b1 HT;go_wp2_with fail;refine wp_loop_rounds 1 ?_;rw [Y4];have A0:=Za (T1.o.next ((Zo _ w1).alloc (Zh _) (.cells #[.func (.func 258) #[] #[],.int .i64 8] 274)));clear T1;go_wp2_with (first | (refine YH rfl _ _ _ rfl w1.heap.size #[.func (.func 258) #[] #[],.int .i64 8] rfl rfl 274 _ (ZA w1 _) NJ rfl ZC ?_; rw [Zr]) | (refine Kz 68 w.heap.size A0.o.1 underlying68 Yb ?_) | (refine Kz 68 (w.heap.size+1) A0.o.2.1 underlying68 Yb ?_) | (refine Kz 30 (w.heap.size+2) A0.o.2.2.1 underlying30 X7 ?_));refine (H1.o _).mono ?_;rintro e v0 ⟨rfl,b0⟩;have B0:=Za (A0.o.next b0);have e0:v0.cell? ⟨w1.heap.size,1,none⟩=some (.int .i64 8):=(b0.cell (p:=⟨w1.heap.size,1,none⟩) ZE).trans ((Zt w1 _ _).cell 1);clear A0 b0;go_wp2_with fail;go_ret;exact ⟨congrArg (fun x=>J0 (.int .i64 x)) E.o.symm,B0.o.2.2.2⟩
 | false=>
  rw [h1] at H1
  cases h2:LC s d with
  | true=>
   have E:Zl (EA s d (c 6)=9):=Za (by simp [EA,h1,h2]);rw [h2] at H2;clear h1 h2 H3;go_enter func188,ntmps188;go_upto_region 1 with (fail);generalize ((w.alloc (.cells (Zd s) 68)).alloc (.cells (Zd d) 68)).alloc (.cells (Zi c) 30)=W at*;go_wp2_with fail;refine (Fk _).mono ?_;rintro e w1 ⟨rfl,b1⟩;have T1:=Za (HT.o.next b1);clear b1 HT;go_wp2_with fail;refine tH ?_;have A0:=Za (T1.o.next ((Zo _ w1).alloc (Zh _) (.cells #[.func (.func 258) #[] #[],.int .i64 8] 274)));clear T1;go_wp2_with (first | (refine YH rfl _ _ _ rfl w1.heap.size #[.func (.func 258) #[] #[],.int .i64 8] rfl rfl 274 _ (ZA w1 _) NJ rfl ZC ?_; rw [Zr]) | (refine Kz 68 w.heap.size A0.o.1 underlying68 Yb ?_) | (refine Kz 68 (w.heap.size+1) A0.o.2.1 underlying68 Yb ?_) | (refine Kz 30 (w.heap.size+2) A0.o.2.2.1 underlying30 X7 ?_));refine (H1.o _).mono ?_;rintro e v0 ⟨rfl,b0⟩;have B0:=Za (A0.o.next b0);have e0:v0.cell? ⟨w1.heap.size,1,none⟩=some (.int .i64 8):=(b0.cell (p:=⟨w1.heap.size,1,none⟩) ZE).trans ((Zt w1 _ _).cell 1);clear A0 b0;go_wp2_with fail;rw [Y4];have A1:=Za (B0.o.next ((Zo _ v0).alloc (Zh _) (.cells #[.func (.func 259) #[] #[],.int .i64 9] 274)));clear B0;go_wp2_with (first | (refine YH rfl _ _ _ rfl v0.heap.size #[.func (.func 259) #[] #[],.int .i64 9] rfl rfl 274 _ (ZA v0 _) NJ rfl ZC ?_; rw [Zr]) | (refine Kz 68 w.heap.size A1.o.1 underlying68 Yb ?_) | (refine Kz 68 (w.heap.size+1) A1.o.2.1 underlying68 Yb ?_) | (refine Kz 30 (w.heap.size+2) A1.o.2.2.1 underlying30 X7 ?_));refine (H2.o _).mono ?_;rintro e v1 ⟨rfl,b1⟩;have B1:=Za (A1.o.next b1);have e1:v1.cell? ⟨v0.heap.size,1,none⟩=some (.int .i64 9):=(b1.cell (p:=⟨v0.heap.size,1,none⟩) ZE).trans ((Zt v0 _ _).cell 1);clear A1 b1;go_wp2_with fail;go_ret;exact ⟨congrArg (fun x=>J0 (.int .i64 x)) E.o.symm,B1.o.2.2.2⟩
  | false=>
   rw [h2] at H2
   cases h3:Mw s d (c 6) with
   | true=>
    have E:Zl (EA s d (c 6)=3):=Za (by simp [EA,h1,h2,h3]);rw [h3] at H3;clear h1 h2 h3;go_enter func188,ntmps188;go_upto_region 1 with (fail);generalize ((w.alloc (.cells (Zd s) 68)).alloc (.cells (Zd d) 68)).alloc (.cells (Zi c) 30)=W at*;go_wp2_with fail;refine (Fk _).mono ?_;rintro e w1 ⟨rfl,b1⟩;have T1:=Za (HT.o.next b1);clear b1 HT;go_wp2_with fail;refine jl ?_;have A0:=Za (T1.o.next ((Zo _ w1).alloc (Zh _) (.cells #[.func (.func 258) #[] #[],.int .i64 8] 274)));clear T1;go_wp2_with (first | (refine YH rfl _ _ _ rfl w1.heap.size #[.func (.func 258) #[] #[],.int .i64 8] rfl rfl 274 _ (ZA w1 _) NJ rfl ZC ?_; rw [Zr]) | (refine Kz 68 w.heap.size A0.o.1 underlying68 Yb ?_) | (refine Kz 68 (w.heap.size+1) A0.o.2.1 underlying68 Yb ?_) | (refine Kz 30 (w.heap.size+2) A0.o.2.2.1 underlying30 X7 ?_));refine (H1.o _).mono ?_;rintro e v0 ⟨rfl,b0⟩;have B0:=Za (A0.o.next b0);have e0:v0.cell? ⟨w1.heap.size,1,none⟩=some (.int .i64 8):=(b0.cell (p:=⟨w1.heap.size,1,none⟩) ZE).trans ((Zt w1 _ _).cell 1);clear A0 b0;go_wp2_with fail;rw [Y4];have A1:=Za (B0.o.next ((Zo _ v0).alloc (Zh _) (.cells #[.func (.func 259) #[] #[],.int .i64 9] 274)));clear B0;go_wp2_with (first | (refine YH rfl _ _ _ rfl v0.heap.size #[.func (.func 259) #[] #[],.int .i64 9] rfl rfl 274 _ (ZA v0 _) NJ rfl ZC ?_; rw [Zr]) | (refine Kz 68 w.heap.size A1.o.1 underlying68 Yb ?_) | (refine Kz 68 (w.heap.size+1) A1.o.2.1 underlying68 Yb ?_) | (refine Kz 30 (w.heap.size+2) A1.o.2.2.1 underlying30 X7 ?_));refine (H2.o _).mono ?_;rintro e v1 ⟨rfl,b1⟩;have B1:=Za (A1.o.next b1);have e1:v1.cell? ⟨v0.heap.size,1,none⟩=some (.int .i64 9):=(b1.cell (p:=⟨v0.heap.size,1,none⟩) ZE).trans ((Zt v0 _ _).cell 1);clear A1 b1;go_wp2_with fail;rw [Y4];have A2:=Za (B1.o.next ((Zo _ v1).alloc (Zh _) (.cells #[.func (.func 260) #[] #[],.int .i64 3] 274)));clear B1;go_wp2_with (first | (refine YH rfl _ _ _ rfl v1.heap.size #[.func (.func 260) #[] #[],.int .i64 3] rfl rfl 274 _ (ZA v1 _) NJ rfl ZC ?_; rw [Zr]) | (refine Kz 68 w.heap.size A2.o.1 underlying68 Yb ?_) | (refine Kz 68 (w.heap.size+1) A2.o.2.1 underlying68 Yb ?_) | (refine Kz 30 (w.heap.size+2) A2.o.2.2.1 underlying30 X7 ?_));refine (H3.o _).mono ?_;rintro e v2 ⟨rfl,b2⟩;have B2:=Za (A2.o.next b2);have e2:v2.cell? ⟨v1.heap.size,1,none⟩=some (.int .i64 3):=(b2.cell (p:=⟨v1.heap.size,1,none⟩) ZE).trans ((Zt v1 _ _).cell 1);clear A2 b2;exact ZaI
   | false=>
    have E:Zl (EA s d (c 6)=0):=Za (by simp [EA,h1,h2,h3]);rw [h3] at H3;clear h1 h2 h3;go_enter func188,ntmps188;go_upto_region 1 with (fail);generalize ((w.alloc (.cells (Zd s) 68)).alloc (.cells (Zd d) 68)).alloc (.cells (Zi c) 30)=W at*;go_wp2_with fail;refine (Fk _).mono ?_;rintro e w1 ⟨rfl,b1⟩;have T1:=Za (HT.o.next b1);clear b1 HT;go_wp2_with fail;refine wp_loop_rounds 4 ?_;rw [Y4];have A0:=Za (T1.o.next ((Zo _ w1).alloc (Zh _) (.cells #[.func (.func 258) #[] #[],.int .i64 8] 274)));clear T1;go_wp2_with (first | (refine YH rfl _ _ _ rfl w1.heap.size #[.func (.func 258) #[] #[],.int .i64 8] rfl rfl 274 _ (ZA w1 _) NJ rfl ZC ?_; rw [Zr]) | (refine Kz 68 w.heap.size A0.o.1 underlying68 Yb ?_) | (refine Kz 68 (w.heap.size+1) A0.o.2.1 underlying68 Yb ?_) | (refine Kz 30 (w.heap.size+2) A0.o.2.2.1 underlying30 X7 ?_));refine (H1.o _).mono ?_;rintro e v0 ⟨rfl,b0⟩;have B0:=Za (A0.o.next b0);have e0:v0.cell? ⟨w1.heap.size,1,none⟩=some (.int .i64 8):=(b0.cell (p:=⟨w1.heap.size,1,none⟩) ZE).trans ((Zt w1 _ _).cell 1);clear A0 b0;go_wp2_with fail;rw [Y4];have A1:=Za (B0.o.next ((Zo _ v0).alloc (Zh _) (.cells #[.func (.func 259) #[] #[],.int .i64 9] 274)));clear B0;go_wp2_with (first | (refine YH rfl _ _ _ rfl v0.heap.size #[.func (.func 259) #[] #[],.int .i64 9] rfl rfl 274 _ (ZA v0 _) NJ rfl ZC ?_; rw [Zr]) | (refine Kz 68 w.heap.size A1.o.1 underlying68 Yb ?_) | (refine Kz 68 (w.heap.size+1) A1.o.2.1 underlying68 Yb ?_) | (refine Kz 30 (w.heap.size+2) A1.o.2.2.1 underlying30 X7 ?_));refine (H2.o _).mono ?_;rintro e v1 ⟨rfl,b1⟩;have B1:=Za (A1.o.next b1);have e1:v1.cell? ⟨v0.heap.size,1,none⟩=some (.int .i64 9):=(b1.cell (p:=⟨v0.heap.size,1,none⟩) ZE).trans ((Zt v0 _ _).cell 1);clear A1 b1;go_wp2_with fail;rw [Y4];have A2:=Za (B1.o.next ((Zo _ v1).alloc (Zh _) (.cells #[.func (.func 260) #[] #[],.int .i64 3] 274)));clear B1;go_wp2_with (first | (refine YH rfl _ _ _ rfl v1.heap.size #[.func (.func 260) #[] #[],.int .i64 3] rfl rfl 274 _ (ZA v1 _) NJ rfl ZC ?_; rw [Zr]) | (refine Kz 68 w.heap.size A2.o.1 underlying68 Yb ?_) | (refine Kz 68 (w.heap.size+1) A2.o.2.1 underlying68 Yb ?_) | (refine Kz 30 (w.heap.size+2) A2.o.2.2.1 underlying30 X7 ?_));refine (H3.o _).mono ?_;rintro e v2 ⟨rfl,b2⟩;have B2:=Za (A2.o.next b2);have e2:v2.cell? ⟨v1.heap.size,1,none⟩=some (.int .i64 3):=(b2.cell (p:=⟨v1.heap.size,1,none⟩) ZE).trans ((Zt v1 _ _).cell 1);clear A2 b2;go_wp2_with fail;rw [Y4];exact ZaI
end
section
open Go Go.RowKit
def VW (F V:List Int)(c:Int) :List Int:=if c=0 then F else if c=1 then V else []
def Hz (n:Nat)(F V:List Int)(c:Int) :Nat:=if c=0 then n - F.length else if c=1 then n - V.length else 0
def Ko (F V:List Int)(c:Int) :List Int:=if c=0 then F else if c=1 then F++V else []
def wM (n:Nat)(F V:List Int)(c:Int) :Int:=if c=0 then(if F.length < n then 0 else 6) else if c=1 then(if V.length < n then 0 else 6) else 11
def FR (n:Nat)(F:List Int)(c x:Int) :List Int:=if c=0/\F.length < n then F++[x] else F
def FT (n:Nat)(V:List Int)(c x:Int) :List Int:=if c=1/\V.length < n then V++[x] else V
def Rs:List Int->List Int->Int
 | x::_,_=>x
 | [],x::_=>x
 | [],[]=>0
def qY:List Int->List Int->Int
 | _::_,_=>0
 | [],_::_=>1
 | [],[]=>0
def I6:List Int->List Int->Bool
 | _::_,_=>true
 | [],_::_=>true
 | [],[]=>false
def Li:List Int->List Int
 | _::F=>F
 | []=> []
def Lj:List Int->List Int->List Int
 | _::_,V=>V
 | [],_::V=>V
 | [],[]=> []
def en (w:Zc)(b f v:Nat)(gf gv:Option Nat)(n:Nat)(F V:List Int) :Prop:=
 Zu w b 188 #[.pointer (some ⟨f,0,none⟩),.pointer (some ⟨v,0,none⟩)]/\
 Yv 148 3 1 w f gf n F.length (F.map (ZI .i64))/\Yv 148 3 1 w v gv n V.length (V.map (ZI .i64))/\
 (∀i,QU f gf i-> ¬QU v gv i)/\(¬QU f gf b)/\(¬QU v gv b)
def Ln (w:Zc)(b:Nat)(S:Nat->Prop)(n:Nat)(F V:List Int) :Prop:=
 ∃f v gf gv,en w b f v gf gv n F V/\ ∀i,S i ↔ (i=b\/QU f gf i\/QU v gv i)
def Cj (S S':Nat->Prop)(w w':Zc) :Prop:=Zx S w w'/\ ∀i,S' i->S i\/w.heap.size<=i
section
variable {w w':Zc} {S S' T:Nat->Prop} {b f v n:Nat} {gf gv g':Option Nat} {F V:List Int}
theorem Ln.kept (h:Ln w b S n F V)(k:Zx T w w')(hT: ∀i,S i-> ¬T i) :Ln w' b S n F V:=by
 obtain ⟨f,v,gf,gv,⟨h1,h2,h3,h4⟩,h5⟩:=h;exact ⟨f,v,gf,gv,⟨h1.kept k (hT _ ((h5 _).2 (.inl rfl))),h2.kept k (fun i hi=>hT i ((h5 i).2 (.inr (.inl hi)))),h3.kept k (fun i hi=>hT i ((h5 i).2 (.inr (.inr hi)))),h4⟩,h5⟩
theorem Ln.lt (h:Ln w b S n F V) : ∀i,S i->i < w.heap.size:=by
 obtain ⟨f,v,gf,gv,⟨h1,h2,h3,h4⟩,h5⟩:=h;intro i hi
 rcases (h5 i).1 hi with rfl | hi | hi
 ·exact h1.lt
 ·exact h2.lt i hi
 ·exact h3.lt i hi
theorem Ln.drewN (h:Ln w b S n F V)(m:Nat) :Ln (w.drewN m) b S n F V:=h
theorem Ln.below (h:Ln w b S n F V)(hb:Zp w.heap.size w w') :Ln w' b S n F V:=h.kept (YR (S:=fun _=>False) hb) (fun _ _ h=>h)
theorem Ln.size (h:Ln w b S n F V) :F.length<=n/\V.length<=n/\n<=1048576:=by
 obtain ⟨f,v,gf,gv,⟨h1,h2,h3,h4⟩,h5⟩:=h;exact ⟨h2.size_le.1,h3.size_le.1,h2.size_le.2.2⟩
theorem en.cells (h:en w b f v gf gv n F V) :w.cell? ⟨b,0,none⟩=some (.pointer (some ⟨f,0,none⟩))/\w.cell? ⟨b,1,none⟩=some (.pointer (some ⟨v,0,none⟩)):=⟨h.1.cell 0,h.1.cell 1⟩
theorem Cj.refl (S:Nat->Prop)(w:Zc) :Cj S S w w:=⟨ZM _ _,fun _ h=> .inl h⟩
theorem en.setF {F':List Int}(h:en w b f v gf gv n F V)(hr:Yv 148 3 1 w' f g' n F'.length (F'.map (ZI .i64)))(hm:UI w gf g')(hk:Zx (QU f gf) w w') :
  ∃S',Ln w' b S' n F' V/\Cj (fun i=>i=b\/QU f gf i\/QU v gv i) S' w w':=by
 obtain ⟨h1,h2,h3,h4,h5,h6⟩:=h;have new: ∀i,QU f g' i->QU f gf i\/w.heap.size<=i:=ZaT
 refine ⟨_,⟨f,v,g',gv,⟨h1.kept hk h5,hr,h3.kept hk (fun i hi hf=>h4 i hf hi),?_,?_,h6⟩,fun i=>Iff.rfl⟩,hk.more (fun i _ hi=> .inr (.inl hi)),?_⟩
 ·intro i hi hv
  rcases new i hi with h | h
  ·exact h4 i h hv
  ·have:=h3.lt i hv; omega
 ·intro hb
  rcases new b hb with h | h
  ·exact h5 h
  ·have:=h1.lt; omega
 ·rintro i (rfl | hi | hi)
  ·exact .inl (.inl rfl)
  ·exact (new i hi).imp (fun h=> .inr (.inl h)) id
  ·exact .inl (.inr (.inr hi))
theorem en.setV {V':List Int}(h:en w b f v gf gv n F V)(hr:Yv 148 3 1 w' v g' n V'.length (V'.map (ZI .i64)))(hm:UI w gv g')(hk:Zx (QU v gv) w w') :
  ∃S',Ln w' b S' n F V'/\Cj (fun i=>i=b\/QU f gf i\/QU v gv i) S' w w':=by
 obtain ⟨h1,h2,h3,h4,h5,h6⟩:=h;have new: ∀i,QU v g' i->QU v gv i\/w.heap.size<=i:=ZaT
 refine ⟨_,⟨f,v,gf,g',⟨h1.kept hk h6,h2.kept hk (fun i hi hf=>h4 i hi hf),hr,?_,h5,?_⟩,fun i=>Iff.rfl⟩,hk.more (fun i _ hi=> .inr (.inr hi)),?_⟩
 ·intro i hi hv
  rcases new i hv with h | h
  ·exact h4 i hi h
  ·have:=h2.lt i hi; omega
 ·intro hb
  rcases new b hb with h | h
  ·exact h6 h
  ·have:=h1.lt; omega
 ·rintro i (rfl | hi | hi)
  ·exact .inl (.inl rfl)
  ·exact .inl (.inr (.inl hi))
  ·exact (new i hi).imp (fun h=> .inr (.inr h)) id
theorem Cj.iff {S2:Nat->Prop}(h:Cj S S' w w')(hS: ∀i,S2 i ↔ S i) :Cj S2 S' w w':=⟨h.1.more fun i _ hi=>(hS i).2 hi,fun i hi=>(h.2 i hi).imp (hS i).2 id⟩
section
variable {w:Zc} {S:Nat->Prop} {a:Option Addr} {L:List Int}
theorem Qf.src (h:Qf w S a L) :Src w S a L.length 1 (L.map (ZI .i64)):=by
 refine ⟨by simp,fun v hv=>?_,fun hl=>?_⟩
 ·obtain ⟨x,_,rfl⟩:=List.mem_map.1 hv;rfl
 ·obtain ⟨b,off,e,hn,hb,hc⟩:=h hl;refine ⟨_,e,hn,fun j v hv=>?_⟩;rw [ZH] at hv;have hj:j < L.length:=by
   rcases Nat.lt_or_ge j L.length with h1 | h1
   ·exact h1
   ·exact ur
  rw [add_plain,hc j hj];rw [Zg hj] at hv;rw [Zm,Zg hj];exact hv
end
theorem gF {w w':Zc}{base n size:Nat}{e:ZJ}{v:Zk}{xs:List Zk}(h:w.ownsRow base e size v n xs)(k:Zp w.heap.size w w') :w'.ownsRow base e size v n xs:=by
 obtain ⟨h1,h2⟩:=h;refine ⟨h1,?_⟩
 rcases h2 with h2 | ⟨g,cap,cur,rfl,h3,h4,h5⟩
 ·exact .inl h2
 ·exact .inr ⟨g,cap,cur,rfl,h3,Zu.below (w:=w) h4 k (Zu.lt (w:=w) h4),h5⟩
theorem NM (w:Zc)(b o:Nat)(u:Zk) :Zx (fun i=>i=b) w (w.setCell ⟨b,o,none⟩ u):=Zx.setCell (S:=fun i=>i=b) (ZM _ _) (.inl rfl) _
theorem kx (w:Zc)(x:Int)(T:Nat->Prop)(hT: ∀i,T i->i < w.heap.size) :Src (w.alloc (.cells #[.int .i64 x] 3)) T (some ⟨w.heap.size,0,none⟩) 1 1 [.int .i64 x]:=
 ⟨rfl,fun v hv=>by simp at hv; subst hv; rfl,fun _=>⟨_,rfl,fun hf=>Nat.lt_irrefl _ (hT _ hf),fun j v hv=>by
  rw [add_plain,ZV,(Zt w 3 #[.int .i64 x]).cell];simpa using hv⟩⟩
end
end
section
open Go Go.RowKit
theorem NB (b:Nat)(c:Int)(w:Zc)(h:c=0\/c=1) :YV 142 #[.pointer (some ⟨b,0,none⟩),.int .i64 c] w (.bool true):=by
 rcases h with rfl | rfl
 ·exact kU
 ·exact kU
theorem ZcF (b:Nat)(c:Int)(w:Zc)(h:c < 0\/2<=c) :YV 142 #[.pointer (some ⟨b,0,none⟩),.int .i64 c] w (.bool false):=by
 rcases h with h | h
 ·have h1: ¬0<=c:=Zf;exact kU
 ·have h1:0<=c:=Zf;have h2: ¬c < 2:=Zf;exact kU
theorem sr (b:Nat)(c:Int)(w:Zc)(h:c < 0\/2<=c) :YV 94 #[.pointer (some ⟨b,0,none⟩),.int .i64 c] w (.pointer none):=by
 have H:=Za h;clear h;go_enter func94,ntmps94;exact tK
theorem Dv (b f:Nat)(w:Zc)(h:w.cell? ⟨b,0,none⟩=some (.pointer (some ⟨f,0,none⟩))) :
  YV 94 #[.pointer (some ⟨b,0,none⟩),.int .i64 0] w (.pointer (some ⟨f,0,none⟩)):=by
 go_enter func94,ntmps94;go_wp2_with fail;refine (NB _ _ _ (.inl rfl)).mono ?_;exact uj
theorem Ma (b v:Nat)(w:Zc)(h:w.cell? ⟨b,1,none⟩=some (.pointer (some ⟨v,0,none⟩))) :
  YV 94 #[.pointer (some ⟨b,0,none⟩),.int .i64 1] w (.pointer (some ⟨v,0,none⟩)):=by
 go_enter func94,ntmps94;go_wp2_with fail;refine (NB _ _ _ (.inr rfl)).mono ?_;exact uj
theorem cJ (n:Nat)(w:Zc)(h1:1<=n)(h2:n<=4096) :Zv Zb 78 #[.int .i64 n] w fun e w'=>e= .returned (.pointer (some ⟨w.heap.size,0,none⟩))/\
  (∃S,Ln w' w.heap.size S n [] []/\ ∀i,S i->w.heap.size<=i)/\Zp w.heap.size w w':=by
 have h0: ¬(n:Int)< 1:=Zf;have h3: ¬(4096:Int)< (n:Int):=Zf;have H:=Za (fun W=>P0 n W h1 Zf);have HN:=Za (show 1<=n/\n<=1048576 by omega);go_enter func78,ntmps78;go_wp2_with fail;have B0:Zl (Zu (w.alloc (.cells #[.pointer none,.pointer none] 188)) w.heap.size 188 #[.pointer none,.pointer none]):=Za (Zt _ _ _);have K0:Zl (Zp w.heap.size w (w.alloc (.cells #[.pointer none,.pointer none] 188))/\(w.alloc (.cells #[.pointer none,.pointer none] 188)).heap.size=w.heap.size+1):=Za ⟨(Zo _ _).alloc (Zh _) _,by simp⟩;generalize w.alloc (.cells #[.pointer none,.pointer none] 188)=w1 at*;obtain ⟨b,hb⟩:=ZT (w.heap.size);have HB:=Za hb;rw [hb] at B0 K0 ⊢;clear hb;refine jl ?_;go_wp2_with fail;refine (H.o _).mono ?_;rintro e w2 ⟨rfl,Na⟩;have R2:Zl (Yv 148 3 1 w2 w1.heap.size none n 0 []):=by rw [<-Na]; exact Za (TD w1 _ _ 1 n HN.o.1 HN.o.2)
 have B2:Zl (Zu w2 b 188 #[.pointer none,.pointer none]):=by rw [<-Na]; exact Za (B0.o.alloc _)
 have K2:Zl (Zx (fun _=>False) w1 w2):=by rw [<-Na]; exact Za ((ZM _ _).alloc _)
 have x1:=B2.o.frozen 0;have x2:=QS B2.o 0;clear Na;go_wp2_with fail;have B3:Zl (Zu (w2.setCell ⟨b,0,none⟩ (.pointer (some ⟨w1.heap.size,0,none⟩))) b 188 #[.pointer (some ⟨w1.heap.size,0,none⟩),.pointer none]):=Za (B2.o.set_ 0 _);obtain ⟨f,hf⟩:=ZT (w1.heap.size);have HF:=Za hf;rw [hf] at B3 R2 ⊢;have hfb:f=b+1:=by rw [<-hf]; exact K0.o.2
 have R3:Zl (Yv 148 3 1 (w2.setCell ⟨b,0,none⟩ (.pointer (some ⟨f,0,none⟩))) f none n 0 []):=Za (R2.o.kept (NM _ _ _ _) (fun i hi=>by
  rcases hi with rfl | hi
  ·omega
  ·cases hi))
 have K3:Zl (Zp b w (w2.setCell ⟨b,0,none⟩ (.pointer (some ⟨f,0,none⟩)))/\f < (w2.setCell ⟨b,0,none⟩ (.pointer (some ⟨f,0,none⟩))).heap.size):=Za ⟨(Zx.below K0.o.1 (S:=fun i=>i=b) ((K2.o.more (T:=fun i=>i=b) (fun _ _ h=>h.elim)).trans (NM _ _ _ _) (fun _ _ h=>h)) (fun i h=>by omega) (by rw [K0.o.2]; omega)),R3.o.lt _ (.inl rfl)⟩;have HFB:=Za hfb;clear B2 R2 K2 x1 x2 hf hfb B0 K0;generalize w2.setCell ⟨b,0,none⟩ (.pointer (some ⟨f,0,none⟩))=w3 at*;rw [Y4];go_wp2_with fail;refine (H.o _).mono ?_;rintro e w4 ⟨rfl,hw4⟩;have R4:Zl (Yv 148 3 1 w4 w3.heap.size none n 0 []):=by rw [<-hw4]; exact Za (TD w3 _ _ 1 n HN.o.1 HN.o.2)
 have Q4:Zl (Yv 148 3 1 w4 f none n 0 []):=by rw [<-hw4]; exact Za (R3.o.kept (S:=fun _=>False) ((ZM _ _).alloc _) (fun _ _ h=>h))
 have B4:Zl (Zu w4 b 188 #[.pointer (some ⟨f,0,none⟩),.pointer none]):=by rw [<-hw4]; exact Za (B3.o.alloc _)
 have K4:Zl (Zp b w w4):=by rw [<-hw4]; exact Za (K3.o.1.alloc (by have:=K3.o.2; have:=HFB.o; omega) _)
 have x1:=B4.o.frozen 1;have x2:=QS B4.o 1;clear hw4;go_wp2_with fail;rw [Y4];go_wp2_with fail;go_ret;obtain ⟨v,hv⟩:=ZT (w3.heap.size);have hvf:f < v:=by rw [<-hv]; exact K3.o.2
 have hfb:=HFB.o;rw [hv] at R4 ⊢;have hn: ∀x i,QU x none i->i=x:=fun x i h=>by
  rcases h with rfl | h
  ·rfl
  ·cases h
 have hk:Zx (fun i=>i=b) w4 (w4.setCell ⟨b,1,none⟩ (.pointer (some ⟨v,0,none⟩))):=NM _ _ _ _;refine ⟨by rw [HB.o]; rfl,⟨_,⟨f,v,none,none,⟨by rw [HB.o]; exact B4.o.set_ 1 _,Q4.o.kept hk (fun i hi=>by rw [hn _ _ hi]; omega),R4.o.kept hk (fun i hi=>by rw [hn _ _ hi]; omega),fun i h1 h2=>by have:=hn _ _ h1; have:=hn _ _ h2; omega,fun h=>by have:=hn _ _ h; have:=HB.o; omega,fun h=>by have:=hn _ _ h; have:=HB.o; omega⟩,fun i=>Iff.rfl⟩,?_⟩,?_⟩
 ·rintro i (rfl | h | h)
  ·omega
  ·have:=hn _ _ h; have:=HB.o; omega
  ·have:=hn _ _ h; have:=HB.o; omega
 ·rw [HB.o];exact Zx.below K4.o (NM _ _ _ _) (fun i h=>by omega) (Nat.le_of_lt B4.o.lt)
theorem cN (b f nf:Nat)(w:Zc)(h0:w.cell? ⟨b,0,none⟩=some (.pointer (some ⟨f,0,none⟩)))(h2:w.cell? ⟨f,3,none⟩=some (.int .i64 nf))(hn:0 < nf) :
  Xb 285 #[.pointer (some ⟨b,0,none⟩)] w (.int .i64 0):=by
 have HL:=Za (fun m=>Gi f nf (w.drewN m) h2);go_enter func285,ntmps285;go_wp2;go_step3;go_wp2;go_step3;go_wp2;refine wp_loop_rounds 1 ?_;rw [Y4];go_wp2;go_quiet (fail);go_wp2_with fail;refine (HL.o _).mono ?_;exact Za2
theorem cO (b f v nv:Nat)(w:Zc)(h0:w.cell? ⟨b,0,none⟩=some (.pointer (some ⟨f,0,none⟩)))(h1:w.cell? ⟨b,1,none⟩=some (.pointer (some ⟨v,0,none⟩)))(h2:w.cell? ⟨f,3,none⟩=some (.int .i64 0))(h3:w.cell? ⟨v,3,none⟩=some (.int .i64 nv))(hn:0 < nv) :
  Xb 285 #[.pointer (some ⟨b,0,none⟩)] w (.int .i64 1):=by
 have HL:=Za (fun m=>Gi f 0 (w.drewN m) h2);have HV:=Za (fun m=>Gi v nv (w.drewN m) h3);go_enter func285,ntmps285;go_wp2;go_step3;go_wp2;go_step3;go_wp2;refine tH ?_;go_wp2;go_quiet (fail);go_wp2_with fail;refine (HL.o _).mono ?_;rintro e w' ⟨rfl,rfl⟩;go_wp2;rw [Y4];go_wp2;go_quiet (fail);go_wp2_with fail;refine (HV.o _).mono ?_;exact Za2
theorem mV (b f v:Nat)(w:Zc)(h0:w.cell? ⟨b,0,none⟩=some (.pointer (some ⟨f,0,none⟩)))(h1:w.cell? ⟨b,1,none⟩=some (.pointer (some ⟨v,0,none⟩)))(h2:w.cell? ⟨f,3,none⟩=some (.int .i64 0))(h3:w.cell? ⟨v,3,none⟩=some (.int .i64 0)) :
  Xb 285 #[.pointer (some ⟨b,0,none⟩)] w (.int .i64 0):=by
 have HL:=Za (fun m=>Gi f 0 (w.drewN m) h2);have HV:=Za (fun m=>Gi v 0 (w.drewN m) h3);go_enter func285,ntmps285;go_wp2;go_step3;go_wp2;go_step3;go_wp2;refine jl ?_;go_wp2;go_quiet (fail);go_wp2_with fail;refine (HL.o _).mono ?_;rintro e w' ⟨rfl,rfl⟩;go_wp2;rw [Y4];go_wp2;go_quiet (fail);go_wp2_with fail;refine (HV.o _).mono ?_;rintro e w' ⟨rfl,rfl⟩;go_wp2;rw [Y4];go_wp2;try rw [UX]
 exact Ch
section
variable {w:Zc} {b n:Nat} {S:Nat->Prop} {F V:List Int}
theorem cM (h:Ln w b S n F V) :Xb 285 #[.pointer (some ⟨b,0,none⟩)] w (.int .i64 (qY F V)):=by
 obtain ⟨f,v,gf,gv,h1,_⟩:=h;have x:=h1.cells;have y:=h1.2.1.cells.2;have z:=h1.2.2.1.cells.2
 rcases F with _ | ⟨x0,F⟩
 ·rcases V with _ | ⟨y0,V⟩
  ·exact mV b f v w x.1 x.2 y z
  ·exact cO b f v _ w x.1 x.2 y z ZE
 ·exact cN b f _ w x.1 y ZE
theorem AO (c:Int)(h:Ln w b S n F V) :Zv Zb 94 #[.pointer (some ⟨b,0,none⟩),.int .i64 c] w fun e w'=>w=w'/\
  ((e= .returned (.pointer none)/\c≠0/\c≠1)\/ ∃r g,e= .returned (.pointer (some ⟨r,0,none⟩))/\(c=0\/c=1)/\Yv 148 3 1 w r g n (VW F V c).length ((VW F V c).map (ZI .i64))):=by
 obtain ⟨f,v,gf,gv,h1,_⟩:=h
 by_cases c0:c=0
 ·subst c0;exact (Dv b f w h1.cells.1).mono fun e w' ⟨he,hw⟩=>⟨hw,.inr ⟨f,gf,he,.inl rfl,h1.2.1⟩⟩
 ·by_cases c1:c=1
  ·subst c1;exact (Ma b v w h1.cells.2).mono fun e w' ⟨he,hw⟩=>⟨hw,.inr ⟨v,gv,he,.inr rfl,h1.2.2.1⟩⟩
  ·exact (sr b c w Zf).mono fun e w' ⟨he,hw⟩=>⟨hw,.inl ⟨he,c0,c1⟩⟩
theorem gj {c:Int}(h0:c≠0)(h1:c≠1) :VW F V c=[]:=by rw [VW,if_neg h0,if_neg h1]
theorem fy {c:Int}(h0:c≠0)(h1:c≠1) :Hz n F V c=0:=by rw [Hz,if_neg h0,if_neg h1]
theorem ME {c:Int}(h:c=0\/c=1) :Hz n F V c=n -(VW F V c).length:=by
 rcases h with rfl | rfl <;> rfl
theorem qw (c:Int)(h:Ln w b S n F V) :Xb 177 #[.pointer (some ⟨b,0,none⟩),.int .i64 c] w (.int .i64 (Hz n F V c:Nat)):=by
 have HQ:=Za (AO c h);have hn:=h.size.2.2;clear h;go_enter func177,ntmps177;go_wp2_with fail;refine HQ.o.mono ?_;rintro e w' ⟨rfl,⟨rfl,h0,h1⟩ | ⟨r,g,rfl,hc,hr⟩⟩
 ·have HE:=Za (fy (n:=n) (F:=F) (V:=V) h0 h1);clear h0 h1;go_wp2_with fail;refine (dc _).mono ?_;rintro e w' ⟨rfl,rfl⟩;go_wp2;go_ret;exact ⟨by rw [HE.o]; rfl,0,rfl⟩
 ·have HR:=Za hr;have HE:=Za (ME (n:=n) (F:=F) (V:=V) hc);clear hr hc;go_wp2_with fail;refine (DX r n _ _ HR.o.cells.1 HR.o.cells.2 hn HR.o.size_le.1).mono ?_;rintro e w' ⟨rfl,m,rfl⟩;go_wp2;go_ret;exact ⟨by rw [HE.o]; rfl,m,rfl⟩
def Hk (w:Zc)(L:List Int)(e:Ending)(w':Zc) :Prop:= ∃v,e= .returned v/\w'.ownsRow w.heap.size 3 1 v L.length (L.map (ZI .i64))/\Zp w.heap.size w w'
end
end
section
open Go Go.RowKit
section
variable {w:Zc} {b n r f v:Nat} {S:Nat->Prop} {F V L:List Int} {g gf gv:Option Nat}
theorem AR (h:Yv 148 3 1 w r g n L.length (L.map (ZI .i64)))(x:Int)(hr:L.length < n) :
  Zv Zb 123 #[.pointer (some ⟨r,0,none⟩),.slice (some ⟨w.heap.size,0,none⟩) 1 1] (w.alloc (.cells #[.int .i64 x] 3)) fun e w'=>e= .returned (.int .i64 1)/\
   ∃g',Yv 148 3 1 w' r g' n (L++[x]).length ((L++[x]).map (ZI .i64))/\UI w g g'/\Zx (QU r g) w w':=by
 have h0:=h.kept (S:=fun _=>False) ((ZM _ w).alloc (.cells #[.int .i64 x] 3)) (fun _ _ h=>h);have:=Lp r n L.length 1 1 g (some ⟨w.heap.size,0,none⟩) _ [.int .i64 x] _ h0 (kx w x _ h.lt) Zf Zf;rw [show min 1 (n - L.length)=1 by omega] at this;exact ZhV
theorem AQ (h:Yv 148 3 1 w r g n L.length (L.map (ZI .i64)))(x:Int)(hr: ¬L.length < n) :
  Zv Zb 123 #[.pointer (some ⟨r,0,none⟩),.slice (some ⟨w.heap.size,0,none⟩) 1 1] (w.alloc (.cells #[.int .i64 x] 3)) fun e w'=>e= .returned (.int .i64 0)/\
   ∃g',Yv 148 3 1 w' r g' n L.length (L.map (ZI .i64))/\UI w g g'/\Zx (QU r g) w w':=by
 have h0:=h.kept (S:=fun _=>False) ((ZM _ w).alloc (.cells #[.int .i64 x] 3)) (fun _ _ h=>h);have:=Lp r n L.length 1 1 g (some ⟨w.heap.size,0,none⟩) _ [.int .i64 x] _ h0 (kx w x _ h.lt) Zf Zf;rw [show min 1 (n - L.length)=0 by omega] at this;exact ZhV
def Hl (w:Zc)(b:Nat)(S:Nat->Prop)(n:Nat)(F V:List Int)(w':Zc) :Prop:= ∃S',Ln w' b S' n F V/\Cj S S' w w'
theorem yj (c x:Int)(w:Zc)(h:c < 0\/2<=c) :YV 130 #[.pointer (some ⟨b,0,none⟩),.int .i64 c,.int .i64 x] w (.int .i64 11):=by
 have H:=Za h;clear h;go_enter func130,ntmps130;exact tK
theorem L9 (c x:Int)(k r:Nat)(w:Zc)(Q:Zc->Prop)(hh:c=0\/c=1)(hq:YV 94 #[.pointer (some ⟨b,0,none⟩),.int .i64 c] w (.pointer (some ⟨r,0,none⟩)))
  (hp:Zv Zb 123 #[.pointer (some ⟨r,0,none⟩),.slice (some ⟨w.heap.size,0,none⟩) 1 1] (w.alloc (.cells #[.int .i64 x] 3)) fun e w'=>e= .returned (.int .i64 k)/\Q w') (hk:k=0\/k=1) :
  Zv Zb 130 #[.pointer (some ⟨b,0,none⟩),.int .i64 c,.int .i64 x] w fun e w'=>e= .returned (.int .i64 (if k=0 then 6 else 0))/\Q w':=by
 have HH:=Za hh;have HQ:=Za hq;have HP:=Za hp;clear hh hq hp
 rcases hk with rfl | rfl
 ·exact ZhK
 ·exact ZhK
theorem Hl.same (h:Ln w b S n F V) :Hl w b S n F V w:=⟨S,h,Cj.refl _ _⟩
theorem sn (c x:Int)(h:Ln w b S n F V) :Zv Zb 130 #[.pointer (some ⟨b,0,none⟩),.int .i64 c,.int .i64 x] w fun e w'=>e= .returned (.int .i64 (wM n F V c))/\Hl w b S n (FR n F c x) (FT n V c x) w':=by
 have h0:=h;obtain ⟨f,v,gf,gv,h1,h2⟩:=h
 by_cases c0:c=0
 ·subst c0
  by_cases hr:F.length < n
  ·refine (L9 (b:=b) 0 x 1 f w _ (.inl rfl) (Dv b f w h1.cells.1) (AR h1.2.1 x hr) (.inr rfl)).mono ?_;exact Zh8
  ·refine (L9 (b:=b) 0 x 0 f w _ (.inl rfl) (Dv b f w h1.cells.1) (AQ h1.2.1 x hr) (.inl rfl)).mono ?_;exact Zh8
 ·by_cases c1:c=1
  ·subst c1
   by_cases hr:V.length < n
   ·refine (L9 (b:=b) 1 x 1 v w _ (.inr rfl) (Ma b v w h1.cells.2) (AR h1.2.2.1 x hr) (.inr rfl)).mono ?_;exact Zh9
   ·refine (L9 (b:=b) 1 x 0 v w _ (.inr rfl) (Ma b v w h1.cells.2) (AQ h1.2.2.1 x hr) (.inl rfl)).mono ?_;exact Zh9
  ·refine (yj c x w Zf).mono ?_;rintro e w' ⟨he,rfl⟩;refine ⟨by rw [he]; simp [wM,c0,c1],?_⟩;have:Ln w b S n (FR n F c x) (FT n V c x):=by simpa [FR,FT,c0,c1] using h0
   exact Hl.same this
theorem Tq (h:Ln w b S n F V) :Zv Zb 94 #[.pointer (some ⟨b,0,none⟩),.int .i64 (qY F V)] w fun e w'=>w=w'/\ ∃r:Nat,e= .returned (.pointer (some ⟨r,0,none⟩))/\
  Zl (Xb 270 #[.pointer (some ⟨r,0,none⟩),.int .i64 0] w (.tuple #[.int .i64 (Rs F V),.bool (I6 F V)]))/\
  Zl (Zv Zb 271 #[.pointer (some ⟨r,0,none⟩)] w fun e w'=>(∃v,e= .returned v)/\Hl w b S n (Li F) (Lj F V) w'):=by
 have h':=h;obtain ⟨f,v,gf,gv,h1,h2⟩:=h
 rcases F with _ | ⟨x,F⟩
 ·rcases V with _ | ⟨y,V⟩
  ·refine (Dv b f w h1.cells.1).mono ?_;rintro e w' ⟨he,hw⟩;refine ⟨hw,f,he,Za ((Lo f 0 0 w h1.2.1.cells.2 Zf).mono fun e w' ⟨a,b⟩=>⟨a,0,b.symm⟩),Za ((It f w h1.2.1.cells.2).mono fun e w' ⟨a,b⟩=>⟨⟨_,a⟩,b▸Hl.same h'⟩)⟩
  ·refine (Ma b v w h1.cells.2).mono ?_;rintro e w' ⟨he,hw⟩;refine ⟨hw,v,he,Za (MP v n _ 0 gv _ _ w h1.2.2.1 rfl),Za ((O9 v n V.length gv (V.map (ZI .i64)) (.int .i64 y) w h1.2.2.1).mono fun e w' ⟨a,b1,b2⟩=>⟨⟨_,a⟩,?_⟩)⟩;obtain ⟨S',c1,c2⟩:=h1.setV b1 (fun i e=> .inl e) b2;exact ⟨S',c1,c2.iff h2⟩
 ·refine (Dv b f w h1.cells.1).mono ?_;rintro e w' ⟨he,hw⟩;refine ⟨hw,f,he,Za (MP f n _ 0 gf _ _ w h1.2.1 rfl),Za ((O9 f n F.length gf (F.map (ZI .i64)) (.int .i64 x) w h1.2.1).mono fun e w' ⟨a,b1,b2⟩=>⟨⟨_,a⟩,?_⟩)⟩;obtain ⟨S',c1,c2⟩:=h1.setF b1 (fun i e=> .inl e) b2;exact ⟨S',c1,c2.iff h2⟩
theorem SQ (h:Ln w b S n F V) :Xb 265 #[.pointer (some ⟨b,0,none⟩)] w (.tuple #[.int .i64 (Rs F V),.int .i64 (qY F V),.bool (I6 F V)]):=by
 have HL:=Za h;clear h;go_enter func265,ntmps265;go_wp2_with fail;refine (cM HL.o).mono ?_;rintro e w' ⟨rfl,m,rfl⟩;have lq:=Za (HL.o.drewN m);go_wp2_with fail;refine (Tq lq.o).mono ?_;rintro e w' ⟨rfl,r,rfl,HP,-⟩;clear lq HL;go_wp2_with fail;refine HP.o.mono ?_;rintro e w' ⟨rfl,q,rfl⟩;clear HP;go_wp2;go_ret3;exact ⟨rfl,m+q,rfl⟩
theorem yd (h:Ln w b S n F V) :Zv Zb 284 #[.pointer (some ⟨b,0,none⟩)] w fun e w'=>e= .returned (.tuple #[.int .i64 (Rs F V),.int .i64 (qY F V),.bool (I6 F V)])/\Hl w b S n (Li F) (Lj F V) w':=by
 have HL:=Za h;clear h;go_enter func284,ntmps284;go_wp2_with fail;refine (SQ HL.o).mono ?_;rintro e w' ⟨rfl,m,rfl⟩;have lq:=Za (HL.o.drewN m);go_wp2_with fail;refine (Tq lq.o).mono ?_;rintro e w' ⟨rfl,r,rfl,-,HP⟩;clear lq HL;go_wp2_with fail;refine HP.o.mono ?_;rintro e w' ⟨⟨u,rfl⟩,S',hl,hg⟩;have HE:Zl (Hl w b S n (Li F) (Lj F V) w'):=Za ⟨S',hl,⟨((ZM _ w).drewN m).trans hg.1 (fun _ _ h=>h),hg.2⟩⟩;clear HP hl hg;go_wp2;go_ret3;exact ⟨rfl,HE.o⟩
end
end
section
open Go Go.RowKit
section
variable {w:Zc} {b n:Nat} {S:Nat->Prop} {F V:List Int}
theorem sa {w:Zc}{g base:Nat}{L:List Int}(h:Zu w g 3 (L.map (ZI .i64)).toArray)(hb:base<=g)(hl:L.length<=9223372036854775807) :w.ownsRow base 3 1 (.slice (some ⟨g,0,none⟩) L.length L.length) L.length (L.map (ZI .i64)):=
 ⟨by simp,.inr ⟨g,L.length,_,rfl,hb,h,Zh _,by unfold maxLen; omega,by simp,List.take_of_length_le ZE⟩⟩
theorem NZ {r size:Nat}{g:Option Nat}{L:List Int}(h:Yv 148 3 1 w r g size L.length (L.map (ZI .i64))) :
  Zv Zb 45 #[.pointer (some ⟨r,0,none⟩)] w (Hk w L):=by
 refine (Ty r size L.length g _ w h).mono ?_;rintro e w' ⟨he,hb,hw⟩;exact ⟨_,he,sa hb (Zh _) (by have:=h.size_le; omega),hw⟩
theorem eC (c:Int)(h:Ln w b S n F V) :Zv Zb 46 #[.pointer (some ⟨b,0,none⟩),.int .i64 c] w (Hk w (VW F V c)):=by
 have HQ:=Za (AO c h);clear h;go_enter func46,ntmps46;go_wp2_with fail;refine HQ.o.mono ?_;rintro e w' ⟨rfl,⟨rfl,h0,h1⟩ | ⟨r,g,rfl,hc,hr⟩⟩
 ·have HE:=Za (gj (F:=F) (V:=V) h0 h1);clear h0 h1;go_wp2_with fail;refine (ir _).mono ?_;rintro e w' ⟨rfl,rfl⟩;go_wp2;go_ret;exact ⟨_,rfl,by rw [HE.o]; exact YX _ _ _ _,Zo _ _⟩
 ·have HR:=Za (NZ hr);clear hr hc;go_wp2_with fail;refine HR.o.mono ?_;rintro e w' ⟨v,rfl,ho,hb⟩;have HO:=Za ho;have HB:=Za hb;clear ho hb;go_wp2;go_ret;exact ⟨_,rfl,HO.o,HB.o⟩
theorem pb (c:Int)(w:Zc)(h:c < 0\/2<=c) :YV 216 #[.pointer (some ⟨b,0,none⟩),.int .i64 c] w (.slice none 0 0):=by
 have H:=Za h;clear h;go_enter func216,ntmps216;exact tK
theorem aH {w0 w1 w2:Zc}{v:Zk}{B n:Nat}{xs:List Zk}{t:ZJ}(h:Zp B w0 w1)(hB:B<=w1.heap.size)(hg:w1.grownBy w2 v.ownBlock)(ho:w1.ownsRow B t 1 v n xs) :Zp B w0 w2:=h.grown hg hB (fun q hq=>(ho.lt q hq).1)
theorem ez (h:Ln w b S n F V) :Zv Zb 216 #[.pointer (some ⟨b,0,none⟩),.int .i64 0] w (Hk w F):=by
 obtain ⟨j0,fF,BK,By,Nb⟩:=Bg;obtain ⟨f,v,gf,gv,h1,h2⟩:=h;have x0:=h1.cells.1;have HF:=Za (NZ h1.2.1);have hs:=h1.2.1.size_le;clear h1 h2;go_enter func216,ntmps216;go_wp2_with fail;refine (NB _ _ _ (.inl rfl)).mono ?_;rintro e w' ⟨rfl,rfl⟩;go_wp2_with fail;refine tH ?_;go_wp2_with fail;refine HF.o.mono ?_;rintro e w1 ⟨u,rfl,ho,hb⟩;have HO:=Za ho;have HB:=Za hb;obtain ⟨a,cp,rfl,_,_,_,hi⟩:=Kb (S:=fun _=>False) ho (fun _ _ h=>h);have HI:=Za hi.src;clear hi ho hb HF x0;go_wp2_with (at_builtin; refine XU _ rfl (.tmp 23) (.tmp 25) 24 rfl w.heap.size 3 j0 _ 1 8 underlying24 fF BK By Nb rfl Gm (.slice none 0 0) 0 [] rfl (YX _ _ _ _) a F.length cp (F.map (ZI .i64)) rfl ZE (fun h0=>by obtain ⟨ad,e,_,hc⟩:=HI.o.2.2 h0; exact ⟨ad,e,hc⟩) HI.o.2.1 GU Zf HB.o.size ?_; intro v2 w2 ve Wv PM);have HP:Zl (w2.ownsRow w.heap.size 3 1 v2 F.length (F.map (ZI .i64))/\Zp w.heap.size w w2):=Za ⟨by simpa using ve,HB.o.grown Wv HB.o.size (fun q hq=>by cases hq)⟩;clear ve Wv PM HO HB HI;go_wp2_with fail;rw [Y4];go_wp2_with fail;go_ret;exact ⟨_,rfl,HP.o.1,HP.o.2⟩
theorem lz (h:Ln w b S n F V) :Zv Zb 216 #[.pointer (some ⟨b,0,none⟩),.int .i64 1] w (Hk w (F++V)):=by
 obtain ⟨j0,fF,BK,By,Nb⟩:=Bg;obtain ⟨f,v,gf,gv,h1,h2⟩:=h;have x0:=h1.cells.1;have H1:=Za h1;have HF:=Za (NZ h1.2.1);have hs:=h1.2.1.size_le;have ht:=h1.2.2.1.size_le;clear h1 h2;go_enter func216,ntmps216;go_wp2_with fail;refine (NB _ _ _ (.inr rfl)).mono ?_;rintro e w' ⟨rfl,rfl⟩;go_wp2_with fail;refine jl ?_;go_wp2_with fail;refine HF.o.mono ?_;rintro e w1 ⟨u,rfl,ho,hb⟩;have HO:=Za ho;have HB:=Za hb;obtain ⟨a,cp,rfl,_,_,_,hi⟩:=Kb (S:=fun _=>False) ho (fun _ _ h=>h);have HI:=Za hi.src;clear hi ho hb HF x0;go_wp2_with (at_builtin; refine XU _ rfl (.tmp 23) (.tmp 25) 24 rfl w.heap.size 3 j0 _ 1 8 underlying24 fF BK By Nb rfl Gm (.slice none 0 0) 0 [] rfl (YX _ _ _ _) a F.length cp (F.map (ZI .i64)) rfl ZE (fun h0=>by obtain ⟨ad,e,_,hc⟩:=HI.o.2.2 h0; exact ⟨ad,e,hc⟩) HI.o.2.1 GU Zf HB.o.size ?_; intro v2 w2 ve Wv PM);have HP:Zl (w2.ownsRow w.heap.size 3 1 v2 F.length (F.map (ZI .i64))/\Zp w.heap.size w w2):=Za ⟨by simpa using ve,HB.o.grown Wv HB.o.size (fun q hq=>by cases hq)⟩;have KP:Zx (fun _=>False) w w2:=YR HP.o.2;have x1:=KP.cell (fun h=>h) H1.o.cells.2;have HV:=Za (NZ (H1.o.2.2.1.kept KP (fun _ _ h=>h)));clear ve Wv PM HO HB HI KP;go_wp2_with fail;rw [Y4];go_wp2_with fail;refine HV.o.mono ?_;rintro e w3 ⟨u,rfl,ho,hb⟩;have HO:=Za (show w3.ownsRow w.heap.size 3 1 v2 F.length (F.map (ZI .i64))/\Zp w.heap.size w w3 from ⟨gF HP.o.1 hb,HP.o.2.trans (hb.mono HP.o.2.size)⟩);obtain ⟨a,cp,rfl,_,_,_,hi⟩:=Kb (S:=fun _=>False) ho (fun _ _ h=>h);have HI:=Za hi.src;clear hi ho hb HV x1;go_wp2_with (at_builtin; refine XU _ rfl (.tmp 23) (.tmp 25) 24 rfl w.heap.size 3 j0 _ 1 8 underlying24 fF BK By Nb rfl Gm v2 F.length (F.map (ZI .i64)) rfl HO.o.1 a V.length cp (V.map (ZI .i64)) rfl ZE (fun h0=>by obtain ⟨ad,e,_,hc⟩:=HI.o.2.2 h0; exact ⟨ad,e,hc⟩) HI.o.2.1 GU Zf HO.o.2.size ?_; intro v4 w4 ho4 hg4 hv4);have HQ:Zl (w4.ownsRow w.heap.size 3 1 v4 (F++V).length ((F++V).map (ZI .i64))/\Zp w.heap.size w w4):=Za ⟨by simpa using ho4,aH HO.o.2 HO.o.2.size hg4 HO.o.1⟩;clear ho4 hg4 hv4 HO HI HP H1;go_wp2_with fail;rw [Y4];go_wp2_with fail;go_ret;exact ⟨_,rfl,HQ.o.1,HQ.o.2⟩
theorem ly (c:Int)(h:Ln w b S n F V) :Zv Zb 216 #[.pointer (some ⟨b,0,none⟩),.int .i64 c] w (Hk w (Ko F V c)):=by
 by_cases c0:c=0
 ·subst c0; exact ez h
 ·by_cases c1:c=1
  ·subst c1; exact lz h
  ·rw [Ko,if_neg c0,if_neg c1];exact (pb c w Zf).mono fun e w' ⟨he,hw⟩=>⟨_,he,YX _ _ _ _,hw▸Zo _ _⟩
end
end
section
def DQ (om:Int->Int) :List Int->List Int->Int->List (Int × Int) × List Int × List Int × Int
 | [],[],B=>([],[],[],B)
 | [],x::V,B=>if om x<=B then((x,1)::(DQ om [] V (B - om x)).1,(DQ om [] V (B - om x)).2) else([],[],x::V,B)
 | x::F,V,B=>if om x<=B then((x,0)::(DQ om F V (B - om x)).1,(DQ om F V (B - om x)).2) else([],x::F,V,B)
termination_by F V=>F.length+V.length
section
variable {om:Int->Int} {F V:List Int} {B:Int}
theorem aB (h:I6 F V=false) :DQ om F V B=([],F,V,B)/\F=[]/\V=[]:=by
 rcases F with _ | ⟨x,F⟩
 ·rcases V with _ | ⟨y,V⟩
  ·exact ⟨by rw [DQ],rfl,rfl⟩
  ·cases h
 ·cases h
theorem aC (h:I6 F V=true)(hx: ¬om (Rs F V)<=B) :DQ om F V B=([],F,V,B):=by
 rcases F with _ | ⟨x,F⟩
 ·rcases V with _ | ⟨y,V⟩
  ·cases h
  ·simp only [Rs] at hx; rw [DQ,if_neg hx]
 ·simp only [Rs] at hx; rw [DQ,if_neg hx]
theorem aA (h:I6 F V=true)(hx:om (Rs F V)<=B) :DQ om F V B=((Rs F V,qY F V)::(DQ om (Li F) (Lj F V) (B - om (Rs F V))).1,(DQ om (Li F) (Lj F V) (B - om (Rs F V))).2):=by
 rcases F with _ | ⟨x,F⟩
 ·rcases V with _ | ⟨y,V⟩
  ·cases h
  ·simp only [Rs] at hx; rw [DQ,if_pos hx]; rfl
 ·simp only [Rs] at hx; rw [DQ,if_pos hx]; rfl
theorem Ik (h:I6 F V=true) :(Li F).length+(Lj F V).length+1=F.length+V.length:=by
 rcases F with _ | ⟨x,F⟩
 ·rcases V with _ | ⟨y,V⟩
  ·cases h
  ·simp [Li,Lj]
 ·simp [Li,Lj]; omega
theorem sf (F V:List Int) :(Li F).length<=F.length/\(Lj F V).length<=V.length:=by
 rcases F with _ | ⟨x,F⟩
 ·rcases V with _ | ⟨y,V⟩<;> simp [Li,Lj]
 ·simp [Li,Lj]
end
theorem Nn {om:Int->Int}{P:List Int->List Int->Int->List (Int × Int) × List Int × List Int × Int->Prop}(hnone: ∀B,P [] [] B ([],[],[],B))
  (rn: ∀F V B,I6 F V=true-> ¬om (Rs F V)<=B->P F V B ([],F,V,B))
  (hnext: ∀F V B r,I6 F V=true->om (Rs F V)<=B->P (Li F) (Lj F V) (B - om (Rs F V)) r->P F V B ((Rs F V,qY F V)::r.1,r.2)) : ∀(n:Nat) (F V:List Int) (B:Int),F.length+V.length=n->P F V B (DQ om F V B):=by
 intro n
 induction n with
 | zero=>
  intro F V B h;obtain rfl:=ZR (show F.length=0 by omega);obtain rfl:=ZR (show V.length=0 by omega);rw [(aB rfl).1];exact hnone B
 | succ n ih=>
  intro F V B h;have hb:I6 F V=true:=by
   rcases F with _ | ⟨x,F⟩
   ·rcases V with _ | ⟨y,V⟩
    ·simp at h
    ·rfl
   ·rfl
  by_cases hx:om (Rs F V)<=B
  ·rw [aA hb hx];exact hnext F V B _ hb hx (ih _ _ _ (by have:=Ik hb; omega))
  ·rw [aC hb hx];exact rn F V B hb hx
def IF (om:Int->Int) :List (Int × Int)->Int
 | []=>0
 | p::l=>om p.1+IF om l
section
variable {om:Int->Int}
theorem dE (h: ∀i,0<=om i)(l:List (Int × Int)) :0<=IF om l:=by
 induction l with
 | nil=>simp [IF]
 | cons p l ih=>simp only [IF]; have:=h p.1; omega
theorem vT (om:Int->Int)(F V:List Int)(B:Int) :(DQ om F V B).2.2.2=B - IF om (DQ om F V B).1:=
 Nn (P:=fun F V B r=>r.2.2.2=B - IF om r.1) (fun B=>by simp [IF]) (fun F V B _ _=>by simp [IF]) (fun F V B r _ _ h=>by simp only [IF,h]; omega) _ F V B rfl
theorem pq (om:Int->Int)(F V:List Int)(B:Int)(h0:0<=B) :0<=(DQ om F V B).2.2.2:=
 Nn (P:=fun F V B r=>0<=B->0<=r.2.2.2) (fun B h=>h) (fun F V B _ _ h=>h) (fun F V B r _ hx h h0=>h Zf) _ F V B rfl h0
theorem jw (om:Int->Int)(F V:List Int)(B:Int) :(DQ om F V B).1.length+(DQ om F V B).2.1.length+(DQ om F V B).2.2.1.length=F.length+V.length:=
 Nn (P:=fun F V B r=>r.1.length+r.2.1.length+r.2.2.1.length=F.length+V.length) (fun B=>rfl) (fun F V B _ hx=>by simp) (fun F V B r hb hx h=>by have:=Ik hb; simp; omega) _ F V B rfl
end
end
section
open Go Go.RowKit
def Rx (ep:Int)(l:List (Int × Int)) :List Zk:=l.flatMap fun p=> [.int .i64 p.1,.int .i64 p.2,.int .i64 ep]
theorem nF (ep:Int)(l:List (Int × Int))(p:Int × Int) :Rx ep (l++[p])=Rx ep l++[.int .i64 p.1,.int .i64 p.2,.int .i64 ep]:=by simp [Rx]
theorem vS: ∃i,Tryz.prog.info? 280=some i/\i.zero=some (.agg #[.int .i64 0,.int .i64 0,.int .i64 0])/\i.size=3/\i.bytes=24:=by
 have h:(Tryz.prog.info? 280).map (fun i=>(i.zero,i.size,i.bytes))=some (some (.agg #[.int .i64 0,.int .i64 0,.int .i64 0]),3,24):=ZC
 cases hi:Tryz.prog.info? 280 with
 | none=>exact Re
 | some i=>
  exact Wn
theorem WL {w:Zc}{base n size:Nat}{e:ZJ}{v:Zk}{xs:List Zk}(h:w.ownsRow base e size v n xs) : ∃a cp,v= .slice a n cp:=tN
def Bj (w:Zc)(b m nn:Nat)(S:Nat->Prop)(Sp B0 D ep:Int)(wr:Zc)(v:Zk)(out:List (Int × Int))(F V:List Int)(B:Int) :Prop:=
 ∃S1 T1,Ln wr b S1 nn F V/\(∀i,S1 i->S i\/w.heap.size<=i)/\ ¬S1 m/\KI wr m B (Sp+(B0 - B)) T1 D/\Jd B (Sp+(B0 - B)) T1 D/\
  wr.ownsRow w.heap.size 280 3 v out.length (Rx ep out)/\(∀g,v.ownBlock=some g-> ¬S1 g)/\Zx (fun i=>i=m\/S i) w wr/\m < w.heap.size
section
variable {w wr w':Zc} {b m nn:Nat} {S:Nat->Prop} {Sp B0 D ep B x:Int} {v:Zk} {out:List (Int × Int)} {F V:List Int}
theorem Bj.drewN (h:Bj w b m nn S Sp B0 D ep wr v out F V B)(q:Nat) :Bj w b m nn S Sp B0 D ep (wr.drewN q) v out F V B:=by
 obtain ⟨S1,T1,h1,h2,h3,h4,h5,h6,h7,h8,h9⟩:=h;exact ⟨S1,T1,h1,h2,h3,h4,h5,h6,h7,h8.drewN q,h9⟩
theorem Bj.head (h:Bj w b m nn S Sp B0 D ep wr v out F V B) :Xb 265 #[.pointer (some ⟨b,0,none⟩)] wr (.tuple #[.int .i64 (Rs F V),.int .i64 (qY F V),.bool (I6 F V)]):=by
 obtain ⟨S1,T1,h1,_⟩:=h;exact SQ h1
theorem Bj.refuse (h:Bj w b m nn S Sp B0 D ep wr v out F V B)(hx: ¬x<=B) :Xb 264 #[.pointer (some ⟨m,0,none⟩),.int .u64 x] wr (.bool false):=by
 obtain ⟨S1,T1,h1,h2,h3,h4,h5,_⟩:=h;exact yX m _ _ _ _ x wr h4 h5 Zf
theorem Bj.take (h:Bj w b m nn S Sp B0 D ep wr v out F V B)(x0:0<=x)(hx:x<=B) :Zv Zb 264 #[.pointer (some ⟨m,0,none⟩),.int .u64 x] wr fun e w'=>e= .returned (.bool true)/\Zl (Bj w b m nn S Sp B0 D ep w' v out F V (B - x)):=by
 obtain ⟨S1,T1,h1,h2,h3,h4,h5,h6,h7,h8,h9⟩:=h;obtain ⟨T',hT,hN,hG,hb⟩:=yW h5 x0 hx;refine (tk m _ _ _ _ T' x wr h4 h5 hx hT hG hb).mono ?_;rintro e w' ⟨he,hm,hg⟩;have k:Zx (fun i=>i=m) wr w':=Xu hg (fun i e=>by injection e);have es:Sp+(B0 - B)+x=Sp+(B0 -(B - x)):=Zf;rw [es] at hm hN;exact ⟨he,Za ⟨S1,T',h1.kept k (fun i hi e=>h3 IU),h2,h3,hm,hN,EJ h6 k (fun g hg e=>by have:=(h6.lt g hg).1; have:g=m:=e; omega),h7,h8.trans k (fun i _ e=> .inl e),h9⟩⟩
theorem Bj.pop (h:Bj w b m nn S Sp B0 D ep wr v out F V B) :Zv Zb 284 #[.pointer (some ⟨b,0,none⟩)] wr fun e w'=>e= .returned (.tuple #[.int .i64 (Rs F V),.int .i64 (qY F V),.bool (I6 F V)])/\Zl (Bj w b m nn S Sp B0 D ep w' v out (Li F) (Lj F V) B):=by
 obtain ⟨S1,T1,h1,h2,h3,h4,h5,h6,h7,h8,h9⟩:=h;refine (yd h1).mono ?_;rintro e w' ⟨he,S2,hl,hg⟩;have new: ∀i,i < wr.heap.size-> ¬S1 i-> ¬S2 i:=fun i hi hn hs=>(hg.2 i hs).elim hn (fun h=>by omega)
 refine ⟨he,Za ⟨S2,T1,hl,fun i hi=>?_,new m (Nat.lt_of_lt_of_le h9 h8.size) h3,Zu.kept (w:=wr) h4 hg.1 h3,h5,EJ h6 hg.1 h7,fun g hg'=>new g (h6.lt g hg').2 (h7 g hg'),h8.trans hg.1 (fun i hi h=>(h2 i h).elim .inr (fun h=>by omega)),h9⟩⟩
 rcases hg.2 i hi with h | h
 ·exact h2 i h
 ·exact .inr (ZY h8.size h)
theorem Bj.alloc (h:Bj w b m nn S Sp B0 D ep wr v out F V B)(o:Obj) :Bj w b m nn S Sp B0 D ep (wr.alloc o) v out F V B:=by
 obtain ⟨S1,T1,h1,h2,h3,h4,h5,h6,h7,h8,h9⟩:=h;have k:Zx (fun _=>False) wr (wr.alloc o):=(ZM _ _).alloc o;exact ⟨S1,T1,h1.kept k (fun _ _ h=>h),h2,h3,Yw h4 o,h5,h6.alloc _,h7,h8.alloc o,h9⟩
theorem Bj.app {v':Zk}{p:Int × Int}(h:Bj w b m nn S Sp B0 D ep wr v out F V B)(ho:w'.ownsRow w.heap.size 280 3 v' (out.length+1) (Rx ep out++[.int .i64 p.1,.int .i64 p.2,.int .i64 ep]))(hg:wr.grownBy w' v.ownBlock)
  (ha:v'.ownBlock=v.ownBlock\/v'.ownBlock=some wr.heap.size) :Bj w b m nn S Sp B0 D ep w' v' (out++[p]) F V B:=by
 obtain ⟨S1,T1,h1,h2,h3,h4,h5,h6,h7,h8,h9⟩:=h;have k:Zx (fun i=>some i=v.ownBlock) wr w':=Xu hg (fun i e=>e);refine ⟨S1,T1,h1.kept k (fun i hi e=>h7 i (Eq.symm e) hi),h2,h3,Zu.kept (w:=wr) h4 k (fun e=>by have:=(h6.lt m (Eq.symm e)).1; omega),h5,by rw [nF]; simpa using ho,fun g hg'=>?_,h8.trans k (fun i hi e=>by have:=(h6.lt i (Eq.symm e)).1; omega),h9⟩
 rcases ha with ha | ha
 ·exact h7 g (ha▸hg')
 ·rw [ha] at hg';injection hg' with hg';exact fun hs=>by have:=h1.lt g hs; omega
end
def ZfR (w:Zc)(g:Nat)(l:List Zk) :Prop:=(0 < 1-> ∃ad,some (⟨g,0,none⟩ :Addr)=some ad/\ ∀j u,l[j]?=some u->w.cell? (ad.add j)=some u)/\ ∀u ∈ l,u.oneCell'=true
theorem sX (w:Zc)(t:ZJ)(x y z:Int) :ZfR (w.alloc (.cells #[.int .i64 x,.int .i64 y,.int .i64 z] t)) w.heap.size [.int .i64 x,.int .i64 y,.int .i64 z]:=by
 refine ⟨fun _=>⟨_,rfl,fun j u hj=>?_⟩,fun u hu=>?_⟩
 ·rw [add_plain,ZV,(Zt w t #[.int .i64 x,.int .i64 y,.int .i64 z]).cell];simpa using hj
 ·simp at hu;exact kX
def Ni (w:Zc)(b m nn:Nat)(S:Nat->Prop)(Sp B0 D ep:Int)(om:Int->Int)(F V:List Int)(e:Ending)(w':Zc) :Prop:=
 ∃a c,e= .returned (.slice a (DQ om F V B0).1.length c)/\Zl (Bj w b m nn S Sp B0 D ep w' (.slice a (DQ om F V B0).1.length c) (DQ om F V B0).1 (DQ om F V B0).2.1 (DQ om F V B0).2.2.1 (DQ om F V B0).2.2.2)
section
variable {w:Zc} {b m nn:Nat} {S:Nat->Prop} {B Sp T D ep:Int} {F V L:List Int} {wa:Option Addr} {cap:Nat}
theorem cW (hl:Ln w b S nn F V)(hm:KI w m B Sp T D)(hF:Jd B Sp T D)(hn: ¬S m)(hu:Ot w (fun i=>i=m\/S i) wa L)(hL:L.length<=9223372036854775807)(hA:Mi L) :
  Zv Zb 263 #[.int .i64 ep,.pointer (some ⟨b,0,none⟩),.slice wa L.length cap,.func (.func 264) #[.pointer (some ⟨m,0,none⟩)] #[]] w (Ni w b m nn S Sp B D ep (Ks L) F V):=by
 obtain ⟨j0,fF,BK,By,Nb⟩:=vS;have Bx:=hl.size;have HU:=Za hu;have HA:=Za hA;have HL:=Za hL;have re:=Zu.lt hm;have H0:Zl (Bj w b m nn S Sp B D ep w (.slice none 0 0) [] F V B):=Za ⟨S,T,hl,fun i hi=> .inl hi,hn,by rw [show Sp+(B - B)=Sp by omega]; exact hm,by rw [show Sp+(B - B)=Sp by omega]; exact hF,YX _ _ _ _,(fun g hg=>by cases hg),ZM _ _,re⟩;have HN:Zl (F.length+V.length<=2097152):=Za Zf;clear hl hm hF hn hu hA Bx re hL;go_enter func263,ntmps263;go_wp2;go_loopg [9] (F.length+V.length) (fun g s9 wr=> ∃(F1 V1:List Int) (B1:Int) (out:List (Int × Int)) (k:Nat) (a:Option Addr) (c:Nat),F1.length+V1.length=g/\s9= .slice a k c/\Zl (k=out.length/\k+g<=2097152)/\
  Zl (Bj w b m nn S Sp B D ep wr (.slice a k c) out F1 V1 B1)/\Zl (DQ (Ks L) F V B=(out++(DQ (Ks L) F1 V1 B1).1,(DQ (Ks L) F1 V1 B1).2)))
 case atStart=>exact ⟨F,V,B,[],0,none,0,rfl,rfl,Za ⟨rfl,by have:=HN.o; omega⟩,H0,Za rfl⟩
 case round=>
  clear H0 HN;obtain ⟨F1,V1,B1,out,k,a,c,hg,rfl,HK,HP,HE⟩:=hrel;have HG:=Za hg;clear hg;go_wp2_with fail;refine HP.o.head.mono ?_;rintro e w1 ⟨rfl,q,rfl⟩;have zF:=Za (HP.o.drewN q);have HU1:Zl (Ot (wr.drewN q) (fun i=>i=m\/S i) wa L):=Za (by
   obtain ⟨_,_,_,_,_,_,_,_,_,k8,_⟩:=zF.o;exact HU.o.kept k8 (fun _ _ h=>h))
  clear HP;generalize wr.drewN q=w1 at*
  cases hb:I6 F1 V1
  ·have HR:Zl (Ni w b m nn S Sp B D ep (Ks L) F V (.returned (.slice a k c)) w1):=Za (by
    have e1:=HE.o;rw [(aB hb).1,XM] at e1;refine ⟨a,c,by rw [e1]; simp only [HK.o.1],?_⟩;rw [e1];have:=zF.o;rw [HK.o.1] at this;exact Za this)
   clear zF HU1 HE HK;have HB:=Za hb;clear hb;go_wp2;try rw [UX]
   go_ret;exact HR.o
  ·have HB:=Za hb;clear hb;obtain ⟨x,hx⟩:=ZT (Ks L (Rs F1 V1));have hi:=fun w h=>T8 (S:=fun i=>i=m\/S i) (a:=wa) cap (Rs F1 V1) w h HL.o
   rw [hx] at hi;have HI:=Za hi;have HX:=Za hx;have oR:=Od HA.o (Rs F1 V1);rw [hx] at oR;have HX0:=Za oR;clear hi hx oR
   by_cases hle:x<=B1
   ·have HT:=Za (zF.o.take HX0.o.1 hle);have Hj:Zl (DQ (Ks L) F V B=((out++[(Rs F1 V1,qY F1 V1)])++(DQ (Ks L) (Li F1) (Lj F1 V1) (B1 - x)).1,(DQ (Ks L) (Li F1) (Lj F1 V1) (B1 - x)).2)):=Za (by
     have e1:=HE.o;rw [aA HB.o (by rw [HX.o]; exact hle),HX.o] at e1;rw [e1]; simp)
    have uQ:Zl ((Li F1).length+(Lj F1 V1).length+1=gk):=Za (by have:=Ik HB.o; have:=HG.o; omega);clear hle HE HX HX0 zF;go_wp2_with fail;refine (HI.o _ HU1.o).mono ?_;rintro e w' ⟨rfl,rfl⟩;go_wp2_with fail;refine HT.o.mono ?_;rintro e w2 ⟨rfl,zG⟩;clear HT HI HU1;go_wp2_with fail;refine zG.o.pop.mono ?_;rintro e w3 ⟨rfl,HP3⟩;clear zG;generalize Li F1=F2 at*;generalize Lj F1 V1=V2 at*;generalize Rs F1 V1=ix at*;generalize qY F1 V1=ic at*;generalize I6 F1 V1=ib at*;have HP4:Zl (Bj w b m nn S Sp B D ep (w3.alloc (.cells #[.int .i64 ix,.int .i64 ic,.int .i64 ep] 280)) (.slice a k c) out F2 V2 (B1 - x)):=Za (HP3.o.alloc _);have Ri:Zl ((w3.alloc (.cells #[.int .i64 ix,.int .i64 ic,.int .i64 ep] 280)).ownsRow w.heap.size 280 3 (.slice a k c) k (Rx ep out)/\w.heap.size<=w3.heap.size):=Za (by
     obtain ⟨_,_,_,_,_,_,_,k6,_,k8,_⟩:=HP4.o;obtain ⟨_,_,_,_,_,_,_,_,_,k8',_⟩:=HP3.o;exact ⟨by rw [<-HK.o.1] at k6; exact k6,k8'.size⟩)
    have hkb:k<=2097152:=by have:=HK.o.2; omega
    clear HP3;have HN1:Zl (ZfR (w3.alloc (.cells #[.int .i64 ix,.int .i64 ic,.int .i64 ep] 280)) w3.heap.size [.int .i64 ix,.int .i64 ic,.int .i64 ep]):=Za (sX w3 _ ix ic ep);go_wp2_with (at_builtin; refine XU _ rfl (.tmp 32) (.tmp 37) 50 rfl w.heap.size 280 j0 _ 3 24 underlying50 fF BK By Nb rfl YW (.slice a k c) k (Rx ep out) rfl Ri.o.1 (some ⟨w3.heap.size,0,none⟩) 1 1 [.int .i64 ix,.int .i64 ic,.int .i64 ep] rfl rfl HN1.o.1 HN1.o.2 GU Zf (by have:=Ri.o.2; simp; omega) ?_);intro v' w5 ho5 hg5 ha5;have HP5:Zl (Bj w b m nn S Sp B D ep w5 v' (out++[(ix,ic)]) F2 V2 (B1 - x)):=Za (HP4.o.app (p:=(ix,ic)) (by rw [<-HK.o.1]; exact ho5) hg5 (by simpa using ha5));obtain ⟨a5,c5,rfl⟩:=WL ho5;have HK5:Zl (k+1=(out++[(ix,ic)]).length/\k+1+(gk - 1)<=2097152):=Za ⟨by rw [List.length_append,HK.o.1]; rfl,by have:=HK.o.2; have:=uQ.o; omega⟩;have HGG:Zl (F2.length+V2.length=gk - 1/\0 < gk):=Za (by have:=uQ.o; omega);clear ho5 hg5 ha5 HP4 Ri HK HG uQ hkb HN1;go_wp2;go_roundg (gk - 1)
    case measure=>have:=HGG.o.2; omega
    case rel=>exact ⟨F2,V2,B1 - x,out++[(ix,ic)],k+1,a5,c5,HGG.o.1,rfl,HK5,HP5,Hj⟩
   ·have HT:=Za (zF.o.refuse hle);have HR:Zl (∀q,Ni w b m nn S Sp B D ep (Ks L) F V (.returned (.slice a k c)) (w1.drewN q)):=Za (fun q=>by
     have e1:=HE.o;rw [aC HB.o (by rw [HX.o]; exact hle),XM] at e1;refine ⟨a,c,by rw [e1]; simp only [HK.o.1],?_⟩;rw [e1];have:=zF.o.drewN q;rw [HK.o.1] at this;exact Za this)
    clear zF HE HK HX;go_wp2_with fail;refine (HI.o _ HU1.o).mono ?_;rintro e w' ⟨rfl,rfl⟩;go_wp2_with fail;refine HT.o.mono ?_;rintro e w2 ⟨rfl,q2,rfl⟩;clear HT HI HU1;go_wp2;try rw [UX]
    go_ret;exact HR.o _
end
end
section
open Go Go.RowKit
def gr (B x:Int) :Int:=B+(if 18446744073709551615 - B < x then 18446744073709551615 - B else x)
def EP (om:Int->Int)(F V:List Int)(B x:Int) :List (Int × Int) × List Int × List Int × Int:=DQ om F V (gr B x)
def Ey (r:List (Int × Int) × List Int × List Int × Int) :Int:=if I6 r.2.1 r.2.2.1=true then r.2.2.2 else 0
def Rj (w:Zc)(b m nn:Nat)(S:Nat->Prop)(ep:Int)(wr:Zc)(v:Zk)(out:List (Int × Int))(F V:List Int)(B Sp:Int) :Prop:=
 ∃S1 T1 D1,Ln wr b S1 nn F V/\(∀i,S1 i->S i\/w.heap.size<=i)/\ ¬S1 m/\KI wr m B Sp T1 D1/\Jd B Sp T1 D1/\
  wr.ownsRow w.heap.size 280 3 v out.length (Rx ep out)/\(∀g,v.ownBlock=some g-> ¬S1 g)/\Zx (fun i=>i=m\/S i) w wr/\m < w.heap.size
theorem Ie {w:Zc}{base zQ n size:Nat}{e:ZJ}{v:Zk}{xs:List Zk}(h:w.ownsRow base e size v n xs)(hb:zQ<=base) :w.ownsRow zQ e size v n xs:=by
 obtain ⟨h1,h2⟩:=h;refine ⟨h1,?_⟩
 rcases h2 with h2 | ⟨g,cap,cur,rfl,h3,h4⟩
 ·exact .inl h2
 ·exact .inr ⟨g,cap,cur,rfl,ZY hb h3,h4⟩
section
variable {w w1 wr w':Zc} {b m nn:Nat} {S:Nat->Prop} {Sp B0 D ep B x:Int} {v:Zk} {out:List (Int × Int)} {F V:List Int}
theorem Bj.to (h:Bj w1 b m nn S Sp B0 D ep wr v out F V B)(k:Zx (fun i=>i=m\/S i) w w1)(hm:m < w.heap.size) :Rj w b m nn S ep wr v out F V B (Sp+(B0 - B)):=by
 obtain ⟨S1,T1,h1,h2,h3,h4,h5,h6,h7,h8,h9⟩:=h;exact ⟨S1,T1,D,h1,fun i hi=>(h2 i hi).imp id (fun h=>ZY k.size h),h3,h4,h5,Ie h6 k.size,h7,k.trans h8 (fun _ _ h=>h),hm⟩
theorem Rj.drewN (h:Rj w b m nn S ep wr v out F V B Sp)(q:Nat) :Rj w b m nn S ep (wr.drewN q) v out F V B Sp:=by
 obtain ⟨S1,T1,D1,h1,h2,h3,h4,h5,h6,h7,h8,h9⟩:=h;exact ⟨S1,T1,D1,h1,h2,h3,h4,h5,h6,h7,h8.drewN q,h9⟩
theorem Rj.head (h:Rj w b m nn S ep wr v out F V B Sp) :Xb 265 #[.pointer (some ⟨b,0,none⟩)] wr (.tuple #[.int .i64 (Rs F V),.int .i64 (qY F V),.bool (I6 F V)]):=by
 obtain ⟨S1,T1,D1,h1,_⟩:=h;exact SQ h1
theorem Rj.drop (h:Rj w b m nn S ep wr v out F V B Sp) :Zv Zb 266 #[.pointer (some ⟨m,0,none⟩)] wr fun e w'=>e= .returned (.int .u64 B)/\Zl (Rj w b m nn S ep w' v out F V 0 Sp):=by
 obtain ⟨S1,T1,D1,h1,h2,h3,h4,h5,h6,h7,h8,h9⟩:=h;obtain ⟨D',hD,hN,hG⟩:=wB h5;refine (p4 m _ _ _ _ D' wr h4 h5 hD hG).mono ?_;rintro e w' ⟨he,hm,hg⟩;have k:Zx (fun i=>i=m) wr w':=Xu hg (fun i e=>by injection e);exact ⟨he,Za ⟨S1,T1,D',h1.kept k (fun i hi e=>h3 IU),h2,h3,hm,hN,EJ h6 k (fun g hg e=>by have:=(h6.lt g hg).1; have:g=m:=e; omega),h7,h8.trans k (fun i _ e=> .inl e),h9⟩⟩
end
def R7 (w:Zc)(b m nn:Nat)(S:Nat->Prop)(om:Int->Int)(F V:List Int)(B x ep:Int)(e:Ending)(w':Zc) :Prop:=
 ∃a c,e= .returned (.slice a (EP om F V B x).1.length c)/\Zl (Rj w b m nn S ep w' (.slice a (EP om F V B x).1.length c) (EP om F V B x).1 (EP om F V B x).2.1 (EP om F V B x).2.2.1 (Ey (EP om F V B x)) (gr B x -(EP om F V B x).2.2.2))
section
variable {w:Zc} {b m nn:Nat} {S:Nat->Prop} {B Sp T D x ep:Int} {F V L:List Int} {wa:Option Addr} {cap:Nat}
theorem sY (hl:Ln w b S nn F V)(hm:KI w m B Sp T D)(hF:Jd B Sp T D)(hn: ¬S m)(hu:Ot w (fun i=>i=m\/S i) wa L)(hL:L.length<=9223372036854775807)(hA:Mi L)(hx:0<=x)(bJ:0<=ep)(xj:ep<=1099511627776) :
  Zv Zb 235 #[.int .i64 ep,.pointer (some ⟨b,0,none⟩),.pointer (some ⟨m,0,none⟩),.int .u64 x,.slice wa L.length cap] w (R7 w b m nn S (Ks L) F V B x (ep+1)):=by
 obtain ⟨p,hp,hG,hN,hb,_⟩:=qE hF hx;have hgr:B+p=gr B x:=by rw [gr,hp]
 have CQ: ∀(fn:Fn) (first cap:Array Zk) (w:Zc),(QH fn first cap).run Zb w= .ok (.func fn first cap) w:=fun _ _ _ _=>rfl
 have HG:=Za ((mw m B Sp T D x p w hm hF hp hG hN hb).mono (R':=fun e w'=>e= .returned (.int .u64 (B+p))/\Zl (Zx (fun i=>i=m) w w'/\Zv Zb 263 #[.int .i64 (ep+1),.pointer (some ⟨b,0,none⟩),.slice wa L.length cap,.func (.func 264) #[.pointer (some ⟨m,0,none⟩)] #[]] w' (Ni w' b m nn S 0 (B+p) D (ep+1) (Ks L) F V)))
  (fun e w' ⟨he,hm',hg⟩=>⟨he,Za (by
   have k:Zx (fun i=>i=m) w w':=Xu hg (fun i e=>by injection e);exact ⟨k,cW (hl.kept k (fun i hi e=>hn IU)) hm' hN hn (hu.kept k (fun i _ e=> .inl e)) hL hA⟩)⟩))
 have re:=Zu.lt hm;rw [hgr] at HG;have HM:=Za re;clear hl hm hF hn hu hA hL re hp hG hN hb hgr hx;go_enter func235,ntmps235;go_wp2_with fail;refine HG.o.mono ?_;rintro e w1 ⟨rfl,HP⟩;clear HG;go_wp2_with fail;refine HP.o.2.mono ?_;rintro e w2 ⟨a,c,he,H2⟩;change e= .returned (.slice a (EP (Ks L) F V B x).1.length c) at he;subst he;have H3:Zl (Rj w b m nn S (ep+1) w2 (.slice a (EP (Ks L) F V B x).1.length c) (EP (Ks L) F V B x).1 (EP (Ks L) F V B x).2.1 (EP (Ks L) F V B x).2.2.1 (EP (Ks L) F V B x).2.2.2 (gr B x -(EP (Ks L) F V B x).2.2.2)):=Za (by
  have:=H2.o.to (w:=w) (HP.o.1.more (fun i _ e=> .inl e)) HM.o;rw [Int.zero_add] at this;exact this)
 clear H2 HP CQ;have HR:Zl (∀w',Rj w b m nn S (ep+1) w' (.slice a (EP (Ks L) F V B x).1.length c) (EP (Ks L) F V B x).1 (EP (Ks L) F V B x).2.1 (EP (Ks L) F V B x).2.2.1 (Ey (EP (Ks L) F V B x)) (gr B x -(EP (Ks L) F V B x).2.2.2)->R7 w b m nn S (Ks L) F V B x (ep+1) (.returned (.slice a (EP (Ks L) F V B x).1.length c)) w'):=Za (fun w' h=>⟨a,c,rfl,Za h⟩);have NC:Ey (EP (Ks L) F V B x)=if I6 (EP (Ks L) F V B x).2.1 (EP (Ks L) F V B x).2.2.1=true then(EP (Ks L) F V B x).2.2.2 else 0:=rfl
 generalize Ey (EP (Ks L) F V B x)=bl at*;generalize R7 w b m nn S (Ks L) F V B x (ep+1)=Q at*;generalize gr B x -(EP (Ks L) F V B x).2.2.2=sp at*;generalize (EP (Ks L) F V B x).1.length=nl at*;generalize EP (Ks L) F V B x=r at*;obtain ⟨out,F2,V2,B2⟩:=r
 dsimp only at*
 have HB:=Za NC;clear NC;go_wp2_with fail;refine H3.o.head.mono ?_;rintro e w3 ⟨rfl,q,rfl⟩;have H4:=Za (H3.o.drewN q);clear H3;generalize w2.drewN q=w3 at*
 cases hb:I6 F2 V2
 ·have HD:=Za H4.o.drop;rw [hb] at HB;clear hb H4;go_wp2_with fail;refine HD.o.mono ?_;rintro e w4 ⟨rfl,H5⟩;have H6:=Za (HR.o w4 (by rw [HB.o]; exact H5.o));clear HR HD H5 HB;go_wp2;exact H6.o
 ·rw [hb] at HB;have H6:=Za (HR.o w3 (by rw [HB.o]; exact H4.o));clear HR HB hb H4;go_wp2;exact H6.o
end
end
section
open Go Go.RowKit
structure Good (c:Nat->Int) :Prop where
 cap0:1<=c 0
 cap1:c 0<=4096
 part:0<=c 16
 vis0:c 16 < c 14
 pay0:c 16 < c 15
 vis1:c 14<=4096
 pay1:c 15<=4096
 chu0:1<=c 7
 chu1:c 7<=1152921504606846976
 fcp0:0<=c 9
 fcp1:c 9<=1152921504606846976
 unb0:1<=c 10
 unb1:c 10<=1048576
 sla0:c 10 < c 11
 sla1:c 11<=1048576
 len0:1<=c 13
 NN:c 13<=4096
theorem J5 {v lo hi:Int}(h:Mr v lo hi=true) :lo<=v/\v<=hi:=by unfold Mr at h; simpa using h
theorem bounds_u64 {n:Int}(h:(Lit.int .u64 n).wf=true) :0<=n/\n<=18446744073709551615:=Za5
theorem bounds_i64 {n:Int}(h:(Lit.int .i64 n).wf=true) : -9223372036854775808<=n/\n<=9223372036854775807:=Za5
theorem bE {c:Nat->Int}(hf:Ci c)(h:Ws c=0) :Good c:=by
 rcases LX c with ⟨_,hb⟩ | ⟨k,_,_,_,e⟩
 ·have h0:=J5 (hb 0 Zf);have h7:=J5 (hb 7 Zf);have h9:decide (c 9<=Ia)=true:=hb 9 Zf;have PK:=J5 (hb 10 Zf);have UT:decide (c 10 < c 11/\c 11<=1048576)=true:=hb 11 Zf;have fA:=J5 (hb 13 Zf);have h14:=J5 (hb 14 Zf);have h15:=J5 (hb 15 Zf);have qK:decide (0<=c 16/\c 16 < c 14/\c 16 < c 15)=true:=hb 16 Zf;have f9:(Lit.int .u64 (c 9)).wf=true:=hf 9 Zf;simp at h9 UT qK;unfold Ia at h7 h9;exact ⟨h0.1,h0.2,qK.1,qK.2.1,qK.2.2,h14.2,h15.2,h7.1,h7.2,(bounds_u64 f9).1,h9,PK.1,PK.2,UT.1,UT.2,fA.1,fA.2⟩
 ·omega
def Eb:Nat->Int
 | 0=>16
 | 1=>8
 | 2=>16
 | 3=>64
 | 4=>1024
 | 5=>8
 | 6=>128
 | 7=>32
 | 8=>4
 | 9=>64
 | 10=>2
 | 11=>5
 | 12=>4
 | 13=>4
 | 14=>6
 | 15=>4
 | 16=>2
 | 17=>2
 | 18=>1
 | 19=>4
 | _=>0
theorem Nw:Ws Eb=0:=by decide+kernel
theorem OM:Ci Eb:=by
 intro k hk;have:k=0\/k=1\/k=2\/k=3\/k=4\/k=5\/k=6\/k=7\/k=8\/k=9\/k=10\/k=11\/k=12\/k=13\/k=14\/k=15\/k=16\/k=17\/k=18\/k=19:=Zf
 rcases this with h | h | h | h | h | h | h | h | h | h | h | h | h | h | h | h | h | h | h | h <;> subst h <;> decide
theorem lN (c:Nat->Int) :(Zi c).all (·.oneCell')=true:=ZC
theorem Bn (w:Zc) :Z3 29 #[] w (.agg (Zi Eb)):=by
 go_enter func29,ntmps29;go_wp2_with (first | (refine JR rfl 30 _ rfl ZC ?_; rw [show (Tryz.prog.built 30 _).getD #[]=Zi Eb from by kernel_rfl]) | (refine UP w.heap.size (Zi Eb) 30 (ZA w _) X7 (lN _) ?_; rw [Zr]));exact bodyPost_ret (v:= .agg (Zi Eb)) (results_cell_row (fn:=Tryz.f29) rfl _ _ w.heap.size 30 (Zi Eb) (0,0) _ rfl (ZA w _) underlying30 rfl X7) rfl ⟨rfl,(Zo _ _).alloc (Zh _) _⟩
theorem iR (c:Nat->Int)(hg:Good c)(w:Zc) :
  Z3 302 #[.agg (Zi c)] w (.int .i64 (c 14 - c 16)):=by
 have g2:=hg.part;have g3:=hg.vis0;have g5:=hg.vis1;unfold Zi;go_enter func302,ntmps302;exact Zbo
theorem Ih (c:Nat->Int)(hg:Good c)(w:Zc) :
  Z3 303 #[.agg (Zi c)] w (.int .i64 (c 15 - c 16)):=by
 have g2:=hg.part;have g4:=hg.pay0;have g6:=hg.pay1;unfold Zi;go_enter func303,ntmps303;exact Zbo
def Un (c:Nat->Int) :Int:=min (c 14 - c 16) (c 15 - c 16)
def Fg (c:Nat->Int) :Int:=(c 0 - 1)/Un c+1
theorem PV {c:Nat->Int}(hg:Good c) :1<=Un c/\Un c<=4096:=by
 have g2:=hg.part;have g3:=hg.vis0;have g4:=hg.pay0;have g5:=hg.vis1;have g6:=hg.pay1;unfold Un; omega
theorem j9 {c:Nat->Int}(hg:Good c) :0<=(c 0 - 1)/Un c/\(c 0 - 1)/Un c<=4095:=by
 have h:=PV hg;have g0:=hg.cap0;have g1:=hg.cap1;exact ZaL
theorem Ac {c:Nat->Int}(hg:Good c) :1<=Fg c/\Fg c<=4096:=by
 have:=j9 hg; unfold Fg; omega
theorem jY (c:Nat->Int) :(Tryz.prog.info? 30).map (·.size)=some (Zi c).size:=X7
theorem Rz (c:Nat->Int)(hg:Good c)(w:Zc) :
  Z3 296 #[.agg (Zi c)] w (.int .i64 (Fg c)):=by
 have V:=Za (iR c hg);have Y:=Za (Ih c hg);have K0:Vp w.heap.size w.heap.size 30 (Zi c) w (w.alloc (.cells (Zi c) 30)):=Vp.new (Zo _ _) (Zh _);have hp:=PV hg;have hq:=j9 hg;have hd:decide (Un c < 1)=false:=Xl;have OV:decide (c 0 < 1)=false:=by have:=hg.cap0; simp; omega
 have hz:(Un c==0)=false:=Xl;have g0:=hg.cap0;have g1:=hg.cap1;have HB:=Za (show Fg c=(c 0 - 1)/Un c+1 from rfl);clear hg;unfold Zi;go_enter func296,ntmps296;go_wp2_with (fail);refine J2 (Vp w.heap.size w.heap.size 30 (Zi c) w) ZC ZC K0.drew ?_;refine QP 30 (.tmp 1) w.heap.size 30 (Zi c) _ rfl rfl rfl (fun _ h=>h.1) underlying30 rfl (jY c) ?_;refine O7 (.int .i64 (c 14 - c 16)) #[.agg (Zi c)] rfl ZC call302 (fun _ h=>h.call (V.o _)) ?_;refine QP 30 (.tmp 1) w.heap.size 30 (Zi c) _ rfl rfl rfl (fun _ h=>h.1) underlying30 rfl (jY c) ?_;refine O7 (.int .i64 (c 15 - c 16)) #[.agg (Zi c)] rfl ZC call303 (fun _ h=>h.call (Y.o _)) ?_;refine BL (.int .i64 (Un c)) rfl (fun _=>by go_simp; rfl) ?_;refine BL (.int .i64 (Un c)) rfl (fun _=>by go_simp) ?_;refine XK ?_;intro w1 hk;have M9:=QS hk.1 0;have NC:=hk.2.1;clear hk K0;go_wp2_with (fail);go_ret;exact ⟨FB HB.o.symm,NC⟩
theorem SF (n L:Int)(w:Zc)(h2:0<=n)(hn:n<=9223372036854775807)(h3:1<=L) :
  YV 141 #[.int .i64 n,.int .i64 L] w (.int .i64 (n/L)):=by
 have hd:decide (n < 0)=false:=by simpa using h2
 have xi:decide (L < 1)=false:=by simpa using h3
 have hz:(L==0)=false:=Xl;have q0:0<=n/L:=Int.ediv_nonneg Zf Zf;have q1:n/L<=n:=Int.ediv_le_self _ Zf;go_enter func141,ntmps141;exact Uu
def BF (c:Nat->Int) :Int:=(Fg c - 1)/c 13
theorem AZ {c:Nat->Int}(hg:Good c) :0<=BF c/\BF c<=4095:=by
 have h:=Ac hg;have h1:=hg.len0;unfold BF;exact ZaL
theorem IH (c:Nat->Int)(hg:Good c)(w:Zc) :
  Z3 281 #[.agg (Zi c)] w (.int .i64 (BF c)):=by
 have HB:=Za (Rz c hg);have hb:=Ac hg;have HE:=Za (fun w=>SF (Fg c - 1) (c 13) w Zf Zf hg.len0);have HS:=Za (show BF c=(Fg c - 1)/c 13 from rfl);have K0:Zl (Vp w.heap.size w.heap.size 30 (Zi c) w (w.alloc (.cells (Zi c) 30))):=Za (Vp.new (Zo _ _) (Zh _));clear hg;generalize Fg c=B at*;go_enter func281,ntmps281;go_wp2_with (first | (refine Kz 30 w.heap.size K0.o.1 underlying30 X7 ?_));refine (Vp.call K0.o (HB.o _)).mono ?_;rintro e w1 ⟨rfl,K1⟩;have M9:=QS K1.1 13;have NC:=Za K1.2.1;clear K1 K0 HB;go_wp2_with (fail);refine (HE.o _).mono ?_;rintro e w2 ⟨rfl,rfl⟩;go_wp2_with (fail);go_ret;exact ⟨FB HS.o.symm,NC.o⟩
end
section
open Go Go.RowKit
def wl (om:Int->Int)(I:List Int)(k:Nat) :List Int:=(List.range I.length).map fun i=>if i < k then om (I.getD i 0) else 0
section
variable {om:Int->Int} {I:List Int}
theorem tA (k:Nat) :(wl om I k).length=I.length:=by simp [wl]
theorem zn:wl om I 0=ZP I.length 0:=by
 refine Ki (by simp [wl]) fun i h1 h2=>?_
 simp [wl]
theorem Zed:wl om I I.length=I.map om:=by
 refine Ki (by simp [wl]) fun i h1 h2=>?_
 simp [wl] at h1 ⊢;simp [h1]
theorem Zee {k:Nat}(hk:k < I.length) :(wl om I k).set k (om (I.getD k 0))=wl om I (k+1):=by
 refine Ki (by simp [wl]) fun i h1 h2=>?_
 rw [List.getElem_set];simp only [wl,List.getElem_map,List.getElem_range]
 by_cases h:k=i
 ·subst h; simp
 ·rw [if_neg h]
  by_cases h3:i < k
  ·rw [if_pos h3,if_pos Zf]
  ·rw [if_neg h3,if_neg Zf]
theorem ax (h: ∀i,0<=om i/\om i<=18446744073709551615) : ∀j,0<=(I.map om).getD j 0/\(I.map om).getD j 0<=18446744073709551615:=fun j=>by
 rw [Zm,ZH]
 cases I[j]? with
 | none=>exact ⟨Int.le_refl 0,show (0:Int)<=18446744073709551615 by decide⟩
 | some x=>exact h x
end
theorem Xy {w:Zc}{base n size:Nat}{e:ZJ}{v:Zk}{xs:List Zk}(h:w.ownsRow base e size v n xs) : ∃a cp,v= .slice a n cp:=tN
def eu (w:Zc)(om:Int->Int)(I:List Int)(e:Ending)(w':Zc) :Prop:=
 e= .returned (.tuple #[.int .u64 (BO (I.map om) I.length),.bool (VU (I.map om) I.length)])/\Zp w.heap.size w w'
section
variable {w:Zc} {S S2:Nat->Prop} {a ia:Option Addr} {L I:List Int} {cap ic:Nat}
theorem dN (hu:Ot w S a L)(hL:L.length<=9223372036854775807)(hA:Mi L)(hi:Qf w S2 ia I)(hn:I.length<=100000) :
  Zv Zb 215 #[.slice a L.length cap,.slice ia I.length ic] w (eu w (Ks L) I):=by
 obtain ⟨n,hn'⟩ : ∃n,I.length=n:=⟨_,rfl⟩;have Eu:=fun w=>EM n Zf w
 have HB:Zl (EZ (w.alloc (.cells (VO (ZP n 0)) 23)) w.heap.size (wl (Ks L) I 0)):=Za (by rw [zn,hn']; exact Zt _ _ _);have HW:Zl (Zp w.heap.size w (w.alloc (.cells (VO (ZP n 0)) 23))):=Za ((Zo _ _).alloc (Zh _) _);have HU:=Za hu;have HL:=Za hL;have HA:=Za hA;have HI:=Za hi;have HN:=Za hn';rw [hn'] at hn ⊢;clear hu hL hA hi hn';go_enter func215,ntmps215;go_wp2;clear Eu;generalize hz:w.heap.size=z at*;have HZ:=Za hz;clear hz;go_loopw [14] (fun s14 wr=> ∃k:Nat,k<=n/\s14= .int .i64 k/\Zl (EZ wr z (wl (Ks L) I k))/\Zl (Zp z w wr)) (fun s14 _=>n -(intOf s14).toNat)
 case atStart=>exact ⟨0,by omega,rfl,HB,HW⟩
 case round=>
  obtain ⟨k,hk,rfl,uM,HWK⟩:=hrel;clear HB HW
  by_cases XV:k < n
  ·obtain ⟨b,off,rfl,_,hb,hc⟩:=HI.o IW;have UJ:wr.cell? ⟨b,off+k,none⟩=some (.int .i64 (I.getD k 0)):=(HWK.o.cell (p:=⟨b,off+k,none⟩) (by rw [<-HZ.o]; exact hb)).trans (hc k IS);have hf:=uM.o.frozen k;have hcz:=uM.o.cell (i:=k) (by rw [tA,HN.o]; exact XV);have Gv:Zl (EZ (wr.setCell ⟨z,k,none⟩ (.int .u64 (Ks L (I.getD k 0)))) z (wl (Ks L) I (k+1))):=Za (by
    have:=uM.o.set k (Ks L (I.getD k 0));rwa [Zee IS] at this)
   have HW2:Zl (Zp z w (wr.setCell ⟨z,k,none⟩ (.int .u64 (Ks L (I.getD k 0))))):=Za (HWK.o.setCell (Zh _) _);have HUW:Zl (YV 251 #[.slice a L.length cap,.int .i64 (I.getD k 0)] wr (.int .u64 (Ks L (I.getD k 0)))):=Za (T8 cap _ wr (HU.o.below (by rw [HZ.o]; exact HWK.o)) HL.o);generalize I.getD k 0=x at*;generalize Ks L x=y at*;generalize (wl (Ks L) I k).getD k 0=u at*;clear hc hb uM HWK;go_wp2_with fail;refine HUW.o.mono ?_;rintro e w' ⟨rfl,rfl⟩;clear HUW;go_wp2;go_roundw
   case rel=>exact ⟨k+1,by omega,by go_num,Gv,HW2⟩
   case measure=>exact VL
  ·obtain rfl:k=n:=Zf;clear XV;have XV: ¬k < k:=Zf;have HAd:=Za (DP z 0 k k (I.map (Ks L)) wr Zf (fun i hi=>by
    rw [ZV];have:=uM.o.cell (i:=i) (by rw [tA,HN.o]; exact hi);rw [<-Zed,HN.o]; exact this) (ax (fun i=>Od HA.o i)))
   clear uM;go_wp2_with fail;refine HAd.o.mono ?_;rintro e w' ⟨rfl,rfl⟩;clear HAd;go_wp2;go_ret2;exact ⟨by rw [HN.o]; rfl,by rw [HZ.o]; exact HWK.o⟩
end
end
section
open Go Go.RowKit
def RF (w:Zc)(h:Nat)(lim:Int)(p:Nat × Int) :Prop:=
 Zu w h 23 #[.int .u64 lim]/\Zu w (h+1) 3 #[.int .i64 (p.1:Int)]/\Zu w (h+2) 23 #[.int .u64 p.2]
def Np (h:Nat) :Zk:= .func (.func 268) #[] #[.pointer (some ⟨h+2,0,none⟩),.pointer (some ⟨h+1,0,none⟩),.pointer (some ⟨h,0,none⟩)]
theorem pN (W:Zc)(v:Zk)(t:ZJ) : ∀j u,[v][j]?=some u->(W.alloc (.cells #[v] t)).cell? ((⟨W.heap.size,0,none⟩ :Addr).add j)=some u:=by
 intro j u hj
 match j,hj with
 | 0,hj=>
  simp at hj;subst hj;rw [add_plain];exact (Zt W t #[v]).cell 0
def BH (x:Int) :Prop:=0<=x/\x<=18446744073709551615
section
variable {w w':Zc} {h:Nat} {k:Nat} {lim s x:Int} {p:Nat × Int} {S:Nat->Prop} {a:Option Addr} {L:List Int}
theorem RF.kept (hb:RF w h lim p)(hk:Zx S w w')(hS: ∀i,h<=i->i<=h+2-> ¬S i) :RF w' h lim p:=
 ⟨hb.1.kept hk (hS _ Zf Zf),hb.2.1.kept hk (hS _ Zf Zf),hb.2.2.kept hk (hS _ Zf Zf)⟩
theorem RF.lt (hb:RF w h lim p) :h+2 < w.heap.size:=hb.2.2.lt
theorem So (lim:Int)(w:Zc) :
  Zv Zb 237 #[.int .u64 lim] w fun e w'=>e= .returned (Np w.heap.size)/\RF w' w.heap.size lim (0,0)/\Zp w.heap.size w w'/\w'.heap.size=w.heap.size+3:=by
 have CQ: ∀(fn:Fn) (first cap:Array Zk) (w:Zc),(QH fn first cap).run Zb w= .ok (.func fn first cap) w:=fun _ _ _ _=>rfl
 have c1:((w.alloc (.cells #[.int .u64 lim] 23)).alloc (.cells #[.int .i64 0] 3)).cell? ⟨w.heap.size+1,0,none⟩=some (.int .i64 0):=by
  have:=(Zt (w.alloc (.cells #[.int .u64 lim] 23)) 3 #[.int .i64 0]).cell 0;rwa [QV] at this
 go_enter func237,ntmps237;go_wp2;go_ret;have b1:=Zt (w.alloc (.cells #[.int .u64 lim] 23)) 3 #[.int .i64 0];rw [QV] at b1;have b2:=Zt ((w.alloc (.cells #[.int .u64 lim] 23)).alloc (.cells #[.int .i64 0] 3)) 23 #[.int .u64 0];rw [QV,QV] at b2;exact ⟨rfl,⟨((Zt w _ _).alloc _).alloc _,b1.alloc _,b2⟩,(((Zo _ w).alloc (Zh _) _).alloc ZE _).alloc Xl _,by simp⟩
theorem RI (s x:Int)(w:Zc)(hs:BH s)(hx:BH x) :
  Zv Zb 101 #[.slice (some ⟨w.heap.size,0,none⟩) 2 2] (w.alloc (.cells #[.int .u64 s,.int .u64 x] 23)) fun e w'=>e= .returned (.tuple #[.int .u64 (if s+x<=18446744073709551615 then s+x else 0),.bool (decide (s+x<=18446744073709551615))])/\w.alloc (.cells #[.int .u64 s,.int .u64 x] 23)=w':=by
 have b:=Zt w 23 #[.int .u64 s,.int .u64 x];have h:=DP w.heap.size 0 2 2 [s,x] (w.alloc (.cells #[.int .u64 s,.int .u64 x] 23)) Zf (fun i hi=>by
  rcases i with _ | _ | i
  ·exact b.cell 0
  ·exact b.cell 1
  ·omega) (fun i=>by
  rcases i with _ | _ | i
  ·exact hs
  ·exact hx
  ·exact ⟨Int.le_refl 0,show (0:Int)<=18446744073709551615 by decide⟩)
 have e:XW [s,x] 2=s+x:=by simp [XW]
 rw [BO,VU,e] at h;exact h
theorem pK (w:Zc)(hb:RF w h lim (0,s))(hs:BH s)(hx:BH x)(hl:BH lim) :
  Zv Zb 268 #[.int .u64 x,.pointer (some ⟨h+2,0,none⟩),.pointer (some ⟨h+1,0,none⟩),.pointer (some ⟨h,0,none⟩)] w fun e w'=>
   e= .returned (.int .i64 ((Vf lim (0,s) x).1:Int))/\RF w' h lim (Vf lim (0,s) x)/\Zx (fun i=>i=h+1\/i=h+2) w w':=by
 have HA:=RI s x w hs hx;have HE:=Za (Ss lim s x);generalize (if s+x<=18446744073709551615 then s+x else 0)=q at HA;generalize decide (s+x<=18446744073709551615)=ok at HA;have oE:=Za HA;have B:=Za hb;have X:=Za hx;have S:=Za hs;have c0:(w.alloc (.cells #[.int .u64 s,.int .u64 x] 23)).cell? ⟨h,0,none⟩=some (.int .u64 lim):=(hb.1.alloc _).cell 0;have c1:(w.alloc (.cells #[.int .u64 s,.int .u64 x] 23)).cell? ⟨h+1,0,none⟩=some (.int .i64 0):=(hb.2.1.alloc _).cell 0;have c2:w.cell? ⟨h+2,0,none⟩=some (.int .u64 s):=hb.2.2.cell 0;have c2':(w.alloc (.cells #[.int .u64 s,.int .u64 x] 23)).cell? ⟨h+2,0,none⟩=some (.int .u64 s):=(hb.2.2.alloc _).cell 0;have f1:(w.alloc (.cells #[.int .u64 s,.int .u64 x] 23)).frozen? ⟨h+1,0,none⟩=false:=(hb.2.1.alloc _).frozen 0;have f2:(w.alloc (.cells #[.int .u64 s,.int .u64 x] 23)).frozen? ⟨h+2,0,none⟩=false:=(hb.2.2.alloc _).frozen 0;clear HA hb hs hx;go_enter func268,ntmps268;go_wp2_with fail;refine oE.o.mono ?_;rintro e w' ⟨rfl,rfl⟩;clear oE;go_wp2;go_ret;rw [HE.o];refine ⟨rfl,⟨?_,?_,?_⟩,?_⟩
 ·exact ZbO
 ·exact ZbV
 ·exact ZbW
 ·exact ZbP
theorem pI (w:Zc)(hb:RF w h lim (k+1,s))(hs:BH s)(hx:BH x)(hl:BH lim)(hk:k<=1000000000)(ho: ¬s+x<=18446744073709551615) :
  Zv Zb 268 #[.int .u64 x,.pointer (some ⟨h+2,0,none⟩),.pointer (some ⟨h+1,0,none⟩),.pointer (some ⟨h,0,none⟩)] w fun e w'=>
   e= .returned (.int .i64 ((Vf lim (k+1,s) x).1:Int))/\RF w' h lim (Vf lim (k+1,s) x)/\Zx (fun i=>i=h+1\/i=h+2) w w':=by
 have HA:=RI s x w hs hx;have hgt:lim < s+x:=by unfold BH at*; omega
 have HE:=Za (Sr (k:=k) hgt);rw [if_neg ho,decide_eq_false ho] at HA;have HK:Zl (k<=1000000000):=Za hk;have fH: ¬((k:Int)+1=0):=Zf;clear hgt;exact Zhp
theorem Zch (w:Zc)(hb:RF w h lim (k+1,s))(hs:BH s)(hx:BH x)(hl:BH lim)(hk:k<=1000000000)(ho:s+x<=18446744073709551615)(hgt:lim < s+x) :
  Zv Zb 268 #[.int .u64 x,.pointer (some ⟨h+2,0,none⟩),.pointer (some ⟨h+1,0,none⟩),.pointer (some ⟨h,0,none⟩)] w fun e w'=>
   e= .returned (.int .i64 ((Vf lim (k+1,s) x).1:Int))/\RF w' h lim (Vf lim (k+1,s) x)/\Zx (fun i=>i=h+1\/i=h+2) w w':=by
 have HA:=RI s x w hs hx;have HE:=Za (Sr (k:=k) hgt);rw [if_pos ho,decide_eq_true ho] at HA;generalize hq:s+x=q at*;have fH: ¬((k:Int)+1=0):=Zf;have HQ:=Za hq;clear hq;exact Zhp
theorem wm (w:Zc)(hb:RF w h lim (k+1,s))(hs:BH s)(hx:BH x)(hl:BH lim)(hk:k<=1000000000)(ho:s+x<=18446744073709551615)(hle: ¬lim < s+x) :
  Zv Zb 268 #[.int .u64 x,.pointer (some ⟨h+2,0,none⟩),.pointer (some ⟨h+1,0,none⟩),.pointer (some ⟨h,0,none⟩)] w fun e w'=>
   e= .returned (.int .i64 ((Vf lim (k+1,s) x).1:Int))/\RF w' h lim (Vf lim (k+1,s) x)/\Zx (fun i=>i=h+1\/i=h+2) w w':=by
 have HA:=RI s x w hs hx;have HE:=Za (Ad (k:=k) hle);rw [if_pos ho,decide_eq_true ho] at HA;generalize hq:s+x=q at*;have fH: ¬((k:Int)+1=0):=Zf;have WH:((k:Int)+1==0)=false:=Xl;have hle2:decide (lim < q)=false:=Xl;have HQ:=Za hq;clear hq;have oE:=Za HA;have B:=Za hb;have X:=Za hx;have S:=Za hs;have c0:(w.alloc (.cells #[.int .u64 s,.int .u64 x] 23)).cell? ⟨h,0,none⟩=some (.int .u64 lim):=(hb.1.alloc _).cell 0;have c1:(w.alloc (.cells #[.int .u64 s,.int .u64 x] 23)).cell? ⟨h+1,0,none⟩=some (.int .i64 ((k:Int)+1)):=(hb.2.1.alloc _).cell 0;have c2:w.cell? ⟨h+2,0,none⟩=some (.int .u64 s):=hb.2.2.cell 0;have c2':(w.alloc (.cells #[.int .u64 s,.int .u64 x] 23)).cell? ⟨h+2,0,none⟩=some (.int .u64 s):=(hb.2.2.alloc _).cell 0;have f1:(w.alloc (.cells #[.int .u64 s,.int .u64 x] 23)).frozen? ⟨h+1,0,none⟩=false:=(hb.2.1.alloc _).frozen 0;have f2:(w.alloc (.cells #[.int .u64 s,.int .u64 x] 23)).frozen? ⟨h+2,0,none⟩=false:=(hb.2.2.alloc _).frozen 0;clear HA hb hs hx;go_enter func268,ntmps268;go_wp2_with fail;refine oE.o.mono ?_;rintro e w' ⟨rfl,rfl⟩;clear oE;go_wp2;go_ret;rw [HE.o];refine ⟨rfl,⟨?_,?_,?_⟩,?_⟩
 ·exact (B.o.1.alloc _).far (show h≠h+2 by omega) _
 ·exact (B.o.2.1.alloc _).far (show h+1≠h+2 by omega) _
 ·exact (B.o.2.2.alloc _).set_ 0 _
 ·exact ((ZM _ w).alloc _).setCell (.inl (.inr rfl)) _
theorem wi (w:Zc)(hb:RF w h lim p)(hs:BH p.2)(hx:BH x)(hl:BH lim)(hk:p.1<=1000000000) :
  Zv Zb 268 #[.int .u64 x,.pointer (some ⟨h+2,0,none⟩),.pointer (some ⟨h+1,0,none⟩),.pointer (some ⟨h,0,none⟩)] w fun e w'=>
   e= .returned (.int .i64 ((Vf lim p x).1:Int))/\RF w' h lim (Vf lim p x)/\Zx (fun i=>i=h+1\/i=h+2) w w':=by
 obtain ⟨k,s⟩:=p
 cases k with
 | zero=>exact pK w hb hs hx hl
 | succ k=>
  by_cases ho:s+x<=18446744073709551615
  ·by_cases hgt:lim < s+x
   ·exact Zch w hb hs hx hl (by simp at hk; omega) ho hgt
   ·exact wm w hb hs hx hl (by simp at hk; omega) ho hgt
  ·exact pI w hb hs hx hl (by simp at hk; omega) ho
end
end
end Go.Proofs.YtobgbcdgffgdhaaGreat
