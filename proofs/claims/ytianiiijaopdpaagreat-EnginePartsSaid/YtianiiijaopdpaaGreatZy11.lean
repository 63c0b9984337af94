/- Part 11 of 29: L03RefCheck L16Tri L16Chk L12Base2 L12Ops L12Acts L12Lists L13Done L13Proc L13Step L18Good L13Weight L14Bnd. -/
import Derived.Test.YtianiiijaopdpaaGreatZy00
import Derived.Test.YtianiiijaopdpaaGreatZy07
import Derived.Test.YtianiiijaopdpaaGreatZy09
import Derived.Deep.DeepCutAuto
namespace Go.Proofs.YtianiiijaopdpaaGreat
set_option linter.unusedVariables false
set_option linter.unusedSimpArgs false
set_option maxRecDepth 100000
set_option maxHeartbeats 8000000
open _root_.Go.RowKit renaming Below → Zs
open _root_.Go.RowKit.Below renaming refl → Zp
open _root_.Go.Proofs.YtianiiijaopdpaaGreat.Blk renaming alloc → YA, new → Zv
open _root_.Go renaming Calls → Zj, TypeId → ZN, Value → Zl, World → Zc, heap_alloc_new → ZG, rounds_succ → YT, wpList_build → Kb, wpList_load_row → Zn, wpList_store_row → Zo, wp_loop_rounds → QC
open _root_.Go.Ending renaming returned → XR
open _root_.Go.Exit renaming noGoto_ret → Gq
open _root_.Go.Instr renaming index → Xi, makeFunc → Jm
open _root_.Go.Proofs.YtianiiijaopdpaaGreat.Kept renaming of_below → YP, of_grown → Xu, refl → ZH
open _root_.Go.Lib renaming hid → Za
open _root_.List renaming append_nil → XH, eq_nil_of_length_eq_zero → ZU, ext_getElem → KC, getD_eq_getElem?_getD → Zq, getElem?_eq_getElem → Zf, getElem?_map → ZP, replicate → Zy
open _root_.Nat renaming le_refl → Zg, le_trans → Z9, zero_add → ZX
open _root_.Go.Proofs.Tryz renaming prog → Zb, underlying24 → ZC, underlying47 → YI, underlying63 → Zr
open _root_.Go.Value renaming int → ZR
open _root_.Go.World renaming ownsRow_nil → Xr, setRow_alloc_new → Zu, size_alloc → Q5
theorem Rh {G:Prop}(h:G:=by rw [HN.out]; exact XP) :G:=h
theorem Il {G:Prop}(h:G:=by rw [←show i=m from e]; exact hi) :G:=h
theorem zT8 {G:Prop} (h:G:=by
  have mG:=Lib.hid HA;have B:=Lib.hid hb;have X:=Lib.hid hx;have S:=Lib.hid hs;have c0:(w.alloc (.cells #[.int .u64 s,.int .u64 x] 22)).cell? ⟨h,0,none⟩=some (.int .u64 lim):=(hb.1.alloc _).cell 0;have c1:(w.alloc (.cells #[.int .u64 s,.int .u64 x] 22)).cell? ⟨h+1,0,none⟩=some (.int .i64 ((k:Int)+1)):=(hb.2.1.alloc _).cell 0;have c2:w.cell? ⟨h+2,0,none⟩=some (.int .u64 s):=hb.2.2.cell 0;have c2':(w.alloc (.cells #[.int .u64 s,.int .u64 x] 22)).cell? ⟨h+2,0,none⟩=some (.int .u64 s):=(hb.2.2.alloc _).cell 0;have f1:(w.alloc (.cells #[.int .u64 s,.int .u64 x] 22)).frozen? ⟨h+1,0,none⟩=false:=(hb.2.1.alloc _).frozen 0;have f2:(w.alloc (.cells #[.int .u64 s,.int .u64 x] 22)).frozen? ⟨h+2,0,none⟩=false:=(hb.2.2.alloc _).frozen 0;clear HA hb hs hx;go_enter Tryz.func294,Tryz.ntmps294;go_wp2_with fail;refine mG.out.mono ?_;rintro e w' ⟨rfl,rfl⟩;clear mG;go_wp2;go_ret;rw [HE.out];refine ⟨by simp,⟨?_,?_,?_⟩,?_⟩
  ·exact ((B.out.1.alloc _).far (show h≠h+1 by omega) _).far (show h≠h+2 by omega) _
  ·exact ((B.out.2.1.alloc _).set_ 0 _).far (show h+1≠h+2 by omega) _
  ·exact ((B.out.2.2.alloc _).far (show h+2≠h+1 by omega) _).set_ 0 _
  ·exact (((Kept.refl _ w).alloc _).setCell (.inl (.inl rfl)) _).setCell (.inl (.inr rfl)) _) :G:=h
theorem ZfH {G:Prop} (h:G:=by
  clear hs hd h1 e ht h2;go_enter Tryz.func286,Tryz.ntmps286;go_upto_region 1 with (fail);generalize ((w.alloc (.cells (Zd s) 63)).alloc (.cells (Zd d) 63)).alloc (.cells (Zk c) 24)=W at*;go_wp2_with fail;refine (HA.out _ _ ((Blk.new W _ _).cell 0) ((Blk.new W _ _).cell 1)).mono ?_;rintro e w1 ⟨rfl,rfl⟩;have T2:=Lib.hid (HT.out.next ((Below.refl _ W).alloc (Nat.le_refl _) (.cells #[.int .u64 s.bal,.int .u64 d.bal] 22)));clear x1 x2 x3 HT HA;generalize W.alloc (.cells #[.int .u64 s.bal,.int .u64 d.bal] 22)=W2 at*;obtain ⟨-,-,-,-,-,-,x3,-⟩:=T2.out.cells;go_wp2_with fail;go_ret;exact ⟨JY H.out.symm,T2.out.2.2.2⟩) :G:=h
theorem ZfU {G:Prop} (h:G:=by
  go_enter Tryz.func128,Tryz.ntmps128;go_wp2_with fail;refine (has_yes _ _ _ HH.out).mono ?_;rintro e w' ⟨rfl,rfl⟩;go_wp2_with fail;refine HQ.out.mono ?_;rintro e w' ⟨rfl,rfl⟩;go_wp2_with fail;refine HP.out.mono ?_;rintro e w1 ⟨rfl,hq⟩;have HQ:=Lib.hid hq;clear hq HP;go_wp2_with fail;go_ret;exact ⟨rfl,HQ.out⟩) :G:=h
theorem ZfY {G:Prop} (h:G:=by
  clear hs hd;go_enter Tryz.func284,Tryz.ntmps284;go_upto_region 1 with (fail);generalize ((w.alloc (.cells (Zd s) 63)).alloc (.cells (Zd d) 63)).alloc (.cells (Zk c) 24)=W at*;go_wp2;go_ret;exact ⟨JY H.out.symm,HT.out.2.2.2⟩) :G:=h
theorem Zf3 {G:Prop} (h:G:=by
  refine this.mono ?_;rintro e w' ⟨he,g',pF,hm,hk⟩;refine ⟨he,g',by simpa using pF,fun i hi=>(hm i hi).imp id (fun h=>by simp at h; omega),((Kept.refl (Foot r g) w).alloc _).trans hk (fun _ _ h=>h)⟩) :G:=h
theorem Zgc {G:Prop} (h:G:=by
  rintro e w' ⟨he,g',a1,a2,a3⟩;obtain ⟨S',b1,b2⟩:=h1.setF a1 a2 a3;refine ⟨by rw [he]; simp [errP,hr],S',?_,b2.iff h2⟩;simpa [pushF,pushV,hr] using b1) :G:=h
theorem Zgd {G:Prop} (h:G:=by
  rintro e w' ⟨he,g',a1,a2,a3⟩;obtain ⟨S',b1,b2⟩:=h1.setV a1 a2 a3;refine ⟨by rw [he]; simp [errP,hr],S',?_,b2.iff h2⟩;simpa [pushF,pushV,hr] using b1) :G:=h
theorem ZgA {G:Prop} (h:G:=by
  obtain rfl:k=20:=by omega
  have H:=Lib.hid (I1 hbf);go_wp2;go_ret;exact ⟨ret_int H.out.symm,PH⟩) :G:=h
theorem ZcJ {G:Prop} (h:G:=by
  go_wp2_with fail;refine (has_no _ _ _ H.out).mono ?_;rintro e w' ⟨rfl,rfl⟩;go_wp2;go_ret;exact ⟨rfl,rfl⟩) :G:=h
theorem zl {G:Prop} (h:G:=by
  exact ⟨Int.ediv_nonneg Zm Zm,Int.le_trans (Int.ediv_le_self _ Zm) Zm⟩) :G:=h
theorem zv {G:Prop} (h:G:=by
  rintro i (rfl | hi)
  ·exact .inl (.inl rfl)
  ·exact (hm i hi.symm).imp (fun e=> .inr e.symm) id) :G:=h
theorem zz {G:Prop} (h:G:=by
  rintro e w' ⟨rfl,rfl⟩;go_wp2;try rw [Exit.noGoto_ret]
  go_ret;exact ⟨rfl,_,rfl⟩) :G:=h
theorem jt {G:Prop} (h:G:=by
  go_enter Tryz.func156,Tryz.ntmps156;go_wp2;go_ret;exact ⟨rfl,rfl⟩) :G:=h
theorem zR {G:Prop} (h:G:=by
  go_wp2;go_ret;exact ⟨rfl,(Below.refl _ _).alloc (Nat.le_refl _) _⟩) :G:=h
section
open Go.RowKit
theorem XG:(Tryz.prog.info? 24).map (·.size)=some 20:=by kernel_rfl
theorem CR (c:Nat→Int)(w:Zc) :
  Zj Zb 10 #[.agg (Zk c)] w fun e w'=>e= .returned (.int .i64 (RU c))∧Zs w.heap.size w w':=by
 unfold Zk;go_enter Tryz.func10,Tryz.ntmps10;go_wp2;go_loopw [3] (fun v wr=> ∃k:Nat,k≤20∧v= .int .i64 ((k:Int)+1)∧Dm c k∧Blk wr w.heap.size 24 (Zk c)∧Zs w.heap.size w wr) (fun v _=>(21 - intOf v).toNat)
 case atStart=>exact ⟨0,by omega,rfl,Hn c,Zv _ _ _,(Zp _ _).alloc (Zg _) _⟩
 case round=>
  obtain ⟨k,hk,rfl,hbf,hb,PH⟩:=hrel;have XP:=hb.lt
  by_cases uX:k < 20
  ·cases hr:Yt c k with
   | false=>
    have R:Hid (∀w',_):=Za (fun w'=>Ap c k uX w');rw [hr] at R;have H:=Za (dC uX hbf hr);clear hr;go_wp2_with (first
     | (refine Zn rfl 24 _ rfl w.heap.size rfl 24 _ (0,0) _ hb ZC rfl XG ?_)
     | (go_at_call 34; refine (R.out _).mono ?_; rintro e w1 ⟨rfl,ER⟩))
    go_ret;exact ⟨ret_int H.out.symm,RL PH ER Zm⟩
   | true=>
    have R:Hid (∀w',_):=Za (fun w'=>Ap c k uX w');rw [hr] at R;have H:=Za (Hm hbf hr);clear hr;go_wp2_with (first
     | (refine Zn rfl 24 _ rfl w.heap.size rfl 24 _ (0,0) _ hb ZC rfl XG ?_)
     | (go_at_call 34; refine (R.out _).mono ?_; rintro e w1 ⟨rfl,ER⟩))
    go_roundw
    case rel=>exact ⟨k+1,by omega,by go_num,H.out,hb.below ER XP,RL PH ER Zm⟩
    case measure=>simp [intOf]; omega
  ·exact ZgA
end
section
open Go Go.RowKit Go.Deep
theorem mx (w:Zc)(A B:Obj)(cs:Array Zl)(t:ZN) :Blk (((w.alloc A).alloc B).alloc (.cells cs t)) (w.heap.size+2) t cs:=by
 have:=Zv ((w.alloc A).alloc B) t cs;simpa using this
theorem Ee (w:Zc)(A:Obj)(cs:Array Zl)(t:ZN) :Blk ((w.alloc A).alloc (.cells cs t)) (w.heap.size+1) t cs:=by
 have:=Zv (w.alloc A) t cs;simpa using this
def cQ (w W:Zc)(s d:Yd)(c:Nat→Int) :Prop:=
 Blk W w.heap.size 63 (Zd s)∧Blk W (w.heap.size+1) 63 (Zd d)∧Blk W (w.heap.size+2) 24 (Zk c)∧Zs w.heap.size w W
section
variable {w W W':Zc} {s d:Yd} {c:Nat→Int}
theorem cQ.new (w:Zc)(s d:Yd)(c:Nat→Int) :cQ w (((w.alloc (.cells (Zd s) 63)).alloc (.cells (Zd d) 63)).alloc (.cells (Zk c) 24)) s d c:=
 ⟨YA (YA (Zv w _ _) _) _,YA (Ee w _ _ _) _,mx w _ _ _ _,(((Zp _ _).alloc (Zg _) _).alloc ZI _).alloc (by simp <;> omega) _⟩
theorem cQ.next (h:cQ w W s d c)(hb:Zs W.heap.size W W') :cQ w W' s d c:=
 ⟨h.1.below hb h.1.lt,h.2.1.below hb h.2.1.lt,h.2.2.1.below hb h.2.2.1.lt,h.2.2.2.trans (hb.mono h.2.2.2.size)⟩
theorem cQ.drewN (h:cQ w W s d c)(n:Nat) :cQ w (W.drewN n) s d c:=⟨h.1,h.2.1,h.2.2.1,below_drewN h.2.2.2 n⟩
theorem cQ.cells (h:cQ w W s d c) :W.cell? ⟨w.heap.size,0,none⟩=some (.int .u64 s.bal)∧W.cell? ⟨w.heap.size,1,none⟩=some (.int .i64 s.st)∧W.cell? ⟨w.heap.size,2,none⟩=some (.bool s.sl)∧
  W.cell? ⟨w.heap.size+1,0,none⟩=some (.int .u64 d.bal)∧W.cell? ⟨w.heap.size+1,1,none⟩=some (.int .i64 d.st)∧W.cell? ⟨w.heap.size+1,2,none⟩=some (.bool d.sl)∧W.cell? ⟨w.heap.size+2,6,none⟩=some (.int .u64 (c 6))∧W.cell? ⟨w.heap.size+2,17,none⟩=some (.int .i64 (c 17)):=
 ⟨h.1.cell 0,h.1.cell 1,h.1.cell 2,h.2.1.cell 0,h.2.1.cell 1,h.2.1.cell 2,h.2.2.1.cell 6,h.2.2.1.cell 17⟩
end
theorem pJ (s d:Yd)(c:Nat→Int)(w:Zc) :
  Zj Zb 284 #[.agg (Zd s),.agg (Zd d),.agg (Zk c)] w fun e w'=>e= .returned (.bool (Mo s d))∧Zs w.heap.size w w':=by
 have T:=cQ.new w s d c;obtain ⟨-,x1,-,-,x2,-,-,-⟩:=T.cells;have HT:=Za T;clear T
 by_cases hs:s.st=2
 ·have qs:(s.st != 2)=false:=by simpa using hs
  by_cases hd:d.st=2
  ·have qd:(d.st != 2)=false:=by simpa using hd
   have H:Hid (Mo s d=false):=Za (by simp [Mo,hs,hd]);exact ZfY
  ·have qd:(d.st != 2)=true:=by simpa using hd
   have H:Hid (Mo s d=true):=Za (by simp [Mo,hs,hd]);exact ZfY
 ·have qs:(s.st != 2)=true:=by simpa using hs
  have H:Hid (Mo s d=true):=Za (by simp [Mo,hs]);clear hs;go_enter Tryz.func284,Tryz.ntmps284;go_upto_region 1 with (fail);generalize ((w.alloc (.cells (Zd s) 63)).alloc (.cells (Zd d) 63)).alloc (.cells (Zk c) 24)=W at*;go_wp2;go_ret;exact ⟨JY H.out.symm,HT.out.2.2.2⟩
theorem cr (s d:Yd)(c:Nat→Int)(w:Zc) :
  Zj Zb 285 #[.agg (Zd s),.agg (Zd d),.agg (Zk c)] w fun e w'=>e= .returned (.bool (Lo s d))∧Zs w.heap.size w w':=by
 have T:=cQ.new w s d c;obtain ⟨-,-,x1,-,-,x2,-,-⟩:=T.cells;have HT:=Za T;clear T
 cases hs:s.sl with
 | true=>
  rw [hs] at x1;have H:Hid (Lo s d=true):=Za (by simp [Lo,hs]);clear hs;go_enter Tryz.func285,Tryz.ntmps285;go_upto_region 1 with (fail);generalize ((w.alloc (.cells (Zd s) 63)).alloc (.cells (Zd d) 63)).alloc (.cells (Zk c) 24)=W at*;go_wp2;go_ret;exact ⟨JY H.out.symm,HT.out.2.2.2⟩
 | false=>
  rw [hs] at x1;have H:Hid (Lo s d=d.sl):=Za (by simp [Lo,hs]);clear hs;go_enter Tryz.func285,Tryz.ntmps285;go_upto_region 1 with (fail);generalize ((w.alloc (.cells (Zd s) 63)).alloc (.cells (Zd d) 63)).alloc (.cells (Zk c) 24)=W at*;go_wp2;go_ret;exact ⟨JY H.out.symm,HT.out.2.2.2⟩
theorem Ib (x y:Int) :QB [x,y] 2=x+y:=by simp [QB]
theorem mz {x y:Int}(hx:0≤x∧x≤18446744073709551615)(hy:0≤y∧y≤18446744073709551615) : ∀i,0≤ [x,y].getD i 0∧[x,y].getD i 0≤18446744073709551615
 | 0=>hx
 | 1=>hy
 | i+2=>by simp
theorem T8 (s d:Yd)(c:Nat→Int)(w:Zc)(hs:Yo s)(hd:Yo d) :
  Zj Zb 286 #[.agg (Zd s),.agg (Zd d),.agg (Zk c)] w fun e w'=>e= .returned (.bool (Mp s d (c 6)))∧Zs w.heap.size w w':=by
 have T:=cQ.new w s d c;obtain ⟨x1,-,-,x2,-,-,x3,-⟩:=T.cells;have HT:=Za T;have HA:=Za (fun (b:Nat) (w:Zc) (h0:w.cell? ⟨b,0,none⟩=some (.int .u64 s.bal)) (h1:w.cell? ⟨b,1,none⟩=some (.int .u64 d.bal))=>M7 b 0 2 2 [s.bal,d.bal] w Zm (fun i hi=>by
  have:i=0∨i=1:=by omega
  rcases this with rfl | rfl
  ·exact h0
  ·exact h1) (mz hs.bal hd.bal))
 clear T
 by_cases h1:s.bal+d.bal≤18446744073709551615
 ·have e:=M8 (z:= [s.bal,d.bal]) (n:=2) (by rw [Ib]; exact h1);rw [Ib] at e;rw [e.1,e.2] at HA;obtain ⟨t,ht⟩ : ∃t,s.bal+d.bal=t:=⟨_,rfl⟩;rw [ht] at HA
  by_cases h2:c 6 < t
  ·have H:Hid (Mp s d (c 6)=true):=Za (by simp [Mp,ht]; omega);have q2:decide (c 6 < t)=true:=by simpa using h2
   exact ZfH
  ·have H:Hid (Mp s d (c 6)=false):=Za (by simp [Mp,ht]; omega);have q2:decide (c 6 < t)=false:=by simpa using h2
   exact ZfH
 ·have e:=PZ (z:= [s.bal,d.bal]) (n:=2) (by rw [Ib]; exact h1);rw [e.1,e.2] at HA;have H:Hid (Mp s d (c 6)=true):=Za (by simp [Mp]; omega);clear hs hd h1 e;go_enter Tryz.func286,Tryz.ntmps286;go_upto_region 1 with (fail);generalize ((w.alloc (.cells (Zd s) 63)).alloc (.cells (Zd d) 63)).alloc (.cells (Zk c) 24)=W at*;go_wp2_with fail;refine (HA.out _ _ ((Zv W _ _).cell 0) ((Zv W _ _).cell 1)).mono ?_;rintro e w1 ⟨rfl,rfl⟩;have T2:=Za (HT.out.next ((Zp _ W).alloc (Zg _) (.cells #[.int .u64 s.bal,.int .u64 d.bal] 22)));clear x1 x2 x3 HT HA;generalize W.alloc (.cells #[.int .u64 s.bal,.int .u64 d.bal] 22)=W2 at*;obtain ⟨-,-,-,-,-,-,x3,-⟩:=T2.out.cells;go_wp2_with fail;go_ret;exact ⟨JY H.out.symm,T2.out.2.2.2⟩
end
section
open Go Go.RowKit Go.Deep
def BF:Array Zl:= #[.func (.func 284) #[] #[],.int .i64 8,.func (.func 285) #[] #[],.int .i64 9,.func (.func 286) #[] #[],.int .i64 3]
theorem yZ:(Tryz.prog.info? 319).map (·.size)=some 6:=by kernel_rfl
theorem Nq:(Tryz.prog.info? 318).map (·.size)=some 2:=by kernel_rfl
theorem Fv (w:Zc) :Zj Zb 252 #[] w fun e w'=>e= .returned (.agg BF)∧Zs w.heap.size w w':=by
 go_enter Tryz.func252,Tryz.ntmps252;go_wp2_with (first | (refine Kb rfl 318 _ rfl Ye ?_) | (refine Kb rfl 319 _ rfl Ye ?_; rw [show (Tryz.prog.built 319 _).getD #[]=BF from by kernel_rfl]) | (refine Zo rfl _ _ _ rfl w.heap.size BF rfl rfl 319 _ (ZG w _) yZ rfl Ye ?_; rw [Zu]));exact bodyPost_ret (v:= .agg BF) (results_cell_row (fn:=Tryz.f252) rfl _ _ w.heap.size 319 BF (0,0) _ rfl (ZG w _) Tryz.underlying319 rfl yZ) rfl ⟨rfl,(Zp _ _).alloc (Zg _) _⟩
theorem Zbr (w:Zc) :(Xi 319 (.agg BF) (.int .i64 0)).run Zb w= .ok (.agg #[.func (.func 284) #[] #[],.int .i64 8]) w:=by kernel_rfl
theorem Zbs (w:Zc) :(Xi 319 (.agg BF) (.int .i64 1)).run Zb w= .ok (.agg #[.func (.func 285) #[] #[],.int .i64 9]) w:=by kernel_rfl
theorem Zbt (w:Zc) :(Xi 319 (.agg BF) (.int .i64 2)).run Zb w= .ok (.agg #[.func (.func 286) #[] #[],.int .i64 3]) w:=by kernel_rfl
theorem Nf (s d:Yd)(c:Nat→Int)(w:Zc)(hs:Yo s)(hd:Yo d) :
  Zj Zb 199 #[.agg (Zd s),.agg (Zd d),.agg (Zk c)] w fun e w'=>e= .returned (.int .i64 (EM s d (c 6)))∧Zs w.heap.size w w':=by
 have T:=cQ.new w s d c;have HT:=Za T;have H1:=Za (pJ s d c);have H2:=Za (cr s d c);have H3:=Za (fun w=>T8 s d c w hs hd);have i0:=Zbr;have i1:=Zbs;have i2:=Zbt;clear T hs hd
 cases h1:Mo s d with
 | true=>
  have E:Hid (EM s d (c 6)=8):=Za (by simp [EM,h1]);rw [h1] at H1;clear h1 H2 H3;go_enter Tryz.func199,Tryz.ntmps199;go_upto_region 1 with (fail);generalize ((w.alloc (.cells (Zd s) 63)).alloc (.cells (Zd d) 63)).alloc (.cells (Zk c) 24)=W at*;go_wp2_with fail;refine (Fv _).mono ?_;rintro e w1 ⟨rfl,b1⟩;have T1:=Za (HT.out.next b1);clear b1 HT;go_wp2_with fail;refine QC 1 ?_;rw [YT];have A0:=Za (T1.out.next ((Zp _ w1).alloc (Zg _) (.cells #[.func (.func 284) #[] #[],.int .i64 8] 318)));clear T1;go_wp2_with (first | (refine Zo rfl _ _ _ rfl w1.heap.size #[.func (.func 284) #[] #[],.int .i64 8] rfl rfl 318 _ (ZG w1 _) Nq rfl Ye ?_; rw [Zu]) | (refine Zn rfl 63 _ rfl w.heap.size rfl 63 _ (0,0) _ A0.out.1 Zr rfl Ym ?_) | (refine Zn rfl 63 _ rfl (w.heap.size+1) rfl 63 _ (0,0) _ A0.out.2.1 Zr rfl Ym ?_) | (refine Zn rfl 24 _ rfl (w.heap.size+2) rfl 24 _ (0,0) _ A0.out.2.2.1 ZC rfl XG ?_));refine (H1.out _).mono ?_;rintro e v0 ⟨rfl,b0⟩;have B0:=Za (A0.out.next b0);have e0:v0.cell? ⟨w1.heap.size,1,none⟩=some (.int .i64 8):=(b0.cell (p:=⟨w1.heap.size,1,none⟩) ZI).trans ((Zv w1 _ _).cell 1);clear A0 b0;go_wp2_with fail;go_ret;exact ⟨congrArg (fun x=>XR (.int .i64 x)) E.out.symm,B0.out.2.2.2⟩
 | false=>
  rw [h1] at H1
  cases h2:Lo s d with
  | true=>
   have E:Hid (EM s d (c 6)=9):=Za (by simp [EM,h1,h2]);rw [h2] at H2;clear h1 h2 H3;go_enter Tryz.func199,Tryz.ntmps199;go_upto_region 1 with (fail);generalize ((w.alloc (.cells (Zd s) 63)).alloc (.cells (Zd d) 63)).alloc (.cells (Zk c) 24)=W at*;go_wp2_with fail;refine (Fv _).mono ?_;rintro e w1 ⟨rfl,b1⟩;have T1:=Za (HT.out.next b1);clear b1 HT;go_wp2_with fail;refine QC 2 ?_;rw [YT];have A0:=Za (T1.out.next ((Zp _ w1).alloc (Zg _) (.cells #[.func (.func 284) #[] #[],.int .i64 8] 318)));clear T1;go_wp2_with (first | (refine Zo rfl _ _ _ rfl w1.heap.size #[.func (.func 284) #[] #[],.int .i64 8] rfl rfl 318 _ (ZG w1 _) Nq rfl Ye ?_; rw [Zu]) | (refine Zn rfl 63 _ rfl w.heap.size rfl 63 _ (0,0) _ A0.out.1 Zr rfl Ym ?_) | (refine Zn rfl 63 _ rfl (w.heap.size+1) rfl 63 _ (0,0) _ A0.out.2.1 Zr rfl Ym ?_) | (refine Zn rfl 24 _ rfl (w.heap.size+2) rfl 24 _ (0,0) _ A0.out.2.2.1 ZC rfl XG ?_));refine (H1.out _).mono ?_;rintro e v0 ⟨rfl,b0⟩;have B0:=Za (A0.out.next b0);have e0:v0.cell? ⟨w1.heap.size,1,none⟩=some (.int .i64 8):=(b0.cell (p:=⟨w1.heap.size,1,none⟩) ZI).trans ((Zv w1 _ _).cell 1);clear A0 b0;go_wp2_with fail;rw [YT];have A1:=Za (B0.out.next ((Zp _ v0).alloc (Zg _) (.cells #[.func (.func 285) #[] #[],.int .i64 9] 318)));clear B0;go_wp2_with (first | (refine Zo rfl _ _ _ rfl v0.heap.size #[.func (.func 285) #[] #[],.int .i64 9] rfl rfl 318 _ (ZG v0 _) Nq rfl Ye ?_; rw [Zu]) | (refine Zn rfl 63 _ rfl w.heap.size rfl 63 _ (0,0) _ A1.out.1 Zr rfl Ym ?_) | (refine Zn rfl 63 _ rfl (w.heap.size+1) rfl 63 _ (0,0) _ A1.out.2.1 Zr rfl Ym ?_) | (refine Zn rfl 24 _ rfl (w.heap.size+2) rfl 24 _ (0,0) _ A1.out.2.2.1 ZC rfl XG ?_));refine (H2.out _).mono ?_;rintro e v1 ⟨rfl,b1⟩;have B1:=Za (A1.out.next b1);have e1:v1.cell? ⟨v0.heap.size,1,none⟩=some (.int .i64 9):=(b1.cell (p:=⟨v0.heap.size,1,none⟩) ZI).trans ((Zv v0 _ _).cell 1);clear A1 b1;go_wp2_with fail;go_ret;exact ⟨congrArg (fun x=>XR (.int .i64 x)) E.out.symm,B1.out.2.2.2⟩
  | false=>
   rw [h2] at H2
   cases h3:Mp s d (c 6) with
   | true=>
    have E:Hid (EM s d (c 6)=3):=Za (by simp [EM,h1,h2,h3]);rw [h3] at H3;clear h1 h2 h3;go_enter Tryz.func199,Tryz.ntmps199;go_upto_region 1 with (fail);generalize ((w.alloc (.cells (Zd s) 63)).alloc (.cells (Zd d) 63)).alloc (.cells (Zk c) 24)=W at*;go_wp2_with fail;refine (Fv _).mono ?_;rintro e w1 ⟨rfl,b1⟩;have T1:=Za (HT.out.next b1);clear b1 HT;go_wp2_with fail;refine QC 3 ?_;rw [YT];have A0:=Za (T1.out.next ((Zp _ w1).alloc (Zg _) (.cells #[.func (.func 284) #[] #[],.int .i64 8] 318)));clear T1;go_wp2_with (first | (refine Zo rfl _ _ _ rfl w1.heap.size #[.func (.func 284) #[] #[],.int .i64 8] rfl rfl 318 _ (ZG w1 _) Nq rfl Ye ?_; rw [Zu]) | (refine Zn rfl 63 _ rfl w.heap.size rfl 63 _ (0,0) _ A0.out.1 Zr rfl Ym ?_) | (refine Zn rfl 63 _ rfl (w.heap.size+1) rfl 63 _ (0,0) _ A0.out.2.1 Zr rfl Ym ?_) | (refine Zn rfl 24 _ rfl (w.heap.size+2) rfl 24 _ (0,0) _ A0.out.2.2.1 ZC rfl XG ?_));refine (H1.out _).mono ?_;rintro e v0 ⟨rfl,b0⟩;have B0:=Za (A0.out.next b0);have e0:v0.cell? ⟨w1.heap.size,1,none⟩=some (.int .i64 8):=(b0.cell (p:=⟨w1.heap.size,1,none⟩) ZI).trans ((Zv w1 _ _).cell 1);clear A0 b0;go_wp2_with fail;rw [YT];have A1:=Za (B0.out.next ((Zp _ v0).alloc (Zg _) (.cells #[.func (.func 285) #[] #[],.int .i64 9] 318)));clear B0;go_wp2_with (first | (refine Zo rfl _ _ _ rfl v0.heap.size #[.func (.func 285) #[] #[],.int .i64 9] rfl rfl 318 _ (ZG v0 _) Nq rfl Ye ?_; rw [Zu]) | (refine Zn rfl 63 _ rfl w.heap.size rfl 63 _ (0,0) _ A1.out.1 Zr rfl Ym ?_) | (refine Zn rfl 63 _ rfl (w.heap.size+1) rfl 63 _ (0,0) _ A1.out.2.1 Zr rfl Ym ?_) | (refine Zn rfl 24 _ rfl (w.heap.size+2) rfl 24 _ (0,0) _ A1.out.2.2.1 ZC rfl XG ?_));refine (H2.out _).mono ?_;rintro e v1 ⟨rfl,b1⟩;have B1:=Za (A1.out.next b1);have e1:v1.cell? ⟨v0.heap.size,1,none⟩=some (.int .i64 9):=(b1.cell (p:=⟨v0.heap.size,1,none⟩) ZI).trans ((Zv v0 _ _).cell 1);clear A1 b1;go_wp2_with fail;rw [YT];have A2:=Za (B1.out.next ((Zp _ v1).alloc (Zg _) (.cells #[.func (.func 286) #[] #[],.int .i64 3] 318)));clear B1;go_wp2_with (first | (refine Zo rfl _ _ _ rfl v1.heap.size #[.func (.func 286) #[] #[],.int .i64 3] rfl rfl 318 _ (ZG v1 _) Nq rfl Ye ?_; rw [Zu]) | (refine Zn rfl 63 _ rfl w.heap.size rfl 63 _ (0,0) _ A2.out.1 Zr rfl Ym ?_) | (refine Zn rfl 63 _ rfl (w.heap.size+1) rfl 63 _ (0,0) _ A2.out.2.1 Zr rfl Ym ?_) | (refine Zn rfl 24 _ rfl (w.heap.size+2) rfl 24 _ (0,0) _ A2.out.2.2.1 ZC rfl XG ?_));refine (H3.out _).mono ?_;rintro e v2 ⟨rfl,b2⟩;have B2:=Za (A2.out.next b2);have e2:v2.cell? ⟨v1.heap.size,1,none⟩=some (.int .i64 3):=(b2.cell (p:=⟨v1.heap.size,1,none⟩) ZI).trans ((Zv v1 _ _).cell 1);clear A2 b2;go_wp2_with fail;go_ret;exact ⟨congrArg (fun x=>XR (.int .i64 x)) E.out.symm,B2.out.2.2.2⟩
   | false=>
    have E:Hid (EM s d (c 6)=0):=Za (by simp [EM,h1,h2,h3]);rw [h3] at H3;clear h1 h2 h3;go_enter Tryz.func199,Tryz.ntmps199;go_upto_region 1 with (fail);generalize ((w.alloc (.cells (Zd s) 63)).alloc (.cells (Zd d) 63)).alloc (.cells (Zk c) 24)=W at*;go_wp2_with fail;refine (Fv _).mono ?_;rintro e w1 ⟨rfl,b1⟩;have T1:=Za (HT.out.next b1);clear b1 HT;go_wp2_with fail;refine QC 4 ?_;rw [YT];have A0:=Za (T1.out.next ((Zp _ w1).alloc (Zg _) (.cells #[.func (.func 284) #[] #[],.int .i64 8] 318)));clear T1;go_wp2_with (first | (refine Zo rfl _ _ _ rfl w1.heap.size #[.func (.func 284) #[] #[],.int .i64 8] rfl rfl 318 _ (ZG w1 _) Nq rfl Ye ?_; rw [Zu]) | (refine Zn rfl 63 _ rfl w.heap.size rfl 63 _ (0,0) _ A0.out.1 Zr rfl Ym ?_) | (refine Zn rfl 63 _ rfl (w.heap.size+1) rfl 63 _ (0,0) _ A0.out.2.1 Zr rfl Ym ?_) | (refine Zn rfl 24 _ rfl (w.heap.size+2) rfl 24 _ (0,0) _ A0.out.2.2.1 ZC rfl XG ?_));refine (H1.out _).mono ?_;rintro e v0 ⟨rfl,b0⟩;have B0:=Za (A0.out.next b0);have e0:v0.cell? ⟨w1.heap.size,1,none⟩=some (.int .i64 8):=(b0.cell (p:=⟨w1.heap.size,1,none⟩) ZI).trans ((Zv w1 _ _).cell 1);clear A0 b0;go_wp2_with fail;rw [YT];have A1:=Za (B0.out.next ((Zp _ v0).alloc (Zg _) (.cells #[.func (.func 285) #[] #[],.int .i64 9] 318)));clear B0;go_wp2_with (first | (refine Zo rfl _ _ _ rfl v0.heap.size #[.func (.func 285) #[] #[],.int .i64 9] rfl rfl 318 _ (ZG v0 _) Nq rfl Ye ?_; rw [Zu]) | (refine Zn rfl 63 _ rfl w.heap.size rfl 63 _ (0,0) _ A1.out.1 Zr rfl Ym ?_) | (refine Zn rfl 63 _ rfl (w.heap.size+1) rfl 63 _ (0,0) _ A1.out.2.1 Zr rfl Ym ?_) | (refine Zn rfl 24 _ rfl (w.heap.size+2) rfl 24 _ (0,0) _ A1.out.2.2.1 ZC rfl XG ?_));refine (H2.out _).mono ?_;rintro e v1 ⟨rfl,b1⟩;have B1:=Za (A1.out.next b1);have e1:v1.cell? ⟨v0.heap.size,1,none⟩=some (.int .i64 9):=(b1.cell (p:=⟨v0.heap.size,1,none⟩) ZI).trans ((Zv v0 _ _).cell 1);clear A1 b1;go_wp2_with fail;rw [YT];have A2:=Za (B1.out.next ((Zp _ v1).alloc (Zg _) (.cells #[.func (.func 286) #[] #[],.int .i64 3] 318)));clear B1;go_wp2_with (first | (refine Zo rfl _ _ _ rfl v1.heap.size #[.func (.func 286) #[] #[],.int .i64 3] rfl rfl 318 _ (ZG v1 _) Nq rfl Ye ?_; rw [Zu]) | (refine Zn rfl 63 _ rfl w.heap.size rfl 63 _ (0,0) _ A2.out.1 Zr rfl Ym ?_) | (refine Zn rfl 63 _ rfl (w.heap.size+1) rfl 63 _ (0,0) _ A2.out.2.1 Zr rfl Ym ?_) | (refine Zn rfl 24 _ rfl (w.heap.size+2) rfl 24 _ (0,0) _ A2.out.2.2.1 ZC rfl XG ?_));refine (H3.out _).mono ?_;rintro e v2 ⟨rfl,b2⟩;have B2:=Za (A2.out.next b2);have e2:v2.cell? ⟨v1.heap.size,1,none⟩=some (.int .i64 3):=(b2.cell (p:=⟨v1.heap.size,1,none⟩) ZI).trans ((Zv v1 _ _).cell 1);clear A2 b2;go_wp2_with fail;rw [YT];go_wp2_with fail;go_ret;exact ⟨congrArg (fun x=>XR (.int .i64 x)) E.out.symm,B2.out.2.2.2⟩
end
section
open Go Go.RowKit
def U4 (F V:List Int)(c:Int) :List Int:=if c=0 then F else if c=1 then V else []
def Hw (n:Nat)(F V:List Int)(c:Int) :Nat:=if c=0 then n - F.length else if c=1 then n - V.length else 0
def KK (F V:List Int)(c:Int) :List Int:=if c=0 then F else if c=1 then F++V else []
def errP (n:Nat)(F V:List Int)(c:Int) :Int:=if c=0 then(if F.length < n then 0 else 6) else if c=1 then(if V.length < n then 0 else 6) else 11
def pushF (n:Nat)(F:List Int)(c x:Int) :List Int:=if c=0∧F.length < n then F++[x] else F
def pushV (n:Nat)(V:List Int)(c x:Int) :List Int:=if c=1∧V.length < n then V++[x] else V
def PI:List Int→List Int→Int
 | x::_,_=>x
 | [],x::_=>x
 | [],[]=>0
def pk:List Int→List Int→Int
 | _::_,_=>0
 | [],_::_=>1
 | [],[]=>0
def Iw:List Int→List Int→Bool
 | _::_,_=>true
 | [],_::_=>true
 | [],[]=>false
def FF:List Int→List Int
 | _::F=>F
 | []=> []
def FG:List Int→List Int→List Int
 | _::_,V=>V
 | [],_::V=>V
 | [],[]=> []
def df (w:Zc)(b f v:Nat)(gf gv:Option Nat)(n:Nat)(F V:List Int) :Prop:=
 Blk w b 221 #[.pointer (some ⟨f,0,none⟩),.pointer (some ⟨v,0,none⟩)]∧
 RingAt 189 3 1 w f gf n F.length (F.map (ZR .i64))∧RingAt 189 3 1 w v gv n V.length (V.map (ZR .i64))∧
 (∀i,Foot f gf i→ ¬Foot v gv i)∧(¬Foot f gf b)∧(¬Foot v gv b)
def Ln (w:Zc)(b:Nat)(S:Nat→Prop)(n:Nat)(F V:List Int) :Prop:=
 ∃f v gf gv,df w b f v gf gv n F V∧ ∀i,S i ↔ (i=b∨Foot f gf i∨Foot v gv i)
def AR (S S':Nat→Prop)(w w':Zc) :Prop:=Kept S w w'∧ ∀i,S' i→S i∨w.heap.size≤i
section
variable {w w':Zc} {S S' T:Nat→Prop} {b f v n:Nat} {gf gv g':Option Nat} {F V:List Int}
theorem Ln.kept (h:Ln w b S n F V)(k:Kept T w w')(hT: ∀i,S i→ ¬T i) :Ln w' b S n F V:=by
 obtain ⟨f,v,gf,gv,⟨h1,h2,h3,h4⟩,h5⟩:=h;exact ⟨f,v,gf,gv,⟨h1.kept k (hT _ ((h5 _).2 (.inl rfl))),h2.kept k (fun i hi=>hT i ((h5 i).2 (.inr (.inl hi)))),h3.kept k (fun i hi=>hT i ((h5 i).2 (.inr (.inr hi)))),h4⟩,h5⟩
theorem Ln.lt (h:Ln w b S n F V) : ∀i,S i→i < w.heap.size:=by
 obtain ⟨f,v,gf,gv,⟨h1,h2,h3,h4⟩,h5⟩:=h;intro i hi
 rcases (h5 i).1 hi with rfl | hi | hi
 ·exact h1.lt
 ·exact h2.lt i hi
 ·exact h3.lt i hi
theorem Ln.drewN (h:Ln w b S n F V)(m:Nat) :Ln (w.drewN m) b S n F V:=h
theorem Ln.below (h:Ln w b S n F V)(hb:Zs w.heap.size w w') :Ln w' b S n F V:=h.kept (YP (S:=fun _=>False) hb) (fun _ _ h=>h)
theorem Ln.size (h:Ln w b S n F V) :F.length≤n∧V.length≤n∧n≤1048576:=by
 obtain ⟨f,v,gf,gv,⟨h1,h2,h3,h4⟩,h5⟩:=h;exact ⟨h2.size_le.1,h3.size_le.1,h2.size_le.2.2⟩
theorem df.cells (h:df w b f v gf gv n F V) :w.cell? ⟨b,0,none⟩=some (.pointer (some ⟨f,0,none⟩))∧w.cell? ⟨b,1,none⟩=some (.pointer (some ⟨v,0,none⟩)):=⟨h.1.cell 0,h.1.cell 1⟩
theorem AR.refl (S:Nat→Prop)(w:Zc) :AR S S w w:=⟨ZH _ _,fun _ h=> .inl h⟩
theorem df.setF {F':List Int}(h:df w b f v gf gv n F V)(hr:RingAt 189 3 1 w' f g' n F'.length (F'.map (ZR .i64)))(hm:Moved w gf g')(hk:Kept (Foot f gf) w w') :
  ∃S',Ln w' b S' n F' V∧AR (fun i=>i=b∨Foot f gf i∨Foot v gv i) S' w w':=by
 obtain ⟨h1,h2,h3,h4,h5,h6⟩:=h;have new: ∀i,Foot f g' i→Foot f gf i∨w.heap.size≤i:=by
  exact zv
 refine ⟨_,⟨f,v,g',gv,⟨h1.kept hk h5,hr,h3.kept hk (fun i hi hf=>h4 i hf hi),?_,?_,h6⟩,fun i=>Iff.rfl⟩,hk.more (fun i _ hi=> .inr (.inl hi)),?_⟩
 ·intro i hi hv
  rcases new i hi with h | h
  ·exact h4 i h hv
  ·have:=h3.lt i hv; omega
 ·intro hb
  rcases new b hb with h | h
  ·exact h5 h
  ·have:=h1.lt; omega
 ·rintro i (rfl | hi | hi)
  ·exact .inl (.inl rfl)
  ·exact (new i hi).imp (fun h=> .inr (.inl h)) id
  ·exact .inl (.inr (.inr hi))
theorem df.setV {V':List Int}(h:df w b f v gf gv n F V)(hr:RingAt 189 3 1 w' v g' n V'.length (V'.map (ZR .i64)))(hm:Moved w gv g')(hk:Kept (Foot v gv) w w') :
  ∃S',Ln w' b S' n F V'∧AR (fun i=>i=b∨Foot f gf i∨Foot v gv i) S' w w':=by
 obtain ⟨h1,h2,h3,h4,h5,h6⟩:=h;have new: ∀i,Foot v g' i→Foot v gv i∨w.heap.size≤i:=by
  exact zv
 refine ⟨_,⟨f,v,gf,g',⟨h1.kept hk h6,h2.kept hk (fun i hi hf=>h4 i hi hf),hr,?_,h5,?_⟩,fun i=>Iff.rfl⟩,hk.more (fun i _ hi=> .inr (.inr hi)),?_⟩
 ·intro i hi hv
  rcases new i hv with h | h
  ·exact h4 i hi h
  ·have:=h2.lt i hi; omega
 ·intro hb
  rcases new b hb with h | h
  ·exact h6 h
  ·have:=h1.lt; omega
 ·rintro i (rfl | hi | hi)
  ·exact .inl (.inl rfl)
  ·exact .inl (.inr (.inl hi))
  ·exact (new i hi).imp (fun h=> .inr (.inr h)) id
theorem AR.iff {S2:Nat→Prop}(h:AR S S' w w')(hS: ∀i,S2 i ↔ S i) :AR S2 S' w w':=⟨h.1.more fun i _ hi=>(hS i).2 hi,fun i hi=>(h.2 i hi).imp (hS i).2 id⟩
section
variable {w:Zc} {S:Nat→Prop} {a:Option Addr} {L:List Int}
theorem JU.src (h:JU w S a L) :Iv w S a L.length 1 (L.map (ZR .i64)):=by
 refine ⟨by simp,fun v hv=>?_,fun hl=>?_⟩
 ·obtain ⟨x,_,rfl⟩:=List.mem_map.1 hv;rfl
 ·obtain ⟨b,off,e,hn,hb,hc⟩:=h hl;refine ⟨_,e,hn,fun j v hv=>?_⟩;rw [ZP] at hv;have hj:j < L.length:=by
   rcases Nat.lt_or_ge j L.length with h1 | h1
   ·exact h1
   ·exact sy
  rw [add_plain,hc j hj];rw [Zf hj] at hv;rw [Zq,Zf hj];exact hv
end
theorem e7 {w w':Zc}{base n size:Nat}{e:ZN}{v:Zl}{xs:List Zl}(h:w.ownsRow base e size v n xs)(k:Zs w.heap.size w w') :w'.ownsRow base e size v n xs:=by
 obtain ⟨h1,h2⟩:=h;refine ⟨h1,?_⟩
 rcases h2 with h2 | ⟨g,cap,cur,rfl,h3,h4,h5⟩
 ·exact .inl h2
 ·exact .inr ⟨g,cap,cur,rfl,h3,Blk.below (w:=w) h4 k (Blk.lt (w:=w) h4),h5⟩
theorem Nt (w:Zc)(b o:Nat)(u:Zl) :Kept (fun i=>i=b) w (w.setCell ⟨b,o,none⟩ u):=Kept.setCell (S:=fun i=>i=b) (ZH _ _) (.inl rfl) _
theorem iZ (w:Zc)(x:Int)(T:Nat→Prop)(hT: ∀i,T i→i < w.heap.size) :Iv (w.alloc (.cells #[.int .i64 x] 3)) T (some ⟨w.heap.size,0,none⟩) 1 1 [.int .i64 x]:=
 ⟨rfl,fun v hv=>by simp at hv; subst hv; rfl,fun _=>⟨_,rfl,fun hf=>Nat.lt_irrefl _ (hT _ hf),fun j v hv=>by
  rw [add_plain,ZX,(Zv w 3 #[.int .i64 x]).cell];simpa using hv⟩⟩
end
end
section
open Go Go.RowKit
theorem has_yes (b:Nat)(c:Int)(w:Zc)(h:c=0∨c=1) :Zj Zb 156 #[.pointer (some ⟨b,0,none⟩),.int .i64 c] w fun e w'=>e= .returned (.bool true)∧w=w':=by
 rcases h with rfl | rfl
 ·exact jt
 ·exact jt
theorem has_no (b:Nat)(c:Int)(w:Zc)(h:c < 0∨2≤c) :Zj Zb 156 #[.pointer (some ⟨b,0,none⟩),.int .i64 c] w fun e w'=>e= .returned (.bool false)∧w=w':=by
 rcases h with h | h
 ·have h1: ¬0≤c:=by omega
  exact jt
 ·have h1:0≤c:=by omega
  have h2: ¬c < 2:=by omega
  exact jt
theorem qO (b:Nat)(c:Int)(w:Zc)(h:c < 0∨2≤c) :Zj Zb 111 #[.pointer (some ⟨b,0,none⟩),.int .i64 c] w fun e w'=>e= .returned (.pointer none)∧w=w':=by
 have H:=Za h;clear h;go_enter Tryz.func111,Tryz.ntmps111;exact ZcJ
theorem DD (b f:Nat)(w:Zc)(h:w.cell? ⟨b,0,none⟩=some (.pointer (some ⟨f,0,none⟩))) :
  Zj Zb 111 #[.pointer (some ⟨b,0,none⟩),.int .i64 0] w fun e w'=>e= .returned (.pointer (some ⟨f,0,none⟩))∧w=w':=by
 go_enter Tryz.func111,Tryz.ntmps111;go_wp2_with fail;refine (has_yes _ _ _ (.inl rfl)).mono ?_;exact sn
theorem LQ (b v:Nat)(w:Zc)(h:w.cell? ⟨b,1,none⟩=some (.pointer (some ⟨v,0,none⟩))) :
  Zj Zb 111 #[.pointer (some ⟨b,0,none⟩),.int .i64 1] w fun e w'=>e= .returned (.pointer (some ⟨v,0,none⟩))∧w=w':=by
 go_enter Tryz.func111,Tryz.ntmps111;go_wp2_with fail;refine (has_yes _ _ _ (.inr rfl)).mono ?_;exact sn
theorem bA (n:Nat)(w:Zc)(h1:1≤n)(h2:n≤4096) :Zj Zb 76 #[.int .i64 n] w fun e w'=>e= .returned (.pointer (some ⟨w.heap.size,0,none⟩))∧
  (∃S,Ln w' w.heap.size S n [] []∧ ∀i,S i→w.heap.size≤i)∧Zs w.heap.size w w':=by
 have h0: ¬(n:Int)< 1:=by omega
 have h3: ¬(4096:Int)< (n:Int):=by omega
 have H:=Za (fun W=>Pk n W h1 Zm);have HN:=Za (show 1≤n∧n≤1048576 by omega);go_enter Tryz.func76,Tryz.ntmps76;go_wp2_with fail;have B0:Hid (Blk (w.alloc (.cells #[.pointer none,.pointer none] 221)) w.heap.size 221 #[.pointer none,.pointer none]):=Za (Zv _ _ _);have K0:Hid (Zs w.heap.size w (w.alloc (.cells #[.pointer none,.pointer none] 221))∧(w.alloc (.cells #[.pointer none,.pointer none] 221)).heap.size=w.heap.size+1):=Za ⟨(Zp _ _).alloc (Zg _) _,by simp⟩;generalize w.alloc (.cells #[.pointer none,.pointer none] 221)=w1 at*;obtain ⟨b,hb⟩ : ∃b,w.heap.size=b:=⟨_,rfl⟩;have HB:=Za hb;rw [hb] at B0 K0 ⊢;clear hb;refine QC 3 ?_;rw [YT];go_wp2_with fail;refine (H.out _).mono ?_;rintro e w2 ⟨rfl,Np⟩;have R2:Hid (RingAt 189 3 1 w2 w1.heap.size none n 0 []):=by rw [←Np]; exact Za (Tb w1 _ _ 1 n HN.out.1 HN.out.2)
 have B2:Hid (Blk w2 b 221 #[.pointer none,.pointer none]):=by rw [←Np]; exact Za (B0.out.alloc _)
 have K2:Hid (Kept (fun _=>False) w1 w2):=by rw [←Np]; exact Za ((ZH _ _).alloc _)
 have x1:=B2.out.frozen 0;have x2:w2.cell? ⟨b,0,none⟩=some (.pointer none):=B2.out.cell 0;clear Np;go_wp2_with fail;have B3:Hid (Blk (w2.setCell ⟨b,0,none⟩ (.pointer (some ⟨w1.heap.size,0,none⟩))) b 221 #[.pointer (some ⟨w1.heap.size,0,none⟩),.pointer none]):=Za (B2.out.set_ 0 _);obtain ⟨f,hf⟩ : ∃f,w1.heap.size=f:=⟨_,rfl⟩;have HF:=Za hf;rw [hf] at B3 R2 ⊢;have yJ:f=b+1:=by rw [←hf]; exact K0.out.2
 have R3:Hid (RingAt 189 3 1 (w2.setCell ⟨b,0,none⟩ (.pointer (some ⟨f,0,none⟩))) f none n 0 []):=Za (R2.out.kept (Nt _ _ _ _) (fun i hi=>by
  rcases hi with rfl | hi
  ·omega
  ·cases hi))
 have K3:Hid (Zs b w (w2.setCell ⟨b,0,none⟩ (.pointer (some ⟨f,0,none⟩)))∧f < (w2.setCell ⟨b,0,none⟩ (.pointer (some ⟨f,0,none⟩))).heap.size):=Za ⟨(Kept.below K0.out.1 (S:=fun i=>i=b) ((K2.out.more (T:=fun i=>i=b) (fun _ _ h=>h.elim)).trans (Nt _ _ _ _) (fun _ _ h=>h)) (fun i h=>by omega) (by rw [K0.out.2]; omega)),R3.out.lt _ (.inl rfl)⟩;have HFB:=Za yJ;clear B2 R2 K2 x1 x2 hf yJ B0 K0;generalize w2.setCell ⟨b,0,none⟩ (.pointer (some ⟨f,0,none⟩))=w3 at*;rw [YT];go_wp2_with fail;refine (H.out _).mono ?_;rintro e w4 ⟨rfl,hw4⟩;have R4:Hid (RingAt 189 3 1 w4 w3.heap.size none n 0 []):=by rw [←hw4]; exact Za (Tb w3 _ _ 1 n HN.out.1 HN.out.2)
 have Q4:Hid (RingAt 189 3 1 w4 f none n 0 []):=by rw [←hw4]; exact Za (R3.out.kept (S:=fun _=>False) ((ZH _ _).alloc _) (fun _ _ h=>h))
 have B4:Hid (Blk w4 b 221 #[.pointer (some ⟨f,0,none⟩),.pointer none]):=by rw [←hw4]; exact Za (B3.out.alloc _)
 have K4:Hid (Zs b w w4):=by rw [←hw4]; exact Za (K3.out.1.alloc (by have:=K3.out.2; have:=HFB.out; omega) _)
 have x1:=B4.out.frozen 1;have x2:w4.cell? ⟨b,1,none⟩=some (.pointer none):=B4.out.cell 1;clear hw4;go_wp2_with fail;rw [YT];go_wp2_with fail;go_ret;obtain ⟨v,hv⟩ : ∃v,w3.heap.size=v:=⟨_,rfl⟩;have hvf:f < v:=by rw [←hv]; exact K3.out.2
 have yJ:=HFB.out;rw [hv] at R4 ⊢;have hn: ∀x i,Foot x none i→i=x:=fun x i h=>by
  rcases h with rfl | h
  ·rfl
  ·cases h
 have hk:Kept (fun i=>i=b) w4 (w4.setCell ⟨b,1,none⟩ (.pointer (some ⟨v,0,none⟩))):=Nt _ _ _ _;refine ⟨by rw [HB.out]; rfl,⟨_,⟨f,v,none,none,⟨by rw [HB.out]; exact B4.out.set_ 1 _,Q4.out.kept hk (fun i hi=>by rw [hn _ _ hi]; omega),R4.out.kept hk (fun i hi=>by rw [hn _ _ hi]; omega),fun i h1 h2=>by have:=hn _ _ h1; have:=hn _ _ h2; omega,fun h=>by have:=hn _ _ h; have:=HB.out; omega,fun h=>by have:=hn _ _ h; have:=HB.out; omega⟩,fun i=>Iff.rfl⟩,?_⟩,?_⟩
 ·rintro i (rfl | h | h)
  ·omega
  ·have:=hn _ _ h; have:=HB.out; omega
  ·have:=hn _ _ h; have:=HB.out; omega
 ·rw [HB.out];exact Kept.below K4.out (Nt _ _ _ _) (fun i h=>by omega) (Nat.le_of_lt B4.out.lt)
theorem bE (b f nf:Nat)(w:Zc)(h0:w.cell? ⟨b,0,none⟩=some (.pointer (some ⟨f,0,none⟩)))(h2:w.cell? ⟨f,3,none⟩=some (.int .i64 nf))(hn:0 < nf) :
  Zj Zb 312 #[.pointer (some ⟨b,0,none⟩)] w fun e w'=>e= .returned (.int .i64 0)∧ ∃m,w'=w.drewN m:=by
 have HL:=Za (fun m=>GK f nf (w.drewN m) h2);go_enter Tryz.func312,Tryz.ntmps312;go_wp2;go_step3;go_wp2;go_step3;go_wp2;refine QC 1 ?_;rw [YT];go_wp2;go_quiet (fail);go_wp2_with fail;refine (HL.out _).mono ?_;exact zz
theorem bF (b f v nv:Nat)(w:Zc)(h0:w.cell? ⟨b,0,none⟩=some (.pointer (some ⟨f,0,none⟩)))(h1:w.cell? ⟨b,1,none⟩=some (.pointer (some ⟨v,0,none⟩)))(h2:w.cell? ⟨f,3,none⟩=some (.int .i64 0))(h3:w.cell? ⟨v,3,none⟩=some (.int .i64 nv))(hn:0 < nv) :
  Zj Zb 312 #[.pointer (some ⟨b,0,none⟩)] w fun e w'=>e= .returned (.int .i64 1)∧ ∃m,w'=w.drewN m:=by
 have HL:=Za (fun m=>GK f 0 (w.drewN m) h2);have HV:=Za (fun m=>GK v nv (w.drewN m) h3);go_enter Tryz.func312,Tryz.ntmps312;go_wp2;go_step3;go_wp2;go_step3;go_wp2;refine QC 2 ?_;rw [YT];go_wp2;go_quiet (fail);go_wp2_with fail;refine (HL.out _).mono ?_;rintro e w' ⟨rfl,rfl⟩;go_wp2;rw [YT];go_wp2;go_quiet (fail);go_wp2_with fail;refine (HV.out _).mono ?_;exact zz
theorem lr (b f v:Nat)(w:Zc)(h0:w.cell? ⟨b,0,none⟩=some (.pointer (some ⟨f,0,none⟩)))(h1:w.cell? ⟨b,1,none⟩=some (.pointer (some ⟨v,0,none⟩)))(h2:w.cell? ⟨f,3,none⟩=some (.int .i64 0))(h3:w.cell? ⟨v,3,none⟩=some (.int .i64 0)) :
  Zj Zb 312 #[.pointer (some ⟨b,0,none⟩)] w fun e w'=>e= .returned (.int .i64 0)∧ ∃m,w'=w.drewN m:=by
 have HL:=Za (fun m=>GK f 0 (w.drewN m) h2);have HV:=Za (fun m=>GK v 0 (w.drewN m) h3);go_enter Tryz.func312,Tryz.ntmps312;go_wp2;go_step3;go_wp2;go_step3;go_wp2;refine QC 3 ?_;rw [YT];go_wp2;go_quiet (fail);go_wp2_with fail;refine (HL.out _).mono ?_;rintro e w' ⟨rfl,rfl⟩;go_wp2;rw [YT];go_wp2;go_quiet (fail);go_wp2_with fail;refine (HV.out _).mono ?_;rintro e w' ⟨rfl,rfl⟩;go_wp2;rw [YT];go_wp2;try rw [Gq]
 go_ret;exact ⟨rfl,_,rfl⟩
section
variable {w:Zc} {b n:Nat} {S:Nat→Prop} {F V:List Int}
theorem bD (h:Ln w b S n F V) :Zj Zb 312 #[.pointer (some ⟨b,0,none⟩)] w fun e w'=>e= .returned (.int .i64 (pk F V))∧ ∃m,w'=w.drewN m:=by
 obtain ⟨f,v,gf,gv,h1,_⟩:=h;have x:=h1.cells;have y:=h1.2.1.cells.2;have z:=h1.2.2.1.cells.2
 rcases F with _ | ⟨x0,F⟩
 ·rcases V with _ | ⟨y0,V⟩
  ·exact lr b f v w x.1 x.2 y z
  ·exact bF b f v _ w x.1 x.2 y z ZI
 ·exact bE b f _ w x.1 y ZI
theorem Ao (c:Int)(h:Ln w b S n F V) :Zj Zb 111 #[.pointer (some ⟨b,0,none⟩),.int .i64 c] w fun e w'=>w=w'∧
  ((e= .returned (.pointer none)∧c≠0∧c≠1)∨ ∃r g,e= .returned (.pointer (some ⟨r,0,none⟩))∧(c=0∨c=1)∧RingAt 189 3 1 w r g n (U4 F V c).length ((U4 F V c).map (ZR .i64))):=by
 obtain ⟨f,v,gf,gv,h1,_⟩:=h
 by_cases c0:c=0
 ·subst c0;exact (DD b f w h1.cells.1).mono fun e w' ⟨he,hw⟩=>⟨hw,.inr ⟨f,gf,he,.inl rfl,h1.2.1⟩⟩
 ·by_cases c1:c=1
  ·subst c1;exact (LQ b v w h1.cells.2).mono fun e w' ⟨he,hw⟩=>⟨hw,.inr ⟨v,gv,he,.inr rfl,h1.2.2.1⟩⟩
  ·exact (qO b c w Zm).mono fun e w' ⟨he,hw⟩=>⟨hw,.inl ⟨he,c0,c1⟩⟩
theorem eI {c:Int}(h0:c≠0)(h1:c≠1) :U4 F V c=[]:=by rw [U4,if_neg h0,if_neg h1]
theorem dY {c:Int}(h0:c≠0)(h1:c≠1) :Hw n F V c=0:=by rw [Hw,if_neg h0,if_neg h1]
theorem MB {c:Int}(h:c=0∨c=1) :Hw n F V c=n -(U4 F V c).length:=by
 rcases h with rfl | rfl <;> rfl
theorem oR (c:Int)(h:Ln w b S n F V) :Zj Zb 188 #[.pointer (some ⟨b,0,none⟩),.int .i64 c] w fun e w'=>e= .returned (.int .i64 (Hw n F V c:Nat))∧ ∃m,w'=w.drewN m:=by
 have HQ:=Za (Ao c h);have hn:=h.size.2.2;clear h;go_enter Tryz.func188,Tryz.ntmps188;go_wp2_with fail;refine HQ.out.mono ?_;rintro e w' ⟨rfl,⟨rfl,h0,h1⟩ | ⟨r,g,rfl,hc,hr⟩⟩
 ·have HE:=Za (dY (n:=n) (F:=F) (V:=V) h0 h1);clear h0 h1;go_wp2_with fail;refine (bV _).mono ?_;rintro e w' ⟨rfl,rfl⟩;go_wp2;go_ret;exact ⟨by rw [HE.out]; rfl,0,rfl⟩
 ·have HR:=Za hr;have HE:=Za (MB (n:=n) (F:=F) (V:=V) hc);clear hr hc;go_wp2_with fail;refine (Ec r n _ _ HR.out.cells.1 HR.out.cells.2 hn HR.out.size_le.1).mono ?_;rintro e w' ⟨rfl,m,rfl⟩;go_wp2;go_ret;exact ⟨by rw [HE.out]; rfl,m,rfl⟩
def Hi (w:Zc)(L:List Int)(e:Ending)(w':Zc) :Prop:= ∃v,e= .returned v∧w'.ownsRow w.heap.size 3 1 v L.length (L.map (ZR .i64))∧Zs w.heap.size w w'
end
end
section
open Go Go.RowKit
section
variable {w:Zc} {b n r f v:Nat} {S:Nat→Prop} {F V L:List Int} {g gf gv:Option Nat}
theorem Ar (h:RingAt 189 3 1 w r g n L.length (L.map (ZR .i64)))(x:Int)(hr:L.length < n) :
  Zj Zb 122 #[.pointer (some ⟨r,0,none⟩),.slice (some ⟨w.heap.size,0,none⟩) 1 1] (w.alloc (.cells #[.int .i64 x] 3)) fun e w'=>e= .returned (.int .i64 1)∧
   ∃g',RingAt 189 3 1 w' r g' n (L++[x]).length ((L++[x]).map (ZR .i64))∧Moved w g g'∧Kept (Foot r g) w w':=by
 have h0:=h.kept (S:=fun _=>False) ((ZH _ w).alloc (.cells #[.int .i64 x] 3)) (fun _ _ h=>h);have:=Lg r n L.length 1 1 g (some ⟨w.heap.size,0,none⟩) _ [.int .i64 x] _ h0 (iZ w x _ h.lt) Zm Zm;rw [show min 1 (n - L.length)=1 by omega] at this;exact Zf3
theorem Aq (h:RingAt 189 3 1 w r g n L.length (L.map (ZR .i64)))(x:Int)(hr: ¬L.length < n) :
  Zj Zb 122 #[.pointer (some ⟨r,0,none⟩),.slice (some ⟨w.heap.size,0,none⟩) 1 1] (w.alloc (.cells #[.int .i64 x] 3)) fun e w'=>e= .returned (.int .i64 0)∧
   ∃g',RingAt 189 3 1 w' r g' n L.length (L.map (ZR .i64))∧Moved w g g'∧Kept (Foot r g) w w':=by
 have h0:=h.kept (S:=fun _=>False) ((ZH _ w).alloc (.cells #[.int .i64 x] 3)) (fun _ _ h=>h);have:=Lg r n L.length 1 1 g (some ⟨w.heap.size,0,none⟩) _ [.int .i64 x] _ h0 (iZ w x _ h.lt) Zm Zm;rw [show min 1 (n - L.length)=0 by omega] at this;exact Zf3
def Hj (w:Zc)(b:Nat)(S:Nat→Prop)(n:Nat)(F V:List Int)(w':Zc) :Prop:= ∃S',Ln w' b S' n F V∧AR S S' w w'
theorem wq (c x:Int)(w:Zc)(h:c < 0∨2≤c) :Zj Zb 128 #[.pointer (some ⟨b,0,none⟩),.int .i64 c,.int .i64 x] w fun e w'=>e= .returned (.int .i64 11)∧w=w':=by
 have H:=Za h;clear h;go_enter Tryz.func128,Tryz.ntmps128;exact ZcJ
theorem LO (c x:Int)(k r:Nat)(w:Zc)(Q:Zc→Prop)(hh:c=0∨c=1)(hq:Zj Zb 111 #[.pointer (some ⟨b,0,none⟩),.int .i64 c] w fun e w'=>e= .returned (.pointer (some ⟨r,0,none⟩))∧w=w')
  (hp:Zj Zb 122 #[.pointer (some ⟨r,0,none⟩),.slice (some ⟨w.heap.size,0,none⟩) 1 1] (w.alloc (.cells #[.int .i64 x] 3)) fun e w'=>e= .returned (.int .i64 k)∧Q w') (hk:k=0∨k=1) :
  Zj Zb 128 #[.pointer (some ⟨b,0,none⟩),.int .i64 c,.int .i64 x] w fun e w'=>e= .returned (.int .i64 (if k=0 then 6 else 0))∧Q w':=by
 have HH:=Za hh;have HQ:=Za hq;have HP:=Za hp;clear hh hq hp
 rcases hk with rfl | rfl
 ·exact ZfU
 ·exact ZfU
theorem Hj.same (h:Ln w b S n F V) :Hj w b S n F V w:=⟨S,h,AR.refl _ _⟩
theorem qL (c x:Int)(h:Ln w b S n F V) :Zj Zb 128 #[.pointer (some ⟨b,0,none⟩),.int .i64 c,.int .i64 x] w fun e w'=>e= .returned (.int .i64 (errP n F V c))∧Hj w b S n (pushF n F c x) (pushV n V c x) w':=by
 have h0:=h;obtain ⟨f,v,gf,gv,h1,h2⟩:=h
 by_cases c0:c=0
 ·subst c0
  by_cases hr:F.length < n
  ·refine (LO (b:=b) 0 x 1 f w _ (.inl rfl) (DD b f w h1.cells.1) (Ar h1.2.1 x hr) (.inr rfl)).mono ?_;exact Zgc
  ·refine (LO (b:=b) 0 x 0 f w _ (.inl rfl) (DD b f w h1.cells.1) (Aq h1.2.1 x hr) (.inl rfl)).mono ?_;exact Zgc
 ·by_cases c1:c=1
  ·subst c1
   by_cases hr:V.length < n
   ·refine (LO (b:=b) 1 x 1 v w _ (.inr rfl) (LQ b v w h1.cells.2) (Ar h1.2.2.1 x hr) (.inr rfl)).mono ?_;exact Zgd
   ·refine (LO (b:=b) 1 x 0 v w _ (.inr rfl) (LQ b v w h1.cells.2) (Aq h1.2.2.1 x hr) (.inl rfl)).mono ?_;exact Zgd
  ·refine (wq c x w Zm).mono ?_;rintro e w' ⟨he,rfl⟩;refine ⟨by rw [he]; simp [errP,c0,c1],?_⟩;have:Ln w b S n (pushF n F c x) (pushV n V c x):=by simpa [pushF,pushV,c0,c1] using h0
   exact Hj.same this
theorem SP (h:Ln w b S n F V) :Zj Zb 111 #[.pointer (some ⟨b,0,none⟩),.int .i64 (pk F V)] w fun e w'=>w=w'∧ ∃r:Nat,e= .returned (.pointer (some ⟨r,0,none⟩))∧
  Hid (Zj Zb 296 #[.pointer (some ⟨r,0,none⟩),.int .i64 0] w fun e w'=>e= .returned (.tuple #[.int .i64 (PI F V),.bool (Iw F V)])∧ ∃m,w'=w.drewN m)∧
  Hid (Zj Zb 297 #[.pointer (some ⟨r,0,none⟩)] w fun e w'=>(∃v,e= .returned v)∧Hj w b S n (FF F) (FG F V) w'):=by
 have h':=h;obtain ⟨f,v,gf,gv,h1,h2⟩:=h
 rcases F with _ | ⟨x,F⟩
 ·rcases V with _ | ⟨y,V⟩
  ·refine (DD b f w h1.cells.1).mono ?_;rintro e w' ⟨he,hw⟩;refine ⟨hw,f,he,Za ((Lf f 0 0 w h1.2.1.cells.2 Zm).mono fun e w' ⟨a,b⟩=>⟨a,0,b.symm⟩),Za ((CU f w h1.2.1.cells.2).mono fun e w' ⟨a,b⟩=>⟨⟨_,a⟩,b▸Hj.same h'⟩)⟩
  ·refine (LQ b v w h1.cells.2).mono ?_;rintro e w' ⟨he,hw⟩;refine ⟨hw,v,he,Za (MK v n _ 0 gv _ _ w h1.2.2.1 rfl),Za ((Oy v n V.length gv (V.map (ZR .i64)) (.int .i64 y) w h1.2.2.1).mono fun e w' ⟨a,b1,b2⟩=>⟨⟨_,a⟩,?_⟩)⟩;obtain ⟨S',c1,c2⟩:=h1.setV b1 (fun i e=> .inl e) b2;exact ⟨S',c1,c2.iff h2⟩
 ·refine (DD b f w h1.cells.1).mono ?_;rintro e w' ⟨he,hw⟩;refine ⟨hw,f,he,Za (MK f n _ 0 gf _ _ w h1.2.1 rfl),Za ((Oy f n F.length gf (F.map (ZR .i64)) (.int .i64 x) w h1.2.1).mono fun e w' ⟨a,b1,b2⟩=>⟨⟨_,a⟩,?_⟩)⟩;obtain ⟨S',c1,c2⟩:=h1.setF b1 (fun i e=> .inl e) b2;exact ⟨S',c1,c2.iff h2⟩
theorem Sh (h:Ln w b S n F V) :Zj Zb 291 #[.pointer (some ⟨b,0,none⟩)] w fun e w'=>e= .returned (.tuple #[.int .i64 (PI F V),.int .i64 (pk F V),.bool (Iw F V)])∧ ∃m,w'=w.drewN m:=by
 have HL:=Za h;clear h;go_enter Tryz.func291,Tryz.ntmps291;go_wp2_with fail;refine (bD HL.out).mono ?_;rintro e w' ⟨rfl,m,rfl⟩;have jG:=Za (HL.out.drewN m);go_wp2_with fail;refine (SP jG.out).mono ?_;rintro e w' ⟨rfl,r,rfl,HP,-⟩;clear jG HL;go_wp2_with fail;refine HP.out.mono ?_;rintro e w' ⟨rfl,q,rfl⟩;clear HP;go_wp2;go_ret3;exact ⟨rfl,m+q,rfl⟩
theorem wg (h:Ln w b S n F V) :Zj Zb 311 #[.pointer (some ⟨b,0,none⟩)] w fun e w'=>e= .returned (.tuple #[.int .i64 (PI F V),.int .i64 (pk F V),.bool (Iw F V)])∧Hj w b S n (FF F) (FG F V) w':=by
 have HL:=Za h;clear h;go_enter Tryz.func311,Tryz.ntmps311;go_wp2_with fail;refine (Sh HL.out).mono ?_;rintro e w' ⟨rfl,m,rfl⟩;have jG:=Za (HL.out.drewN m);go_wp2_with fail;refine (SP jG.out).mono ?_;rintro e w' ⟨rfl,r,rfl,-,HP⟩;clear jG HL;go_wp2_with fail;refine HP.out.mono ?_;rintro e w' ⟨⟨u,rfl⟩,S',hl,hg⟩;have HE:Hid (Hj w b S n (FF F) (FG F V) w'):=Za ⟨S',hl,⟨((ZH _ w).drewN m).trans hg.1 (fun _ _ h=>h),hg.2⟩⟩;clear HP hl hg;go_wp2;go_ret3;exact ⟨rfl,HE.out⟩
end
end
section
open Go Go.RowKit
section
variable {w:Zc} {b n:Nat} {S:Nat→Prop} {F V:List Int}
theorem qx {w:Zc}{g base:Nat}{L:List Int}(h:Blk w g 3 (L.map (ZR .i64)).toArray)(hb:base≤g)(hl:L.length≤9223372036854775807) :w.ownsRow base 3 1 (.slice (some ⟨g,0,none⟩) L.length L.length) L.length (L.map (ZR .i64)):=
 ⟨by simp,.inr ⟨g,L.length,_,rfl,hb,h,Zg _,by unfold maxLen; omega,by simp,List.take_of_length_le ZI⟩⟩
theorem NG {r size:Nat}{g:Option Nat}{L:List Int}(h:RingAt 189 3 1 w r g size L.length (L.map (ZR .i64))) :
  Zj Zb 57 #[.pointer (some ⟨r,0,none⟩)] w (Hi w L):=by
 refine (SZ r size L.length g _ w h).mono ?_;rintro e w' ⟨he,hb,hw⟩;exact ⟨_,he,qx hb (Zg _) (by have:=h.size_le; omega),hw⟩
theorem dq (c:Int)(h:Ln w b S n F V) :Zj Zb 58 #[.pointer (some ⟨b,0,none⟩),.int .i64 c] w (Hi w (U4 F V c)):=by
 have HQ:=Za (Ao c h);clear h;go_enter Tryz.func58,Tryz.ntmps58;go_wp2_with fail;refine HQ.out.mono ?_;rintro e w' ⟨rfl,⟨rfl,h0,h1⟩ | ⟨r,g,rfl,hc,hr⟩⟩
 ·have HE:=Za (eI (F:=F) (V:=V) h0 h1);clear h0 h1;go_wp2_with fail;refine (fJ _).mono ?_;rintro e w' ⟨rfl,rfl⟩;go_wp2;go_ret;exact ⟨_,rfl,by rw [HE.out]; exact Xr _ _ _ _,Zp _ _⟩
 ·have HR:=Za (NG hr);clear hr hc;go_wp2_with fail;refine HR.out.mono ?_;rintro e w' ⟨v,rfl,ho,hb⟩;have HO:=Za ho;have HB:=Za hb;clear ho hb;go_wp2;go_ret;exact ⟨_,rfl,HO.out,HB.out⟩
theorem nC (c:Int)(w:Zc)(h:c < 0∨2≤c) :Zj Zb 238 #[.pointer (some ⟨b,0,none⟩),.int .i64 c] w fun e w'=>e= .returned (.slice none 0 0)∧w=w':=by
 have H:=Za h;clear h;go_enter Tryz.func238,Tryz.ntmps238;exact ZcJ
theorem IW {w0 w1 w2:Zc}{v:Zl}{B n:Nat}{xs:List Zl}{t:ZN}(h:Zs B w0 w1)(hB:B≤w1.heap.size)(hg:w1.grownBy w2 v.ownBlock)(ho:w1.ownsRow B t 1 v n xs) :Zs B w0 w2:=h.grown hg hB (fun q hq=>(ho.lt q hq).1)
theorem dn (h:Ln w b S n F V) :Zj Zb 238 #[.pointer (some ⟨b,0,none⟩),.int .i64 0] w (Hi w F):=by
 obtain ⟨j0,aI,BM,BG,Mn⟩:=LK;obtain ⟨f,v,gf,gv,h1,h2⟩:=h;have x0:=h1.cells.1;have HF:=Za (NG h1.2.1);have hs:=h1.2.1.size_le;clear h1 h2;go_enter Tryz.func238,Tryz.ntmps238;go_wp2_with fail;refine (has_yes _ _ _ (.inl rfl)).mono ?_;rintro e w' ⟨rfl,rfl⟩;go_wp2_with fail;refine QC 2 ?_;rw [YT];go_wp2_with fail;refine HF.out.mono ?_;rintro e w1 ⟨u,rfl,ho,hb⟩;have HO:=Za ho;have HB:=Za hb;obtain ⟨a,cp,rfl,_,_,_,hi⟩:=VU (S:=fun _=>False) ho (fun _ _ h=>h);have HI:=Za hi.src;clear hi ho hb HF x0;go_wp2_with (at_builtin; refine X7 _ rfl (.tmp 23) (.tmp 25) 47 rfl w.heap.size 3 j0 _ 1 8 YI aI BM BG Mn rfl Nat.one_pos (.slice none 0 0) 0 [] rfl (Xr _ _ _ _) a F.length cp (F.map (ZR .i64)) rfl ZI (fun h0=>by obtain ⟨ad,e,_,hc⟩:=HI.out.2.2 h0; exact ⟨ad,e,hc⟩) HI.out.2.1 UH Zm HB.out.size ?_; intro v2 w2 sY TT O5);have HP:Hid (w2.ownsRow w.heap.size 3 1 v2 F.length (F.map (ZR .i64))∧Zs w.heap.size w w2):=Za ⟨by simpa using sY,HB.out.grown TT HB.out.size (fun q hq=>by cases hq)⟩;clear sY TT O5 HO HB HI;go_wp2_with fail;rw [YT];go_wp2_with fail;go_ret;exact ⟨_,rfl,HP.out.1,HP.out.2⟩
theorem jN (h:Ln w b S n F V) :Zj Zb 238 #[.pointer (some ⟨b,0,none⟩),.int .i64 1] w (Hi w (F++V)):=by
 obtain ⟨j0,aI,BM,BG,Mn⟩:=LK;obtain ⟨f,v,gf,gv,h1,h2⟩:=h;have x0:=h1.cells.1;have H1:=Za h1;have HF:=Za (NG h1.2.1);have hs:=h1.2.1.size_le;have ht:=h1.2.2.1.size_le;clear h1 h2;go_enter Tryz.func238,Tryz.ntmps238;go_wp2_with fail;refine (has_yes _ _ _ (.inr rfl)).mono ?_;rintro e w' ⟨rfl,rfl⟩;go_wp2_with fail;refine QC 3 ?_;rw [YT];go_wp2_with fail;refine HF.out.mono ?_;rintro e w1 ⟨u,rfl,ho,hb⟩;have HO:=Za ho;have HB:=Za hb;obtain ⟨a,cp,rfl,_,_,_,hi⟩:=VU (S:=fun _=>False) ho (fun _ _ h=>h);have HI:=Za hi.src;clear hi ho hb HF x0;go_wp2_with (at_builtin; refine X7 _ rfl (.tmp 23) (.tmp 25) 47 rfl w.heap.size 3 j0 _ 1 8 YI aI BM BG Mn rfl Nat.one_pos (.slice none 0 0) 0 [] rfl (Xr _ _ _ _) a F.length cp (F.map (ZR .i64)) rfl ZI (fun h0=>by obtain ⟨ad,e,_,hc⟩:=HI.out.2.2 h0; exact ⟨ad,e,hc⟩) HI.out.2.1 UH Zm HB.out.size ?_; intro v2 w2 sY TT O5);have HP:Hid (w2.ownsRow w.heap.size 3 1 v2 F.length (F.map (ZR .i64))∧Zs w.heap.size w w2):=Za ⟨by simpa using sY,HB.out.grown TT HB.out.size (fun q hq=>by cases hq)⟩;have KP:Kept (fun _=>False) w w2:=YP HP.out.2;have x1:=KP.cell (fun h=>h) H1.out.cells.2;have HV:=Za (NG (H1.out.2.2.1.kept KP (fun _ _ h=>h)));clear sY TT O5 HO HB HI KP;go_wp2_with fail;rw [YT];go_wp2_with fail;refine HV.out.mono ?_;rintro e w3 ⟨u,rfl,ho,hb⟩;have HO:=Za (show w3.ownsRow w.heap.size 3 1 v2 F.length (F.map (ZR .i64))∧Zs w.heap.size w w3 from ⟨e7 HP.out.1 hb,HP.out.2.trans (hb.mono HP.out.2.size)⟩);obtain ⟨a,cp,rfl,_,_,_,hi⟩:=VU (S:=fun _=>False) ho (fun _ _ h=>h);have HI:=Za hi.src;clear hi ho hb HV x1;go_wp2_with (at_builtin; refine X7 _ rfl (.tmp 23) (.tmp 25) 47 rfl w.heap.size 3 j0 _ 1 8 YI aI BM BG Mn rfl Nat.one_pos v2 F.length (F.map (ZR .i64)) rfl HO.out.1 a V.length cp (V.map (ZR .i64)) rfl ZI (fun h0=>by obtain ⟨ad,e,_,hc⟩:=HI.out.2.2 h0; exact ⟨ad,e,hc⟩) HI.out.2.1 UH Zm HO.out.2.size ?_; intro v4 w4 ho4 hg4 hv4);have HQ:Hid (w4.ownsRow w.heap.size 3 1 v4 (F++V).length ((F++V).map (ZR .i64))∧Zs w.heap.size w w4):=Za ⟨by simpa using ho4,IW HO.out.2 HO.out.2.size hg4 HO.out.1⟩;clear ho4 hg4 hv4 HO HI HP H1;go_wp2_with fail;rw [YT];go_wp2_with fail;go_ret;exact ⟨_,rfl,HQ.out.1,HQ.out.2⟩
theorem jM (c:Int)(h:Ln w b S n F V) :Zj Zb 238 #[.pointer (some ⟨b,0,none⟩),.int .i64 c] w (Hi w (KK F V c)):=by
 by_cases c0:c=0
 ·subst c0; exact dn h
 ·by_cases c1:c=1
  ·subst c1; exact jN h
  ·rw [KK,if_neg c0,if_neg c1];exact (nC c w Zm).mono fun e w' ⟨he,hw⟩=>⟨_,he,Xr _ _ _ _,hw▸Zp _ _⟩
end
end
section
def DK (om:Int→Int) :List Int→List Int→Int→List (Int × Int) × List Int × List Int × Int
 | [],[],B=>([],[],[],B)
 | [],x::V,B=>if om x≤B then((x,1)::(DK om [] V (B - om x)).1,(DK om [] V (B - om x)).2) else([],[],x::V,B)
 | x::F,V,B=>if om x≤B then((x,0)::(DK om F V (B - om x)).1,(DK om F V (B - om x)).2) else([],x::F,V,B)
termination_by F V=>F.length+V.length
section
variable {om:Int→Int} {F V:List Int} {B:Int}
theorem IN (h:Iw F V=false) :DK om F V B=([],F,V,B)∧F=[]∧V=[]:=by
 rcases F with _ | ⟨x,F⟩
 ·rcases V with _ | ⟨y,V⟩
  ·exact ⟨by rw [DK],rfl,rfl⟩
  ·cases h
 ·cases h
theorem IQ (h:Iw F V=true)(hx: ¬om (PI F V)≤B) :DK om F V B=([],F,V,B):=by
 rcases F with _ | ⟨x,F⟩
 ·rcases V with _ | ⟨y,V⟩
  ·cases h
  ·simp only [PI] at hx; rw [DK,if_neg hx]
 ·simp only [PI] at hx; rw [DK,if_neg hx]
theorem IM (h:Iw F V=true)(hx:om (PI F V)≤B) :DK om F V B=((PI F V,pk F V)::(DK om (FF F) (FG F V) (B - om (PI F V))).1,(DK om (FF F) (FG F V) (B - om (PI F V))).2):=by
 rcases F with _ | ⟨x,F⟩
 ·rcases V with _ | ⟨y,V⟩
  ·cases h
  ·simp only [PI] at hx; rw [DK,if_pos hx]; rfl
 ·simp only [PI] at hx; rw [DK,if_pos hx]; rfl
theorem CN (h:Iw F V=true) :(FF F).length+(FG F V).length+1=F.length+V.length:=by
 rcases F with _ | ⟨x,F⟩
 ·rcases V with _ | ⟨y,V⟩
  ·cases h
  ·simp [FF,FG]
 ·simp [FF,FG]; omega
theorem qE (F V:List Int) :(FF F).length≤F.length∧(FG F V).length≤V.length:=by
 rcases F with _ | ⟨x,F⟩
 ·rcases V with _ | ⟨y,V⟩<;> simp [FF,FG]
 ·simp [FF,FG]
end
theorem LH {om:Int→Int}{P:List Int→List Int→Int→List (Int × Int) × List Int × List Int × Int→Prop}(hnone: ∀B,P [] [] B ([],[],[],B))
  (pH: ∀F V B,Iw F V=true→ ¬om (PI F V)≤B→P F V B ([],F,V,B))
  (hnext: ∀F V B r,Iw F V=true→om (PI F V)≤B→P (FF F) (FG F V) (B - om (PI F V)) r→P F V B ((PI F V,pk F V)::r.1,r.2)) : ∀(n:Nat) (F V:List Int) (B:Int),F.length+V.length=n→P F V B (DK om F V B):=by
 intro n
 induction n with
 | zero=>
  intro F V B h;obtain rfl:=ZU (show F.length=0 by omega);obtain rfl:=ZU (show V.length=0 by omega);rw [(IN rfl).1];exact hnone B
 | succ n ih=>
  intro F V B h;have hb:Iw F V=true:=by
   rcases F with _ | ⟨x,F⟩
   ·rcases V with _ | ⟨y,V⟩
    ·simp at h
    ·rfl
   ·rfl
  by_cases hx:om (PI F V)≤B
  ·rw [IM hb hx];exact hnext F V B _ hb hx (ih _ _ _ (by have:=CN hb; omega))
  ·rw [IQ hb hx];exact pH F V B hb hx
def C8 (om:Int→Int) :List (Int × Int)→Int
 | []=>0
 | p::l=>om p.1+C8 om l
section
variable {om:Int→Int}
theorem cF (h: ∀i,0≤om i)(l:List (Int × Int)) :0≤C8 om l:=by
 induction l with
 | nil=>simp [C8]
 | cons p l ih=>simp only [C8]; have:=h p.1; omega
theorem uh (om:Int→Int)(F V:List Int)(B:Int) :(DK om F V B).2.2.2=B - C8 om (DK om F V B).1:=
 LH (P:=fun F V B r=>r.2.2.2=B - C8 om r.1) (fun B=>by simp [C8]) (fun F V B _ _=>by simp [C8]) (fun F V B r _ _ h=>by simp only [C8,h]; omega) _ F V B rfl
theorem nJ (om:Int→Int)(F V:List Int)(B:Int)(h0:0≤B) :0≤(DK om F V B).2.2.2:=
 LH (P:=fun F V B r=>0≤B→0≤r.2.2.2) (fun B h=>h) (fun F V B _ _ h=>h) (fun F V B r _ hx h h0=>h Zm) _ F V B rfl h0
theorem gV (om:Int→Int)(F V:List Int)(B:Int) :(DK om F V B).1.length+(DK om F V B).2.1.length+(DK om F V B).2.2.1.length=F.length+V.length:=
 LH (P:=fun F V B r=>r.1.length+r.2.1.length+r.2.2.1.length=F.length+V.length) (fun B=>rfl) (fun F V B _ hx=>by simp) (fun F V B r hb hx h=>by have:=CN hb; simp; omega) _ F V B rfl
end
end
section
open Go Go.RowKit
def PO (ep:Int)(l:List (Int × Int)) :List Zl:=l.flatMap fun p=> [.int .i64 p.1,.int .i64 p.2,.int .i64 ep]
theorem lT (ep:Int)(l:List (Int × Int))(p:Int × Int) :PO ep (l++[p])=PO ep l++[.int .i64 p.1,.int .i64 p.2,.int .i64 ep]:=by simp [PO]
theorem ug: ∃i,Tryz.prog.info? 71=some i∧i.zero=some (.agg #[.int .i64 0,.int .i64 0,.int .i64 0])∧i.size=3∧i.bytes=24:=by
 have h:(Tryz.prog.info? 71).map (fun i=>(i.zero,i.size,i.bytes))=some (some (.agg #[.int .i64 0,.int .i64 0,.int .i64 0]),3,24):=by kernel_rfl
 cases hi:Tryz.prog.info? 71 with
 | none=>rw [hi] at h; cases h
 | some i=>
  rw [hi] at h;simp at h;exact ⟨i,rfl,h.1,h.2.1,h.2.2⟩
theorem Wj {w:Zc}{base n size:Nat}{e:ZN}{v:Zl}{xs:List Zl}(h:w.ownsRow base e size v n xs) : ∃a cp,v= .slice a n cp:=by
 exact rN
def BC (w:Zc)(b m nn:Nat)(S:Nat→Prop)(Sp B0 D ep:Int)(wr:Zc)(v:Zl)(out:List (Int × Int))(F V:List Int)(B:Int) :Prop:=
 ∃S1 T1,Ln wr b S1 nn F V∧(∀i,S1 i→S i∨w.heap.size≤i)∧ ¬S1 m∧Vd wr m B (Sp+(B0 - B)) T1 D∧Jq B (Sp+(B0 - B)) T1 D∧
  wr.ownsRow w.heap.size 71 3 v out.length (PO ep out)∧(∀g,v.ownBlock=some g→ ¬S1 g)∧Kept (fun i=>i=m∨S i) w wr∧m < w.heap.size
section
variable {w wr w':Zc} {b m nn:Nat} {S:Nat→Prop} {Sp B0 D ep B x:Int} {v:Zl} {out:List (Int × Int)} {F V:List Int}
theorem BC.drewN (h:BC w b m nn S Sp B0 D ep wr v out F V B)(q:Nat) :BC w b m nn S Sp B0 D ep (wr.drewN q) v out F V B:=by
 obtain ⟨S1,T1,h1,h2,h3,h4,h5,h6,h7,h8,h9⟩:=h;exact ⟨S1,T1,h1,h2,h3,h4,h5,h6,h7,h8.drewN q,h9⟩
theorem BC.head (h:BC w b m nn S Sp B0 D ep wr v out F V B) :Zj Zb 291 #[.pointer (some ⟨b,0,none⟩)] wr fun e w'=>e= .returned (.tuple #[.int .i64 (PI F V),.int .i64 (pk F V),.bool (Iw F V)])∧ ∃q,w'=wr.drewN q:=by
 obtain ⟨S1,T1,h1,_⟩:=h;exact Sh h1
theorem BC.refuse (h:BC w b m nn S Sp B0 D ep wr v out F V B)(hx: ¬x≤B) :Zj Zb 290 #[.pointer (some ⟨m,0,none⟩),.int .u64 x] wr fun e w'=>e= .returned (.bool false)∧ ∃q,w'=wr.drewN q:=by
 obtain ⟨S1,T1,h1,h2,h3,h4,h5,_⟩:=h;exact xn m _ _ _ _ x wr h4 h5 Zm
theorem BC.take (h:BC w b m nn S Sp B0 D ep wr v out F V B)(x0:0≤x)(hx:x≤B) :Zj Zb 290 #[.pointer (some ⟨m,0,none⟩),.int .u64 x] wr fun e w'=>e= .returned (.bool true)∧Hid (BC w b m nn S Sp B0 D ep w' v out F V (B - x)):=by
 obtain ⟨S1,T1,h1,h2,h3,h4,h5,h6,h7,h8,h9⟩:=h;obtain ⟨T',hT,hN,hG,hb⟩:=xk h5 x0 hx;refine (rn m _ _ _ _ T' x wr h4 h5 hx hT hG hb).mono ?_;rintro e w' ⟨he,hm,hg⟩;have k:Kept (fun i=>i=m) wr w':=Xu hg (fun i e=>by injection e);have es:Sp+(B0 - B)+x=Sp+(B0 -(B - x)):=by omega
 rw [es] at hm hN;exact ⟨he,Za ⟨S1,T',h1.kept k (fun i hi e=>h3 Il),h2,h3,hm,hN,EX h6 k (fun g hg e=>by have:=(h6.lt g hg).1; have:g=m:=e; omega),h7,h8.trans k (fun i _ e=> .inl e),h9⟩⟩
theorem BC.pop (h:BC w b m nn S Sp B0 D ep wr v out F V B) :Zj Zb 311 #[.pointer (some ⟨b,0,none⟩)] wr fun e w'=>e= .returned (.tuple #[.int .i64 (PI F V),.int .i64 (pk F V),.bool (Iw F V)])∧Hid (BC w b m nn S Sp B0 D ep w' v out (FF F) (FG F V) B):=by
 obtain ⟨S1,T1,h1,h2,h3,h4,h5,h6,h7,h8,h9⟩:=h;refine (wg h1).mono ?_;rintro e w' ⟨he,S2,hl,hg⟩;have new: ∀i,i < wr.heap.size→ ¬S1 i→ ¬S2 i:=fun i hi hn hs=>(hg.2 i hs).elim hn (fun h=>by omega)
 refine ⟨he,Za ⟨S2,T1,hl,fun i hi=>?_,new m (Nat.lt_of_lt_of_le h9 h8.size) h3,Blk.kept (w:=wr) h4 hg.1 h3,h5,EX h6 hg.1 h7,fun g hg'=>new g (h6.lt g hg').2 (h7 g hg'),h8.trans hg.1 (fun i hi h=>(h2 i h).elim .inr (fun h=>by omega)),h9⟩⟩
 rcases hg.2 i hi with h | h
 ·exact h2 i h
 ·exact .inr (Z9 h8.size h)
theorem BC.alloc (h:BC w b m nn S Sp B0 D ep wr v out F V B)(o:Obj) :BC w b m nn S Sp B0 D ep (wr.alloc o) v out F V B:=by
 obtain ⟨S1,T1,h1,h2,h3,h4,h5,h6,h7,h8,h9⟩:=h;have k:Kept (fun _=>False) wr (wr.alloc o):=(ZH _ _).alloc o;exact ⟨S1,T1,h1.kept k (fun _ _ h=>h),h2,h3,YA h4 o,h5,h6.alloc _,h7,h8.alloc o,h9⟩
theorem BC.app {v':Zl}{p:Int × Int}(h:BC w b m nn S Sp B0 D ep wr v out F V B)(ho:w'.ownsRow w.heap.size 71 3 v' (out.length+1) (PO ep out++[.int .i64 p.1,.int .i64 p.2,.int .i64 ep]))(hg:wr.grownBy w' v.ownBlock)
  (ha:v'.ownBlock=v.ownBlock∨v'.ownBlock=some wr.heap.size) :BC w b m nn S Sp B0 D ep w' v' (out++[p]) F V B:=by
 obtain ⟨S1,T1,h1,h2,h3,h4,h5,h6,h7,h8,h9⟩:=h;have k:Kept (fun i=>some i=v.ownBlock) wr w':=Xu hg (fun i e=>e);refine ⟨S1,T1,h1.kept k (fun i hi e=>h7 i (Eq.symm e) hi),h2,h3,Blk.kept (w:=wr) h4 k (fun e=>by have:=(h6.lt m (Eq.symm e)).1; omega),h5,by rw [lT]; simpa using ho,fun g hg'=>?_,h8.trans k (fun i hi e=>by have:=(h6.lt i (Eq.symm e)).1; omega),h9⟩
 rcases ha with ha | ha
 ·exact h7 g (ha▸hg')
 ·rw [ha] at hg';injection hg' with hg';exact fun hs=>by have:=h1.lt g hs; omega
end
def ZdY (w:Zc)(g:Nat)(l:List Zl) :Prop:=(0 < 1→ ∃ad,some (⟨g,0,none⟩ :Addr)=some ad∧ ∀j u,l[j]?=some u→w.cell? (ad.add j)=some u)∧ ∀u ∈ l,u.oneCell'=true
theorem re (w:Zc)(t:ZN)(x y z:Int) :ZdY (w.alloc (.cells #[.int .i64 x,.int .i64 y,.int .i64 z] t)) w.heap.size [.int .i64 x,.int .i64 y,.int .i64 z]:=by
 refine ⟨fun _=>⟨_,rfl,fun j u hj=>?_⟩,fun u hu=>?_⟩
 ·rw [add_plain,ZX,(Zv w t #[.int .i64 x,.int .i64 y,.int .i64 z]).cell];simpa using hj
 ·simp at hu;exact jD
def M5 (w:Zc)(b m nn:Nat)(S:Nat→Prop)(Sp B0 D ep:Int)(om:Int→Int)(F V:List Int)(e:Ending)(w':Zc) :Prop:=
 ∃a c,e= .returned (.slice a (DK om F V B0).1.length c)∧Hid (BC w b m nn S Sp B0 D ep w' (.slice a (DK om F V B0).1.length c) (DK om F V B0).1 (DK om F V B0).2.1 (DK om F V B0).2.2.1 (DK om F V B0).2.2.2)
section
variable {w:Zc} {b m nn:Nat} {S:Nat→Prop} {B Sp T D ep:Int} {F V L:List Int} {wa:Option Addr} {cap:Nat}
theorem bO (hl:Ln w b S nn F V)(hm:Vd w m B Sp T D)(hF:Jq B Sp T D)(hn: ¬S m)(hu:NY w (fun i=>i=m∨S i) wa L)(hL:L.length≤9223372036854775807)(hA:LZ L) :
  Zj Zb 289 #[.int .i64 ep,.pointer (some ⟨b,0,none⟩),.slice wa L.length cap,.func (.func 290) #[.pointer (some ⟨m,0,none⟩)] #[]] w (M5 w b m nn S Sp B D ep (KM L) F V):=by
 obtain ⟨j0,aI,BM,BG,Mn⟩:=ug;have Er:=hl.size;have HU:=Za hu;have HA:=Za hA;have HL:=Za hL;have py:=Blk.lt hm;have H0:Hid (BC w b m nn S Sp B D ep w (.slice none 0 0) [] F V B):=Za ⟨S,T,hl,fun i hi=> .inl hi,hn,by rw [show Sp+(B - B)=Sp by omega]; exact hm,by rw [show Sp+(B - B)=Sp by omega]; exact hF,Xr _ _ _ _,(fun g hg=>by cases hg),ZH _ _,py⟩;have HN:Hid (F.length+V.length≤2097152):=Za Zm;clear hl hm hF hn hu hA Er py hL;go_enter Tryz.func289,Tryz.ntmps289;go_wp2;go_loopg [9] (F.length+V.length) (fun g s9 wr=> ∃(F1 V1:List Int) (B1:Int) (out:List (Int × Int)) (k:Nat) (a:Option Addr) (c:Nat),F1.length+V1.length=g∧s9= .slice a k c∧Hid (k=out.length∧k+g≤2097152)∧
  Hid (BC w b m nn S Sp B D ep wr (.slice a k c) out F1 V1 B1)∧Hid (DK (KM L) F V B=(out++(DK (KM L) F1 V1 B1).1,(DK (KM L) F1 V1 B1).2)))
 case atStart=>exact ⟨F,V,B,[],0,none,0,rfl,rfl,Za ⟨rfl,by have:=HN.out; omega⟩,H0,Za rfl⟩
 case round=>
  clear H0 HN;obtain ⟨F1,V1,B1,out,k,a,c,hg,rfl,HK,HP,HE⟩:=hrel;have HG:=Za hg;clear hg;go_wp2_with fail;refine HP.out.head.mono ?_;rintro e w1 ⟨rfl,q,rfl⟩;have yg:=Za (HP.out.drewN q);have HU1:Hid (NY (wr.drewN q) (fun i=>i=m∨S i) wa L):=Za (by
   obtain ⟨_,_,_,_,_,_,_,_,_,k8,_⟩:=yg.out;exact HU.out.kept k8 (fun _ _ h=>h))
  clear HP;generalize wr.drewN q=w1 at*
  cases hb:Iw F1 V1
  ·have HR:Hid (M5 w b m nn S Sp B D ep (KM L) F V (.returned (.slice a k c)) w1):=Za (by
    have e1:=HE.out;rw [(IN hb).1,XH] at e1;refine ⟨a,c,by rw [e1]; simp only [HK.out.1],?_⟩;rw [e1];have:=yg.out;rw [HK.out.1] at this;exact Za this)
   clear yg HU1 HE HK;have HB:=Za hb;clear hb;go_wp2;try rw [Gq]
   go_ret;exact HR.out
  ·have HB:=Za hb;clear hb;obtain ⟨x,hx⟩ : ∃x,KM L (PI F1 V1)=x:=⟨_,rfl⟩;have hi:=fun w h=>Tx (S:=fun i=>i=m∨S i) (a:=wa) cap (PI F1 V1) w h HL.out
   rw [hx] at hi;have HI:=Za hi;have HX:=Za hx;have ej:=NO HA.out (PI F1 V1);rw [hx] at ej;have HX0:=Za ej;clear hi hx ej
   by_cases hle:x≤B1
   ·have HT:=Za (yg.out.take HX0.out.1 hle);have Hh:Hid (DK (KM L) F V B=((out++[(PI F1 V1,pk F1 V1)])++(DK (KM L) (FF F1) (FG F1 V1) (B1 - x)).1,(DK (KM L) (FF F1) (FG F1 V1) (B1 - x)).2)):=Za (by
     have e1:=HE.out;rw [IM HB.out (by rw [HX.out]; exact hle),HX.out] at e1;rw [e1]; simp)
    have sJ:Hid ((FF F1).length+(FG F1 V1).length+1=gk):=Za (by have:=CN HB.out; have:=HG.out; omega);clear hle HE HX HX0 yg;go_wp2_with fail;refine (HI.out _ HU1.out).mono ?_;rintro e w' ⟨rfl,rfl⟩;go_wp2_with fail;refine HT.out.mono ?_;rintro e w2 ⟨rfl,yh⟩;clear HT HI HU1;go_wp2_with fail;refine yh.out.pop.mono ?_;rintro e w3 ⟨rfl,HP3⟩;clear yh;generalize FF F1=F2 at*;generalize FG F1 V1=V2 at*;generalize PI F1 V1=ix at*;generalize pk F1 V1=ic at*;generalize Iw F1 V1=ib at*;have HP4:Hid (BC w b m nn S Sp B D ep (w3.alloc (.cells #[.int .i64 ix,.int .i64 ic,.int .i64 ep] 71)) (.slice a k c) out F2 V2 (B1 - x)):=Za (HP3.out.alloc _);have Pz:Hid ((w3.alloc (.cells #[.int .i64 ix,.int .i64 ic,.int .i64 ep] 71)).ownsRow w.heap.size 71 3 (.slice a k c) k (PO ep out)∧w.heap.size≤w3.heap.size):=Za (by
     obtain ⟨_,_,_,_,_,_,_,k6,_,k8,_⟩:=HP4.out;obtain ⟨_,_,_,_,_,_,_,_,_,k8',_⟩:=HP3.out;exact ⟨by rw [←HK.out.1] at k6; exact k6,k8'.size⟩)
    have hkb:k≤2097152:=by have:=HK.out.2; omega
    clear HP3;have HN1:Hid (ZdY (w3.alloc (.cells #[.int .i64 ix,.int .i64 ic,.int .i64 ep] 71)) w3.heap.size [.int .i64 ix,.int .i64 ic,.int .i64 ep]):=Za (re w3 _ ix ic ep);go_wp2_with (at_builtin; refine X7 _ rfl (.tmp 32) (.tmp 37) 39 rfl w.heap.size 71 j0 _ 3 24 Tryz.underlying39 aI BM BG Mn rfl YU (.slice a k c) k (PO ep out) rfl Pz.out.1 (some ⟨w3.heap.size,0,none⟩) 1 1 [.int .i64 ix,.int .i64 ic,.int .i64 ep] rfl rfl HN1.out.1 HN1.out.2 UH Zm (by have:=Pz.out.2; simp; omega) ?_);intro v' w5 ho5 hg5 ha5;have HP5:Hid (BC w b m nn S Sp B D ep w5 v' (out++[(ix,ic)]) F2 V2 (B1 - x)):=Za (HP4.out.app (p:=(ix,ic)) (by rw [←HK.out.1]; exact ho5) hg5 (by simpa using ha5));obtain ⟨a5,c5,rfl⟩:=Wj ho5;have HK5:Hid (k+1=(out++[(ix,ic)]).length∧k+1+(gk - 1)≤2097152):=Za ⟨by rw [List.length_append,HK.out.1]; rfl,by have:=HK.out.2; have:=sJ.out; omega⟩;have HGG:Hid (F2.length+V2.length=gk - 1∧0 < gk):=Za (by have:=sJ.out; omega);clear ho5 hg5 ha5 HP4 Pz HK HG sJ hkb HN1;go_wp2;go_roundg (gk - 1)
    case measure=>have:=HGG.out.2; omega
    case rel=>exact ⟨F2,V2,B1 - x,out++[(ix,ic)],k+1,a5,c5,HGG.out.1,rfl,HK5,HP5,Hh⟩
   ·have HT:=Za (yg.out.refuse hle);have HR:Hid (∀q,M5 w b m nn S Sp B D ep (KM L) F V (.returned (.slice a k c)) (w1.drewN q)):=Za (fun q=>by
     have e1:=HE.out;rw [IQ HB.out (by rw [HX.out]; exact hle),XH] at e1;refine ⟨a,c,by rw [e1]; simp only [HK.out.1],?_⟩;rw [e1];have:=yg.out.drewN q;rw [HK.out.1] at this;exact Za this)
    clear yg HE HK HX;go_wp2_with fail;refine (HI.out _ HU1.out).mono ?_;rintro e w' ⟨rfl,rfl⟩;go_wp2_with fail;refine HT.out.mono ?_;rintro e w2 ⟨rfl,q2,rfl⟩;clear HT HI HU1;go_wp2;try rw [Gq]
    go_ret;exact HR.out _
end
end
section
open Go Go.RowKit
def gr (B x:Int) :Int:=B+(if 18446744073709551615 - B < x then 18446744073709551615 - B else x)
def Fc (om:Int→Int)(F V:List Int)(B x:Int) :List (Int × Int) × List Int × List Int × Int:=DK om F V (gr B x)
def EK (r:List (Int × Int) × List Int × List Int × Int) :Int:=if Iw r.2.1 r.2.2.1=true then r.2.2.2 else 0
def PB (w:Zc)(b m nn:Nat)(S:Nat→Prop)(ep:Int)(wr:Zc)(v:Zl)(out:List (Int × Int))(F V:List Int)(B Sp:Int) :Prop:=
 ∃S1 T1 D1,Ln wr b S1 nn F V∧(∀i,S1 i→S i∨w.heap.size≤i)∧ ¬S1 m∧Vd wr m B Sp T1 D1∧Jq B Sp T1 D1∧
  wr.ownsRow w.heap.size 71 3 v out.length (PO ep out)∧(∀g,v.ownBlock=some g→ ¬S1 g)∧Kept (fun i=>i=m∨S i) w wr∧m < w.heap.size
theorem CJ {w:Zc}{base yp n size:Nat}{e:ZN}{v:Zl}{xs:List Zl}(h:w.ownsRow base e size v n xs)(hb:yp≤base) :w.ownsRow yp e size v n xs:=by
 obtain ⟨h1,h2⟩:=h;refine ⟨h1,?_⟩
 rcases h2 with h2 | ⟨g,cap,cur,rfl,h3,h4⟩
 ·exact .inl h2
 ·exact .inr ⟨g,cap,cur,rfl,Z9 hb h3,h4⟩
section
variable {w w1 wr w':Zc} {b m nn:Nat} {S:Nat→Prop} {Sp B0 D ep B x:Int} {v:Zl} {out:List (Int × Int)} {F V:List Int}
theorem BC.to (h:BC w1 b m nn S Sp B0 D ep wr v out F V B)(k:Kept (fun i=>i=m∨S i) w w1)(hm:m < w.heap.size) :PB w b m nn S ep wr v out F V B (Sp+(B0 - B)):=by
 obtain ⟨S1,T1,h1,h2,h3,h4,h5,h6,h7,h8,h9⟩:=h;exact ⟨S1,T1,D,h1,fun i hi=>(h2 i hi).imp id (fun h=>Z9 k.size h),h3,h4,h5,CJ h6 k.size,h7,k.trans h8 (fun _ _ h=>h),hm⟩
theorem PB.drewN (h:PB w b m nn S ep wr v out F V B Sp)(q:Nat) :PB w b m nn S ep (wr.drewN q) v out F V B Sp:=by
 obtain ⟨S1,T1,D1,h1,h2,h3,h4,h5,h6,h7,h8,h9⟩:=h;exact ⟨S1,T1,D1,h1,h2,h3,h4,h5,h6,h7,h8.drewN q,h9⟩
theorem PB.head (h:PB w b m nn S ep wr v out F V B Sp) :Zj Zb 291 #[.pointer (some ⟨b,0,none⟩)] wr fun e w'=>e= .returned (.tuple #[.int .i64 (PI F V),.int .i64 (pk F V),.bool (Iw F V)])∧ ∃q,w'=wr.drewN q:=by
 obtain ⟨S1,T1,D1,h1,_⟩:=h;exact Sh h1
theorem PB.drop (h:PB w b m nn S ep wr v out F V B Sp) :Zj Zb 292 #[.pointer (some ⟨m,0,none⟩)] wr fun e w'=>e= .returned (.int .u64 B)∧Hid (PB w b m nn S ep w' v out F V 0 Sp):=by
 obtain ⟨S1,T1,D1,h1,h2,h3,h4,h5,h6,h7,h8,h9⟩:=h;obtain ⟨D',hD,hN,hG⟩:=uF h5;refine (ow m _ _ _ _ D' wr h4 h5 hD hG).mono ?_;rintro e w' ⟨he,hm,hg⟩;have k:Kept (fun i=>i=m) wr w':=Xu hg (fun i e=>by injection e);exact ⟨he,Za ⟨S1,T1,D',h1.kept k (fun i hi e=>h3 Il),h2,h3,hm,hN,EX h6 k (fun g hg e=>by have:=(h6.lt g hg).1; have:g=m:=e; omega),h7,h8.trans k (fun i _ e=> .inl e),h9⟩⟩
end
def Ry (w:Zc)(b m nn:Nat)(S:Nat→Prop)(om:Int→Int)(F V:List Int)(B x ep:Int)(e:Ending)(w':Zc) :Prop:=
 ∃a c,e= .returned (.slice a (Fc om F V B x).1.length c)∧Hid (PB w b m nn S ep w' (.slice a (Fc om F V B x).1.length c) (Fc om F V B x).1 (Fc om F V B x).2.1 (Fc om F V B x).2.2.1 (EK (Fc om F V B x)) (gr B x -(Fc om F V B x).2.2.2))
section
variable {w:Zc} {b m nn:Nat} {S:Nat→Prop} {B Sp T D x ep:Int} {F V L:List Int} {wa:Option Addr} {cap:Nat}
theorem rf (hl:Ln w b S nn F V)(hm:Vd w m B Sp T D)(hF:Jq B Sp T D)(hn: ¬S m)(hu:NY w (fun i=>i=m∨S i) wa L)(hL:L.length≤9223372036854775807)(hA:LZ L)(hx:0≤x)(aG:0≤ep)(vf:ep≤1099511627776) :
  Zj Zb 257 #[.int .i64 ep,.pointer (some ⟨b,0,none⟩),.pointer (some ⟨m,0,none⟩),.int .u64 x,.slice wa L.length cap] w (Ry w b m nn S (KM L) F V B x (ep+1)):=by
 obtain ⟨p,hp,hG,hN,hb,_⟩:=oW hF hx;have yL:B+p=gr B x:=by rw [gr,hp]
 have Ix: ∀(fn:Fn) (first cap:Array Zl) (w:Zc),(Jm fn first cap).run Zb w= .ok (.func fn first cap) w:=fun _ _ _ _=>rfl
 have HG:=Za ((kK m B Sp T D x p w hm hF hp hG hN hb).mono (R':=fun e w'=>e= .returned (.int .u64 (B+p))∧Hid (Kept (fun i=>i=m) w w'∧Zj Zb 289 #[.int .i64 (ep+1),.pointer (some ⟨b,0,none⟩),.slice wa L.length cap,.func (.func 290) #[.pointer (some ⟨m,0,none⟩)] #[]] w' (M5 w' b m nn S 0 (B+p) D (ep+1) (KM L) F V)))
  (fun e w' ⟨he,hm',hg⟩=>⟨he,Za (by
   have k:Kept (fun i=>i=m) w w':=Xu hg (fun i e=>by injection e);exact ⟨k,bO (hl.kept k (fun i hi e=>hn Il)) hm' hN hn (hu.kept k (fun i _ e=> .inl e)) hL hA⟩)⟩))
 have py:=Blk.lt hm;rw [yL] at HG;have HM:=Za py;clear hl hm hF hn hu hA hL py hp hG hN hb yL hx;go_enter Tryz.func257,Tryz.ntmps257;go_wp2_with fail;refine HG.out.mono ?_;rintro e w1 ⟨rfl,HP⟩;clear HG;go_wp2_with fail;refine HP.out.2.mono ?_;rintro e w2 ⟨a,c,he,H2⟩;change e= .returned (.slice a (Fc (KM L) F V B x).1.length c) at he;subst he;have H3:Hid (PB w b m nn S (ep+1) w2 (.slice a (Fc (KM L) F V B x).1.length c) (Fc (KM L) F V B x).1 (Fc (KM L) F V B x).2.1 (Fc (KM L) F V B x).2.2.1 (Fc (KM L) F V B x).2.2.2 (gr B x -(Fc (KM L) F V B x).2.2.2)):=Za (by
  have:=H2.out.to (w:=w) (HP.out.1.more (fun i _ e=> .inl e)) HM.out;rw [Int.zero_add] at this;exact this)
 clear H2 HP Ix;have HR:Hid (∀w',PB w b m nn S (ep+1) w' (.slice a (Fc (KM L) F V B x).1.length c) (Fc (KM L) F V B x).1 (Fc (KM L) F V B x).2.1 (Fc (KM L) F V B x).2.2.1 (EK (Fc (KM L) F V B x)) (gr B x -(Fc (KM L) F V B x).2.2.2)→Ry w b m nn S (KM L) F V B x (ep+1) (.returned (.slice a (Fc (KM L) F V B x).1.length c)) w'):=Za (fun w' h=>⟨a,c,rfl,Za h⟩);have O0:EK (Fc (KM L) F V B x)=if Iw (Fc (KM L) F V B x).2.1 (Fc (KM L) F V B x).2.2.1=true then(Fc (KM L) F V B x).2.2.2 else 0:=rfl
 generalize EK (Fc (KM L) F V B x)=bl at*;generalize Ry w b m nn S (KM L) F V B x (ep+1)=Q at*;generalize gr B x -(Fc (KM L) F V B x).2.2.2=sp at*;generalize (Fc (KM L) F V B x).1.length=nl at*;generalize Fc (KM L) F V B x=r at*;obtain ⟨out,F2,V2,B2⟩:=r
 dsimp only at*
 have HB:=Za O0;clear O0;go_wp2_with fail;refine H3.out.head.mono ?_;rintro e w3 ⟨rfl,q,rfl⟩;have H4:=Za (H3.out.drewN q);clear H3;generalize w2.drewN q=w3 at*
 cases hb:Iw F2 V2
 ·have HD:=Za H4.out.drop;rw [hb] at HB;clear hb H4;go_wp2_with fail;refine HD.out.mono ?_;rintro e w4 ⟨rfl,H5⟩;have H6:=Za (HR.out w4 (by rw [HB.out]; exact H5.out));clear HR HD H5 HB;go_wp2;exact H6.out
 ·rw [hb] at HB;have H6:=Za (HR.out w3 (by rw [HB.out]; exact H4.out));clear HR HB hb H4;go_wp2;exact H6.out
end
end
section
open Go Go.RowKit
structure Good (c:Nat→Int) :Prop where
 cap0:1≤c 0
 cap1:c 0≤4096
 part:0≤c 16
 vis0:c 16 < c 14
 pay0:c 16 < c 15
 vis1:c 14≤4096
 pay1:c 15≤4096
 chu0:1≤c 7
 chu1:c 7≤1152921504606846976
 fcp0:0≤c 9
 fcp1:c 9≤1152921504606846976
 unb0:1≤c 10
 unb1:c 10≤1048576
 sla0:c 10 < c 11
 sla1:c 11≤1048576
 len0:1≤c 13
 Vu:c 13≤4096
theorem VE {v lo hi:Int}(h:Me v lo hi=true) :lo≤v∧v≤hi:=by unfold Me at h; simpa using h
theorem bounds_u64 {n:Int}(h:(Lit.int .u64 n).wf=true) :0≤n∧n≤18446744073709551615:=by
 simp [Lit.wf,IntKind.min,IntKind.max,IntKind.signed,IntKind.bits] at h;omega
theorem aA {c:Nat→Int}(hf:AQ c)(h:RU c=0) :Good c:=by
 rcases Oc c with ⟨_,hb⟩ | ⟨k,_,_,_,e⟩
 ·have h0:=VE (hb 0 Zm);have h7:=VE (hb 7 Zm);have h9:decide (c 9≤bz)=true:=hb 9 Zm;have TQ:=VE (hb 10 Zm);have UP:decide (c 10 < c 11∧c 11≤1048576)=true:=hb 11 Zm;have kL:=VE (hb 13 Zm);have h14:=VE (hb 14 Zm);have kM:=VE (hb 15 Zm);have oY:decide (0≤c 16∧c 16 < c 14∧c 16 < c 15)=true:=hb 16 Zm;have f9:(Lit.int .u64 (c 9)).wf=true:=hf 9 Zm;simp at h9 UP oY;unfold bz at h7 h9;exact ⟨h0.1,h0.2,oY.1,oY.2.1,oY.2.2,h14.2,kM.2,h7.1,h7.2,(bounds_u64 f9).1,h9,TQ.1,TQ.2,UP.1,UP.2,kL.1,kL.2⟩
 ·omega
def KL:Nat→Int
 | 0=>16
 | 1=>8
 | 2=>16
 | 3=>64
 | 4=>1024
 | 5=>8
 | 6=>128
 | 7=>32
 | 8=>4
 | 9=>64
 | 10=>2
 | 11=>5
 | 12=>4
 | 13=>4
 | 14=>6
 | 15=>4
 | 16=>2
 | 17=>2
 | 18=>1
 | 19=>4
 | _=>0
theorem RZ:RU KL=0:=by decide+kernel
theorem WK:AQ KL:=by
 intro k hk;have:k=0∨k=1∨k=2∨k=3∨k=4∨k=5∨k=6∨k=7∨k=8∨k=9∨k=10∨k=11∨k=12∨k=13∨k=14∨k=15∨k=16∨k=17∨k=18∨k=19:=by omega
 rcases this with h | h | h | h | h | h | h | h | h | h | h | h | h | h | h | h | h | h | h | h <;> subst h <;> decide
theorem j1 (c:Nat→Int) :(Zk c).all (·.oneCell')=true:=by kernel_rfl
theorem I6 (w:Zc) :Zj Zb 35 #[] w fun e w'=>e= .returned (.agg (Zk KL))∧Zs w.heap.size w w':=by
 go_enter Tryz.func35,Tryz.ntmps35;go_wp2_with (first | (refine Kb rfl 24 _ rfl Ye ?_; rw [show (Tryz.prog.built 24 _).getD #[]=Zk KL from by kernel_rfl]) | (refine Zo rfl _ _ _ rfl w.heap.size (Zk KL) rfl rfl 24 _ (ZG w _) XG rfl (j1 _) ?_; rw [Zu]));exact bodyPost_ret (v:= .agg (Zk KL)) (results_cell_row (fn:=Tryz.f35) rfl _ _ w.heap.size 24 (Zk KL) (0,0) _ rfl (ZG w _) ZC rfl XG) rfl ⟨rfl,(Zp _ _).alloc (Zg _) _⟩
theorem gg (c:Nat→Int)(hg:Good c)(w:Zc) :
  Zj Zb 330 #[.agg (Zk c)] w fun e w'=>e= .returned (.int .i64 (c 14 - c 16))∧Zs w.heap.size w w':=by
 have g2:=hg.part;have g3:=hg.vis0;have g5:=hg.vis1;unfold Zk;go_enter Tryz.func330,Tryz.ntmps330;exact zR
theorem CL (c:Nat→Int)(hg:Good c)(w:Zc) :
  Zj Zb 331 #[.agg (Zk c)] w fun e w'=>e= .returned (.int .i64 (c 15 - c 16))∧Zs w.heap.size w w':=by
 have g2:=hg.part;have g4:=hg.pay0;have g6:=hg.pay1;unfold Zk;go_enter Tryz.func331,Tryz.ntmps331;exact zR
def UC (c:Nat→Int) :Int:=min (c 14 - c 16) (c 15 - c 16)
def Ft (c:Nat→Int) :Int:=(c 0 - 1)/UC c+1
theorem Pe {c:Nat→Int}(hg:Good c) :1≤UC c∧UC c≤4096:=by
 have g2:=hg.part;have g3:=hg.vis0;have g4:=hg.pay0;have g5:=hg.vis1;have g6:=hg.pay1;unfold UC; omega
theorem iS {c:Nat→Int}(hg:Good c) :0≤(c 0 - 1)/UC c∧(c 0 - 1)/UC c≤4095:=by
 have h:=Pe hg;have g0:=hg.cap0;have g1:=hg.cap1;exact zl
theorem WE {c:Nat→Int}(hg:Good c) :1≤Ft c∧Ft c≤4096:=by
 have:=iS hg; unfold Ft; omega
theorem iI (c:Nat→Int) :(Tryz.prog.info? 24).map (·.size)=some (Zk c).size:=XG
theorem PR (c:Nat→Int)(hg:Good c)(w:Zc) :
  Zj Zb 324 #[.agg (Zk c)] w fun e w'=>e= .returned (.int .i64 (Ft c))∧Zs w.heap.size w w':=by
 have V:=Za (gg c hg);have Y:=Za (CL c hg);have K0:VL w.heap.size w.heap.size 24 (Zk c) w (w.alloc (.cells (Zk c) 24)):=VL.new (Zp _ _) (Zg _);have hp:=Pe hg;have hq:=iS hg;have hd:decide (UC c < 1)=false:=by simp; omega
 have Ol:decide (c 0 < 1)=false:=by have:=hg.cap0; simp; omega
 have hz:(UC c==0)=false:=by simp; omega
 have g0:=hg.cap0;have g1:=hg.cap1;have HB:=Za (show Ft c=(c 0 - 1)/UC c+1 from rfl);clear hg;unfold Zk;go_enter Tryz.func324,Tryz.ntmps324;go_wp2_with (fail);refine XB (VL w.heap.size w.heap.size 24 (Zk c) w) Ye Ye K0.drew ?_;refine Jw 24 (.tmp 1) w.heap.size 24 (Zk c) _ rfl rfl rfl (fun _ h=>h.1) ZC rfl (iI c) ?_;refine SO (.int .i64 (c 14 - c 16)) #[.agg (Zk c)] rfl Ye Tryz.call330 (fun _ h=>h.call (V.out _)) ?_;refine Jw 24 (.tmp 1) w.heap.size 24 (Zk c) _ rfl rfl rfl (fun _ h=>h.1) ZC rfl (iI c) ?_;refine SO (.int .i64 (c 15 - c 16)) #[.agg (Zk c)] rfl Ye Tryz.call331 (fun _ h=>h.call (Y.out _)) ?_;refine Gm (.int .i64 (UC c)) rfl (fun _=>by go_simp; rfl) ?_;refine Gm (.int .i64 (UC c)) rfl (fun _=>by go_simp) ?_;refine Qc ?_;intro w1 hk;have Om:w1.cell? ⟨w.heap.size,0,none⟩=some (.int .i64 (c 0)):=hk.1.cell 0;have O0:=hk.2.1;clear hk K0;go_wp2_with (fail);go_ret;exact ⟨ret_int HB.out.symm,O0⟩
theorem R7 (n L:Int)(w:Zc)(h2:0≤n)(hn:n≤9223372036854775807)(h3:1≤L) :
  Zj Zb 155 #[.int .i64 n,.int .i64 L] w fun e w'=>e= .returned (.int .i64 (n/L))∧w=w':=by
 have hd:decide (n < 0)=false:=by simpa using h2
 have vc:decide (L < 1)=false:=by simpa using h3
 have hz:(L==0)=false:=by simp; omega
 have q0:0≤n/L:=Int.ediv_nonneg Zm Zm;have q1:n/L≤n:=Int.ediv_le_self _ Zm;go_enter Tryz.func155,Tryz.ntmps155;exact UI
def BS (c:Nat→Int) :Int:=(Ft c - 1)/c 13
theorem Az {c:Nat→Int}(hg:Good c) :0≤BS c∧BS c≤4095:=by
 have h:=WE hg;have h1:=hg.len0;unfold BS;exact zl
theorem C9 (c:Nat→Int)(hg:Good c)(w:Zc) :
  Zj Zb 308 #[.agg (Zk c)] w fun e w'=>e= .returned (.int .i64 (BS c))∧Zs w.heap.size w w':=by
 have HB:=Za (PR c hg);have hb:=WE hg;have HE:=Za (fun w=>R7 (Ft c - 1) (c 13) w Zm Zm hg.len0);have HS:=Za (show BS c=(Ft c - 1)/c 13 from rfl);have K0:Hid (VL w.heap.size w.heap.size 24 (Zk c) w (w.alloc (.cells (Zk c) 24))):=Za (VL.new (Zp _ _) (Zg _));clear hg;generalize Ft c=B at*;go_enter Tryz.func308,Tryz.ntmps308;go_wp2_with (first | (refine Zn rfl 24 _ rfl w.heap.size rfl 24 _ (0,0) _ K0.out.1 ZC rfl XG ?_));refine (VL.call K0.out (HB.out _)).mono ?_;rintro e w1 ⟨rfl,K1⟩;have Om:w1.cell? ⟨w.heap.size,13,none⟩=some (.int .i64 (c 13)):=K1.1.cell 13;have O0:=Za K1.2.1;clear K1 K0 HB;go_wp2_with (fail);refine (HE.out _).mono ?_;rintro e w2 ⟨rfl,rfl⟩;go_wp2_with (fail);go_ret;exact ⟨ret_int HS.out.symm,O0.out⟩
end
section
open Go Go.RowKit
def wl (om:Int→Int)(I:List Int)(k:Nat) :List Int:=(List.range I.length).map fun i=>if i < k then om (I.getD i 0) else 0
section
variable {om:Int→Int} {I:List Int}
theorem rD (k:Nat) :(wl om I k).length=I.length:=by simp [wl]
theorem xA:wl om I 0=Zy I.length 0:=by
 refine KC (by simp [wl]) fun i h1 h2=>?_
 simp [wl]
theorem Zcn:wl om I I.length=I.map om:=by
 refine KC (by simp [wl]) fun i h1 h2=>?_
 simp [wl] at h1 ⊢;simp [h1]
theorem Zco {k:Nat}(hk:k < I.length) :(wl om I k).set k (om (I.getD k 0))=wl om I (k+1):=by
 refine KC (by simp [wl]) fun i h1 h2=>?_
 rw [List.getElem_set];simp only [wl,List.getElem_map,List.getElem_range]
 by_cases h:k=i
 ·subst h; simp
 ·rw [if_neg h]
  by_cases h3:i < k
  ·rw [if_pos h3,if_pos Zm]
  ·rw [if_neg h3,if_neg Zm]
theorem IL (h: ∀i,0≤om i∧om i≤18446744073709551615) : ∀j,0≤(I.map om).getD j 0∧(I.map om).getD j 0≤18446744073709551615:=fun j=>by
 rw [Zq,ZP]
 cases I[j]? with
 | none=>exact ⟨Int.le_refl 0,show (0:Int)≤18446744073709551615 by decide⟩
 | some x=>exact h x
end
theorem XC {w:Zc}{base n size:Nat}{e:ZN}{v:Zl}{xs:List Zl}(h:w.ownsRow base e size v n xs) : ∃a cp,v= .slice a n cp:=by
 exact rN
def di (w:Zc)(om:Int→Int)(I:List Int)(e:Ending)(w':Zc) :Prop:=
 e= .returned (.tuple #[.int .u64 (Hl (I.map om) I.length),.bool (BW (I.map om) I.length)])∧Zs w.heap.size w w'
section
variable {w:Zc} {S S2:Nat→Prop} {a ia:Option Addr} {L I:List Int} {cap ic:Nat}
theorem cM (hu:NY w S a L)(hL:L.length≤9223372036854775807)(hA:LZ L)(hi:JU w S2 ia I)(hn:I.length≤100000) :
  Zj Zb 237 #[.slice a L.length cap,.slice ia I.length ic] w (di w (KM L) I):=by
 obtain ⟨n,hn'⟩ : ∃n,I.length=n:=⟨_,rfl⟩;have Dw:=fun w=>Fb n Zm w
 have HB:Hid (Fk (w.alloc (.cells (Ue (Zy n 0)) 22)) w.heap.size (wl (KM L) I 0)):=Za (by rw [xA,hn']; exact Zv _ _ _);have HW:Hid (Zs w.heap.size w (w.alloc (.cells (Ue (Zy n 0)) 22))):=Za ((Zp _ _).alloc (Zg _) _);have HU:=Za hu;have HL:=Za hL;have HA:=Za hA;have HI:=Za hi;have HN:=Za hn';rw [hn'] at hn ⊢;clear hu hL hA hi hn';go_enter Tryz.func237,Tryz.ntmps237;go_wp2;clear Dw;generalize hz:w.heap.size=z at*;have HZ:=Za hz;clear hz;go_loopw [14] (fun s14 wr=> ∃k:Nat,k≤n∧s14= .int .i64 k∧Hid (Fk wr z (wl (KM L) I k))∧Hid (Zs z w wr)) (fun s14 _=>n -(intOf s14).toNat)
 case atStart=>exact ⟨0,by omega,rfl,HB,HW⟩
 case round=>
  obtain ⟨k,hk,rfl,sG,HWK⟩:=hrel;clear HB HW
  by_cases XP:k < n
  ·obtain ⟨b,off,rfl,_,hb,hc⟩:=HI.out Im;have GS:wr.cell? ⟨b,off+k,none⟩=some (.int .i64 (I.getD k 0)):=(HWK.out.cell (p:=⟨b,off+k,none⟩) (by rw [←HZ.out]; exact hb)).trans (hc k Rh);have hf:=sG.out.frozen k;have hcz:=sG.out.cell (i:=k) (by rw [rD,HN.out]; exact XP);have UJ:Hid (Fk (wr.setCell ⟨z,k,none⟩ (.int .u64 (KM L (I.getD k 0)))) z (wl (KM L) I (k+1))):=Za (by
    have:=sG.out.set k (KM L (I.getD k 0));rwa [Zco Rh] at this)
   have HW2:Hid (Zs z w (wr.setCell ⟨z,k,none⟩ (.int .u64 (KM L (I.getD k 0))))):=Za (HWK.out.setCell (Zg _) _);have HUW:Hid (Zj Zb 277 #[.slice a L.length cap,.int .i64 (I.getD k 0)] wr fun e w'=>e= .returned (.int .u64 (KM L (I.getD k 0)))∧wr=w'):=Za (Tx cap _ wr (HU.out.below (by rw [HZ.out]; exact HWK.out)) HL.out);generalize I.getD k 0=x at*;generalize KM L x=y at*;generalize (wl (KM L) I k).getD k 0=u at*;clear hc hb sG HWK;go_wp2_with fail;refine HUW.out.mono ?_;rintro e w' ⟨rfl,rfl⟩;clear HUW;go_wp2;go_roundw
   case rel=>exact ⟨k+1,by omega,by go_num,UJ,HW2⟩
   case measure=>exact Bl
  ·obtain rfl:k=n:=by omega
   clear XP;have XP: ¬k < k:=by omega
   have HAd:=Za (M7 z 0 k k (I.map (KM L)) wr Zm (fun i hi=>by
    rw [ZX];have:=sG.out.cell (i:=i) (by rw [rD,HN.out]; exact hi);rw [←Zcn,HN.out]; exact this) (IL (fun i=>NO HA.out i)))
   clear sG;go_wp2_with fail;refine HAd.out.mono ?_;rintro e w' ⟨rfl,rfl⟩;clear HAd;go_wp2;go_ret2;exact ⟨by rw [HN.out]; rfl,by rw [HZ.out]; exact HWK.out⟩
end
end
section
open Go Go.RowKit
def PV (w:Zc)(h:Nat)(lim:Int)(p:Nat × Int) :Prop:=
 Blk w h 22 #[.int .u64 lim]∧Blk w (h+1) 3 #[.int .i64 (p.1:Int)]∧Blk w (h+2) 22 #[.int .u64 p.2]
def Na (h:Nat) :Zl:= .func (.func 294) #[] #[.pointer (some ⟨h+2,0,none⟩),.pointer (some ⟨h+1,0,none⟩),.pointer (some ⟨h,0,none⟩)]
theorem og (W:Zc)(v:Zl)(t:ZN) : ∀j u,[v][j]?=some u→(W.alloc (.cells #[v] t)).cell? ((⟨W.heap.size,0,none⟩ :Addr).add j)=some u:=by
 intro j u hj
 match j,hj with
 | 0,hj=>
  simp at hj;subst hj;rw [add_plain];exact (Zv W t #[v]).cell 0
def BU (x:Int) :Prop:=0≤x∧x≤18446744073709551615
section
variable {w w':Zc} {h:Nat} {k:Nat} {lim s x:Int} {p:Nat × Int} {S:Nat→Prop} {a:Option Addr} {L:List Int}
theorem PV.kept (hb:PV w h lim p)(hk:Kept S w w')(hS: ∀i,h≤i→i≤h+2→ ¬S i) :PV w' h lim p:=
 ⟨hb.1.kept hk (hS _ Zm Zm),hb.2.1.kept hk (hS _ Zm Zm),hb.2.2.kept hk (hS _ Zm Zm)⟩
theorem PV.lt (hb:PV w h lim p) :h+2 < w.heap.size:=hb.2.2.lt
theorem RM (lim:Int)(w:Zc) :
  Zj Zb 259 #[.int .u64 lim] w fun e w'=>e= .returned (Na w.heap.size)∧PV w' w.heap.size lim (0,0)∧Zs w.heap.size w w'∧w'.heap.size=w.heap.size+3:=by
 have Ix: ∀(fn:Fn) (first cap:Array Zl) (w:Zc),(Jm fn first cap).run Zb w= .ok (.func fn first cap) w:=fun _ _ _ _=>rfl
 have c1:((w.alloc (.cells #[.int .u64 lim] 22)).alloc (.cells #[.int .i64 0] 3)).cell? ⟨w.heap.size+1,0,none⟩=some (.int .i64 0):=by
  have:=(Zv (w.alloc (.cells #[.int .u64 lim] 22)) 3 #[.int .i64 0]).cell 0;rwa [Q5] at this
 go_enter Tryz.func259,Tryz.ntmps259;go_wp2;go_ret;have b1:=Zv (w.alloc (.cells #[.int .u64 lim] 22)) 3 #[.int .i64 0];rw [Q5] at b1;have b2:=Zv ((w.alloc (.cells #[.int .u64 lim] 22)).alloc (.cells #[.int .i64 0] 3)) 22 #[.int .u64 0];rw [Q5,Q5] at b2;exact ⟨rfl,⟨((Zv w _ _).alloc _).alloc _,b1.alloc _,b2⟩,(((Zp _ w).alloc (Zg _) _).alloc ZI _).alloc zB13_2 _,by simp⟩
theorem P0 (s x:Int)(w:Zc)(hs:BU s)(hx:BU x) :
  Zj Zb 23 #[.slice (some ⟨w.heap.size,0,none⟩) 2 2] (w.alloc (.cells #[.int .u64 s,.int .u64 x] 22)) fun e w'=>e= .returned (.tuple #[.int .u64 (if s+x≤18446744073709551615 then s+x else 0),.bool (decide (s+x≤18446744073709551615))])∧w.alloc (.cells #[.int .u64 s,.int .u64 x] 22)=w':=by
 have b:=Zv w 22 #[.int .u64 s,.int .u64 x];have h:=M7 w.heap.size 0 2 2 [s,x] (w.alloc (.cells #[.int .u64 s,.int .u64 x] 22)) Zm (fun i hi=>by
  rcases i with _ | _ | i
  ·exact b.cell 0
  ·exact b.cell 1
  ·omega) (fun i=>by
  rcases i with _ | _ | i
  ·exact hs
  ·exact hx
  ·exact ⟨Int.le_refl 0,show (0:Int)≤18446744073709551615 by decide⟩)
 have e:QB [s,x] 2=s+x:=by simp [QB]
 rw [Hl,BW,e] at h;exact h
theorem oc (w:Zc)(hb:PV w h lim (0,s))(hs:BU s)(hx:BU x)(hl:BU lim) :
  Zj Zb 294 #[.int .u64 x,.pointer (some ⟨h+2,0,none⟩),.pointer (some ⟨h+1,0,none⟩),.pointer (some ⟨h,0,none⟩)] w fun e w'=>
   e= .returned (.int .i64 ((VD lim (0,s) x).1:Int))∧PV w' h lim (VD lim (0,s) x)∧Kept (fun i=>i=h+1∨i=h+2) w w':=by
 have HA:=P0 s x w hs hx;have HE:=Za (RO lim s x);generalize (if s+x≤18446744073709551615 then s+x else 0)=q at HA;generalize decide (s+x≤18446744073709551615)=ok at HA;have mG:=Za HA;have B:=Za hb;have X:=Za hx;have S:=Za hs;have c0:(w.alloc (.cells #[.int .u64 s,.int .u64 x] 22)).cell? ⟨h,0,none⟩=some (.int .u64 lim):=(hb.1.alloc _).cell 0;have c1:(w.alloc (.cells #[.int .u64 s,.int .u64 x] 22)).cell? ⟨h+1,0,none⟩=some (.int .i64 0):=(hb.2.1.alloc _).cell 0;have c2:w.cell? ⟨h+2,0,none⟩=some (.int .u64 s):=hb.2.2.cell 0;have c2':(w.alloc (.cells #[.int .u64 s,.int .u64 x] 22)).cell? ⟨h+2,0,none⟩=some (.int .u64 s):=(hb.2.2.alloc _).cell 0;have f1:(w.alloc (.cells #[.int .u64 s,.int .u64 x] 22)).frozen? ⟨h+1,0,none⟩=false:=(hb.2.1.alloc _).frozen 0;have f2:(w.alloc (.cells #[.int .u64 s,.int .u64 x] 22)).frozen? ⟨h+2,0,none⟩=false:=(hb.2.2.alloc _).frozen 0;clear HA hb hs hx;go_enter Tryz.func294,Tryz.ntmps294;go_wp2_with fail;refine mG.out.mono ?_;rintro e w' ⟨rfl,rfl⟩;clear mG;go_wp2;go_ret;rw [HE.out];refine ⟨rfl,⟨?_,?_,?_⟩,?_⟩
 ·exact ((B.out.1.alloc _).far (show h≠h+1 by omega) _).far (show h≠h+2 by omega) _
 ·exact ((B.out.2.1.alloc _).set_ 0 _).far (show h+1≠h+2 by omega) _
 ·exact ((B.out.2.2.alloc _).far (show h+2≠h+1 by omega) _).set_ 0 _
 ·exact (((ZH _ w).alloc _).setCell (.inl (.inl rfl)) _).setCell (.inl (.inr rfl)) _
theorem oa (w:Zc)(hb:PV w h lim (k+1,s))(hs:BU s)(hx:BU x)(hl:BU lim)(hk:k≤1000000000)(ho: ¬s+x≤18446744073709551615) :
  Zj Zb 294 #[.int .u64 x,.pointer (some ⟨h+2,0,none⟩),.pointer (some ⟨h+1,0,none⟩),.pointer (some ⟨h,0,none⟩)] w fun e w'=>
   e= .returned (.int .i64 ((VD lim (k+1,s) x).1:Int))∧PV w' h lim (VD lim (k+1,s) x)∧Kept (fun i=>i=h+1∨i=h+2) w w':=by
 have HA:=P0 s x w hs hx;have hgt:lim < s+x:=by unfold BU at*; omega
 have HE:=Za (RN (k:=k) hgt);rw [if_neg ho,decide_eq_false ho] at HA;have HK:Hid (k≤1000000000):=Za hk;have aL: ¬((k:Int)+1=0):=by omega
 clear hgt;exact zT8
theorem Zas (w:Zc)(hb:PV w h lim (k+1,s))(hs:BU s)(hx:BU x)(hl:BU lim)(hk:k≤1000000000)(ho:s+x≤18446744073709551615)(hgt:lim < s+x) :
  Zj Zb 294 #[.int .u64 x,.pointer (some ⟨h+2,0,none⟩),.pointer (some ⟨h+1,0,none⟩),.pointer (some ⟨h,0,none⟩)] w fun e w'=>
   e= .returned (.int .i64 ((VD lim (k+1,s) x).1:Int))∧PV w' h lim (VD lim (k+1,s) x)∧Kept (fun i=>i=h+1∨i=h+2) w w':=by
 have HA:=P0 s x w hs hx;have HE:=Za (RN (k:=k) hgt);rw [if_pos ho,decide_eq_true ho] at HA;generalize hq:s+x=q at*;have aL: ¬((k:Int)+1=0):=by omega
 have HQ:=Za hq;clear hq;exact zT8
theorem uz (w:Zc)(hb:PV w h lim (k+1,s))(hs:BU s)(hx:BU x)(hl:BU lim)(hk:k≤1000000000)(ho:s+x≤18446744073709551615)(hle: ¬lim < s+x) :
  Zj Zb 294 #[.int .u64 x,.pointer (some ⟨h+2,0,none⟩),.pointer (some ⟨h+1,0,none⟩),.pointer (some ⟨h,0,none⟩)] w fun e w'=>
   e= .returned (.int .i64 ((VD lim (k+1,s) x).1:Int))∧PV w' h lim (VD lim (k+1,s) x)∧Kept (fun i=>i=h+1∨i=h+2) w w':=by
 have HA:=P0 s x w hs hx;have HE:=Za (WG (k:=k) hle);rw [if_pos ho,decide_eq_true ho] at HA;generalize hq:s+x=q at*;have aL: ¬((k:Int)+1=0):=by omega
 have P7:((k:Int)+1==0)=false:=by simp; omega
 have hle2:decide (lim < q)=false:=by simp; omega
 have HQ:=Za hq;clear hq;have mG:=Za HA;have B:=Za hb;have X:=Za hx;have S:=Za hs;have c0:(w.alloc (.cells #[.int .u64 s,.int .u64 x] 22)).cell? ⟨h,0,none⟩=some (.int .u64 lim):=(hb.1.alloc _).cell 0;have c1:(w.alloc (.cells #[.int .u64 s,.int .u64 x] 22)).cell? ⟨h+1,0,none⟩=some (.int .i64 ((k:Int)+1)):=(hb.2.1.alloc _).cell 0;have c2:w.cell? ⟨h+2,0,none⟩=some (.int .u64 s):=hb.2.2.cell 0;have c2':(w.alloc (.cells #[.int .u64 s,.int .u64 x] 22)).cell? ⟨h+2,0,none⟩=some (.int .u64 s):=(hb.2.2.alloc _).cell 0;have f1:(w.alloc (.cells #[.int .u64 s,.int .u64 x] 22)).frozen? ⟨h+1,0,none⟩=false:=(hb.2.1.alloc _).frozen 0;have f2:(w.alloc (.cells #[.int .u64 s,.int .u64 x] 22)).frozen? ⟨h+2,0,none⟩=false:=(hb.2.2.alloc _).frozen 0;clear HA hb hs hx;go_enter Tryz.func294,Tryz.ntmps294;go_wp2_with fail;refine mG.out.mono ?_;rintro e w' ⟨rfl,rfl⟩;clear mG;go_wp2;go_ret;rw [HE.out];refine ⟨rfl,⟨?_,?_,?_⟩,?_⟩
 ·exact (B.out.1.alloc _).far (show h≠h+2 by omega) _
 ·exact (B.out.2.1.alloc _).far (show h+1≠h+2 by omega) _
 ·exact (B.out.2.2.alloc _).set_ 0 _
 ·exact ((ZH _ w).alloc _).setCell (.inl (.inr rfl)) _
theorem uw (w:Zc)(hb:PV w h lim p)(hs:BU p.2)(hx:BU x)(hl:BU lim)(hk:p.1≤1000000000) :
  Zj Zb 294 #[.int .u64 x,.pointer (some ⟨h+2,0,none⟩),.pointer (some ⟨h+1,0,none⟩),.pointer (some ⟨h,0,none⟩)] w fun e w'=>
   e= .returned (.int .i64 ((VD lim p x).1:Int))∧PV w' h lim (VD lim p x)∧Kept (fun i=>i=h+1∨i=h+2) w w':=by
 obtain ⟨k,s⟩:=p
 cases k with
 | zero=>exact oc w hb hs hx hl
 | succ k=>
  by_cases ho:s+x≤18446744073709551615
  ·by_cases hgt:lim < s+x
   ·exact Zas w hb hs hx hl (by simp at hk; omega) ho hgt
   ·exact uz w hb hs hx hl (by simp at hk; omega) ho hgt
  ·exact oa w hb hs hx hl (by simp at hk; omega) ho
end
end
end Go.Proofs.YtianiiijaopdpaaGreat
